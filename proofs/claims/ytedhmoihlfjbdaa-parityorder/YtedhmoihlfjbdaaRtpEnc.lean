/-
  The document's examples of layer 3: the parsers, and wire.Each over single bytes.
-/
import Derived.Test.YtedhmoihlfjbdaaWirePartint
import Derived.Test.YtedhmoihlfjbdaaWireWr
import Derived.Lib.SlBytesConst
namespace Go.Proofs.Ytedhmoihlfjbdaa
open Go.RowKit Go.Shelf
set_option linter.unusedVariables false
theorem took_keep {w w' : World} {R : Nat} (h : w.grownBy w' (some R)) (U : Nat) : Keep2 w w' R (some U) := ⟨h.os, h.tape, h.output, h.size, fun k hk h1 _ => h.block k hk (fun e => h1 (by simpa using e))⟩
theorem fail_keep {w w' : World} {U : Nat} (h : w.grownBy w' (some U)) (R : Nat) : Keep2 w w' R (some U) := ⟨h.os, h.tape, h.output, h.size, fun k hk _ h2 => h.block k hk h2⟩
theorem keep2_trans {a b c : World} {R U : Nat} (h : Keep2 a b R (some U)) (k : Keep2 b c R (some U)) : Keep2 a c R (some U) := h.trans k (fun x e => .inl e)
def isV (v : Value) (u : Value) (_ : World) : Prop := u = v
theorem byte1 (l : List Int) (h : 0 < l.length) : Num (l.take 1) = l.getD 0 0 := by
  cases l with
  | nil => simp at h
  | cons x l => simp [Num]
theorem info_int : (Try.prog.info? 3).map (fun i => (i.zero, i.size, i.bytes)) = some (some (Value.int .i64 0), 1, 8) := by kernel_rfl
/-- append(s, x) of one int. -/
theorem append_int (W : World) (ty : TypeId) (base : Nat) (a : Option Addr) (n c : Nat) (xs : List Value) (h : W.ownsRow base 3 1 (.slice a n c) n xs) (x : Int) (hlim : n + 1 ≤ 1099511627776) (hbase : base ≤ W.heap.size) :
    ∃ a' c' w', (Builtin.append_ #[23, 23] ty #[.slice a n c, .slice (some ⟨W.heap.size, 0, none⟩) 1 1]).run Try.prog (W.alloc (.cells #[.int .i64 x] 3)) = .ok (.slice a' (n + 1) c') w' ∧
      w'.ownsRow base 3 1 (.slice a' (n + 1) c') (n + 1) (xs ++ [.int .i64 x]) ∧ Below base W w' := by
  obtain ⟨i0, hi0, hz0, hz1, hz2⟩ := info_parts info_int
  obtain ⟨v', w', hr, ho, hg, hnil, hat⟩ := run_append_own_at (P := Try.prog) (W.alloc (.cells #[.int .i64 x] 3)) base 23 ty 3 i0 (.int .i64 0) 1 8 Try.underlying23 hi0 hz0 hz1 hz2 rfl (by decide) (.slice a n c) n _ (h.alloc _) ⟨W.heap.size, 0, none⟩ 1 1 [.int .i64 x] rfl (cell_one_new _ _ _) (by simp [Value.oneCell']) (by unfold maxLen; omega) (by omega) (by simp; omega)
  have hv : ∃ a' c', v' = .slice a' (n + 1) c' := by
    rcases ho.2 with ⟨rfl, e⟩ | ⟨g, cap, cur, rfl, _⟩
    · omega
    · exact ⟨_, _, rfl⟩
  obtain ⟨a', c', rfl⟩ := hv
  refine ⟨a', c', w', hr, ho, ((Below.refl _ W).alloc hbase _).grown hg (by simp; omega) (fun k e => ?_)⟩
  exact (h.lt k e).1
/-- A parser of one byte. -/
def ByteParser (g : Nat) : Prop := ∀ (R U : Nat) (a : Option Addr) (n c : Nat) (l : List Int) (w : World), RdAt w R U a n c l → 1 ≤ n → Calls Try.prog g #[.pointer (some ⟨R, 0, none⟩)] w (ParseOk R U (n - 1) (l.drop 1) (isV (.int .i64 (l.getD 0 0))) w)
def EachOk (l : List Int) (w : World) (e : Ending) (w' : World) : Prop := ∃ a c, e = .returned (.tuple #[.slice a l.length c, .int .i64 0]) ∧ w'.ownsRow w.heap.size 3 1 (.slice a l.length c) l.length (l.map (.int .i64)) ∧ Below w.heap.size w w'
def EachMany (w : World) (e : Ending) (w' : World) : Prop := e = .returned (.tuple #[.slice none 0 0, .int .i64 3]) ∧ Below w.heap.size w w'
def EachPost (n most : Nat) (l : List Int) (w : World) (e : Ending) (w' : World) : Prop := if n ≤ most then EachOk l w e w' else EachMany w e w'
theorem restA_blk {a : Option Addr} {c k : Nat} {x : Addr} (h : restA a c k = some x) : ∃ y, a = some y ∧ x.block = y.block := by
  unfold restA at h
  split at h
  · exact ⟨x, h, rfl⟩
  · cases a with
    | none => cases h
    | some y =>
      simp only [Option.map_some, Option.some.injEq] at h
      refine ⟨y, rfl, ?_⟩
      rw [← h]; unfold Addr.add; split <;> rfl
end Go.Proofs.Ytedhmoihlfjbdaa
namespace Go.Proofs.Ytedhmoihlfjbdaa
open Go.RowKit Go.Shelf
set_option linter.unusedVariables false
theorem lit_bat' {W : World} {g : Nat} {l : List Int} {fr : Nat × Nat} (h : W.heap[g]? = some (.cells (l.map (Value.int .u8)).toArray 5 fr)) (hl : Str.Ok l) (hn : l.length ≤ 9223372036854775807) : BAt W (some ⟨g, 0, none⟩) l.length l := by
  refine ⟨rfl, hn, g, 0, fun i hi => ⟨rfl, (Array.getElem?_eq_some_iff.1 h).1, ?_, hl i⟩⟩
  rw [cell_of_row W g _ _ _ _ h]
  simp [List.getD_eq_getElem?_getD, List.getElem?_eq_getElem hi]
def wAlSt (w : World) (W : World) : Prop := BAt W (some ⟨w.heap.size, 0, none⟩) 3 [1, 2, 3] ∧ Below w.heap.size w W
theorem wAlSt.below {w W W' : World} (h : wAlSt w W) (hb : Below W.heap.size W W') : wAlSt w W' := ⟨h.1.below hb, h.2.trans (hb.mono h.2.size)⟩
def IsRet (v : Value) (w : World) (e : Ending) (w' : World) : Prop := e = .returned v ∧ Below w.heap.size w w'
def Each3 (w : World) (e : Ending) (w' : World) : Prop := ∃ g c, e = .returned (.tuple #[.slice (some ⟨g, 0, none⟩) 3 c, .int .i64 0]) ∧ w'.cell? ⟨g, 2, none⟩ = some (.int .i64 3) ∧ g < w'.heap.size ∧ Below w.heap.size w w'
end Go.Proofs.Ytedhmoihlfjbdaa
namespace Go.Proofs.Ytedhmoihlfjbdaa
open Go.RowKit Go.Shelf
set_option linter.unusedVariables false
theorem Big_succ (k : Nat) (x : Int) : Big (k + 1) x = [x / 256 ^ k % 256] ++ Big k x := by
  unfold Big
  rw [List.range_succ_eq_map, List.map_cons, List.map_map]
  simp only [Nat.add_sub_cancel, Nat.sub_zero, List.singleton_append, List.cons.injEq, true_and]
  apply List.map_congr_left
  intro j hj
  have := List.mem_range.1 hj
  simp only [Function.comp]
  congr 3
  omega
theorem Big_ok (k : Nat) (x : Int) : Str.Ok (Big k x) := fun i => by
  by_cases h : i < k
  · have : (Big k x).getD i 0 = x / 256 ^ (k - 1 - i) % 256 := by simp [Big, List.getD_eq_getElem?_getD, h]
    rw [this]; omega
  · rw [getD_out (by rw [Big_len]; omega)]; omega
theorem div_step (x : Int) (hx : 0 ≤ x) (i : Nat) : x / 256 ^ i / 256 = x / 256 ^ (i + 1) := by
  rw [Int.ediv_ediv_of_nonneg (Int.pow_nonneg (by decide)), Int.pow_succ]
theorem own_one (W : World) (base : Nat) (x : Int) (hx : 0 ≤ x ∧ x < 256) (hb : base ≤ W.heap.size) : Own (W.alloc (.cells #[.int .u8 x] 5)) base (some ⟨W.heap.size, 0, none⟩) 1 1 [x] :=
  ⟨⟨rfl, .inr ⟨W.heap.size, 1, #[.int .u8 x], rfl, hb, heap_alloc_new W _, Nat.le_refl _, by unfold maxLen; omega, rfl, rfl⟩⟩, fun i => by cases i with | zero => exact hx | succ i => simp⟩
theorem flat_take (ls : List (List Int)) (k : Nat) (h : k < ls.length) : (ls.take (k + 1)).flatten = (ls.take k).flatten ++ ls.getD k [] := by
  have e : ls.take (k + 1) = ls.take k ++ [ls.getD k []] := by
    rw [List.take_add_one, List.getElem?_eq_getElem h, List.getD_eq_getElem?_getD, List.getElem?_eq_getElem h]; rfl
  rw [e]; simp
end Go.Proofs.Ytedhmoihlfjbdaa
namespace Go.Proofs.Ytedhmoihlfjbdaa
open Go.RowKit Go.Shelf
set_option linter.unusedVariables false
def StAt (W : World) (a : Option Addr) (n : Nat) (ks ns : Nat → Int) : Prop :=
  ∃ b o, ∀ i, i < n → a = some ⟨b, o, none⟩ ∧ b < W.heap.size ∧ W.cell? ⟨b, o + i * 2, none⟩ = some (.int .i64 (ks i)) ∧ W.cell? ⟨b, o + i * 2 + 1, none⟩ = some (.int .i64 (ns i))
theorem StAt.below {W W' : World} {a : Option Addr} {n : Nat} {ks ns : Nat → Int} (h : StAt W a n ks ns) (hb : Below W.heap.size W W') : StAt W' a n ks ns := by
  obtain ⟨b, o, hr⟩ := h
  refine ⟨b, o, fun i hi => ?_⟩
  obtain ⟨h1, h2, h3, h4⟩ := hr i hi
  exact ⟨h1, by have := hb.size; omega, (hb.cell (p := ⟨b, o + i * 2, none⟩) h2).trans h3, (hb.cell (p := ⟨b, o + i * 2 + 1, none⟩) h2).trans h4⟩
def GtAt (W : World) (a : Option Addr) (n : Nat) (xs : Nat → Int) (A : Nat → Option Addr) (L C : Nat → Nat) (bs : Nat → List Int) : Prop :=
  ∃ b o, ∀ i, i < n → a = some ⟨b, o, none⟩ ∧ b < W.heap.size ∧ W.cell? ⟨b, o + i * 2, none⟩ = some (.int .u64 (xs i)) ∧ W.cell? ⟨b, o + i * 2 + 1, none⟩ = some (.slice (A i) (L i) (C i)) ∧ 0 ≤ xs i ∧ xs i < 18446744073709551616 ∧ BAt W (A i) (L i) (bs i)
theorem GtAt.below {W W' : World} {a : Option Addr} {n : Nat} {xs : Nat → Int} {A : Nat → Option Addr} {L C : Nat → Nat} {bs : Nat → List Int} (h : GtAt W a n xs A L C bs) (hb : Below W.heap.size W W') : GtAt W' a n xs A L C bs := by
  obtain ⟨b, o, hr⟩ := h
  refine ⟨b, o, fun i hi => ?_⟩
  obtain ⟨h1, h2, h3, h4, h5, h6, h7⟩ := hr i hi
  exact ⟨h1, by have := hb.size; omega, (hb.cell (p := ⟨b, o + i * 2, none⟩) h2).trans h3, (hb.cell (p := ⟨b, o + i * 2 + 1, none⟩) h2).trans h4, h5, h6, h7.below hb⟩
/-- What one step writes. -/
def wr1 (k x : Int) (b : List Int) : List Int := if k = 1 then Big 1 x else if k = 2 then Big 2 x else if k = 4 then Big 4 x else if k = 8 then Big 8 x else if k = 0 then b else []
def Wr (ks xs : Nat → Int) (bs : Nat → List Int) : Nat → List Int
  | 0 => []
  | i + 1 => Wr ks xs bs i ++ wr1 (ks i) (xs i) (bs i)
theorem wr1_len (k x : Int) (b : List Int) (h : b.length ≤ 200) : (wr1 k x b).length ≤ 200 := by
  unfold wr1
  split; · rw [Big_len]; omega
  split; · rw [Big_len]; omega
  split; · rw [Big_len]; omega
  split; · rw [Big_len]; omega
  split; · exact h
  simp
theorem Big1 (x : Int) : Big 1 x = [x % 256] := by simp [Big]
theorem Big2 (x : Int) : Big 2 x = [x / 256 % 256, x % 256] := by simp [Big, List.range_succ]
theorem Big4 (x : Int) : Big 4 x = [x / 16777216 % 256, x / 65536 % 256, x / 256 % 256, x % 256] := by simp [Big, List.range_succ]
theorem Big1_mod (x : Int) : Big 1 (x % 65536) = Big 1 x := by rw [Big1, Big1]; congr 1; omega
theorem Big2_mod (x : Int) : Big 2 (x % 65536) = Big 2 x := by
  rw [Big2, Big2]; congr 1
  · omega
  · congr 1; omega
theorem Big4_mod (x : Int) : Big 4 (x % 4294967296) = Big 4 x := by
  rw [Big4, Big4]; congr 1
  · omega
  · congr 1
    · omega
    · congr 1
      · omega
      · congr 1; omega
theorem and65535u (n : Int) (h : 0 ≤ n) (h' : n < 18446744073709551616) : bits .and .u64 n 65535 = n % 65536 := by
  have hmn : (BitVec.ofInt 64 (65535 : Int)).toNat = 2 ^ 16 - 1 := by decide
  have key : (BitVec.ofInt 64 n &&& BitVec.ofInt 64 (65535 : Int)).toNat = (n % ((2 ^ 64 : Nat) : Int)).toNat % 2 ^ 16 := by
    rw [BitVec.toNat_and, BitVec.toNat_ofInt, hmn, Nat.and_two_pow_sub_one_eq_mod]
  show IntKind.u64.wrap ((BitVec.ofInt 64 n &&& BitVec.ofInt 64 (65535 : Int)).toNat : Nat) = _
  rw [key]
  have : ∀ n : Int, IntKind.u64.wrap n = n % 18446744073709551616 := fun n => by simp [IntKind.wrap, IntKind.bits, IntKind.signed]
  rw [this]; omega
def WriteSt (w : World) (s : Nat) (l : List Int) (n : Nat) (W : World) : Prop := ∃ a c, WrAt W s w.heap.size a n c l ∧ Below w.heap.size w W
theorem WriteSt.step {w W w' : World} {s n m : Nat} {l l' : List Int} {a : Option Addr} {c : Nat} (hs : w.heap.size ≤ s) (h : WrAt W s w.heap.size a n c l) (hb : Below w.heap.size w W) {e : Ending} (hp : WrPost s w.heap.size m l' W (a.map (·.block)) e w') : e = .returned (.tuple #[]) ∧ WriteSt w s l' m w' := by
  obtain ⟨he, a', c', h1, h2, h3⟩ := hp
  refine ⟨he, a', c', h1, hb.trans (h2.below hs (fun x e => ?_) hb.size)⟩
  cases a with
  | none => cases e
  | some y => have := (h.own.blk y rfl).1; simp at e; omega
def WritePost (l : List Int) (w : World) (e : Ending) (w' : World) : Prop := ∃ s, e = .returned (.pointer (some ⟨s, 0, none⟩)) ∧ w.heap.size ≤ s ∧ WriteSt w s l l.length w'
end Go.Proofs.Ytedhmoihlfjbdaa
namespace Go.Proofs.Ytedhmoihlfjbdaa
open Go.RowKit Go.Shelf
set_option linter.unusedVariables false
/-- What one step that ends well gives: k bytes are read, the number x, the bytes bs. -/
def OnePost (R U : Nat) (a : Option Addr) (n c : Nat) (l : List Int) (k : Nat) (x : Int) (bs : List Int) (w : World) (e : Ending) (w' : World) : Prop :=
  ∃ a' c', e = .returned (.agg #[.int .u64 x, .slice a' bs.length c']) ∧ Own w' w.heap.size a' bs.length c' bs ∧ RdAt w' R U (restA a c k) (n - k) (c - k) (l.drop k) ∧ w.grownBy w' (some R)
/-- What one step that fails gives. -/
def OneFail (U : Nat) (f : Int) (w : World) (e : Ending) (w' : World) : Prop :=
  e = .panicked [{ v := failV U, recovered := false }] ∧ w'.heap[U]? = some (.cells #[.bool false, .int .i64 f] 219 (0, 0)) ∧ w.grownBy w' (some U)
/-- A Reader that has read k bytes, in a world that is else as it was, new blocks aside. -/
theorem RdAt.moved {w w' : World} {R U : Nat} {a : Option Addr} {n c : Nat} {l : List Int} (h : RdAt w R U a n c l) (k : Nat) (hk : k ≤ n) (hg : w.grownBy w' (some R))
    (hrd : w'.heap[R]? = some (.cells #[.slice (restA a c k) (n - k) (c - k), .pointer (some ⟨U, 0, Option.none⟩)] 227 (0, 0))) : RdAt w' R U (restA a c k) (n - k) (c - k) (l.drop k) :=
  ⟨hrd, (hg.block U h.ltU (by simpa using h.ne.symm)).trans h.run, h.ne,
    restA_bat (h.row.same hg.size fun x h0 hx hl => hg.block x.block hl (fun e => (h.far h0 x hx).1 (by simpa using e))) h.cap k hk, by have := h.cap; omega, restA_far h.cap hk h.far⟩
/-- The result's cells, written. -/
def boxW (w : World) (B : Nat) (x : Int) (v : Value) : World := (w.setCell ⟨B, 0, none⟩ (.int .u64 x)).setCell ⟨B, 1, none⟩ v
theorem boxW_grown (w : World) (B : Nat) (x : Int) (v : Value) : w.grownBy (boxW w B x v) (some B) :=
  ⟨rfl, rfl, rfl, by simp [boxW], fun j _ hj => (Below.heap_setCell _ _ _ j (fun e => hj (by rw [e]))).trans (Below.heap_setCell w _ _ j (fun e => hj (by rw [e])))⟩
/-- One step, in numbers: its error (0: none), how many bytes it reads, its number, its bytes. -/
def stepNo (k m : Int) (n : Nat) : Int :=
  if k = 1 ∨ k = 2 ∨ k = 4 ∨ k = 8 then (if (n : Int) < k then 20 else 0) else if k = 0 then (if (n : Int) < m then 20 else 0) else if k = -2 then failOf m else 0
def stepK (k m : Int) (n : Nat) : Nat :=
  if k = 1 ∨ k = 2 ∨ k = 4 ∨ k = 8 then k.toNat else if k = 0 then m.toNat else if k = -1 then n else 0
def stepX (k : Int) (l : List Int) : Int :=
  if k = 1 ∨ k = 2 ∨ k = 4 ∨ k = 8 then Num (l.take k.toNat) else if k = 0 ∨ k = -1 then 0 else l.length
def stepB (k m : Int) (l : List Int) : List Int :=
  if k = 0 ∨ k = -1 then l.take (stepK k m l.length) else []
end Go.Proofs.Ytedhmoihlfjbdaa
namespace Go.Proofs.Ytedhmoihlfjbdaa
open Go.RowKit Go.Shelf
set_option linter.unusedVariables false
def gcells (xs : Nat → Int) (A : Nat → Option Addr) (bs : Nat → List Int) (C : Nat → Nat) : Nat → List Value
  | 0 => []
  | i + 1 => gcells xs A bs C i ++ [.int .u64 (xs i), .slice (A i) (bs i).length (C i)]
theorem gcells_len (xs : Nat → Int) (A : Nat → Option Addr) (bs : Nat → List Int) (C : Nat → Nat) : ∀ i, (gcells xs A bs C i).length = i * 2
  | 0 => rfl
  | i + 1 => by simp [gcells, gcells_len xs A bs C i]; omega
theorem gcells_congr {xs : Nat → Int} {A A' : Nat → Option Addr} {bs : Nat → List Int} {C C' : Nat → Nat} : ∀ i, (∀ j, j < i → A' j = A j ∧ C' j = C j) → gcells xs A' bs C' i = gcells xs A bs C i
  | 0, _ => rfl
  | i + 1, h => by
    obtain ⟨h1, h2⟩ := h i (by omega)
    simp only [gcells]
    rw [gcells_congr i (fun j hj => h j (by omega)), h1, h2]
theorem gcells_at (xs : Nat → Int) (A : Nat → Option Addr) (bs : Nat → List Int) (C : Nat → Nat) : ∀ i j, j < i → (gcells xs A bs C i)[j * 2]? = some (.int .u64 (xs j)) ∧ (gcells xs A bs C i)[j * 2 + 1]? = some (.slice (A j) (bs j).length (C j))
  | 0, j, h => by omega
  | i + 1, j, h => by
    have hl := gcells_len xs A bs C i
    by_cases e : j = i
    · subst e
      simp only [gcells]
      rw [List.getElem?_append_right (by omega), List.getElem?_append_right (by omega), hl, Nat.sub_self, show j * 2 + 1 - j * 2 = 1 from by omega]
      exact ⟨rfl, rfl⟩
    · simp only [gcells]
      rw [List.getElem?_append_left (by omega), List.getElem?_append_left (by omega)]
      exact gcells_at xs A bs C i j (by omega)
theorem Own.kept {W W' : World} {base : Nat} {a : Option Addr} {n c : Nat} {l : List Int} {r : Option Nat} (h : Own W base a n c l) (hg : W.grownBy W' r) (hr : ∀ y, a = some y → r ≠ some y.block) : Own W' base a n c l :=
  ⟨h.row.kept hg (by
    cases a with
    | none => exact .inl rfl
    | some y => exact .inr (by
        have := hr y rfl
        simpa [Value.ownBlock] using fun e => this e.symm)), h.ok⟩
end Go.Proofs.Ytedhmoihlfjbdaa
namespace Go.Proofs.Ytedhmoihlfjbdaa
open Go.RowKit Go.Shelf
set_option linter.unusedVariables false
structure Pk where
  marker : Bool
  pt : Int
  seq : Int
  ts : Int
  ssrc : Int
  csrc : List Int
  hasExt : Bool
  profile : Int
  ext : List Int
  payload : List Int
  pad : List Int
/-- Where a packet's slices lie. -/
structure Pl where
  ac : Option Addr
  nc : Nat
  cc : Nat
  ae : Option Addr
  ne : Nat
  ce : Nat
  ap : Option Addr
  np : Nat
  cp : Nat
  ad : Option Addr
  nd : Nat
  cd : Nat
def pkc (p : Pk) (s : Pl) : Array Value := #[.bool p.marker, .int .i64 p.pt, .int .u16 p.seq, .int .u32 p.ts, .int .u32 p.ssrc, .slice s.ac s.nc s.cc, .bool p.hasExt, .int .u16 p.profile, .slice s.ae s.ne s.ce, .slice s.ap s.np s.cp, .slice s.ad s.nd s.cd]
/-- Numbers of four bytes in memory. -/
def LgAt (W : World) (a : Option Addr) (n : Nat) (l : List Int) : Prop :=
  l.length = n ∧ ∃ b o, ∀ i, i < n → a = some ⟨b, o, none⟩ ∧ b < W.heap.size ∧ W.cell? ⟨b, o + i, none⟩ = some (.int .u32 (l.getD i 0)) ∧ 0 ≤ l.getD i 0 ∧ l.getD i 0 < 4294967296
theorem LgAt.below {W W' : World} {a : Option Addr} {n : Nat} {l : List Int} (h : LgAt W a n l) (hb : Below W.heap.size W W') : LgAt W' a n l := by
  obtain ⟨hl, b, o, hr⟩ := h
  refine ⟨hl, b, o, fun i hi => ?_⟩
  obtain ⟨h1, h2, h3, h4⟩ := hr i hi
  exact ⟨h1, by have := hb.size; omega, (hb.cell (p := ⟨b, o + i, none⟩) h2).trans h3, h4⟩
structure PkAt (W : World) (p : Pk) (s : Pl) : Prop where
  csrc : LgAt W s.ac s.nc p.csrc
  ext : BAt W s.ae s.ne p.ext
  pay : BAt W s.ap s.np p.payload
  pad : BAt W s.ad s.nd p.pad
  seq : 0 ≤ p.seq ∧ p.seq < 65536
  ts : 0 ≤ p.ts ∧ p.ts < 4294967296
  ssrc : 0 ≤ p.ssrc ∧ p.ssrc < 4294967296
  prof : 0 ≤ p.profile ∧ p.profile < 65536
theorem PkAt.below {W W' : World} {p : Pk} {s : Pl} (h : PkAt W p s) (hb : Below W.heap.size W W') : PkAt W' p s :=
  ⟨h.csrc.below hb, h.ext.below hb, h.pay.below hb, h.pad.below hb, h.seq, h.ts, h.ssrc, h.prof⟩
/-- Few bytes and numbers (more than any packet of the laws has). -/
def Sm (s : Pl) : Prop := s.nc ≤ 100000 ∧ s.ne ≤ 100000 ∧ s.np ≤ 100000 ∧ s.nd ≤ 100000
def sz (p : Pk) (s : Pl) : Nat := 12 + 4 * s.nc + s.np + s.nd + (if p.hasExt then 4 + s.ne else 0)
def ValB (v : Value) (w : World) (e : Ending) (w' : World) : Prop := e = .returned v ∧ Below w.heap.size w w'
set_option maxHeartbeats 2000000 in
set_option maxRecDepth 100000 in
theorem rsize_any (p : Pk) (s : Pl) (w : World) (hs : Sm s) : Calls Try.prog 38 #[.agg (pkc p s)] w (ValB (.int .i64 (sz p s : Nat)) w) := by
  obtain ⟨m, pt, sq, ts, ss, cs, h, pr, ex, py, pd⟩ := p
  obtain ⟨ac, nc, cc, ae, ne, ce, ap, np, cp, ad, nd, cd⟩ := s
  obtain ⟨h1, h2, h3, h4⟩ := hs
  simp only [pkc] at *
  have e : ((sz ⟨m, pt, sq, ts, ss, cs, h, pr, ex, py, pd⟩ ⟨ac, nc, cc, ae, ne, ce, ap, np, cp, ad, nd, cd⟩ : Nat) : Int) = 12 + 4 * nc + np + nd + (if h then 4 + (ne : Int) else 0) := by
    unfold sz; cases h <;> simp <;> omega
  rw [e]
  clear e
  cases h <;> simp only [if_true, Bool.false_eq_true, if_false, Int.add_zero]
  all_goals
    go_enter Try.func38, Try.ntmps38
    go_wp2
    go_ret
    refine ⟨?_, (Below.refl _ w).alloc (Nat.le_refl _) _⟩
    first | rfl | exact congrArg (fun z => Ending.returned (.int .i64 z)) (show 12 + 4 * (nc : Int) + np + nd + 4 + ne = 12 + 4 * (nc : Int) + np + nd + (4 + ne) by omega)
def few (s : Pl) : Bool := decide (s.nc ≤ 30) && (decide (s.ne ≤ 2000) && (decide (s.np ≤ 2000) && decide (s.nd ≤ 400)))
/-- The padding keeps its rule: none, or its last byte is its length. -/
def vpad (l : List Int) (n : Nat) : Bool := decide (n = 0) || decide (l.getD (n - 1) 0 = n)
/-- The extension keeps its rule. -/
def vext (p : Pk) (s : Pl) : Bool := if p.hasExt then decide (s.ne % 4 = 0) else decide (s.ne = 0) && decide (p.profile = 0)
end Go.Proofs.Ytedhmoihlfjbdaa
namespace Go.Proofs.Ytedhmoihlfjbdaa
open Go.RowKit Go.Shelf
set_option linter.unusedVariables false
/-- A write leaves the bytes l in the Writer s. -/
def Wrote (w0 : World) (s : Nat) (l : List Int) (n : Nat) (e : Ending) (w' : World) : Prop := e = .returned (.tuple #[]) ∧ WriteSt w0 s l n w'
theorem st_byte {w0 W : World} {s n : Nat} {l : List Int} (hs : w0.heap.size ≤ s) (h : WriteSt w0 s l n W) (x : Int) (hx : 0 ≤ x) (hx' : x ≤ 9223372036854775807) (hn : n ≤ 100000000) :
    Calls Try.prog 102 #[.pointer (some ⟨s, 0, none⟩), .int .i64 x] W (Wrote w0 s (l ++ Big 1 x) (n + 1)) := by
  obtain ⟨a, c, h1, h2⟩ := h
  exact (wbyte_any s w0.heap.size a n c l x W h1 hx hx' (by omega) h2.size).mono fun e w' hp => WriteSt.step hs h1 h2 hp
theorem st_word {w0 W : World} {s n : Nat} {l : List Int} (hs : w0.heap.size ≤ s) (h : WriteSt w0 s l n W) (x : Int) (hx : 0 ≤ x ∧ x < 65536) (hn : n ≤ 100000000) :
    Calls Try.prog 107 #[.pointer (some ⟨s, 0, none⟩), .int .u16 x] W (Wrote w0 s (l ++ Big 2 x) (n + 2)) := by
  obtain ⟨a, c, h1, h2⟩ := h
  exact (wword_any s w0.heap.size a n c l x W h1 hx.1 hx.2 (by omega) h2.size).mono fun e w' hp => WriteSt.step hs h1 h2 hp
theorem st_long {w0 W : World} {s n : Nat} {l : List Int} (hs : w0.heap.size ≤ s) (h : WriteSt w0 s l n W) (x : Int) (hx : 0 ≤ x ∧ x < 4294967296) (hn : n ≤ 100000000) :
    Calls Try.prog 105 #[.pointer (some ⟨s, 0, none⟩), .int .u32 x] W (Wrote w0 s (l ++ Big 4 x) (n + 4)) := by
  obtain ⟨a, c, h1, h2⟩ := h
  exact (wlong_any s w0.heap.size a n c l x W h1 hx.1 hx.2 (by omega) h2.size).mono fun e w' hp => WriteSt.step hs h1 h2 hp
theorem BAt.far {w0 W : World} {a : Option Addr} {n : Nat} {l : List Int} (h : BAt w0 a n l) (hb : Below w0.heap.size w0 W) : BAt W a n l := h.below hb
theorem st_put {w0 W : World} {s n : Nat} {l : List Int} (hs : w0.heap.size ≤ s) (h : WriteSt w0 s l n W) (pa : Option Addr) (pn pc : Nat) (lp : List Int) (hb : BAt w0 pa pn lp) (hn : n ≤ 100000000) (hpn : pn ≤ 100000000) :
    Calls Try.prog 143 #[.pointer (some ⟨s, 0, none⟩), .slice pa pn pc] W (Wrote w0 s (l ++ lp) (n + pn)) := by
  obtain ⟨a, c, h1, h2⟩ := h
  exact (wput_any s w0.heap.size a n c l pa pn pc lp W h1 (hb.below h2) (by omega) h2.size).mono fun e w' hp => WriteSt.step hs h1 h2 hp
theorem st_done {w0 W : World} {s n : Nat} {l : List Int} (h : WriteSt w0 s l n W) (hn : n ≤ 100000000) :
    Calls Try.prog 110 #[.pointer (some ⟨s, 0, none⟩)] W (NewB n l W) := by
  obtain ⟨a, c, h1, h2⟩ := h
  exact wdone_any s w0.heap.size a n c l W h1 (by omega)
theorem WriteSt.drew {w0 W : World} {s n : Nat} {l : List Int} (h : WriteSt w0 s l n W) : WriteSt w0 s l n W.drew := by
  obtain ⟨a, c, h1, h2⟩ := h
  exact ⟨a, c, h1.below (Below.refl _ W).drew, h2.drew⟩
theorem WriteSt.low {w0 W : World} {s n : Nat} {l : List Int} (h : WriteSt w0 s l n W) : Below w0.heap.size w0 W := h.choose_spec.choose_spec.2
def longs (l : List Int) : List Int := (l.map (Big 4)).flatten
theorem longs_take (l : List Int) (i : Nat) (h : i < l.length) : longs (l.take (i + 1)) = longs (l.take i) ++ Big 4 (l.getD i 0) := by
  unfold longs
  rw [List.take_add_one, List.getElem?_eq_getElem h, List.map_append, List.flatten_append]
  simp only [Option.toList_some, List.map_cons, List.map_nil, List.flatten_cons, List.flatten_nil, List.append_nil]
  rw [List.getD_eq_getElem?_getD, List.getElem?_eq_getElem h]; rfl
def hd0 (p : Pk) (s : Pl) : Int := 128 + (if decide (0 < s.nd) = true then 32 else 0) + (if p.hasExt = true then 16 else 0) + s.nc
def hd1 (p : Pk) : Int := (if p.marker = true then 128 else 0) + p.pt
def enc (p : Pk) (s : Pl) : List Int :=
  Big 1 (hd0 p s) ++ (Big 1 (hd1 p) ++ (Big 2 p.seq ++ (Big 4 p.ts ++ (Big 4 p.ssrc ++ (longs p.csrc ++ ((if p.hasExt then Big 2 p.profile ++ (Big 2 ((s.ne / 4 : Nat) : Int) ++ p.ext) else []) ++ (p.payload ++ p.pad)))))))
theorem or_hd0 (b h : Bool) (n : Nat) (hn : n ≤ 15) : bits .or .i64 (bits .or .i64 (bits .or .i64 128 (if b = true then 32 else 0)) (if h = true then 16 else 0)) (n : Int) = 128 + (if b = true then 32 else 0) + (if h = true then 16 else 0) + n := by
  have : ∀ (b h : Bool) (n : Fin 16), bits .or .i64 (bits .or .i64 (bits .or .i64 128 (if b = true then 32 else 0)) (if h = true then 16 else 0)) ((n : Nat) : Int) = 128 + (if b = true then 32 else 0) + (if h = true then 16 else 0) + ((n : Nat) : Int) := by decide
  exact this b h ⟨n, by omega⟩
theorem or_hd1 (m : Bool) (pt : Int) (h0 : 0 ≤ pt) (h1 : pt ≤ 127) : bits .or .i64 (if m = true then 128 else 0) pt = (if m = true then 128 else 0) + pt := by
  have : ∀ (m : Bool) (n : Fin 128), bits .or .i64 (if m = true then 128 else 0) ((n : Nat) : Int) = (if m = true then 128 else 0) + ((n : Nat) : Int) := by decide
  obtain ⟨n, rfl⟩ := Int.eq_ofNat_of_zero_le h0
  exact this m ⟨n, by omega⟩
end Go.Proofs.Ytedhmoihlfjbdaa
