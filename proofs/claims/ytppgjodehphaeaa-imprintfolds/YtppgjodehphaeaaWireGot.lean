/-
  Steps and what was got, in memory; what steps write, by the law's own write and by the reference.
-/
import Derived.Test.YtppgjodehphaeaaWireRef
import Derived.Test.YtppgjodehphaeaaWirePartint
namespace Go.Proofs.Ytppgjodehphaeaa
open Go.RowKit Go.Shelf
set_option linter.unusedVariables false
def StAt (W : World) (a : Option Addr) (n : Nat) (ks ns : Nat → Int) : Prop :=
  ∃ b o, ∀ i, i < n → a = some ⟨b, o, none⟩ ∧ b < W.heap.size ∧ W.cell? ⟨b, o + i * 2, none⟩ = some (.int .i64 (ks i)) ∧ W.cell? ⟨b, o + i * 2 + 1, none⟩ = some (.int .i64 (ns i))
theorem StAt.below {W W' : World} {a : Option Addr} {n : Nat} {ks ns : Nat → Int} (h : StAt W a n ks ns) (hb : Below W.heap.size W W') : StAt W' a n ks ns := by
  obtain ⟨b, o, hr⟩ := h
  refine ⟨b, o, fun i hi => ?_⟩
  obtain ⟨h1, h2, h3, h4⟩ := hr i hi
  exact ⟨h1, by have := hb.size; omega, (hb.cell (p := ⟨b, o + i * 2, none⟩) h2).trans h3, (hb.cell (p := ⟨b, o + i * 2 + 1, none⟩) h2).trans h4⟩
def GtAt (W : World) (a : Option Addr) (n : Nat) (xs : Nat → Int) (A : Nat → Option Addr) (L C : Nat → Nat) (bs : Nat → List Int) : Prop :=
  ∃ b o, ∀ i, i < n → a = some ⟨b, o, none⟩ ∧ b < W.heap.size ∧ W.cell? ⟨b, o + i * 2, none⟩ = some (.int .u64 (xs i)) ∧ W.cell? ⟨b, o + i * 2 + 1, none⟩ = some (.slice (A i) (L i) (C i)) ∧ 0 ≤ xs i ∧ xs i < 18446744073709551616 ∧ BAt W (A i) (L i) (bs i)
theorem GtAt.below {W W' : World} {a : Option Addr} {n : Nat} {xs : Nat → Int} {A : Nat → Option Addr} {L C : Nat → Nat} {bs : Nat → List Int} (h : GtAt W a n xs A L C bs) (hb : Below W.heap.size W W') : GtAt W' a n xs A L C bs := by
  obtain ⟨b, o, hr⟩ := h
  refine ⟨b, o, fun i hi => ?_⟩
  obtain ⟨h1, h2, h3, h4, h5, h6, h7⟩ := hr i hi
  exact ⟨h1, by have := hb.size; omega, (hb.cell (p := ⟨b, o + i * 2, none⟩) h2).trans h3, (hb.cell (p := ⟨b, o + i * 2 + 1, none⟩) h2).trans h4, h5, h6, h7.below hb⟩
/-- What one step writes. -/
def wr1 (k x : Int) (b : List Int) : List Int := if k = 1 then Big 1 x else if k = 2 then Big 2 x else if k = 4 then Big 4 x else if k = 8 then Big 8 x else if k = 0 then b else []
def Wr (ks xs : Nat → Int) (bs : Nat → List Int) : Nat → List Int
  | 0 => []
  | i + 1 => Wr ks xs bs i ++ wr1 (ks i) (xs i) (bs i)
theorem wr1_len (k x : Int) (b : List Int) (h : b.length ≤ 200) : (wr1 k x b).length ≤ 200 := by
  unfold wr1
  split; · rw [Big_len]; omega
  split; · rw [Big_len]; omega
  split; · rw [Big_len]; omega
  split; · rw [Big_len]; omega
  split; · exact h
  simp
theorem Big1 (x : Int) : Big 1 x = [x % 256] := by simp [Big]
theorem Big2 (x : Int) : Big 2 x = [x / 256 % 256, x % 256] := by simp [Big, List.range_succ]
theorem Big4 (x : Int) : Big 4 x = [x / 16777216 % 256, x / 65536 % 256, x / 256 % 256, x % 256] := by simp [Big, List.range_succ]
theorem Big1_mod (x : Int) : Big 1 (x % 65536) = Big 1 x := by rw [Big1, Big1]; congr 1; omega
theorem Big2_mod (x : Int) : Big 2 (x % 65536) = Big 2 x := by
  rw [Big2, Big2]; congr 1
  · omega
  · congr 1; omega
theorem Big4_mod (x : Int) : Big 4 (x % 4294967296) = Big 4 x := by
  rw [Big4, Big4]; congr 1
  · omega
  · congr 1
    · omega
    · congr 1
      · omega
      · congr 1; omega
theorem and65535u (n : Int) (h : 0 ≤ n) (h' : n < 18446744073709551616) : bits .and .u64 n 65535 = n % 65536 := by
  have hmn : (BitVec.ofInt 64 (65535 : Int)).toNat = 2 ^ 16 - 1 := by decide
  have key : (BitVec.ofInt 64 n &&& BitVec.ofInt 64 (65535 : Int)).toNat = (n % ((2 ^ 64 : Nat) : Int)).toNat % 2 ^ 16 := by
    rw [BitVec.toNat_and, BitVec.toNat_ofInt, hmn, Nat.and_two_pow_sub_one_eq_mod]
  show IntKind.u64.wrap ((BitVec.ofInt 64 n &&& BitVec.ofInt 64 (65535 : Int)).toNat : Nat) = _
  rw [key]
  have : ∀ n : Int, IntKind.u64.wrap n = n % 18446744073709551616 := fun n => by simp [IntKind.wrap, IntKind.bits, IntKind.signed]
  rw [this]; omega
def WriteSt (w : World) (s : Nat) (l : List Int) (n : Nat) (W : World) : Prop := ∃ a c, WrAt W s w.heap.size a n c l ∧ Below w.heap.size w W
theorem WriteSt.step {w W w' : World} {s n m : Nat} {l l' : List Int} {a : Option Addr} {c : Nat} (hs : w.heap.size ≤ s) (h : WrAt W s w.heap.size a n c l) (hb : Below w.heap.size w W) {e : Ending} (hp : WrPost s w.heap.size m l' W (a.map (·.block)) e w') : e = .returned (.tuple #[]) ∧ WriteSt w s l' m w' := by
  obtain ⟨he, a', c', h1, h2, h3⟩ := hp
  refine ⟨he, a', c', h1, hb.trans (h2.below hs (fun x e => ?_) hb.size)⟩
  cases a with
  | none => cases e
  | some y => have := (h.own.blk y rfl).1; simp at e; omega
def WritePost (l : List Int) (w : World) (e : Ending) (w' : World) : Prop := ∃ s, e = .returned (.pointer (some ⟨s, 0, none⟩)) ∧ w.heap.size ≤ s ∧ WriteSt w s l l.length w'
end Go.Proofs.Ytppgjodehphaeaa
namespace Go.Proofs.Ytppgjodehphaeaa
open Go.RowKit Go.Shelf
set_option linter.unusedVariables false
/-- What one step that ends well gives: k bytes are read, the number x, the bytes bs. -/
def OnePost (R U : Nat) (a : Option Addr) (n c : Nat) (l : List Int) (k : Nat) (x : Int) (bs : List Int) (w : World) (e : Ending) (w' : World) : Prop :=
  ∃ a' c', e = .returned (.agg #[.int .u64 x, .slice a' bs.length c']) ∧ Own w' w.heap.size a' bs.length c' bs ∧ RdAt w' R U (restA a c k) (n - k) (c - k) (l.drop k) ∧ w.grownBy w' (some R)
/-- What one step that fails gives. -/
def OneFail (U : Nat) (f : Int) (w : World) (e : Ending) (w' : World) : Prop :=
  e = .panicked [{ v := failV U, recovered := false }] ∧ w'.heap[U]? = some (.cells #[.bool false, .int .i64 f] 119 (0, 0)) ∧ w.grownBy w' (some U)
/-- A Reader that has read k bytes, in a world that is else as it was, new blocks aside. -/
theorem RdAt.moved {w w' : World} {R U : Nat} {a : Option Addr} {n c : Nat} {l : List Int} (h : RdAt w R U a n c l) (k : Nat) (hk : k ≤ n) (hg : w.grownBy w' (some R))
    (hrd : w'.heap[R]? = some (.cells #[.slice (restA a c k) (n - k) (c - k), .pointer (some ⟨U, 0, Option.none⟩)] 126 (0, 0))) : RdAt w' R U (restA a c k) (n - k) (c - k) (l.drop k) :=
  ⟨hrd, (hg.block U h.ltU (by simpa using h.ne.symm)).trans h.run, h.ne,
    restA_bat (h.row.same hg.size fun x h0 hx hl => hg.block x.block hl (fun e => (h.far h0 x hx).1 (by simpa using e))) h.cap k hk, by have := h.cap; omega, restA_far h.cap hk h.far⟩
/-- The result's cells, written. -/
def boxW (w : World) (B : Nat) (x : Int) (v : Value) : World := (w.setCell ⟨B, 0, none⟩ (.int .u64 x)).setCell ⟨B, 1, none⟩ v
theorem boxW_grown (w : World) (B : Nat) (x : Int) (v : Value) : w.grownBy (boxW w B x v) (some B) :=
  ⟨rfl, rfl, rfl, by simp [boxW], fun j _ hj => (Below.heap_setCell _ _ _ j (fun e => hj (by rw [e]))).trans (Below.heap_setCell w _ _ j (fun e => hj (by rw [e])))⟩
/-- One step, in numbers: its error (0: none), how many bytes it reads, its number, its bytes. -/
def stepNo (k m : Int) (n : Nat) : Int :=
  if k = 1 ∨ k = 2 ∨ k = 4 ∨ k = 8 then (if (n : Int) < k then 20 else 0) else if k = 0 then (if (n : Int) < m then 20 else 0) else if k = -2 then failOf m else 0
def stepK (k m : Int) (n : Nat) : Nat :=
  if k = 1 ∨ k = 2 ∨ k = 4 ∨ k = 8 then k.toNat else if k = 0 then m.toNat else if k = -1 then n else 0
def stepX (k : Int) (l : List Int) : Int :=
  if k = 1 ∨ k = 2 ∨ k = 4 ∨ k = 8 then Num (l.take k.toNat) else if k = 0 ∨ k = -1 then 0 else l.length
def stepB (k m : Int) (l : List Int) : List Int :=
  if k = 0 ∨ k = -1 then l.take (stepK k m l.length) else []
end Go.Proofs.Ytppgjodehphaeaa
namespace Go.Proofs.Ytppgjodehphaeaa
open Go.RowKit Go.Shelf
set_option linter.unusedVariables false
def gcells (xs : Nat → Int) (A : Nat → Option Addr) (bs : Nat → List Int) (C : Nat → Nat) : Nat → List Value
  | 0 => []
  | i + 1 => gcells xs A bs C i ++ [.int .u64 (xs i), .slice (A i) (bs i).length (C i)]
theorem gcells_len (xs : Nat → Int) (A : Nat → Option Addr) (bs : Nat → List Int) (C : Nat → Nat) : ∀ i, (gcells xs A bs C i).length = i * 2
  | 0 => rfl
  | i + 1 => by simp [gcells, gcells_len xs A bs C i]; omega
theorem gcells_congr {xs : Nat → Int} {A A' : Nat → Option Addr} {bs : Nat → List Int} {C C' : Nat → Nat} : ∀ i, (∀ j, j < i → A' j = A j ∧ C' j = C j) → gcells xs A' bs C' i = gcells xs A bs C i
  | 0, _ => rfl
  | i + 1, h => by
    obtain ⟨h1, h2⟩ := h i (by omega)
    simp only [gcells]
    rw [gcells_congr i (fun j hj => h j (by omega)), h1, h2]
theorem gcells_at (xs : Nat → Int) (A : Nat → Option Addr) (bs : Nat → List Int) (C : Nat → Nat) : ∀ i j, j < i → (gcells xs A bs C i)[j * 2]? = some (.int .u64 (xs j)) ∧ (gcells xs A bs C i)[j * 2 + 1]? = some (.slice (A j) (bs j).length (C j))
  | 0, j, h => by omega
  | i + 1, j, h => by
    have hl := gcells_len xs A bs C i
    by_cases e : j = i
    · subst e
      simp only [gcells]
      rw [List.getElem?_append_right (by omega), List.getElem?_append_right (by omega), hl, Nat.sub_self, show j * 2 + 1 - j * 2 = 1 from by omega]
      exact ⟨rfl, rfl⟩
    · simp only [gcells]
      rw [List.getElem?_append_left (by omega), List.getElem?_append_left (by omega)]
      exact gcells_at xs A bs C i j (by omega)
theorem Own.kept {W W' : World} {base : Nat} {a : Option Addr} {n c : Nat} {l : List Int} {r : Option Nat} (h : Own W base a n c l) (hg : W.grownBy W' r) (hr : ∀ y, a = some y → r ≠ some y.block) : Own W' base a n c l :=
  ⟨h.row.kept hg (by
    cases a with
    | none => exact .inl rfl
    | some y => exact .inr (by
        have := hr y rfl
        simpa [Value.ownBlock] using fun e => this e.symm)), h.ok⟩
end Go.Proofs.Ytppgjodehphaeaa
