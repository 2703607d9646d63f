/-
  Parsing of a packet: the plain side, and the state of rtp.readPacket.
-/
import Derived.Test.YtedhmoihlfjbdaaRtpEnc
import Derived.Test.YtedhmoihlfjbdaaWireAttSpk
namespace Go.Proofs.Ytedhmoihlfjbdaa
open Go.RowKit Go.Shelf
set_option linter.unusedVariables false
def pnc (l : List Int) : Nat := (l.getD 0 0).toNat % 16
def pext (l : List Int) : Bool := decide ((l.getD 0 0) / 16 % 2 = 1)
def ppad (l : List Int) : Bool := decide ((l.getD 0 0) / 32 % 2 = 1)
def pat1 (l : List Int) : Nat := 12 + 4 * pnc l
def pwd (l : List Int) : Nat := (Num ((l.drop (pat1 l + 2)).take 2)).toNat
def pat2 (l : List Int) : Nat := if pext l = true then pat1 l + 4 + 4 * pwd l else pat1 l
def ptail (l : List Int) : List Int := l.drop (pat2 l)
/-- The number of padding bytes that the last byte tells (0: not valid). -/
def psize (t : List Int) : Nat := if t.length = 0 then 0 else if (t.length : Int) < t.getD (t.length - 1) 0 then 0 else (t.getD (t.length - 1) 0).toNat
def pcode (n : Nat) (l : List Int) : Int :=
  if n = 0 then 20 else if l.getD 0 0 / 64 ≠ 2 then 21 else if n < pat1 l then 20 else if pext l = true ∧ n < pat1 l + 4 then 20 else if n < pat2 l then 20
  else if ppad l = true ∧ psize (ptail l) = 0 then 21 else 0
def pcsrc (l : List Int) (k : Nat) : List Int := (List.range k).map fun i => Num ((l.drop (12 + 4 * i)).take 4)
/-- How many bytes of the rest are the payload. -/
def pend (l : List Int) : Nat := (ptail l).length - (if ppad l = true then psize (ptail l) else 0)
def pprof (l : List Int) : Int := if pext l = true then Num ((l.drop (pat1 l)).take 2) else 0
def pexts (l : List Int) : List Int := if pext l = true then (l.drop (pat1 l + 4)).take (4 * pwd l) else []
def ppk (l : List Int) : Pk :=
  { marker := decide (128 ≤ l.getD 1 0), pt := l.getD 1 0 % 128, seq := Num ((l.drop 2).take 2), ts := Num ((l.drop 4).take 4), ssrc := Num ((l.drop 8).take 4)
    csrc := pcsrc l (pnc l), hasExt := pext l, profile := pprof l, ext := pexts l, payload := (ptail l).take (pend l), pad := (ptail l).drop (pend l) }
theorem ppk_eq {l : List Int} {m : Bool} {pt sq ts ss : Int} {lc : List Int} {h : Bool} {pr : Int} {le lp ld : List Int} (h1 : decide (128 ≤ l.getD 1 0) = m) (h2 : l.getD 1 0 % 128 = pt) (h3 : Num ((l.drop 2).take 2) = sq) (h4 : Num ((l.drop 4).take 4) = ts) (h5 : Num ((l.drop 8).take 4) = ss)
    (h6 : pcsrc l (pnc l) = lc) (h7 : pext l = h) (h8 : pprof l = pr) (h9 : pexts l = le) (h10 : (ptail l).take (pend l) = lp) (h11 : (ptail l).drop (pend l) = ld) : ppk l = ⟨m, pt, sq, ts, ss, lc, h, pr, le, lp, ld⟩ := by
  subst h1 h2 h3 h4 h5 h6 h7 h8 h9 h10 h11; rfl
/-- Bytes in memory from base on. -/
def BIn (W : World) (base : Nat) (a : Option Addr) (n : Nat) (l : List Int) : Prop := BAt W a n l ∧ (0 < n → ∀ x, a = some x → base ≤ x.block)
def LIn (W : World) (base : Nat) (a : Option Addr) (n : Nat) (l : List Int) : Prop := LgAt W a n l ∧ (0 < n → ∀ x, a = some x → base ≤ x.block)
theorem BIn.above {W W' : World} {base : Nat} {a : Option Addr} {n : Nat} {l : List Int} (h : BIn W base a n l) (hb : Above base W W') : BIn W' base a n l :=
  ⟨h.1.same hb.1 fun x h0 hx hl => hb.2 x.block (h.2 h0 x hx) hl, h.2⟩
theorem LIn.above {W W' : World} {base : Nat} {a : Option Addr} {n : Nat} {l : List Int} (h : LIn W base a n l) (hb : Above base W W') : LIn W' base a n l := by
  obtain ⟨⟨hl, b, o, hr⟩, h2⟩ := h
  refine ⟨⟨hl, b, o, fun i hi => ?_⟩, h2⟩
  obtain ⟨e1, e2, e3, e4⟩ := hr i hi
  exact ⟨e1, by have := hb.1; omega, (World.cell?_of_block (w := W) (a := ⟨b, o + i, none⟩) (hb.2 b (h2 (by omega) _ e1) e2)).trans e3, e4⟩
theorem BIn.mono {W : World} {base base' : Nat} {a : Option Addr} {n : Nat} {l : List Int} (h : BIn W base a n l) (hb : base' ≤ base) : BIn W base' a n l := ⟨h.1, fun h0 x hx => by have := h.2 h0 x hx; omega⟩
theorem LIn.mono {W : World} {base base' : Nat} {a : Option Addr} {n : Nat} {l : List Int} (h : LIn W base a n l) (hb : base' ≤ base) : LIn W base' a n l := ⟨h.1, fun h0 x hx => by have := h.2 h0 x hx; omega⟩
theorem BIn.nil (W : World) (base : Nat) : BIn W base none 0 [] := ⟨BAt.none W, fun h => by omega⟩
theorem LIn.nil (W : World) (base : Nat) : LIn W base none 0 [] := ⟨⟨rfl, 0, 0, fun i hi => by omega⟩, fun h => by omega⟩
theorem Own.bin {W : World} {base : Nat} {a : Option Addr} {n c : Nat} {l : List Int} (h : Own W base a n c l) : BIn W base a n l := ⟨h.bat, fun _ x hx => (h.blk x hx).1⟩
structure PkIn (W : World) (base : Nat) (p : Pk) (s : Pl) : Prop where
  csrc : LIn W base s.ac s.nc p.csrc
  ext : BIn W base s.ae s.ne p.ext
  pay : BIn W base s.ap s.np p.payload
  pad : BIn W base s.ad s.nd p.pad
  seq : 0 ≤ p.seq ∧ p.seq < 65536
  ts : 0 ≤ p.ts ∧ p.ts < 4294967296
  ssrc : 0 ≤ p.ssrc ∧ p.ssrc < 4294967296
  prof : 0 ≤ p.profile ∧ p.profile < 65536
theorem PkIn.above {W W' : World} {base : Nat} {p : Pk} {s : Pl} (h : PkIn W base p s) (hb : Above base W W') : PkIn W' base p s :=
  ⟨h.csrc.above hb, h.ext.above hb, h.pay.above hb, h.pad.above hb, h.seq, h.ts, h.ssrc, h.prof⟩
theorem PkIn.at {W : World} {base : Nat} {p : Pk} {s : Pl} (h : PkIn W base p s) : PkAt W p s := ⟨h.csrc.1, h.ext.1, h.pay.1, h.pad.1, h.seq, h.ts, h.ssrc, h.prof⟩
/-- A packet p as a value, all its bytes from base on. -/
def QPk (base : Nat) (p : Pk) (v : Value) (W : World) : Prop := ∃ s, v = .agg (pkc p s) ∧ PkIn W base p s
theorem QPk.steady (base : Nat) (p : Pk) : Steady base (QPk base p) := fun v W W' hb ⟨s, h1, h2⟩ => ⟨s, h1, h2.above hb⟩
/-- Numbers of four bytes in a row of their own. -/
structure OwnL (W : World) (base : Nat) (a : Option Addr) (n c : Nat) (l : List Int) : Prop where
  row : W.ownsRow base 64 1 (.slice a n c) n (l.map (.int .u32))
  ok : ∀ i, 0 ≤ l.getD i 0 ∧ l.getD i 0 < 4294967296
theorem OwnL.nil (W : World) (base : Nat) : OwnL W base none 0 0 [] := ⟨World.ownsRow_nil _ _ _ _, fun i => by simp⟩
theorem OwnL.len {W : World} {base : Nat} {a : Option Addr} {n c : Nat} {l : List Int} (h : OwnL W base a n c l) : l.length = n := by
  have := h.row.1; simpa using this
theorem OwnL.blk {W : World} {base : Nat} {a : Option Addr} {n c : Nat} {l : List Int} (h : OwnL W base a n c l) : ∀ x, a = some x → base ≤ x.block ∧ x.block < W.heap.size := fun x hx => by
  subst hx; exact h.row.lt x.block rfl
theorem OwnL.lin {W : World} {base : Nat} {a : Option Addr} {n c : Nat} {l : List Int} (h : OwnL W base a n c l) : LIn W base a n l := by
  have hl := h.len
  refine ⟨?_, fun _ x hx => (h.blk x hx).1⟩
  rcases h.row.2 with ⟨hv, rfl⟩ | ⟨g, cap, cur, hv, hb, hg, h1, h2, h3, h4⟩
  · exact ⟨hl, 0, 0, fun i hi => by omega⟩
  · simp only [Value.slice.injEq, true_and] at hv
    obtain ⟨rfl, rfl⟩ := hv
    refine ⟨hl, g, 0, fun i hi => ⟨rfl, (Array.getElem?_eq_some_iff.1 hg).1, ?_, h.ok i⟩⟩
    rw [cell_of_row W g _ _ _ _ hg]
    have e := congrArg (fun x => x[i]?) h4
    simp only [List.getElem?_take, Nat.mul_one] at e
    rw [if_pos hi] at e
    simp only [Nat.zero_add]
    rw [← Array.getElem?_toList, e, List.getElem?_map, List.getElem?_eq_getElem (by omega), List.getD_eq_getElem?_getD, List.getElem?_eq_getElem (by omega)]
    rfl
theorem OwnL.kept {W W' : World} {base : Nat} {a : Option Addr} {n c : Nat} {l : List Int} {r : Option Nat} (h : OwnL W base a n c l) (hg : W.grownBy W' r) (hr : ∀ y, a = some y → r ≠ some y.block) : OwnL W' base a n c l :=
  ⟨h.row.kept hg (by
    cases a with
    | none => exact .inl rfl
    | some y => exact .inr (by
        have := hr y rfl
        simpa [Value.ownBlock] using fun e => this e.symm)), h.ok⟩
theorem info_u32 : (Try.prog.info? 64).map (fun i => (i.zero, i.size, i.bytes)) = some (some (Value.int .u32 0), 1, 4) := by kernel_rfl
theorem append_long (W : World) (ty : TypeId) (base : Nat) (a : Option Addr) (n c : Nat) (l : List Int) (h : OwnL W base a n c l) (x : Int) (hx : 0 ≤ x ∧ x < 4294967296) (hlim : n + 1 ≤ 1099511627776) (hbase : base ≤ W.heap.size) :
    ∃ a' c' w', (Builtin.append_ #[69, 69] ty #[.slice a n c, .slice (some ⟨W.heap.size, 0, none⟩) 1 1]).run Try.prog (W.alloc (.cells #[.int .u32 x] 64)) = .ok (.slice a' (n + 1) c') w' ∧
      OwnL w' base a' (n + 1) c' (l ++ [x]) ∧ Below base W w' := by
  obtain ⟨i0, hi0, hz0, hz1, hz2⟩ := info_parts info_u32
  obtain ⟨v', w', hr, ho, hg, hnil, hat⟩ := run_append_own_at (P := Try.prog) (W.alloc (.cells #[.int .u32 x] 64)) base 69 ty 64 i0 (.int .u32 0) 1 4 Try.underlying69 hi0 hz0 hz1 hz2 rfl (by decide) (.slice a n c) n _ (h.row.alloc _) ⟨W.heap.size, 0, none⟩ 1 1 [.int .u32 x] rfl (cell_one_new _ _ _) (by simp [Value.oneCell']) (by unfold maxLen; omega) (by omega) (by simp; omega)
  have hv : ∃ a' c', v' = .slice a' (n + 1) c' := by
    rcases ho.2 with ⟨rfl, e⟩ | ⟨g, cap, cur, rfl, _⟩
    · omega
    · exact ⟨_, _, rfl⟩
  obtain ⟨a', c', rfl⟩ := hv
  refine ⟨a', c', w', hr, ⟨by simpa using ho, fun i => ?_⟩, ((Below.refl _ W).alloc hbase _).grown hg (by simp; omega) (fun k e => ?_)⟩
  · have hl := h.len
    by_cases hi : i < l.length
    · rw [List.getD_eq_getElem?_getD, List.getElem?_append_left hi, ← List.getD_eq_getElem?_getD]; exact h.ok i
    · by_cases e : i = l.length
      · subst e; simpa using hx
      · rw [List.getD_eq_getElem?_getD, List.getElem?_eq_none (by simp; omega)]; simp
  · exact (h.row.lt k e).1
end Go.Proofs.Ytedhmoihlfjbdaa
namespace Go.Proofs.Ytedhmoihlfjbdaa
open Go.RowKit Go.Shelf
set_option linter.unusedVariables false
theorem psize_any (a : Option Addr) (n c : Nat) (l : List Int) (w : World) (hb : BAt w a n l) :
    Calls Try.prog 146 #[.slice a n c] w (SameV (.int .i64 (psize l : Nat)) w) := by
  have hlen := hb.len
  have hlim := hb.lim
  have hv : psize l = if n = 0 then 0 else if (n : Int) < l.getD (n - 1) 0 then 0 else (l.getD (n - 1) 0).toNat := by unfold psize; rw [hlen]
  rw [hv]
  by_cases h0 : n = 0
  · subst h0
    go_enter Try.func146, Try.ntmps146
    go_wp2
    go_ret
    exact ⟨rfl, rfl⟩
  · have hz : ((n : Int) == 0) = false := by rw [beq_eq_false_iff_ne]; omega
    obtain ⟨b, o, hr⟩ := hb.row
    obtain ⟨rfl, _, d, hd⟩ := hr (n - 1) (by omega)
    have hi : (n : Int) - 1 = ((n - 1 : Nat) : Int) := by omega
    have hi2 : ((n - 1 : Nat) : Int) < (n : Int) := by omega
    rw [if_neg h0]
    clear hr hv hlen hb
    generalize l.getD (n - 1) 0 = x at d hd ⊢
    generalize n - 1 = k at d hi hi2
    have hx : IntKind.i64.wrap x = x := by rw [IntKind.wrap_i64]; omega
    by_cases hlt : (n : Int) < x
    · rw [if_pos hlt]
      go_enter Try.func146, Try.ntmps146
      go_wp2
      go_ret
      exact ⟨rfl, rfl⟩
    · rw [if_neg hlt]
      have hn : ((x.toNat : Nat) : Int) = x := by omega
      rw [hn]
      clear hn
      go_enter Try.func146, Try.ntmps146
      go_wp2
      go_ret
      exact ⟨rfl, rfl⟩
/-- The state of readPacket: the packet so far is cs, in block P. -/
structure RS (w W : World) (R U P : Nat) (a : Option Addr) (n c : Nat) (l : List Int) (cs : Array Value) : Prop where
  rd : RdAt W R U a n c l
  pk : W.heap[P]? = some (.cells cs 71 (0, 0))
  bx : W.heap[w.heap.size]? = some (.cells #[.bool false, .int .i64 0, .int .u16 0, .int .u32 0, .int .u32 0, .slice none 0 0, .bool false, .int .u16 0, .slice none 0 0, .slice none 0 0, .slice none 0 0] 71 (0, 0))
  ltP : w.heap.size < P
  ltR : R < w.heap.size
  ltU : U < w.heap.size
  old : 0 < n → ∀ x, a = some x → x.block < w.heap.size
  keep : Keep2 w W R (some U)
theorem RS.zP {w W : World} {R U P : Nat} {a : Option Addr} {n c : Nat} {l : List Int} {cs : Array Value} (h : RS w W R U P a n c l cs) : P < W.heap.size := (Array.getElem?_eq_some_iff.1 h.pk).1
theorem RS.c {w W : World} {R U P : Nat} {a : Option Addr} {n c : Nat} {l : List Int} {cs : Array Value} (h : RS w W R U P a n c l cs) (i : Nat) : W.cell? ⟨P, i, none⟩ = cs[i]? := cell_of_row W P i _ _ _ h.pk
theorem RS.f {w W : World} {R U P : Nat} {a : Option Addr} {n c : Nat} {l : List Int} {cs : Array Value} (h : RS w W R U P a n c l cs) (i : Nat) : W.frozen? ⟨P, i, none⟩ = false := frozen_of_row W P i _ _ h.pk
theorem restA_old {a : Option Addr} {n c k B : Nat} (h : 0 < n → ∀ x, a = some x → x.block < B) : 0 < n - k → ∀ x, restA a c k = some x → x.block < B := fun h0 x hx => by
  obtain ⟨y, hy, e⟩ := restA_blk hx
  rw [e]; exact h (by omega) y hy
theorem RS.took {w W W' : World} {R U P : Nat} {a : Option Addr} {n c : Nat} {l : List Int} {cs : Array Value} (h : RS w W R U P a n c l cs) {k : Nat} (hr : RdAt W' R U (restA a c k) (n - k) (c - k) (l.drop k)) (hg : W.grownBy W' (some R)) : RS w W' R U P (restA a c k) (n - k) (c - k) (l.drop k) cs :=
  ⟨hr, (hg.block P h.zP (by have := h.ltP; have := h.ltR; simp; omega)).trans h.pk, (hg.block _ (by have := h.zP; have := h.ltP; omega) (by have := h.ltR; simp; omega)).trans h.bx, h.ltP, h.ltR, h.ltU, restA_old h.old, keep2_trans h.keep (took_keep hg U)⟩
theorem RS.store {w W : World} {R U P : Nat} {a : Option Addr} {n c : Nat} {l : List Int} {cs : Array Value} (h : RS w W R U P a n c l cs) (i : Nat) (v : Value) : RS w (W.setCell ⟨P, i, none⟩ v) R U P a n c l (cs.setIfInBounds i v) := by
  have o : ∀ k, k ≠ P → (W.setCell ⟨P, i, none⟩ v).heap[k]? = W.heap[k]? := fun k hk => Below.heap_setCell W _ _ k hk
  have h1 := h.ltP; have h2 := h.ltR; have h3 := h.ltU
  refine ⟨⟨(o R (by omega)).trans h.rd.rd, (o U (by omega)).trans h.rd.run, h.rd.ne, h.rd.row.same (by simp) fun x h0 hx hl => o _ (by have := h.old h0 x hx; omega), h.rd.cap, h.rd.far⟩, heap_setCell_same W P i _ _ _ h.pk, (o _ (by omega)).trans h.bx, h1, h2, h3, h.old, ?_⟩
  exact ⟨h.keep.os, h.keep.tape, h.keep.output, by simpa using h.keep.size, fun k hk e1 e2 => (o k (by omega)).trans (h.keep.block k hk e1 e2)⟩
theorem RS.below {w W W' : World} {R U P : Nat} {a : Option Addr} {n c : Nat} {l : List Int} {cs : Array Value} (h : RS w W R U P a n c l cs) (hb : Below W.heap.size W W') : RS w W' R U P a n c l cs :=
  ⟨h.rd.below hb, (hb.block P h.zP).trans h.pk, (hb.block _ (by have := h.zP; have := h.ltP; omega)).trans h.bx, h.ltP, h.ltR, h.ltU, h.old,
    ⟨hb.os.trans h.keep.os, hb.tape.trans h.keep.tape, hb.output.trans h.keep.output, Nat.le_trans h.keep.size hb.size, fun k hk e1 e2 => (hb.block k (by have := h.keep.size; omega)).trans (h.keep.block k hk e1 e2)⟩⟩
theorem RS.fail {w W w' : World} {R U P : Nat} {a : Option Addr} {n c : Nat} {l : List Int} {cs : Array Value} (h : RS w W R U P a n c l cs) {f : Int} {e : Ending} (hf : FailPost U f W e w') : ParseFail R U f w e w' :=
  ⟨hf.1, hf.2.1, keep2_trans h.keep (fail_keep hf.2.2.1 R)⟩
/-- How readPacket ends. -/
def RPost (R U n : Nat) (l : List Int) (w : World) (e : Ending) (w' : World) : Prop :=
  (pcode n l ≠ 0 → ParseFail R U (pcode n l) w e w') ∧ (pcode n l = 0 → ParseOk R U 0 [] (QPk w.heap.size (ppk l)) w e w')
theorem RPost.no {R U n : Nat} {l : List Int} {w w' : World} {e : Ending} {f : Int} (hc : pcode n l = f) (hf : f ≠ 0) (h : ParseFail R U f w e w') : RPost R U n l w e w' := by
  unfold RPost; rw [hc]; exact ⟨fun _ => h, fun e => absurd e hf⟩
theorem RPost.yes {R U n : Nat} {l : List Int} {w w' : World} {e : Ending} (hc : pcode n l = 0) (h : ParseOk R U 0 [] (QPk w.heap.size (ppk l)) w e w') : RPost R U n l w e w' := by
  unfold RPost; exact ⟨fun e => absurd hc e, fun _ => h⟩
theorem pc0 {n : Nat} {l : List Int} (h : n = 0) : pcode n l = 20 := by unfold pcode; rw [if_pos h]
theorem pcv {n : Nat} {l : List Int} (h : n ≠ 0) (hv : l.getD 0 0 / 64 ≠ 2) : pcode n l = 21 := by unfold pcode; rw [if_neg h, if_pos hv]
theorem pc1 {n : Nat} {l : List Int} (h : n ≠ 0) (hv : l.getD 0 0 / 64 = 2) (h1 : n < pat1 l) : pcode n l = 20 := by unfold pcode; rw [if_neg h, if_neg (by simpa using hv), if_pos h1]
theorem pc2 {n : Nat} {l : List Int} (h : n ≠ 0) (hv : l.getD 0 0 / 64 = 2) (hx : pext l = true) (h1 : n < pat1 l + 4) : pcode n l = 20 := by
  unfold pcode; rw [if_neg h, if_neg (by simpa using hv)]
  by_cases h2 : n < pat1 l
  · rw [if_pos h2]
  · rw [if_neg h2, if_pos ⟨hx, h1⟩]
theorem pc3 {n : Nat} {l : List Int} (h : n ≠ 0) (hv : l.getD 0 0 / 64 = 2) (h1 : n < pat2 l) : pcode n l = 20 := by
  unfold pcode; rw [if_neg h, if_neg (by simpa using hv)]
  by_cases h2 : n < pat1 l
  · rw [if_pos h2]
  · by_cases h3 : pext l = true ∧ n < pat1 l + 4
    · rw [if_neg h2, if_pos h3]
    · rw [if_neg h2, if_neg h3, if_pos h1]
theorem pc_end {n : Nat} {l : List Int} (h : n ≠ 0) (hv : l.getD 0 0 / 64 = 2) (h1 : ¬ n < pat1 l) (h2 : pext l = true → ¬ n < pat1 l + 4) (h3 : ¬ n < pat2 l) : pcode n l = if ppad l = true ∧ psize (ptail l) = 0 then 21 else 0 := by
  unfold pcode; rw [if_neg h, if_neg (by simpa using hv), if_neg h1, if_neg (fun e => h2 e.1 e.2), if_neg h3]
end Go.Proofs.Ytedhmoihlfjbdaa
namespace Go.Proofs.Ytedhmoihlfjbdaa
open Go.RowKit Go.Shelf
set_option linter.unusedVariables false
theorem psize_le (l : List Int) (hl : Str.Ok l) : psize l ≤ l.length := by
  unfold psize
  have := hl (l.length - 1)
  split
  · omega
  · split <;> omega
set_option maxHeartbeats 1000000 in
set_option maxRecDepth 100000 in
theorem split_ok (R : Nat) (a : Option Addr) (n c e : Nat) (l : List Int) (w : World) (hb : BAt w a n l) (hc : n ≤ c) (hs : psize l ≠ 0) (he : e + psize l = n) :
    Calls Try.prog 120 #[.pointer (some ⟨R, 0, none⟩), .slice a n c] w (Drawn (.tuple #[.slice a e e, .slice (restA a c e) (n - e) (c - e)]) w) := by
  have hlim := hb.lim
  have HS := Lib.hid (psize_any a n c l w hb)
  have hp := psize_le l hb.ok
  clear hb
  generalize psize l = k at *
  have hz : ((k : Int) == 0) = false := by rw [beq_eq_false_iff_ne]; omega
  have hsub : IntKind.i64.wrap ((n : Int) - (k : Int)) = (e : Int) := by rw [IntKind.wrap_i64]; omega
  have hsub2 : (n : Int) - (k : Int) = (e : Int) := by omega
  have hsl := run_rest a n c e (by omega) (by omega)
  have h1 : (0 : Int) ≤ (e : Int) := by omega
  have h2 : (e : Int) ≤ (c : Int) := by omega
  clear he hs
  go_enter Try.func120, Try.ntmps120
  go_wp2_with (go_at_call 146; refine (HS.out).mono ?_; rintro e w' ⟨rfl, rfl⟩)
  go_quiet (fail)
  go_wp2
  go_ret2
  exact ⟨rfl, nq, rfl⟩
set_option maxHeartbeats 1000000 in
theorem split_no (R U : Nat) (ar : Option Addr) (nr cr : Nat) (lr : List Int) (a : Option Addr) (n c : Nat) (l : List Int) (w : World) (h : RdAt w R U ar nr cr lr) (hb : BAt w a n l) (hs : psize l = 0) :
    Calls Try.prog 120 #[.pointer (some ⟨R, 0, none⟩), .slice a n c] w (FailPost U 21 w) := by
  have HS := psize_any a n c l w hb
  rw [hs] at HS
  have HS := Lib.hid HS
  have HF := Lib.hid (fail_nz R U ar nr cr lr 21 w h rfl)
  clear hb h hs
  go_enter Try.func120, Try.ntmps120
  go_wp2_with (first
    | (go_at_call 146; refine (HS.out).mono ?_; rintro e w' ⟨rfl, rfl⟩)
    | (go_at_call 118; refine (HF.out).mono ?_; rintro e w' ⟨rfl, h1, h2, h3⟩))
  exact ⟨rfl, rfl, h1, h2, h3⟩
end Go.Proofs.Ytedhmoihlfjbdaa
namespace Go.Proofs.Ytedhmoihlfjbdaa
open Go.RowKit Go.Shelf
set_option linter.unusedVariables false
theorem bits_byte (x : Int) (h0 : 0 ≤ x) (h1 : x < 256) : bits .and .i64 x 128 = (if 128 ≤ x then 128 else 0) ∧ bits .and .i64 x 127 = x % 128 ∧ bits .and .i64 x 15 = x % 16 ∧ bits .and .i64 x 16 = (if x / 16 % 2 = 1 then 16 else 0) ∧ bits .and .i64 x 32 = (if x / 32 % 2 = 1 then 32 else 0) := by
  have : ∀ n : Fin 256, bits .and .i64 ((n : Nat) : Int) 128 = (if 128 ≤ ((n : Nat) : Int) then 128 else 0) ∧ bits .and .i64 ((n : Nat) : Int) 127 = ((n : Nat) : Int) % 128 ∧ bits .and .i64 ((n : Nat) : Int) 15 = ((n : Nat) : Int) % 16 ∧ bits .and .i64 ((n : Nat) : Int) 16 = (if ((n : Nat) : Int) / 16 % 2 = 1 then 16 else 0) ∧ bits .and .i64 ((n : Nat) : Int) 32 = (if ((n : Nat) : Int) / 32 % 2 = 1 then 32 else 0) := by decide +kernel
  obtain ⟨n, rfl⟩ := Int.eq_ofNat_of_zero_le h0
  exact this ⟨n, by omega⟩
theorem pcsrc_succ (l : List Int) (k : Nat) : pcsrc l (k + 1) = pcsrc l k ++ [Num ((l.drop (12 + 4 * k)).take 4)] := by simp [pcsrc, List.range_succ]
/-- The state at the head of the loop over CSRC identifiers. -/
structure RL (w W : World) (R U P : Nat) (n : Nat) (l : List Int) (m : Bool) (pt sq ts ss : Int) (i : Nat) (ac : Option Addr) (cc : Nat) (a' : Option Addr) (c' : Nat) : Prop where
  rs : RS w W R U P a' (n - 12 - 4 * i) c' (l.drop (12 + 4 * i)) #[.bool m, .int .i64 pt, .int .u16 sq, .int .u32 ts, .int .u32 ss, .slice ac i cc, .bool false, .int .u16 0, .slice none 0 0, .slice none 0 0, .slice none 0 0]
  own : OwnL W (P + 1) ac i cc (pcsrc l i)
theorem RS.belowP {w W W' : World} {R U P : Nat} {a : Option Addr} {n c : Nat} {l : List Int} {cs : Array Value} (h : RS w W R U P a n c l cs) (hb2 : Below (P + 1) W W') : RS w W' R U P a n c l cs := by
  have h1 := h.ltP; have h2 := h.ltR; have h3 := h.ltU; have hz := hb2.size; have hp := h.zP
  exact ⟨⟨(hb2.block R (by omega)).trans h.rd.rd, (hb2.block U (by omega)).trans h.rd.run, h.rd.ne, h.rd.row.same hz fun x h0 hx hl => hb2.block _ (by have := h.old h0 x hx; omega), h.rd.cap, h.rd.far⟩,
    (hb2.block P (by omega)).trans h.pk, (hb2.block _ (by omega)).trans h.bx, h1, h2, h3, h.old,
    ⟨hb2.os.trans h.keep.os, hb2.tape.trans h.keep.tape, hb2.output.trans h.keep.output, Nat.le_trans h.keep.size hz, fun k hk e1 e2 => (hb2.block k (by omega)).trans (h.keep.block k hk e1 e2)⟩⟩
/-- Behind Long: the append and its store. -/
theorem RL.next {w W W1 : World} {R U P n : Nat} {l : List Int} {m : Bool} {pt sq ts ss : Int} {i : Nat} {ac : Option Addr} {cc : Nat} {a' : Option Addr} {c' : Nat} (h : RL w W R U P n l m pt sq ts ss i ac cc a' c') (hl : l.length = n) (hok : Str.Ok l) (hi : 4 ≤ n - 12 - 4 * i) (hi2 : i ≤ 100)
    {W0 : World} (hd : Above 0 W W0 ∧ W0.heap.size = W.heap.size) (hr : RdAt W1 R U (restA a' c' 4) (n - 12 - 4 * i - 4) (c' - 4) ((l.drop (12 + 4 * i)).drop 4)) (hg : W0.grownBy W1 (some R)) (hk : W0.os = W.os ∧ W0.tape = W.tape ∧ W0.output = W.output) (ty : TypeId) :
    ∃ a2 c2 w2, (Builtin.append_ #[69, 69] ty #[.slice ac i cc, .slice (some ⟨W1.heap.size, 0, none⟩) 1 1]).run Try.prog (W1.alloc (.cells #[.int .u32 (Num ((l.drop (12 + 4 * i)).take 4))] 64)) = .ok (.slice a2 (i + 1) c2) w2 ∧
      w2.cell? ⟨P, 5, none⟩ = some (.slice ac i cc) ∧ w2.frozen? ⟨P, 5, none⟩ = false ∧ RL w (w2.setCell ⟨P, 5, none⟩ (.slice a2 (i + 1) c2)) R U P n l m pt sq ts ss (i + 1) a2 c2 (restA a' c' 4) (c' - 4) := by
  have hg' : W.grownBy W1 (some R) := ⟨hg.os.trans hk.1, hg.tape.trans hk.2.1, hg.output.trans hk.2.2, by have := hg.size; omega, fun k h1 h2 => (hg.block k (by omega) h2).trans (hd.1.2 k (Nat.zero_le _) h1)⟩
  have hs1 := h.rs.took (k := 4) hr hg'
  have ho1 : OwnL W1 (P + 1) ac i cc (pcsrc l i) := h.own.kept hg' (fun y hy e => by
    have := (h.own.blk y hy).1; have := h.rs.ltP; have := h.rs.ltR
    cases e; omega)
  have hx := num_lt (hok.drop (12 + 4 * i)) 4 (by rw [List.length_drop]; omega) 4294967296 rfl
  obtain ⟨a2, c2, w2, hrun, ho2, hb2⟩ := append_long W1 ty (P + 1) ac i cc _ ho1 _ hx (by omega) (by have := hs1.zP; omega)
  have hs2 := hs1.belowP hb2
  refine ⟨a2, c2, w2, hrun, by rw [hs2.c]; rfl, hs2.f 5, ⟨?_, ?_⟩⟩
  · have := hs2.store 5 (.slice a2 (i + 1) c2)
    rw [List.drop_drop, show n - 12 - 4 * i - 4 = n - 12 - 4 * (i + 1) from by omega, show 12 + 4 * i + 4 = 12 + 4 * (i + 1) from by omega] at this
    exact this
  · rw [pcsrc_succ]
    refine ho2.kept (r := some P) ⟨rfl, rfl, rfl, by simp, fun k _ hk => Below.heap_setCell w2 _ _ k (fun e => hk (by rw [e]))⟩ (fun y hy e => ?_)
    have := (ho2.blk y hy).1
    cases e; omega
theorem RS.final {w W W2 : World} {R U P : Nat} {a : Option Addr} {n c : Nat} {l : List Int} {cs cs2 : Array Value} (h : RS w W R U P a n c l cs) (hp : Put W W2 w.heap.size cs2 71) : RdAt W2 R U a n c l ∧ Keep2 w W2 R (some U) := by
  have h1 := h.ltP; have h2 := h.ltR; have h3 := h.ltU
  have o : ∀ k, k < w.heap.size → W2.heap[k]? = W.heap[k]? := fun k hk => hp.grown.block k (by have := h.keep.size; omega) (by simp; omega)
  refine ⟨⟨(o R h2).trans h.rd.rd, (o U h3).trans h.rd.run, h.rd.ne, h.rd.row.same (by rw [hp.size]; exact Nat.le_refl _) fun x h0 hx hl => o _ (h.old h0 x hx), h.rd.cap, h.rd.far⟩, ?_⟩
  exact ⟨hp.grown.os.trans h.keep.os, hp.grown.tape.trans h.keep.tape, hp.grown.output.trans h.keep.output, by rw [hp.size]; exact h.keep.size, fun k hk e1 e2 => (o k hk).trans (h.keep.block k hk e1 e2)⟩
theorem RS.drewN {w W : World} {R U P : Nat} {a : Option Addr} {n c : Nat} {l : List Int} {cs : Array Value} (h : RS w W R U P a n c l cs) (j : Nat) : RS w (W.drewN j) R U P a n c l cs := h.below (below_drewN W _ j)
/-- The state behind the extension. -/
structure RT (w W : World) (R U P : Nat) (a' : Option Addr) (n' c' : Nat) (lt : List Int) (m : Bool) (pt sq ts ss : Int) (ac : Option Addr) (k cc : Nat) (lc : List Int) (h : Bool) (pr : Int) (ae : Option Addr) (ne ce : Nat) (le : List Int) : Prop where
  rs : RS w W R U P a' n' c' lt #[.bool m, .int .i64 pt, .int .u16 sq, .int .u32 ts, .int .u32 ss, .slice ac k cc, .bool h, .int .u16 pr, .slice ae ne ce, .slice none 0 0, .slice none 0 0]
  csrc : LIn W (P + 1) ac k lc
  ext : BIn W (P + 1) ae ne le
/-- The end: the packet is stored as the result. -/
theorem RT.done {w W W2 : World} {R U P : Nat} {a' : Option Addr} {n' c' : Nat} {lt : List Int} {m : Bool} {pt sq ts ss : Int} {ac : Option Addr} {k cc : Nat} {lc : List Int} {h : Bool} {pr : Int} {ae : Option Addr} {ne ce : Nat} {le : List Int} {ap ad : Option Addr} {np cp nd cd : Nat} {lp ld : List Int} {p : Pk}
    (hr : RS w W R U P a' 0 c' [] #[.bool m, .int .i64 pt, .int .u16 sq, .int .u32 ts, .int .u32 ss, .slice ac k cc, .bool h, .int .u16 pr, .slice ae ne ce, .slice ap np cp, .slice ad nd cd]) (hc : LIn W (P + 1) ac k lc) (he : BIn W (P + 1) ae ne le) (hpy : BIn W (P + 1) ap np lp) (hpd : BIn W (P + 1) ad nd ld)
    (hp : p = ⟨m, pt, sq, ts, ss, lc, h, pr, le, lp, ld⟩) (hsq : 0 ≤ sq ∧ sq < 65536) (hts : 0 ≤ ts ∧ ts < 4294967296) (hss : 0 ≤ ss ∧ ss < 4294967296) (hpr : 0 ≤ pr ∧ pr < 65536)
    (hput : Put W W2 w.heap.size #[.bool m, .int .i64 pt, .int .u16 sq, .int .u32 ts, .int .u32 ss, .slice ac k cc, .bool h, .int .u16 pr, .slice ae ne ce, .slice ap np cp, .slice ad nd cd] 71) :
    ParseOk R U 0 [] (QPk w.heap.size p) w (.returned (.agg #[.bool m, .int .i64 pt, .int .u16 sq, .int .u32 ts, .int .u32 ss, .slice ac k cc, .bool h, .int .u16 pr, .slice ae ne ce, .slice ap np cp, .slice ad nd cd])) W2 := by
  obtain ⟨h1, h2⟩ := hr.final hput
  have hl := hr.ltP
  have hab : Above (P + 1) W W2 := Above.grown hput.grown (by omega)
  subst hp
  exact ⟨_, a', c', rfl, h1, h2, ⟨ac, k, cc, ae, ne, ce, ap, np, cp, ad, nd, cd⟩, rfl, (hc.above hab).mono (by omega), (he.above hab).mono (by omega), (hpy.above hab).mono (by omega), (hpd.above hab).mono (by omega), hsq, hts, hss, hpr⟩
end Go.Proofs.Ytedhmoihlfjbdaa
