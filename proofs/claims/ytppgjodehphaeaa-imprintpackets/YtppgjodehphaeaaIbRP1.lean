/-
  confluxref05.Parse: the state of its walk.
-/
import Derived.Test.YtppgjodehphaeaaRtpParse5
import Derived.Test.YtppgjodehphaeaaWireSame
import Derived.Test.YtppgjodehphaeaaIbRef
namespace Go.Proofs.Ytppgjodehphaeaa
open Go.RowKit Go.Shelf
set_option linter.unusedVariables false
theorem run_midP (a : Option Addr) (n c p q : Nat) (y z : Int) (hy : y = (p : Int)) (hz : z = (p : Int) + (q : Int)) (hq : p + q ≤ n) (hc : n ≤ c) (w : World) : (Instr.slice 22 (.slice a n c) (some (.int .i64 y)) (some (.int .i64 z)) none).run Try.prog w = .ok (.slice (restA a c p) q (c - p)) w := by
  subst hy
  have ht : Try.prog.underlying 22 = some (.slice (Try.prog.elem 22)) := by kernel_rfl
  have hs : (sizeOf (Try.prog.elem 22)).run Try.prog w = .ok 1 w := by kernel_rfl
  rw [run_slice_lh w 22 a n c ht .i64 .i64 (p : Int) z (by omega) (by omega) (by omega), Int.toNat_natCast, hs]
  simp only [sliced, restA, Result.andThen, Nat.mul_one]
  rw [show z.toNat - p = q by omega]
/-- What Parse of the reference leaves: whatever packet of that number and source, the error's number. -/
def RPO (f sq sr : Int) (w : World) (e : Ending) (w' : World) : Prop :=
  ∃ (m h : Bool) (pt ts pr : Int) (a5 a8 a9 a10 : Option Addr) (n5 c5 n8 c8 n9 c9 n10 c10 : Nat), e = .returned (.tuple #[.agg #[.bool m, .int .i64 pt, .int .u16 sq, .int .u32 ts, .int .u32 sr, .slice a5 n5 c5, .bool h, .int .u16 pr, .slice a8 n8 c8, .slice a9 n9 c9, .slice a10 n10 c10], .int .i64 f]) ∧ Below w.heap.size w w'
/-- The boxes: the result's (at P0), and the packet's (at P). -/
structure PS (w W : World) (P : Nat) (cs : Array Value) : Prop where
  pk : W.heap[P]? = some (.cells cs 66 (0, 0))
  bx : W.heap[w.heap.size]? = some (.cells #[.bool false, .int .i64 0, .int .u16 0, .int .u32 0, .int .u32 0, .slice none 0 0, .bool false, .int .u16 0, .slice none 0 0, .slice none 0 0, .slice none 0 0] 66 (0, 0))
  ltP : w.heap.size < P
  low : Below w.heap.size w W
theorem PS.zP {w W : World} {P : Nat} {cs : Array Value} (h : PS w W P cs) : P < W.heap.size := (Array.getElem?_eq_some_iff.1 h.pk).1
theorem PS.c {w W : World} {P : Nat} {cs : Array Value} (h : PS w W P cs) (i : Nat) : W.cell? ⟨P, i, none⟩ = cs[i]? := cell_of_row W P i _ _ _ h.pk
theorem PS.f {w W : World} {P : Nat} {cs : Array Value} (h : PS w W P cs) (i : Nat) : W.frozen? ⟨P, i, none⟩ = false := frozen_of_row W P i _ _ h.pk
theorem PS.below {w W W' : World} {P : Nat} {cs : Array Value} (h : PS w W P cs) (hb : Below W.heap.size W W') : PS w W' P cs :=
  ⟨(hb.block P h.zP).trans h.pk, (hb.block _ (by have := h.zP; have := h.ltP; omega)).trans h.bx, h.ltP, h.low.trans (hb.mono h.low.size)⟩
theorem PS.belowP {w W W' : World} {P : Nat} {cs : Array Value} (h : PS w W P cs) (hb : Below (P + 1) W W') : PS w W' P cs :=
  ⟨(hb.block P (by omega)).trans h.pk, (hb.block _ (by have := h.ltP; omega)).trans h.bx, h.ltP, h.low.trans (hb.mono (by have := h.ltP; omega))⟩
theorem PS.store {w W : World} {P : Nat} {cs : Array Value} (h : PS w W P cs) (i : Nat) (v : Value) : PS w (W.setCell ⟨P, i, none⟩ v) P (cs.setIfInBounds i v) := by
  have o : ∀ k, k ≠ P → (W.setCell ⟨P, i, none⟩ v).heap[k]? = W.heap[k]? := fun k hk => Below.heap_setCell W _ _ k hk
  have h1 := h.ltP
  exact ⟨heap_setCell_same W P i _ _ _ h.pk, (o _ (by omega)).trans h.bx, h1, h.low.setCell (by show _ ≤ P; omega) _⟩
/-- In front of round i of the sources. -/
structure PL (w W : World) (P : Nat) (v0 v1 v2 v3 v4 : Value) (i : Nat) (ac : Option Addr) (cc : Nat) (lc : List Int) : Prop where
  ps : PS w W P #[v0, v1, v2, v3, v4, .slice ac i cc, .bool false, .int .u16 0, .slice none 0 0, .slice none 0 0, .slice none 0 0]
  own : OwnL W (P + 1) ac i cc lc
theorem PL.below {w W W' : World} {P : Nat} {v0 v1 v2 v3 v4 : Value} {i : Nat} {ac : Option Addr} {cc : Nat} {lc : List Int} (h : PL w W P v0 v1 v2 v3 v4 i ac cc lc) (hd : Below W.heap.size W W') : PL w W' P v0 v1 v2 v3 v4 i ac cc lc :=
  ⟨h.ps.below hd, ⟨h.own.row.kept (row := none) ⟨hd.os, hd.tape, hd.output, hd.size, fun j hj _ => hd.block j hj⟩ (Classical.em _), h.own.ok⟩⟩
theorem PL.next {w W : World} {P : Nat} {v0 v1 v2 v3 v4 : Value} {i : Nat} {ac : Option Addr} {cc : Nat} {lc : List Int} (h : PL w W P v0 v1 v2 v3 v4 i ac cc lc) (x : Int) (hx : 0 ≤ x ∧ x < 4294967296) (hi : i ≤ 100) (ty : TypeId) :
    ∃ a2 c2 w2, (Builtin.append_ #[64, 64] ty #[.slice ac i cc, .slice (some ⟨W.heap.size, 0, none⟩) 1 1]).run Try.prog (W.alloc (.cells #[.int .u32 x] 40)) = .ok (.slice a2 (i + 1) c2) w2 ∧
      w2.cell? ⟨P, 5, none⟩ = some (.slice ac i cc) ∧ w2.frozen? ⟨P, 5, none⟩ = false ∧ PL w (w2.setCell ⟨P, 5, none⟩ (.slice a2 (i + 1) c2)) P v0 v1 v2 v3 v4 (i + 1) a2 c2 (lc ++ [x]) := by
  obtain ⟨a2, c2, w2, hrun, ho2, hb2⟩ := append_long W ty (P + 1) ac i cc _ h.own x hx (by omega) (by have := h.ps.zP; omega)
  have hs2 := h.ps.belowP hb2
  refine ⟨a2, c2, w2, hrun, by rw [hs2.c]; rfl, hs2.f 5, ⟨hs2.store 5 _, ?_⟩⟩
  refine ho2.kept (r := some P) ⟨rfl, rfl, rfl, by simp, fun k _ hk => Below.heap_setCell w2 _ _ k (fun e => hk (by rw [e]))⟩ (fun y hy e => ?_)
  have := (ho2.blk y hy).1
  cases e; omega
theorem PS.fail {w W W2 : World} {P : Nat} {cs : Array Value} (h : PS w W P cs) (hp : Put W W2 w.heap.size #[.bool false, .int .i64 0, .int .u16 0, .int .u32 0, .int .u32 0, .slice none 0 0, .bool false, .int .u16 0, .slice none 0 0, .slice none 0 0, .slice none 0 0] 66) (f : Int) :
    RPO f 0 0 w (.returned (.tuple #[.agg #[.bool false, .int .i64 0, .int .u16 0, .int .u32 0, .int .u32 0, .slice none 0 0, .bool false, .int .u16 0, .slice none 0 0, .slice none 0 0, .slice none 0 0], .int .i64 f])) W2 :=
  ⟨false, false, 0, 0, 0, none, none, none, none, 0, 0, 0, 0, 0, 0, 0, 0, rfl, h.low.grown hp.grown h.low.size (fun k e => by cases e; exact Nat.le_refl _)⟩
/-- How Parse ends well. -/
theorem PS.done {w W W2 : World} {P : Nat} {m hx : Bool} {pt ts pr : Int} {a5 a8 a9 a10 : Option Addr} {n5 c5 n8 c8 n9 c9 n10 c10 : Nat} {sq sr : Int} (h : PS w W P #[.bool m, .int .i64 pt, .int .u16 sq, .int .u32 ts, .int .u32 sr, .slice a5 n5 c5, .bool hx, .int .u16 pr, .slice a8 n8 c8, .slice a9 n9 c9, .slice a10 n10 c10]) (hp : Put W W2 w.heap.size #[.bool m, .int .i64 pt, .int .u16 sq, .int .u32 ts, .int .u32 sr, .slice a5 n5 c5, .bool hx, .int .u16 pr, .slice a8 n8 c8, .slice a9 n9 c9, .slice a10 n10 c10] 66) :
    RPO 0 sq sr w (.returned (.tuple #[.agg #[.bool m, .int .i64 pt, .int .u16 sq, .int .u32 ts, .int .u32 sr, .slice a5 n5 c5, .bool hx, .int .u16 pr, .slice a8 n8 c8, .slice a9 n9 c9, .slice a10 n10 c10], .int .i64 0])) W2 :=
  ⟨m, hx, pt, ts, pr, a5, a8, a9, a10, n5, c5, n8, c8, n9, c9, n10, c10, rfl, h.low.grown hp.grown h.low.size (fun k e => by cases e; exact Nat.le_refl _)⟩
theorem RPO.zero {w W2 : World} (f : Int) (h : Below w.heap.size w W2) : RPO f 0 0 w (.returned (.tuple #[.agg #[.bool false, .int .i64 0, .int .u16 0, .int .u32 0, .int .u32 0, .slice none 0 0, .bool false, .int .u16 0, .slice none 0 0, .slice none 0 0, .slice none 0 0], .int .i64 f])) W2 :=
  ⟨false, false, 0, 0, 0, none, none, none, none, 0, 0, 0, 0, 0, 0, 0, 0, rfl, h⟩
theorem rp_code {n : Nat} {l : List Int} (h1 : n ≤ 1500) : pcodeF n l = pcode n l := by unfold pcodeF; rw [if_neg (by omega)]
theorem pcodeF_small {n : Nat} {l : List Int} (h : 1500 < n ∨ n = 0 ∨ n ≤ 1500 ∧ l.getD 0 0 / 64 ≠ 2 ∨ n ≤ 1500 ∧ n < 12) :
    (1500 < n → pcodeF n l = 2) ∧ (n ≤ 1500 → n ≠ 0 → l.getD 0 0 / 64 ≠ 2 → pcodeF n l = 21) ∧ (n ≤ 1500 → (n = 0 ∨ l.getD 0 0 / 64 = 2) → n < 12 → pcodeF n l = 20) := by
  refine ⟨fun h1 => by unfold pcodeF; rw [if_pos h1], fun h1 h2 h3 => by rw [rp_code h1, pcv h2 h3], fun h1 h2 h3 => ?_⟩
  rw [rp_code h1]
  by_cases h0 : n = 0
  · exact pc0 h0
  · exact pc1 h0 (by rcases h2 with h2 | h2; exact absurd h2 h0; exact h2) (by unfold pat1; omega)
end Go.Proofs.Ytppgjodehphaeaa
namespace Go.Proofs.Ytppgjodehphaeaa
open Go.RowKit Go.Shelf
set_option linter.unusedVariables false
set_option linter.unusedSimpArgs false
theorem beq_dec (x y : Int) : (x == y) = decide (x = y) := by by_cases h : x = y <;> simp [h]
set_option maxHeartbeats 4000000 in
set_option maxRecDepth 100000 in
theorem rparse5_main (a : Option Addr) (n c : Nat) (l : List Int) (w : World) (ha : BAt w a n l) (hc : n ≤ c) (h12 : 12 ≤ n) (h15 : n ≤ 1500) (hv : l.getD 0 0 / 64 = 2) :
    Calls Try.prog 31 #[.slice a n c] w fun e w' => (pcodeF n l ≠ 0 → RPO (pcodeF n l) 0 0 w e w') ∧ (pcodeF n l = 0 → RPO 0 (Num ((l.drop 2).take 2)) (Num ((l.drop 8).take 4)) w e w') := by
  have hlen := ha.len
  have hlim := ha.lim
  have HA := Lib.hid ha
  have HNUM : Hid (∀ W, Below w.heap.size w W → ∀ p q, p + q ≤ n → q ≤ 8 → Calls Try.prog 58 #[.slice (restA a c p) q (c - p)] W (SameV (.int .u64 (Num ((l.drop p).take q))) W)) := Lib.hid fun W hW p q hpq hq => rnum_any (restA a c p) q (c - p) _ W ((restA_bat (ha.below hW) hc p (by omega)).take q (by omega)) hq
  have HSL : Hid (∀ (p q : Nat) (y z : Int), y = (p : Int) → z = (p : Int) + (q : Int) → p + q ≤ n → ∀ W, (Instr.slice 22 (.slice a n c) (some (.int .i64 y)) (some (.int .i64 z)) none).run Try.prog W = .ok (.slice (restA a c p) q (c - p)) W) := Lib.hid fun p q y z hy hz hq W => run_midP a n c p q y z hy hz hq hc W
  have b2 := num_lt (HA.out.ok.drop 2) 2 (by rw [List.length_drop]; omega) 65536 rfl
  have b4 := num_lt (HA.out.ok.drop 4) 4 (by rw [List.length_drop]; omega) 4294967296 rfl
  have b8 := num_lt (HA.out.ok.drop 8) 4 (by rw [List.length_drop]; omega) 4294967296 rfl
  have HN2 := Lib.hid (fun W h => HNUM.out W h 2 2 (by omega) (by decide))
  have HN4 := Lib.hid (fun W h => HNUM.out W h 4 4 (by omega) (by decide))
  have HN8 := Lib.hid (fun W h => HNUM.out W h 8 4 (by omega) (by decide))
  obtain ⟨sq, hsq⟩ : ∃ x, Num ((l.drop 2).take 2) = x := ⟨_, rfl⟩
  obtain ⟨ts, hts⟩ : ∃ x, Num ((l.drop 4).take 4) = x := ⟨_, rfl⟩
  obtain ⟨sr, hsr⟩ : ∃ x, Num ((l.drop 8).take 4) = x := ⟨_, rfl⟩
  rw [hsq] at HN2 b2 ⊢; rw [hts] at HN4 b4; rw [hsr] at HN8 b8 ⊢
  have e2 : IntKind.u16.wrap sq = sq := by simp [IntKind.wrap, IntKind.bits, IntKind.signed]; omega
  have e4 : IntKind.u32.wrap ts = ts := by simp [IntKind.wrap, IntKind.bits, IntKind.signed]; omega
  have e8 : IntKind.u32.wrap sr = sr := by simp [IntKind.wrap, IntKind.bits, IntKind.signed]; omega
  clear hsq hts hsr
  have HV := Lib.hid hv
  have hb0 := ha.ok 0
  have HEXT : Hid ((l.getD 0 0 / 16 % 2 == 1) = pext l) := Lib.hid (by unfold pext; exact beq_dec _ _)
  have HPAD : Hid ((l.getD 0 0 / 32 % 2 == 1) = ppad l) := Lib.hid (by unfold ppad; exact beq_dec _ _)
  have HCPY : Hid (∀ W, Below w.heap.size w W → ∀ p q, p + q ≤ n → Calls Try.prog 7 #[.slice (restA a c p) q (c - p)] W (NewB q ((l.drop p).take q) W)) := Lib.hid fun W hW p q hpq => copy_any (restA a c p) q (c - p) _ W ((restA_bat (ha.below hW) hc p (by omega)).take q (by omega)) (by omega)
  have HCPR : Hid (∀ W, Below w.heap.size w W → ∀ p, p ≤ n → Calls Try.prog 7 #[.slice (restA a c p) (n - p) (c - p)] W (NewB (n - p) (l.drop p) W)) := Lib.hid fun W hW p hp => copy_any (restA a c p) (n - p) (c - p) _ W (restA_bat (ha.below hW) hc p hp) (by omega)
  have HREST : Hid (∀ p, p ≤ n → ∀ W, (Instr.slice 22 (.slice a n c) (some (.int .i64 (p : Int))) none none).run Try.prog W = .ok (.slice (restA a c p) (n - p) (c - p)) W) := Lib.hid fun p hp W => run_rest a n c p hp (by omega) W
  clear hb0
  obtain ⟨w0, hw0⟩ : ∃ w0, w.alloc (.cells #[.bool false, .int .i64 0, .int .u16 0, .int .u32 0, .int .u32 0, .slice none 0 0, .bool false, .int .u16 0, .slice none 0 0, .slice none 0 0, .slice none 0 0] 66) = w0 := ⟨_, rfl⟩
  have hB0 : Below w.heap.size w w0 := by rw [← hw0]; exact (Below.refl _ w).alloc (Nat.le_refl _) _
  have hbx0 : w0.heap[w.heap.size]? = some (.cells #[.bool false, .int .i64 0, .int .u16 0, .int .u32 0, .int .u32 0, .slice none 0 0, .bool false, .int .u16 0, .slice none 0 0, .slice none 0 0, .slice none 0 0] 66 (0, 0)) := by rw [← hw0]; exact lit_new rfl
  have hz0 : w0.heap.size = w.heap.size + 1 := by rw [← hw0]; simp
  obtain ⟨b, o, hr⟩ := ha.row
  obtain ⟨rfl, hbl, d0, q0⟩ := hr 0 (by omega)
  obtain ⟨_, _, d1, q1⟩ := hr 1 (by omega)
  obtain ⟨x0, hx0⟩ : ∃ x, l.getD 0 0 = x := ⟨_, rfl⟩
  obtain ⟨x1, hx1⟩ : ∃ x, l.getD 1 0 = x := ⟨_, rfl⟩
  rw [hx0] at d0 q0 hv HEXT HPAD; rw [hx1] at d1 q1
  rw [Nat.add_zero] at d0
  have s2 := HSL.out 2 2 2 4 rfl rfl (by omega)
  have s4 := HSL.out 4 4 4 8 rfl rfl (by omega)
  have s8 := HSL.out 8 4 8 12 rfl rfl (by omega)
  have hn15 : ¬ (1500 : Int) < (n : Int) := by omega
  have hn12 : ¬ (n : Int) < 12 := by omega
  have hn0 : (0 : Int) < (n : Int) := by omega
  have hn1 : (1 : Int) < (n : Int) := by omega
  have hvn : (x0 / 64 != 2) = false := by simpa using hv
  have hkb : x0 % 16 = ((pnc l : Nat) : Int) := by unfold pnc; rw [hx0]; omega
  have d0' : w0.cell? ⟨b, o, none⟩ = some (.int .u8 x0) := (hB0.cell (p := ⟨b, o, none⟩) hbl).trans d0
  have d1' : w0.cell? ⟨b, o + 1, none⟩ = some (.int .u8 x1) := (hB0.cell (p := ⟨b, o + 1, none⟩) hbl).trans d1
  have HW0 := Lib.hid hw0; have HB0 := Lib.hid hB0; have HBX0 := Lib.hid hbx0; have HX0 := Lib.hid hx0; have HX1 := Lib.hid hx1; have HR := Lib.hid hr; have HD0 := Lib.hid d0
  have hif : ∀ q : Nat, (if c = q then (some ⟨b, o, none⟩ : Option Addr) else some ⟨b, o + q, none⟩) = restA (some ⟨b, o, none⟩) c q := fun q => by unfold restA; by_cases h : c = q <;> simp [h, Addr.add]
  clear hw0 hB0 hbx0 hx0 hx1 hr ha hv
  go_enter Try.func31, Try.ntmps31
  go_wp2_with fail
  rw [HW0.out]
  obtain ⟨pt, hpt⟩ : ∃ pt, IntKind.i64.wrap (x1.tmod 128) = pt := ⟨_, rfl⟩
  obtain ⟨m, hm⟩ : ∃ m, decide (128 ≤ x1) = m := ⟨_, rfl⟩
  clear d0 d1
  have DR : Hid (∀ W : World, W.cell? ⟨b, o + 1, none⟩ = some (.int .u8 x1) → W.drew.cell? ⟨b, o + 1, none⟩ = some (.int .u8 x1)) := Lib.hid fun W h => h
  have HA0 : Hid (∀ q, (w0.alloc q).cell? ⟨b, o + 1, none⟩ = some (.int .u8 x1)) := Lib.hid fun q => (World.cell?_of_block (w := w0) (a := ⟨b, o + 1, none⟩) (heap_alloc_old w0 q (by show b < _; omega))).trans d1'
  go_region_held3 (fun W : World => W.cell? ⟨b, o + 1, none⟩ = some (.int .u8 x1)) (first | with_reducible assumption | with_reducible exact HA0.out _ | with_reducible exact DR.out _ (HA0.out _) | with_reducible exact DR.out _ (by with_reducible assumption)) (fail)
  clear d0' d1' DR HA0
  obtain ⟨P, hP⟩ : ∃ P, w.heap.size + 1 = P := ⟨_, rfl⟩
  have HS0 : Hid (PS w (w0.alloc (.cells #[.bool m, .int .i64 pt, .int .u16 0, .int .u32 0, .int .u32 0, .slice none 0 0, .bool false, .int .u16 0, .slice none 0 0, .slice none 0 0, .slice none 0 0] 66)).drew P #[.bool m, .int .i64 pt, .int .u16 0, .int .u32 0, .int .u32 0, .slice none 0 0, .bool false, .int .u16 0, .slice none 0 0, .slice none 0 0, .slice none 0 0]) := Lib.hid (by
    have hBd : Below w0.heap.size w0 (w0.alloc (.cells #[.bool m, .int .i64 pt, .int .u16 0, .int .u32 0, .int .u32 0, .slice none 0 0, .bool false, .int .u16 0, .slice none 0 0, .slice none 0 0, .slice none 0 0] 66)).drew := ((Below.refl _ w0).alloc (Nat.le_refl _) _).drew
    refine ⟨?_, (hBd.block _ (by omega)).trans HBX0.out, by omega, HB0.out.trans (hBd.mono (by omega))⟩
    rw [← hP, ← hz0]
    exact lit_new rfl)
  generalize (w0.alloc (.cells #[.bool m, .int .i64 pt, .int .u16 0, .int .u32 0, .int .u32 0, .slice none 0 0, .bool false, .int .u16 0, .slice none 0 0, .slice none 0 0, .slice none 0 0] 66)).drew = w1 at HS0 ⊢
  rw [hP]
  have HPW : Hid (w.heap.size + 1 = P) := Lib.hid hP
  clear hP hz0 HB0 HBX0 HW0 hm hpt
  have c2 : w1.cell? ⟨P, 2, none⟩ = some (.int .u16 0) := HS0.out.c 2
  have ff := HS0.out.f 2
  have HS1 := Lib.hid (show PS w _ P #[.bool m, .int .i64 pt, .int .u16 sq, .int .u32 0, .int .u32 0, .slice none 0 0, .bool false, .int .u16 0, .slice none 0 0, .slice none 0 0, .slice none 0 0] from HS0.out.store 2 (.int .u16 sq))
  go_wp2_with fail
  refine (HN2.out _ HS0.out.low).mono ?_
  rintro e w2 ⟨rfl, e2w⟩
  subst e2w
  go_wp2_with fail
  clear c2 ff HS0 HN2
  generalize World.setCell w1 ⟨P, 2, none⟩ (.int .u16 sq) = w3 at HS1 ⊢
  have c3 : w3.cell? ⟨P, 3, none⟩ = some (.int .u32 0) := HS1.out.c 3
  have ff := HS1.out.f 3
  have HS2 := Lib.hid (show PS w _ P #[.bool m, .int .i64 pt, .int .u16 sq, .int .u32 ts, .int .u32 0, .slice none 0 0, .bool false, .int .u16 0, .slice none 0 0, .slice none 0 0, .slice none 0 0] from HS1.out.store 3 (.int .u32 ts))
  refine (HN4.out _ HS1.out.low).mono ?_
  rintro e w4 ⟨rfl, e4w⟩
  subst e4w
  go_wp2_with fail
  clear c3 ff HS1 HN4
  generalize World.setCell w3 ⟨P, 3, none⟩ (.int .u32 ts) = w5 at HS2 ⊢
  have c4 : w5.cell? ⟨P, 4, none⟩ = some (.int .u32 0) := HS2.out.c 4
  have ff := HS2.out.f 4
  have HS3 := Lib.hid (show PS w _ P #[.bool m, .int .i64 pt, .int .u16 sq, .int .u32 ts, .int .u32 sr, .slice none 0 0, .bool false, .int .u16 0, .slice none 0 0, .slice none 0 0, .slice none 0 0] from HS2.out.store 4 (.int .u32 sr))
  refine (HN8.out _ HS2.out.low).mono ?_
  rintro e w6 ⟨rfl, e6w⟩
  subst e6w
  go_wp2_with fail
  clear c4 ff HS2 HN8
  generalize World.setCell w5 ⟨P, 4, none⟩ (.int .u32 sr) = w7 at HS3 ⊢
  have HPL := Lib.hid (show PL w w7 P (.bool m) (.int .i64 pt) (.int .u16 sq) (.int .u32 ts) (.int .u32 sr) 0 none 0 [] from ⟨HS3.out, OwnL.nil _ _⟩)
  clear HS3
  obtain ⟨k, hk⟩ : ∃ k, pnc l = k := ⟨_, rfl⟩
  rw [hk] at hkb
  have hk15 : k ≤ 15 := by rw [← hk]; unfold pnc; omega
  have hkt : x0.tmod 16 = (k : Int) := by rw [Int.tmod_eq_emod_of_nonneg (by omega)]; exact hkb
  have HK := Lib.hid hk; clear hk hkb
  go_loopw [5, 6] (fun av iv wr => ∃ (i p : Nat) (ac : Option Addr) (cc : Nat) (lc : List Int), i ≤ k ∧ Hid (p = 12 + 4 * i) ∧ p ≤ n ∧ av = .int .i64 p ∧ iv = .int .i64 i ∧ Hid (PL w wr P (.bool m) (.int .i64 pt) (.int .u16 sq) (.int .u32 ts) (.int .u32 sr) i ac cc lc)) (fun _ iv _ => k - (intOf iv).toNat)
  case atStart => exact ⟨0, 12, none, 0, [], Nat.zero_le _, Lib.hid rfl, h12, rfl, rfl, HPL⟩
  case round =>
    obtain ⟨i, p, ac, cc, lc, hi, HP, hpn, rfl, rfl, HQ⟩ := hrel
    clear HPL
    have d0 : wr.cell? ⟨b, o, none⟩ = some (.int .u8 x0) := (HQ.out.ps.low.cell (p := ⟨b, o, none⟩) hbl).trans HD0.out
    have hwp : IntKind.i64.wrap ((p : Int) + 4) = (p : Int) + 4 := by rw [IntKind.wrap_i64]; omega
    by_cases hlt : i < k
    · have hltz : (i : Int) < (k : Int) := by omega
      by_cases h16 : p + 4 ≤ n
      · have hz16 : ¬ (n : Int) < (p : Int) + 4 := by omega
        have hsl := HSL.out p 4 p ((p : Int) + 4) rfl rfl h16
        have HQD := Lib.hid (HQ.out.below (Below.refl _ wr).drew)
        have HNB := Lib.hid (HNUM.out wr.drew HQD.out.ps.low p 4 h16 (by decide))
        have hbx := num_lt (HA.out.ok.drop p) 4 (by rw [List.length_drop]; omega) 4294967296 rfl
        obtain ⟨x, hx⟩ : ∃ x, Num ((l.drop p).take 4) = x := ⟨_, rfl⟩
        rw [hx] at HNB hbx
        have ex : IntKind.u32.wrap x = x := by simp [IntKind.wrap, IntKind.bits, IntKind.signed]; omega
        have hcur : wr.cell? ⟨P, 5, none⟩ = some (.slice ac i cc) := HQ.out.ps.c 5
        have hS7 : wr.drew.cell? ⟨P, 5, none⟩ = some (.slice ac i cc) := HQD.out.ps.c 5
        have hA7 : ∀ q, (wr.drew.alloc q).cell? ⟨P, 5, none⟩ = some (.slice ac i cc) := fun q => (World.cell?_of_block (w := wr.drew) (a := ⟨P, 5, none⟩) (heap_alloc_old wr.drew q HQD.out.ps.zP)).trans hS7
        have hA8 : ∀ q, (wr.alloc q).cell? ⟨P, 5, none⟩ = some (.slice ac i cc) := fun q => (World.cell?_of_block (w := wr) (a := ⟨P, 5, none⟩) (heap_alloc_old wr q HQ.out.ps.zP)).trans hcur
        have hA9 : ∀ q, (wr.alloc q).drew.cell? ⟨P, 5, none⟩ = some (.slice ac i cc) := fun q => hA8 q
        obtain ⟨a2, c2, w8, hrun, hS8, hF8, hRL8⟩ := HQD.out.next x hbx (by omega) 64
        have HRUN := Lib.hid hrun; have HRL8 := Lib.hid hRL8
        clear hrun hRL8 hx HQ HQD
        go_wp2_with fail
        go_region_law
          (first
            | (refine step_append_run rfl (.tmp 70) (.tmp 78) 64 64 rfl (.slice ac i cc) (.slice (some ⟨wr.drew.heap.size, 0, none⟩) 1 1) (by rfl) (by rfl) _ _ HRUN.out ?_)
            | (go_simp; go_at_call 58; refine (HNB.out).mono ?_; rintro e w9 ⟨rfl, rfl⟩))
        all_goals go_wp2
        all_goals
          go_roundw
          case rel => exact ⟨i + 1, p + 4, a2, c2, _, by omega, Lib.hid (by rw [HP.out]; omega), h16, by go_num, by go_num, HRL8⟩
          case measure => simp [intOf]; omega
      · have hz16 : (n : Int) < (p : Int) + 4 := by omega
        have HPC : Hid (pcodeF n l = 20) := Lib.hid (by rw [rp_code h15]; exact pc1 (by omega) HV.out (by unfold pat1; rw [HK.out]; have := HP.out; omega))
        have HS := Lib.hid HQ.out.ps
        clear HQ
        have y0 : wr.cell? ⟨w.heap.size, 0, none⟩ = some (.bool false) := by rw [cell_of_row wr _ 0 _ _ _ HS.out.bx]; rfl
        have y1 : wr.cell? ⟨w.heap.size, 1, none⟩ = some (.int .i64 0) := by rw [cell_of_row wr _ 1 _ _ _ HS.out.bx]; rfl
        have y2 : wr.cell? ⟨w.heap.size, 2, none⟩ = some (.int .u16 0) := by rw [cell_of_row wr _ 2 _ _ _ HS.out.bx]; rfl
        have y3 : wr.cell? ⟨w.heap.size, 3, none⟩ = some (.int .u32 0) := by rw [cell_of_row wr _ 3 _ _ _ HS.out.bx]; rfl
        have y4 : wr.cell? ⟨w.heap.size, 4, none⟩ = some (.int .u32 0) := by rw [cell_of_row wr _ 4 _ _ _ HS.out.bx]; rfl
        have y5 : wr.cell? ⟨w.heap.size, 5, none⟩ = some (.slice none 0 0) := by rw [cell_of_row wr _ 5 _ _ _ HS.out.bx]; rfl
        have y6 : wr.cell? ⟨w.heap.size, 6, none⟩ = some (.bool false) := by rw [cell_of_row wr _ 6 _ _ _ HS.out.bx]; rfl
        have y7 : wr.cell? ⟨w.heap.size, 7, none⟩ = some (.int .u16 0) := by rw [cell_of_row wr _ 7 _ _ _ HS.out.bx]; rfl
        have y8 : wr.cell? ⟨w.heap.size, 8, none⟩ = some (.slice none 0 0) := by rw [cell_of_row wr _ 8 _ _ _ HS.out.bx]; rfl
        have y9 : wr.cell? ⟨w.heap.size, 9, none⟩ = some (.slice none 0 0) := by rw [cell_of_row wr _ 9 _ _ _ HS.out.bx]; rfl
        have y10 : wr.cell? ⟨w.heap.size, 10, none⟩ = some (.slice none 0 0) := by rw [cell_of_row wr _ 10 _ _ _ HS.out.bx]; rfl
        have fB : ∀ o, wr.frozen? ⟨w.heap.size, o, none⟩ = false := fun o => frozen_of_row wr _ o _ _ HS.out.bx
        go_wp2_with fail
        obtain ⟨w9, hw9⟩ : ∃ w9, putL wr w.heap.size 0 [.bool false, .int .i64 0, .int .u16 0, .int .u32 0, .int .u32 0, .slice none 0 0, .bool false, .int .u16 0, .slice none 0 0, .slice none 0 0, .slice none 0 0] = w9 := ⟨_, rfl⟩
        have P9 : Put wr w9 w.heap.size #[.bool false, .int .i64 0, .int .u16 0, .int .u32 0, .int .u32 0, .slice none 0 0, .bool false, .int .u16 0, .slice none 0 0, .slice none 0 0, .slice none 0 0] 66 := by rw [← hw9]; exact putL_is (us := [.bool false, .int .i64 0, .int .u16 0, .int .u32 0, .int .u32 0, .slice none 0 0, .bool false, .int .u16 0, .slice none 0 0, .slice none 0 0, .slice none 0 0]) HS.out.bx rfl
        simp only [putL, Nat.zero_add, Nat.reduceAdd] at hw9
        rw [hw9]
        have q9 := P9.row
        have HF := Lib.hid (PS.fail HS.out P9 20)
        clear hw9 P9 fB y0 y1 y2 y3 y4 y5 y6 y7 y8 y9 y10
        have z0 : w9.cell? ⟨w.heap.size, 0, none⟩ = some (.bool false) := by rw [cell_of_row w9 _ 0 _ _ _ q9]; rfl
        have z1 : w9.cell? ⟨w.heap.size, 1, none⟩ = some (.int .i64 0) := by rw [cell_of_row w9 _ 1 _ _ _ q9]; rfl
        have z2 : w9.cell? ⟨w.heap.size, 2, none⟩ = some (.int .u16 0) := by rw [cell_of_row w9 _ 2 _ _ _ q9]; rfl
        have z3 : w9.cell? ⟨w.heap.size, 3, none⟩ = some (.int .u32 0) := by rw [cell_of_row w9 _ 3 _ _ _ q9]; rfl
        have z4 : w9.cell? ⟨w.heap.size, 4, none⟩ = some (.int .u32 0) := by rw [cell_of_row w9 _ 4 _ _ _ q9]; rfl
        have z5 : w9.cell? ⟨w.heap.size, 5, none⟩ = some (.slice none 0 0) := by rw [cell_of_row w9 _ 5 _ _ _ q9]; rfl
        have z6 : w9.cell? ⟨w.heap.size, 6, none⟩ = some (.bool false) := by rw [cell_of_row w9 _ 6 _ _ _ q9]; rfl
        have z7 : w9.cell? ⟨w.heap.size, 7, none⟩ = some (.int .u16 0) := by rw [cell_of_row w9 _ 7 _ _ _ q9]; rfl
        have z8 : w9.cell? ⟨w.heap.size, 8, none⟩ = some (.slice none 0 0) := by rw [cell_of_row w9 _ 8 _ _ _ q9]; rfl
        have z9 : w9.cell? ⟨w.heap.size, 9, none⟩ = some (.slice none 0 0) := by rw [cell_of_row w9 _ 9 _ _ _ q9]; rfl
        have z10 : w9.cell? ⟨w.heap.size, 10, none⟩ = some (.slice none 0 0) := by rw [cell_of_row w9 _ 10 _ _ _ q9]; rfl
        exact bodyPost_ret (v := .tuple #[.agg #[.bool false, .int .i64 0, .int .u16 0, .int .u32 0, .int .u32 0, .slice none 0 0, .bool false, .int .u16 0, .slice none 0 0, .slice none 0 0, .slice none 0 0], .int .i64 20]) (by simp [results, Try.results31, go_sem, z0, z1, z2, z3, z4, z5, z6, z7, z8, z9, z10]) rfl ⟨fun _ => by rw [HPC.out]; exact HF.out, fun e => absurd (HPC.out.symm.trans e) (by decide)⟩
    · have hltz : ¬ (i : Int) < (k : Int) := by omega
      obtain rfl : i = k := by omega
      have HP1 : Hid (pat1 l = p) := Lib.hid (by unfold pat1; rw [HK.out]; exact HP.out.symm)
      have HS := Lib.hid HQ.out.ps
      clear HQ
      cases hx : pext l
      · have hx4 : (x0 / 16 % 2 == 1) = false := by rw [HEXT.out, hx]
        have HP2 : Hid (pat2 l = p) := Lib.hid (by unfold pat2; rw [hx, if_neg (by simp)]; exact HP1.out)
        have HPE : Hid (pcodeF n l = if ppad l = true ∧ psize (ptail l) = 0 then 21 else 0) := Lib.hid (by rw [rp_code h15]; exact pc_end (by omega) HV.out (by rw [HP1.out]; omega) (fun e => by rw [hx] at e; cases e) (by rw [HP2.out]; omega))
        clear hx HP HP1
        cases hpp : ppad l
        · have hpd : (x0 / 32 % 2 == 1) = false := by rw [HPAD.out, hpp]
          have HPC : Hid (pcodeF n l = 0) := Lib.hid (by rw [HPE.out, hpp]; simp)
          have hsl := HSL.out p (n - p) p n rfl (by omega) (by omega)
          clear hpp
          go_wp2_with fail
          refine (HCPY.out wr HS.out.low p (n - p) (by omega)).mono ?_
          rintro e w7 ⟨a7, c7, rfl, hO7, hB7⟩
          have HS7 := Lib.hid (HS.out.below hB7)
          clear hO7 hB7
          have d0 : w7.cell? ⟨P, 0, none⟩ = some (.bool m) := HS7.out.c 0
          have d1 : w7.cell? ⟨P, 1, none⟩ = some (.int .i64 pt) := HS7.out.c 1
          have d2 : w7.cell? ⟨P, 2, none⟩ = some (.int .u16 sq) := HS7.out.c 2
          have d3 : w7.cell? ⟨P, 3, none⟩ = some (.int .u32 ts) := HS7.out.c 3
          have d4 : w7.cell? ⟨P, 4, none⟩ = some (.int .u32 sr) := HS7.out.c 4
          have d5 : w7.cell? ⟨P, 5, none⟩ = some (.slice ac i cc) := HS7.out.c 5
          have d6 : w7.cell? ⟨P, 6, none⟩ = some (.bool false) := HS7.out.c 6
          have d7 : w7.cell? ⟨P, 7, none⟩ = some (.int .u16 0) := HS7.out.c 7
          have d8 : w7.cell? ⟨P, 8, none⟩ = some (.slice none 0 0) := HS7.out.c 8
          have d9 : w7.cell? ⟨P, 9, none⟩ = some (.slice none 0 0) := HS7.out.c 9
          have d10 : w7.cell? ⟨P, 10, none⟩ = some (.slice none 0 0) := HS7.out.c 10
          have fP := HS7.out.f
          have y0 : w7.cell? ⟨w.heap.size, 0, none⟩ = some (.bool false) := by rw [cell_of_row w7 _ 0 _ _ _ HS7.out.bx]; rfl
          have y1 : w7.cell? ⟨w.heap.size, 1, none⟩ = some (.int .i64 0) := by rw [cell_of_row w7 _ 1 _ _ _ HS7.out.bx]; rfl
          have y2 : w7.cell? ⟨w.heap.size, 2, none⟩ = some (.int .u16 0) := by rw [cell_of_row w7 _ 2 _ _ _ HS7.out.bx]; rfl
          have y3 : w7.cell? ⟨w.heap.size, 3, none⟩ = some (.int .u32 0) := by rw [cell_of_row w7 _ 3 _ _ _ HS7.out.bx]; rfl
          have y4 : w7.cell? ⟨w.heap.size, 4, none⟩ = some (.int .u32 0) := by rw [cell_of_row w7 _ 4 _ _ _ HS7.out.bx]; rfl
          have y5 : w7.cell? ⟨w.heap.size, 5, none⟩ = some (.slice none 0 0) := by rw [cell_of_row w7 _ 5 _ _ _ HS7.out.bx]; rfl
          have y6 : w7.cell? ⟨w.heap.size, 6, none⟩ = some (.bool false) := by rw [cell_of_row w7 _ 6 _ _ _ HS7.out.bx]; rfl
          have y7 : w7.cell? ⟨w.heap.size, 7, none⟩ = some (.int .u16 0) := by rw [cell_of_row w7 _ 7 _ _ _ HS7.out.bx]; rfl
          have y8 : w7.cell? ⟨w.heap.size, 8, none⟩ = some (.slice none 0 0) := by rw [cell_of_row w7 _ 8 _ _ _ HS7.out.bx]; rfl
          have y9 : w7.cell? ⟨w.heap.size, 9, none⟩ = some (.slice none 0 0) := by rw [cell_of_row w7 _ 9 _ _ _ HS7.out.bx]; rfl
          have y10 : w7.cell? ⟨w.heap.size, 10, none⟩ = some (.slice none 0 0) := by rw [cell_of_row w7 _ 10 _ _ _ HS7.out.bx]; rfl
          have fB : ∀ o, w7.frozen? ⟨w.heap.size, o, none⟩ = false := fun o => frozen_of_row w7 _ o _ _ HS7.out.bx
          have hzz : ¬ w.heap.size = P := by have := HS7.out.ltP; omega
          have hzy : ¬ P = w.heap.size := by have := HS7.out.ltP; omega
          go_wp2_with fail
          obtain ⟨w8, hw8⟩ : ∃ w8, w7.setCell ⟨P, 9, none⟩ (.slice a7 (n - p) c7) = w8 := ⟨_, rfl⟩
          have hs8 := (show PS w (w7.setCell ⟨P, 9, none⟩ (.slice a7 (n - p) c7)) P #[.bool m, .int .i64 pt, .int .u16 sq, .int .u32 ts, .int .u32 sr, .slice ac i cc, .bool false, .int .u16 0, .slice none 0 0, .slice a7 (n - p) c7, .slice none 0 0] from HS7.out.store 9 (.slice a7 (n - p) c7))
          rw [hw8] at hs8
          rw [hw8]
          obtain ⟨w9, hw9⟩ : ∃ w9, putL w8 w.heap.size 0 [.bool m, .int .i64 pt, .int .u16 sq, .int .u32 ts, .int .u32 sr, .slice ac i cc, .bool false, .int .u16 0, .slice none 0 0, .slice a7 (n - p) c7, .slice none 0 0] = w9 := ⟨_, rfl⟩
          have P9 : Put w8 w9 w.heap.size #[.bool m, .int .i64 pt, .int .u16 sq, .int .u32 ts, .int .u32 sr, .slice ac i cc, .bool false, .int .u16 0, .slice none 0 0, .slice a7 (n - p) c7, .slice none 0 0] 66 := by rw [← hw9]; exact putL_is (us := [.bool false, .int .i64 0, .int .u16 0, .int .u32 0, .int .u32 0, .slice none 0 0, .bool false, .int .u16 0, .slice none 0 0, .slice none 0 0, .slice none 0 0]) hs8.bx rfl
          simp only [putL, Nat.zero_add, Nat.reduceAdd] at hw9
          rw [hw9]
          have q9 := P9.row
          have HF := Lib.hid (PS.done hs8 P9)
          clear hw8 hw9 hs8 P9 fB fP y0 d0 y1 d1 y2 d2 y3 d3 y4 d4 y5 d5 y6 d6 y7 d7 y8 d8 y9 d9 y10 d10
          have z0 : w9.cell? ⟨w.heap.size, 0, none⟩ = some (.bool m) := by rw [cell_of_row w9 _ 0 _ _ _ q9]; rfl
          have z1 : w9.cell? ⟨w.heap.size, 1, none⟩ = some (.int .i64 pt) := by rw [cell_of_row w9 _ 1 _ _ _ q9]; rfl
          have z2 : w9.cell? ⟨w.heap.size, 2, none⟩ = some (.int .u16 sq) := by rw [cell_of_row w9 _ 2 _ _ _ q9]; rfl
          have z3 : w9.cell? ⟨w.heap.size, 3, none⟩ = some (.int .u32 ts) := by rw [cell_of_row w9 _ 3 _ _ _ q9]; rfl
          have z4 : w9.cell? ⟨w.heap.size, 4, none⟩ = some (.int .u32 sr) := by rw [cell_of_row w9 _ 4 _ _ _ q9]; rfl
          have z5 : w9.cell? ⟨w.heap.size, 5, none⟩ = some (.slice ac i cc) := by rw [cell_of_row w9 _ 5 _ _ _ q9]; rfl
          have z6 : w9.cell? ⟨w.heap.size, 6, none⟩ = some (.bool false) := by rw [cell_of_row w9 _ 6 _ _ _ q9]; rfl
          have z7 : w9.cell? ⟨w.heap.size, 7, none⟩ = some (.int .u16 0) := by rw [cell_of_row w9 _ 7 _ _ _ q9]; rfl
          have z8 : w9.cell? ⟨w.heap.size, 8, none⟩ = some (.slice none 0 0) := by rw [cell_of_row w9 _ 8 _ _ _ q9]; rfl
          have z9 : w9.cell? ⟨w.heap.size, 9, none⟩ = some (.slice a7 (n - p) c7) := by rw [cell_of_row w9 _ 9 _ _ _ q9]; rfl
          have z10 : w9.cell? ⟨w.heap.size, 10, none⟩ = some (.slice none 0 0) := by rw [cell_of_row w9 _ 10 _ _ _ q9]; rfl
          exact bodyPost_ret (v := .tuple #[.agg #[.bool m, .int .i64 pt, .int .u16 sq, .int .u32 ts, .int .u32 sr, .slice ac i cc, .bool false, .int .u16 0, .slice none 0 0, .slice a7 (n - p) c7, .slice none 0 0], .int .i64 0]) (by simp [results, Try.results31, go_sem, z0, z1, z2, z3, z4, z5, z6, z7, z8, z9, z10]) rfl ⟨fun e => absurd HPC.out e, fun _ => HF.out⟩
        · have hpd : (x0 / 32 % 2 == 1) = true := by rw [HPAD.out, hpp]
          have HTL : Hid ((ptail l).length = n - p) := Lib.hid (by unfold ptail; rw [List.length_drop, hlen, HP2.out])
          by_cases hlt2 : p < n
          case neg =>
            have HPC : Hid (pcodeF n l = 21) := Lib.hid (by rw [HPE.out, if_pos ⟨hpp, by unfold psize; rw [if_pos (by rw [HTL.out]; omega)]⟩])
            have hz2 : ¬ (p : Int) < (n : Int) := by omega
            clear hpp
            have y0 : wr.cell? ⟨w.heap.size, 0, none⟩ = some (.bool false) := by rw [cell_of_row wr _ 0 _ _ _ HS.out.bx]; rfl
            have y1 : wr.cell? ⟨w.heap.size, 1, none⟩ = some (.int .i64 0) := by rw [cell_of_row wr _ 1 _ _ _ HS.out.bx]; rfl
            have y2 : wr.cell? ⟨w.heap.size, 2, none⟩ = some (.int .u16 0) := by rw [cell_of_row wr _ 2 _ _ _ HS.out.bx]; rfl
            have y3 : wr.cell? ⟨w.heap.size, 3, none⟩ = some (.int .u32 0) := by rw [cell_of_row wr _ 3 _ _ _ HS.out.bx]; rfl
            have y4 : wr.cell? ⟨w.heap.size, 4, none⟩ = some (.int .u32 0) := by rw [cell_of_row wr _ 4 _ _ _ HS.out.bx]; rfl
            have y5 : wr.cell? ⟨w.heap.size, 5, none⟩ = some (.slice none 0 0) := by rw [cell_of_row wr _ 5 _ _ _ HS.out.bx]; rfl
            have y6 : wr.cell? ⟨w.heap.size, 6, none⟩ = some (.bool false) := by rw [cell_of_row wr _ 6 _ _ _ HS.out.bx]; rfl
            have y7 : wr.cell? ⟨w.heap.size, 7, none⟩ = some (.int .u16 0) := by rw [cell_of_row wr _ 7 _ _ _ HS.out.bx]; rfl
            have y8 : wr.cell? ⟨w.heap.size, 8, none⟩ = some (.slice none 0 0) := by rw [cell_of_row wr _ 8 _ _ _ HS.out.bx]; rfl
            have y9 : wr.cell? ⟨w.heap.size, 9, none⟩ = some (.slice none 0 0) := by rw [cell_of_row wr _ 9 _ _ _ HS.out.bx]; rfl
            have y10 : wr.cell? ⟨w.heap.size, 10, none⟩ = some (.slice none 0 0) := by rw [cell_of_row wr _ 10 _ _ _ HS.out.bx]; rfl
            have fB : ∀ o, wr.frozen? ⟨w.heap.size, o, none⟩ = false := fun o => frozen_of_row wr _ o _ _ HS.out.bx
            go_wp2_with fail
            obtain ⟨w9, hw9⟩ : ∃ w9, putL wr w.heap.size 0 [.bool false, .int .i64 0, .int .u16 0, .int .u32 0, .int .u32 0, .slice none 0 0, .bool false, .int .u16 0, .slice none 0 0, .slice none 0 0, .slice none 0 0] = w9 := ⟨_, rfl⟩
            have P9 : Put wr w9 w.heap.size #[.bool false, .int .i64 0, .int .u16 0, .int .u32 0, .int .u32 0, .slice none 0 0, .bool false, .int .u16 0, .slice none 0 0, .slice none 0 0, .slice none 0 0] 66 := by rw [← hw9]; exact putL_is (us := [.bool false, .int .i64 0, .int .u16 0, .int .u32 0, .int .u32 0, .slice none 0 0, .bool false, .int .u16 0, .slice none 0 0, .slice none 0 0, .slice none 0 0]) HS.out.bx rfl
            simp only [putL, Nat.zero_add, Nat.reduceAdd] at hw9
            rw [hw9]
            have q9 := P9.row
            have HF := Lib.hid (PS.fail HS.out P9 21)
            clear hw9 P9 fB y0 y1 y2 y3 y4 y5 y6 y7 y8 y9 y10
            have z0 : w9.cell? ⟨w.heap.size, 0, none⟩ = some (.bool false) := by rw [cell_of_row w9 _ 0 _ _ _ q9]; rfl
            have z1 : w9.cell? ⟨w.heap.size, 1, none⟩ = some (.int .i64 0) := by rw [cell_of_row w9 _ 1 _ _ _ q9]; rfl
            have z2 : w9.cell? ⟨w.heap.size, 2, none⟩ = some (.int .u16 0) := by rw [cell_of_row w9 _ 2 _ _ _ q9]; rfl
            have z3 : w9.cell? ⟨w.heap.size, 3, none⟩ = some (.int .u32 0) := by rw [cell_of_row w9 _ 3 _ _ _ q9]; rfl
            have z4 : w9.cell? ⟨w.heap.size, 4, none⟩ = some (.int .u32 0) := by rw [cell_of_row w9 _ 4 _ _ _ q9]; rfl
            have z5 : w9.cell? ⟨w.heap.size, 5, none⟩ = some (.slice none 0 0) := by rw [cell_of_row w9 _ 5 _ _ _ q9]; rfl
            have z6 : w9.cell? ⟨w.heap.size, 6, none⟩ = some (.bool false) := by rw [cell_of_row w9 _ 6 _ _ _ q9]; rfl
            have z7 : w9.cell? ⟨w.heap.size, 7, none⟩ = some (.int .u16 0) := by rw [cell_of_row w9 _ 7 _ _ _ q9]; rfl
            have z8 : w9.cell? ⟨w.heap.size, 8, none⟩ = some (.slice none 0 0) := by rw [cell_of_row w9 _ 8 _ _ _ q9]; rfl
            have z9 : w9.cell? ⟨w.heap.size, 9, none⟩ = some (.slice none 0 0) := by rw [cell_of_row w9 _ 9 _ _ _ q9]; rfl
            have z10 : w9.cell? ⟨w.heap.size, 10, none⟩ = some (.slice none 0 0) := by rw [cell_of_row w9 _ 10 _ _ _ q9]; rfl
            exact bodyPost_ret (v := .tuple #[.agg #[.bool false, .int .i64 0, .int .u16 0, .int .u32 0, .int .u32 0, .slice none 0 0, .bool false, .int .u16 0, .slice none 0 0, .slice none 0 0, .slice none 0 0], .int .i64 21]) (by simp [results, Try.results31, go_sem, z0, z1, z2, z3, z4, z5, z6, z7, z8, z9, z10]) rfl ⟨fun _ => by rw [HPC.out]; exact HF.out, fun e => absurd (HPC.out.symm.trans e) (by decide)⟩
          have hz2 : (p : Int) < (n : Int) := by omega
          obtain ⟨_, _, de, qe⟩ := HR.out (n - 1) (by omega)
          have de : wr.cell? ⟨b, o + (n - 1), none⟩ = some (.int .u8 (l.getD (n - 1) 0)) := (HS.out.low.cell (p := ⟨b, o + (n - 1), none⟩) hbl).trans de
          have HPS : Hid (psize (ptail l) = if ((n - p : Nat) : Int) < l.getD (n - 1) 0 then 0 else (l.getD (n - 1) 0).toNat) := Lib.hid (by
            unfold psize
            rw [HTL.out, if_neg (by omega)]
            have e : (ptail l).getD (n - p - 1) 0 = l.getD (n - 1) 0 := by
              unfold ptail
              rw [getD_drop1, HP2.out]; congr 1; omega
            rw [e])
          have hi1 : (n : Int) - 1 = ((n - 1 : Nat) : Int) := by omega
          have hi2 : IntKind.i64.wrap ((n : Int) - 1) = ((n - 1 : Nat) : Int) := by rw [IntKind.wrap_i64]; omega
          have hi3 : ((n - 1 : Nat) : Int) < (n : Int) := by omega
          have hi4 : (0 : Int) ≤ ((n - 1 : Nat) : Int) := by omega
          have hi5 : IntKind.i64.wrap ((n : Int) - (p : Int)) = ((n - p : Nat) : Int) := by rw [IntKind.wrap_i64]; omega
          have hi6 : (n : Int) - (p : Int) = ((n - p : Nat) : Int) := by omega
          obtain ⟨y, hy⟩ : ∃ y, l.getD (n - 1) 0 = y := ⟨_, rfl⟩
          rw [hy] at de qe HPS
          have hwy : IntKind.i64.wrap y = y := by rw [IntKind.wrap_i64]; omega
          clear hy
          obtain ⟨n1, hn1'⟩ : ∃ m, n - 1 = m := ⟨_, rfl⟩
          rw [hn1'] at de hi1 hi2 hi3 hi4
          obtain ⟨r2, hr2⟩ : ∃ m, n - p = m := ⟨_, rfl⟩
          rw [hr2] at HPS hi5 hi6 HTL
          have HR2 := Lib.hid hr2; clear hr2 hn1'
          by_cases hy0 : y = 0
          · have hyb : (y == 0) = true := by simpa using hy0
            have HPC : Hid (pcodeF n l = 21) := Lib.hid (by rw [HPE.out, if_pos ⟨hpp, by rw [HPS.out, hy0, if_neg (by omega)]; rfl⟩])
            clear hpp
            have y0 : wr.cell? ⟨w.heap.size, 0, none⟩ = some (.bool false) := by rw [cell_of_row wr _ 0 _ _ _ HS.out.bx]; rfl
            have y1 : wr.cell? ⟨w.heap.size, 1, none⟩ = some (.int .i64 0) := by rw [cell_of_row wr _ 1 _ _ _ HS.out.bx]; rfl
            have y2 : wr.cell? ⟨w.heap.size, 2, none⟩ = some (.int .u16 0) := by rw [cell_of_row wr _ 2 _ _ _ HS.out.bx]; rfl
            have y3 : wr.cell? ⟨w.heap.size, 3, none⟩ = some (.int .u32 0) := by rw [cell_of_row wr _ 3 _ _ _ HS.out.bx]; rfl
            have y4 : wr.cell? ⟨w.heap.size, 4, none⟩ = some (.int .u32 0) := by rw [cell_of_row wr _ 4 _ _ _ HS.out.bx]; rfl
            have y5 : wr.cell? ⟨w.heap.size, 5, none⟩ = some (.slice none 0 0) := by rw [cell_of_row wr _ 5 _ _ _ HS.out.bx]; rfl
            have y6 : wr.cell? ⟨w.heap.size, 6, none⟩ = some (.bool false) := by rw [cell_of_row wr _ 6 _ _ _ HS.out.bx]; rfl
            have y7 : wr.cell? ⟨w.heap.size, 7, none⟩ = some (.int .u16 0) := by rw [cell_of_row wr _ 7 _ _ _ HS.out.bx]; rfl
            have y8 : wr.cell? ⟨w.heap.size, 8, none⟩ = some (.slice none 0 0) := by rw [cell_of_row wr _ 8 _ _ _ HS.out.bx]; rfl
            have y9 : wr.cell? ⟨w.heap.size, 9, none⟩ = some (.slice none 0 0) := by rw [cell_of_row wr _ 9 _ _ _ HS.out.bx]; rfl
            have y10 : wr.cell? ⟨w.heap.size, 10, none⟩ = some (.slice none 0 0) := by rw [cell_of_row wr _ 10 _ _ _ HS.out.bx]; rfl
            have fB : ∀ o, wr.frozen? ⟨w.heap.size, o, none⟩ = false := fun o => frozen_of_row wr _ o _ _ HS.out.bx
            go_wp2_with fail
            obtain ⟨w9, hw9⟩ : ∃ w9, putL wr w.heap.size 0 [.bool false, .int .i64 0, .int .u16 0, .int .u32 0, .int .u32 0, .slice none 0 0, .bool false, .int .u16 0, .slice none 0 0, .slice none 0 0, .slice none 0 0] = w9 := ⟨_, rfl⟩
            have P9 : Put wr w9 w.heap.size #[.bool false, .int .i64 0, .int .u16 0, .int .u32 0, .int .u32 0, .slice none 0 0, .bool false, .int .u16 0, .slice none 0 0, .slice none 0 0, .slice none 0 0] 66 := by rw [← hw9]; exact putL_is (us := [.bool false, .int .i64 0, .int .u16 0, .int .u32 0, .int .u32 0, .slice none 0 0, .bool false, .int .u16 0, .slice none 0 0, .slice none 0 0, .slice none 0 0]) HS.out.bx rfl
            simp only [putL, Nat.zero_add, Nat.reduceAdd] at hw9
            rw [hw9]
            have q9 := P9.row
            have HF := Lib.hid (PS.fail HS.out P9 21)
            clear hw9 P9 fB y0 y1 y2 y3 y4 y5 y6 y7 y8 y9 y10
            have z0 : w9.cell? ⟨w.heap.size, 0, none⟩ = some (.bool false) := by rw [cell_of_row w9 _ 0 _ _ _ q9]; rfl
            have z1 : w9.cell? ⟨w.heap.size, 1, none⟩ = some (.int .i64 0) := by rw [cell_of_row w9 _ 1 _ _ _ q9]; rfl
            have z2 : w9.cell? ⟨w.heap.size, 2, none⟩ = some (.int .u16 0) := by rw [cell_of_row w9 _ 2 _ _ _ q9]; rfl
            have z3 : w9.cell? ⟨w.heap.size, 3, none⟩ = some (.int .u32 0) := by rw [cell_of_row w9 _ 3 _ _ _ q9]; rfl
            have z4 : w9.cell? ⟨w.heap.size, 4, none⟩ = some (.int .u32 0) := by rw [cell_of_row w9 _ 4 _ _ _ q9]; rfl
            have z5 : w9.cell? ⟨w.heap.size, 5, none⟩ = some (.slice none 0 0) := by rw [cell_of_row w9 _ 5 _ _ _ q9]; rfl
            have z6 : w9.cell? ⟨w.heap.size, 6, none⟩ = some (.bool false) := by rw [cell_of_row w9 _ 6 _ _ _ q9]; rfl
            have z7 : w9.cell? ⟨w.heap.size, 7, none⟩ = some (.int .u16 0) := by rw [cell_of_row w9 _ 7 _ _ _ q9]; rfl
            have z8 : w9.cell? ⟨w.heap.size, 8, none⟩ = some (.slice none 0 0) := by rw [cell_of_row w9 _ 8 _ _ _ q9]; rfl
            have z9 : w9.cell? ⟨w.heap.size, 9, none⟩ = some (.slice none 0 0) := by rw [cell_of_row w9 _ 9 _ _ _ q9]; rfl
            have z10 : w9.cell? ⟨w.heap.size, 10, none⟩ = some (.slice none 0 0) := by rw [cell_of_row w9 _ 10 _ _ _ q9]; rfl
            exact bodyPost_ret (v := .tuple #[.agg #[.bool false, .int .i64 0, .int .u16 0, .int .u32 0, .int .u32 0, .slice none 0 0, .bool false, .int .u16 0, .slice none 0 0, .slice none 0 0, .slice none 0 0], .int .i64 21]) (by simp [results, Try.results31, go_sem, z0, z1, z2, z3, z4, z5, z6, z7, z8, z9, z10]) rfl ⟨fun _ => by rw [HPC.out]; exact HF.out, fun e => absurd (HPC.out.symm.trans e) (by decide)⟩
          have hyb : (y == 0) = false := by simpa using hy0
          by_cases hyl : ((r2 : Nat) : Int) < y
          · have HPC : Hid (pcodeF n l = 21) := Lib.hid (by rw [HPE.out, if_pos ⟨hpp, by rw [HPS.out, if_pos hyl]⟩])
            clear hpp
            have y0 : wr.cell? ⟨w.heap.size, 0, none⟩ = some (.bool false) := by rw [cell_of_row wr _ 0 _ _ _ HS.out.bx]; rfl
            have y1 : wr.cell? ⟨w.heap.size, 1, none⟩ = some (.int .i64 0) := by rw [cell_of_row wr _ 1 _ _ _ HS.out.bx]; rfl
            have y2 : wr.cell? ⟨w.heap.size, 2, none⟩ = some (.int .u16 0) := by rw [cell_of_row wr _ 2 _ _ _ HS.out.bx]; rfl
            have y3 : wr.cell? ⟨w.heap.size, 3, none⟩ = some (.int .u32 0) := by rw [cell_of_row wr _ 3 _ _ _ HS.out.bx]; rfl
            have y4 : wr.cell? ⟨w.heap.size, 4, none⟩ = some (.int .u32 0) := by rw [cell_of_row wr _ 4 _ _ _ HS.out.bx]; rfl
            have y5 : wr.cell? ⟨w.heap.size, 5, none⟩ = some (.slice none 0 0) := by rw [cell_of_row wr _ 5 _ _ _ HS.out.bx]; rfl
            have y6 : wr.cell? ⟨w.heap.size, 6, none⟩ = some (.bool false) := by rw [cell_of_row wr _ 6 _ _ _ HS.out.bx]; rfl
            have y7 : wr.cell? ⟨w.heap.size, 7, none⟩ = some (.int .u16 0) := by rw [cell_of_row wr _ 7 _ _ _ HS.out.bx]; rfl
            have y8 : wr.cell? ⟨w.heap.size, 8, none⟩ = some (.slice none 0 0) := by rw [cell_of_row wr _ 8 _ _ _ HS.out.bx]; rfl
            have y9 : wr.cell? ⟨w.heap.size, 9, none⟩ = some (.slice none 0 0) := by rw [cell_of_row wr _ 9 _ _ _ HS.out.bx]; rfl
            have y10 : wr.cell? ⟨w.heap.size, 10, none⟩ = some (.slice none 0 0) := by rw [cell_of_row wr _ 10 _ _ _ HS.out.bx]; rfl
            have fB : ∀ o, wr.frozen? ⟨w.heap.size, o, none⟩ = false := fun o => frozen_of_row wr _ o _ _ HS.out.bx
            go_wp2_with fail
            obtain ⟨w9, hw9⟩ : ∃ w9, putL wr w.heap.size 0 [.bool false, .int .i64 0, .int .u16 0, .int .u32 0, .int .u32 0, .slice none 0 0, .bool false, .int .u16 0, .slice none 0 0, .slice none 0 0, .slice none 0 0] = w9 := ⟨_, rfl⟩
            have P9 : Put wr w9 w.heap.size #[.bool false, .int .i64 0, .int .u16 0, .int .u32 0, .int .u32 0, .slice none 0 0, .bool false, .int .u16 0, .slice none 0 0, .slice none 0 0, .slice none 0 0] 66 := by rw [← hw9]; exact putL_is (us := [.bool false, .int .i64 0, .int .u16 0, .int .u32 0, .int .u32 0, .slice none 0 0, .bool false, .int .u16 0, .slice none 0 0, .slice none 0 0, .slice none 0 0]) HS.out.bx rfl
            simp only [putL, Nat.zero_add, Nat.reduceAdd] at hw9
            rw [hw9]
            have q9 := P9.row
            have HF := Lib.hid (PS.fail HS.out P9 21)
            clear hw9 P9 fB y0 y1 y2 y3 y4 y5 y6 y7 y8 y9 y10
            have z0 : w9.cell? ⟨w.heap.size, 0, none⟩ = some (.bool false) := by rw [cell_of_row w9 _ 0 _ _ _ q9]; rfl
            have z1 : w9.cell? ⟨w.heap.size, 1, none⟩ = some (.int .i64 0) := by rw [cell_of_row w9 _ 1 _ _ _ q9]; rfl
            have z2 : w9.cell? ⟨w.heap.size, 2, none⟩ = some (.int .u16 0) := by rw [cell_of_row w9 _ 2 _ _ _ q9]; rfl
            have z3 : w9.cell? ⟨w.heap.size, 3, none⟩ = some (.int .u32 0) := by rw [cell_of_row w9 _ 3 _ _ _ q9]; rfl
            have z4 : w9.cell? ⟨w.heap.size, 4, none⟩ = some (.int .u32 0) := by rw [cell_of_row w9 _ 4 _ _ _ q9]; rfl
            have z5 : w9.cell? ⟨w.heap.size, 5, none⟩ = some (.slice none 0 0) := by rw [cell_of_row w9 _ 5 _ _ _ q9]; rfl
            have z6 : w9.cell? ⟨w.heap.size, 6, none⟩ = some (.bool false) := by rw [cell_of_row w9 _ 6 _ _ _ q9]; rfl
            have z7 : w9.cell? ⟨w.heap.size, 7, none⟩ = some (.int .u16 0) := by rw [cell_of_row w9 _ 7 _ _ _ q9]; rfl
            have z8 : w9.cell? ⟨w.heap.size, 8, none⟩ = some (.slice none 0 0) := by rw [cell_of_row w9 _ 8 _ _ _ q9]; rfl
            have z9 : w9.cell? ⟨w.heap.size, 9, none⟩ = some (.slice none 0 0) := by rw [cell_of_row w9 _ 9 _ _ _ q9]; rfl
            have z10 : w9.cell? ⟨w.heap.size, 10, none⟩ = some (.slice none 0 0) := by rw [cell_of_row w9 _ 10 _ _ _ q9]; rfl
            exact bodyPost_ret (v := .tuple #[.agg #[.bool false, .int .i64 0, .int .u16 0, .int .u32 0, .int .u32 0, .slice none 0 0, .bool false, .int .u16 0, .slice none 0 0, .slice none 0 0, .slice none 0 0], .int .i64 21]) (by simp [results, Try.results31, go_sem, z0, z1, z2, z3, z4, z5, z6, z7, z8, z9, z10]) rfl ⟨fun _ => by rw [HPC.out]; exact HF.out, fun e => absurd (HPC.out.symm.trans e) (by decide)⟩
          have HPC : Hid (pcodeF n l = 0) := Lib.hid (by rw [HPE.out, if_neg (fun e => by have e := e.2; rw [HPS.out, if_neg hyl] at e; omega)])
          clear hpp
          obtain ⟨m2, hm2⟩ : ∃ m : Nat, m + y.toNat = n := ⟨n - y.toNat, by have := HR2.out; omega⟩
          have hi7 : IntKind.i64.wrap ((n : Int) - y) = (m2 : Int) := by rw [IntKind.wrap_i64]; omega
          have hi8 : (n : Int) - y = (m2 : Int) := by omega
          have hm3 : p ≤ m2 ∧ m2 ≤ n := by have := HR2.out; omega
          have hslr := HREST.out m2 (by omega)
          have hslm := HSL.out p (m2 - p) p m2 rfl (by omega) (by omega)
          have HM2 := Lib.hid hm2; clear hm2
          go_wp2_with fail
          refine (HCPR.out wr HS.out.low m2 (by omega)).mono ?_
          rintro e w6 ⟨a6, c6, rfl, hO6, hB6⟩
          have hs6 := HS.out.below hB6
          have k10 : w6.cell? ⟨P, 10, none⟩ = some (.slice none 0 0) := hs6.c 10
          have kf := hs6.f 10
          have HS6 := Lib.hid (show PS w (w6.setCell ⟨P, 10, none⟩ (.slice a6 (n - m2) c6)) P #[.bool m, .int .i64 pt, .int .u16 sq, .int .u32 ts, .int .u32 sr, .slice ac i cc, .bool false, .int .u16 0, .slice none 0 0, .slice none 0 0, .slice a6 (n - m2) c6] from hs6.store 10 (.slice a6 (n - m2) c6))
          clear hs6 hO6 hB6
          go_wp2_with fail
          clear k10 kf
          generalize World.setCell w6 ⟨P, 10, none⟩ (.slice a6 (n - m2) c6) = wq at HS6 ⊢
          refine (HCPY.out wq HS6.out.low p (m2 - p) (by omega)).mono ?_
          rintro e w7 ⟨a7, c7, rfl, hO7, hB7⟩
          have HS7 := Lib.hid (HS6.out.below hB7)
          clear hO7 hB7
          have d0 : w7.cell? ⟨P, 0, none⟩ = some (.bool m) := HS7.out.c 0
          have d1 : w7.cell? ⟨P, 1, none⟩ = some (.int .i64 pt) := HS7.out.c 1
          have d2 : w7.cell? ⟨P, 2, none⟩ = some (.int .u16 sq) := HS7.out.c 2
          have d3 : w7.cell? ⟨P, 3, none⟩ = some (.int .u32 ts) := HS7.out.c 3
          have d4 : w7.cell? ⟨P, 4, none⟩ = some (.int .u32 sr) := HS7.out.c 4
          have d5 : w7.cell? ⟨P, 5, none⟩ = some (.slice ac i cc) := HS7.out.c 5
          have d6 : w7.cell? ⟨P, 6, none⟩ = some (.bool false) := HS7.out.c 6
          have d7 : w7.cell? ⟨P, 7, none⟩ = some (.int .u16 0) := HS7.out.c 7
          have d8 : w7.cell? ⟨P, 8, none⟩ = some (.slice none 0 0) := HS7.out.c 8
          have d9 : w7.cell? ⟨P, 9, none⟩ = some (.slice none 0 0) := HS7.out.c 9
          have d10 : w7.cell? ⟨P, 10, none⟩ = some (.slice a6 (n - m2) c6) := HS7.out.c 10
          have fP := HS7.out.f
          have y0 : w7.cell? ⟨w.heap.size, 0, none⟩ = some (.bool false) := by rw [cell_of_row w7 _ 0 _ _ _ HS7.out.bx]; rfl
          have y1 : w7.cell? ⟨w.heap.size, 1, none⟩ = some (.int .i64 0) := by rw [cell_of_row w7 _ 1 _ _ _ HS7.out.bx]; rfl
          have y2 : w7.cell? ⟨w.heap.size, 2, none⟩ = some (.int .u16 0) := by rw [cell_of_row w7 _ 2 _ _ _ HS7.out.bx]; rfl
          have y3 : w7.cell? ⟨w.heap.size, 3, none⟩ = some (.int .u32 0) := by rw [cell_of_row w7 _ 3 _ _ _ HS7.out.bx]; rfl
          have y4 : w7.cell? ⟨w.heap.size, 4, none⟩ = some (.int .u32 0) := by rw [cell_of_row w7 _ 4 _ _ _ HS7.out.bx]; rfl
          have y5 : w7.cell? ⟨w.heap.size, 5, none⟩ = some (.slice none 0 0) := by rw [cell_of_row w7 _ 5 _ _ _ HS7.out.bx]; rfl
          have y6 : w7.cell? ⟨w.heap.size, 6, none⟩ = some (.bool false) := by rw [cell_of_row w7 _ 6 _ _ _ HS7.out.bx]; rfl
          have y7 : w7.cell? ⟨w.heap.size, 7, none⟩ = some (.int .u16 0) := by rw [cell_of_row w7 _ 7 _ _ _ HS7.out.bx]; rfl
          have y8 : w7.cell? ⟨w.heap.size, 8, none⟩ = some (.slice none 0 0) := by rw [cell_of_row w7 _ 8 _ _ _ HS7.out.bx]; rfl
          have y9 : w7.cell? ⟨w.heap.size, 9, none⟩ = some (.slice none 0 0) := by rw [cell_of_row w7 _ 9 _ _ _ HS7.out.bx]; rfl
          have y10 : w7.cell? ⟨w.heap.size, 10, none⟩ = some (.slice none 0 0) := by rw [cell_of_row w7 _ 10 _ _ _ HS7.out.bx]; rfl
          have fB : ∀ o, w7.frozen? ⟨w.heap.size, o, none⟩ = false := fun o => frozen_of_row w7 _ o _ _ HS7.out.bx
          have hzz : ¬ w.heap.size = P := by have := HS7.out.ltP; omega
          have hzy : ¬ P = w.heap.size := by have := HS7.out.ltP; omega
          go_wp2_with fail
          obtain ⟨w8, hw8⟩ : ∃ w8, w7.setCell ⟨P, 9, none⟩ (.slice a7 (m2 - p) c7) = w8 := ⟨_, rfl⟩
          have hs8 := (show PS w (w7.setCell ⟨P, 9, none⟩ (.slice a7 (m2 - p) c7)) P #[.bool m, .int .i64 pt, .int .u16 sq, .int .u32 ts, .int .u32 sr, .slice ac i cc, .bool false, .int .u16 0, .slice none 0 0, .slice a7 (m2 - p) c7, .slice a6 (n - m2) c6] from HS7.out.store 9 (.slice a7 (m2 - p) c7))
          rw [hw8] at hs8
          rw [hw8]
          obtain ⟨w9, hw9⟩ : ∃ w9, putL w8 w.heap.size 0 [.bool m, .int .i64 pt, .int .u16 sq, .int .u32 ts, .int .u32 sr, .slice ac i cc, .bool false, .int .u16 0, .slice none 0 0, .slice a7 (m2 - p) c7, .slice a6 (n - m2) c6] = w9 := ⟨_, rfl⟩
          have P9 : Put w8 w9 w.heap.size #[.bool m, .int .i64 pt, .int .u16 sq, .int .u32 ts, .int .u32 sr, .slice ac i cc, .bool false, .int .u16 0, .slice none 0 0, .slice a7 (m2 - p) c7, .slice a6 (n - m2) c6] 66 := by rw [← hw9]; exact putL_is (us := [.bool false, .int .i64 0, .int .u16 0, .int .u32 0, .int .u32 0, .slice none 0 0, .bool false, .int .u16 0, .slice none 0 0, .slice none 0 0, .slice none 0 0]) hs8.bx rfl
          simp only [putL, Nat.zero_add, Nat.reduceAdd] at hw9
          rw [hw9]
          have q9 := P9.row
          have HF := Lib.hid (PS.done hs8 P9)
          clear hw8 hw9 hs8 P9 fB fP y0 d0 y1 d1 y2 d2 y3 d3 y4 d4 y5 d5 y6 d6 y7 d7 y8 d8 y9 d9 y10 d10
          have z0 : w9.cell? ⟨w.heap.size, 0, none⟩ = some (.bool m) := by rw [cell_of_row w9 _ 0 _ _ _ q9]; rfl
          have z1 : w9.cell? ⟨w.heap.size, 1, none⟩ = some (.int .i64 pt) := by rw [cell_of_row w9 _ 1 _ _ _ q9]; rfl
          have z2 : w9.cell? ⟨w.heap.size, 2, none⟩ = some (.int .u16 sq) := by rw [cell_of_row w9 _ 2 _ _ _ q9]; rfl
          have z3 : w9.cell? ⟨w.heap.size, 3, none⟩ = some (.int .u32 ts) := by rw [cell_of_row w9 _ 3 _ _ _ q9]; rfl
          have z4 : w9.cell? ⟨w.heap.size, 4, none⟩ = some (.int .u32 sr) := by rw [cell_of_row w9 _ 4 _ _ _ q9]; rfl
          have z5 : w9.cell? ⟨w.heap.size, 5, none⟩ = some (.slice ac i cc) := by rw [cell_of_row w9 _ 5 _ _ _ q9]; rfl
          have z6 : w9.cell? ⟨w.heap.size, 6, none⟩ = some (.bool false) := by rw [cell_of_row w9 _ 6 _ _ _ q9]; rfl
          have z7 : w9.cell? ⟨w.heap.size, 7, none⟩ = some (.int .u16 0) := by rw [cell_of_row w9 _ 7 _ _ _ q9]; rfl
          have z8 : w9.cell? ⟨w.heap.size, 8, none⟩ = some (.slice none 0 0) := by rw [cell_of_row w9 _ 8 _ _ _ q9]; rfl
          have z9 : w9.cell? ⟨w.heap.size, 9, none⟩ = some (.slice a7 (m2 - p) c7) := by rw [cell_of_row w9 _ 9 _ _ _ q9]; rfl
          have z10 : w9.cell? ⟨w.heap.size, 10, none⟩ = some (.slice a6 (n - m2) c6) := by rw [cell_of_row w9 _ 10 _ _ _ q9]; rfl
          exact bodyPost_ret (v := .tuple #[.agg #[.bool m, .int .i64 pt, .int .u16 sq, .int .u32 ts, .int .u32 sr, .slice ac i cc, .bool false, .int .u16 0, .slice none 0 0, .slice a7 (m2 - p) c7, .slice a6 (n - m2) c6], .int .i64 0]) (by simp [results, Try.results31, go_sem, z0, z1, z2, z3, z4, z5, z6, z7, z8, z9, z10]) rfl ⟨fun e => absurd HPC.out e, fun _ => HF.out⟩
      · have hx4 : (x0 / 16 % 2 == 1) = true := by rw [HEXT.out, hx]
        by_cases he1 : p + 4 ≤ n
        case neg =>
          have hz16 : (n : Int) < (p : Int) + 4 := by omega
          have HPC : Hid (pcodeF n l = 20) := Lib.hid (by rw [rp_code h15]; exact pc2 (by omega) HV.out hx (by rw [HP1.out]; omega))
          clear hx
          have y0 : wr.cell? ⟨w.heap.size, 0, none⟩ = some (.bool false) := by rw [cell_of_row wr _ 0 _ _ _ HS.out.bx]; rfl
          have y1 : wr.cell? ⟨w.heap.size, 1, none⟩ = some (.int .i64 0) := by rw [cell_of_row wr _ 1 _ _ _ HS.out.bx]; rfl
          have y2 : wr.cell? ⟨w.heap.size, 2, none⟩ = some (.int .u16 0) := by rw [cell_of_row wr _ 2 _ _ _ HS.out.bx]; rfl
          have y3 : wr.cell? ⟨w.heap.size, 3, none⟩ = some (.int .u32 0) := by rw [cell_of_row wr _ 3 _ _ _ HS.out.bx]; rfl
          have y4 : wr.cell? ⟨w.heap.size, 4, none⟩ = some (.int .u32 0) := by rw [cell_of_row wr _ 4 _ _ _ HS.out.bx]; rfl
          have y5 : wr.cell? ⟨w.heap.size, 5, none⟩ = some (.slice none 0 0) := by rw [cell_of_row wr _ 5 _ _ _ HS.out.bx]; rfl
          have y6 : wr.cell? ⟨w.heap.size, 6, none⟩ = some (.bool false) := by rw [cell_of_row wr _ 6 _ _ _ HS.out.bx]; rfl
          have y7 : wr.cell? ⟨w.heap.size, 7, none⟩ = some (.int .u16 0) := by rw [cell_of_row wr _ 7 _ _ _ HS.out.bx]; rfl
          have y8 : wr.cell? ⟨w.heap.size, 8, none⟩ = some (.slice none 0 0) := by rw [cell_of_row wr _ 8 _ _ _ HS.out.bx]; rfl
          have y9 : wr.cell? ⟨w.heap.size, 9, none⟩ = some (.slice none 0 0) := by rw [cell_of_row wr _ 9 _ _ _ HS.out.bx]; rfl
          have y10 : wr.cell? ⟨w.heap.size, 10, none⟩ = some (.slice none 0 0) := by rw [cell_of_row wr _ 10 _ _ _ HS.out.bx]; rfl
          have fB : ∀ o, wr.frozen? ⟨w.heap.size, o, none⟩ = false := fun o => frozen_of_row wr _ o _ _ HS.out.bx
          go_wp2_with fail
          obtain ⟨w9, hw9⟩ : ∃ w9, putL wr w.heap.size 0 [.bool false, .int .i64 0, .int .u16 0, .int .u32 0, .int .u32 0, .slice none 0 0, .bool false, .int .u16 0, .slice none 0 0, .slice none 0 0, .slice none 0 0] = w9 := ⟨_, rfl⟩
          have P9 : Put wr w9 w.heap.size #[.bool false, .int .i64 0, .int .u16 0, .int .u32 0, .int .u32 0, .slice none 0 0, .bool false, .int .u16 0, .slice none 0 0, .slice none 0 0, .slice none 0 0] 66 := by rw [← hw9]; exact putL_is (us := [.bool false, .int .i64 0, .int .u16 0, .int .u32 0, .int .u32 0, .slice none 0 0, .bool false, .int .u16 0, .slice none 0 0, .slice none 0 0, .slice none 0 0]) HS.out.bx rfl
          simp only [putL, Nat.zero_add, Nat.reduceAdd] at hw9
          rw [hw9]
          have q9 := P9.row
          have HF := Lib.hid (PS.fail HS.out P9 20)
          clear hw9 P9 fB y0 y1 y2 y3 y4 y5 y6 y7 y8 y9 y10
          have z0 : w9.cell? ⟨w.heap.size, 0, none⟩ = some (.bool false) := by rw [cell_of_row w9 _ 0 _ _ _ q9]; rfl
          have z1 : w9.cell? ⟨w.heap.size, 1, none⟩ = some (.int .i64 0) := by rw [cell_of_row w9 _ 1 _ _ _ q9]; rfl
          have z2 : w9.cell? ⟨w.heap.size, 2, none⟩ = some (.int .u16 0) := by rw [cell_of_row w9 _ 2 _ _ _ q9]; rfl
          have z3 : w9.cell? ⟨w.heap.size, 3, none⟩ = some (.int .u32 0) := by rw [cell_of_row w9 _ 3 _ _ _ q9]; rfl
          have z4 : w9.cell? ⟨w.heap.size, 4, none⟩ = some (.int .u32 0) := by rw [cell_of_row w9 _ 4 _ _ _ q9]; rfl
          have z5 : w9.cell? ⟨w.heap.size, 5, none⟩ = some (.slice none 0 0) := by rw [cell_of_row w9 _ 5 _ _ _ q9]; rfl
          have z6 : w9.cell? ⟨w.heap.size, 6, none⟩ = some (.bool false) := by rw [cell_of_row w9 _ 6 _ _ _ q9]; rfl
          have z7 : w9.cell? ⟨w.heap.size, 7, none⟩ = some (.int .u16 0) := by rw [cell_of_row w9 _ 7 _ _ _ q9]; rfl
          have z8 : w9.cell? ⟨w.heap.size, 8, none⟩ = some (.slice none 0 0) := by rw [cell_of_row w9 _ 8 _ _ _ q9]; rfl
          have z9 : w9.cell? ⟨w.heap.size, 9, none⟩ = some (.slice none 0 0) := by rw [cell_of_row w9 _ 9 _ _ _ q9]; rfl
          have z10 : w9.cell? ⟨w.heap.size, 10, none⟩ = some (.slice none 0 0) := by rw [cell_of_row w9 _ 10 _ _ _ q9]; rfl
          exact bodyPost_ret (v := .tuple #[.agg #[.bool false, .int .i64 0, .int .u16 0, .int .u32 0, .int .u32 0, .slice none 0 0, .bool false, .int .u16 0, .slice none 0 0, .slice none 0 0, .slice none 0 0], .int .i64 20]) (by simp [results, Try.results31, go_sem, z0, z1, z2, z3, z4, z5, z6, z7, z8, z9, z10]) rfl ⟨fun _ => by rw [HPC.out]; exact HF.out, fun e => absurd (HPC.out.symm.trans e) (by decide)⟩
        have hz16 : ¬ (n : Int) < (p : Int) + 4 := by omega
        have hwp2 : IntKind.i64.wrap ((p : Int) + 2) = (p : Int) + 2 := by rw [IntKind.wrap_i64]; omega
        have hs2 := HSL.out (p + 2) 2 ((p : Int) + 2) ((p : Int) + 4) (by omega) (by omega) (by omega)
        have HNW := Lib.hid (HNUM.out wr HS.out.low (p + 2) 2 (by omega) (by decide))
        have hbw := num_lt (HA.out.ok.drop (p + 2)) 2 (by rw [List.length_drop]; omega) 65536 rfl
        obtain ⟨wd, hwd⟩ : ∃ x : Nat, Num ((l.drop (p + 2)).take 2) = (x : Int) := ⟨(Num ((l.drop (p + 2)).take 2)).toNat, by omega⟩
        rw [hwd] at HNW hbw
        have HWD : Hid (pwd l = wd) := Lib.hid (by unfold pwd; rw [HP1.out, hwd]; simp)
        have hw0 : IntKind.i64.wrap (wd : Int) = (wd : Int) := by rw [IntKind.wrap_i64]; omega
        have hw4 : IntKind.i64.wrap (4 * (wd : Int)) = 4 * (wd : Int) := by rw [IntKind.wrap_i64]; omega
        clear hwd
        go_wp2_with fail
        refine (HNW.out).mono ?_
        rintro e w8 ⟨rfl, e8w⟩
        subst e8w
        obtain ⟨p2, hp2⟩ : ∃ q, p + 4 + 4 * wd = q := ⟨_, rfl⟩
        have hi1e : IntKind.i64.wrap ((p : Int) + 4 + 4 * (wd : Int)) = (p2 : Int) := by rw [IntKind.wrap_i64]; omega
        have hi2e : (p : Int) + 4 + 4 * (wd : Int) = (p2 : Int) := by omega
        have HP2 : Hid (pat2 l = p2) := Lib.hid (by unfold pat2; rw [hx, if_pos rfl, HP1.out, HWD.out]; exact hp2)
        by_cases he2 : p2 ≤ n
        case neg =>
          have hz17 : (n : Int) < (p2 : Int) := by omega
          have HPC : Hid (pcodeF n l = 20) := Lib.hid (by rw [rp_code h15]; exact pc3 (by omega) HV.out (by rw [HP2.out]; omega))
          clear hx
          have y0 : wr.cell? ⟨w.heap.size, 0, none⟩ = some (.bool false) := by rw [cell_of_row wr _ 0 _ _ _ HS.out.bx]; rfl
          have y1 : wr.cell? ⟨w.heap.size, 1, none⟩ = some (.int .i64 0) := by rw [cell_of_row wr _ 1 _ _ _ HS.out.bx]; rfl
          have y2 : wr.cell? ⟨w.heap.size, 2, none⟩ = some (.int .u16 0) := by rw [cell_of_row wr _ 2 _ _ _ HS.out.bx]; rfl
          have y3 : wr.cell? ⟨w.heap.size, 3, none⟩ = some (.int .u32 0) := by rw [cell_of_row wr _ 3 _ _ _ HS.out.bx]; rfl
          have y4 : wr.cell? ⟨w.heap.size, 4, none⟩ = some (.int .u32 0) := by rw [cell_of_row wr _ 4 _ _ _ HS.out.bx]; rfl
          have y5 : wr.cell? ⟨w.heap.size, 5, none⟩ = some (.slice none 0 0) := by rw [cell_of_row wr _ 5 _ _ _ HS.out.bx]; rfl
          have y6 : wr.cell? ⟨w.heap.size, 6, none⟩ = some (.bool false) := by rw [cell_of_row wr _ 6 _ _ _ HS.out.bx]; rfl
          have y7 : wr.cell? ⟨w.heap.size, 7, none⟩ = some (.int .u16 0) := by rw [cell_of_row wr _ 7 _ _ _ HS.out.bx]; rfl
          have y8 : wr.cell? ⟨w.heap.size, 8, none⟩ = some (.slice none 0 0) := by rw [cell_of_row wr _ 8 _ _ _ HS.out.bx]; rfl
          have y9 : wr.cell? ⟨w.heap.size, 9, none⟩ = some (.slice none 0 0) := by rw [cell_of_row wr _ 9 _ _ _ HS.out.bx]; rfl
          have y10 : wr.cell? ⟨w.heap.size, 10, none⟩ = some (.slice none 0 0) := by rw [cell_of_row wr _ 10 _ _ _ HS.out.bx]; rfl
          have fB : ∀ o, wr.frozen? ⟨w.heap.size, o, none⟩ = false := fun o => frozen_of_row wr _ o _ _ HS.out.bx
          go_wp2_with fail
          obtain ⟨w9, hw9⟩ : ∃ w9, putL wr w.heap.size 0 [.bool false, .int .i64 0, .int .u16 0, .int .u32 0, .int .u32 0, .slice none 0 0, .bool false, .int .u16 0, .slice none 0 0, .slice none 0 0, .slice none 0 0] = w9 := ⟨_, rfl⟩
          have P9 : Put wr w9 w.heap.size #[.bool false, .int .i64 0, .int .u16 0, .int .u32 0, .int .u32 0, .slice none 0 0, .bool false, .int .u16 0, .slice none 0 0, .slice none 0 0, .slice none 0 0] 66 := by rw [← hw9]; exact putL_is (us := [.bool false, .int .i64 0, .int .u16 0, .int .u32 0, .int .u32 0, .slice none 0 0, .bool false, .int .u16 0, .slice none 0 0, .slice none 0 0, .slice none 0 0]) HS.out.bx rfl
          simp only [putL, Nat.zero_add, Nat.reduceAdd] at hw9
          rw [hw9]
          have q9 := P9.row
          have HF := Lib.hid (PS.fail HS.out P9 20)
          clear hw9 P9 fB y0 y1 y2 y3 y4 y5 y6 y7 y8 y9 y10
          have z0 : w9.cell? ⟨w.heap.size, 0, none⟩ = some (.bool false) := by rw [cell_of_row w9 _ 0 _ _ _ q9]; rfl
          have z1 : w9.cell? ⟨w.heap.size, 1, none⟩ = some (.int .i64 0) := by rw [cell_of_row w9 _ 1 _ _ _ q9]; rfl
          have z2 : w9.cell? ⟨w.heap.size, 2, none⟩ = some (.int .u16 0) := by rw [cell_of_row w9 _ 2 _ _ _ q9]; rfl
          have z3 : w9.cell? ⟨w.heap.size, 3, none⟩ = some (.int .u32 0) := by rw [cell_of_row w9 _ 3 _ _ _ q9]; rfl
          have z4 : w9.cell? ⟨w.heap.size, 4, none⟩ = some (.int .u32 0) := by rw [cell_of_row w9 _ 4 _ _ _ q9]; rfl
          have z5 : w9.cell? ⟨w.heap.size, 5, none⟩ = some (.slice none 0 0) := by rw [cell_of_row w9 _ 5 _ _ _ q9]; rfl
          have z6 : w9.cell? ⟨w.heap.size, 6, none⟩ = some (.bool false) := by rw [cell_of_row w9 _ 6 _ _ _ q9]; rfl
          have z7 : w9.cell? ⟨w.heap.size, 7, none⟩ = some (.int .u16 0) := by rw [cell_of_row w9 _ 7 _ _ _ q9]; rfl
          have z8 : w9.cell? ⟨w.heap.size, 8, none⟩ = some (.slice none 0 0) := by rw [cell_of_row w9 _ 8 _ _ _ q9]; rfl
          have z9 : w9.cell? ⟨w.heap.size, 9, none⟩ = some (.slice none 0 0) := by rw [cell_of_row w9 _ 9 _ _ _ q9]; rfl
          have z10 : w9.cell? ⟨w.heap.size, 10, none⟩ = some (.slice none 0 0) := by rw [cell_of_row w9 _ 10 _ _ _ q9]; rfl
          exact bodyPost_ret (v := .tuple #[.agg #[.bool false, .int .i64 0, .int .u16 0, .int .u32 0, .int .u32 0, .slice none 0 0, .bool false, .int .u16 0, .slice none 0 0, .slice none 0 0, .slice none 0 0], .int .i64 20]) (by simp [results, Try.results31, go_sem, z0, z1, z2, z3, z4, z5, z6, z7, z8, z9, z10]) rfl ⟨fun _ => by rw [HPC.out]; exact HF.out, fun e => absurd (HPC.out.symm.trans e) (by decide)⟩
        have hz17 : ¬ (n : Int) < (p2 : Int) := by omega
        have HPE : Hid (pcodeF n l = if ppad l = true ∧ psize (ptail l) = 0 then 21 else 0) := Lib.hid (by rw [rp_code h15]; exact pc_end (by omega) HV.out (by rw [HP1.out]; omega) (fun _ => by rw [HP1.out]; omega) (by rw [HP2.out]; omega))
        clear hx
        have c6 : wr.cell? ⟨P, 6, none⟩ = some (.bool false) := HS.out.c 6
        have ff := HS.out.f 6
        have hs3 := HSL.out p 2 (p : Int) ((p : Int) + 2) rfl rfl (by omega)
        have hs4 := HSL.out (p + 4) (4 * wd) ((p : Int) + 4) (p2 : Int) (by omega) (by omega) (by omega)
        have HS5 := Lib.hid (show PS w (wr.setCell ⟨P, 6, none⟩ (.bool true)) P #[.bool m, .int .i64 pt, .int .u16 sq, .int .u32 ts, .int .u32 sr, .slice ac i cc, .bool true, .int .u16 0, .slice none 0 0, .slice none 0 0, .slice none 0 0] from HS.out.store 6 (.bool true))
        have HNP := Lib.hid (HNUM.out _ HS5.out.low p 2 (by omega) (by decide))
        have hbp := num_lt (HA.out.ok.drop p) 2 (by rw [List.length_drop]; omega) 65536 rfl
        obtain ⟨pr, hpr⟩ : ∃ x, Num ((l.drop p).take 2) = x := ⟨_, rfl⟩
        rw [hpr] at HNP hbp
        clear hpr
        have epr : IntKind.u16.wrap pr = pr := by simp [IntKind.wrap, IntKind.bits, IntKind.signed]; omega
        go_wp2_with fail
        clear c6 ff HS
        generalize World.setCell wr ⟨P, 6, none⟩ (.bool true) = wp at HS5 HNP ⊢
        refine (HNP.out).mono ?_
        rintro e w8 ⟨rfl, e8w⟩
        subst e8w
        have c7 : wp.cell? ⟨P, 7, none⟩ = some (.int .u16 0) := HS5.out.c 7
        have ff := HS5.out.f 7
        have HS6 := Lib.hid (show PS w (wp.setCell ⟨P, 7, none⟩ (.int .u16 pr)) P #[.bool m, .int .i64 pt, .int .u16 sq, .int .u32 ts, .int .u32 sr, .slice ac i cc, .bool true, .int .u16 pr, .slice none 0 0, .slice none 0 0, .slice none 0 0] from HS5.out.store 7 (.int .u16 pr))
        go_wp2_with fail
        clear c7 ff HS5 HNP
        generalize World.setCell wp ⟨P, 7, none⟩ (.int .u16 pr) = ws at HS6 ⊢
        refine (HCPY.out ws HS6.out.low (p + 4) (4 * wd) (by omega)).mono ?_
        rintro e w6 ⟨a5, c5, rfl, hO6, hB6⟩
        have hs6 := HS6.out.below hB6
        have c8 : w6.cell? ⟨P, 8, none⟩ = some (.slice none 0 0) := hs6.c 8
        have ff := hs6.f 8
        have HS := Lib.hid (show PS w (w6.setCell ⟨P, 8, none⟩ (.slice a5 (4 * wd) c5)) P #[.bool m, .int .i64 pt, .int .u16 sq, .int .u32 ts, .int .u32 sr, .slice ac i cc, .bool true, .int .u16 pr, .slice a5 (4 * wd) c5, .slice none 0 0, .slice none 0 0] from hs6.store 8 (.slice a5 (4 * wd) c5))
        clear hs6 hO6 hB6 HS6 HP1 hbw hbp
        have hp2n : p2 ≤ n := he2
        obtain ⟨ne, hne⟩ : ∃ q, 4 * wd = q := ⟨_, rfl⟩
        rw [hne] at HS ⊢
        obtain ⟨wt, hwt⟩ : ∃ wt, World.setCell w6 ⟨P, 8, none⟩ (.slice a5 ne c5) = wt := ⟨_, rfl⟩
        rw [hwt] at HS
        clear d0
        have d0 : wt.cell? ⟨b, o, none⟩ = some (.int .u8 x0) := (HS.out.low.cell (p := ⟨b, o, none⟩) hbl).trans HD0.out
        cases hpp : ppad l
        · have hpd : (x0 / 32 % 2 == 1) = false := by rw [HPAD.out, hpp]
          have HPC : Hid (pcodeF n l = 0) := Lib.hid (by rw [HPE.out, hpp]; simp)
          have hsl := HSL.out p2 (n - p2) p2 n rfl (by omega) (by omega)
          clear hpp
          go_wp2_with fail
          refine (HCPY.out wt HS.out.low p2 (n - p2) (by omega)).mono ?_
          rintro e w7 ⟨a7, c7, rfl, hO7, hB7⟩
          have HS7 := Lib.hid (HS.out.below hB7)
          clear hO7 hB7
          have d0 : w7.cell? ⟨P, 0, none⟩ = some (.bool m) := HS7.out.c 0
          have d1 : w7.cell? ⟨P, 1, none⟩ = some (.int .i64 pt) := HS7.out.c 1
          have d2 : w7.cell? ⟨P, 2, none⟩ = some (.int .u16 sq) := HS7.out.c 2
          have d3 : w7.cell? ⟨P, 3, none⟩ = some (.int .u32 ts) := HS7.out.c 3
          have d4 : w7.cell? ⟨P, 4, none⟩ = some (.int .u32 sr) := HS7.out.c 4
          have d5 : w7.cell? ⟨P, 5, none⟩ = some (.slice ac i cc) := HS7.out.c 5
          have d6 : w7.cell? ⟨P, 6, none⟩ = some (.bool true) := HS7.out.c 6
          have d7 : w7.cell? ⟨P, 7, none⟩ = some (.int .u16 pr) := HS7.out.c 7
          have d8 : w7.cell? ⟨P, 8, none⟩ = some (.slice a5 ne c5) := HS7.out.c 8
          have d9 : w7.cell? ⟨P, 9, none⟩ = some (.slice none 0 0) := HS7.out.c 9
          have d10 : w7.cell? ⟨P, 10, none⟩ = some (.slice none 0 0) := HS7.out.c 10
          have fP := HS7.out.f
          have y0 : w7.cell? ⟨w.heap.size, 0, none⟩ = some (.bool false) := by rw [cell_of_row w7 _ 0 _ _ _ HS7.out.bx]; rfl
          have y1 : w7.cell? ⟨w.heap.size, 1, none⟩ = some (.int .i64 0) := by rw [cell_of_row w7 _ 1 _ _ _ HS7.out.bx]; rfl
          have y2 : w7.cell? ⟨w.heap.size, 2, none⟩ = some (.int .u16 0) := by rw [cell_of_row w7 _ 2 _ _ _ HS7.out.bx]; rfl
          have y3 : w7.cell? ⟨w.heap.size, 3, none⟩ = some (.int .u32 0) := by rw [cell_of_row w7 _ 3 _ _ _ HS7.out.bx]; rfl
          have y4 : w7.cell? ⟨w.heap.size, 4, none⟩ = some (.int .u32 0) := by rw [cell_of_row w7 _ 4 _ _ _ HS7.out.bx]; rfl
          have y5 : w7.cell? ⟨w.heap.size, 5, none⟩ = some (.slice none 0 0) := by rw [cell_of_row w7 _ 5 _ _ _ HS7.out.bx]; rfl
          have y6 : w7.cell? ⟨w.heap.size, 6, none⟩ = some (.bool false) := by rw [cell_of_row w7 _ 6 _ _ _ HS7.out.bx]; rfl
          have y7 : w7.cell? ⟨w.heap.size, 7, none⟩ = some (.int .u16 0) := by rw [cell_of_row w7 _ 7 _ _ _ HS7.out.bx]; rfl
          have y8 : w7.cell? ⟨w.heap.size, 8, none⟩ = some (.slice none 0 0) := by rw [cell_of_row w7 _ 8 _ _ _ HS7.out.bx]; rfl
          have y9 : w7.cell? ⟨w.heap.size, 9, none⟩ = some (.slice none 0 0) := by rw [cell_of_row w7 _ 9 _ _ _ HS7.out.bx]; rfl
          have y10 : w7.cell? ⟨w.heap.size, 10, none⟩ = some (.slice none 0 0) := by rw [cell_of_row w7 _ 10 _ _ _ HS7.out.bx]; rfl
          have fB : ∀ o, w7.frozen? ⟨w.heap.size, o, none⟩ = false := fun o => frozen_of_row w7 _ o _ _ HS7.out.bx
          have hzz : ¬ w.heap.size = P := by have := HS7.out.ltP; omega
          have hzy : ¬ P = w.heap.size := by have := HS7.out.ltP; omega
          go_wp2_with fail
          obtain ⟨w8, hw8⟩ : ∃ w8, w7.setCell ⟨P, 9, none⟩ (.slice a7 (n - p2) c7) = w8 := ⟨_, rfl⟩
          have hs8 := (show PS w (w7.setCell ⟨P, 9, none⟩ (.slice a7 (n - p2) c7)) P #[.bool m, .int .i64 pt, .int .u16 sq, .int .u32 ts, .int .u32 sr, .slice ac i cc, .bool true, .int .u16 pr, .slice a5 ne c5, .slice a7 (n - p2) c7, .slice none 0 0] from HS7.out.store 9 (.slice a7 (n - p2) c7))
          rw [hw8] at hs8
          rw [hw8]
          obtain ⟨w9, hw9⟩ : ∃ w9, putL w8 w.heap.size 0 [.bool m, .int .i64 pt, .int .u16 sq, .int .u32 ts, .int .u32 sr, .slice ac i cc, .bool true, .int .u16 pr, .slice a5 ne c5, .slice a7 (n - p2) c7, .slice none 0 0] = w9 := ⟨_, rfl⟩
          have P9 : Put w8 w9 w.heap.size #[.bool m, .int .i64 pt, .int .u16 sq, .int .u32 ts, .int .u32 sr, .slice ac i cc, .bool true, .int .u16 pr, .slice a5 ne c5, .slice a7 (n - p2) c7, .slice none 0 0] 66 := by rw [← hw9]; exact putL_is (us := [.bool false, .int .i64 0, .int .u16 0, .int .u32 0, .int .u32 0, .slice none 0 0, .bool false, .int .u16 0, .slice none 0 0, .slice none 0 0, .slice none 0 0]) hs8.bx rfl
          simp only [putL, Nat.zero_add, Nat.reduceAdd] at hw9
          rw [hw9]
          have q9 := P9.row
          have HF := Lib.hid (PS.done hs8 P9)
          clear hw8 hw9 hs8 P9 fB fP y0 d0 y1 d1 y2 d2 y3 d3 y4 d4 y5 d5 y6 d6 y7 d7 y8 d8 y9 d9 y10 d10
          have z0 : w9.cell? ⟨w.heap.size, 0, none⟩ = some (.bool m) := by rw [cell_of_row w9 _ 0 _ _ _ q9]; rfl
          have z1 : w9.cell? ⟨w.heap.size, 1, none⟩ = some (.int .i64 pt) := by rw [cell_of_row w9 _ 1 _ _ _ q9]; rfl
          have z2 : w9.cell? ⟨w.heap.size, 2, none⟩ = some (.int .u16 sq) := by rw [cell_of_row w9 _ 2 _ _ _ q9]; rfl
          have z3 : w9.cell? ⟨w.heap.size, 3, none⟩ = some (.int .u32 ts) := by rw [cell_of_row w9 _ 3 _ _ _ q9]; rfl
          have z4 : w9.cell? ⟨w.heap.size, 4, none⟩ = some (.int .u32 sr) := by rw [cell_of_row w9 _ 4 _ _ _ q9]; rfl
          have z5 : w9.cell? ⟨w.heap.size, 5, none⟩ = some (.slice ac i cc) := by rw [cell_of_row w9 _ 5 _ _ _ q9]; rfl
          have z6 : w9.cell? ⟨w.heap.size, 6, none⟩ = some (.bool true) := by rw [cell_of_row w9 _ 6 _ _ _ q9]; rfl
          have z7 : w9.cell? ⟨w.heap.size, 7, none⟩ = some (.int .u16 pr) := by rw [cell_of_row w9 _ 7 _ _ _ q9]; rfl
          have z8 : w9.cell? ⟨w.heap.size, 8, none⟩ = some (.slice a5 ne c5) := by rw [cell_of_row w9 _ 8 _ _ _ q9]; rfl
          have z9 : w9.cell? ⟨w.heap.size, 9, none⟩ = some (.slice a7 (n - p2) c7) := by rw [cell_of_row w9 _ 9 _ _ _ q9]; rfl
          have z10 : w9.cell? ⟨w.heap.size, 10, none⟩ = some (.slice none 0 0) := by rw [cell_of_row w9 _ 10 _ _ _ q9]; rfl
          exact bodyPost_ret (v := .tuple #[.agg #[.bool m, .int .i64 pt, .int .u16 sq, .int .u32 ts, .int .u32 sr, .slice ac i cc, .bool true, .int .u16 pr, .slice a5 ne c5, .slice a7 (n - p2) c7, .slice none 0 0], .int .i64 0]) (by simp [results, Try.results31, go_sem, z0, z1, z2, z3, z4, z5, z6, z7, z8, z9, z10]) rfl ⟨fun e => absurd HPC.out e, fun _ => HF.out⟩
        · have hpd : (x0 / 32 % 2 == 1) = true := by rw [HPAD.out, hpp]
          have HTL : Hid ((ptail l).length = n - p2) := Lib.hid (by unfold ptail; rw [List.length_drop, hlen, HP2.out])
          by_cases hlt2 : p2 < n
          case neg =>
            have HPC : Hid (pcodeF n l = 21) := Lib.hid (by rw [HPE.out, if_pos ⟨hpp, by unfold psize; rw [if_pos (by rw [HTL.out]; omega)]⟩])
            have hz2 : ¬ (p2 : Int) < (n : Int) := by omega
            clear hpp
            have y0 : wt.cell? ⟨w.heap.size, 0, none⟩ = some (.bool false) := by rw [cell_of_row wt _ 0 _ _ _ HS.out.bx]; rfl
            have y1 : wt.cell? ⟨w.heap.size, 1, none⟩ = some (.int .i64 0) := by rw [cell_of_row wt _ 1 _ _ _ HS.out.bx]; rfl
            have y2 : wt.cell? ⟨w.heap.size, 2, none⟩ = some (.int .u16 0) := by rw [cell_of_row wt _ 2 _ _ _ HS.out.bx]; rfl
            have y3 : wt.cell? ⟨w.heap.size, 3, none⟩ = some (.int .u32 0) := by rw [cell_of_row wt _ 3 _ _ _ HS.out.bx]; rfl
            have y4 : wt.cell? ⟨w.heap.size, 4, none⟩ = some (.int .u32 0) := by rw [cell_of_row wt _ 4 _ _ _ HS.out.bx]; rfl
            have y5 : wt.cell? ⟨w.heap.size, 5, none⟩ = some (.slice none 0 0) := by rw [cell_of_row wt _ 5 _ _ _ HS.out.bx]; rfl
            have y6 : wt.cell? ⟨w.heap.size, 6, none⟩ = some (.bool false) := by rw [cell_of_row wt _ 6 _ _ _ HS.out.bx]; rfl
            have y7 : wt.cell? ⟨w.heap.size, 7, none⟩ = some (.int .u16 0) := by rw [cell_of_row wt _ 7 _ _ _ HS.out.bx]; rfl
            have y8 : wt.cell? ⟨w.heap.size, 8, none⟩ = some (.slice none 0 0) := by rw [cell_of_row wt _ 8 _ _ _ HS.out.bx]; rfl
            have y9 : wt.cell? ⟨w.heap.size, 9, none⟩ = some (.slice none 0 0) := by rw [cell_of_row wt _ 9 _ _ _ HS.out.bx]; rfl
            have y10 : wt.cell? ⟨w.heap.size, 10, none⟩ = some (.slice none 0 0) := by rw [cell_of_row wt _ 10 _ _ _ HS.out.bx]; rfl
            have fB : ∀ o, wt.frozen? ⟨w.heap.size, o, none⟩ = false := fun o => frozen_of_row wt _ o _ _ HS.out.bx
            go_wp2_with fail
            obtain ⟨w9, hw9⟩ : ∃ w9, putL wt w.heap.size 0 [.bool false, .int .i64 0, .int .u16 0, .int .u32 0, .int .u32 0, .slice none 0 0, .bool false, .int .u16 0, .slice none 0 0, .slice none 0 0, .slice none 0 0] = w9 := ⟨_, rfl⟩
            have P9 : Put wt w9 w.heap.size #[.bool false, .int .i64 0, .int .u16 0, .int .u32 0, .int .u32 0, .slice none 0 0, .bool false, .int .u16 0, .slice none 0 0, .slice none 0 0, .slice none 0 0] 66 := by rw [← hw9]; exact putL_is (us := [.bool false, .int .i64 0, .int .u16 0, .int .u32 0, .int .u32 0, .slice none 0 0, .bool false, .int .u16 0, .slice none 0 0, .slice none 0 0, .slice none 0 0]) HS.out.bx rfl
            simp only [putL, Nat.zero_add, Nat.reduceAdd] at hw9
            rw [hw9]
            have q9 := P9.row
            have HF := Lib.hid (PS.fail HS.out P9 21)
            clear hw9 P9 fB y0 y1 y2 y3 y4 y5 y6 y7 y8 y9 y10
            have z0 : w9.cell? ⟨w.heap.size, 0, none⟩ = some (.bool false) := by rw [cell_of_row w9 _ 0 _ _ _ q9]; rfl
            have z1 : w9.cell? ⟨w.heap.size, 1, none⟩ = some (.int .i64 0) := by rw [cell_of_row w9 _ 1 _ _ _ q9]; rfl
            have z2 : w9.cell? ⟨w.heap.size, 2, none⟩ = some (.int .u16 0) := by rw [cell_of_row w9 _ 2 _ _ _ q9]; rfl
            have z3 : w9.cell? ⟨w.heap.size, 3, none⟩ = some (.int .u32 0) := by rw [cell_of_row w9 _ 3 _ _ _ q9]; rfl
            have z4 : w9.cell? ⟨w.heap.size, 4, none⟩ = some (.int .u32 0) := by rw [cell_of_row w9 _ 4 _ _ _ q9]; rfl
            have z5 : w9.cell? ⟨w.heap.size, 5, none⟩ = some (.slice none 0 0) := by rw [cell_of_row w9 _ 5 _ _ _ q9]; rfl
            have z6 : w9.cell? ⟨w.heap.size, 6, none⟩ = some (.bool false) := by rw [cell_of_row w9 _ 6 _ _ _ q9]; rfl
            have z7 : w9.cell? ⟨w.heap.size, 7, none⟩ = some (.int .u16 0) := by rw [cell_of_row w9 _ 7 _ _ _ q9]; rfl
            have z8 : w9.cell? ⟨w.heap.size, 8, none⟩ = some (.slice none 0 0) := by rw [cell_of_row w9 _ 8 _ _ _ q9]; rfl
            have z9 : w9.cell? ⟨w.heap.size, 9, none⟩ = some (.slice none 0 0) := by rw [cell_of_row w9 _ 9 _ _ _ q9]; rfl
            have z10 : w9.cell? ⟨w.heap.size, 10, none⟩ = some (.slice none 0 0) := by rw [cell_of_row w9 _ 10 _ _ _ q9]; rfl
            exact bodyPost_ret (v := .tuple #[.agg #[.bool false, .int .i64 0, .int .u16 0, .int .u32 0, .int .u32 0, .slice none 0 0, .bool false, .int .u16 0, .slice none 0 0, .slice none 0 0, .slice none 0 0], .int .i64 21]) (by simp [results, Try.results31, go_sem, z0, z1, z2, z3, z4, z5, z6, z7, z8, z9, z10]) rfl ⟨fun _ => by rw [HPC.out]; exact HF.out, fun e => absurd (HPC.out.symm.trans e) (by decide)⟩
          have hz2 : (p2 : Int) < (n : Int) := by omega
          obtain ⟨_, _, de, qe⟩ := HR.out (n - 1) (by omega)
          have de : wt.cell? ⟨b, o + (n - 1), none⟩ = some (.int .u8 (l.getD (n - 1) 0)) := (HS.out.low.cell (p := ⟨b, o + (n - 1), none⟩) hbl).trans de
          have HPS : Hid (psize (ptail l) = if ((n - p2 : Nat) : Int) < l.getD (n - 1) 0 then 0 else (l.getD (n - 1) 0).toNat) := Lib.hid (by
            unfold psize
            rw [HTL.out, if_neg (by omega)]
            have e : (ptail l).getD (n - p2 - 1) 0 = l.getD (n - 1) 0 := by
              unfold ptail
              rw [getD_drop1, HP2.out]; congr 1; omega
            rw [e])
          have hi1 : (n : Int) - 1 = ((n - 1 : Nat) : Int) := by omega
          have hi2 : IntKind.i64.wrap ((n : Int) - 1) = ((n - 1 : Nat) : Int) := by rw [IntKind.wrap_i64]; omega
          have hi3 : ((n - 1 : Nat) : Int) < (n : Int) := by omega
          have hi4 : (0 : Int) ≤ ((n - 1 : Nat) : Int) := by omega
          have hi5 : IntKind.i64.wrap ((n : Int) - (p2 : Int)) = ((n - p2 : Nat) : Int) := by rw [IntKind.wrap_i64]; omega
          have hi6 : (n : Int) - (p2 : Int) = ((n - p2 : Nat) : Int) := by omega
          obtain ⟨y, hy⟩ : ∃ y, l.getD (n - 1) 0 = y := ⟨_, rfl⟩
          rw [hy] at de qe HPS
          have hwy : IntKind.i64.wrap y = y := by rw [IntKind.wrap_i64]; omega
          clear hy
          obtain ⟨n1, hn1'⟩ : ∃ m, n - 1 = m := ⟨_, rfl⟩
          rw [hn1'] at de hi1 hi2 hi3 hi4
          obtain ⟨r2, hr2⟩ : ∃ m, n - p2 = m := ⟨_, rfl⟩
          rw [hr2] at HPS hi5 hi6 HTL
          have HR2 := Lib.hid hr2; clear hr2 hn1'
          by_cases hy0 : y = 0
          · have hyb : (y == 0) = true := by simpa using hy0
            have HPC : Hid (pcodeF n l = 21) := Lib.hid (by rw [HPE.out, if_pos ⟨hpp, by rw [HPS.out, hy0, if_neg (by omega)]; rfl⟩])
            clear hpp
            have y0 : wt.cell? ⟨w.heap.size, 0, none⟩ = some (.bool false) := by rw [cell_of_row wt _ 0 _ _ _ HS.out.bx]; rfl
            have y1 : wt.cell? ⟨w.heap.size, 1, none⟩ = some (.int .i64 0) := by rw [cell_of_row wt _ 1 _ _ _ HS.out.bx]; rfl
            have y2 : wt.cell? ⟨w.heap.size, 2, none⟩ = some (.int .u16 0) := by rw [cell_of_row wt _ 2 _ _ _ HS.out.bx]; rfl
            have y3 : wt.cell? ⟨w.heap.size, 3, none⟩ = some (.int .u32 0) := by rw [cell_of_row wt _ 3 _ _ _ HS.out.bx]; rfl
            have y4 : wt.cell? ⟨w.heap.size, 4, none⟩ = some (.int .u32 0) := by rw [cell_of_row wt _ 4 _ _ _ HS.out.bx]; rfl
            have y5 : wt.cell? ⟨w.heap.size, 5, none⟩ = some (.slice none 0 0) := by rw [cell_of_row wt _ 5 _ _ _ HS.out.bx]; rfl
            have y6 : wt.cell? ⟨w.heap.size, 6, none⟩ = some (.bool false) := by rw [cell_of_row wt _ 6 _ _ _ HS.out.bx]; rfl
            have y7 : wt.cell? ⟨w.heap.size, 7, none⟩ = some (.int .u16 0) := by rw [cell_of_row wt _ 7 _ _ _ HS.out.bx]; rfl
            have y8 : wt.cell? ⟨w.heap.size, 8, none⟩ = some (.slice none 0 0) := by rw [cell_of_row wt _ 8 _ _ _ HS.out.bx]; rfl
            have y9 : wt.cell? ⟨w.heap.size, 9, none⟩ = some (.slice none 0 0) := by rw [cell_of_row wt _ 9 _ _ _ HS.out.bx]; rfl
            have y10 : wt.cell? ⟨w.heap.size, 10, none⟩ = some (.slice none 0 0) := by rw [cell_of_row wt _ 10 _ _ _ HS.out.bx]; rfl
            have fB : ∀ o, wt.frozen? ⟨w.heap.size, o, none⟩ = false := fun o => frozen_of_row wt _ o _ _ HS.out.bx
            go_wp2_with fail
            obtain ⟨w9, hw9⟩ : ∃ w9, putL wt w.heap.size 0 [.bool false, .int .i64 0, .int .u16 0, .int .u32 0, .int .u32 0, .slice none 0 0, .bool false, .int .u16 0, .slice none 0 0, .slice none 0 0, .slice none 0 0] = w9 := ⟨_, rfl⟩
            have P9 : Put wt w9 w.heap.size #[.bool false, .int .i64 0, .int .u16 0, .int .u32 0, .int .u32 0, .slice none 0 0, .bool false, .int .u16 0, .slice none 0 0, .slice none 0 0, .slice none 0 0] 66 := by rw [← hw9]; exact putL_is (us := [.bool false, .int .i64 0, .int .u16 0, .int .u32 0, .int .u32 0, .slice none 0 0, .bool false, .int .u16 0, .slice none 0 0, .slice none 0 0, .slice none 0 0]) HS.out.bx rfl
            simp only [putL, Nat.zero_add, Nat.reduceAdd] at hw9
            rw [hw9]
            have q9 := P9.row
            have HF := Lib.hid (PS.fail HS.out P9 21)
            clear hw9 P9 fB y0 y1 y2 y3 y4 y5 y6 y7 y8 y9 y10
            have z0 : w9.cell? ⟨w.heap.size, 0, none⟩ = some (.bool false) := by rw [cell_of_row w9 _ 0 _ _ _ q9]; rfl
            have z1 : w9.cell? ⟨w.heap.size, 1, none⟩ = some (.int .i64 0) := by rw [cell_of_row w9 _ 1 _ _ _ q9]; rfl
            have z2 : w9.cell? ⟨w.heap.size, 2, none⟩ = some (.int .u16 0) := by rw [cell_of_row w9 _ 2 _ _ _ q9]; rfl
            have z3 : w9.cell? ⟨w.heap.size, 3, none⟩ = some (.int .u32 0) := by rw [cell_of_row w9 _ 3 _ _ _ q9]; rfl
            have z4 : w9.cell? ⟨w.heap.size, 4, none⟩ = some (.int .u32 0) := by rw [cell_of_row w9 _ 4 _ _ _ q9]; rfl
            have z5 : w9.cell? ⟨w.heap.size, 5, none⟩ = some (.slice none 0 0) := by rw [cell_of_row w9 _ 5 _ _ _ q9]; rfl
            have z6 : w9.cell? ⟨w.heap.size, 6, none⟩ = some (.bool false) := by rw [cell_of_row w9 _ 6 _ _ _ q9]; rfl
            have z7 : w9.cell? ⟨w.heap.size, 7, none⟩ = some (.int .u16 0) := by rw [cell_of_row w9 _ 7 _ _ _ q9]; rfl
            have z8 : w9.cell? ⟨w.heap.size, 8, none⟩ = some (.slice none 0 0) := by rw [cell_of_row w9 _ 8 _ _ _ q9]; rfl
            have z9 : w9.cell? ⟨w.heap.size, 9, none⟩ = some (.slice none 0 0) := by rw [cell_of_row w9 _ 9 _ _ _ q9]; rfl
            have z10 : w9.cell? ⟨w.heap.size, 10, none⟩ = some (.slice none 0 0) := by rw [cell_of_row w9 _ 10 _ _ _ q9]; rfl
            exact bodyPost_ret (v := .tuple #[.agg #[.bool false, .int .i64 0, .int .u16 0, .int .u32 0, .int .u32 0, .slice none 0 0, .bool false, .int .u16 0, .slice none 0 0, .slice none 0 0, .slice none 0 0], .int .i64 21]) (by simp [results, Try.results31, go_sem, z0, z1, z2, z3, z4, z5, z6, z7, z8, z9, z10]) rfl ⟨fun _ => by rw [HPC.out]; exact HF.out, fun e => absurd (HPC.out.symm.trans e) (by decide)⟩
          have hyb : (y == 0) = false := by simpa using hy0
          by_cases hyl : ((r2 : Nat) : Int) < y
          · have HPC : Hid (pcodeF n l = 21) := Lib.hid (by rw [HPE.out, if_pos ⟨hpp, by rw [HPS.out, if_pos hyl]⟩])
            clear hpp
            have y0 : wt.cell? ⟨w.heap.size, 0, none⟩ = some (.bool false) := by rw [cell_of_row wt _ 0 _ _ _ HS.out.bx]; rfl
            have y1 : wt.cell? ⟨w.heap.size, 1, none⟩ = some (.int .i64 0) := by rw [cell_of_row wt _ 1 _ _ _ HS.out.bx]; rfl
            have y2 : wt.cell? ⟨w.heap.size, 2, none⟩ = some (.int .u16 0) := by rw [cell_of_row wt _ 2 _ _ _ HS.out.bx]; rfl
            have y3 : wt.cell? ⟨w.heap.size, 3, none⟩ = some (.int .u32 0) := by rw [cell_of_row wt _ 3 _ _ _ HS.out.bx]; rfl
            have y4 : wt.cell? ⟨w.heap.size, 4, none⟩ = some (.int .u32 0) := by rw [cell_of_row wt _ 4 _ _ _ HS.out.bx]; rfl
            have y5 : wt.cell? ⟨w.heap.size, 5, none⟩ = some (.slice none 0 0) := by rw [cell_of_row wt _ 5 _ _ _ HS.out.bx]; rfl
            have y6 : wt.cell? ⟨w.heap.size, 6, none⟩ = some (.bool false) := by rw [cell_of_row wt _ 6 _ _ _ HS.out.bx]; rfl
            have y7 : wt.cell? ⟨w.heap.size, 7, none⟩ = some (.int .u16 0) := by rw [cell_of_row wt _ 7 _ _ _ HS.out.bx]; rfl
            have y8 : wt.cell? ⟨w.heap.size, 8, none⟩ = some (.slice none 0 0) := by rw [cell_of_row wt _ 8 _ _ _ HS.out.bx]; rfl
            have y9 : wt.cell? ⟨w.heap.size, 9, none⟩ = some (.slice none 0 0) := by rw [cell_of_row wt _ 9 _ _ _ HS.out.bx]; rfl
            have y10 : wt.cell? ⟨w.heap.size, 10, none⟩ = some (.slice none 0 0) := by rw [cell_of_row wt _ 10 _ _ _ HS.out.bx]; rfl
            have fB : ∀ o, wt.frozen? ⟨w.heap.size, o, none⟩ = false := fun o => frozen_of_row wt _ o _ _ HS.out.bx
            go_wp2_with fail
            obtain ⟨w9, hw9⟩ : ∃ w9, putL wt w.heap.size 0 [.bool false, .int .i64 0, .int .u16 0, .int .u32 0, .int .u32 0, .slice none 0 0, .bool false, .int .u16 0, .slice none 0 0, .slice none 0 0, .slice none 0 0] = w9 := ⟨_, rfl⟩
            have P9 : Put wt w9 w.heap.size #[.bool false, .int .i64 0, .int .u16 0, .int .u32 0, .int .u32 0, .slice none 0 0, .bool false, .int .u16 0, .slice none 0 0, .slice none 0 0, .slice none 0 0] 66 := by rw [← hw9]; exact putL_is (us := [.bool false, .int .i64 0, .int .u16 0, .int .u32 0, .int .u32 0, .slice none 0 0, .bool false, .int .u16 0, .slice none 0 0, .slice none 0 0, .slice none 0 0]) HS.out.bx rfl
            simp only [putL, Nat.zero_add, Nat.reduceAdd] at hw9
            rw [hw9]
            have q9 := P9.row
            have HF := Lib.hid (PS.fail HS.out P9 21)
            clear hw9 P9 fB y0 y1 y2 y3 y4 y5 y6 y7 y8 y9 y10
            have z0 : w9.cell? ⟨w.heap.size, 0, none⟩ = some (.bool false) := by rw [cell_of_row w9 _ 0 _ _ _ q9]; rfl
            have z1 : w9.cell? ⟨w.heap.size, 1, none⟩ = some (.int .i64 0) := by rw [cell_of_row w9 _ 1 _ _ _ q9]; rfl
            have z2 : w9.cell? ⟨w.heap.size, 2, none⟩ = some (.int .u16 0) := by rw [cell_of_row w9 _ 2 _ _ _ q9]; rfl
            have z3 : w9.cell? ⟨w.heap.size, 3, none⟩ = some (.int .u32 0) := by rw [cell_of_row w9 _ 3 _ _ _ q9]; rfl
            have z4 : w9.cell? ⟨w.heap.size, 4, none⟩ = some (.int .u32 0) := by rw [cell_of_row w9 _ 4 _ _ _ q9]; rfl
            have z5 : w9.cell? ⟨w.heap.size, 5, none⟩ = some (.slice none 0 0) := by rw [cell_of_row w9 _ 5 _ _ _ q9]; rfl
            have z6 : w9.cell? ⟨w.heap.size, 6, none⟩ = some (.bool false) := by rw [cell_of_row w9 _ 6 _ _ _ q9]; rfl
            have z7 : w9.cell? ⟨w.heap.size, 7, none⟩ = some (.int .u16 0) := by rw [cell_of_row w9 _ 7 _ _ _ q9]; rfl
            have z8 : w9.cell? ⟨w.heap.size, 8, none⟩ = some (.slice none 0 0) := by rw [cell_of_row w9 _ 8 _ _ _ q9]; rfl
            have z9 : w9.cell? ⟨w.heap.size, 9, none⟩ = some (.slice none 0 0) := by rw [cell_of_row w9 _ 9 _ _ _ q9]; rfl
            have z10 : w9.cell? ⟨w.heap.size, 10, none⟩ = some (.slice none 0 0) := by rw [cell_of_row w9 _ 10 _ _ _ q9]; rfl
            exact bodyPost_ret (v := .tuple #[.agg #[.bool false, .int .i64 0, .int .u16 0, .int .u32 0, .int .u32 0, .slice none 0 0, .bool false, .int .u16 0, .slice none 0 0, .slice none 0 0, .slice none 0 0], .int .i64 21]) (by simp [results, Try.results31, go_sem, z0, z1, z2, z3, z4, z5, z6, z7, z8, z9, z10]) rfl ⟨fun _ => by rw [HPC.out]; exact HF.out, fun e => absurd (HPC.out.symm.trans e) (by decide)⟩
          have HPC : Hid (pcodeF n l = 0) := Lib.hid (by rw [HPE.out, if_neg (fun e => by have e := e.2; rw [HPS.out, if_neg hyl] at e; omega)])
          clear hpp
          obtain ⟨m2, hm2⟩ : ∃ m : Nat, m + y.toNat = n := ⟨n - y.toNat, by have := HR2.out; omega⟩
          have hi7 : IntKind.i64.wrap ((n : Int) - y) = (m2 : Int) := by rw [IntKind.wrap_i64]; omega
          have hi8 : (n : Int) - y = (m2 : Int) := by omega
          have hm3 : p2 ≤ m2 ∧ m2 ≤ n := by have := HR2.out; omega
          have hslr := HREST.out m2 (by omega)
          have hslm := HSL.out p2 (m2 - p2) p2 m2 rfl (by omega) (by omega)
          have HM2 := Lib.hid hm2; clear hm2
          go_wp2_with fail
          refine (HCPR.out wt HS.out.low m2 (by omega)).mono ?_
          rintro e w6 ⟨a6, c6, rfl, hO6, hB6⟩
          have hs6 := HS.out.below hB6
          have k10 : w6.cell? ⟨P, 10, none⟩ = some (.slice none 0 0) := hs6.c 10
          have kf := hs6.f 10
          have HS6 := Lib.hid (show PS w (w6.setCell ⟨P, 10, none⟩ (.slice a6 (n - m2) c6)) P #[.bool m, .int .i64 pt, .int .u16 sq, .int .u32 ts, .int .u32 sr, .slice ac i cc, .bool true, .int .u16 pr, .slice a5 ne c5, .slice none 0 0, .slice a6 (n - m2) c6] from hs6.store 10 (.slice a6 (n - m2) c6))
          clear hs6 hO6 hB6
          go_wp2_with fail
          clear k10 kf
          generalize World.setCell w6 ⟨P, 10, none⟩ (.slice a6 (n - m2) c6) = wq at HS6 ⊢
          refine (HCPY.out wq HS6.out.low p2 (m2 - p2) (by omega)).mono ?_
          rintro e w7 ⟨a7, c7, rfl, hO7, hB7⟩
          have HS7 := Lib.hid (HS6.out.below hB7)
          clear hO7 hB7
          have d0 : w7.cell? ⟨P, 0, none⟩ = some (.bool m) := HS7.out.c 0
          have d1 : w7.cell? ⟨P, 1, none⟩ = some (.int .i64 pt) := HS7.out.c 1
          have d2 : w7.cell? ⟨P, 2, none⟩ = some (.int .u16 sq) := HS7.out.c 2
          have d3 : w7.cell? ⟨P, 3, none⟩ = some (.int .u32 ts) := HS7.out.c 3
          have d4 : w7.cell? ⟨P, 4, none⟩ = some (.int .u32 sr) := HS7.out.c 4
          have d5 : w7.cell? ⟨P, 5, none⟩ = some (.slice ac i cc) := HS7.out.c 5
          have d6 : w7.cell? ⟨P, 6, none⟩ = some (.bool true) := HS7.out.c 6
          have d7 : w7.cell? ⟨P, 7, none⟩ = some (.int .u16 pr) := HS7.out.c 7
          have d8 : w7.cell? ⟨P, 8, none⟩ = some (.slice a5 ne c5) := HS7.out.c 8
          have d9 : w7.cell? ⟨P, 9, none⟩ = some (.slice none 0 0) := HS7.out.c 9
          have d10 : w7.cell? ⟨P, 10, none⟩ = some (.slice a6 (n - m2) c6) := HS7.out.c 10
          have fP := HS7.out.f
          have y0 : w7.cell? ⟨w.heap.size, 0, none⟩ = some (.bool false) := by rw [cell_of_row w7 _ 0 _ _ _ HS7.out.bx]; rfl
          have y1 : w7.cell? ⟨w.heap.size, 1, none⟩ = some (.int .i64 0) := by rw [cell_of_row w7 _ 1 _ _ _ HS7.out.bx]; rfl
          have y2 : w7.cell? ⟨w.heap.size, 2, none⟩ = some (.int .u16 0) := by rw [cell_of_row w7 _ 2 _ _ _ HS7.out.bx]; rfl
          have y3 : w7.cell? ⟨w.heap.size, 3, none⟩ = some (.int .u32 0) := by rw [cell_of_row w7 _ 3 _ _ _ HS7.out.bx]; rfl
          have y4 : w7.cell? ⟨w.heap.size, 4, none⟩ = some (.int .u32 0) := by rw [cell_of_row w7 _ 4 _ _ _ HS7.out.bx]; rfl
          have y5 : w7.cell? ⟨w.heap.size, 5, none⟩ = some (.slice none 0 0) := by rw [cell_of_row w7 _ 5 _ _ _ HS7.out.bx]; rfl
          have y6 : w7.cell? ⟨w.heap.size, 6, none⟩ = some (.bool false) := by rw [cell_of_row w7 _ 6 _ _ _ HS7.out.bx]; rfl
          have y7 : w7.cell? ⟨w.heap.size, 7, none⟩ = some (.int .u16 0) := by rw [cell_of_row w7 _ 7 _ _ _ HS7.out.bx]; rfl
          have y8 : w7.cell? ⟨w.heap.size, 8, none⟩ = some (.slice none 0 0) := by rw [cell_of_row w7 _ 8 _ _ _ HS7.out.bx]; rfl
          have y9 : w7.cell? ⟨w.heap.size, 9, none⟩ = some (.slice none 0 0) := by rw [cell_of_row w7 _ 9 _ _ _ HS7.out.bx]; rfl
          have y10 : w7.cell? ⟨w.heap.size, 10, none⟩ = some (.slice none 0 0) := by rw [cell_of_row w7 _ 10 _ _ _ HS7.out.bx]; rfl
          have fB : ∀ o, w7.frozen? ⟨w.heap.size, o, none⟩ = false := fun o => frozen_of_row w7 _ o _ _ HS7.out.bx
          have hzz : ¬ w.heap.size = P := by have := HS7.out.ltP; omega
          have hzy : ¬ P = w.heap.size := by have := HS7.out.ltP; omega
          go_wp2_with fail
          obtain ⟨w8, hw8⟩ : ∃ w8, w7.setCell ⟨P, 9, none⟩ (.slice a7 (m2 - p2) c7) = w8 := ⟨_, rfl⟩
          have hs8 := (show PS w (w7.setCell ⟨P, 9, none⟩ (.slice a7 (m2 - p2) c7)) P #[.bool m, .int .i64 pt, .int .u16 sq, .int .u32 ts, .int .u32 sr, .slice ac i cc, .bool true, .int .u16 pr, .slice a5 ne c5, .slice a7 (m2 - p2) c7, .slice a6 (n - m2) c6] from HS7.out.store 9 (.slice a7 (m2 - p2) c7))
          rw [hw8] at hs8
          rw [hw8]
          obtain ⟨w9, hw9⟩ : ∃ w9, putL w8 w.heap.size 0 [.bool m, .int .i64 pt, .int .u16 sq, .int .u32 ts, .int .u32 sr, .slice ac i cc, .bool true, .int .u16 pr, .slice a5 ne c5, .slice a7 (m2 - p2) c7, .slice a6 (n - m2) c6] = w9 := ⟨_, rfl⟩
          have P9 : Put w8 w9 w.heap.size #[.bool m, .int .i64 pt, .int .u16 sq, .int .u32 ts, .int .u32 sr, .slice ac i cc, .bool true, .int .u16 pr, .slice a5 ne c5, .slice a7 (m2 - p2) c7, .slice a6 (n - m2) c6] 66 := by rw [← hw9]; exact putL_is (us := [.bool false, .int .i64 0, .int .u16 0, .int .u32 0, .int .u32 0, .slice none 0 0, .bool false, .int .u16 0, .slice none 0 0, .slice none 0 0, .slice none 0 0]) hs8.bx rfl
          simp only [putL, Nat.zero_add, Nat.reduceAdd] at hw9
          rw [hw9]
          have q9 := P9.row
          have HF := Lib.hid (PS.done hs8 P9)
          clear hw8 hw9 hs8 P9 fB fP y0 d0 y1 d1 y2 d2 y3 d3 y4 d4 y5 d5 y6 d6 y7 d7 y8 d8 y9 d9 y10 d10
          have z0 : w9.cell? ⟨w.heap.size, 0, none⟩ = some (.bool m) := by rw [cell_of_row w9 _ 0 _ _ _ q9]; rfl
          have z1 : w9.cell? ⟨w.heap.size, 1, none⟩ = some (.int .i64 pt) := by rw [cell_of_row w9 _ 1 _ _ _ q9]; rfl
          have z2 : w9.cell? ⟨w.heap.size, 2, none⟩ = some (.int .u16 sq) := by rw [cell_of_row w9 _ 2 _ _ _ q9]; rfl
          have z3 : w9.cell? ⟨w.heap.size, 3, none⟩ = some (.int .u32 ts) := by rw [cell_of_row w9 _ 3 _ _ _ q9]; rfl
          have z4 : w9.cell? ⟨w.heap.size, 4, none⟩ = some (.int .u32 sr) := by rw [cell_of_row w9 _ 4 _ _ _ q9]; rfl
          have z5 : w9.cell? ⟨w.heap.size, 5, none⟩ = some (.slice ac i cc) := by rw [cell_of_row w9 _ 5 _ _ _ q9]; rfl
          have z6 : w9.cell? ⟨w.heap.size, 6, none⟩ = some (.bool true) := by rw [cell_of_row w9 _ 6 _ _ _ q9]; rfl
          have z7 : w9.cell? ⟨w.heap.size, 7, none⟩ = some (.int .u16 pr) := by rw [cell_of_row w9 _ 7 _ _ _ q9]; rfl
          have z8 : w9.cell? ⟨w.heap.size, 8, none⟩ = some (.slice a5 ne c5) := by rw [cell_of_row w9 _ 8 _ _ _ q9]; rfl
          have z9 : w9.cell? ⟨w.heap.size, 9, none⟩ = some (.slice a7 (m2 - p2) c7) := by rw [cell_of_row w9 _ 9 _ _ _ q9]; rfl
          have z10 : w9.cell? ⟨w.heap.size, 10, none⟩ = some (.slice a6 (n - m2) c6) := by rw [cell_of_row w9 _ 10 _ _ _ q9]; rfl
          exact bodyPost_ret (v := .tuple #[.agg #[.bool m, .int .i64 pt, .int .u16 sq, .int .u32 ts, .int .u32 sr, .slice ac i cc, .bool true, .int .u16 pr, .slice a5 ne c5, .slice a7 (m2 - p2) c7, .slice a6 (n - m2) c6], .int .i64 0]) (by simp [results, Try.results31, go_sem, z0, z1, z2, z3, z4, z5, z6, z7, z8, z9, z10]) rfl ⟨fun e => absurd HPC.out e, fun _ => HF.out⟩
end Go.Proofs.Ytppgjodehphaeaa
namespace Go.Proofs.Ytppgjodehphaeaa
open Go.RowKit Go.Shelf
set_option linter.unusedVariables false
set_option linter.unusedSimpArgs false
set_option maxHeartbeats 1000000 in
set_option maxRecDepth 100000 in
theorem rparse5_small (a : Option Addr) (n c : Nat) (l : List Int) (w : World) (ha : BAt w a n l) (hs : 1500 < n ∨ n = 0 ∨ n ≤ 1500 ∧ l.getD 0 0 / 64 ≠ 2 ∨ n ≤ 1500 ∧ n < 12) :
    Calls Try.prog 31 #[.slice a n c] w fun e w' => pcodeF n l ≠ 0 ∧ RPO (pcodeF n l) 0 0 w e w' := by
  have hlen := ha.len
  have hlim := ha.lim
  obtain ⟨p1, p2, p3⟩ := pcodeF_small (l := l) hs
  generalize pcodeF n l = f at p1 p2 p3 ⊢
  obtain ⟨w0, hw0⟩ : ∃ w0, w.alloc (.cells #[.bool false, .int .i64 0, .int .u16 0, .int .u32 0, .int .u32 0, .slice none 0 0, .bool false, .int .u16 0, .slice none 0 0, .slice none 0 0, .slice none 0 0] 66) = w0 := ⟨_, rfl⟩
  have hB0 : Below w.heap.size w w0 := by rw [← hw0]; exact (Below.refl _ w).alloc (Nat.le_refl _) _
  have HBX : Hid (w0.heap[w.heap.size]? = some (.cells #[.bool false, .int .i64 0, .int .u16 0, .int .u32 0, .int .u32 0, .slice none 0 0, .bool false, .int .u16 0, .slice none 0 0, .slice none 0 0, .slice none 0 0] 66 (0, 0))) := Lib.hid (by rw [← hw0]; exact lit_new rfl)
  have HW0 := Lib.hid hw0; have HB0 := Lib.hid hB0
  clear hw0 hB0
  by_cases h1 : 1500 < n
  · have h1z : (1500 : Int) < (n : Int) := by omega
    obtain rfl := p1 h1
    clear p1 p2 p3 hs
    have y0 : w0.cell? ⟨w.heap.size, 0, none⟩ = some (.bool false) := by rw [cell_of_row w0 _ 0 _ _ _ HBX.out]; rfl
    have y1 : w0.cell? ⟨w.heap.size, 1, none⟩ = some (.int .i64 0) := by rw [cell_of_row w0 _ 1 _ _ _ HBX.out]; rfl
    have y2 : w0.cell? ⟨w.heap.size, 2, none⟩ = some (.int .u16 0) := by rw [cell_of_row w0 _ 2 _ _ _ HBX.out]; rfl
    have y3 : w0.cell? ⟨w.heap.size, 3, none⟩ = some (.int .u32 0) := by rw [cell_of_row w0 _ 3 _ _ _ HBX.out]; rfl
    have y4 : w0.cell? ⟨w.heap.size, 4, none⟩ = some (.int .u32 0) := by rw [cell_of_row w0 _ 4 _ _ _ HBX.out]; rfl
    have y5 : w0.cell? ⟨w.heap.size, 5, none⟩ = some (.slice none 0 0) := by rw [cell_of_row w0 _ 5 _ _ _ HBX.out]; rfl
    have y6 : w0.cell? ⟨w.heap.size, 6, none⟩ = some (.bool false) := by rw [cell_of_row w0 _ 6 _ _ _ HBX.out]; rfl
    have y7 : w0.cell? ⟨w.heap.size, 7, none⟩ = some (.int .u16 0) := by rw [cell_of_row w0 _ 7 _ _ _ HBX.out]; rfl
    have y8 : w0.cell? ⟨w.heap.size, 8, none⟩ = some (.slice none 0 0) := by rw [cell_of_row w0 _ 8 _ _ _ HBX.out]; rfl
    have y9 : w0.cell? ⟨w.heap.size, 9, none⟩ = some (.slice none 0 0) := by rw [cell_of_row w0 _ 9 _ _ _ HBX.out]; rfl
    have y10 : w0.cell? ⟨w.heap.size, 10, none⟩ = some (.slice none 0 0) := by rw [cell_of_row w0 _ 10 _ _ _ HBX.out]; rfl
    have fB : ∀ o, w0.frozen? ⟨w.heap.size, o, none⟩ = false := fun o => frozen_of_row w0 _ o _ _ HBX.out
    have hw0 := HW0.out
    go_enter Try.func31, Try.ntmps31
    go_wp2_with fail
    obtain ⟨w9, hw9⟩ : ∃ w9, putL w0 w.heap.size 0 [.bool false, .int .i64 0, .int .u16 0, .int .u32 0, .int .u32 0, .slice none 0 0, .bool false, .int .u16 0, .slice none 0 0, .slice none 0 0, .slice none 0 0] = w9 := ⟨_, rfl⟩
    have P9 : Put w0 w9 w.heap.size #[.bool false, .int .i64 0, .int .u16 0, .int .u32 0, .int .u32 0, .slice none 0 0, .bool false, .int .u16 0, .slice none 0 0, .slice none 0 0, .slice none 0 0] 66 := by rw [← hw9]; exact putL_is (us := [.bool false, .int .i64 0, .int .u16 0, .int .u32 0, .int .u32 0, .slice none 0 0, .bool false, .int .u16 0, .slice none 0 0, .slice none 0 0, .slice none 0 0]) HBX.out rfl
    simp only [putL, Nat.zero_add, Nat.reduceAdd] at hw9
    rw [hw9]
    have q9 := P9.row
    have HB9 := Lib.hid (HB0.out.grown P9.grown HB0.out.size (fun k e => by cases e; exact Nat.le_refl _))
    clear hw9 P9 fB hw0 y0 y1 y2 y3 y4 y5 y6 y7 y8 y9 y10
    have z0 : w9.cell? ⟨w.heap.size, 0, none⟩ = some (.bool false) := by rw [cell_of_row w9 _ 0 _ _ _ q9]; rfl
    have z1 : w9.cell? ⟨w.heap.size, 1, none⟩ = some (.int .i64 0) := by rw [cell_of_row w9 _ 1 _ _ _ q9]; rfl
    have z2 : w9.cell? ⟨w.heap.size, 2, none⟩ = some (.int .u16 0) := by rw [cell_of_row w9 _ 2 _ _ _ q9]; rfl
    have z3 : w9.cell? ⟨w.heap.size, 3, none⟩ = some (.int .u32 0) := by rw [cell_of_row w9 _ 3 _ _ _ q9]; rfl
    have z4 : w9.cell? ⟨w.heap.size, 4, none⟩ = some (.int .u32 0) := by rw [cell_of_row w9 _ 4 _ _ _ q9]; rfl
    have z5 : w9.cell? ⟨w.heap.size, 5, none⟩ = some (.slice none 0 0) := by rw [cell_of_row w9 _ 5 _ _ _ q9]; rfl
    have z6 : w9.cell? ⟨w.heap.size, 6, none⟩ = some (.bool false) := by rw [cell_of_row w9 _ 6 _ _ _ q9]; rfl
    have z7 : w9.cell? ⟨w.heap.size, 7, none⟩ = some (.int .u16 0) := by rw [cell_of_row w9 _ 7 _ _ _ q9]; rfl
    have z8 : w9.cell? ⟨w.heap.size, 8, none⟩ = some (.slice none 0 0) := by rw [cell_of_row w9 _ 8 _ _ _ q9]; rfl
    have z9 : w9.cell? ⟨w.heap.size, 9, none⟩ = some (.slice none 0 0) := by rw [cell_of_row w9 _ 9 _ _ _ q9]; rfl
    have z10 : w9.cell? ⟨w.heap.size, 10, none⟩ = some (.slice none 0 0) := by rw [cell_of_row w9 _ 10 _ _ _ q9]; rfl
    exact bodyPost_ret (v := .tuple #[.agg #[.bool false, .int .i64 0, .int .u16 0, .int .u32 0, .int .u32 0, .slice none 0 0, .bool false, .int .u16 0, .slice none 0 0, .slice none 0 0, .slice none 0 0], .int .i64 2]) (by simp [results, Try.results31, go_sem, z0, z1, z2, z3, z4, z5, z6, z7, z8, z9, z10]) rfl (by first | exact RPO.zero _ HB9.out | exact ⟨by decide, RPO.zero _ HB9.out⟩)
  have h1z : ¬ (1500 : Int) < (n : Int) := by omega
  by_cases h0 : n = 0
  · subst h0
    obtain rfl := p3 (by omega) (.inl rfl) (by omega)
    clear p1 p2 p3 hs
    have y0 : w0.cell? ⟨w.heap.size, 0, none⟩ = some (.bool false) := by rw [cell_of_row w0 _ 0 _ _ _ HBX.out]; rfl
    have y1 : w0.cell? ⟨w.heap.size, 1, none⟩ = some (.int .i64 0) := by rw [cell_of_row w0 _ 1 _ _ _ HBX.out]; rfl
    have y2 : w0.cell? ⟨w.heap.size, 2, none⟩ = some (.int .u16 0) := by rw [cell_of_row w0 _ 2 _ _ _ HBX.out]; rfl
    have y3 : w0.cell? ⟨w.heap.size, 3, none⟩ = some (.int .u32 0) := by rw [cell_of_row w0 _ 3 _ _ _ HBX.out]; rfl
    have y4 : w0.cell? ⟨w.heap.size, 4, none⟩ = some (.int .u32 0) := by rw [cell_of_row w0 _ 4 _ _ _ HBX.out]; rfl
    have y5 : w0.cell? ⟨w.heap.size, 5, none⟩ = some (.slice none 0 0) := by rw [cell_of_row w0 _ 5 _ _ _ HBX.out]; rfl
    have y6 : w0.cell? ⟨w.heap.size, 6, none⟩ = some (.bool false) := by rw [cell_of_row w0 _ 6 _ _ _ HBX.out]; rfl
    have y7 : w0.cell? ⟨w.heap.size, 7, none⟩ = some (.int .u16 0) := by rw [cell_of_row w0 _ 7 _ _ _ HBX.out]; rfl
    have y8 : w0.cell? ⟨w.heap.size, 8, none⟩ = some (.slice none 0 0) := by rw [cell_of_row w0 _ 8 _ _ _ HBX.out]; rfl
    have y9 : w0.cell? ⟨w.heap.size, 9, none⟩ = some (.slice none 0 0) := by rw [cell_of_row w0 _ 9 _ _ _ HBX.out]; rfl
    have y10 : w0.cell? ⟨w.heap.size, 10, none⟩ = some (.slice none 0 0) := by rw [cell_of_row w0 _ 10 _ _ _ HBX.out]; rfl
    have fB : ∀ o, w0.frozen? ⟨w.heap.size, o, none⟩ = false := fun o => frozen_of_row w0 _ o _ _ HBX.out
    have hw0 := HW0.out
    go_enter Try.func31, Try.ntmps31
    go_wp2_with fail
    obtain ⟨w9, hw9⟩ : ∃ w9, putL w0 w.heap.size 0 [.bool false, .int .i64 0, .int .u16 0, .int .u32 0, .int .u32 0, .slice none 0 0, .bool false, .int .u16 0, .slice none 0 0, .slice none 0 0, .slice none 0 0] = w9 := ⟨_, rfl⟩
    have P9 : Put w0 w9 w.heap.size #[.bool false, .int .i64 0, .int .u16 0, .int .u32 0, .int .u32 0, .slice none 0 0, .bool false, .int .u16 0, .slice none 0 0, .slice none 0 0, .slice none 0 0] 66 := by rw [← hw9]; exact putL_is (us := [.bool false, .int .i64 0, .int .u16 0, .int .u32 0, .int .u32 0, .slice none 0 0, .bool false, .int .u16 0, .slice none 0 0, .slice none 0 0, .slice none 0 0]) HBX.out rfl
    simp only [putL, Nat.zero_add, Nat.reduceAdd] at hw9
    rw [hw9]
    have q9 := P9.row
    have HB9 := Lib.hid (HB0.out.grown P9.grown HB0.out.size (fun k e => by cases e; exact Nat.le_refl _))
    clear hw9 P9 fB hw0 y0 y1 y2 y3 y4 y5 y6 y7 y8 y9 y10
    have z0 : w9.cell? ⟨w.heap.size, 0, none⟩ = some (.bool false) := by rw [cell_of_row w9 _ 0 _ _ _ q9]; rfl
    have z1 : w9.cell? ⟨w.heap.size, 1, none⟩ = some (.int .i64 0) := by rw [cell_of_row w9 _ 1 _ _ _ q9]; rfl
    have z2 : w9.cell? ⟨w.heap.size, 2, none⟩ = some (.int .u16 0) := by rw [cell_of_row w9 _ 2 _ _ _ q9]; rfl
    have z3 : w9.cell? ⟨w.heap.size, 3, none⟩ = some (.int .u32 0) := by rw [cell_of_row w9 _ 3 _ _ _ q9]; rfl
    have z4 : w9.cell? ⟨w.heap.size, 4, none⟩ = some (.int .u32 0) := by rw [cell_of_row w9 _ 4 _ _ _ q9]; rfl
    have z5 : w9.cell? ⟨w.heap.size, 5, none⟩ = some (.slice none 0 0) := by rw [cell_of_row w9 _ 5 _ _ _ q9]; rfl
    have z6 : w9.cell? ⟨w.heap.size, 6, none⟩ = some (.bool false) := by rw [cell_of_row w9 _ 6 _ _ _ q9]; rfl
    have z7 : w9.cell? ⟨w.heap.size, 7, none⟩ = some (.int .u16 0) := by rw [cell_of_row w9 _ 7 _ _ _ q9]; rfl
    have z8 : w9.cell? ⟨w.heap.size, 8, none⟩ = some (.slice none 0 0) := by rw [cell_of_row w9 _ 8 _ _ _ q9]; rfl
    have z9 : w9.cell? ⟨w.heap.size, 9, none⟩ = some (.slice none 0 0) := by rw [cell_of_row w9 _ 9 _ _ _ q9]; rfl
    have z10 : w9.cell? ⟨w.heap.size, 10, none⟩ = some (.slice none 0 0) := by rw [cell_of_row w9 _ 10 _ _ _ q9]; rfl
    exact bodyPost_ret (v := .tuple #[.agg #[.bool false, .int .i64 0, .int .u16 0, .int .u32 0, .int .u32 0, .slice none 0 0, .bool false, .int .u16 0, .slice none 0 0, .slice none 0 0, .slice none 0 0], .int .i64 20]) (by simp [results, Try.results31, go_sem, z0, z1, z2, z3, z4, z5, z6, z7, z8, z9, z10]) rfl (by first | exact RPO.zero _ HB9.out | exact ⟨by decide, RPO.zero _ HB9.out⟩)
  have h0z : (0 : Int) < (n : Int) := by omega
  obtain ⟨b, o, hr⟩ := ha.row
  obtain ⟨rfl, hbl, d0, q0⟩ := hr 0 (by omega)
  rw [Nat.add_zero] at d0
  have d0' : w0.cell? ⟨b, o, none⟩ = some (.int .u8 (l.getD 0 0)) := (HB0.out.cell (p := ⟨b, o, none⟩) hbl).trans d0
  clear hr d0 ha
  by_cases hv : l.getD 0 0 / 64 = 2
  case neg =>
    have hvn : (l.getD 0 0 / 64 != 2) = true := by simpa using hv
    obtain rfl := p2 (by omega) h0 hv
    clear p1 p2 p3 hs
    generalize l.getD 0 0 = x0 at *
    have y0 : w0.cell? ⟨w.heap.size, 0, none⟩ = some (.bool false) := by rw [cell_of_row w0 _ 0 _ _ _ HBX.out]; rfl
    have y1 : w0.cell? ⟨w.heap.size, 1, none⟩ = some (.int .i64 0) := by rw [cell_of_row w0 _ 1 _ _ _ HBX.out]; rfl
    have y2 : w0.cell? ⟨w.heap.size, 2, none⟩ = some (.int .u16 0) := by rw [cell_of_row w0 _ 2 _ _ _ HBX.out]; rfl
    have y3 : w0.cell? ⟨w.heap.size, 3, none⟩ = some (.int .u32 0) := by rw [cell_of_row w0 _ 3 _ _ _ HBX.out]; rfl
    have y4 : w0.cell? ⟨w.heap.size, 4, none⟩ = some (.int .u32 0) := by rw [cell_of_row w0 _ 4 _ _ _ HBX.out]; rfl
    have y5 : w0.cell? ⟨w.heap.size, 5, none⟩ = some (.slice none 0 0) := by rw [cell_of_row w0 _ 5 _ _ _ HBX.out]; rfl
    have y6 : w0.cell? ⟨w.heap.size, 6, none⟩ = some (.bool false) := by rw [cell_of_row w0 _ 6 _ _ _ HBX.out]; rfl
    have y7 : w0.cell? ⟨w.heap.size, 7, none⟩ = some (.int .u16 0) := by rw [cell_of_row w0 _ 7 _ _ _ HBX.out]; rfl
    have y8 : w0.cell? ⟨w.heap.size, 8, none⟩ = some (.slice none 0 0) := by rw [cell_of_row w0 _ 8 _ _ _ HBX.out]; rfl
    have y9 : w0.cell? ⟨w.heap.size, 9, none⟩ = some (.slice none 0 0) := by rw [cell_of_row w0 _ 9 _ _ _ HBX.out]; rfl
    have y10 : w0.cell? ⟨w.heap.size, 10, none⟩ = some (.slice none 0 0) := by rw [cell_of_row w0 _ 10 _ _ _ HBX.out]; rfl
    have fB : ∀ o, w0.frozen? ⟨w.heap.size, o, none⟩ = false := fun o => frozen_of_row w0 _ o _ _ HBX.out
    have hw0 := HW0.out
    go_enter Try.func31, Try.ntmps31
    go_wp2_with fail
    obtain ⟨w9, hw9⟩ : ∃ w9, putL w0 w.heap.size 0 [.bool false, .int .i64 0, .int .u16 0, .int .u32 0, .int .u32 0, .slice none 0 0, .bool false, .int .u16 0, .slice none 0 0, .slice none 0 0, .slice none 0 0] = w9 := ⟨_, rfl⟩
    have P9 : Put w0 w9 w.heap.size #[.bool false, .int .i64 0, .int .u16 0, .int .u32 0, .int .u32 0, .slice none 0 0, .bool false, .int .u16 0, .slice none 0 0, .slice none 0 0, .slice none 0 0] 66 := by rw [← hw9]; exact putL_is (us := [.bool false, .int .i64 0, .int .u16 0, .int .u32 0, .int .u32 0, .slice none 0 0, .bool false, .int .u16 0, .slice none 0 0, .slice none 0 0, .slice none 0 0]) HBX.out rfl
    simp only [putL, Nat.zero_add, Nat.reduceAdd] at hw9
    rw [hw9]
    have q9 := P9.row
    have HB9 := Lib.hid (HB0.out.grown P9.grown HB0.out.size (fun k e => by cases e; exact Nat.le_refl _))
    clear hw9 P9 fB hw0 y0 y1 y2 y3 y4 y5 y6 y7 y8 y9 y10
    have z0 : w9.cell? ⟨w.heap.size, 0, none⟩ = some (.bool false) := by rw [cell_of_row w9 _ 0 _ _ _ q9]; rfl
    have z1 : w9.cell? ⟨w.heap.size, 1, none⟩ = some (.int .i64 0) := by rw [cell_of_row w9 _ 1 _ _ _ q9]; rfl
    have z2 : w9.cell? ⟨w.heap.size, 2, none⟩ = some (.int .u16 0) := by rw [cell_of_row w9 _ 2 _ _ _ q9]; rfl
    have z3 : w9.cell? ⟨w.heap.size, 3, none⟩ = some (.int .u32 0) := by rw [cell_of_row w9 _ 3 _ _ _ q9]; rfl
    have z4 : w9.cell? ⟨w.heap.size, 4, none⟩ = some (.int .u32 0) := by rw [cell_of_row w9 _ 4 _ _ _ q9]; rfl
    have z5 : w9.cell? ⟨w.heap.size, 5, none⟩ = some (.slice none 0 0) := by rw [cell_of_row w9 _ 5 _ _ _ q9]; rfl
    have z6 : w9.cell? ⟨w.heap.size, 6, none⟩ = some (.bool false) := by rw [cell_of_row w9 _ 6 _ _ _ q9]; rfl
    have z7 : w9.cell? ⟨w.heap.size, 7, none⟩ = some (.int .u16 0) := by rw [cell_of_row w9 _ 7 _ _ _ q9]; rfl
    have z8 : w9.cell? ⟨w.heap.size, 8, none⟩ = some (.slice none 0 0) := by rw [cell_of_row w9 _ 8 _ _ _ q9]; rfl
    have z9 : w9.cell? ⟨w.heap.size, 9, none⟩ = some (.slice none 0 0) := by rw [cell_of_row w9 _ 9 _ _ _ q9]; rfl
    have z10 : w9.cell? ⟨w.heap.size, 10, none⟩ = some (.slice none 0 0) := by rw [cell_of_row w9 _ 10 _ _ _ q9]; rfl
    exact bodyPost_ret (v := .tuple #[.agg #[.bool false, .int .i64 0, .int .u16 0, .int .u32 0, .int .u32 0, .slice none 0 0, .bool false, .int .u16 0, .slice none 0 0, .slice none 0 0, .slice none 0 0], .int .i64 21]) (by simp [results, Try.results31, go_sem, z0, z1, z2, z3, z4, z5, z6, z7, z8, z9, z10]) rfl (by first | exact RPO.zero _ HB9.out | exact ⟨by decide, RPO.zero _ HB9.out⟩)
  have hvn : (l.getD 0 0 / 64 != 2) = false := by simpa using hv
  have h12 : n < 12 := by omega
  have h12z : (n : Int) < 12 := by omega
  obtain rfl := p3 (by omega) (.inr hv) h12
  clear p1 p2 p3 hs hv
  generalize l.getD 0 0 = x0 at *
  have y0 : w0.cell? ⟨w.heap.size, 0, none⟩ = some (.bool false) := by rw [cell_of_row w0 _ 0 _ _ _ HBX.out]; rfl
  have y1 : w0.cell? ⟨w.heap.size, 1, none⟩ = some (.int .i64 0) := by rw [cell_of_row w0 _ 1 _ _ _ HBX.out]; rfl
  have y2 : w0.cell? ⟨w.heap.size, 2, none⟩ = some (.int .u16 0) := by rw [cell_of_row w0 _ 2 _ _ _ HBX.out]; rfl
  have y3 : w0.cell? ⟨w.heap.size, 3, none⟩ = some (.int .u32 0) := by rw [cell_of_row w0 _ 3 _ _ _ HBX.out]; rfl
  have y4 : w0.cell? ⟨w.heap.size, 4, none⟩ = some (.int .u32 0) := by rw [cell_of_row w0 _ 4 _ _ _ HBX.out]; rfl
  have y5 : w0.cell? ⟨w.heap.size, 5, none⟩ = some (.slice none 0 0) := by rw [cell_of_row w0 _ 5 _ _ _ HBX.out]; rfl
  have y6 : w0.cell? ⟨w.heap.size, 6, none⟩ = some (.bool false) := by rw [cell_of_row w0 _ 6 _ _ _ HBX.out]; rfl
  have y7 : w0.cell? ⟨w.heap.size, 7, none⟩ = some (.int .u16 0) := by rw [cell_of_row w0 _ 7 _ _ _ HBX.out]; rfl
  have y8 : w0.cell? ⟨w.heap.size, 8, none⟩ = some (.slice none 0 0) := by rw [cell_of_row w0 _ 8 _ _ _ HBX.out]; rfl
  have y9 : w0.cell? ⟨w.heap.size, 9, none⟩ = some (.slice none 0 0) := by rw [cell_of_row w0 _ 9 _ _ _ HBX.out]; rfl
  have y10 : w0.cell? ⟨w.heap.size, 10, none⟩ = some (.slice none 0 0) := by rw [cell_of_row w0 _ 10 _ _ _ HBX.out]; rfl
  have fB : ∀ o, w0.frozen? ⟨w.heap.size, o, none⟩ = false := fun o => frozen_of_row w0 _ o _ _ HBX.out
  have hw0 := HW0.out
  go_enter Try.func31, Try.ntmps31
  go_wp2_with fail
  obtain ⟨w9, hw9⟩ : ∃ w9, putL w0 w.heap.size 0 [.bool false, .int .i64 0, .int .u16 0, .int .u32 0, .int .u32 0, .slice none 0 0, .bool false, .int .u16 0, .slice none 0 0, .slice none 0 0, .slice none 0 0] = w9 := ⟨_, rfl⟩
  have P9 : Put w0 w9 w.heap.size #[.bool false, .int .i64 0, .int .u16 0, .int .u32 0, .int .u32 0, .slice none 0 0, .bool false, .int .u16 0, .slice none 0 0, .slice none 0 0, .slice none 0 0] 66 := by rw [← hw9]; exact putL_is (us := [.bool false, .int .i64 0, .int .u16 0, .int .u32 0, .int .u32 0, .slice none 0 0, .bool false, .int .u16 0, .slice none 0 0, .slice none 0 0, .slice none 0 0]) HBX.out rfl
  simp only [putL, Nat.zero_add, Nat.reduceAdd] at hw9
  rw [hw9]
  have q9 := P9.row
  have HB9 := Lib.hid (HB0.out.grown P9.grown HB0.out.size (fun k e => by cases e; exact Nat.le_refl _))
  clear hw9 P9 fB hw0 y0 y1 y2 y3 y4 y5 y6 y7 y8 y9 y10
  have z0 : w9.cell? ⟨w.heap.size, 0, none⟩ = some (.bool false) := by rw [cell_of_row w9 _ 0 _ _ _ q9]; rfl
  have z1 : w9.cell? ⟨w.heap.size, 1, none⟩ = some (.int .i64 0) := by rw [cell_of_row w9 _ 1 _ _ _ q9]; rfl
  have z2 : w9.cell? ⟨w.heap.size, 2, none⟩ = some (.int .u16 0) := by rw [cell_of_row w9 _ 2 _ _ _ q9]; rfl
  have z3 : w9.cell? ⟨w.heap.size, 3, none⟩ = some (.int .u32 0) := by rw [cell_of_row w9 _ 3 _ _ _ q9]; rfl
  have z4 : w9.cell? ⟨w.heap.size, 4, none⟩ = some (.int .u32 0) := by rw [cell_of_row w9 _ 4 _ _ _ q9]; rfl
  have z5 : w9.cell? ⟨w.heap.size, 5, none⟩ = some (.slice none 0 0) := by rw [cell_of_row w9 _ 5 _ _ _ q9]; rfl
  have z6 : w9.cell? ⟨w.heap.size, 6, none⟩ = some (.bool false) := by rw [cell_of_row w9 _ 6 _ _ _ q9]; rfl
  have z7 : w9.cell? ⟨w.heap.size, 7, none⟩ = some (.int .u16 0) := by rw [cell_of_row w9 _ 7 _ _ _ q9]; rfl
  have z8 : w9.cell? ⟨w.heap.size, 8, none⟩ = some (.slice none 0 0) := by rw [cell_of_row w9 _ 8 _ _ _ q9]; rfl
  have z9 : w9.cell? ⟨w.heap.size, 9, none⟩ = some (.slice none 0 0) := by rw [cell_of_row w9 _ 9 _ _ _ q9]; rfl
  have z10 : w9.cell? ⟨w.heap.size, 10, none⟩ = some (.slice none 0 0) := by rw [cell_of_row w9 _ 10 _ _ _ q9]; rfl
  exact bodyPost_ret (v := .tuple #[.agg #[.bool false, .int .i64 0, .int .u16 0, .int .u32 0, .int .u32 0, .slice none 0 0, .bool false, .int .u16 0, .slice none 0 0, .slice none 0 0, .slice none 0 0], .int .i64 20]) (by simp [results, Try.results31, go_sem, z0, z1, z2, z3, z4, z5, z6, z7, z8, z9, z10]) rfl (by first | exact RPO.zero _ HB9.out | exact ⟨by decide, RPO.zero _ HB9.out⟩)
/-- What Parse of the reference leaves of the bytes l. -/
def RPOut (n : Nat) (l : List Int) (w : World) (e : Ending) (w' : World) : Prop :=
  (pcodeF n l ≠ 0 → RPO (pcodeF n l) 0 0 w e w') ∧ (pcodeF n l = 0 → RPO 0 (Num ((l.drop 2).take 2)) (Num ((l.drop 8).take 4)) w e w')
theorem rparse5_any (a : Option Addr) (n c : Nat) (l : List Int) (w : World) (ha : BAt w a n l) (hc : n ≤ c) :
    Calls Try.prog 31 #[.slice a n c] w (RPOut n l w) := by
  by_cases hs : 1500 < n ∨ n = 0 ∨ n ≤ 1500 ∧ l.getD 0 0 / 64 ≠ 2 ∨ n ≤ 1500 ∧ n < 12
  · exact (rparse5_small a n c l w ha hs).mono fun e w' h => ⟨fun _ => h.2, fun e => absurd e h.1⟩
  · exact rparse5_main a n c l w ha hc (by omega) (by omega) (by omega)
end Go.Proofs.Ytppgjodehphaeaa
