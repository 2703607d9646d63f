
/-
  parity.Holds.
-/
import Derived.Test.YtedhmoihlfjbdaaPaBytes
import Derived.Test.YtedhmoihlfjbdaaIbSame
namespace Go.Proofs.Ytedhmoihlfjbdaa
open Go.RowKit Go.Shelf
set_option linter.unusedVariables false
/-- What Holds answers of a repair's fields and bytes. -/
def Pa.holds (q : Nat → Int) (BB : Int) (X : Nat) (l : List Int) (ls : List (List Int)) : Bool :=
  decide (Pa.code ls = 0) && ((BB == Pa.base ls) && (((Mk.H X : Int) == Mk.H (Pa.X ls)) && (((Mk.L X : Int) == Mk.L (Pa.X ls)) && (decide ([q 0 % 64, q 1, q 2, q 3, q 4, q 5, q 6, q 7] = [(Pa.head ls).getD 0 0, (Pa.head ls).getD 1 0, (Pa.head ls).getD 2 0, (Pa.head ls).getD 3 0, (Pa.head ls).getD 4 0, (Pa.head ls).getD 5 0, (Pa.head ls).getD 6 0, (Pa.head ls).getD 7 0]) && decide (l = Pa.body ls)))))
set_option maxHeartbeats 2000000 in
set_option maxRecDepth 100000 in
theorem holds_any (q : Nat → Int) (BB : Int) (X : Nat) (ab : Option Addr) (nb cb : Nat) (l : List Int) (a : Option Addr) (len c : Nat) (ls : List (List Int)) (w : World) (h : PksAt w a len ls) (hlen : len ≤ 1000000000) (hq : ∀ j, 0 ≤ q j ∧ q j < 256) (hb : BAt w ab nb l) (hn : nb ≤ 1000000) :
    Calls Try.prog 26 #[rpc q BB X ab nb cb, .slice a len c] w (ValB (.bool (Pa.holds q BB X l ls)) w) := by
  have HB := Lib.hid hb; have HP := Lib.hid h; clear h hb
  obtain ⟨w0, hw0⟩ : ∃ u, w.alloc (.cells #[.int .u8 (q 0), .int .u8 (q 1), .int .u8 (q 2), .int .u8 (q 3), .int .u8 (q 4), .int .u8 (q 5), .int .u8 (q 6), .int .u8 (q 7), .int .u16 BB, .int .u64 (Mk.H X), .int .u64 (Mk.L X), .slice ab nb cb] 32) = u := ⟨_, rfl⟩
  have hB0 : Below w.heap.size w w0 := by rw [← hw0]; exact (Below.refl _ w).alloc (Nat.le_refl _) _
  have hr0 : w0.heap[w.heap.size]? = some (.cells #[.int .u8 (q 0), .int .u8 (q 1), .int .u8 (q 2), .int .u8 (q 3), .int .u8 (q 4), .int .u8 (q 5), .int .u8 (q 6), .int .u8 (q 7), .int .u16 BB, .int .u64 (Mk.H X), .int .u64 (Mk.L X), .slice ab nb cb] 32 (0, 0)) := by rw [← hw0]; exact lit_new rfl
  have HM := Lib.hid (make_any a len c ls w0 (HP.out.below hB0) hlen)
  have HW0 := Lib.hid hw0; have HR0 := Lib.hid hr0; have HB0 := Lib.hid hB0
  have HQ := Lib.hid (hq 0)
  clear hw0 hr0 hB0 hq
  unfold rpc
  go_enter Try.func26, Try.ntmps26
  go_wp2_with fail
  rw [HW0.out]
  refine HM.out.mono ?_
  rintro e w1 hout
  obtain ⟨r, B2, X2, a2, n2, c2, rfl, hB1, hrep⟩ := hout.rep
  have hr1 := (hB1.block _ (Array.getElem?_eq_some_iff.1 HR0.out).1).trans HR0.out
  have hb1 := HB0.out.trans (hB1.mono HB0.out.size)
  obtain ⟨w2, hw2⟩ : ∃ u, w1.alloc (.cells #[.int .u8 (r 0), .int .u8 (r 1), .int .u8 (r 2), .int .u8 (r 3), .int .u8 (r 4), .int .u8 (r 5), .int .u8 (r 6), .int .u8 (r 7), .int .u16 B2, .int .u64 (Mk.H X2), .int .u64 (Mk.L X2), .slice a2 n2 c2] 32) = u := ⟨_, rfl⟩
  have h12 : Below w1.heap.size w1 w2 := by rw [← hw2]; exact (Below.refl _ w1).alloc (Nat.le_refl _) _
  have hm2 : w2.heap[w1.heap.size]? = some (.cells #[.int .u8 (r 0), .int .u8 (r 1), .int .u8 (r 2), .int .u8 (r 3), .int .u8 (r 4), .int .u8 (r 5), .int .u8 (r 6), .int .u8 (r 7), .int .u16 B2, .int .u64 (Mk.H X2), .int .u64 (Mk.L X2), .slice a2 n2 c2] 32 (0, 0)) := by rw [← hw2]; exact lit_new rfl
  have hr2 := (h12.block _ (Array.getElem?_eq_some_iff.1 hr1).1).trans hr1
  have hb2 := hb1.trans (h12.mono hb1.size)
  have hrep2 := hrep.below h12
  have hlt := (Array.getElem?_eq_some_iff.1 hr1).1
  have HW2 := Lib.hid hw2; have HM2 := Lib.hid hm2; have HR2 := Lib.hid hr2; have HB2 := Lib.hid hb2; have HREP := Lib.hid hrep2
  clear hw2 hm2 hr2 hb2 hrep2 hr1 hb1 h12 hB1 hrep hout HM HW0 HR0 HB0
  by_cases hc : Pa.code ls = 0
  case neg =>
    have hcb : (Pa.code ls == 0) = false := beq_eq_false_iff_ne.2 hc
    have hno : Pa.holds q BB X l ls = false := by unfold Pa.holds; rw [decide_eq_false hc]; rfl
    have HNO := Lib.hid hno
    clear hno hc
    generalize Pa.code ls = cd at *
    unfold rpc
    go_wp2_with fail
    rw [HW2.out]
    exact bodyPost_ret (v := .bool false) (by simp [results, Try.results26, go_sem]) rfl ⟨by rw [HNO.out], HB2.out⟩
  obtain ⟨g1, rfl, rfl, rfl, hO2⟩ := HREP.out.good hc
  have hval : Pa.holds q BB X l ls = ((BB == Pa.base ls) && (((Mk.H X : Int) == Mk.H (Pa.X ls)) && (((Mk.L X : Int) == Mk.L (Pa.X ls)) && (decide ([q 0 % 64, q 1, q 2, q 3, q 4, q 5, q 6, q 7] = [r 0, r 1, r 2, r 3, r 4, r 5, r 6, r 7]) && decide (l = Pa.body ls))))) := by
    unfold Pa.holds; rw [decide_eq_true hc, Bool.true_and, ← g1, ← g1, ← g1, ← g1, ← g1, ← g1, ← g1, ← g1]
  have HBY := Lib.hid (pbytes_any q BB X ab nb cb l w2 HQ.out (HB.out.below HB2.out) hn)
  have HVAL := Lib.hid hval; have HO2 := Lib.hid hO2
  rw [hc]
  clear hval hO2 g1 HREP HQ hc HB HP
  unfold rpc at *
  generalize Pa.base ls = B2 at *
  generalize hH : ((Mk.H X : Nat) : Int) = H at *
  generalize hL : ((Mk.L X : Nat) : Int) = L at *
  generalize hH2 : ((Mk.H (Pa.X ls) : Nat) : Int) = H2 at *
  generalize hL2 : ((Mk.L (Pa.X ls) : Nat) : Int) = L2 at *
  generalize Pa.body ls = l2 at *
  generalize hn2 : l2.length = n2 at *
  clear hn2 hH hL hH2 hL2
  have r0 : w2.cell? ⟨w.heap.size, 0, none⟩ = some (.int .u8 (q 0)) := by rw [cell_of_row w2 _ 0 _ _ _ HR2.out]; rfl
  have r1 : w2.cell? ⟨w.heap.size, 1, none⟩ = some (.int .u8 (q 1)) := by rw [cell_of_row w2 _ 1 _ _ _ HR2.out]; rfl
  have r2 : w2.cell? ⟨w.heap.size, 2, none⟩ = some (.int .u8 (q 2)) := by rw [cell_of_row w2 _ 2 _ _ _ HR2.out]; rfl
  have r3 : w2.cell? ⟨w.heap.size, 3, none⟩ = some (.int .u8 (q 3)) := by rw [cell_of_row w2 _ 3 _ _ _ HR2.out]; rfl
  have r4 : w2.cell? ⟨w.heap.size, 4, none⟩ = some (.int .u8 (q 4)) := by rw [cell_of_row w2 _ 4 _ _ _ HR2.out]; rfl
  have r5 : w2.cell? ⟨w.heap.size, 5, none⟩ = some (.int .u8 (q 5)) := by rw [cell_of_row w2 _ 5 _ _ _ HR2.out]; rfl
  have r6 : w2.cell? ⟨w.heap.size, 6, none⟩ = some (.int .u8 (q 6)) := by rw [cell_of_row w2 _ 6 _ _ _ HR2.out]; rfl
  have r7 : w2.cell? ⟨w.heap.size, 7, none⟩ = some (.int .u8 (q 7)) := by rw [cell_of_row w2 _ 7 _ _ _ HR2.out]; rfl
  have r8 : w2.cell? ⟨w.heap.size, 8, none⟩ = some (.int .u16 BB) := by rw [cell_of_row w2 _ 8 _ _ _ HR2.out]; rfl
  have r9 : w2.cell? ⟨w.heap.size, 9, none⟩ = some (.int .u64 H) := by rw [cell_of_row w2 _ 9 _ _ _ HR2.out]; rfl
  have r10 : w2.cell? ⟨w.heap.size, 10, none⟩ = some (.int .u64 L) := by rw [cell_of_row w2 _ 10 _ _ _ HR2.out]; rfl
  have r11 : w2.cell? ⟨w.heap.size, 11, none⟩ = some (.slice ab nb cb) := by rw [cell_of_row w2 _ 11 _ _ _ HR2.out]; rfl
  rw [← HW2.out] at r0 r1 r2 r3 r4 r5 r6 r7 r8 r9 r10 r11
  go_wp2_with fail
  rw [HW2.out]
  refine HBY.out.mono ?_
  rintro e w3 ⟨a3, c3, rfl, hO3, hB3⟩
  obtain ⟨n3, hn3⟩ : ∃ x, l.length = x := ⟨_, rfl⟩
  rw [hn3] at hO3 ⊢
  clear hn3
  obtain ⟨w4, hw4⟩ : ∃ u, w3.alloc (.cells #[.int .u8 (q 0 % 64), .int .u8 (q 1), .int .u8 (q 2), .int .u8 (q 3), .int .u8 (q 4), .int .u8 (q 5), .int .u8 (q 6), .int .u8 (q 7), .slice a3 n3 c3] 57) = u := ⟨_, rfl⟩
  have h34 : Below w3.heap.size w3 w4 := by rw [← hw4]; exact (Below.refl _ w3).alloc (Nat.le_refl _) _
  have hx4 : w4.heap[w3.heap.size]? = some (.cells #[.int .u8 (q 0 % 64), .int .u8 (q 1), .int .u8 (q 2), .int .u8 (q 3), .int .u8 (q 4), .int .u8 (q 5), .int .u8 (q 6), .int .u8 (q 7), .slice a3 n3 c3] 57 (0, 0)) := by rw [← hw4]; exact lit_new rfl
  have h24 := hB3.trans (h34.mono hB3.size)
  have hr4 := (h24.block _ (Array.getElem?_eq_some_iff.1 HR2.out).1).trans HR2.out
  have hm4 := (h24.block _ (Array.getElem?_eq_some_iff.1 HM2.out).1).trans HM2.out
  have hb4 := HB2.out.trans (h24.mono HB2.out.size)
  have hbt1 := (hO3.below h34).bat
  have hbt2 := (HO2.out.below h24).bat
  have HW4 := Lib.hid hw4; have HX4 := Lib.hid hx4; have HR4 := Lib.hid hr4; have HM4 := Lib.hid hm4; have HB4 := Lib.hid hb4
  have HEQ := Lib.hid fun W (hW : Below w4.heap.size w4 W) => bequal_any a3 a2 n3 n2 c3 c2 l l2 W (hbt1.below hW) (hbt2.below hW)
  have h8 := eq8 (q 0 % 64) (q 1) (q 2) (q 3) (q 4) (q 5) (q 6) (q 7) (r 0) (r 1) (r 2) (r 3) (r 4) (r 5) (r 6) (r 7)
  clear r0 r1 r2 r3 r4 r5 r6 r7 r8 r9 r10 r11 hw4 h34 hx4 h24 hr4 hm4 hb4 hbt1 hbt2 hO3 hB3 HW2 HM2 HR2 HB2 HO2 HBY
  have r0 : w4.cell? ⟨w.heap.size, 0, none⟩ = some (.int .u8 (q 0)) := by rw [cell_of_row w4 _ 0 _ _ _ HR4.out]; rfl
  have r1 : w4.cell? ⟨w.heap.size, 1, none⟩ = some (.int .u8 (q 1)) := by rw [cell_of_row w4 _ 1 _ _ _ HR4.out]; rfl
  have r2 : w4.cell? ⟨w.heap.size, 2, none⟩ = some (.int .u8 (q 2)) := by rw [cell_of_row w4 _ 2 _ _ _ HR4.out]; rfl
  have r3 : w4.cell? ⟨w.heap.size, 3, none⟩ = some (.int .u8 (q 3)) := by rw [cell_of_row w4 _ 3 _ _ _ HR4.out]; rfl
  have r4 : w4.cell? ⟨w.heap.size, 4, none⟩ = some (.int .u8 (q 4)) := by rw [cell_of_row w4 _ 4 _ _ _ HR4.out]; rfl
  have r5 : w4.cell? ⟨w.heap.size, 5, none⟩ = some (.int .u8 (q 5)) := by rw [cell_of_row w4 _ 5 _ _ _ HR4.out]; rfl
  have r6 : w4.cell? ⟨w.heap.size, 6, none⟩ = some (.int .u8 (q 6)) := by rw [cell_of_row w4 _ 6 _ _ _ HR4.out]; rfl
  have r7 : w4.cell? ⟨w.heap.size, 7, none⟩ = some (.int .u8 (q 7)) := by rw [cell_of_row w4 _ 7 _ _ _ HR4.out]; rfl
  have r8 : w4.cell? ⟨w.heap.size, 8, none⟩ = some (.int .u16 BB) := by rw [cell_of_row w4 _ 8 _ _ _ HR4.out]; rfl
  have r9 : w4.cell? ⟨w.heap.size, 9, none⟩ = some (.int .u64 H) := by rw [cell_of_row w4 _ 9 _ _ _ HR4.out]; rfl
  have r10 : w4.cell? ⟨w.heap.size, 10, none⟩ = some (.int .u64 L) := by rw [cell_of_row w4 _ 10 _ _ _ HR4.out]; rfl
  have r11 : w4.cell? ⟨w.heap.size, 11, none⟩ = some (.slice ab nb cb) := by rw [cell_of_row w4 _ 11 _ _ _ HR4.out]; rfl
  have m0 : w4.cell? ⟨w1.heap.size, 0, none⟩ = some (.int .u8 (r 0)) := by rw [cell_of_row w4 _ 0 _ _ _ HM4.out]; rfl
  have m1 : w4.cell? ⟨w1.heap.size, 1, none⟩ = some (.int .u8 (r 1)) := by rw [cell_of_row w4 _ 1 _ _ _ HM4.out]; rfl
  have m2 : w4.cell? ⟨w1.heap.size, 2, none⟩ = some (.int .u8 (r 2)) := by rw [cell_of_row w4 _ 2 _ _ _ HM4.out]; rfl
  have m3 : w4.cell? ⟨w1.heap.size, 3, none⟩ = some (.int .u8 (r 3)) := by rw [cell_of_row w4 _ 3 _ _ _ HM4.out]; rfl
  have m4 : w4.cell? ⟨w1.heap.size, 4, none⟩ = some (.int .u8 (r 4)) := by rw [cell_of_row w4 _ 4 _ _ _ HM4.out]; rfl
  have m5 : w4.cell? ⟨w1.heap.size, 5, none⟩ = some (.int .u8 (r 5)) := by rw [cell_of_row w4 _ 5 _ _ _ HM4.out]; rfl
  have m6 : w4.cell? ⟨w1.heap.size, 6, none⟩ = some (.int .u8 (r 6)) := by rw [cell_of_row w4 _ 6 _ _ _ HM4.out]; rfl
  have m7 : w4.cell? ⟨w1.heap.size, 7, none⟩ = some (.int .u8 (r 7)) := by rw [cell_of_row w4 _ 7 _ _ _ HM4.out]; rfl
  have m8 : w4.cell? ⟨w1.heap.size, 8, none⟩ = some (.int .u16 B2) := by rw [cell_of_row w4 _ 8 _ _ _ HM4.out]; rfl
  have m9 : w4.cell? ⟨w1.heap.size, 9, none⟩ = some (.int .u64 H2) := by rw [cell_of_row w4 _ 9 _ _ _ HM4.out]; rfl
  have m10 : w4.cell? ⟨w1.heap.size, 10, none⟩ = some (.int .u64 L2) := by rw [cell_of_row w4 _ 10 _ _ _ HM4.out]; rfl
  have m11 : w4.cell? ⟨w1.heap.size, 11, none⟩ = some (.slice a2 n2 c2) := by rw [cell_of_row w4 _ 11 _ _ _ HM4.out]; rfl
  have x0 : w4.cell? ⟨w3.heap.size, 0, none⟩ = some (.int .u8 (q 0 % 64)) := by rw [cell_of_row w4 _ 0 _ _ _ HX4.out]; rfl
  have x1 : w4.cell? ⟨w3.heap.size, 1, none⟩ = some (.int .u8 (q 1)) := by rw [cell_of_row w4 _ 1 _ _ _ HX4.out]; rfl
  have x2 : w4.cell? ⟨w3.heap.size, 2, none⟩ = some (.int .u8 (q 2)) := by rw [cell_of_row w4 _ 2 _ _ _ HX4.out]; rfl
  have x3 : w4.cell? ⟨w3.heap.size, 3, none⟩ = some (.int .u8 (q 3)) := by rw [cell_of_row w4 _ 3 _ _ _ HX4.out]; rfl
  have x4 : w4.cell? ⟨w3.heap.size, 4, none⟩ = some (.int .u8 (q 4)) := by rw [cell_of_row w4 _ 4 _ _ _ HX4.out]; rfl
  have x5 : w4.cell? ⟨w3.heap.size, 5, none⟩ = some (.int .u8 (q 5)) := by rw [cell_of_row w4 _ 5 _ _ _ HX4.out]; rfl
  have x6 : w4.cell? ⟨w3.heap.size, 6, none⟩ = some (.int .u8 (q 6)) := by rw [cell_of_row w4 _ 6 _ _ _ HX4.out]; rfl
  have x7 : w4.cell? ⟨w3.heap.size, 7, none⟩ = some (.int .u8 (q 7)) := by rw [cell_of_row w4 _ 7 _ _ _ HX4.out]; rfl
  have x8 : w4.cell? ⟨w3.heap.size, 8, none⟩ = some (.slice a3 n3 c3) := by rw [cell_of_row w4 _ 8 _ _ _ HX4.out]; rfl
  rw [← HW4.out] at r0 r1 r2 r3 r4 r5 r6 r7 r8 r9 r10 r11 m0 m1 m2 m3 m4 m5 m6 m7 m8 m9 m10 m11 x0 x1 x2 x3 x4 x5 x6 x7 x8
  generalize decide ([q 0 % 64, q 1, q 2, q 3, q 4, q 5, q 6, q 7] = [r 0, r 1, r 2, r 3, r 4, r 5, r 6, r 7]) = e8 at *
  cases e1 : (BB == B2)
  · have E1 := Lib.hid e1
    go_wp2_with fail
    rw [HW4.out]
    exact bodyPost_ret (v := .bool false) (by simp [results, Try.results26, go_sem]) rfl ⟨by rw [HVAL.out, E1.out]; rfl, HB4.out⟩
  have E1 := Lib.hid e1
  cases e2 : (H == H2)
  · have E2 := Lib.hid e2
    go_wp2_with fail
    rw [HW4.out]
    exact bodyPost_ret (v := .bool false) (by simp [results, Try.results26, go_sem]) rfl ⟨by rw [HVAL.out, E1.out, E2.out]; rfl, HB4.out⟩
  have E2 := Lib.hid e2
  cases e3 : (L == L2)
  · have E3 := Lib.hid e3
    go_wp2_with fail
    rw [HW4.out]
    exact bodyPost_ret (v := .bool false) (by simp [results, Try.results26, go_sem]) rfl ⟨by rw [HVAL.out, E1.out, E2.out, E3.out]; rfl, HB4.out⟩
  have E3 := Lib.hid e3
  cases e8
  · go_wp2_with fail
    rw [HW4.out]
    exact bodyPost_ret (v := .bool false) (by simp [results, Try.results26, go_sem]) rfl ⟨by rw [HVAL.out, E1.out, E2.out, E3.out]; rfl, HB4.out⟩
  go_wp2_with fail
  rw [HW4.out]
  refine (HEQ.out _ (Below.refl _ _)).mono ?_
  rintro e w5 ⟨rfl, rfl⟩
  go_wp2_with fail
  exact bodyPost_ret (v := .bool (decide (l = l2))) (by simp [results, Try.results26, go_sem]) rfl ⟨by rw [HVAL.out, E1.out, E2.out, E3.out]; rfl, HB4.out⟩
end Go.Proofs.Ytedhmoihlfjbdaa
