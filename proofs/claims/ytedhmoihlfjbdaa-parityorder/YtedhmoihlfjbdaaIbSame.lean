/-
  imprint.Length.
-/
import Derived.Test.YtedhmoihlfjbdaaIbOf
import Derived.Test.YtedhmoihlfjbdaaWirePartu16
namespace Go.Proofs.Ytedhmoihlfjbdaa
open Go.RowKit Go.Shelf
set_option linter.unusedVariables false
theorem wd_nil (w : World) : (binOp .neq 230 (.func (.func 104) #[] #[]) .nilFunc).run Try.prog w = .ok (.bool true) w := by kernel_rfl
theorem wd_ent (args : Array Value) (w : World) : (callFunc 104 args).run Try.prog w = .ok (.enter 104 args) w := by
  first | kernel_rfl | simp [go_sem]
theorem word_parse (R U : Nat) (a : Option Addr) (c : Nat) (q6 q7 : Int) (w : World) (h : RdAt w R U a 2 c [q6, q7]) :
    Calls Try.prog 104 #[.pointer (some ⟨R, 0, none⟩)] w (ParseOk R U 0 [] (fun v _ => v = .int .u16 (q6 * 256 + q7)) w) := by
  refine (word_ok R U a 2 c _ w h (Nat.le_refl _)).mono ?_
  rintro e w' ⟨rfl, h1, h2⟩
  exact ⟨_, _, _, rfl, h1, took_keep h2 U, by simp [Num]⟩
set_option maxHeartbeats 400000 in
set_option maxRecDepth 100000 in
theorem length_any (q0 q1 q2 q3 q4 q5 q6 q7 : Int) (a : Option Addr) (n c : Nat) (w : World) (h6 : 0 ≤ q6 ∧ q6 < 256) (h7 : 0 ≤ q7 ∧ q7 < 256) :
    Calls Try.prog 115 #[.agg #[.int .u8 q0, .int .u8 q1, .int .u8 q2, .int .u8 q3, .int .u8 q4, .int .u8 q5, .int .u8 q6, .int .u8 q7, .slice a n c]] w (ValB (.int .i64 (q6 * 256 + q7)) w) := by
  obtain ⟨w1, hw1⟩ : ∃ w1, w.alloc (.cells #[.int .u8 q0, .int .u8 q1, .int .u8 q2, .int .u8 q3, .int .u8 q4, .int .u8 q5, .int .u8 q6, .int .u8 q7, .slice a n c] 57) = w1 := ⟨_, rfl⟩
  have hB1 : Below w.heap.size w w1 := by rw [← hw1]; exact (Below.refl _ w).alloc (Nat.le_refl _) _
  have hx1 : w1.heap[w.heap.size]? = some (.cells #[.int .u8 q0, .int .u8 q1, .int .u8 q2, .int .u8 q3, .int .u8 q4, .int .u8 q5, .int .u8 q6, .int .u8 q7, .slice a n c] 57 (0, 0)) := by rw [← hw1]; exact lit_new rfl
  have hbt : BAt w1 (some ⟨w.heap.size, 6, none⟩) 2 [q6, q7] := ⟨rfl, by omega, w.heap.size, 6, fun i hi => by
    match i, hi with
    | 0, _ => exact ⟨rfl, (Array.getElem?_eq_some_iff.1 hx1).1, by rw [cell_of_row w1 _ _ _ _ _ hx1]; rfl, h6⟩
    | 1, _ => exact ⟨rfl, (Array.getElem?_eq_some_iff.1 hx1).1, by rw [cell_of_row w1 _ _ _ _ _ hx1]; rfl, h7⟩⟩
  have HR := Lib.hid (read_ok_u16 (some ⟨w.heap.size, 6, none⟩) 2 2 104 #[] [] _ w1 (by omega) ⟨wd_nil, wd_ent, word_parse _ _ _ 2 q6 q7 _ (part_rd w1 _ 2 2 _ hbt (Nat.le_refl _))⟩)
  have HW1 := Lib.hid hw1; have HB1 := Lib.hid hB1
  have hw : IntKind.i64.wrap (q6 * 256 + q7) = q6 * 256 + q7 := by rw [IntKind.wrap_i64]; omega
  clear hw1 hB1 hx1 hbt
  generalize q6 * 256 + q7 = r at *
  go_enter Try.func115, Try.ntmps115
  go_wp2_with fail
  rw [HW1.out]
  refine (HR.out).mono ?_
  rintro e w2 ⟨v, w3, rfl, rfl, hg, hB2, _⟩
  have HB2 := Lib.hid (HB1.out.trans (hB2.mono HB1.out.size))
  clear hg hB2 HR
  go_wp2_with fail
  go_ret
  exact ⟨rfl, HB2.out⟩
end Go.Proofs.Ytedhmoihlfjbdaa
namespace Go.Proofs.Ytedhmoihlfjbdaa
open Go.RowKit Go.Shelf
set_option linter.unusedVariables false
set_option linter.unusedSimpArgs false
set_option maxRecDepth 100000 in
set_option maxHeartbeats 1000000 in
theorem eq8 (h0 h1 h2 h3 h4 h5 h6 h7 k0 k1 k2 k3 k4 k5 k6 k7 : Int) (w : World) : (Op.equalIn 10000 28 (.agg #[.int .u8 h0, .int .u8 h1, .int .u8 h2, .int .u8 h3, .int .u8 h4, .int .u8 h5, .int .u8 h6, .int .u8 h7]) (.agg #[.int .u8 k0, .int .u8 k1, .int .u8 k2, .int .u8 k3, .int .u8 k4, .int .u8 k5, .int .u8 k6, .int .u8 k7])).run Try.prog w = .ok (decide ([h0, h1, h2, h3, h4, h5, h6, h7] = [k0, k1, k2, k3, k4, k5, k6, k7])) w := by
  have u3 := Try.underlying5
  have a3 := Try.isAgg5
  have z3 := Try.sizeOf5
  rw [show (10000 : Nat) = 9999 + 1 from rfl, Op.equalIn]
  simp only [Sem.run_bind, run_underlying Try.underlying28, Result.andThen_ok]
  simp only [Std.Legacy.Range.forIn_eq_forIn_range', Std.Legacy.Range.size, Nat.sub_zero, Nat.add_sub_cancel, Nat.div_one, List.range'_succ, List.range'_zero, List.forIn_cons, List.forIn_nil]
  go_simp
  by_cases e0 : h0 = k0
  case neg => simp [e0]
  by_cases e1 : h1 = k1
  case neg => simp [e0, e1]
  by_cases e2 : h2 = k2
  case neg => simp [e0, e1, e2]
  by_cases e3 : h3 = k3
  case neg => simp [e0, e1, e2, e3]
  by_cases e4 : h4 = k4
  case neg => simp [e0, e1, e2, e3, e4]
  by_cases e5 : h5 = k5
  case neg => simp [e0, e1, e2, e3, e4, e5]
  by_cases e6 : h6 = k6
  case neg => simp [e0, e1, e2, e3, e4, e5, e6]
  by_cases e7 : h7 = k7
  case neg => simp [e0, e1, e2, e3, e4, e5, e6, e7]
  simp [e0, e1, e2, e3, e4, e5, e6, e7]
end Go.Proofs.Ytedhmoihlfjbdaa
namespace Go.Proofs.Ytedhmoihlfjbdaa
open Go.RowKit Go.Shelf
set_option linter.unusedVariables false
set_option maxHeartbeats 400000 in
set_option maxRecDepth 100000 in
theorem isame_any (h0 h1 h2 h3 h4 h5 h6 h7 k0 k1 k2 k3 k4 k5 k6 k7 : Int) (a b : Option Addr) (n m c d : Nat) (la lb : List Int) (w : World) (ha : BAt w a n la) (hb : BAt w b m lb) :
    Calls Try.prog 28 #[.agg #[.int .u8 h0, .int .u8 h1, .int .u8 h2, .int .u8 h3, .int .u8 h4, .int .u8 h5, .int .u8 h6, .int .u8 h7, .slice a n c], .agg #[.int .u8 k0, .int .u8 k1, .int .u8 k2, .int .u8 k3, .int .u8 k4, .int .u8 k5, .int .u8 k6, .int .u8 k7, .slice b m d]] w (ValB (.bool (decide ([h0, h1, h2, h3, h4, h5, h6, h7] = [k0, k1, k2, k3, k4, k5, k6, k7]) && decide (Str.gap la lb < 0))) w) := by
  have he := fun w => eq8 h0 h1 h2 h3 h4 h5 h6 h7 k0 k1 k2 k3 k4 k5 k6 k7 w
  generalize decide ([h0, h1, h2, h3, h4, h5, h6, h7] = [k0, k1, k2, k3, k4, k5, k6, k7]) = q at *
  obtain ⟨w1, hw1⟩ : ∃ w1, (w.alloc (.cells #[.int .u8 h0, .int .u8 h1, .int .u8 h2, .int .u8 h3, .int .u8 h4, .int .u8 h5, .int .u8 h6, .int .u8 h7, .slice a n c] 57)).alloc (.cells #[.int .u8 k0, .int .u8 k1, .int .u8 k2, .int .u8 k3, .int .u8 k4, .int .u8 k5, .int .u8 k6, .int .u8 k7, .slice b m d] 57) = w1 := ⟨_, rfl⟩
  have hB1 : Below w.heap.size w w1 := by rw [← hw1]; exact ((Below.refl _ w).alloc (Nat.le_refl _) _).alloc (by simp) _
  have HG := Lib.hid (gap_any a b n m c d la lb w1 (ha.below hB1) (hb.below hB1))
  have HW1 := Lib.hid hw1; have HB1 := Lib.hid hB1
  clear hw1 hB1 ha hb
  generalize Str.gap la lb = g at *
  cases q
  · go_enter Try.func28, Try.ntmps28
    go_wp2_with fail
    rw [HW1.out]
    go_ret
    exact ⟨rfl, HB1.out⟩
  · have hg : (true && decide (g < 0)) = decide (g < 0) := rfl
    rw [hg]
    go_enter Try.func28, Try.ntmps28
    go_wp2_with fail
    rw [HW1.out]
    refine (HG.out).mono ?_
    rintro e w2 ⟨rfl, rfl⟩
    go_wp2_with fail
    go_ret
    exact ⟨rfl, HB1.out⟩
end Go.Proofs.Ytedhmoihlfjbdaa
