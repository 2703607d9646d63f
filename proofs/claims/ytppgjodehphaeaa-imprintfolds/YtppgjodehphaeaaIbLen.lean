
/-
  imprint.Length.
-/
import Derived.Test.YtppgjodehphaeaaIbOf
import Derived.Test.YtppgjodehphaeaaWirePartu16
namespace Go.Proofs.Ytppgjodehphaeaa
open Go.RowKit Go.Shelf
set_option linter.unusedVariables false
theorem wd_nil (w : World) : (binOp .neq 75 (.func (.func 33) #[] #[]) .nilFunc).run Try.prog w = .ok (.bool true) w := by kernel_rfl
theorem wd_ent (args : Array Value) (w : World) : (callFunc 33 args).run Try.prog w = .ok (.enter 33 args) w := by
  first | kernel_rfl | simp [go_sem]
theorem word_parse (R U : Nat) (a : Option Addr) (c : Nat) (q6 q7 : Int) (w : World) (h : RdAt w R U a 2 c [q6, q7]) :
    Calls Try.prog 33 #[.pointer (some ⟨R, 0, none⟩)] w (ParseOk R U 0 [] (fun v _ => v = .int .u16 (q6 * 256 + q7)) w) := by
  refine (word_ok R U a 2 c _ w h (Nat.le_refl _)).mono ?_
  rintro e w' ⟨rfl, h1, h2⟩
  exact ⟨_, _, _, rfl, h1, took_keep h2 U, by simp [Num]⟩
set_option maxHeartbeats 400000 in
set_option maxRecDepth 100000 in
theorem length_any (q0 q1 q2 q3 q4 q5 q6 q7 : Int) (a : Option Addr) (n c : Nat) (w : World) (h6 : 0 ≤ q6 ∧ q6 < 256) (h7 : 0 ≤ q7 ∧ q7 < 256) :
    Calls Try.prog 11 #[.agg #[.int .u8 q0, .int .u8 q1, .int .u8 q2, .int .u8 q3, .int .u8 q4, .int .u8 q5, .int .u8 q6, .int .u8 q7, .slice a n c]] w (ValB (.int .i64 (q6 * 256 + q7)) w) := by
  obtain ⟨w1, hw1⟩ : ∃ w1, w.alloc (.cells #[.int .u8 q0, .int .u8 q1, .int .u8 q2, .int .u8 q3, .int .u8 q4, .int .u8 q5, .int .u8 q6, .int .u8 q7, .slice a n c] 27) = w1 := ⟨_, rfl⟩
  have hB1 : Below w.heap.size w w1 := by rw [← hw1]; exact (Below.refl _ w).alloc (Nat.le_refl _) _
  have hx1 : w1.heap[w.heap.size]? = some (.cells #[.int .u8 q0, .int .u8 q1, .int .u8 q2, .int .u8 q3, .int .u8 q4, .int .u8 q5, .int .u8 q6, .int .u8 q7, .slice a n c] 27 (0, 0)) := by rw [← hw1]; exact lit_new rfl
  have hbt : BAt w1 (some ⟨w.heap.size, 6, none⟩) 2 [q6, q7] := ⟨rfl, by omega, w.heap.size, 6, fun i hi => by
    match i, hi with
    | 0, _ => exact ⟨rfl, (Array.getElem?_eq_some_iff.1 hx1).1, by rw [cell_of_row w1 _ _ _ _ _ hx1]; rfl, h6⟩
    | 1, _ => exact ⟨rfl, (Array.getElem?_eq_some_iff.1 hx1).1, by rw [cell_of_row w1 _ _ _ _ _ hx1]; rfl, h7⟩⟩
  have HR := Lib.hid (read_ok_u16 (some ⟨w.heap.size, 6, none⟩) 2 2 33 #[] [] _ w1 (by omega) ⟨wd_nil, wd_ent, word_parse _ _ _ 2 q6 q7 _ (part_rd w1 _ 2 2 _ hbt (Nat.le_refl _))⟩)
  have HW1 := Lib.hid hw1; have HB1 := Lib.hid hB1
  have hw : IntKind.i64.wrap (q6 * 256 + q7) = q6 * 256 + q7 := by rw [IntKind.wrap_i64]; omega
  clear hw1 hB1 hx1 hbt
  generalize q6 * 256 + q7 = r at *
  go_enter Try.func11, Try.ntmps11
  go_wp2_with fail
  rw [HW1.out]
  refine (HR.out).mono ?_
  rintro e w2 ⟨v, w3, rfl, rfl, hg, hB2, _⟩
  have HB2 := Lib.hid (HB1.out.trans (hB2.mono HB1.out.size))
  clear hg hB2 HR
  go_wp2_with fail
  go_ret
  exact ⟨rfl, HB2.out⟩
end Go.Proofs.Ytppgjodehphaeaa
