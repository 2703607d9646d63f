/-
  The contracts of serial's and the reference's functions of plain numbers.
-/
import Derived.Test.YthmnkccmnajfgaaRows
import Derived.Test.YthmnkccmnajfgaaPlain
import Derived.WalkKit
import Derived.ProofKit
import Derived.OpenShut
import Derived.Lib.Hide
namespace Go.Proofs.Ythmnkccmnajfgaa
open Go.RowKit
set_option linter.unusedVariables false

theorem ahead_any (a b : Int) (w : World) :
    Calls Try.prog 11 #[.int .u16 a, .int .u16 b] w fun e w' => e = .returned (.int .i64 (Ser.ahead a b)) ∧ w = w' := by
  go_enter Try.func11, Try.ntmps11
  go_wp2
  go_ret
  refine ⟨ret_int ?_, rfl⟩
  rw [u16w, i16w, w64_in _ (by omega) (by omega)]; unfold Ser.ahead; omega
theorem refahead_any (a b : Int) (ha : 0 ≤ a) (ha' : a < 65536) (hb : 0 ≤ b) (hb' : b < 65536) (w : World) :
    Calls Try.prog 10 #[.int .u16 a, .int .u16 b] w fun e w' => e = .returned (.int .i64 (Ser.ahead a b)) ∧ w = w' := by
  go_enter Try.func10, Try.ntmps10
  go_wp2
  all_goals go_ret
  all_goals (refine ⟨ret_int ?_, rfl⟩; unfold Ser.ahead; omega)
theorem ahead32_any (a b : Int) (w : World) :
    Calls Try.prog 12 #[.int .u32 a, .int .u32 b] w fun e w' => e = .returned (.int .i64 (Ser.ahead32 a b)) ∧ w = w' := by
  go_enter Try.func12, Try.ntmps12
  go_wp2
  go_ret
  refine ⟨ret_int ?_, rfl⟩
  simp only [wrap32, wrap64]; unfold Ser.ahead32; omega
theorem refahead32_any (a b : Int) (ha : 0 ≤ a) (ha' : a < 4294967296) (hb : 0 ≤ b) (hb' : b < 4294967296) (w : World) :
    Calls Try.prog 13 #[.int .u32 a, .int .u32 b] w fun e w' => e = .returned (.int .i64 (Ser.ahead32 a b)) ∧ w = w' := by
  go_enter Try.func13, Try.ntmps13
  go_wp2
  all_goals go_ret
  all_goals (refine ⟨ret_int ?_, rfl⟩; unfold Ser.ahead32; omega)
theorem add_any (a n : Int) (w : World) :
    Calls Try.prog 16 #[.int .u16 a, .int .i64 n] w fun e w' => e = .returned (.int .u16 (Ser.add a n)) ∧ w = w' := by
  go_enter Try.func16, Try.ntmps16
  go_wp2
  all_goals go_ret
  refine ⟨ret_int ?_, rfl⟩
  rw [u16w, u16w]; unfold Ser.add; omega
theorem add32_any (a n : Int) (w : World) :
    Calls Try.prog 18 #[.int .u32 a, .int .i64 n] w fun e w' => e = .returned (.int .u32 (Ser.add32 a n)) ∧ w = w' := by
  go_enter Try.func18, Try.ntmps18
  go_wp2
  all_goals go_ret
  refine ⟨ret_int ?_, rfl⟩
  unfold Ser.add32; omega
theorem refadd_any (a n : Int) (ha : 0 ≤ a) (ha' : a < 65536) (hb : -9223372036854775808 ≤ n) (hb' : n ≤ 9223372036854775807) (w : World) :
    Calls Try.prog 17 #[.int .u16 a, .int .i64 n] w fun e w' => e = .returned (.int .u16 (Ser.add a n)) ∧ w = w' := by
  have hm := tmod_cases n 65536
  go_enter Try.func17, Try.ntmps17
  go_wp2
  all_goals go_ret
  all_goals (refine ⟨ret_int ?_, rfl⟩; unfold Ser.add; omega)
theorem refadd32_any (a n : Int) (ha : 0 ≤ a) (ha' : a < 4294967296) (hb : -9223372036854775808 ≤ n) (hb' : n ≤ 9223372036854775807) (w : World) :
    Calls Try.prog 19 #[.int .u32 a, .int .i64 n] w fun e w' => e = .returned (.int .u32 (Ser.add32 a n)) ∧ w = w' := by
  have hm := tmod_cases n 4294967296
  go_enter Try.func19, Try.ntmps19
  go_wp2
  all_goals go_ret
  all_goals (refine ⟨ret_int ?_, rfl⟩; unfold Ser.add32; omega)
theorem newer_any (a b : Int) (w : World) :
    Calls Try.prog 14 #[.int .u16 a, .int .u16 b] w fun e w' => e = .returned (.bool (Ser.newer a b)) ∧ w = w' := by
  go_enter Try.func14, Try.ntmps14
  go_wp2_with (go_at_call 11; refine (ahead_any _ _ _).mono ?_; rintro e w' ⟨rfl, rfl⟩)
  go_ret
  exact ⟨rfl, rfl⟩
theorem max_any (a b : Int) (w : World) :
    Calls Try.prog 15 #[.int .u16 a, .int .u16 b] w fun e w' => e = .returned (.int .u16 (Ser.later a b)) ∧ w = w' := by
  cases h : Ser.newer b a
  all_goals
    have H := Lib.hid h; clear h
    go_enter Try.func15, Try.ntmps15
    go_wp2_with (go_at_call 14; refine (newer_any _ _ _).mono ?_; rintro e w' ⟨rfl, rfl⟩; rw [H.out])
    go_ret
    exact ⟨ret_int (by simp [Ser.later, H.out]), rfl⟩
end Go.Proofs.Ythmnkccmnajfgaa
