/-
  cmp.Compare, and the comparison of serial.Sort.
-/
import Derived.Test.YthmnkccmnajfgaaSort0
namespace Go.Proofs.Ythmnkccmnajfgaa
open Go.RowKit Go.Sort
set_option linter.unusedVariables false
def Ser.cmp (x y : Int) : Int := if x < y then -1 else if y < x then 1 else 0
theorem isnan_any (x : Int) (w : World) : Calls Try.prog 35 #[.int .i64 x] w fun e w' => e = .returned (.bool false) ∧ w = w' := by
  go_enter Try.func35, Try.ntmps35
  go_wp2
  go_ret
  exact ⟨ret_bool (by simp), rfl⟩
theorem compare_any (x y : Int) (w : World) : Calls Try.prog 33 #[.int .i64 x, .int .i64 y] w fun e w' => e = .returned (.int .i64 (Ser.cmp x y)) ∧ w = w' := by
  by_cases h1 : x < y
  · go_enter Try.func33, Try.ntmps33
    go_wp2_with (go_at_call 35; refine (isnan_any _ _).mono ?_; rintro e w' ⟨rfl, rfl⟩)
    go_ret
    exact ⟨ret_int (by unfold Ser.cmp; rw [if_pos h1]), rfl⟩
  · by_cases h2 : y < x
    · go_enter Try.func33, Try.ntmps33
      go_wp2_with (go_at_call 35; refine (isnan_any _ _).mono ?_; rintro e w' ⟨rfl, rfl⟩)
      go_ret
      exact ⟨ret_int (by unfold Ser.cmp; rw [if_neg (by omega), if_pos (by omega)]), rfl⟩
    · go_enter Try.func33, Try.ntmps33
      go_wp2_with (go_at_call 35; refine (isnan_any _ _).mono ?_; rintro e w' ⟨rfl, rfl⟩)
      go_ret
      exact ⟨ret_int (by unfold Ser.cmp; rw [if_neg (by omega), if_neg (by omega)]), rfl⟩
/-- The comparison by how far two numbers are ahead of the first one. -/
def Ser.by (f x y : Int) : Int := Ser.cmp (Ser.ahead x f) (Ser.ahead y f)
theorem sortfn_any (fb : Nat) (f x y : Int) (w : World) (hc : w.cell? ⟨fb, 0, none⟩ = some (.int .u16 f)) :
    Calls Try.prog 32 #[.int .u16 x, .int .u16 y, .pointer (some ⟨fb, 0, none⟩)] w (Drawn (.int .i64 (Ser.by f x y)) w) := by
  go_enter Try.func32, Try.ntmps32
  go_wp2
  go_quiet (first | (go_at_call 11; exact Calls.quiet_of_same ((ahead_any _ _ _).mono fun _ _ ⟨a, b⟩ => ⟨a, b.symm⟩)) | (go_at_call 33; exact Calls.quiet_of_same ((compare_any _ _ _).mono fun _ _ ⟨a, b⟩ => ⟨a, b.symm⟩)))
  go_wp2
  go_ret
  exact ⟨rfl, _, rfl⟩
theorem Ser.by_swo (f : Int) : SWO (ltC (Ser.by f)) := by
  constructor
  · intro x; unfold ltC Ser.by Ser.cmp; simp
  · intro x y z; unfold ltC Ser.by Ser.cmp; simp only [decide_eq_true_eq]; intro h1 h2
    repeat (first | split at h1 | split at h2 | split)
    all_goals omega
  · intro x y z; unfold ltC Ser.by Ser.cmp; simp only [decide_eq_false_iff_not]; intro h1 h2
    repeat (first | split at h1 | split at h2 | split)
    all_goals omega
theorem Ser.by_inj (f x y : Int) (hx : 0 ≤ x ∧ x < 65536) (hy : 0 ≤ y ∧ y < 65536) (h1 : ltC (Ser.by f) x y = false) (h2 : ltC (Ser.by f) y x = false) : x = y := by
  unfold ltC Ser.by Ser.cmp Ser.ahead at *; simp only [decide_eq_false_iff_not] at h1 h2
  split at h1 <;> split at h2 <;> omega
end Go.Proofs.Ythmnkccmnajfgaa
