
/-
  The contracts of serial's and the reference's functions of plain numbers.
-/
import Derived.Test.YtpannhbmelcpfabRows
import Derived.Test.YtpannhbmelcpfabPlain
import Derived.WalkKit
import Derived.ProofKit
import Derived.OpenShut
import Derived.Lib.Hide
namespace Go.Proofs.Ytpannhbmelcpfab
open Go.RowKit
set_option linter.unusedVariables false

theorem ahead_any (a b : Int) (w : World) :
    Calls Try.prog 114 #[.int .u16 a, .int .u16 b] w fun e w' => e = .returned (.int .i64 (Ser.ahead a b)) ∧ w = w' := by
  go_enter Try.func114, Try.ntmps114
  go_wp2
  go_ret
  refine ⟨ret_int ?_, rfl⟩
  rw [u16w, i16w, w64_in _ (by omega) (by omega)]; unfold Ser.ahead; omega
theorem refahead_any (a b : Int) (ha : 0 ≤ a) (ha' : a < 65536) (hb : 0 ≤ b) (hb' : b < 65536) (w : World) :
    Calls Try.prog 121 #[.int .u16 a, .int .u16 b] w fun e w' => e = .returned (.int .i64 (Ser.ahead a b)) ∧ w = w' := by
  go_enter Try.func121, Try.ntmps121
  go_wp2
  all_goals go_ret
  all_goals (refine ⟨ret_int ?_, rfl⟩; unfold Ser.ahead; omega)
theorem ahead32_any (a b : Int) (w : World) :
    Calls Try.prog 58 #[.int .u32 a, .int .u32 b] w fun e w' => e = .returned (.int .i64 (Ser.ahead32 a b)) ∧ w = w' := by
  go_enter Try.func58, Try.ntmps58
  go_wp2
  go_ret
  refine ⟨ret_int ?_, rfl⟩
  simp only [wrap32, wrap64]; unfold Ser.ahead32; omega
theorem refahead32_any (a b : Int) (ha : 0 ≤ a) (ha' : a < 4294967296) (hb : 0 ≤ b) (hb' : b < 4294967296) (w : World) :
    Calls Try.prog 90 #[.int .u32 a, .int .u32 b] w fun e w' => e = .returned (.int .i64 (Ser.ahead32 a b)) ∧ w = w' := by
  go_enter Try.func90, Try.ntmps90
  go_wp2
  all_goals go_ret
  all_goals (refine ⟨ret_int ?_, rfl⟩; unfold Ser.ahead32; omega)
end Go.Proofs.Ytpannhbmelcpfab
