
/-
  The contracts of serial's and the reference's functions of plain numbers.
-/
import Derived.Test.YtpannhbmelcpfaaRows
import Derived.Test.YtpannhbmelcpfaaPlain
import Derived.WalkKit
import Derived.ProofKit
import Derived.OpenShut
import Derived.Lib.Hide
namespace Go.Proofs.Ytpannhbmelcpfaa
open Go.RowKit
set_option linter.unusedVariables false

theorem add32_any (a n : Int) (w : World) :
    Calls Try.prog 54 #[.int .u32 a, .int .i64 n] w fun e w' => e = .returned (.int .u32 (Ser.add32 a n)) ∧ w = w' := by
  go_enter Try.func54, Try.ntmps54
  go_wp2
  all_goals go_ret
  refine ⟨ret_int ?_, rfl⟩
  unfold Ser.add32; omega
theorem refadd32_any (a n : Int) (ha : 0 ≤ a) (ha' : a < 4294967296) (hb : -9223372036854775808 ≤ n) (hb' : n ≤ 9223372036854775807) (w : World) :
    Calls Try.prog 27 #[.int .u32 a, .int .i64 n] w fun e w' => e = .returned (.int .u32 (Ser.add32 a n)) ∧ w = w' := by
  have hm := tmod_cases n 4294967296
  go_enter Try.func27, Try.ntmps27
  go_wp2
  all_goals go_ret
  all_goals (refine ⟨ret_int ?_, rfl⟩; unfold Ser.add32; omega)
end Go.Proofs.Ytpannhbmelcpfaa
