
/-
  ReportParts' walk.
-/
import Derived.Test.YtpannhbmelcpfabRepLoses
namespace Go.Proofs.Ytpannhbmelcpfab
open Go.RowKit
set_option linter.unusedVariables false
attribute [local go_sem] Oper.semAt_some
theorem and15 (n : Int) : bits .and .i64 n 15 = n % 16 := i64_mask n 4 (by decide) _ (by decide)
end Go.Proofs.Ytpannhbmelcpfab
