
/-
  wire.attempt[int].
-/
import Derived.Test.YtpannhbmelcpfaaWireAtt0
namespace Go.Proofs.Ytpannhbmelcpfaa
open Go.RowKit Go.Shelf
set_option linter.unusedVariables false
end Go.Proofs.Ytpannhbmelcpfaa
