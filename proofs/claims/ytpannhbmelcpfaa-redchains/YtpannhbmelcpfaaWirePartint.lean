
/-
  wire.Part[int], wire.Read[int].
-/
import Derived.Test.YtpannhbmelcpfaaWireAttint
import Derived.Test.YtpannhbmelcpfaaWirePart0
namespace Go.Proofs.Ytpannhbmelcpfaa
open Go.RowKit Go.Shelf
set_option linter.unusedVariables false
end Go.Proofs.Ytpannhbmelcpfaa
