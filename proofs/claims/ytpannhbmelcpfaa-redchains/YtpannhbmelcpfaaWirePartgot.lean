
/-
  wire.Part[[]conflux/confluxref03.Got], wire.Read[[]conflux/confluxref03.Got].
-/
import Derived.Test.YtpannhbmelcpfaaWireAttgot
import Derived.Test.YtpannhbmelcpfaaWirePart0
namespace Go.Proofs.Ytpannhbmelcpfaa
open Go.RowKit Go.Shelf
set_option linter.unusedVariables false
end Go.Proofs.Ytpannhbmelcpfaa
