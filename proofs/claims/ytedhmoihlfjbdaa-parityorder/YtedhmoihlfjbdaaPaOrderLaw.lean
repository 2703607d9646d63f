
/-
  ParityOrder: the walk with all its calls.
-/
import Derived.Test.YtedhmoihlfjbdaaPaOrder
import Derived.Test.YtedhmoihlfjbdaaPaAlive
namespace Go.Proofs.Ytedhmoihlfjbdaa
open Go.RowKit Go.Shelf
set_option linter.unusedVariables false
theorem walk_ParityOrder (a : Option Addr) (len cap : Nat) (A : Nat → Option Addr) (L C : Nat → Nat) (Z : Nat → List Int) (at' bit : Int) (w : World) (w0 : RowsIn .u8 w a len cap A L C Z) :
    Calls Try.prog 5 #[.slice a len cap, .int .i64 at', .int .i64 bit] w fun e w' => e = .returned (.bool true) ∧ Below w.heap.size w w' := by
  have hl : len ≤ maxLen := w0.row.2.1
  unfold maxLen at hl
  exact order_core alive13 a len cap (inl len L Z) at' bit w w0.pkw w0.row.1 (by omega)
end Go.Proofs.Ytedhmoihlfjbdaa
