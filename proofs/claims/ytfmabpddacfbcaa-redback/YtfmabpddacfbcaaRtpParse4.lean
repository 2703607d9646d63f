
/-
  rtp.readPacket.
-/
import Derived.Test.YtfmabpddacfbcaaRtpParse3
namespace Go.Proofs.Ytfmabpddacfbcaa
open Go.RowKit Go.Shelf
set_option linter.unusedVariables false
theorem getD_drop1 (l : List Int) (k i : Nat) : (l.drop k).getD i 0 = l.getD (k + i) 0 := by simp [List.getD_eq_getElem?_getD]
/-- A call that panics, and a way out that cannot be. -/
theorem orFalse {P : Program} {f : FuncId} {args : Array Value} {w : World} {R : Ending → World → Prop} (v : Value) (h : Calls P f args w R) : Calls P f args w fun e w' => R e w' ∨ (e = .returned v ∧ Hid False) := h.mono fun _ _ h => .inl h
theorem nz_if (p : Prop) [Decidable p] (v : Int) (hv : v ≠ 0) : ((if p then v else 0) != 0) = decide p := by by_cases h : p <;> simp [h, hv]
end Go.Proofs.Ytfmabpddacfbcaa
