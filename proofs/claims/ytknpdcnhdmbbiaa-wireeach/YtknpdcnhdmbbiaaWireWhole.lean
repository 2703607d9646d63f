
/-
  confluxref03.Whole; confluxlaw03.parse; the first step that fails.
-/
import Derived.Test.YtknpdcnhdmbbiaaWireRun
namespace Go.Proofs.Ytknpdcnhdmbbiaa
open Go.RowKit Go.Shelf
set_option linter.unusedVariables false
/-- There is a first step that fails, or none. -/
theorem first_no (ks ns : Nat → Int) (n : Nat) : ∀ n0, ∃ F, F ≤ n0 ∧ (∀ j, j < F → noAt ks ns n j = 0) ∧ (F < n0 → noAt ks ns n F ≠ 0)
  | 0 => ⟨0, Nat.le_refl _, fun j hj => by omega, fun h => by omega⟩
  | n0 + 1 => by
    obtain ⟨F, h1, h2, h3⟩ := first_no ks ns n n0
    by_cases e : F = n0
    · subst e
      by_cases h0 : noAt ks ns n F = 0
      · exact ⟨F + 1, Nat.le_refl _, fun j hj => by
          by_cases e : j = F
          · subst e; exact h0
          · exact h2 j (by omega), fun h => by omega⟩
      · exact ⟨F, by omega, h2, fun _ => h0⟩
    · exact ⟨F, by omega, h2, fun _ => h3 (by omega)⟩
/-- Whole's number and gots: none where F < n0, or where bytes are left. -/
def WholeEnd (n : Nat) (l : List Int) (ks ns : Nat → Int) (n0 F : Nat) (w : World) (e : Ending) (w' : World) : Prop :=
  (F = n0 → pos ks ns n n0 = n → ∃ ao co, e = .returned (.tuple #[.slice ao n0 co, .int .i64 0]) ∧ GRow w' w.heap.size ao n0 co (gotX ks ns l) (gotB ks ns l) ∧ Below w.heap.size w w') ∧
  (F = n0 → pos ks ns n n0 < n → e = .returned (.tuple #[.slice none 0 0, .int .i64 22]) ∧ Below w.heap.size w w') ∧
  (F < n0 → e = .returned (.tuple #[.slice none 0 0, .int .i64 (noAt ks ns n F)]) ∧ Below w.heap.size w w')
end Go.Proofs.Ytknpdcnhdmbbiaa
