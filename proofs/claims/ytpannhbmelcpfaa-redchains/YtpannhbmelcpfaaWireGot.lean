
/-
  A slice of gots in rows of its own, and one more appended.
-/
import Derived.Test.YtpannhbmelcpfaaWireOne
namespace Go.Proofs.Ytpannhbmelcpfaa
open Go.RowKit Go.Shelf
set_option linter.unusedVariables false
def gcells (xs : Nat → Int) (A : Nat → Option Addr) (bs : Nat → List Int) (C : Nat → Nat) : Nat → List Value
  | 0 => []
  | i + 1 => gcells xs A bs C i ++ [.int .u64 (xs i), .slice (A i) (bs i).length (C i)]
theorem gcells_len (xs : Nat → Int) (A : Nat → Option Addr) (bs : Nat → List Int) (C : Nat → Nat) : ∀ i, (gcells xs A bs C i).length = i * 2
  | 0 => rfl
  | i + 1 => by simp [gcells, gcells_len xs A bs C i]; omega
theorem gcells_congr {xs : Nat → Int} {A A' : Nat → Option Addr} {bs : Nat → List Int} {C C' : Nat → Nat} : ∀ i, (∀ j, j < i → A' j = A j ∧ C' j = C j) → gcells xs A' bs C' i = gcells xs A bs C i
  | 0, _ => rfl
  | i + 1, h => by
    obtain ⟨h1, h2⟩ := h i (by omega)
    simp only [gcells]
    rw [gcells_congr i (fun j hj => h j (by omega)), h1, h2]
theorem gcells_at (xs : Nat → Int) (A : Nat → Option Addr) (bs : Nat → List Int) (C : Nat → Nat) : ∀ i j, j < i → (gcells xs A bs C i)[j * 2]? = some (.int .u64 (xs j)) ∧ (gcells xs A bs C i)[j * 2 + 1]? = some (.slice (A j) (bs j).length (C j))
  | 0, j, h => by omega
  | i + 1, j, h => by
    have hl := gcells_len xs A bs C i
    by_cases e : j = i
    · subst e
      simp only [gcells]
      rw [List.getElem?_append_right (by omega), List.getElem?_append_right (by omega), hl, Nat.sub_self, show j * 2 + 1 - j * 2 = 1 from by omega]
      exact ⟨rfl, rfl⟩
    · simp only [gcells]
      rw [List.getElem?_append_left (by omega), List.getElem?_append_left (by omega)]
      exact gcells_at xs A bs C i j (by omega)
theorem Own.kept {W W' : World} {base : Nat} {a : Option Addr} {n c : Nat} {l : List Int} {r : Option Nat} (h : Own W base a n c l) (hg : W.grownBy W' r) (hr : ∀ y, a = some y → r ≠ some y.block) : Own W' base a n c l :=
  ⟨h.row.kept hg (by
    cases a with
    | none => exact .inl rfl
    | some y => exact .inr (by
        have := hr y rfl
        simpa [Value.ownBlock] using fun e => this e.symm)), h.ok⟩
end Go.Proofs.Ytpannhbmelcpfaa
