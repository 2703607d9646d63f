
/-
  The reference of layer 4: at, one, Xor, Gap, Fit; confluxref02.Held; confluxref01.Copy.
-/
import Derived.Test.YtpannhbmelcpfaaStrCuts
namespace Go.Proofs.Ytpannhbmelcpfaa
open Go.RowKit Go.Shelf
set_option linter.unusedVariables false
/-- The bit of an exclusive or. -/
theorem Str.bx_bit (x y : Int) (j : Nat) (hx : 0 ≤ x) (hy : 0 ≤ y) : (Str.bx x y).toNat / 2 ^ j % 2 = (x.toNat / 2 ^ j % 2 + y.toNat / 2 ^ j % 2) % 2 := by
  have h : (Str.bx x y).toNat = x.toNat ^^^ y.toNat := by unfold Str.bx; simp
  rw [h]
  have := Nat.testBit_xor x.toNat y.toNat j
  rw [Nat.testBit_eq_decide_div_mod_eq, Nat.testBit_eq_decide_div_mod_eq, Nat.testBit_eq_decide_div_mod_eq] at this
  have m1 := Nat.mod_two_eq_zero_or_one (x.toNat / 2 ^ j)
  have m2 := Nat.mod_two_eq_zero_or_one (y.toNat / 2 ^ j)
  have m3 := Nat.mod_two_eq_zero_or_one ((x.toNat ^^^ y.toNat) / 2 ^ j)
  rcases m1 with m1 | m1 <;> rcases m2 with m2 | m2 <;> rcases m3 with m3 | m3 <;> simp [m1, m2, m3] at this ⊢
def OnePow (P : Nat) : Prop := P = 128 ∨ P = 64 ∨ P = 32 ∨ P = 16 ∨ P = 8 ∨ P = 4 ∨ P = 2 ∨ P = 1
theorem OnePow.bit {P : Nat} (h : OnePow P) (x y : Int) (hx : 0 ≤ x ∧ x < 256) (hy : 0 ≤ y ∧ y < 256) : Str.bx x y / P % 2 = (x / P % 2 + y / P % 2) % 2 := by
  have hb := (Str.bx_byte hx hy).1
  have key : ∀ j, Str.bx x y / ((2 ^ j : Nat) : Int) % 2 = (x / ((2 ^ j : Nat) : Int) % 2 + y / ((2 ^ j : Nat) : Int) % 2) % 2 := fun j => by
    have h1 := Str.bx_bit x y j hx.1 hy.1
    have e1 : Str.bx x y = ((Str.bx x y).toNat : Int) := by omega
    have e2 : x = (x.toNat : Int) := by omega
    have e3 : y = (y.toNat : Int) := by omega
    generalize (Str.bx x y).toNat = a at h1 e1
    generalize x.toNat = b at h1 e2
    generalize y.toNat = c at h1 e3
    rw [e1, e2, e3, ← Int.natCast_ediv, ← Int.natCast_ediv, ← Int.natCast_ediv]
    omega
  rcases h with rfl | rfl | rfl | rfl | rfl | rfl | rfl | rfl
  · exact key 7
  · exact key 6
  · exact key 5
  · exact key 4
  · exact key 3
  · exact key 2
  · exact key 1
  · exact key 0
end Go.Proofs.Ytpannhbmelcpfaa
