
/-
  WireWrites' walk.
-/
import Derived.Test.YtknpdcnhdmbbiaaWireRWrite
namespace Go.Proofs.Ytknpdcnhdmbbiaa
open Go.RowKit Go.Shelf
set_option linter.unusedVariables false
def WwSt (w : World) (a0 : Option Addr) (n0 : Nat) (ks ns : Nat → Int) (a1 : Option Addr) (n1 : Nat) (xs : Nat → Int) (A : Nat → Option Addr) (L C : Nat → Nat) (bs : Nat → List Int) (W : World) : Prop :=
  StAt W a0 n0 ks ns ∧ GtAt W a1 n1 xs A L C bs ∧ Below w.heap.size w W
theorem WwSt.below {w : World} {a0 : Option Addr} {n0 : Nat} {ks ns : Nat → Int} {a1 : Option Addr} {n1 : Nat} {xs : Nat → Int} {A : Nat → Option Addr} {L C : Nat → Nat} {bs : Nat → List Int} {W W' : World} (h : WwSt w a0 n0 ks ns a1 n1 xs A L C bs W) (hb : Below W.heap.size W W') : WwSt w a0 n0 ks ns a1 n1 xs A L C bs W' :=
  ⟨h.1.below hb, h.2.1.below hb, h.2.2.trans (hb.mono h.2.2.size)⟩
theorem Wr_len (ks xs : Nat → Int) (bs : Nat → List Int) : ∀ m, (∀ i, i < m → (bs i).length ≤ 200) → (Wr ks xs bs m).length ≤ 200 * m
  | 0, _ => by simp [Wr]
  | m + 1, h => by
    have ih := Wr_len ks xs bs m (fun i hi => h i (by omega))
    have := wr1_len (ks m) (xs m) (bs m) (h m (by omega))
    simp only [Wr, List.length_append]
    omega
/-- A slice of steps, a slice of gots, as they come in. -/
def StIn (w : World) (a : Option Addr) (len cap : Nat) (ks ns : Nat → Int) : Prop :=
  (a = none ∧ len = 0 ∧ cap = 0) ∨ ∃ x, a = some x ∧ len ≤ cap ∧ cap ≤ maxLen ∧ ∀ i, i < cap → w.cell? (x.add (i * 2)) = some (.int .i64 (ks i)) ∧ w.cell? (x.add (i * 2 + 1)) = some (.int .i64 (ns i))
theorem add_none {b o k : Nat} : (Addr.add ⟨b, o, none⟩ k) = ⟨b, o + k, none⟩ := by unfold Addr.add; split <;> simp_all
theorem StIn.at {w : World} {a : Option Addr} {len cap : Nat} {ks ns : Nat → Int} (h : StIn w a len cap ks ns) : StAt w a len ks ns ∧ len ≤ maxLen := by
  rcases h with ⟨rfl, rfl, rfl⟩ | ⟨⟨b, o, sp⟩, rfl, hl, hm, hr⟩
  · exact ⟨⟨0, 0, fun i hi => by omega⟩, Nat.zero_le _⟩
  · refine ⟨⟨b, o, fun i hi => ?_⟩, by omega⟩
    have hs : sp = none := by have := World.cell?_spot (hr 0 (by omega)).1; simpa [Addr.add] using this
    subst hs
    obtain ⟨h1, h2⟩ := hr i (by omega)
    rw [add_none] at h1 h2
    exact ⟨rfl, World.block_lt_of_cell? w _ h1, h1, by rw [Nat.add_assoc]; exact h2⟩
def GtIn (w : World) (a : Option Addr) (len cap : Nat) (xs : Nat → Int) (A : Nat → Option Addr) (L C : Nat → Nat) (Z : Nat → List Int) : Prop :=
  (a = none ∧ len = 0 ∧ cap = 0) ∨ ∃ x, a = some x ∧ len ≤ cap ∧ cap ≤ maxLen ∧ ∀ i, i < cap → w.cell? (x.add (i * 2)) = some (.int .u64 (xs i)) ∧ (Lit.int .u64 (xs i)).wf = true ∧ w.cell? (x.add (i * 2 + 1)) = some (.slice (A i) (L i) (C i)) ∧ IntRow .u8 w (A i) (L i) (C i) (Z i)
theorem GtIn.at {w : World} {a : Option Addr} {len cap : Nat} {xs : Nat → Int} {A : Nat → Option Addr} {L C : Nat → Nat} {Z : Nat → List Int} (h : GtIn w a len cap xs A L C Z) : GtAt w a len xs A L C (fun i => (Z i).take (L i)) ∧ len ≤ maxLen := by
  rcases h with ⟨rfl, rfl, rfl⟩ | ⟨⟨b, o, sp⟩, rfl, hl, hm, hr⟩
  · exact ⟨⟨0, 0, fun i hi => by omega⟩, Nat.zero_le _⟩
  · refine ⟨⟨b, o, fun i hi => ?_⟩, by omega⟩
    have hs : sp = none := by have := World.cell?_spot (hr 0 (by omega)).1; simpa [Addr.add] using this
    subst hs
    obtain ⟨h1, hw, h2, h3⟩ := hr i (by omega)
    rw [add_none] at h1 h2
    simp [Lit.wf, IntKind.min, IntKind.max, IntKind.bits, IntKind.signed] at hw
    exact ⟨rfl, World.block_lt_of_cell? w _ h1, h1, by rw [Nat.add_assoc]; exact h2, by omega, by omega, h3.bat.1⟩
end Go.Proofs.Ytknpdcnhdmbbiaa
