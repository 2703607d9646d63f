
/-
  What the laws of layer 8 take in: numbers, truths, packets in memory.
-/
import Derived.Test.YtpannhbmelcpfabRep4
import Derived.Test.YtpannhbmelcpfabRepPlain
import Derived.Deep.Slices
namespace Go.Proofs.Ytpannhbmelcpfab
open Go.RowKit
set_option linter.unusedVariables false
def TrueBelow (w : World) (e : Ending) (w' : World) : Prop := e = .returned (.bool true) ∧ Below w.heap.size w w'
def IntRow (k : IntKind) (w : World) (a : Option Addr) (len cap : Nat) (zs : List Int) : Prop :=
  (a = none ∧ len = 0 ∧ cap = 0 ∧ zs = []) ∨
  ∃ x, a = some x ∧ len ≤ cap ∧ cap ≤ maxLen ∧ zs.length = cap ∧ (∀ i, i < zs.length → w.cell? (x.add i) = some (.int k (zs.getD i 0))) ∧ ∀ n ∈ zs, (Lit.int k n).wf = true
/-- What the walks want of a slice of numbers that came in: its first len numbers are at a row of cells (of no cell, if len is 0). -/
theorem IntRow.open {k : IntKind} {w : World} {a : Option Addr} {len cap : Nat} {zs : List Int} (h : IntRow k w a len cap zs) :
    ∃ (b off : Nat), len ≤ 9223372036854775807 ∧ (0 < len → a = some ⟨b, off, none⟩) ∧ (∀ i, i < len → b < w.heap.size ∧ w.cell? ⟨b, off + i, none⟩ = some (.int k (zs.getD i 0)) ∧ (Lit.int k (zs.getD i 0)).wf = true) := by
  rcases h with ⟨rfl, rfl, rfl, rfl⟩ | ⟨⟨b, off, sp⟩, rfl, hl, hm, hz, hc, hw⟩
  · exact ⟨0, 0, by omega, fun h => by omega, fun i h => by omega⟩
  · have hsp : 0 < len → sp = none := fun h0 => by
      have := World.cell?_spot (hc 0 (by omega))
      simpa [Addr.add] using this
    refine ⟨b, off, by unfold maxLen at hm; omega, fun h0 => by rw [hsp h0], fun i hi => ?_⟩
    have hs := hsp (by omega)
    subst hs
    have h1 := hc i (by omega)
    rw [show (Addr.add ⟨b, off, none⟩ i) = ⟨b, off + i, none⟩ from by unfold Addr.add; split <;> simp_all] at h1
    refine ⟨?_, h1, ?_⟩
    · simp only [World.cell?] at h1
      by_cases hb : b < w.heap.size
      · exact hb
      · simp [Array.getElem?_eq_none (Nat.le_of_not_lt hb)] at h1
    · have : zs.getD i 0 ∈ zs := by
        rw [List.getD_eq_getElem?_getD, List.getElem?_eq_getElem (by omega)]; simp
      exact hw _ this
/-- A slice of truths that came in. -/
def BoolIn (w : World) (a : Option Addr) (len cap : Nat) (B : Nat → Bool) : Prop :=
  (a = none ∧ len = 0 ∧ cap = 0) ∨ ∃ x, a = some x ∧ len ≤ cap ∧ cap ≤ maxLen ∧ ∀ r, r < cap → w.cell? (x.add r) = some (.bool (B r))
theorem add_flat (b off i : Nat) : Addr.add ⟨b, off, none⟩ i = ⟨b, off + i, none⟩ := by unfold Addr.add; split <;> simp_all
theorem cell_lt {w : World} {b o : Nat} {v : Value} (h : w.cell? ⟨b, o, none⟩ = some v) : b < w.heap.size := by
  simp only [World.cell?] at h
  by_cases hb : b < w.heap.size
  · exact hb
  · simp [Array.getElem?_eq_none (Nat.le_of_not_lt hb)] at h
theorem BoolIn.open {w : World} {a : Option Addr} {len cap : Nat} {B : Nat → Bool} (h : BoolIn w a len cap B) :
    ∃ (b off : Nat), len ≤ 9223372036854775807 ∧ (0 < len → a = some ⟨b, off, none⟩) ∧ (∀ i, i < len → b < w.heap.size ∧ w.cell? ⟨b, off + i, none⟩ = some (.bool (B i))) := by
  rcases h with ⟨rfl, rfl, rfl⟩ | ⟨⟨b, off, sp⟩, rfl, hl, hm, hc⟩
  · exact ⟨0, 0, by omega, fun h => by omega, fun i h => by omega⟩
  · have hsp : 0 < len → sp = none := fun h0 => by
      have := World.cell?_spot (hc 0 (by omega))
      simpa [Addr.add] using this
    refine ⟨b, off, by unfold maxLen at hm; omega, fun h0 => by rw [hsp h0], fun i hi => ?_⟩
    have hs := hsp (by omega)
    subst hs
    have h1 := hc i (by omega)
    rw [add_flat] at h1
    exact ⟨cell_lt h1, h1⟩
/-- A slice of structs of whole numbers that came in. -/
def StructsIn (w : World) (a : Option Addr) (len cap : Nat) (fs : List (IntKind × (Nat → Int))) : Prop :=
  (a = none ∧ len = 0 ∧ cap = 0) ∨ ∃ x, a = some x ∧ len ≤ cap ∧ cap ≤ maxLen ∧ ∀ r, r < cap → ∀ j p, fs[j]? = some p → w.cell? (x.add (r * fs.length + j)) = some (.int p.1 (p.2 r)) ∧ (Lit.int p.1 (p.2 r)).wf = true
theorem StructsIn.open {w : World} {a : Option Addr} {len cap : Nat} {q t n : Nat → Int} (h : StructsIn w a len cap [(.u16, q), (.u32, t), (.i64, n)]) :
    ∃ (b off : Nat), len ≤ 9223372036854775807 ∧ (0 < len → a = some ⟨b, off, none⟩) ∧ (∀ i, i < len → b < w.heap.size ∧ w.cell? ⟨b, off + i * 3, none⟩ = some (.int .u16 (q i)) ∧ w.cell? ⟨b, off + i * 3 + 1, none⟩ = some (.int .u32 (t i)) ∧ w.cell? ⟨b, off + i * 3 + 2, none⟩ = some (.int .i64 (n i)) ∧
      (0 ≤ q i ∧ q i < 65536) ∧ (0 ≤ t i ∧ t i < 4294967296) ∧ (-9223372036854775808 ≤ n i ∧ n i ≤ 9223372036854775807)) := by
  rcases h with ⟨rfl, rfl, rfl⟩ | ⟨⟨b, off, sp⟩, rfl, hl, hm, hc⟩
  · exact ⟨0, 0, by omega, fun h => by omega, fun i h => by omega⟩
  · have hsp : 0 < len → sp = none := fun h0 => by
      have := World.cell?_spot (hc 0 (by omega) 0 _ rfl).1
      simpa [Addr.add] using this
    refine ⟨b, off, by unfold maxLen at hm; omega, fun h0 => by rw [hsp h0], fun i hi => ?_⟩
    have hs := hsp (by omega)
    subst hs
    have h0 := hc i (by omega) 0 _ rfl
    have h1 := hc i (by omega) 1 _ rfl
    have h2 := hc i (by omega) 2 _ rfl
    rw [add_flat] at h0 h1 h2
    exact ⟨cell_lt h0.1, h0.1, h1.1, h2.1, wf_u16 h0.2, wf_u32 h1.2, wf_i64 h2.2⟩
theorem Far.extend (f h at' s : Int) (hf : 0 ≤ f ∧ f < 65536) (hh : h = 4294967296 + f + at') (h0 : 0 ≤ at') (h1 : at' ≤ 4000000) (hs : -32767 ≤ s ∧ s ≤ 32767) :
    Ser.extend h (Ser.add f (at' + s)) = 4294967296 + f + (at' + s) := by
  unfold Ser.extend Ser.add Ser.ahead
  rw [if_neg (by omega)]
  subst hh
  omega

end Go.Proofs.Ytpannhbmelcpfab
