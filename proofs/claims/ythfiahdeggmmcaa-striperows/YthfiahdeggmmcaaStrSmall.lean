/-
  Slices of slices in memory; confluxlaw04.small.
-/
import Derived.Test.YthfiahdeggmmcaaStrCuts
namespace Go.Proofs.Ythfiahdeggmmcaa
open Go.RowKit Go.Shelf
set_option linter.unusedVariables false
/-- The slice a of len slices: their addresses, lengths and capacities. -/
def VAt (W : World) (a : Option Addr) (len : Nat) (av : Nat → Option Addr) (nv cv : Nat → Nat) : Prop :=
  ∃ b o, ∀ k, k < len → a = some ⟨b, o, none⟩ ∧ b < W.heap.size ∧ W.cell? ⟨b, o + k, none⟩ = some (.slice (av k) (nv k) (cv k)) ∧ nv k ≤ 9223372036854775807
theorem VAt.below {W W' : World} {a : Option Addr} {len : Nat} {av : Nat → Option Addr} {nv cv : Nat → Nat} (h : VAt W a len av nv cv) (hb : Below W.heap.size W W') : VAt W' a len av nv cv := by
  obtain ⟨b, o, hr⟩ := h
  refine ⟨b, o, fun k hk => ?_⟩
  obtain ⟨h1, h2, h3, h4⟩ := hr k hk
  exact ⟨h1, by have := hb.size; omega, (hb.cell (p := ⟨b, o + k, none⟩) h2).trans h3, h4⟩
def smallB (len : Nat) (nv : Nat → Nat) : Bool := decide ((∀ k, k < len → nv k ≤ 500) ∧ len ≤ 30)
set_option maxHeartbeats 1000000 in
set_option maxRecDepth 100000 in
theorem small_any (a : Option Addr) (len c : Nat) (av : Nat → Option Addr) (nv cv : Nat → Nat) (w : World) (h : VAt w a len av nv cv) (hlen : len ≤ 9223372036854775807) :
    Calls Try.prog 26 #[.slice a len c] w (SameV (.bool (smallB len nv)) w) := by
  obtain ⟨b, o, hr⟩ := h
  have HR := Lib.hid hr; clear hr
  go_enter Try.func26, Try.ntmps26
  go_wp2
  go_loop [7] (fun i => ∃ k : Nat, k ≤ len ∧ i = .int .i64 k ∧ Hid (∀ j, j < k → nv j ≤ 500)) (fun i => len - (intOf i).toNat)
  case atStart => exact ⟨0, Nat.zero_le _, rfl, Lib.hid (fun j hj => by omega)⟩
  case round =>
    obtain ⟨k, hk, rfl, HE⟩ := hrel
    by_cases hlt : k < len
    · have hltz : (k : Int) < (len : Int) := by omega
      obtain ⟨rfl, _, d, q⟩ := HR.out k hlt
      by_cases h5 : 500 < nv k
      · have hs : smallB len nv = false := decide_eq_false fun h => by have := h.1 k hlt; omega
        have HS := Lib.hid hs; clear hs
        generalize nv k = z at d q h5
        have h5z : (500 : Int) < (z : Int) := by omega
        go_wp2
        go_ret
        exact ⟨by rw [HS.out] <;> rfl, rfl⟩
      · have HE' : Hid (∀ j, j < k + 1 → nv j ≤ 500) := Lib.hid fun j hj => by
          by_cases e : j = k
          · subst e; omega
          · exact HE.out j (by omega)
        generalize nv k = z at d q h5
        have h5z : ¬ (500 : Int) < (z : Int) := by omega
        go_wp2
        go_round
        case rel => exact ⟨k + 1, by omega, by go_num, HE'⟩
        case measure => simp [intOf]; omega
    · have hltz : ¬ (k : Int) < (len : Int) := by omega
      obtain rfl : k = len := by omega
      have hs : smallB k nv = decide ((k : Int) ≤ 30) := by
        unfold smallB
        by_cases h : k ≤ 30
        · rw [decide_eq_true (show (k : Int) ≤ 30 by omega), decide_eq_true ⟨HE.out, h⟩]
        · rw [decide_eq_false (show ¬ (k : Int) ≤ 30 by omega), decide_eq_false (fun hh => h hh.2)]
      have HS := Lib.hid hs; clear hs
      go_wp2
      go_ret
      exact ⟨by rw [HS.out] <;> rfl, rfl⟩
end Go.Proofs.Ythfiahdeggmmcaa
