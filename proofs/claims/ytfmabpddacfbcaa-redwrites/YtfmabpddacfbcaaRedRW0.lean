
/-
  The reference's Write of chains, as lists: its headers hold the length's ten lowest bits, and it tells of a long block at the end.
-/
import Derived.Test.YtfmabpddacfbcaaRedWrite2
namespace Go.Proofs.Ytfmabpddacfbcaa
open Go.RowKit Go.Shelf
set_option linter.unusedVariables false
theorem Big3 (x : Int) : Big 3 x = [x / 65536 % 256, x / 256 % 256, x % 256] := by simp [Big, List.range_succ]
/-- One header of the reference's. -/
def mB (p o : Int) (n : Nat) : List Int := [p + 128] ++ Big 3 (o * 1024 + ((n % 1024 : Nat) : Int))
theorem mB_len (p o : Int) (n : Nat) : (mB p o n).length = 4 := by simp [mB, Big_len]
theorem mB_eq {p o : Int} {n : Nat} (hp : 0 ≤ p ∧ p ≤ 127) (hn : n ≤ 1023) : mB p o n = hB p o n := by
  rw [hB_eq, mB, Big3, Nat.mod_eq_of_lt (by omega)]
  have e1 : p + 128 = (128 + p) % 256 := by omega
  have e2 : (o * 1024 + (n : Int)) / 256 % 256 = (o * 1024 + (n : Int)) % 65536 / 256 % 256 := by omega
  have e3 : (o * 1024 + (n : Int)) % 256 = (o * 1024 + (n : Int)) % 65536 % 256 := by omega
  rw [e1, e2, e3]; rfl
def mhds (pt of : Nat → Int) (ds : Nat → List Int) : Nat → List Int
  | 0 => []
  | k + 1 => mhds pt of ds k ++ mB (pt k) (of k) (ds k).length
theorem mhds_len (pt of : Nat → Int) (ds : Nat → List Int) : ∀ k, (mhds pt of ds k).length = 4 * k
  | 0 => rfl
  | k + 1 => by simp only [mhds, List.length_append, mhds_len pt of ds k, mB_len]; omega
theorem mhds_eq {pt of : Nat → Int} {ds : Nat → List Int} : ∀ k, (∀ i, i < k → 0 ≤ pt i ∧ pt i ≤ 127) → anyL ds k = false → mhds pt of ds k = hds pt of ds k
  | 0, _, _ => rfl
  | k + 1, h, hl => by
    simp only [anyL, Bool.or_eq_false_iff, decide_eq_false_iff_not] at hl
    simp only [mhds, hds]
    rw [mhds_eq k (fun i hi => h i (by omega)) hl.1, mB_eq (h k (by omega)) (by omega)]
/-- A bad block: what Write says. -/
theorem rwcode_bad {n i : Nat} {pt of : Nat → Int} {ds : Nat → List Int} (h8 : n ≤ 8) (hi : i < n) (hb : okB (pt i) (of i) = false ∨ (i = n - 1 ∧ of i ≠ 0)) : rwcode n pt of ds = 1 := by
  unfold rwcode
  rw [if_neg (by omega), if_neg (by omega), if_pos]
  rcases hb with hb | ⟨rfl, hb⟩
  · exact .inl (okF_bad hi hb)
  · exact .inr hb
/-- All blocks are valid: what it says. -/
theorem rwcode_good {k : Nat} {pt of : Nat → Int} {ds : Nat → List Int} (h8 : k < 8) (ho : okF pt of (k + 1) = true) (h0 : of k = 0) : rwcode (k + 1) pt of ds = if (anyL ds k || decide (1500 < 4 * k + 1 + psum (fun i => (ds i).length) (k + 1))) = true then 2 else 0 := by
  unfold rwcode
  rw [if_neg (by omega), if_neg (by omega), if_neg (by rw [ho, Nat.add_sub_cancel]; simp [h0]), Nat.add_sub_cancel, show rlong ds k (ds k).length = (anyL ds k || decide (1500 < 4 * k + 1 + psum (fun i => (ds i).length) (k + 1))) from by simp only [rlong, psum, Nat.add_assoc]]
/-- The bytes of the reference where it goes well. -/
theorem rwbytes_ref {k : Nat} {pt of : Nat → Int} {ds : Nat → List Int} (h : rwcode (k + 1) pt of ds = 0) (hp : ∀ i, i ≤ k → 0 ≤ pt i ∧ pt i ≤ 127) (hl : anyL ds k = false) : rwbytes (k + 1) pt of ds = (mhds pt of ds k ++ [pt k]) ++ dts ds (k + 1) := by
  unfold rwbytes
  rw [if_pos h, Nat.add_sub_cancel, renc, Big1, mhds_eq k (fun i hi => hp i (by omega)) hl, List.append_assoc]
  have := hp k (Nat.le_refl _)
  rw [show pt k % 256 = pt k from by omega]
end Go.Proofs.Ytfmabpddacfbcaa
