
/-
  confluxlaw06.small.
-/
import Derived.Test.YtfmabpddacfbcaaRedValid
namespace Go.Proofs.Ytfmabpddacfbcaa
open Go.RowKit Go.Shelf
set_option linter.unusedVariables false
def any2 (ds : Nat → List Int) : Nat → Bool
  | 0 => false
  | k + 1 => any2 ds k || decide (2000 < (ds k).length)
theorem any2_none {ds : Nat → List Int} : ∀ n, any2 ds n = false ↔ ∀ i, i < n → (ds i).length ≤ 2000
  | 0 => ⟨fun _ i h => by omega, fun _ => rfl⟩
  | n + 1 => by
    simp only [any2, Bool.or_eq_false_iff, any2_none n, decide_eq_false_iff_not]
    constructor
    · rintro ⟨h1, h2⟩ i hi
      by_cases e : i = n
      · subst e; omega
      · exact h1 i (by omega)
    · intro h; exact ⟨fun i hi => h i (by omega), by have := h n (by omega); omega⟩
/-- Few blocks of few bytes. -/
def rsmall (n : Nat) (ds : Nat → List Int) : Bool := !any2 ds n && decide (n ≤ 12)
theorem rsmall_no {n i : Nat} {ds : Nat → List Int} (hi : i < n) (h : 2000 < (ds i).length) : rsmall n ds = false := by
  unfold rsmall
  cases e : any2 ds n
  · have := (any2_none n).1 e i hi; omega
  · rfl
theorem rsmall_ok {n : Nat} {ds : Nat → List Int} (h : rsmall n ds = true) : n ≤ 12 ∧ ∀ i, i < n → (ds i).length ≤ 2000 := by
  unfold rsmall at h
  simp only [Bool.and_eq_true, Bool.not_eq_true', decide_eq_true_eq] at h
  exact ⟨h.2, (any2_none n).1 h.1⟩
set_option maxHeartbeats 1000000 in
set_option maxRecDepth 100000 in
theorem small6 (a : Option Addr) (n c : Nat) (pt of : Nat → Int) (A : Nat → Option Addr) (C : Nat → Nat) (ds : Nat → List Int) (w : World) (h : BkAt w a n pt of A C ds) (hn : n ≤ 9223372036854775807) (hd : ∀ i, i < n → (ds i).length ≤ 9223372036854775807) :
    Calls Try.prog 6 #[.slice a n c] w (ValB (.bool (rsmall n ds)) w) := by
  have HH := Lib.hid h; have HD := Lib.hid hd; clear h hd
  go_enter Try.func6, Try.ntmps6
  go_upto_region 2 with (fail)
  go_loopw [7] (fun iv wr => ∃ i : Nat, i ≤ n ∧ iv = .int .i64 i ∧ Hid (any2 ds i = false) ∧ Hid (Below w.heap.size w wr)) (fun iv _ => n - (intOf iv).toNat)
  case atStart => exact ⟨0, Nat.zero_le _, rfl, Lib.hid rfl, Lib.hid (Below.refl _ _)⟩
  case round =>
    obtain ⟨i, hi, rfl, HO, HB⟩ := hrel
    by_cases hlt : i < n
    · have hiz : (i : Int) < (n : Int) := by omega
      obtain ⟨b, o, hr⟩ := HH.out
      obtain ⟨rfl, hbl, g0, g1, g2, _⟩ := hr i hlt
      have g0 : wr.cell? ⟨b, o + i * 3, none⟩ = some (.int .i64 (pt i)) := (HB.out.cell (p := ⟨b, o + i * 3, none⟩) hbl).trans g0
      have g1 : wr.cell? ⟨b, o + i * 3 + 1, none⟩ = some (.int .i64 (of i)) := (HB.out.cell (p := ⟨b, o + i * 3 + 1, none⟩) hbl).trans g1
      have g2 : wr.cell? ⟨b, o + i * 3 + 2, none⟩ = some (.slice (A i) (ds i).length (C i)) := (HB.out.cell (p := ⟨b, o + i * 3 + 2, none⟩) hbl).trans g2
      have HN : Hid (∀ o', Below w.heap.size w (wr.alloc o')) := Lib.hid fun o' => HB.out.alloc HB.out.size _
      have HS : (ds i).length ≤ 2000 → any2 ds (i + 1) = false := fun h => by simp only [any2, Bool.or_eq_false_iff, decide_eq_false_iff_not]; exact ⟨HO.out, by omega⟩
      have HF : 2000 < (ds i).length → rsmall n ds = false := fun h => rsmall_no hlt h
      have hz := HD.out i hlt
      clear hr HB HO
      generalize pt i = p at *
      generalize of i = q at *
      generalize (ds i).length = z at *
      by_cases h1 : 2000 < z
      · rw [HF h1]
        have hz1 : (2000 : Int) < (z : Int) := by omega
        clear HF HS h1
        go_wp2_with fail
        go_ret
        exact ⟨rfl, HN.out _⟩
      · have hS := Lib.hid (HS (by omega))
        have hz1 : ¬ (2000 : Int) < (z : Int) := by omega
        clear HF HS h1
        go_wp2_with fail
        go_roundw
        case rel => exact ⟨i + 1, by omega, by go_num, hS, Lib.hid (HN.out _)⟩
        case measure => simp [intOf]; omega
    · obtain rfl : i = n := by omega
      have hrs : rsmall i ds = decide ((i : Int) ≤ 12) := by unfold rsmall; rw [HO.out]; simp; omega
      go_wp2_with fail
      go_ret
      exact ⟨by rw [hrs]; rfl, HB.out⟩
end Go.Proofs.Ytfmabpddacfbcaa
