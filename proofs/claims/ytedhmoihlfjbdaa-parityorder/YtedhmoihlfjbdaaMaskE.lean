
/-
  mask: Has, With, Without.
-/
import Derived.Test.YtedhmoihlfjbdaaMaskD
namespace Go.Proofs.Ytedhmoihlfjbdaa
open Go.RowKit
set_option linter.unusedVariables false
def Mk.one (i : Int) : Nat := Mk.lay i 1 1
theorem Mk.one_ok (i : Int) : Mk.Ok (Mk.one i) := Mk.lay_ok _ _ _
theorem mOf_one (i : Int) (g cap : Nat) (w : World) (hg : g < w.heap.size) (hc : w.cell? ⟨g, 0, none⟩ = some (.int .i64 i)) (h1 : -9223372036854775808 ≤ i) (h2 : i ≤ 9223372036854775807) :
    Calls Try.prog 152 #[.slice (some ⟨g, 0, none⟩) 1 cap] w (MPost (Mk.one i) w) := by
  have hz : Ints (some ⟨g, 0, none⟩) 1 [i] w := fun j hj => by
    obtain rfl : j = 0 := by omega
    exact ⟨g, 0, rfl, hg, hc, h1, h2⟩
  have h := mOf_any (some ⟨g, 0, none⟩) 1 cap [i] w hz (by omega)
  have e : Mk.ofN [i] 1 = Mk.one i := by show 0 ||| Mk.lay i 1 1 = _; rw [Nat.zero_or]; rfl
  rw [e] at h; exact h
theorem Mk.zero_iff {X : Nat} : X = 0 ↔ Mk.H X = 0 ∧ Mk.L X = 0 := by
  constructor
  · rintro rfl; exact ⟨by decide, by decide⟩
  · rintro ⟨h1, h2⟩; exact Mk.ext (h1.trans (by decide)) (h2.trans (by decide))
theorem mneq_any (a b c d : Int) (w : World) : (binOp .neq 107 (.agg #[.int .u64 a, .int .u64 b]) (.agg #[.int .u64 c, .int .u64 d])).run Try.prog w = .ok (.bool (!(decide (a = c) && decide (b = d)))) w := by
  by_cases h1 : a = c <;> by_cases h2 : b = d
  all_goals first | (simp [binOp, go_sem, h1, h2]; done) | (simp [go_sem, h1, h2]; done) | (go_simp; simp [h1, h2])
theorem meql_any (a b c d : Int) (w : World) : (binOp .eql 107 (.agg #[.int .u64 a, .int .u64 b]) (.agg #[.int .u64 c, .int .u64 d])).run Try.prog w = .ok (.bool (decide (a = c) && decide (b = d))) w := by
  by_cases h1 : a = c <;> by_cases h2 : b = d
  all_goals first | (simp [binOp, go_sem, h1, h2]; done) | (simp [go_sem, h1, h2]; done) | (go_simp; simp [h1, h2])
theorem mneq_zero (Z : Nat) (w : World) : (binOp .neq 107 (.agg #[.int .u64 (Mk.H Z), .int .u64 (Mk.L Z)]) (.agg #[.int .u64 0, .int .u64 0])).run Try.prog w = .ok (.bool (decide (Z ≠ 0))) w := by
  rw [mneq_any]
  have e : (!(decide ((Mk.H Z : Int) = 0) && decide ((Mk.L Z : Int) = 0))) = decide (Z ≠ 0) := by
    rw [Bool.eq_iff_iff]; simp [Mk.zero_iff (X := Z)]
  rw [e]
theorem meql_zero (Z : Nat) (w : World) : (binOp .eql 107 (.agg #[.int .u64 (Mk.H Z), .int .u64 (Mk.L Z)]) (.agg #[.int .u64 0, .int .u64 0])).run Try.prog w = .ok (.bool (decide (Z = 0))) w := by
  rw [meql_any]
  have e : (decide ((Mk.H Z : Int) = 0) && decide ((Mk.L Z : Int) = 0)) = decide (Z = 0) := by
    rw [Bool.eq_iff_iff]; simp [Mk.zero_iff (X := Z)]
  rw [e]
set_option maxHeartbeats 400000 in
theorem mWith_any (X : Nat) (hX : Mk.Ok X) (i : Int) (h1 : -9223372036854775808 ≤ i) (h2 : i ≤ 9223372036854775807) (w : World) : Calls Try.prog 130 #[.agg #[.int .u64 (Mk.H X), .int .u64 (Mk.L X)], .int .i64 i] w (MPost (X ||| Mk.one i) w) := by
  have hof := fun g w hg hc => mOf_one i g 1 w hg hc h1 h2
  have hand := fun w => mOr_any X (Mk.one i) hX (Mk.one_ok i) w
  generalize Mk.one i = Y at *
  generalize X ||| Y = Z at *
  have HOF := Lib.hid hof; have HAN := Lib.hid hand; clear hof hand
  go_enter Try.func130, Try.ntmps130
  go_wp2
  go_region_with (first
        | (go_at_call 152; refine (HOF.out _ _ (by first | assumption | (simp; done) | (simp; omega)) (by simp [go_sem])).mono ?_; rintro e w1 ⟨rfl, hB⟩; obtain ⟨hc1, hf1, hN1⟩ := bcellN (N := w.heap.size + 2) hB (by first | assumption | (simp; done) | (simp; omega)); have HB1 := Lib.hid hB; clear hB)
        | (go_at_call 151; refine (HAN.out _).mono ?_; rintro e w2 ⟨rfl, hB⟩; obtain ⟨hc2, hf2, hN2⟩ := bcellN (N := w.heap.size + 2) hB (by first | assumption | (simp; done) | (simp; omega)); have HB2 := Lib.hid hB; clear hB))
  all_goals go_wp2
  all_goals refine bodyPost_ret (v := .agg #[.int .u64 (Mk.H Z), .int .u64 (Mk.L Z)]) (by simp [results, Try.results130, go_sem, hc1, hc2]) rfl ⟨rfl, ?_⟩
  all_goals exact (((((((Below.refl _ w).alloc (Nat.le_refl _) _).alloc (by simp) _).alloc (by simp; omega) _).drew.trans (HB1.out.mono (by simp; omega))).trans (HB2.out.mono (by omega))).setCell (by simp) _).setCell (by simp) _
theorem mWithout_any (X : Nat) (hX : Mk.Ok X) (i : Int) (h1 : -9223372036854775808 ≤ i) (h2 : i ≤ 9223372036854775807) (w : World) : Calls Try.prog 166 #[.agg #[.int .u64 (Mk.H X), .int .u64 (Mk.L X)], .int .i64 i] w (MPost (X ^^^ (X &&& Mk.one i)) w) := by
  have hof := fun g w hg hc => mOf_one i g 1 w hg hc h1 h2
  have hand := fun w => mAnd_any X (Mk.one i) hX (Mk.one_ok i) w
  have hxor := fun w => mXor_any X (X &&& Mk.one i) hX (Mk.and_ok hX) w
  generalize Mk.one i = Y at *
  generalize X &&& Y = V at *
  generalize X ^^^ V = Z at *
  have HOF := Lib.hid hof; have HAN := Lib.hid hand; have HXO := Lib.hid hxor; clear hof hand hxor
  go_enter Try.func166, Try.ntmps166
  go_wp2
  go_region_held3 (fun w' => w'.cell? ⟨w.heap.size, 0, none⟩ = some (.int .u64 (Mk.H X)) ∧ w'.cell? ⟨w.heap.size, 1, none⟩ = some (.int .u64 (Mk.L X))) (first | (simp [go_sem, *]; done) | (simp [go_sem]; done))
    (first
        | (go_at_call 152; refine (HOF.out _ _ (by first | assumption | (simp; done) | (simp; omega)) (by simp [go_sem])).mono ?_; rintro e w1 ⟨rfl, hB⟩; obtain ⟨hc1, hf1, hN1⟩ := bcellN (N := w.heap.size + 2) hB (by first | assumption | (simp; done) | (simp; omega)); have HB1 := Lib.hid hB; clear hB)
        | (go_at_call 174; refine (HAN.out _).mono ?_; rintro e w2 ⟨rfl, hB⟩; obtain ⟨hc2, hf2, hN2⟩ := bcellN (N := w.heap.size + 2) hB (by first | assumption | (simp; done) | (simp; omega)); have HB2 := Lib.hid hB; clear hB)
        | (go_at_call 173; refine (HXO.out _).mono ?_; rintro e w3 ⟨rfl, hB⟩; obtain ⟨hc3, hf3, hN3⟩ := bcellN (N := w.heap.size + 2) hB (by first | assumption | (simp; done) | (simp; omega)); have HB3 := Lib.hid hB; clear hB))
  go_wp2
  refine bodyPost_ret (v := .agg #[.int .u64 (Mk.H Z), .int .u64 (Mk.L Z)]) (by simp [results, Try.results166, go_sem, hc1, hc2, hc3]) rfl ⟨rfl, ?_⟩
  exact ((((((((Below.refl _ w).alloc (Nat.le_refl _) _).alloc (by simp) _).alloc (by simp; omega) _).drew.trans (HB1.out.mono (by simp; omega))).trans (HB2.out.mono (by omega))).trans (HB3.out.mono (by omega))).setCell (by simp) _).setCell (by simp) _
end Go.Proofs.Ytedhmoihlfjbdaa
