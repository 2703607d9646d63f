/-
  SerialTurns' walk.
-/
import Derived.Test.YthmnkccmnajfgaaAlive
namespace Go.Proofs.Ythmnkccmnajfgaa
open Go.RowKit
set_option linter.unusedVariables false
set_option maxHeartbeats 1000000 in
theorem walk_SerialTurns (a b n m : Int) (ha : 0 ≤ a ∧ a < 65536) (hb : 0 ≤ b ∧ b < 65536) (w : World) :
    Calls Try.prog 6 #[.int .u16 a, .int .u16 b, .int .i64 n, .int .i64 m] w (TrueBelow w) := by
  obtain ⟨ha, ha'⟩ := ha; obtain ⟨hb, hb'⟩ := hb
  obtain ⟨N, hN⟩ : ∃ N, bits .and .i64 n 16383 = N := ⟨_, rfl⟩
  obtain ⟨M, hM⟩ : ∃ M, bits .and .i64 m 16383 = M := ⟨_, rfl⟩
  have hN1 : 0 ≤ N ∧ N < 16384 := by rw [← hN, and16383]; omega
  have hM1 : 0 ≤ M ∧ M < 16384 := by rw [← hM, and16383]; omega
  obtain ⟨hN1, hN2⟩ := hN1
  obtain ⟨hM1, hM2⟩ := hM1
  have f1 : Ser.ahead (Ser.add a N) a = N := by unfold Ser.ahead Ser.add; omega
  have f2 : Ser.ahead a (Ser.add a N) = -N := by unfold Ser.ahead Ser.add; omega
  have f3 : Ser.add (Ser.add a N) (-N) = a := by unfold Ser.add; omega
  have f4 : Ser.add b (Ser.ahead a b) = a := by unfold Ser.add Ser.ahead; omega
  have f5 : Ser.ahead (Ser.add a (N + M)) (Ser.add a N) = M := by unfold Ser.ahead Ser.add; omega
  have f6 : Ser.ahead (Ser.add a (N + M)) a = N + M := by unfold Ser.ahead Ser.add; omega
  have f7 : Ser.newer (Ser.add a (N + M)) a = decide (0 < N + M) := by unfold Ser.newer; rw [f6]
  have f8 : Ser.later a (Ser.add a N) = Ser.add a N := by
    unfold Ser.later Ser.newer; rw [f1]; simp only [decide_eq_true_eq]
    split
    · rfl
    · obtain rfl : N = 0 := by omega
      unfold Ser.add; omega
  have f9 := Ser.ahead_bd a b
  obtain ⟨f9, f10⟩ := f9
  obtain ⟨D, hD⟩ : ∃ D, Ser.ahead a b = D := ⟨_, rfl⟩
  have f6' : Ser.ahead (Ser.add a (N + M)) a = M + N := by rw [f6]; omega
  clear f6
  by_cases hd : D = -32768
  · subst hd
    have g1 : Ser.ahead b a = -32768 := by unfold Ser.ahead at *; omega
    rw [hD] at f4 f9 f10
    go_enter Try.func6, Try.ntmps6
    go_wp2_with (first
      | (go_at_call 9; refine (alive_any _).mono ?_; rintro e w1 ⟨rfl, hB⟩)
      | (go_at_call 11; refine (ahead_any _ _ _).mono ?_; rintro e w' ⟨rfl, rfl⟩)
      | (go_at_call 14; refine (newer_any _ _ _).mono ?_; rintro e w' ⟨rfl, rfl⟩)
      | (go_at_call 15; refine (max_any _ _ _).mono ?_; rintro e w' ⟨rfl, rfl⟩)
      | (go_at_call 16; refine (add_any _ _ _).mono ?_; rintro e w' ⟨rfl, rfl⟩))
    go_ret
    exact ⟨rfl, hB⟩
  · have g1 : Ser.ahead b a = -D := by unfold Ser.ahead at *; omega
    rw [hD] at f4 f9 f10
    have g2 : (D == -32768) = false := beq_eq_false_iff_ne.2 hd
    have g3 : (D != -32768) = true := by rw [bne_iff_ne]; exact hd
    clear hd
    go_enter Try.func6, Try.ntmps6
    go_wp2_with (first
      | (go_at_call 9; refine (alive_any _).mono ?_; rintro e w1 ⟨rfl, hB⟩)
      | (go_at_call 11; refine (ahead_any _ _ _).mono ?_; rintro e w' ⟨rfl, rfl⟩)
      | (go_at_call 14; refine (newer_any _ _ _).mono ?_; rintro e w' ⟨rfl, rfl⟩)
      | (go_at_call 15; refine (max_any _ _ _).mono ?_; rintro e w' ⟨rfl, rfl⟩)
      | (go_at_call 16; refine (add_any _ _ _).mono ?_; rintro e w' ⟨rfl, rfl⟩))
    go_ret
    exact ⟨rfl, hB⟩
end Go.Proofs.Ythmnkccmnajfgaa
