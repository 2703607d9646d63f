/-
  confluxref03.Whole; confluxlaw03.parse; the first step that fails.
-/
import Derived.Test.YthfiahdeggmmcaaWireRun
namespace Go.Proofs.Ythfiahdeggmmcaa
open Go.RowKit Go.Shelf
set_option linter.unusedVariables false
/-- There is a first step that fails, or none. -/
theorem first_no (ks ns : Nat → Int) (n : Nat) : ∀ n0, ∃ F, F ≤ n0 ∧ (∀ j, j < F → noAt ks ns n j = 0) ∧ (F < n0 → noAt ks ns n F ≠ 0)
  | 0 => ⟨0, Nat.le_refl _, fun j hj => by omega, fun h => by omega⟩
  | n0 + 1 => by
    obtain ⟨F, h1, h2, h3⟩ := first_no ks ns n n0
    by_cases e : F = n0
    · subst e
      by_cases h0 : noAt ks ns n F = 0
      · exact ⟨F + 1, Nat.le_refl _, fun j hj => by
          by_cases e : j = F
          · subst e; exact h0
          · exact h2 j (by omega), fun h => by omega⟩
      · exact ⟨F, by omega, h2, fun _ => h0⟩
    · exact ⟨F, by omega, h2, fun _ => h3 (by omega)⟩
/-- Whole's number and gots: none where F < n0, or where bytes are left. -/
def WholeEnd (n : Nat) (l : List Int) (ks ns : Nat → Int) (n0 F : Nat) (w : World) (e : Ending) (w' : World) : Prop :=
  (F = n0 → pos ks ns n n0 = n → ∃ ao co, e = .returned (.tuple #[.slice ao n0 co, .int .i64 0]) ∧ GRow w' w.heap.size ao n0 co (gotX ks ns l) (gotB ks ns l) ∧ Below w.heap.size w w') ∧
  (F = n0 → pos ks ns n n0 < n → e = .returned (.tuple #[.slice none 0 0, .int .i64 22]) ∧ Below w.heap.size w w') ∧
  (F < n0 → e = .returned (.tuple #[.slice none 0 0, .int .i64 (noAt ks ns n F)]) ∧ Below w.heap.size w w')
set_option maxHeartbeats 1000000 in
set_option maxRecDepth 100000 in
theorem whole_any (a : Option Addr) (n c : Nat) (l : List Int) (a0 : Option Addr) (n0 c0 : Nat) (ks ns : Nat → Int) (F : Nat) (w : World) (hb : BAt w a n l) (hc : n ≤ c) (hs : StAt w a0 n0 ks ns) (hn : n0 ≤ 100) (hlim : n ≤ 140737488355327)
    (hF : F ≤ n0) (hok : ∀ j, j < F → noAt ks ns n j = 0) (hbad : F < n0 → noAt ks ns n F ≠ 0) :
    Calls Try.prog 14 #[.slice a n c, .slice a0 n0 c0] w (WholeEnd n l ks ns n0 F w) := by
  have HR := Lib.hid (run_any a n c l a0 n0 c0 ks ns F w hb hc hs hn hlim hF hok hbad)
  by_cases e : F = n0
  · subst e
    have hle := pos_le ks ns n F hok
    clear hb hs hok hbad
    obtain ⟨p, hp⟩ : ∃ p, pos ks ns n F = p := ⟨_, rfl⟩
    by_cases hpn : p = n
    · have hz : ¬ (p : Int) < (n : Int) := by omega
      go_enter Try.func14, Try.ntmps14
      go_wp2_with fail
      refine (HR.out).mono ?_
      intro e w1 h1
      obtain ⟨ao, co, rfl, hG, hB⟩ := h1.1 rfl
      rw [hp]
      have HG := Lib.hid hG; have HB := Lib.hid hB; have HP := Lib.hid hp; clear hG hB hp h1 HR hle
      go_wp2_with fail
      try go_quiet (fail)
      go_wp2
      refine bodyPost_ret (v := .tuple #[.slice ao F co, .int .i64 0]) (by simp [results, Try.results14, go_sem]) rfl ?_
      refine ⟨fun _ _ => ⟨ao, co, rfl, ?_, ?_⟩, fun _ h => by rw [HP.out] at h; omega, fun h => by omega⟩
      · exact HG.out
      · exact HB.out
    · have hz : (p : Int) < (n : Int) := by omega
      go_enter Try.func14, Try.ntmps14
      go_wp2_with fail
      refine (HR.out).mono ?_
      intro e w1 h1
      obtain ⟨ao, co, rfl, hG, hB⟩ := h1.1 rfl
      rw [hp]
      have HB := Lib.hid hB; have HP := Lib.hid hp; clear hG hB hp h1 HR hle
      go_wp2_with fail
      try go_quiet (fail)
      go_wp2
      refine bodyPost_ret (v := .tuple #[.slice none 0 0, .int .i64 22]) (by simp [results, Try.results14, go_sem]) rfl ?_
      exact ⟨fun _ h => by rw [HP.out] at h; omega, fun _ _ => ⟨rfl, HB.out⟩, fun h => by omega⟩
  · have hlt : F < n0 := by omega
    have hb0 := hbad hlt
    clear hb hs hok hbad
    have hz : (noAt ks ns n F == 0) = false := by simpa using hb0
    go_enter Try.func14, Try.ntmps14
    go_wp2_with fail
    refine (HR.out).mono ?_
    intro e w1 h1
    obtain ⟨rfl, hB⟩ := h1.2 hlt
    obtain ⟨f, hf⟩ : ∃ f, noAt ks ns n F = f := ⟨_, rfl⟩
    rw [hf] at hz ⊢
    have HB := Lib.hid hB; have HF := Lib.hid hf; clear hB hf h1 HR hb0
    go_wp2_with fail
    try go_quiet (fail)
    go_wp2
    refine bodyPost_ret (v := .tuple #[.slice none 0 0, .int .i64 f]) (by simp [results, Try.results14, go_sem]) rfl ?_
    exact ⟨fun h => by omega, fun h => by omega, fun _ => ⟨by rw [HF.out], HB.out⟩⟩
end Go.Proofs.Ythfiahdeggmmcaa
