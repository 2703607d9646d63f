
/-
  report.Stats: the other methods that read it.
-/
import Derived.Test.YtpannhbmelcpfabRep0
namespace Go.Proofs.Ytpannhbmelcpfab
open Go.RowKit
set_option linter.unusedVariables false
theorem Rep.exp_bd (h f r : Int) (hh : 0 ≤ h ∧ h ≤ 2305843009213726720) (hf : 0 ≤ f ∧ f ≤ 2305843009213726720) : -2305843009213726720 ≤ Rep.exp h f r ∧ Rep.exp h f r ≤ 2305843009213726721 := by
  unfold Rep.exp; split <;> omega
theorem jitter_any (b : Nat) (h f r s t n e c : Int) (w : World) (H : Sta b h f r s t n e c w) (hs : 0 ≤ s) (hs' : s ≤ 1125899906842624) :
    Calls Try.prog 50 #[.pointer (some ⟨b, 0, none⟩)] w fun e w' => e = .returned (.int .u32 (Rep.jit s)) ∧ w = w' := by
  have ht : s.tdiv 16 = s / 16 := Int.tdiv_eq_ediv_of_nonneg hs
  have c3 := H.c3
  go_enter Try.func50, Try.ntmps50
  go_wp2
  all_goals go_ret
  all_goals (refine ⟨ret_int ?_, rfl⟩; unfold Rep.jit; (try simp only [u32w]); omega)
theorem lost_any (b : Nat) (h f r s t n e c : Int) (w : World) (H : Sta b h f r s t n e c w) (hh : 0 ≤ h ∧ h ≤ 2305843009213726720) (hf : 0 ≤ f ∧ f ≤ 2305843009213726720) (hr : 0 ≤ r ∧ r ≤ 1099511627776) :
    Calls Try.prog 48 #[.pointer (some ⟨b, 0, none⟩)] w (Drawn (.int .i32 (Rep.lost h f r)) w) := by
  have hE := fun W (hW : Sta b h f r s t n e c W) => expected_any b h f r s t n e c W hW hh hf
  have hx : Rep.lost h f r = Rep.clampL (Rep.exp h f r - r) := rfl
  have hb := Rep.exp_bd h f r hh hf
  rw [hx]
  generalize Rep.exp h f r = E at *
  have HE := Lib.hid hE; clear hE hx
  obtain ⟨b1, b2⟩ := hb
  obtain ⟨r1, r2⟩ := hr
  have c2 := H.c2
  have hw : IntKind.i64.wrap (E - r) = E - r := i64w_in _ (by omega) (by omega)
  go_enter Try.func48, Try.ntmps48
  go_wp2_with fail
  go_region_held3 (fun W => W.cell? ⟨b, 2, none⟩ = some (.int .i64 r)) (first | (simp [go_sem, *]; done) | (simp [go_sem]; done))
    (first | (go_at_call 47; refine (HE.out _ (by first | exact H | exact H.drawn _)).mono ?_; rintro e w' ⟨rfl, k, rfl⟩))
  all_goals go_wp2
  all_goals go_ret
  all_goals (refine ⟨ret_int ?_, _, rfl⟩; unfold Rep.clampL; (try simp only [i32w]); omega)
theorem fraction_any (b : Nat) (h f r s t n e c : Int) (w : World) (H : Sta b h f r s t n e c w) (hh : 0 ≤ h ∧ h ≤ 2305843009213726720) (hf : 0 ≤ f ∧ f ≤ 2305843009213726720) (hr : 0 ≤ r ∧ r ≤ 1099511627776)
    (hc : 0 ≤ c ∧ c ≤ 1099511627776) (hE1 : -17592186044416 ≤ Rep.exp h f r - e) (hE2 : Rep.exp h f r - e ≤ 17592186044416) :
    Calls Try.prog 45 #[.pointer (some ⟨b, 0, none⟩)] w (Drawn (.int .i64 (Rep.frac (Rep.exp h f r - e) (r - c))) w) := by
  have hE := fun W (hW : Sta b h f r s t n e c W) => expected_any b h f r s t n e c W hW hh hf
  have hb := Rep.exp_bd h f r hh hf
  generalize Rep.exp h f r = E at *
  have HE := Lib.hid hE; clear hE
  obtain ⟨b1, b2⟩ := hb
  obtain ⟨r1, r2⟩ := hr
  obtain ⟨k1, k2⟩ := hc
  have c2 := H.c2; have c6 := H.c6; have c7 := H.c7
  obtain ⟨D, hD⟩ : ∃ D, D = E - e := ⟨_, rfl⟩
  obtain ⟨R, hR⟩ : ∃ R, R = r - c := ⟨_, rfl⟩
  have w1 : IntKind.i64.wrap (E - e) = D := by rw [hD]; exact i64w_in _ (by omega) (by omega)
  have w2 : IntKind.i64.wrap (r - c) = R := by rw [hR]; exact i64w_in _ (by omega) (by omega)
  rw [← hD, ← hR]
  rw [← hD] at hE1 hE2
  have R1 : -1099511627776 ≤ R := by omega
  have R2 : R ≤ 1099511627776 := by omega
  have HD := Lib.hid hD; have HR := Lib.hid hR; clear hD hR
  obtain ⟨Q, hQ⟩ : ∃ Q, Q = ((D - R) * 256).tdiv D := ⟨_, rfl⟩
  have hQb : Q.natAbs ≤ ((D - R) * 256).natAbs := by rw [hQ]; exact Int.natAbs_tdiv_le_natAbs _ _
  have Q1 : -9007199254740992 ≤ Q := by omega
  have Q2 : Q ≤ 9007199254740992 := by omega
  clear hQb
  have w3 : IntKind.i64.wrap ((D - R) * 256) = (D - R) * 256 := i64w_in _ (by omega) (by omega)
  have w4 : IntKind.i64.wrap (D - R) = D - R := i64w_in _ (by omega) (by omega)
  have hQ' : ((D - R) * 256).tdiv D = Q := hQ.symm
  clear hQ
  have w5 : IntKind.i64.wrap Q = Q := i64w_in _ (by omega) (by omega)
  go_enter Try.func45, Try.ntmps45
  go_wp2_with fail
  go_region_held3 (fun W => W.cell? ⟨b, 6, none⟩ = some (.int .i64 e)) (first | (simp [go_sem, *]; done) | (simp [go_sem]; done))
    (first | (go_at_call 47; refine (HE.out _ (by first | exact H | exact H.drawn _)).mono ?_; rintro e w' ⟨rfl, k, rfl⟩))
  try simp only [w1]
  go_wp2_with fail
  have c2' : (w.drew.drewN k).cell? ⟨b, 2, none⟩ = some (.int .i64 r) := c2
  have c7' : (w.drew.drewN k).cell? ⟨b, 7, none⟩ = some (.int .i64 c) := c7
  go_region_held3 (fun W => W.cell? ⟨b, 2, none⟩ = some (.int .i64 r) ∧ W.cell? ⟨b, 7, none⟩ = some (.int .i64 c)) (first | (simp [go_sem, *]; done) | (simp [go_sem]; done)) (fail)
  try simp only [w2]
  by_cases hle : D ≤ 0
  · go_wp2
    all_goals go_ret
    all_goals exact ⟨ret_int (by rw [Rep.frac, if_pos hle]), _, rfl⟩
  · have hne : ¬ D = 0 := by omega
    have hne' : (D == 0) = false := by simpa using hne
    go_wp2
    all_goals go_ret
    all_goals (refine ⟨ret_int ?_, _, rfl⟩; rw [Rep.frac, if_neg (by omega), hQ']; omega)
end Go.Proofs.Ytpannhbmelcpfab
