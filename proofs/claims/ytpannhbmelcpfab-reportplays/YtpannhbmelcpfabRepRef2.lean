
/-
  confluxref08: Jitter.
-/
import Derived.Test.YtpannhbmelcpfabRepRef1
namespace Go.Proofs.Ytpannhbmelcpfab
open Go.RowKit
set_option linter.unusedVariables false
theorem Os.s_step (q t n : Nat → Int) (k : Nat) (hk : 0 < k) : (Os.st q t n (k + 1)).s = Rep.next (Os.st q t n k).s (Rep.clampT (n k) - Rep.clampT (n (k - 1)) - Ser.ahead32 (t k) (t (k - 1))) := by
  obtain ⟨j, rfl⟩ : ∃ j, k = j + 1 := ⟨k - 1, by omega⟩
  show (if (Os.st q t n (j + 1)).r = 0 then (Os.st q t n (j + 1)).s else Rep.next (Os.st q t n (j + 1)).s (Rep.clampT (n (j + 1)) - (Os.st q t n (j + 1)).n - Ser.ahead32 (t (j + 1)) (Os.st q t n (j + 1)).t)) = _
  rw [if_neg (by rw [Os.r]; omega)]
  rfl
theorem Os.s1 (q t n : Nat → Int) : (Os.st q t n 1).s = 0 := rfl
set_option maxRecDepth 100000 in
set_option maxHeartbeats 400000 in
theorem refjit_any (a : Option Addr) (g m cap : Nat) (q t n : Nat → Int) (E C : Int) (w : World) (H : OAt w a g m q t n) (hm : m ≤ 60) :
    Calls Try.prog 54 #[.agg #[.slice a m cap, .int .i64 E, .int .i64 C]] w (RePost (.int .u32 (Rep.jit (Os.st q t n m).s)) w) := by
  have hOk := Lib.hid (Os.ok q t n m (fun i hi => wf_u16 (H.rq i hi)) (by omega))
  have hS := bx_new w a m cap E C
  have HH := Lib.hid H; clear H
  go_enter Try.func54, Try.ntmps54
  go_wp2_with fail
  generalize w.alloc (.cells #[.slice a m cap, .int .i64 E, .int .i64 C] 68) = w0 at hS ⊢
  go_wp2
  go_loopw [3, 4] (fun sv i wr => ∃ (j : Nat) (S : Int), (j + 1 ≤ m ∨ j = 0) ∧ i = .int .i64 ((j : Int) + 1) ∧ sv = .int .i64 S ∧ Hid ((m = 0 → S = 0) ∧ (0 < m → S = (Os.st q t n (j + 1)).s)) ∧ 0 ≤ S ∧ S ≤ 1125899906842624 ∧ ∃ d, wr = w0.drewN d) (fun _ i _ => m + 1 - (intOf i).toNat)
  case atStart => exact ⟨0, 0, .inr rfl, rfl, rfl, Lib.hid ⟨fun _ => rfl, fun _ => rfl⟩, by omega, by omega, 0, rfl⟩
  case round =>
    obtain ⟨j, S, hj, rfl, rfl, HSv, hS0, hS1, d, rfl⟩ := hrel
    have hx : (w0.drewN d).cell? ⟨w.heap.size, 0, none⟩ = some (.slice a m cap) := hS.1
    have HB : Hid (Below w.heap.size w (w0.drewN d)) := Lib.hid (hS.2.2.2.1.grown (grownBy_drewN _ _ none) hS.2.2.2.1.size (fun k e => by cases e))
    by_cases hlt : j + 1 < m
    · have hg := HH.out.lt (by omega)
      have c1 : (w0.drewN d).cell? ⟨g, (j + 1) * 3 + 2, none⟩ = some (.int .i64 (n (j + 1))) := (HB.out.cell (p := ⟨g, (j + 1) * 3 + 2, none⟩) hg).trans (HH.out.now (j + 1) hlt)
      have c2 : (w0.drewN d).cell? ⟨g, j * 3 + 2, none⟩ = some (.int .i64 (n j)) := (HB.out.cell (p := ⟨g, j * 3 + 2, none⟩) hg).trans (HH.out.now j (by omega))
      have c3 : (w0.drewN d).cell? ⟨g, (j + 1) * 3 + 1, none⟩ = some (.int .u32 (t (j + 1))) := (HB.out.cell (p := ⟨g, (j + 1) * 3 + 1, none⟩) hg).trans (HH.out.ts (j + 1) hlt)
      have c4 : (w0.drewN d).cell? ⟨g, j * 3 + 1, none⟩ = some (.int .u32 (t j)) := (HB.out.cell (p := ⟨g, j * 3 + 1, none⟩) hg).trans (HH.out.ts j (by omega))
      obtain rfl := HH.out.at' (by omega)
      have hst := Os.s_step q t n (j + 1) (by omega)
      rw [Nat.add_sub_cancel] at hst
      have eS := HSv.out.2 (by omega)
      rw [← eS] at hst
      obtain ⟨ta, tb⟩ := HH.out.rt (j + 1) hlt
      obtain ⟨tc, td⟩ := HH.out.rt j (by omega)
      have HST := Lib.hid hst; clear hst eS
      obtain ⟨q1, q2⟩ := Rep.clampT_bd (n (j + 1))
      obtain ⟨q3, q4⟩ := Rep.clampT_bd (n j)
      obtain ⟨q5, q6⟩ := Ser.ahead32_bd (t (j + 1)) (t j)
      have hHa : Hid (∀ W, Calls Try.prog 89 #[.int .i64 (n (j + 1))] W fun e w' => e = .returned (.int .i64 (Rep.clampT (n (j + 1)))) ∧ W = w') := Lib.hid fun W => held_any _ W
      have hHb : Hid (∀ W, Calls Try.prog 89 #[.int .i64 (n j)] W fun e w' => e = .returned (.int .i64 (Rep.clampT (n j))) ∧ W = w') := Lib.hid fun W => held_any _ W
      have hHc : Hid (∀ W, Calls Try.prog 90 #[.int .u32 (t (j + 1)), .int .u32 (t j)] W fun e w' => e = .returned (.int .i64 (Ser.ahead32 (t (j + 1)) (t j))) ∧ W = w') := Lib.hid fun W => refahead32_any _ _ ta tb tc td W
      generalize Rep.clampT (n (j + 1)) = N1 at *
      generalize Rep.clampT (n j) = N0 at *
      generalize Ser.ahead32 (t (j + 1)) (t j) = A at *
      generalize n (j + 1) = n1 at *
      generalize n j = n0 at *
      generalize t (j + 1) = t1 at *
      generalize t j = t0 at *
      clear ta tb tc td
      have v1 : IntKind.i64.wrap (N1 - N0) = N1 - N0 := i64w_in _ (by omega) (by omega)
      obtain ⟨D, hD⟩ : ∃ D, D = N1 - N0 - A := ⟨_, rfl⟩
      have v2 : IntKind.i64.wrap (N1 - N0 - A) = D := by rw [hD]; exact i64w_in _ (by omega) (by omega)
      have D1 : -4398046511104 ≤ D := by omega
      have D2 : D ≤ 4398046511104 := by omega
      rw [← hD] at HST
      clear hD
      have hSS : (w0.drewN d).cell? ⟨g, (j + 1) * 3 + 2, none⟩ = some (.int .i64 n1) ∧ (w0.drewN d).cell? ⟨g, j * 3 + 2, none⟩ = some (.int .i64 n0) ∧ (w0.drewN d).cell? ⟨g, (j + 1) * 3 + 1, none⟩ = some (.int .u32 t1) ∧ (w0.drewN d).cell? ⟨g, j * 3 + 1, none⟩ = some (.int .u32 t0) ∧ (w0.drewN d).cell? ⟨w.heap.size, 0, none⟩ = some (.slice (some ⟨g, 0, none⟩) m cap) := ⟨c1, c2, c3, c4, hx⟩
      have j1 : (j : Int) + 1 < (m : Int) := by omega
      have j2 : (0 : Int) ≤ (j : Int) + 1 := by omega
      have j3 : (j : Int) < (m : Int) := by omega
      have j4 : (0 : Int) ≤ (j : Int) := by omega
      have j5 : ((j : Int) + 1).toNat = j + 1 := by omega
      have j6 : IntKind.i64.wrap ((j : Int) + 1 - 1) = j := by rw [i64w_in _ (by omega) (by omega)]; omega
      have j7 : IntKind.i64.wrap (j : Int) = j := i64w_in _ (by omega) (by omega)
      go_wp2_with fail
      go_region_held3 (fun W => W.cell? ⟨g, (j + 1) * 3 + 2, none⟩ = some (.int .i64 n1) ∧ W.cell? ⟨g, j * 3 + 2, none⟩ = some (.int .i64 n0) ∧ W.cell? ⟨g, (j + 1) * 3 + 1, none⟩ = some (.int .u32 t1) ∧ W.cell? ⟨g, j * 3 + 1, none⟩ = some (.int .u32 t0) ∧ W.cell? ⟨w.heap.size, 0, none⟩ = some (.slice (some ⟨g, 0, none⟩) m cap))
        (first | with_reducible assumption | (simpa [go_sem] using hSS))
        (first
          | (go_at_call_of 89 (Value.int IntKind.i64 n1); refine (hHa.out _).mono ?_; rintro e w' ⟨rfl, rfl⟩)
          | (go_at_call_of 89 (Value.int IntKind.i64 n0); refine (hHb.out _).mono ?_; rintro e w' ⟨rfl, rfl⟩)
          | (go_at_call 90; refine (hHc.out _).mono ?_; rintro e w' ⟨rfl, rfl⟩))
      have ht : (S + 8).tdiv 16 = (S + 8) / 16 := Int.tdiv_eq_ediv_of_nonneg (by omega)
      have nb := Rep.next_bd S D hS0 hS1
      have HNB := Lib.hid nb; clear nb
      clear hSS c1 c2 c3 c4
      all_goals (
        by_cases hd : D < 0
        · go_wp2
          all_goals (
            go_roundw
            case rel => exact ⟨j + 1, Rep.next S D, .inl (by omega), by go_num, val_int (by unfold Rep.next; omega), Lib.hid ⟨fun h => by omega, fun _ => HST.out.symm⟩, HNB.out.1, HNB.out.2, d + 1, rfl⟩
            case measure => simp [intOf]; omega)
        · go_wp2
          all_goals (
            go_roundw
            case rel => exact ⟨j + 1, Rep.next S D, .inl (by omega), by go_num, val_int (by unfold Rep.next; omega), Lib.hid ⟨fun h => by omega, fun _ => HST.out.symm⟩, HNB.out.1, HNB.out.2, d + 1, rfl⟩
            case measure => simp [intOf]; omega))
    · have eS : (Os.st q t n m).s = S := by
        by_cases h0 : m = 0
        · rw [HSv.out.1 h0, h0]; rfl
        · rw [HSv.out.2 (by omega), show m = j + 1 by omega]
      have HES := Lib.hid eS; clear eS
      have ht : S.tdiv 16 = S / 16 := Int.tdiv_eq_ediv_of_nonneg hS0
      have j1 : ¬ (j : Int) + 1 < (m : Int) := by omega
      go_wp2
      all_goals go_ret
      all_goals refine ⟨ret_int ?_, HB.out⟩
      all_goals (rw [HES.out]; unfold Rep.jit; (try simp only [u32w]); omega)
end Go.Proofs.Ytpannhbmelcpfab
