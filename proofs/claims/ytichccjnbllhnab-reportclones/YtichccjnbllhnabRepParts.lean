
/-
  ReportParts' walk.
-/
import Derived.Test.YtichccjnbllhnabRepLoses
namespace Go.Proofs.Ytichccjnbllhnab
open Go.RowKit
set_option linter.unusedVariables false
attribute [local go_sem] Oper.semAt_some
theorem and15 (n : Int) : bits .and .i64 n 15 = n % 16 := i64_mask n 4 (by decide) _ (by decide)
set_option maxRecDepth 100000 in
set_option maxHeartbeats 400000 in
theorem walk_ReportParts (f : Int) (a : Option Addr) (len cap : Nat) (B : Nat → Bool) (pp : Int) (w : World) (hf : 0 ≤ f ∧ f < 65536) (hr : BoolIn w a len cap B) :
    Calls Try.prog 8 #[.int .u16 f, .slice a len cap, .int .i64 pp] w (TrueBelow w) := by
  obtain ⟨b, off, hlen, ha, hc⟩ := hr.open
  obtain ⟨hf1, hf2⟩ := hf
  by_cases h200 : 200 < len
  · have h1 : (200 : Int) < (len : Int) := by omega
    clear hc ha hr
    go_enter Try.func8, Try.ntmps8
    go_wp2_with (go_at_call 17; refine (alive8_any _).mono ?_; rintro e w1 ⟨rfl, hB⟩)
    go_ret
    exact ⟨rfl, hB⟩
  · have h1 : ¬ (200 : Int) < (len : Int) := by omega
    have HC := Lib.hid hc; clear hc
    have HA := Lib.hid ha; clear ha hr
    obtain ⟨p, hp⟩ : ∃ p : Nat, (p : Int) = 1 + pp % 16 := ⟨(1 + pp % 16).toNat, by omega⟩
    have p1 : 1 ≤ p := by omega
    have p2 : p ≤ 16 := by omega
    have hand : bits .and .i64 pp 15 = (p : Int) - 1 := by rw [and15]; omega
    have hwp : IntKind.i64.wrap (1 + ((p : Int) - 1)) = p := by rw [i64w_in _ (by omega) (by omega)]; omega
    have hwp' : (1 : Int) + ((p : Int) - 1) = p := by omega
    clear hp
    go_enter Try.func8, Try.ntmps8
    go_wp2_with fail
    refine (alive8_any _).mono ?_
    rintro e w1 ⟨rfl, hB⟩
    have HB1 := Lib.hid hB; clear hB
    go_wp2_with fail
    refine (note_kp (w := w) (y := Lo.st f 0 1 0 0) f 0 0 (Kp.new HB1.out) Rs.zero_ok (by decide) hf1 hf2 (Lo.first f ⟨hf1, hf2⟩)).mono ?_
    rintro e w2 ⟨rfl, h2⟩
    have K2 := Lib.hid h2; clear h2 HB1
    have ok0 : (Lo.st f 0 1 0 0).Ok := Lo.ok f 0 1 0 0 ⟨hf1, hf2⟩ (by omega) (by omega) (by omega) (by omega) (by omega) (by omega)
    have HP0 := Lib.hid (report_ok _ _ 1 w2 K2.out.hold ok0)
    rw [Lo.told _ _ _ _ _ (by omega)] at HP0
    clear ok0
    go_wp2_with fail
    refine HP0.out.mono ?_
    rintro e w3 ⟨rfl, h3, g3⟩
    have K3 := Lib.hid (K2.out.grown h3 g3)
    clear h3 g3 HP0 K2
    go_wp2
    go_loopw [8, 9, 10, 27] (fun l al su i wr => ∃ k A L T M : Nat, k ≤ len ∧ A ≤ k ∧ L ≤ A ∧ T + A ≤ k ∧ k ≤ M + A ∧ M ≤ k ∧ A < p ∧ (k = len → A = 0) ∧ i = .int .i64 k ∧ l = .int .i64 L ∧ al = .int .i64 A ∧ su = .int .i32 T ∧
      Hid (Kp w w1.heap.size (Lo.st f M (1 + k - T - L) (k - A + 1) (k - A + 1 - T)) wr)) (fun _ _ _ i _ => len - (intOf i).toNat)
    case atStart => exact ⟨0, 0, 0, 0, 0, Nat.zero_le _, Nat.zero_le _, Nat.zero_le _, Nat.zero_le _, Nat.zero_le _, Nat.zero_le _, p1, fun _ => rfl, rfl, rfl, rfl, rfl, Lib.hid (by simpa using K3.out)⟩
    case round =>
      clear K3
      obtain ⟨k, A, L, T, M, hk, hA, hL, hT, hM, hM', hAp, hend, rfl, rfl, rfl, rfl, HK⟩ := hrel
      by_cases hlt : k < len
      · obtain ⟨hb, hck⟩ := HC.out k hlt
        have ck : wr.cell? ⟨b, off + k, none⟩ = some (.bool (B k)) := (HK.out.bel.cell (p := ⟨b, off + k, none⟩) hb).trans hck
        obtain rfl := HA.out (by omega)
        clear hck hend
        obtain ⟨R, hR⟩ : ∃ R : Int, R = 1 + k - T - L := ⟨_, rfl⟩
        obtain ⟨C, hC⟩ : ∃ C : Int, C = k - A + 1 - T := ⟨_, rfl⟩
        obtain ⟨E, hE⟩ : ∃ E : Int, E = k - A + 1 := ⟨_, rfl⟩
        rw [← hR, ← hC, ← hE] at HK
        have nb := Ser.add_bd f ((k : Int) + 1)
        have HN := Lib.hid (note_kp (W := wr) (Ser.add f ((k : Int) + 1)) 0 0 HK.out (Lo.ok f M R E C ⟨hf1, hf2⟩ (by omega) (by omega) (by omega) (by omega) (by omega) (by omega)) (by show R < 1000; omega) nb.1 nb.2 (Lo.note f M R E C (k + 1) ⟨hf1, hf2⟩ (by omega) (by omega) (by omega) (by omega) (by omega)))
        by_cases hc2 : A + 1 = p ∨ k + 1 = len
        · obtain ⟨P, hP⟩ : ∃ P : Int, P = (L : Int) * 256 := ⟨_, rfl⟩
          obtain ⟨Q, hQ⟩ : ∃ Q : Int, Q = P.tdiv (A + 1) := ⟨_, rfl⟩
          have Q0 : 0 ≤ Q := by rw [hQ]; exact Int.tdiv_nonneg (by omega) (by omega)
          have Q1 : Q < 255 := by
            rw [hQ, Int.tdiv_eq_ediv_of_nonneg (by omega)]
            exact Int.ediv_lt_of_lt_mul (by omega) (by omega)
          have ok : (Lo.st f (k + 1) (R + 1) E C).Ok := Lo.ok f (k + 1) (R + 1) E C ⟨hf1, hf2⟩ (by omega) (by omega) (by omega) (by omega) (by omega) (by omega)
          have E2 : (Lo.st f (k + 1) (R + 1) E C).lost = T + L := by rw [Lo.lost _ _ _ _ _ (by omega) (by omega) (by omega)]; omega
          have E3 : (Lo.st f (k + 1) (R + 1) E C).frac = Q := by
            rw [Lo.frac _ _ _ _ _ (by omega)]
            unfold Rep.frac
            rw [if_neg (by omega), show ((k : Int) + 1 + 1 - E - (R + 1 - C)) = L by omega, show ((k : Int) + 1 + 1 - E) = A + 1 by omega, ← hP, ← hQ]; omega
          obtain ⟨X, hX⟩ : ∃ X, X = (Lo.st f (k + 1) (R + 1) E C).h % 4294967296 := ⟨_, rfl⟩
          obtain ⟨Y, hY⟩ : ∃ Y, Y = Rep.jit (Lo.st f (k + 1) (R + 1) E C).s := ⟨_, rfl⟩
          have HP : Hid (∀ W, Kp w w1.heap.size (Lo.st f (k + 1) (R + 1) E C) W → Calls Try.prog 18 #[.pointer (some ⟨w1.heap.size, 0, none⟩), .int .u32 1] W fun z W' => z = .returned (.agg #[.int .u32 1, .int .i64 Q, .int .i32 (T + L), .int .u32 X, .int .u32 Y, .int .u32 0, .int .u32 0]) ∧ Kp w w1.heap.size (Lo.st f (k + 1) (R + 1) (k + 1 + 1) (R + 1)) W') := Lib.hid fun W hW => by
            refine (report_ok _ _ 1 W hW.hold ok).mono ?_
            rintro z W' ⟨h1, h2, h3⟩
            rw [E3, E2, ← hX, ← hY] at h1
            rw [Lo.told _ _ _ _ _ (by omega)] at h2
            exact ⟨h1, hW.grown h2 h3⟩
          have HHR := Lib.hid hR; have HHC := Lib.hid hC; have HHE := Lib.hid hE; have HHP := Lib.hid hP
          have w3 : IntKind.i64.wrap ((L : Int) * 256) = P := by rw [hP]; exact i64w_in _ (by omega) (by omega)
          have w5 : IntKind.i64.wrap Q = Q := i64w_in _ (by omega) (by omega)
          have w8 : IntKind.i32.wrap (L : Int) = L := by rw [i32w]; omega
          have hQ' : P.tdiv (A + 1) = Q := hQ.symm
          have hne : ((A : Int) + 1 == 0) = false := by simp; omega
          have hne2 : ¬ ((A : Int) + 1) = 0 := by omega
          clear hQ hP hR hC hE hX hY ok E2 E3 nb
          rcases (show A + 1 = p ∨ (A + 1 ≠ p ∧ k + 1 = len) by omega) with hap | ⟨hap, hkl⟩
          all_goals cases hbk : B k
          all_goals rw [hbk] at ck
          all_goals clear hbk
          all_goals first
            | have hap' : ((A : Int) + 1 == p) = true := by rw [beq_iff_eq]; omega
            | (have hap' : ((A : Int) + 1 == p) = false := by rw [beq_eq_false_iff_ne]; omega
               have hkl' : ((k : Int) == (len : Int) - 1) = true := by rw [beq_iff_eq]; omega)
          all_goals (
            go_wp2_with fail
            refine (add_any _ _ _).mono ?_
            rintro e w' ⟨rfl, rfl⟩
            go_wp2_with fail
            refine HN.out.mono ?_
            rintro e w4 ⟨rfl, h4⟩
            have K4 := Lib.hid h4; clear h4 HN HK ck
            go_wp2_with fail
            refine (HP.out _ K4.out).mono ?_
            rintro e w5 ⟨rfl, h5⟩
            have K5 := Lib.hid h5; clear h5 HP K4
            go_wp2_with fail
            generalize hw7 : w5.alloc (.cells #[.int .u32 1, .int .i64 Q, .int .i32 (T + L), .int .u32 X, .int .u32 Y, .int .u32 0, .int .u32 0] 37) = w7
            have K7 : Hid (Kp w w1.heap.size (Lo.st f (k + 1) (R + 1) (k + 1 + 1) (R + 1)) w7) := Lib.hid (hw7 ▸ K5.out.new2 (gb_alloc _ _ _))
            have hrow : w7.heap[w5.heap.size]? = some (.cells #[.int .u32 1, .int .i64 Q, .int .i32 (T + L), .int .u32 X, .int .u32 Y, .int .u32 0, .int .u32 0] 37 (0, 0)) := hw7 ▸ heap_new _ _
            have r1 := cell_of_row w7 _ 1 _ _ _ hrow; have r2 := cell_of_row w7 _ 2 _ _ _ hrow
            simp only [List.getElem?_toArray, List.getElem?_cons_zero, List.getElem?_cons_succ] at r1 r2
            clear hrow hw7 K5
            have hS : w7.cell? ⟨w5.heap.size, 1, none⟩ = some (.int .i64 Q) ∧ w7.cell? ⟨w5.heap.size, 2, none⟩ = some (.int .i32 (T + L)) ∧ Kp w w1.heap.size (Lo.st f (k + 1) (R + 1) (k + 1 + 1) (R + 1)) w7 := ⟨r1, r2, K7.out⟩
            have r2' : w7.drew.cell? ⟨w5.heap.size, 2, none⟩ = some (.int .i32 (T + L)) := r2
            have w9 : IntKind.i32.wrap ((T : Int) + L - T) = L := by rw [i32w]; omega
            have hnq : ¬ (255 : Int) < Q := by omega
            go_region_held3 (fun W => W.cell? ⟨w5.heap.size, 1, none⟩ = some (.int .i64 Q) ∧ W.cell? ⟨w5.heap.size, 2, none⟩ = some (.int .i32 (T + L)) ∧ Kp w w1.heap.size (Lo.st f (k + 1) (R + 1) (k + 1 + 1) (R + 1)) W)
              (first | with_reducible assumption | with_reducible exact lz_drew (by with_reducible assumption) | with_reducible exact lz_drawn (by with_reducible assumption))
              (fail)
            go_wp2_with fail
            have hS2 := lz_drew hS
            go_region_held3 (fun W => W.cell? ⟨w5.heap.size, 1, none⟩ = some (.int .i64 Q) ∧ W.cell? ⟨w5.heap.size, 2, none⟩ = some (.int .i32 (T + L)) ∧ Kp w w1.heap.size (Lo.st f (k + 1) (R + 1) (k + 1 + 1) (R + 1)) W)
              (first | with_reducible assumption | with_reducible exact lz_drew (by with_reducible assumption) | with_reducible exact lz_drawn (by with_reducible assumption))
              (fail)
            go_wp2
            go_roundw
            case rel => exact ⟨k + 1, 0, 0, T + L, k + 1, by omega, by omega, by omega, by omega, by omega, by omega, by omega, fun _ => rfl, by go_num, rfl, rfl, by go_num, Lib.hid (by
              have := (K7.out.drawn 1).drawn 1
              have e1 := HHR.out; have e2 := HHC.out; have e3 := HHE.out
              have e4 : Lo.st f (k + 1) (R + 1) (k + 1 + 1) (R + 1) = Lo.st f ((k + 1 : Nat) : Int) (1 + ((k + 1 : Nat) : Int) - ((T + L : Nat) : Int) - ((0 : Nat) : Int)) (((k + 1 : Nat) : Int) - ((0 : Nat) : Int) + 1) (((k + 1 : Nat) : Int) - ((0 : Nat) : Int) + 1 - ((T + L : Nat) : Int)) := by unfold Lo.st; congr 1 <;> omega
              rwa [e4] at this)⟩
            case measure => simp [intOf]; omega)
        · have hap' : ((A : Int) + 1 == p) = false := by rw [beq_eq_false_iff_ne]; omega
          have hkl' : ((k : Int) == (len : Int) - 1) = false := by rw [beq_eq_false_iff_ne]; omega
          have HHR := Lib.hid hR; have HHC := Lib.hid hC; have HHE := Lib.hid hE
          have hL1 : (L : Int) + 1 ≤ 9223372036854775807 := by omega
          clear hR hC hE nb
          cases hbk : B k
          · rw [hbk] at ck
            clear hbk
            go_wp2
            go_roundw
            case rel => exact ⟨k + 1, A + 1, L + 1, T, M, by omega, by omega, by omega, by omega, by omega, by omega, by omega, fun h => by omega, by go_num, by go_num, by go_num, rfl, Lib.hid (by
              have := HK.out
              have e1 := HHR.out; have e2 := HHC.out; have e3 := HHE.out
              rwa [show R = 1 + ((k + 1 : Nat) : Int) - (T : Int) - ((L + 1 : Nat) : Int) by omega, show E = ((k + 1 : Nat) : Int) - ((A + 1 : Nat) : Int) + 1 by omega, show C = ((k + 1 : Nat) : Int) - ((A + 1 : Nat) : Int) + 1 - (T : Int) by omega] at this)⟩
            case measure => simp [intOf]; omega
          · rw [hbk] at ck
            clear hbk
            go_wp2_with fail
            refine (add_any _ _ _).mono ?_
            rintro e w' ⟨rfl, rfl⟩
            go_wp2_with fail
            refine HN.out.mono ?_
            rintro e w4 ⟨rfl, h4⟩
            have K4 := Lib.hid h4; clear h4 HN HK ck
            go_wp2
            go_roundw
            case rel => exact ⟨k + 1, A + 1, L, T, k + 1, by omega, by omega, by omega, by omega, by omega, by omega, by omega, fun h => by omega, by go_num, rfl, by go_num, rfl, Lib.hid (by
              have := K4.out
              have e1 := HHR.out; have e2 := HHC.out; have e3 := HHE.out
              rwa [show ((k : Int) + 1) = ((k + 1 : Nat) : Int) by omega, show R + 1 = 1 + ((k + 1 : Nat) : Int) - (T : Int) - (L : Int) by omega, show E = ((k + 1 : Nat) : Int) - ((A + 1 : Nat) : Int) + 1 by omega, show C = ((k + 1 : Nat) : Int) - ((A + 1 : Nat) : Int) + 1 - (T : Int) by omega] at this)⟩
            case measure => simp [intOf]; omega
      · obtain rfl : k = len := by omega
        obtain rfl : A = 0 := hend rfl
        obtain rfl : L = 0 := by omega
        obtain rfl : M = k := by omega
        obtain ⟨R, hR⟩ : ∃ R : Int, R = 1 + M - T - (0 : Nat) := ⟨_, rfl⟩
        obtain ⟨C, hC⟩ : ∃ C : Int, C = M - (0 : Nat) + 1 - T := ⟨_, rfl⟩
        obtain ⟨E, hE⟩ : ∃ E : Int, E = M - (0 : Nat) + 1 := ⟨_, rfl⟩
        rw [← hR, ← hC, ← hE] at HK
        have ok : (Lo.st f M R E C).Ok := Lo.ok f M R E C ⟨hf1, hf2⟩ (by omega) (by omega) (by omega) (by omega) (by omega) (by omega)
        have E1 : (Lo.st f M R E C).exp = M + 1 := Lo.exp _ _ _ _ _ (by omega)
        have E2 : (Lo.st f M R E C).lost = T := by rw [Lo.lost _ _ _ _ _ (by omega) (by omega) (by omega)]; omega
        have E6 : (Lo.st f M R E C).r = M + 1 - T := by show R = _; omega
        have HL : Hid (∀ W, Kp w w1.heap.size (Lo.st f M R E C) W → Calls Try.prog 23 #[.pointer (some ⟨w1.heap.size, 0, none⟩)] W (Drawn (.int .i32 T) W)) := Lib.hid fun W hW => (E2 ▸ lost_ok _ _ W hW.hold ok)
        have HE : Hid (∀ W, Kp w w1.heap.size (Lo.st f M R E C) W → Calls Try.prog 24 #[.pointer (some ⟨w1.heap.size, 0, none⟩)] W (Drawn (.int .i64 (M + 1)) W)) := Lib.hid fun W hW => (E1 ▸ expected_ok _ _ W hW.hold ok)
        have HR : Hid (∀ W, Kp w w1.heap.size (Lo.st f M R E C) W → Calls Try.prog 25 #[.pointer (some ⟨w1.heap.size, 0, none⟩)] W fun e W' => e = .returned (.int .i64 (M + 1 - T)) ∧ W = W') := Lib.hid fun W hW => (E6 ▸ received_ok _ _ W hW.hold ok)
        have hS := HK.out
        clear E1 E2 E6 ok hR hC hE
        go_wp2_with fail
        refine (HE.out _ hS).mono ?_
        rintro e _ ⟨rfl, k9, rfl⟩
        have hS9 := hS.drawn k9
        go_wp2_with fail
        refine (HL.out _ hS9).mono ?_
        rintro e _ ⟨rfl, k8, rfl⟩
        have hS8 := hS.drawn (k9 + k8)
        go_wp2_with fail
        refine (HR.out _ hS8).mono ?_
        rintro e _ ⟨rfl, rfl⟩
        go_wp2_with fail
        refine (HE.out _ hS8).mono ?_
        rintro e _ ⟨rfl, k7, rfl⟩
        go_wp2
        go_ret
        exact ⟨rfl, (hS.drawn _).bel⟩
end Go.Proofs.Ytichccjnbllhnab
