
/-
  ReportLoses' walk.
-/
import Derived.Test.YtichccjnbllhnabRepAlive
namespace Go.Proofs.Ytichccjnbllhnab
open Go.RowKit
set_option linter.unusedVariables false
attribute [local go_sem] Oper.semAt_some
/-- Note as the laws want it. -/
theorem note_kp {w W : World} {b : Nat} {x y : Rs} (q ts now : Int) (h : Kp w b x W) (ok : x.Ok) (hr : x.r < 1000) (hq : 0 ≤ q) (hq' : q < 65536) (e : x.note q ts now = y) :
    Calls Try.prog 20 #[.pointer (some ⟨b, 0, none⟩), .int .u16 q, .int .u32 ts, .int .i64 now] W fun z W' => z = .returned (.tuple #[]) ∧ Kp w b y W' :=
  (note_ok b x q ts now W h.hold ok hr hq hq').mono fun z W' ⟨h1, h2, h3⟩ => ⟨h1, h.grown (e ▸ h2) h3⟩
/-- The law's Stats, and the report's Loss and Lost. -/
def Lz (w : World) (b : Nat) (x : Rs) (c : Nat) (Q G : Int) (W : World) : Prop := W.cell? ⟨c, 1, none⟩ = some (.int .i64 Q) ∧ W.cell? ⟨c, 2, none⟩ = some (.int .i32 G) ∧ Kp w b x W
theorem lz_k {w : World} {b : Nat} {x : Rs} {c : Nat} {Q G : Int} {W : World} (h : W.cell? ⟨c, 1, none⟩ = some (.int .i64 Q) ∧ W.cell? ⟨c, 2, none⟩ = some (.int .i32 G) ∧ Kp w b x W) : Kp w b x W := h.2.2
theorem lz_drew {w : World} {b : Nat} {x : Rs} {c : Nat} {Q G : Int} {W : World} (h : W.cell? ⟨c, 1, none⟩ = some (.int .i64 Q) ∧ W.cell? ⟨c, 2, none⟩ = some (.int .i32 G) ∧ Kp w b x W) : W.drew.cell? ⟨c, 1, none⟩ = some (.int .i64 Q) ∧ W.drew.cell? ⟨c, 2, none⟩ = some (.int .i32 G) ∧ Kp w b x W.drew := ⟨h.1, h.2.1, h.2.2.drawn 1⟩
theorem lz_drawn {w : World} {b : Nat} {x : Rs} {c : Nat} {Q G : Int} {W : World} {k : Nat} (h : W.cell? ⟨c, 1, none⟩ = some (.int .i64 Q) ∧ W.cell? ⟨c, 2, none⟩ = some (.int .i32 G) ∧ Kp w b x W) : (W.drewN k).cell? ⟨c, 1, none⟩ = some (.int .i64 Q) ∧ (W.drewN k).cell? ⟨c, 2, none⟩ = some (.int .i32 G) ∧ Kp w b x (W.drewN k) := ⟨h.1, h.2.1, h.2.2.drawn k⟩
set_option maxRecDepth 100000 in
set_option maxHeartbeats 400000 in
theorem walk_ReportLoses (f : Int) (a : Option Addr) (len cap : Nat) (B : Nat → Bool) (w : World) (hf : 0 ≤ f ∧ f < 65536) (hr : BoolIn w a len cap B) :
    Calls Try.prog 6 #[.int .u16 f, .slice a len cap] w (TrueBelow w) := by
  obtain ⟨b, off, hlen, ha, hc⟩ := hr.open
  obtain ⟨hf1, hf2⟩ := hf
  by_cases h200 : 200 < len
  · have h1 : (200 : Int) < (len : Int) := by omega
    clear hc ha hr
    go_enter Try.func6, Try.ntmps6
    go_wp2_with (go_at_call 17; refine (alive8_any _).mono ?_; rintro e w1 ⟨rfl, hB⟩)
    go_ret
    exact ⟨rfl, hB⟩
  · have h1 : ¬ (200 : Int) < (len : Int) := by omega
    have HC := Lib.hid hc; clear hc
    have HA := Lib.hid ha; clear ha hr
    go_enter Try.func6, Try.ntmps6
    go_wp2_with fail
    refine (alive8_any _).mono ?_
    rintro e w1 ⟨rfl, hB⟩
    have HB1 := Lib.hid hB; clear hB
    go_wp2_with fail
    refine (note_kp (w := w) (y := Lo.st f 0 1 0 0) f 0 0 (Kp.new HB1.out) Rs.zero_ok (by decide) hf1 hf2 (Lo.first f ⟨hf1, hf2⟩)).mono ?_
    rintro e w2 ⟨rfl, h2⟩
    have K2 := Lib.hid h2; clear h2 HB1
    go_wp2
    have hlt1 : w1.heap.size < w2.heap.size := K2.out.hold.lt
    go_loopw [6, 21] (fun l i wr => ∃ k : Nat, k ≤ len ∧ i = .int .i64 k ∧ l = .int .i64 (Lo.gone B k) ∧ Hid (Kp w w1.heap.size (Lo.st f (Lo.last B k) (1 + k - Lo.gone B k) 0 0) wr)) (fun _ i _ => len - (intOf i).toNat)
    case atStart => exact ⟨0, Nat.zero_le _, rfl, rfl, Lib.hid (by simpa [Lo.gone, Lo.last] using K2.out)⟩
    case round =>
      clear K2
      obtain ⟨k, hk, rfl, rfl, HK⟩ := hrel
      have g1 := Lo.gone_le B k
      have g2 := Lo.last_le B k
      by_cases hlt : k < len
      · obtain ⟨hb, hck⟩ := HC.out k hlt
        have ck : wr.cell? ⟨b, off + k, none⟩ = some (.bool (B k)) := (HK.out.bel.cell (p := ⟨b, off + k, none⟩) hb).trans hck
        obtain rfl := HA.out (by omega)
        have hG : Lo.gone B (k + 1) = if B k then Lo.gone B k else Lo.gone B k + 1 := rfl
        have hL : Lo.last B (k + 1) = if B k then k + 1 else Lo.last B k := rfl
        cases hbk : B k
        · rw [hbk] at ck
          simp only [hbk, if_false, Bool.false_eq_true] at hG hL
          generalize Lo.gone B k = G at *
          generalize Lo.last B k = M at *
          have HG := Lib.hid hG; have HL := Lib.hid hL; clear hG hL hbk hck
          have hG1 : (G : Int) + 1 ≤ 9223372036854775807 := by omega
          go_wp2
          go_roundw
          case rel => exact ⟨k + 1, by omega, by go_num, by rw [HG.out]; go_num, Lib.hid (by rw [HG.out, HL.out]; have := HK.out; rwa [show (1 : Int) + ((k + 1 : Nat) : Int) - ((G + 1 : Nat) : Int) = 1 + k - G by omega])⟩
          case measure => simp [intOf]; omega
        · rw [hbk] at ck
          simp only [hbk, if_true] at hG hL
          generalize Lo.gone B k = G at *
          generalize Lo.last B k = M at *
          have HG := Lib.hid hG; have HL := Lib.hid hL; clear hG hL hbk hck
          have nb := Ser.add_bd f ((k : Int) + 1)
          have HN := Lib.hid (note_kp (W := wr) (Ser.add f ((k : Int) + 1)) 0 0 HK.out (Lo.ok f M (1 + k - G) 0 0 ⟨hf1, hf2⟩ (by omega) (by omega) (by omega) (by omega) (by omega) (by omega)) (by show (1 : Int) + k - G < 1000; omega) nb.1 nb.2 (Lo.note f M (1 + k - G) 0 0 (k + 1) ⟨hf1, hf2⟩ (by omega) (by omega) (by omega) (by omega) (by omega)))
          go_wp2_with fail
          refine (add_any _ _ _).mono ?_
          rintro e w' ⟨rfl, rfl⟩
          go_wp2_with fail
          refine HN.out.mono ?_
          rintro e w3 ⟨rfl, h3⟩
          have K3 := Lib.hid h3; clear h3 HN HK
          go_wp2
          go_roundw
          case rel => exact ⟨k + 1, by omega, by go_num, by rw [HG.out], Lib.hid (by rw [HG.out, HL.out]; have := K3.out; rwa [show (1 : Int) + ((k + 1 : Nat) : Int) - (G : Int) = 1 + k - G + 1 by omega, show (((k + 1 : Nat)) : Int) = (k : Int) + 1 by omega])⟩
          case measure => simp [intOf]; omega
      · obtain rfl : k = len := by omega
        generalize Lo.gone B k = G at *
        generalize Lo.last B k = M at *
        have nb := Ser.add_bd f ((k : Int) + 1)
        have HN := Lib.hid (note_kp (W := wr) (Ser.add f ((k : Int) + 1)) 0 0 HK.out (Lo.ok f M (1 + k - G) 0 0 ⟨hf1, hf2⟩ (by omega) (by omega) (by omega) (by omega) (by omega) (by omega)) (by show (1 : Int) + k - G < 1000; omega) nb.1 nb.2 (Lo.note f M (1 + k - G) 0 0 (k + 1) ⟨hf1, hf2⟩ (by omega) (by omega) (by omega) (by omega) (by omega)))
        go_wp2_with fail
        refine (add_any _ _ _).mono ?_
        rintro e w' ⟨rfl, rfl⟩
        go_wp2_with fail
        refine HN.out.mono ?_
        rintro e w3 ⟨rfl, h3⟩
        have K3 := Lib.hid h3; clear h3 HN HK
        obtain ⟨R, hR⟩ : ∃ R : Int, R = 1 + k - G + 1 := ⟨_, rfl⟩
        rw [← hR] at K3
        obtain ⟨Q, hQ⟩ : ∃ Q : Int, Q = ((G : Int) * 256).tdiv (k + 2) := ⟨_, rfl⟩
        have Q0 : 0 ≤ Q := by rw [hQ]; exact Int.tdiv_nonneg (by omega) (by omega)
        have Q1 : Q ≤ 255 := by
          rw [hQ, Int.tdiv_eq_ediv_of_nonneg (by omega)]
          have : ((G : Int) * 256) / (k + 2) < 256 := Int.ediv_lt_of_lt_mul (by omega) (by omega)
          omega
        have ok : (Lo.st f (k + 1) R 0 0).Ok := Lo.ok f (k + 1) R 0 0 ⟨hf1, hf2⟩ (by omega) (by omega) (by omega) (by omega) (by omega) (by omega)
        have E1 : (Lo.st f (k + 1) R 0 0).exp = k + 1 + 1 := by rw [Lo.exp _ _ _ _ _ (by omega)]
        have E2 : (Lo.st f (k + 1) R 0 0).lost = G := by rw [Lo.lost _ _ _ _ _ (by omega) (by omega) (by omega)]; omega
        have E3 : (Lo.st f (k + 1) R 0 0).frac = Q := by
          rw [Lo.frac _ _ _ _ _ (by omega)]
          unfold Rep.frac
          rw [if_neg (by omega), show ((k : Int) + 1 + 1 - 0 - (R - 0)) = G by omega, show ((k : Int) + 1 + 1 - 0) = k + 2 by omega, ← hQ]; omega
        have E4 : (Lo.st f (k + 1) R 0 0).h % 4294967296 = f + (k + 1) := by show (4294967296 + f + (k + 1)) % 4294967296 = _; omega
        have E5 : Rep.jit (Lo.st f (k + 1) R 0 0).s = 0 := by show Rep.jit 0 = 0; decide
        have E6 : (Lo.st f (k + 1) R 0 0).r = k + 1 + 1 - G := by show R = _; omega
        have HL := Lib.hid (E2 ▸ lost_ok _ _ w3 K3.out.hold ok)
        have HE := Lib.hid fun j => (E1 ▸ expected_ok _ _ (w3.drewN j) (K3.out.drawn j).hold ok)
        have HR := Lib.hid fun j => (E6 ▸ received_ok _ _ (w3.drewN j) (K3.out.drawn j).hold ok)
        have HH := Lib.hid fun j => (E4 ▸ highest_ok _ _ (w3.drewN j) (K3.out.drawn j).hold ok)
        have HP := Lib.hid fun j => (report_ok _ _ 1 (w3.drewN j) (K3.out.drawn j).hold ok)
        rw [E3, E2, E4, E5] at HP
        have okT := ok.told
        rw [Lo.told _ _ _ _ _ (by omega)] at okT HP
        have E7 : (Lo.st f (k + 1) R (k + 1 + 1) R).frac = 0 := by
          rw [Lo.frac _ _ _ _ _ (by omega)]; unfold Rep.frac; rw [if_pos (by omega)]
        have E8 : Rep.jit (Lo.st f (k + 1) R (k + 1 + 1) R).s = 0 := by show Rep.jit 0 = 0; decide
        clear E1 E2 E3 E4 E5 E6 ok
        have hQ' : ((G : Int) * 256).tdiv (k + 1 + 1) = Q := by rw [hQ]; congr 1
        clear hQ
        go_wp2_with fail
        refine HL.out.mono ?_
        rintro e _ ⟨rfl, k4, rfl⟩
        go_wp2_with fail
        refine (HE.out _).mono ?_
        rintro e _ ⟨rfl, k5, rfl⟩
        go_wp2_with fail
        refine (HR.out _).mono ?_
        rintro e _ ⟨rfl, rfl⟩
        go_wp2_with fail
        refine (HH.out _).mono ?_
        rintro e _ ⟨rfl, rfl⟩
        go_wp2_with fail
        refine (HP.out _).mono ?_
        rintro e w6 ⟨rfl, h6, g6⟩
        have K6 := Lib.hid ((K3.out.drawn _).grown h6 g6)
        clear h6 g6 HP HH HR HE HL K3
        go_wp2_with fail
        generalize hw7 : w6.alloc (.cells #[.int .u32 1, .int .i64 Q, .int .i32 G, .int .u32 (f + (k + 1)), .int .u32 0, .int .u32 0, .int .u32 0] 37) = w7
        have K7 : Hid (Kp w w1.heap.size (Lo.st f (k + 1) R (k + 1 + 1) R) w7) := Lib.hid (hw7 ▸ K6.out.new2 (gb_alloc _ _ _))
        have hrow : w7.heap[w6.heap.size]? = some (.cells #[.int .u32 1, .int .i64 Q, .int .i32 G, .int .u32 (f + (k + 1)), .int .u32 0, .int .u32 0, .int .u32 0] 37 (0, 0)) := hw7 ▸ heap_new _ _
        have r1 := cell_of_row w7 _ 1 _ _ _ hrow; have r2 := cell_of_row w7 _ 2 _ _ _ hrow
        simp only [List.getElem?_toArray, List.getElem?_cons_zero, List.getElem?_cons_succ] at r1 r2
        clear hrow hw7 K6
        have hS : w7.cell? ⟨w6.heap.size, 1, none⟩ = some (.int .i64 Q) ∧ w7.cell? ⟨w6.heap.size, 2, none⟩ = some (.int .i32 G) ∧ Kp w w1.heap.size (Lo.st f (k + 1) R (k + 1 + 1) R) w7 := ⟨r1, r2, K7.out⟩
        have TF : Hid (∀ W, Kp w w1.heap.size (Lo.st f (k + 1) R (k + 1 + 1) R) W → Calls Try.prog 27 #[.pointer (some ⟨w1.heap.size, 0, none⟩)] W (Drawn (.int .i64 0) W)) := Lib.hid fun W hW => E7 ▸ fraction_ok _ _ W hW.hold okT
        have TJ : Hid (∀ W, Kp w w1.heap.size (Lo.st f (k + 1) R (k + 1 + 1) R) W → Calls Try.prog 28 #[.pointer (some ⟨w1.heap.size, 0, none⟩)] W fun e W' => e = .returned (.int .u32 0) ∧ W = W') := Lib.hid fun W hW => E8 ▸ jitter_ok _ _ W hW.hold okT
        clear r1 r2 K7
        obtain ⟨P, hP⟩ : ∃ P : Int, P = (G : Int) * 256 := ⟨_, rfl⟩
        have w3 : IntKind.i64.wrap ((G : Int) * 256) = P := by rw [hP]; exact i64w_in _ (by omega) (by omega)
        have w8 : IntKind.i32.wrap (G : Int) = G := by rw [i32w]; omega
        have w5 : IntKind.i64.wrap Q = Q := i64w_in _ (by omega) (by omega)
        rw [← hP] at hQ'
        have HP := Lib.hid hP; have HR := Lib.hid hR; have HOK := Lib.hid okT; have HE7 := Lib.hid E7; have HE8 := Lib.hid E8
        clear hP hR okT E7 E8 nb hlt hk
        have hne : ((k : Int) + 1 + 1 == 0) = false := by simp; omega
        have hne2 : ¬ ((k : Int) + 1 + 1) = 0 := by omega
        go_region_held3 (fun W => W.cell? ⟨w6.heap.size, 1, none⟩ = some (.int .i64 Q) ∧ W.cell? ⟨w6.heap.size, 2, none⟩ = some (.int .i32 G) ∧ Kp w w1.heap.size (Lo.st f (k + 1) R (k + 1 + 1) R) W)
          (first | with_reducible assumption | with_reducible exact lz_drew (by with_reducible assumption) | with_reducible exact lz_drawn (by with_reducible assumption))
          (first
            | (go_at_call 27; refine (TF.out _ (lz_k (by assumption))).mono ?_; rintro e _ ⟨rfl, k8, rfl⟩)
            | (go_at_call 28; refine (TJ.out _ (lz_k (by assumption))).mono ?_; rintro e _ ⟨rfl, rfl⟩))
        go_wp2
        go_ret
        exact ⟨rfl, (lz_k (by assumption)).bel⟩
end Go.Proofs.Ytichccjnbllhnab
