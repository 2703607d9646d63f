
/-
  confluxref08: Expected, Lost, Highest.
-/
import Derived.Test.YtpannhbmelcpfabRepRef0
import Derived.Deep.RegionHeld3
namespace Go.Proofs.Ytpannhbmelcpfab
open Go.RowKit
set_option linter.unusedVariables false
def RePost (v : Value) (w : World) (e : Ending) (w' : World) : Prop := e = .returned v ∧ Below w.heap.size w w'
theorem Os.bd (q t n : Nat → Int) (m : Nat) (hm : m ≤ 60) (hq : ∀ i, i < m → 0 ≤ q i ∧ q i < 65536) : 0 ≤ (Os.st q t n m).f ∧ (Os.st q t n m).f ≤ 4295032831 ∧ 0 ≤ (Os.st q t n m).h ∧ (Os.st q t n m).h ≤ 4300000000 := by
  have h := Os.ok q t n m hq (by omega) m (Nat.le_refl _)
  have := h.hf; have := h.r1; have := Os.r q t n m; omega
section
variable {w : World} {a : Option Addr} {m cap : Nat} {E C : Int} {W W' : World}
/-- The box of a Stats of the reference, in block w.heap.size. -/
theorem bx_b (h : W.cell? ⟨w.heap.size, 0, none⟩ = some (.slice a m cap) ∧ W.cell? ⟨w.heap.size, 1, none⟩ = some (.int .i64 E) ∧ W.cell? ⟨w.heap.size, 2, none⟩ = some (.int .i64 C) ∧ Below w.heap.size w W ∧ w.heap.size < W.heap.size) : Below w.heap.size w W := h.2.2.2.1
theorem bx_below (h : W.cell? ⟨w.heap.size, 0, none⟩ = some (.slice a m cap) ∧ W.cell? ⟨w.heap.size, 1, none⟩ = some (.int .i64 E) ∧ W.cell? ⟨w.heap.size, 2, none⟩ = some (.int .i64 C) ∧ Below w.heap.size w W ∧ w.heap.size < W.heap.size) (hb : Below W.heap.size W W') :
    W'.cell? ⟨w.heap.size, 0, none⟩ = some (.slice a m cap) ∧ W'.cell? ⟨w.heap.size, 1, none⟩ = some (.int .i64 E) ∧ W'.cell? ⟨w.heap.size, 2, none⟩ = some (.int .i64 C) ∧ Below w.heap.size w W' ∧ w.heap.size < W'.heap.size :=
  ⟨(hb.cell (p := ⟨w.heap.size, 0, none⟩) h.2.2.2.2).trans h.1, (hb.cell (p := ⟨w.heap.size, 1, none⟩) h.2.2.2.2).trans h.2.1, (hb.cell (p := ⟨w.heap.size, 2, none⟩) h.2.2.2.2).trans h.2.2.1, h.2.2.2.1.trans (hb.mono h.2.2.2.1.size), Nat.lt_of_lt_of_le h.2.2.2.2 hb.size⟩
theorem bx_drew (h : W.cell? ⟨w.heap.size, 0, none⟩ = some (.slice a m cap) ∧ W.cell? ⟨w.heap.size, 1, none⟩ = some (.int .i64 E) ∧ W.cell? ⟨w.heap.size, 2, none⟩ = some (.int .i64 C) ∧ Below w.heap.size w W ∧ w.heap.size < W.heap.size) :
    W.drew.cell? ⟨w.heap.size, 0, none⟩ = some (.slice a m cap) ∧ W.drew.cell? ⟨w.heap.size, 1, none⟩ = some (.int .i64 E) ∧ W.drew.cell? ⟨w.heap.size, 2, none⟩ = some (.int .i64 C) ∧ Below w.heap.size w W.drew ∧ w.heap.size < W.drew.heap.size := bx_below h ((Below.refl _ W).drew)
theorem bx_new (w : World) (a : Option Addr) (m cap : Nat) (E C : Int) : (w.alloc (.cells #[.slice a m cap, .int .i64 E, .int .i64 C] 68)).cell? ⟨w.heap.size, 0, none⟩ = some (.slice a m cap) ∧ (w.alloc (.cells #[.slice a m cap, .int .i64 E, .int .i64 C] 68)).cell? ⟨w.heap.size, 1, none⟩ = some (.int .i64 E) ∧ (w.alloc (.cells #[.slice a m cap, .int .i64 E, .int .i64 C] 68)).cell? ⟨w.heap.size, 2, none⟩ = some (.int .i64 C) ∧ Below w.heap.size w (w.alloc (.cells #[.slice a m cap, .int .i64 E, .int .i64 C] 68)) ∧ w.heap.size < (w.alloc (.cells #[.slice a m cap, .int .i64 E, .int .i64 C] 68)).heap.size := by
  have h := heap_new w (.cells #[.slice a m cap, .int .i64 E, .int .i64 C] 68)
  refine ⟨?_, ?_, ?_, (Below.refl _ _).alloc (Nat.le_refl _) _, by simp⟩ <;> (rw [cell_of_row _ _ _ _ _ _ h]; rfl)
end
section
variable (a : Option Addr) (g m cap : Nat) (q t n : Nat → Int) (E C : Int) (w : World) (H : OAt w a g m q t n) (hm : m ≤ 60)
include H hm
set_option maxRecDepth 100000 in
theorem refexp_any : Calls Try.prog 55 #[.agg #[.slice a m cap, .int .i64 E, .int .i64 C]] w (RePost (.int .i64 (Os.st q t n m).exp) w) := by
  obtain ⟨b1, b2, b3, b4⟩ := Os.bd q t n m hm (fun i hi => wf_u16 (H.rq i hi))
  have hX : (Os.st q t n m).exp = if m = 0 then 0 else (Os.st q t n m).h - (Os.st q t n m).f + 1 := by
    unfold Rs.exp Rep.exp; rw [Os.r]; by_cases e : m = 0 <;> simp [e]
  have HX := Lib.hid hX; clear hX
  by_cases h0 : m = 0
  · have h0' : ((m : Int) == 0) = true := by rw [beq_iff_eq]; omega
    go_enter Try.func55, Try.ntmps55
    go_wp2
    go_ret
    exact ⟨ret_int (by rw [HX.out, if_pos h0]), (Below.refl _ _).alloc (Nat.le_refl _) _⟩
  · have h0' : ((m : Int) == 0) = false := by rw [beq_eq_false_iff_ne]; omega
    have HW : Hid (∀ W, Below w.heap.size w W → Calls Try.prog 88 #[.agg #[.slice a m cap, .int .i64 E, .int .i64 C]] W (HiPost q t n m W)) := Lib.hid fun W hW => refhighest_any a g m cap q t n E C W (H.below hW) hm
    have HB0 : Hid (∀ o, Below w.heap.size w (w.alloc o)) := Lib.hid fun o => (Below.refl _ _).alloc (Nat.le_refl _) _
    unfold HiPost at HW
    generalize (Os.st q t n m).f = F at *
    generalize (Os.st q t n m).h = Hi at *
    go_enter Try.func55, Try.ntmps55
    go_wp2_with fail
    refine (HW.out _ (HB0.out _)).mono ?_
    rintro e w1 ⟨rfl, hb1⟩
    have HB1 := Lib.hid ((HB0.out _).trans (hb1.mono (by simp))); clear hb1
    go_wp2
    go_ret
    exact ⟨ret_int (by rw [HX.out, if_neg h0]), HB1.out⟩
set_option maxRecDepth 100000 in
theorem refhi_any : Calls Try.prog 53 #[.agg #[.slice a m cap, .int .i64 E, .int .i64 C]] w (RePost (.int .u32 ((Os.st q t n m).h % 4294967296)) w) := by
  obtain ⟨b1, b2, b3, b4⟩ := Os.bd q t n m hm (fun i hi => wf_u16 (H.rq i hi))
  have HW : Hid (∀ W, Below w.heap.size w W → Calls Try.prog 88 #[.agg #[.slice a m cap, .int .i64 E, .int .i64 C]] W (HiPost q t n m W)) := Lib.hid fun W hW => refhighest_any a g m cap q t n E C W (H.below hW) hm
  have HB0 : Hid (∀ o, Below w.heap.size w (w.alloc o)) := Lib.hid fun o => (Below.refl _ _).alloc (Nat.le_refl _) _
  unfold HiPost at HW
  generalize (Os.st q t n m).f = F at *
  generalize (Os.st q t n m).h = Hi at *
  have ht : Hi.tmod 4294967296 = Hi % 4294967296 := Int.tmod_eq_emod_of_nonneg b3
  go_enter Try.func53, Try.ntmps53
  go_wp2_with fail
  refine (HW.out _ (HB0.out _)).mono ?_
  rintro e w1 ⟨rfl, hb1⟩
  have HB1 := Lib.hid ((HB0.out _).trans (hb1.mono (by simp))); clear hb1
  go_wp2
  go_ret
  exact ⟨ret_int (by first | rfl | omega | (simp only [u32w]; omega)), HB1.out⟩
set_option maxRecDepth 100000 in
theorem reflost_any : Calls Try.prog 52 #[.agg #[.slice a m cap, .int .i64 E, .int .i64 C]] w (RePost (.int .i32 (Os.st q t n m).lost) w) := by
  have ok := Os.ok q t n m (fun i hi => wf_u16 (H.rq i hi)) (by omega) m (Nat.le_refl _)
  obtain ⟨x1, x2, _, _⟩ := ok.exp_bd
  have HW : Hid (∀ W, Below w.heap.size w W → Calls Try.prog 55 #[.agg #[.slice a m cap, .int .i64 E, .int .i64 C]] W (RePost (.int .i64 (Os.st q t n m).exp) W)) := Lib.hid fun W hW => refexp_any a g m cap q t n E C W (H.below hW) hm
  have HB0 : Hid (∀ o, Below w.heap.size w (w.alloc o)) := Lib.hid fun o => (Below.refl _ _).alloc (Nat.le_refl _) _
  have hL : (Os.st q t n m).lost = Rep.clampL ((Os.st q t n m).exp - m) := by
    have := Os.r q t n m
    unfold Rs.lost Rep.lost Rs.exp; rw [this]
  have HL := Lib.hid hL; clear hL ok
  generalize (Os.st q t n m).exp = X at *
  have hS := bx_new w a m cap E C
  go_enter Try.func52, Try.ntmps52
  go_wp2_with fail
  generalize w.alloc (.cells #[.slice a m cap, .int .i64 E, .int .i64 C] 68) = w0 at hS ⊢
  have hw1 : IntKind.i64.wrap (X - m) = X - m := i64w_in _ (by omega) (by omega)
  go_region_held3 (fun W => W.cell? ⟨w.heap.size, 0, none⟩ = some (.slice a m cap) ∧ W.cell? ⟨w.heap.size, 1, none⟩ = some (.int .i64 E) ∧ W.cell? ⟨w.heap.size, 2, none⟩ = some (.int .i64 C) ∧ Below w.heap.size w W ∧ w.heap.size < W.heap.size)
    (first | with_reducible assumption | with_reducible exact bx_drew (by with_reducible assumption) | with_reducible exact bx_below (by with_reducible assumption) (by with_reducible assumption))
    (first | (go_at_call 55; refine (HW.out _ (bx_b (by assumption))).mono ?_; rintro e w2 ⟨rfl, hb2⟩))
  all_goals go_wp2
  all_goals go_ret
  all_goals refine ⟨ret_int ?_, bx_b (by assumption)⟩
  all_goals (rw [HL.out]; unfold Rep.clampL; (try simp only [i32w]); omega)
set_option maxRecDepth 100000 in
theorem reffrac_any (hE : 0 ≤ E ∧ E ≤ 40000000) (hC : 0 ≤ C ∧ C ≤ 1000) : Calls Try.prog 51 #[.agg #[.slice a m cap, .int .i64 E, .int .i64 C]] w (RePost (.int .i64 (Rep.frac ((Os.st q t n m).exp - E) (m - C))) w) := by
  have ok := Os.ok q t n m (fun i hi => wf_u16 (H.rq i hi)) (by omega) m (Nat.le_refl _)
  obtain ⟨x1, x2, _, _⟩ := ok.exp_bd
  obtain ⟨e1, e2⟩ := hE
  obtain ⟨k1, k2⟩ := hC
  have HW : Hid (∀ W, Below w.heap.size w W → Calls Try.prog 55 #[.agg #[.slice a m cap, .int .i64 E, .int .i64 C]] W (RePost (.int .i64 (Os.st q t n m).exp) W)) := Lib.hid fun W hW => refexp_any a g m cap q t n E C W (H.below hW) hm
  clear ok
  generalize (Os.st q t n m).exp = X at *
  obtain ⟨D, hD⟩ : ∃ D, D = X - E := ⟨_, rfl⟩
  obtain ⟨R, hR⟩ : ∃ R : Int, R = m - C := ⟨_, rfl⟩
  obtain ⟨L, hL⟩ : ∃ L, L = D - R := ⟨_, rfl⟩
  have v1 : IntKind.i64.wrap (X - E) = D := by rw [hD]; exact i64w_in _ (by omega) (by omega)
  have v2 : IntKind.i64.wrap ((m : Int) - C) = R := by rw [hR]; exact i64w_in _ (by omega) (by omega)
  have v3 : IntKind.i64.wrap (D - R) = L := by rw [hL]; exact i64w_in _ (by omega) (by omega)
  obtain ⟨P, hP⟩ : ∃ P, P = L * 256 := ⟨_, rfl⟩
  have v4 : IntKind.i64.wrap (L * 256) = P := by rw [hP]; exact i64w_in _ (by omega) (by omega)
  obtain ⟨Q, hQ⟩ : ∃ Q, Q = P.tdiv D := ⟨_, rfl⟩
  have hQb : Q.natAbs ≤ P.natAbs := by rw [hQ]; exact Int.natAbs_tdiv_le_natAbs _ _
  have v5 : IntKind.i64.wrap Q = Q := i64w_in _ (by omega) (by omega)
  have hF : Rep.frac (X - E) (m - C) = if D ≤ 0 then 0 else if L ≤ 0 then 0 else min Q 255 := by
    unfold Rep.frac
    rw [← hD, ← hR, ← hL, ← hP]
    by_cases h1 : D ≤ 0
    · rw [if_pos h1, if_pos h1]
    · rw [if_neg h1, if_neg h1, ← hQ]
      by_cases h2 : L ≤ 0
      · rw [if_pos h2]
        have : Q ≤ 0 := by
          rw [hQ, show P = -(-P) by omega, Int.neg_tdiv]
          have := Int.tdiv_nonneg (show 0 ≤ -P by omega) (show 0 ≤ D by omega)
          omega
        omega
      · rw [if_neg h2]
        have : 0 ≤ Q := by rw [hQ]; exact Int.tdiv_nonneg (by omega) (by omega)
        omega
  rw [hF]
  obtain ⟨Fv, hFv⟩ : ∃ Fv, Fv = (if D ≤ 0 then 0 else if L ≤ 0 then 0 else min Q 255) := ⟨_, rfl⟩
  rw [← hFv]
  have HFv := Lib.hid hFv; clear hFv
  have hQ' : P.tdiv D = Q := hQ.symm
  clear hQ hF hD hR hL hQb hP x1 x2
  have hS := bx_new w a m cap E C
  go_enter Try.func51, Try.ntmps51
  go_wp2_with fail
  generalize w.alloc (.cells #[.slice a m cap, .int .i64 E, .int .i64 C] 68) = w0 at hS ⊢
  go_region_held3 (fun W => W.cell? ⟨w.heap.size, 0, none⟩ = some (.slice a m cap) ∧ W.cell? ⟨w.heap.size, 1, none⟩ = some (.int .i64 E) ∧ W.cell? ⟨w.heap.size, 2, none⟩ = some (.int .i64 C) ∧ Below w.heap.size w W ∧ w.heap.size < W.heap.size)
    (first | with_reducible assumption | with_reducible exact bx_drew (by with_reducible assumption) | with_reducible exact bx_below (by with_reducible assumption) (by with_reducible assumption))
    (first | (go_at_call 55; refine (HW.out _ (bx_b (by assumption))).mono ?_; rintro e w2 ⟨rfl, hb2⟩))
  have hS2 := bx_b (by assumption)
  rename_i hHeld
  obtain ⟨y0, y1, y2, y3, y4⟩ := hHeld
  by_cases h1 : D ≤ 0
  · go_wp2
    all_goals go_ret
    all_goals exact ⟨ret_int (by rw [HFv.out, if_pos (by omega)]), hS2⟩
  have hne : ¬ D = 0 := by omega
  have hne' : (D == 0) = false := by simpa using hne
  by_cases h2 : L ≤ 0
  · go_wp2
    all_goals go_ret
    all_goals exact ⟨ret_int (by rw [HFv.out, if_neg (by omega), if_pos (by omega)]), hS2⟩
  by_cases h3 : 255 < Q
  · go_wp2
    all_goals go_ret
    all_goals exact ⟨ret_int (by rw [HFv.out, if_neg (by omega), if_neg (by omega)]; omega), hS2⟩
  · go_wp2
    all_goals go_ret
    all_goals exact ⟨ret_int (by rw [HFv.out, if_neg (by omega), if_neg (by omega)]; omega), hS2⟩
end
end Go.Proofs.Ytpannhbmelcpfab
