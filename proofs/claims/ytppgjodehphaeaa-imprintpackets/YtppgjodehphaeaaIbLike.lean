
/-
  confluxlaw12.like.
-/
import Derived.Test.YtppgjodehphaeaaIbRef
import Derived.Deep.QuietTactic
namespace Go.Proofs.Ytppgjodehphaeaa
open Go.RowKit Go.Shelf
set_option linter.unusedVariables false
set_option linter.unusedSimpArgs false
set_option maxHeartbeats 400000 in
set_option maxRecDepth 100000 in
theorem like_any (q0 q1 q2 q3 q4 q5 q6 q7 : Int) (a b b' : Option Addr) (n c m d m' d' : Nat) (la lh lb : List Int) (w : World) (ha : BAt w a n la) (hb : BAt w b m lh) (hb' : BAt w b' m' lb) (b0 : 0 ≤ q0 ∧ q0 < 256) (b1 : 0 ≤ q1 ∧ q1 < 256) (b2 : 0 ≤ q2 ∧ q2 < 256) (b3 : 0 ≤ q3 ∧ q3 < 256) (b4 : 0 ≤ q4 ∧ q4 < 256) (b5 : 0 ≤ q5 ∧ q5 < 256) (b6 : 0 ≤ q6 ∧ q6 < 256) (b7 : 0 ≤ q7 ∧ q7 < 256) :
    Calls Try.prog 10 #[.agg #[.int .u8 q0, .int .u8 q1, .int .u8 q2, .int .u8 q3, .int .u8 q4, .int .u8 q5, .int .u8 q6, .int .u8 q7, .slice a n c], .agg #[.slice b m d, .slice b' m' d']] w (ValB (.bool (decide ([q0, q1, q2, q3, q4, q5, q6, q7] = lh) && decide (la = lb))) w) := by
  obtain ⟨w1, hw1⟩ : ∃ w1, w.alloc (.cells #[.int .u8 q0, .int .u8 q1, .int .u8 q2, .int .u8 q3, .int .u8 q4, .int .u8 q5, .int .u8 q6, .int .u8 q7, .slice a n c] 27) = w1 := ⟨_, rfl⟩
  have hB1 : Below w.heap.size w w1 := by rw [← hw1]; exact (Below.refl _ w).alloc (Nat.le_refl _) _
  have hx1 : w1.heap[w.heap.size]? = some (.cells #[.int .u8 q0, .int .u8 q1, .int .u8 q2, .int .u8 q3, .int .u8 q4, .int .u8 q5, .int .u8 q6, .int .u8 q7, .slice a n c] 27 (0, 0)) := by rw [← hw1]; exact lit_new rfl
  have hbt : BAt w1 (some ⟨w.heap.size, 0, none⟩) 8 [q0, q1, q2, q3, q4, q5, q6, q7] := ⟨rfl, by omega, w.heap.size, 0, fun i hi => by
    match i, hi with
    | 0, _ => exact ⟨rfl, (Array.getElem?_eq_some_iff.1 hx1).1, by rw [cell_of_row w1 _ _ _ _ _ hx1]; rfl, b0⟩
    | 1, _ => exact ⟨rfl, (Array.getElem?_eq_some_iff.1 hx1).1, by rw [cell_of_row w1 _ _ _ _ _ hx1]; rfl, b1⟩
    | 2, _ => exact ⟨rfl, (Array.getElem?_eq_some_iff.1 hx1).1, by rw [cell_of_row w1 _ _ _ _ _ hx1]; rfl, b2⟩
    | 3, _ => exact ⟨rfl, (Array.getElem?_eq_some_iff.1 hx1).1, by rw [cell_of_row w1 _ _ _ _ _ hx1]; rfl, b3⟩
    | 4, _ => exact ⟨rfl, (Array.getElem?_eq_some_iff.1 hx1).1, by rw [cell_of_row w1 _ _ _ _ _ hx1]; rfl, b4⟩
    | 5, _ => exact ⟨rfl, (Array.getElem?_eq_some_iff.1 hx1).1, by rw [cell_of_row w1 _ _ _ _ _ hx1]; rfl, b5⟩
    | 6, _ => exact ⟨rfl, (Array.getElem?_eq_some_iff.1 hx1).1, by rw [cell_of_row w1 _ _ _ _ _ hx1]; rfl, b6⟩
    | 7, _ => exact ⟨rfl, (Array.getElem?_eq_some_iff.1 hx1).1, by rw [cell_of_row w1 _ _ _ _ _ hx1]; rfl, b7⟩⟩
  have HW1 := Lib.hid hw1
  obtain ⟨v, hv⟩ : ∃ v, w1.alloc (.cells #[.slice b m d, .slice b' m' d'] 32) = v := ⟨_, rfl⟩
  have hz1 : w1.heap.size = w.heap.size + 1 := by rw [← hw1]; simp
  have h1v : Below w1.heap.size w1 v := by rw [← hv]; exact (Below.refl _ w1).alloc (Nat.le_refl _) _
  have hxv := (h1v.block _ (Array.getElem?_eq_some_iff.1 hx1).1).trans hx1
  have hov : v.heap[w.heap.size + 1]? = some (.cells #[.slice b m d, .slice b' m' d'] 32 (0, 0)) := by rw [← hv, ← hz1]; exact lit_new rfl
  have hBV : Below w.heap.size w v := hB1.trans (h1v.mono hB1.size)
  have hws : ∀ k, Below w.heap.size w (v.drewN k) := fun k => hBV.trans ((below_drewN v _ k).mono hBV.size)
  have HS := Lib.hid (fun k => same_any _ b 8 m 8 d _ lh (v.drewN k) ((hbt.below h1v).below (below_drewN v _ k)) (hb.below (hws k)))
  have HT := Lib.hid (fun k => same_any a b' n m' c d' la lb (v.drewN k) (ha.below (hws k)) (hb'.below (hws k)))
  have c8 : v.cell? ⟨w.heap.size, 8, none⟩ = some (.slice a n c) := by rw [cell_of_row v _ 8 _ _ _ hxv]; rfl
  have d0 : v.cell? ⟨w.heap.size + 1, 0, none⟩ = some (.slice b m d) := by rw [cell_of_row v _ 0 _ _ _ hov]; rfl
  have d1 : v.cell? ⟨w.heap.size + 1, 1, none⟩ = some (.slice b' m' d') := by rw [cell_of_row v _ 1 _ _ _ hov]; rfl
  have HV := Lib.hid hv; have HBV := Lib.hid hBV
  obtain ⟨q, hq⟩ : ∃ q, (decide ([q0, q1, q2, q3, q4, q5, q6, q7] = lh) && decide (la = lb)) = q := ⟨_, rfl⟩
  rw [hq]
  have HQ := Lib.hid hq
  obtain ⟨p, hp⟩ : ∃ p, decide ([q0, q1, q2, q3, q4, q5, q6, q7] = lh) = p := ⟨_, rfl⟩
  obtain ⟨r, hr⟩ : ∃ r, decide (la = lb) = r := ⟨_, rfl⟩
  rw [hp] at HS HQ
  rw [hr] at HT HQ
  clear hq hp hr hB1 hx1 hbt hw1 hv hz1 h1v hxv hov hBV ha hb hb' hws
  have HFIN : Hid (∀ k, ValB (.bool q) w (.returned (.bool (p && r))) (v.drewN k)) := Lib.hid fun k => ⟨by rw [HQ.out], HBV.out.trans ((below_drewN v _ k).mono HBV.out.size)⟩
  clear HQ
  go_enter Try.func10, Try.ntmps10
  go_wp2_with fail
  rw [HW1.out, HV.out]
  cases p
  all_goals
    go_quiet (first | (go_at_call 12; with_reducible exact Calls.quiet_of (HS.out _)) | (go_at_call 12; with_reducible exact Calls.quiet_of (HT.out _)))
    simp only [Bool.false_and, Bool.true_and] at HFIN
    go_wp2
    go_ret
    exact HFIN.out _
end Go.Proofs.Ytppgjodehphaeaa
