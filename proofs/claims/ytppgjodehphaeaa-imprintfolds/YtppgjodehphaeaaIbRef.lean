/-
  confluxlaw12.as, confluxref12.Same and confluxref12.Add.
-/
import Derived.Test.YtppgjodehphaeaaIbSame
import Derived.Test.YtppgjodehphaeaaStrRef2
namespace Go.Proofs.Ytppgjodehphaeaa
open Go.RowKit Go.Shelf
set_option linter.unusedVariables false
set_option linter.unusedSimpArgs false
/-- The reference's imprint of the same bytes. -/
def AsOut (hs : List Int) (a : Option Addr) (n c : Nat) (w : World) (e : Ending) (w' : World) : Prop :=
  ∃ ah ch, e = .returned (.agg #[.slice ah 8 ch, .slice a n c]) ∧ Own w' w.heap.size ah 8 ch hs ∧ Below w.heap.size w w'
set_option maxHeartbeats 400000 in
set_option maxRecDepth 100000 in
theorem as_any (q0 q1 q2 q3 q4 q5 q6 q7 : Int) (a : Option Addr) (n c : Nat) (w : World) (b0 : 0 ≤ q0 ∧ q0 < 256) (b1 : 0 ≤ q1 ∧ q1 < 256) (b2 : 0 ≤ q2 ∧ q2 < 256) (b3 : 0 ≤ q3 ∧ q3 < 256) (b4 : 0 ≤ q4 ∧ q4 < 256) (b5 : 0 ≤ q5 ∧ q5 < 256) (b6 : 0 ≤ q6 ∧ q6 < 256) (b7 : 0 ≤ q7 ∧ q7 < 256) :
    Calls Try.prog 15 #[.agg #[.int .u8 q0, .int .u8 q1, .int .u8 q2, .int .u8 q3, .int .u8 q4, .int .u8 q5, .int .u8 q6, .int .u8 q7, .slice a n c]] w (AsOut [q0, q1, q2, q3, q4, q5, q6, q7] a n c w) := by
  obtain ⟨w1, hw1⟩ : ∃ w1, w.alloc (.cells #[.int .u8 q0, .int .u8 q1, .int .u8 q2, .int .u8 q3, .int .u8 q4, .int .u8 q5, .int .u8 q6, .int .u8 q7, .slice a n c] 27) = w1 := ⟨_, rfl⟩
  have hB1 : Below w.heap.size w w1 := by rw [← hw1]; exact (Below.refl _ w).alloc (Nat.le_refl _) _
  have hx1 : w1.heap[w.heap.size]? = some (.cells #[.int .u8 q0, .int .u8 q1, .int .u8 q2, .int .u8 q3, .int .u8 q4, .int .u8 q5, .int .u8 q6, .int .u8 q7, .slice a n c] 27 (0, 0)) := by rw [← hw1]; exact lit_new rfl
  have hbt : BAt w1 (some ⟨w.heap.size, 0, none⟩) 8 [q0, q1, q2, q3, q4, q5, q6, q7] := ⟨rfl, by omega, w.heap.size, 0, fun i hi => by
    match i, hi with
    | 0, _ => exact ⟨rfl, (Array.getElem?_eq_some_iff.1 hx1).1, by rw [cell_of_row w1 _ _ _ _ _ hx1]; rfl, b0⟩
    | 1, _ => exact ⟨rfl, (Array.getElem?_eq_some_iff.1 hx1).1, by rw [cell_of_row w1 _ _ _ _ _ hx1]; rfl, b1⟩
    | 2, _ => exact ⟨rfl, (Array.getElem?_eq_some_iff.1 hx1).1, by rw [cell_of_row w1 _ _ _ _ _ hx1]; rfl, b2⟩
    | 3, _ => exact ⟨rfl, (Array.getElem?_eq_some_iff.1 hx1).1, by rw [cell_of_row w1 _ _ _ _ _ hx1]; rfl, b3⟩
    | 4, _ => exact ⟨rfl, (Array.getElem?_eq_some_iff.1 hx1).1, by rw [cell_of_row w1 _ _ _ _ _ hx1]; rfl, b4⟩
    | 5, _ => exact ⟨rfl, (Array.getElem?_eq_some_iff.1 hx1).1, by rw [cell_of_row w1 _ _ _ _ _ hx1]; rfl, b5⟩
    | 6, _ => exact ⟨rfl, (Array.getElem?_eq_some_iff.1 hx1).1, by rw [cell_of_row w1 _ _ _ _ _ hx1]; rfl, b6⟩
    | 7, _ => exact ⟨rfl, (Array.getElem?_eq_some_iff.1 hx1).1, by rw [cell_of_row w1 _ _ _ _ _ hx1]; rfl, b7⟩⟩
  obtain ⟨v, hv⟩ : ∃ v, w1.alloc (.cells #[.slice none 0 0, .slice none 0 0] 32) = v := ⟨_, rfl⟩
  have hz1 : w1.heap.size = w.heap.size + 1 := by rw [← hw1]; simp
  have h1v : Below w1.heap.size w1 v := by rw [← hv]; exact (Below.refl _ w1).alloc (Nat.le_refl _) _
  have hxv : v.heap[w.heap.size]? = some (.cells #[.int .u8 q0, .int .u8 q1, .int .u8 q2, .int .u8 q3, .int .u8 q4, .int .u8 q5, .int .u8 q6, .int .u8 q7, .slice a n c] 27 (0, 0)) := (h1v.block _ (by omega)).trans hx1
  have hov : v.heap[w.heap.size + 1]? = some (.cells #[.slice none 0 0, .slice none 0 0] 32 (0, 0)) := by rw [← hv, ← hz1]; exact lit_new rfl
  have hBV : Below w.heap.size w v := hB1.trans (h1v.mono hB1.size)
  have hbd : Below v.heap.size v v.drew := (Below.refl _ v).drew
  have hbl : Below w.heap.size w v.drew := hBV.drew
  have HC := Lib.hid (copy_any _ 8 8 _ v.drew ((hbt.below h1v).below hbd) (by omega))
  have HXV := Lib.hid hxv; have HOV := Lib.hid hov
  have x8 : v.cell? ⟨w.heap.size, 8, none⟩ = some (.slice a n c) := by rw [cell_of_row v _ 8 _ _ _ hxv]; rfl
  have hvv : (w.alloc (.cells #[.int .u8 q0, .int .u8 q1, .int .u8 q2, .int .u8 q3, .int .u8 q4, .int .u8 q5, .int .u8 q6, .int .u8 q7, .slice a n c] 27)).alloc (.cells #[.slice none 0 0, .slice none 0 0] 32) = v := by rw [hw1, hv]
  have HVV := Lib.hid hvv
  clear hB1 hx1 hbt hw1 hv hz1 h1v hxv hov hBV hvv
  go_enter Try.func15, Try.ntmps15
  go_wp2_with fail
  rw [HVV.out]
  go_region_law (first
    | (go_simp; go_at_call 7; refine (HC.out).mono ?_; rintro e w3 ⟨a3, c3, rfl, hO3, hB3⟩; have hbv3 := hbd.trans hB3; have hX3 := (hbv3.block _ (Array.getElem?_eq_some_iff.1 HXV.out).1).trans HXV.out; have hO3' := (hbv3.block _ (Array.getElem?_eq_some_iff.1 HOV.out).1).trans HOV.out; have y8 : w3.cell? ⟨w.heap.size, 8, none⟩ = some (.slice a n c) := (by rw [cell_of_row w3 _ 8 _ _ _ hX3]; rfl); have o0 : w3.cell? ⟨w.heap.size + 1, 0, none⟩ = some (.slice none 0 0) := (by rw [cell_of_row w3 _ 0 _ _ _ hO3']; rfl); have o1 : w3.cell? ⟨w.heap.size + 1, 1, none⟩ = some (.slice none 0 0) := (by rw [cell_of_row w3 _ 1 _ _ _ hO3']; rfl); have of : ∀ o, w3.frozen? ⟨w.heap.size + 1, o, none⟩ = false := fun o => frozen_of_row w3 _ o _ _ hO3'; have HO3 := Lib.hid hO3; have HR3 := Lib.hid hO3'; have HB3 := Lib.hid (hbl.trans (hB3.mono hbl.size)); clear hO3 hB3 hbv3 hX3 hO3'))
  all_goals
    obtain ⟨w5, hw5⟩ : ∃ w5, (w3.setCell ⟨w.heap.size + 1, 0, none⟩ (.slice a3 8 c3)).setCell ⟨w.heap.size + 1, 1, none⟩ (.slice a n c) = w5 := ⟨_, rfl⟩
    have hr5 : w5.heap[w.heap.size + 1]? = some (.cells #[.slice a3 8 c3, .slice a n c] 32 (0, 0)) := by rw [← hw5]; exact heap_setCell_same _ _ 1 _ _ _ (heap_setCell_same w3 _ 0 _ _ _ HR3.out)
    have hg5 : w3.grownBy w5 (some (w.heap.size + 1)) := by
      rw [← hw5]
      exact ⟨rfl, rfl, rfl, by simp, fun j _ hj => (Below.heap_setCell _ _ _ j (fun e => hj (by rw [e]))).trans (Below.heap_setCell w3 _ _ j (fun e => hj (by rw [e])))⟩
    have hvs : w.heap.size + 1 < v.drew.heap.size := (Array.getElem?_eq_some_iff.1 ((hbd.block _ (Array.getElem?_eq_some_iff.1 HOV.out).1).trans HOV.out)).1
    have hO5 : Own w5 w.heap.size a3 8 c3 [q0, q1, q2, q3, q4, q5, q6, q7] := by
      have h1 : Own w5 v.drew.heap.size a3 8 c3 [q0, q1, q2, q3, q4, q5, q6, q7] := ⟨HO3.out.row.kept (row := some (w.heap.size + 1)) hg5 (by
        cases h : a3 with
        | none => exact .inl rfl
        | some x => exact .inr (fun e => by
            have h2 := (HO3.out.blk x h).1
            have h3 : x.block = w.heap.size + 1 := by simpa [Value.ownBlock] using e
            omega)), HO3.out.ok⟩
      exact h1.mono (by omega)
    have hB5 : Below w.heap.size w w5 := HB3.out.grown hg5 HB3.out.size (fun k e => by cases e; omega)
    have k0 : w5.cell? ⟨w.heap.size + 1, 0, none⟩ = some (.slice a3 8 c3) := by rw [cell_of_row w5 _ 0 _ _ _ hr5]; rfl
    have k1 : w5.cell? ⟨w.heap.size + 1, 1, none⟩ = some (.slice a n c) := by rw [cell_of_row w5 _ 1 _ _ _ hr5]; rfl
    have HFIN : Hid (AsOut [q0, q1, q2, q3, q4, q5, q6, q7] a n c w (.returned (.agg #[.slice a3 8 c3, .slice a n c])) w5) := Lib.hid ⟨a3, c3, rfl, hO5, hB5⟩
    rw [hw5]
    clear hw5 hr5 hg5 hvs hO5 hB5 o0 o1 of y8 x8
    go_wp2
    exact bodyPost_ret (v := .agg #[.slice a3 8 c3, .slice a n c]) (by simp [results, Try.results15, k0, k1, go_sem]) rfl HFIN.out
end Go.Proofs.Ytppgjodehphaeaa
namespace Go.Proofs.Ytppgjodehphaeaa
open Go.RowKit Go.Shelf
set_option linter.unusedVariables false
set_option linter.unusedSimpArgs false
set_option maxHeartbeats 400000 in
set_option maxRecDepth 100000 in
theorem rsame12_any (a b a' b' : Option Addr) (n m c d n' m' c' d' : Nat) (la lb la' lb' : List Int) (w : World) (ha : BAt w a n la) (hb : BAt w b m lb) (ha' : BAt w a' n' la') (hb' : BAt w b' m' lb') (hm : m ≤ 140737488355328) (hm' : m' ≤ 140737488355328) :
    Calls Try.prog 20 #[.agg #[.slice a n c, .slice b m d], .agg #[.slice a' n' c', .slice b' m' d']] w (ValB (.bool (decide (la = la') && decide (Str.gap lb lb' < 0))) w) := by
  have HS := Lib.hid (fun W (h : Below w.heap.size w W) => same_any a a' n n' c c' la la' W (ha.below h) (ha'.below h))
  have HG := Lib.hid (fun W (h : Below w.heap.size w W) => rgap_any b b' m m' d d' lb lb' W (hb.below h) (hb'.below h) hm hm')
  clear ha hb ha' hb'
  obtain ⟨v, hv⟩ : ∃ v, (w.alloc (.cells #[.slice a n c, .slice b m d] 32)).alloc (.cells #[.slice a' n' c', .slice b' m' d'] 32) = v := ⟨_, rfl⟩
  have hB1 : Below w.heap.size w (w.alloc (.cells #[.slice a n c, .slice b m d] 32)) := (Below.refl _ w).alloc (Nat.le_refl _) _
  have hB2 : Below (w.heap.size + 1) (w.alloc (.cells #[.slice a n c, .slice b m d] 32)) v := by
    rw [← hv]
    exact ((Below.refl _ _).alloc (by simp) _)
  have hx1 : v.heap[w.heap.size]? = some (.cells #[.slice a n c, .slice b m d] 32 (0, 0)) := (hB2.block _ (by omega)).trans (lit_new rfl)
  have hx2 : v.heap[w.heap.size + 1]? = some (.cells #[.slice a' n' c', .slice b' m' d'] 32 (0, 0)) := by rw [← hv]; exact lit_new (by simp)
  have hBv : Below w.heap.size w v := hB1.trans (hB2.mono (by omega))
  have HK : Hid (∀ W, Below v.heap.size v W → W.cell? ⟨w.heap.size, 0, none⟩ = some (.slice a n c) ∧ W.cell? ⟨w.heap.size, 1, none⟩ = some (.slice b m d) ∧ W.cell? ⟨w.heap.size + 1, 0, none⟩ = some (.slice a' n' c') ∧ W.cell? ⟨w.heap.size + 1, 1, none⟩ = some (.slice b' m' d')) := Lib.hid fun W hW => by
    have h1 := (hW.block _ (Array.getElem?_eq_some_iff.1 hx1).1).trans hx1
    have h2 := (hW.block _ (Array.getElem?_eq_some_iff.1 hx2).1).trans hx2
    refine ⟨?_, ?_, ?_, ?_⟩
    · rw [cell_of_row W _ 0 _ _ _ h1]; rfl
    · rw [cell_of_row W _ 1 _ _ _ h1]; rfl
    · rw [cell_of_row W _ 0 _ _ _ h2]; rfl
    · rw [cell_of_row W _ 1 _ _ _ h2]; rfl
  have HV := Lib.hid hv; have HBV := Lib.hid hBv
  clear hv hx1 hx2 hB1 hB2 hBv
  obtain ⟨q, hq⟩ : ∃ q, (decide (la = la') && decide (Str.gap lb lb' < 0)) = q := ⟨_, rfl⟩
  rw [hq]
  have HQ := Lib.hid hq; clear hq
  generalize Str.gap lb lb' = G at *
  go_enter Try.func20, Try.ntmps20
  go_wp2_with fail
  rw [HV.out]
  refine (HS.out _ HBV.out).mono ?_
  rintro e w2 ⟨rfl, k2, rfl⟩
  have HB2 := Lib.hid (HBV.out.trans ((below_drewN v _ k2).mono HBV.out.size))
  obtain ⟨z0, z1, z2, z3⟩ := HK.out _ (below_drewN v _ k2)
  clear HS
  by_cases hl : la = la'
  · rw [decide_eq_true hl]
    have HQ := Lib.hid (show decide (G < 0) = q by rw [← HQ.out, decide_eq_true hl, Bool.true_and])
    go_wp2_with fail
    refine (HG.out _ HB2.out).mono ?_
    rintro e w3 ⟨rfl, rfl⟩
    have HF : Hid (ValB (.bool q) w (.returned (.bool (decide (G < 0)))) (v.drewN k2)) := Lib.hid ⟨by rw [HQ.out], HB2.out⟩
    clear hl HQ
    go_wp2
    go_ret
    exact HF.out
  · rw [decide_eq_false hl]
    have hqf : q = false := by rw [← HQ.out, decide_eq_false hl, Bool.false_and]
    subst hqf
    clear hl
    go_wp2_with fail
    go_ret
    exact ⟨rfl, HB2.out⟩
def RAddOut (h b : List Int) (w : World) (e : Ending) (w' : World) : Prop :=
  ∃ ah ch ab cb, e = .returned (.agg #[.slice ah h.length ch, .slice ab b.length cb]) ∧ Own w' w.heap.size ah h.length ch h ∧ Own w' w.heap.size ab b.length cb b ∧ Below w.heap.size w w'
/-- The boxes of Add's two imprints and of its answer. -/
def RSt (w : World) (a b a' b' : Option Addr) (n m c d n' m' c' d' : Nat) (W : World) : Prop :=
  W.heap[w.heap.size]? = some (.cells #[.slice a n c, .slice b m d] 32 (0, 0)) ∧ W.heap[w.heap.size + 1]? = some (.cells #[.slice a' n' c', .slice b' m' d'] 32 (0, 0)) ∧ (∃ x y, W.heap[w.heap.size + 2]? = some (.cells #[x, y] 32 (0, 0))) ∧ Below w.heap.size w W
theorem RSt.below {w : World} {a b a' b' : Option Addr} {n m c d n' m' c' d' : Nat} {W W' : World} (h : RSt w a b a' b' n m c d n' m' c' d' W) (hb : Below W.heap.size W W') : RSt w a b a' b' n m c d n' m' c' d' W' := by
  obtain ⟨h1, h2, ⟨x, y, h3⟩, h4⟩ := h
  exact ⟨(hb.block _ (Array.getElem?_eq_some_iff.1 h1).1).trans h1, (hb.block _ (Array.getElem?_eq_some_iff.1 h2).1).trans h2, ⟨x, y, (hb.block _ (Array.getElem?_eq_some_iff.1 h3).1).trans h3⟩, h4.trans (hb.mono h4.size)⟩
theorem RSt.drew {w : World} {a b a' b' : Option Addr} {n m c d n' m' c' d' : Nat} {W : World} (h : RSt w a b a' b' n m c d n' m' c' d' W) : RSt w a b a' b' n m c d n' m' c' d' W.drew := h.below (Below.refl _ W).drew
theorem RSt.store {w : World} {a b a' b' : Option Addr} {n m c d n' m' c' d' : Nat} {W : World} (h : RSt w a b a' b' n m c d n' m' c' d' W) (x y : Value) : RSt w a b a' b' n m c d n' m' c' d' ((W.setCell ⟨w.heap.size + 2, 0, none⟩ x).setCell ⟨w.heap.size + 2, 1, none⟩ y) := by
  obtain ⟨h1, h2, ⟨x', y', h3⟩, h4⟩ := h
  refine ⟨?_, ?_, ⟨x, y, ?_⟩, (h4.setCell (by show _ ≤ w.heap.size + 2; omega) _).setCell (by show _ ≤ w.heap.size + 2; omega) _⟩
  · rw [Below.heap_setCell _ _ _ _ (by simp), Below.heap_setCell _ _ _ _ (by simp)]; exact h1
  · rw [Below.heap_setCell _ _ _ _ (by simp), Below.heap_setCell _ _ _ _ (by simp)]; exact h2
  · exact heap_setCell_same _ _ 1 _ _ _ (heap_setCell_same W _ 0 _ _ _ h3)
theorem RSt.cs {w : World} {a b a' b' : Option Addr} {n m c d n' m' c' d' : Nat} {W : World} (h : RSt w a b a' b' n m c d n' m' c' d' W) : W.cell? ⟨w.heap.size, 0, none⟩ = some (.slice a n c) ∧ W.cell? ⟨w.heap.size, 1, none⟩ = some (.slice b m d) ∧ W.cell? ⟨w.heap.size + 1, 0, none⟩ = some (.slice a' n' c') ∧ W.cell? ⟨w.heap.size + 1, 1, none⟩ = some (.slice b' m' d') := by
  obtain ⟨h1, h2, _, _⟩ := h
  refine ⟨?_, ?_, ?_, ?_⟩
  · rw [cell_of_row W _ 0 _ _ _ h1]; rfl
  · rw [cell_of_row W _ 1 _ _ _ h1]; rfl
  · rw [cell_of_row W _ 0 _ _ _ h2]; rfl
  · rw [cell_of_row W _ 1 _ _ _ h2]; rfl
theorem RSt.lt {w : World} {a b a' b' : Option Addr} {n m c d n' m' c' d' : Nat} {W : World} (h : RSt w a b a' b' n m c d n' m' c' d' W) : w.heap.size + 2 < W.heap.size := by
  obtain ⟨_, _, ⟨x, y, h3⟩, _⟩ := h
  exact (Array.getElem?_eq_some_iff.1 h3).1
theorem Own.put2 {W : World} {P base base' : Nat} {a : Option Addr} {n c : Nat} {l : List Int} (h : Own W base a n c l) (hp : P < base) (hb : base' ≤ base) (x y : Value) : Own ((W.setCell ⟨P, 0, none⟩ x).setCell ⟨P, 1, none⟩ y) base' a n c l := by
  have hg : W.grownBy ((W.setCell ⟨P, 0, none⟩ x).setCell ⟨P, 1, none⟩ y) (some P) := ⟨rfl, rfl, rfl, by simp, fun j _ hj => (Below.heap_setCell _ _ _ j (fun e => hj (by rw [e]))).trans (Below.heap_setCell W _ _ j (fun e => hj (by rw [e])))⟩
  refine Own.mono (base := base) ⟨h.row.kept (row := some P) hg ?_, h.ok⟩ hb
  cases h' : a with
  | none => exact .inl rfl
  | some x => exact .inr (fun e => by
      have h2 := (h.blk x h').1
      have h3 : x.block = P := by simpa [Value.ownBlock] using e
      omega)
theorem RSt.out {w : World} {a b a' b' : Option Addr} {n m c d n' m' c' d' : Nat} {W : World} (h : RSt w a b a' b' n m c d n' m' c' d' W) : ∃ x y, W.cell? ⟨w.heap.size + 2, 0, none⟩ = some x ∧ W.cell? ⟨w.heap.size + 2, 1, none⟩ = some y ∧ ∀ o, W.frozen? ⟨w.heap.size + 2, o, none⟩ = false := by
  obtain ⟨_, _, ⟨x, y, h3⟩, _⟩ := h
  refine ⟨x, y, ?_, ?_, fun o => frozen_of_row W _ o _ _ h3⟩
  · rw [cell_of_row W _ 0 _ _ _ h3]; rfl
  · rw [cell_of_row W _ 1 _ _ _ h3]; rfl
set_option maxHeartbeats 400000 in
set_option maxRecDepth 100000 in
theorem radd12_any (a b a' b' : Option Addr) (n m c d n' m' c' d' : Nat) (la lb la' lb' : List Int) (w : World) (ha : BAt w a n la) (hb : BAt w b m lb) (ha' : BAt w a' n' la') (hb' : BAt w b' m' lb') (hn : n ≤ 140737488355328) (hn' : n' ≤ 140737488355328) (hm : m ≤ 140737488355328) (hm' : m' ≤ 140737488355328) :
    Calls Try.prog 17 #[.agg #[.slice a n c, .slice b m d], .agg #[.slice a' n' c', .slice b' m' d']] w (RAddOut (Str.xor la la') (Str.xor lb lb') w) := by
  have HX := Lib.hid (fun W (h : Below w.heap.size w W) => rxor_any a a' n n' c c' la la' W (ha.below h) (ha'.below h) hn hn')
  have HY := Lib.hid (fun W (h : Below w.heap.size w W) => rxor_any b b' m m' d d' lb lb' W (hb.below h) (hb'.below h) hm hm')
  have HL := Lib.hid (show max n n' = (Str.xor la la').length by rw [Str.xor_len, ha.len, ha'.len])
  have HM := Lib.hid (show max m m' = (Str.xor lb lb').length by rw [Str.xor_len, hb.len, hb'.len])
  clear ha hb ha' hb'
  obtain ⟨u1, hu1⟩ : ∃ u, w.alloc (.cells #[.slice a n c, .slice b m d] 32) = u := ⟨_, rfl⟩
  obtain ⟨u2, hu2⟩ : ∃ u, u1.alloc (.cells #[.slice a' n' c', .slice b' m' d'] 32) = u := ⟨_, rfl⟩
  obtain ⟨v, hv⟩ : ∃ u, u2.alloc (.cells #[.slice none 0 0, .slice none 0 0] 32) = u := ⟨_, rfl⟩
  have e1 : u1.heap.size = w.heap.size + 1 := by rw [← hu1]; simp
  have e2 : u2.heap.size = w.heap.size + 1 + 1 := by rw [← hu2]; simp [e1]
  have h1 : Below w.heap.size w u1 := by rw [← hu1]; exact (Below.refl _ w).alloc (Nat.le_refl _) _
  have h2 : Below u1.heap.size u1 u2 := by rw [← hu2]; exact (Below.refl _ u1).alloc (Nat.le_refl _) _
  have h3 : Below u2.heap.size u2 v := by rw [← hv]; exact (Below.refl _ u2).alloc (Nat.le_refl _) _
  have hx1 : u1.heap[w.heap.size]? = some (.cells #[.slice a n c, .slice b m d] 32 (0, 0)) := by rw [← hu1]; exact lit_new rfl
  have hx1v : v.heap[w.heap.size]? = some (.cells #[.slice a n c, .slice b m d] 32 (0, 0)) := (h3.block _ (by omega)).trans ((h2.block _ (by omega)).trans hx1)
  have hx2 : u2.heap[w.heap.size + 1]? = some (.cells #[.slice a' n' c', .slice b' m' d'] 32 (0, 0)) := by rw [← hu2, ← e1]; exact lit_new rfl
  have hx2v : v.heap[w.heap.size + 1]? = some (.cells #[.slice a' n' c', .slice b' m' d'] 32 (0, 0)) := (h3.block _ (by omega)).trans hx2
  have hx3 : v.heap[w.heap.size + 1 + 1]? = some (.cells #[.slice none 0 0, .slice none 0 0] 32 (0, 0)) := by rw [← hv, ← e2]; exact lit_new rfl
  have hBv : Below w.heap.size w v := h1.trans ((h2.mono (by omega)).trans (h3.mono (by omega)))
  have hvv : ((w.alloc (.cells #[.slice a n c, .slice b m d] 32)).alloc (.cells #[.slice a' n' c', .slice b' m' d'] 32)).alloc (.cells #[.slice none 0 0, .slice none 0 0] 32) = v := by rw [hu1, hu2, hv]
  have HST : Hid (RSt w a b a' b' n m c d n' m' c' d' v) := Lib.hid ⟨hx1v, hx2v, ⟨_, _, hx3⟩, hBv⟩
  have HVV := Lib.hid hvv
  have DR : Hid (∀ W, (W.cell? ⟨w.heap.size, 0, none⟩ = some (.slice a n c) ∧ W.cell? ⟨w.heap.size, 1, none⟩ = some (.slice b m d) ∧ W.cell? ⟨w.heap.size + 1, 0, none⟩ = some (.slice a' n' c') ∧ W.cell? ⟨w.heap.size + 1, 1, none⟩ = some (.slice b' m' d')) ∧ RSt w a b a' b' n m c d n' m' c' d' W → (W.drew.cell? ⟨w.heap.size, 0, none⟩ = some (.slice a n c) ∧ W.drew.cell? ⟨w.heap.size, 1, none⟩ = some (.slice b m d) ∧ W.drew.cell? ⟨w.heap.size + 1, 0, none⟩ = some (.slice a' n' c') ∧ W.drew.cell? ⟨w.heap.size + 1, 1, none⟩ = some (.slice b' m' d')) ∧ RSt w a b a' b' n m c d n' m' c' d' W.drew) := Lib.hid fun W h => ⟨h.2.drew.cs, h.2.drew⟩
  have MK : Hid (∀ W W', Below W.heap.size W W' → (W.cell? ⟨w.heap.size, 0, none⟩ = some (.slice a n c) ∧ W.cell? ⟨w.heap.size, 1, none⟩ = some (.slice b m d) ∧ W.cell? ⟨w.heap.size + 1, 0, none⟩ = some (.slice a' n' c') ∧ W.cell? ⟨w.heap.size + 1, 1, none⟩ = some (.slice b' m' d')) ∧ RSt w a b a' b' n m c d n' m' c' d' W → (W'.cell? ⟨w.heap.size, 0, none⟩ = some (.slice a n c) ∧ W'.cell? ⟨w.heap.size, 1, none⟩ = some (.slice b m d) ∧ W'.cell? ⟨w.heap.size + 1, 0, none⟩ = some (.slice a' n' c') ∧ W'.cell? ⟨w.heap.size + 1, 1, none⟩ = some (.slice b' m' d')) ∧ RSt w a b a' b' n m c d n' m' c' d' W') := Lib.hid fun W W' hb h => ⟨(h.2.below hb).cs, h.2.below hb⟩
  have PS : Hid (∀ W x y, (W.cell? ⟨w.heap.size, 0, none⟩ = some (.slice a n c) ∧ W.cell? ⟨w.heap.size, 1, none⟩ = some (.slice b m d) ∧ W.cell? ⟨w.heap.size + 1, 0, none⟩ = some (.slice a' n' c') ∧ W.cell? ⟨w.heap.size + 1, 1, none⟩ = some (.slice b' m' d')) ∧ RSt w a b a' b' n m c d n' m' c' d' W → (((W.setCell ⟨w.heap.size + 2, 0, none⟩ x).setCell ⟨w.heap.size + 2, 1, none⟩ y).cell? ⟨w.heap.size, 0, none⟩ = some (.slice a n c) ∧ ((W.setCell ⟨w.heap.size + 2, 0, none⟩ x).setCell ⟨w.heap.size + 2, 1, none⟩ y).cell? ⟨w.heap.size, 1, none⟩ = some (.slice b m d) ∧ ((W.setCell ⟨w.heap.size + 2, 0, none⟩ x).setCell ⟨w.heap.size + 2, 1, none⟩ y).cell? ⟨w.heap.size + 1, 0, none⟩ = some (.slice a' n' c') ∧ ((W.setCell ⟨w.heap.size + 2, 0, none⟩ x).setCell ⟨w.heap.size + 2, 1, none⟩ y).cell? ⟨w.heap.size + 1, 1, none⟩ = some (.slice b' m' d')) ∧ RSt w a b a' b' n m c d n' m' c' d' ((W.setCell ⟨w.heap.size + 2, 0, none⟩ x).setCell ⟨w.heap.size + 2, 1, none⟩ y)) := Lib.hid fun W x y h => ⟨(h.2.store x y).cs, h.2.store x y⟩
  have hS0 := And.intro HST.out.cs HST.out
  have HX2 := Lib.hid (fun W (h : (W.cell? ⟨w.heap.size, 0, none⟩ = some (.slice a n c) ∧ W.cell? ⟨w.heap.size, 1, none⟩ = some (.slice b m d) ∧ W.cell? ⟨w.heap.size + 1, 0, none⟩ = some (.slice a' n' c') ∧ W.cell? ⟨w.heap.size + 1, 1, none⟩ = some (.slice b' m' d')) ∧ RSt w a b a' b' n m c d n' m' c' d' W) => Calls.mono (HX.out W h.2.2.2.2) (fun e w' hp => (And.intro hp h.2.lt : NewB (max n n') (Str.xor la la') W e w' ∧ w.heap.size + 2 < W.heap.size)))
  have HY2 := Lib.hid (fun W (h : (W.cell? ⟨w.heap.size, 0, none⟩ = some (.slice a n c) ∧ W.cell? ⟨w.heap.size, 1, none⟩ = some (.slice b m d) ∧ W.cell? ⟨w.heap.size + 1, 0, none⟩ = some (.slice a' n' c') ∧ W.cell? ⟨w.heap.size + 1, 1, none⟩ = some (.slice b' m' d')) ∧ RSt w a b a' b' n m c d n' m' c' d' W) => Calls.mono (HY.out W h.2.2.2.2) (fun e w' hp => (And.intro hp h.2.lt : NewB (max m m') (Str.xor lb lb') W e w' ∧ w.heap.size + 2 < W.heap.size)))
  clear hu1 hu2 hv e1 e2 h1 h2 h3 hx1 hx1v hx2 hx2v hx3 hBv hvv HX HY
  go_enter Try.func17, Try.ntmps17
  go_wp2_with fail
  rw [HVV.out]
  go_region_held3 (fun W : World => (W.cell? ⟨w.heap.size, 0, none⟩ = some (.slice a n c) ∧ W.cell? ⟨w.heap.size, 1, none⟩ = some (.slice b m d) ∧ W.cell? ⟨w.heap.size + 1, 0, none⟩ = some (.slice a' n' c') ∧ W.cell? ⟨w.heap.size + 1, 1, none⟩ = some (.slice b' m' d')) ∧ RSt w a b a' b' n m c d n' m' c' d' W) (first | with_reducible assumption | with_reducible exact DR.out _ (by with_reducible assumption) | with_reducible exact MK.out _ _ hB (by with_reducible assumption) | with_reducible exact PS.out _ _ _ (by with_reducible assumption))
    (first
      | (go_at_call 38
         (with_reducible refine (HX2.out _ (by with_reducible assumption)).mono ?_)
         rintro e w3 ⟨⟨a3, c3, rfl, hO3, hB⟩, hlt3⟩
         have hB3 := hB)
      | (go_at_call 38
         (with_reducible refine (HY2.out _ (by with_reducible assumption)).mono ?_)
         rintro e w4 ⟨⟨a4, c4, rfl, hO4, hB⟩, hlt4⟩
         have hB4 := hB
         have hst4 := MK.out _ _ hB4 (by with_reducible assumption)
         obtain ⟨ox, oy, o0, o1, of⟩ := hst4.2.out))
  have hO3w := (hO3.below hB4).put2 (P := w.heap.size + 2) hlt3 (show w.heap.size ≤ _ by omega) (.slice a3 (max n n') c3) (.slice a4 (max m m') c4)
  have hO4w := hO4.put2 (P := w.heap.size + 2) hlt4 (show w.heap.size ≤ _ by omega) (.slice a3 (max n n') c3) (.slice a4 (max m m') c4)
  obtain ⟨x', y', h3'⟩ := hst4.2.2.2.1
  have hr5 : ((w4.setCell ⟨w.heap.size + 2, 0, none⟩ (.slice a3 (max n n') c3)).setCell ⟨w.heap.size + 2, 1, none⟩ (.slice a4 (max m m') c4)).heap[w.heap.size + 2]? = some (.cells #[.slice a3 (max n n') c3, .slice a4 (max m m') c4] 32 (0, 0)) := heap_setCell_same _ _ 1 _ _ _ (heap_setCell_same w4 _ 0 _ _ _ h3')
  have hb5 := (hst4.2.store (.slice a3 (max n n') c3) (.slice a4 (max m m') c4)).2.2.2
  obtain ⟨w5, hw5⟩ : ∃ w5, (w4.setCell ⟨w.heap.size + 2, 0, none⟩ (.slice a3 (max n n') c3)).setCell ⟨w.heap.size + 2, 1, none⟩ (.slice a4 (max m m') c4) = w5 := ⟨_, rfl⟩
  rw [show w.heap.size + 1 + 1 = w.heap.size + 2 from rfl, hw5]
  rw [hw5] at hO3w hO4w hr5 hb5
  rw [HL.out] at hO3w; rw [HM.out] at hO4w
  have k0 : w5.cell? ⟨w.heap.size + 2, 0, none⟩ = some (.slice a3 (max n n') c3) := by rw [cell_of_row w5 _ 0 _ _ _ hr5]; rfl
  have k1 : w5.cell? ⟨w.heap.size + 2, 1, none⟩ = some (.slice a4 (max m m') c4) := by rw [cell_of_row w5 _ 1 _ _ _ hr5]; rfl
  have HFIN : Hid (RAddOut (Str.xor la la') (Str.xor lb lb') w (.returned (.agg #[.slice a3 (max n n') c3, .slice a4 (max m m') c4])) w5) := Lib.hid ⟨a3, c3, a4, c4, by rw [HL.out, HM.out], hO3w, hO4w, hb5⟩
  go_wp2
  exact bodyPost_ret (v := .agg #[.slice a3 (max n n') c3, .slice a4 (max m m') c4]) (by simp [results, Try.results17, k0, k1, go_sem]) rfl HFIN.out
end Go.Proofs.Ytppgjodehphaeaa
