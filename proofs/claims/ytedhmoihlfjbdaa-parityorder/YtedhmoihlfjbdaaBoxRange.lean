
/-
  A range over an iterator (RelRange) whose variable lies in a box of its own: a new one each round.
-/
import Derived.Test.YtedhmoihlfjbdaaRelRange
namespace Go.Proofs.Ytedhmoihlfjbdaa
open Go.RowKit
set_option linter.unusedVariables false
variable {F : Fence} {n : Nat} {P : Program}
theorem wp_range_box {g : Operand} {ps : Array Tmp} {assign body : Code} {Q : Exit → Act → World → Prop} {a : Act} {w : World}
    (hro : F.round = none) (h1 : 1 ≤ n) {gf : Nat} {lb : Array Value} (hg : a.eval g = .func (.func gf) #[] lb) (hFg : F.fn gf) (eg : ∀ args w, (callFunc gf args).run P w = .ok (.enter gf args) w)
    {R : Nat → Array Value → World → World → Prop} {len m : Nat} {Pre : World → Prop} (hseq : SeqRel F (n - 1) P gf lb R len m Pre)
    (hps : ∀ k x Wp W, R k x Wp W → x.size = ps.size) (hR : ∀ x Wp, w.heap.size + 2 + m ≤ Wp.heap.size → Stays w.heap.size (w.heap.size + 2 + m) (fun k W => R k x Wp W))
    (I : Nat → World → Prop) (Ix : Code → Nat → World → Prop) (hI : Stays w.heap.size (w.heap.size + 2 + m) I) (hIx : ∀ c, Stays w.heap.size (w.heap.size + 2 + m) (Ix c)) (hP : ∀ k W, I k W → Pre W) (h0 : I 0 w) (a₁ : Array Value → World → Act) (asg : Array Value → World → World) (hasg : ∀ (x : Array Value) (W : World), W.grownBy (asg x W) none)
    (hassign : ∀ (l k : Nat) (x : Array Value) (Wp W : World) (K : Act → World → Prop), R k x Wp W → K (a₁ x W) (asg x W) →
      assign.wpIn (F.inRound l) (n - 1 - 1) P (Exit.then K (fun _ _ _ => False)) { tmps := (ps.zip x).foldl (fun t (p, v) => t.setIfInBounds p v) a.tmps, defers := [] } W)
    (hbody : ∀ (l k : Nat) (x : Array Value) (Wp Wq W : World), k < len → I k Wp → Wp.grownBy Wq none → (asg x Wq).grownBy W (some (w.heap.size + 1)) → W.heap.size = (asg x Wq).heap.size → R k x Wp W → I k W → w.heap.size + 2 + m ≤ Wp.heap.size →
      body.wpIn (F.inRound l) (n - 1 - 1) P (rowPost w.heap.size (w.heap.size + 2 + m) I Ix (k + 1) W) (a₁ x Wq) W)
    (hdone : ∀ (W : World), I len W → W.heap[w.heap.size]? = some (.deferred (some [])) → Q .normal { a with defers := { target := .collected w.heap.size, args := #[] } :: a.defers } W)
    (hstop : ∀ (c : Code) (k : Nat) (W : World), k ≤ len → Ix c k W → W.heap[w.heap.size]? = some (.deferred (some [])) → c.wpIn F n P Q { a with defers := { target := .collected w.heap.size, args := #[] } :: a.defers } W) :
    (Code.rangeFunc g ps assign body).wpIn F n P Q a w := by
  refine wpIn_rangeFunc fun fn hfn => ?_
  rw [hro]
  let rec' : LoopState → Option Code → Loop := fun st pe => { state := st, pending := pe, fn := fn, tmps := a.tmps, params := ps, assign := assign, body := body, defers := w.heap.size }
  have hW1 : ∃ W1, W1 = (w.alloc (.deferred (some []))).alloc (.loop (rec' .ready none)) := ⟨_, rfl⟩
  obtain ⟨W1, hW1⟩ := hW1
  have sz : W1.heap.size = w.heap.size + 2 := by rw [hW1]; simp
  have hL : W1.heap[w.heap.size + 1]? = some (.loop (rec' .ready none)) := by
    rw [hW1]; have := World.alloc_heap_new (w.alloc (.deferred (some []))) (.loop (rec' .ready none)); rwa [World.size_alloc] at this
  have hD : W1.heap[w.heap.size]? = some (.deferred (some [])) := by
    rw [hW1]; exact (Below.heap_alloc _ _ _ (by simp)).trans (World.alloc_heap_new w _)
  have hI1 : I 0 W1 := by rw [hW1]; exact hI.alloc _ (hI.alloc _ h0)
  refine ⟨w.heap.size + 1, [{ target := .collected w.heap.size, args := #[] }], W1, { target := .fn (.func gf) lb, args := #[.func (.yield (w.heap.size + 1)) #[] #[]] }, W1, gf,
    #[.func (.yield (w.heap.size + 1)) #[] #[]] ++ lb, W1, by rw [hW1]; exact run_enterLoop_outer _ _ _ _ _, by simp only [resolve, hg]; simp [go_sem], ?_, by simp [invoke, go_sem, eg], fun _ => h1, ?_⟩
  · intro f' hf'; simp [Target.leads] at hf'; subst hf'; exact hFg
  have st : ∀ (I' : Nat → World → Prop) (o o' : Obj), Stays w.heap.size (w.heap.size + 2 + m) I' →
      Stays W1.heap.size (W1.heap.size + m) (fun k W => I' k W ∧ W.heap[w.heap.size + 1]? = some o ∧ W.heap[w.heap.size]? = some o') := fun I' o o' hI' s A B row hs hg' hr => by
    refine ⟨hI' s A B row hs.1 hg' (fun r e => by have := hr r e; omega), ?_, ?_⟩
    · rw [hg'.block _ (Array.getElem?_eq_some_iff.1 hs.2.1).1 (fun e => by have := hr _ e.symm; omega)]; exact hs.2.1
    · rw [hg'.block _ (Array.getElem?_eq_some_iff.1 hs.2.2).1 (fun e => by have := hr _ e.symm; omega)]; exact hs.2.2
  refine (hseq (w.heap.size + 1)
    (fun k W => I k W ∧ W.heap[w.heap.size + 1]? = some (.loop (rec' .ready none)) ∧ W.heap[w.heap.size]? = some (.deferred (some [])))
    (fun k W => ∃ c, Ix c k W ∧ W.heap[w.heap.size + 1]? = some (.loop (rec' .done (some c))) ∧ W.heap[w.heap.size]? = some (.deferred (some [])))
    W1 (fun k W h => hP k W h.1) (st I _ _ hI) (fun s A B row hs hg' hr => by
      obtain ⟨c, hc⟩ := hs
      exact ⟨c, st (Ix c) _ _ (hIx c) s A B row hc hg' hr⟩) ?_ ⟨hI1, hL, hD⟩).mono ?_
  · rintro k x Wp W hx ⟨hip, hlp, hkp⟩ hpw hRx hszp
    have hi : I k W := hI k Wp W none hip hpw (fun r e => by cases e)
    have hl : W.heap[w.heap.size + 1]? = some (.loop (rec' .ready none)) := (hpw.block _ (Array.getElem?_eq_some_iff.1 hlp).1 (by simp)).trans hlp
    have hk : W.heap[w.heap.size]? = some (.deferred (some [])) := (hpw.block _ (Array.getElem?_eq_some_iff.1 hkp).1 (by simp)).trans hkp
    have hsz := Nat.le_trans hszp hpw.size
    have hy := run_yield (P := P) (args := x) hl (hps k x Wp W hRx)
    have hlt0 : w.heap.size + 1 < W.heap.size := (Array.getElem?_eq_some_iff.1 hl).1
    obtain ⟨V, hV⟩ : ∃ V, V = asg x W := ⟨_, rfl⟩
    have hga : W.grownBy V none := by rw [hV]; exact hasg x W
    have hl' : V.heap[w.heap.size + 1]? = some (.loop (rec' .ready none)) := (hga.block _ hlt0 (by simp)).trans hl
    have hk' : V.heap[w.heap.size]? = some (.deferred (some [])) := (hga.block _ (by omega) (by simp)).trans hk
    have hi' : I k V := hI k W V none hi hga (fun r e => by cases e)
    have hR' : R k x Wp V := (hR x Wp (by omega)) k W V none hRx hga (fun r e => by cases e)
    refine ⟨fn, _, assign, body, hy, roundIn_of_wpIn hfn (hassign _ k x Wp W _ hRx ⟨_, run_beginRound (hV ▸ hl') rfl, ?_⟩)⟩
    rw [← hV]
    have hlt : w.heap.size + 1 < V.heap.size := (Array.getElem?_eq_some_iff.1 hl').1
    have hbusy : ∃ Wb, Wb = V.putObj (w.heap.size + 1) (.loop { rec' .ready none with state := .busy }) := ⟨_, rfl⟩
    obtain ⟨Wb, hWb⟩ := hbusy
    have hlb : Wb.heap[w.heap.size + 1]? = some (.loop { rec' .ready none with state := .busy }) := by rw [hWb]; exact World.putObj_heap_same hlt
    have hkb : Wb.heap[w.heap.size]? = some (.deferred (some [])) := by rw [hWb]; exact (World.putObj_heap_other (by omega)).trans hk'
    have hib : I k Wb := by rw [hWb]; exact hI.put _ hi' (by omega) (by omega)
    have hRb : R k x Wp Wb := by rw [hWb]; exact (hR x Wp (by omega)).put (s := k) _ hR' (by omega) (by omega)
    have hpb : (asg x W).grownBy Wb (some (w.heap.size + 1)) := by rw [hWb, ← hV]; exact grownBy_putObj' V (w.heap.size + 1) (.loop { rec' .ready none with state := .busy })
    have hzb : Wb.heap.size = V.heap.size := by rw [hWb]; simp
    have hzv := hga.size
    have hkeep : ∀ r, w.heap.size + 2 ≤ r → r < W.heap.size → Wb.heap[r]? = W.heap[r]? := fun r hr hr2 => by rw [hWb]; exact (World.putObj_heap_other (by omega)).trans (hga.block r hr2 (by simp))
    rw [← hWb]
    refine wpIn_mono (hbody _ k x Wp W Wb hx hip hpw hpb (by rw [hzb, hV]) hRb hib (by omega)) ?_
    have fin : ∀ (jump : Option Code) (W3 : World), KeepsIn w.heap.size (w.heap.size + 2 + m) Wb W3 →
        ∃ W4, W4 = W3.putObj (w.heap.size + 1) (.loop (rec' (if jump.isNone then .ready else .done) jump)) ∧ (Instr.endRound (w.heap.size + 1) jump).run P W3 = .ok (.bool jump.isNone) W4 ∧
          W4.heap[w.heap.size + 1]? = some (.loop (rec' (if jump.isNone then .ready else .done) jump)) ∧ W4.heap[w.heap.size]? = some (.deferred (some [])) ∧ W.heap.size ≤ W4.heap.size ∧ KeepsIn W1.heap.size (W1.heap.size + m) W W4 := fun jump W3 h3 => by
      have hl3 := (h3.same (w.heap.size + 1) (by omega) (by omega)).trans hlb
      have hk3 := (h3.same w.heap.size (by omega) (by omega)).trans hkb
      refine ⟨_, rfl, run_endRound (P := P) jump hl3, World.putObj_heap_same (Array.getElem?_eq_some_iff.1 hl3).1, (World.putObj_heap_other (by omega)).trans hk3, by have := h3.size; simp; omega, by have := h3.size; simp; omega, fun r hr1 hr2 => ?_⟩
      rw [World.putObj_heap_other (by omega), h3.same r (by omega) (by omega), hkeep r (by omega) (by omega)]
    rintro e a3 W3 hp
    cases e with
    | normal =>
      obtain ⟨h3, hi3⟩ := hp
      obtain ⟨W4, rfl, hr, hl4, hk4, hq⟩ := fin none W3 h3
      exact ⟨_, _, hr, .inl ⟨rfl, ⟨hI.put _ hi3 (by omega) (by omega), hl4, hk4⟩, hq⟩⟩
    | ret =>
      obtain ⟨h3, hi3⟩ := hp
      obtain ⟨W4, rfl, hr, hl4, hk4, hq⟩ := fin (some .ret) W3 h3
      exact ⟨_, _, hr, .inr ⟨rfl, .ret, (hIx _).put _ hi3 (by omega) (by omega), hl4, hk4⟩⟩
    | exit id =>
      obtain ⟨h3, hi3⟩ := hp
      obtain ⟨W4, rfl, hr, hl4, hk4, hq⟩ := fin (some (.exit id)) W3 h3
      exact ⟨_, _, hr, .inr ⟨rfl, .exit id, (hIx _).put _ hi3 (by omega) (by omega), hl4, hk4⟩⟩
    | goto t =>
      obtain ⟨h3, hi3⟩ := hp
      obtain ⟨W4, rfl, hr, hl4, hk4, hq⟩ := fin (some (.goto t)) W3 h3
      exact ⟨_, _, hr, .inr ⟨rfl, .goto t, (hIx _).put _ hi3 (by omega) (by omega), hl4, hk4⟩⟩
    | panic ch => exact hp.elim
    | outgrown => exact hp.elim
  · rintro e W2 ⟨⟨v, rfl⟩, (⟨hi, hl, hk⟩ | ⟨k, hk', c, hi, hl, hk⟩)⟩
    · exact ⟨none, _, run_endLoop (P := P) hl (by simp [rec']), hdone _ (hI.put _ hi (by omega) (by omega)) ((World.putObj_heap_other (by omega)).trans hk)⟩
    · exact ⟨some c, _, run_endLoop (P := P) hl (by simp [rec']), hstop c k _ hk' ((hIx c).put _ hi (by omega) (by omega)) ((World.putObj_heap_other (by omega)).trans hk)⟩
end Go.Proofs.Ytedhmoihlfjbdaa
