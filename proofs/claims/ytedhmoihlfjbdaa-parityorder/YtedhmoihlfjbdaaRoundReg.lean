/-
  mask: Bits, and what the iterator gives (as SeqRel; takes MaskIter's place beside RelRange).
-/
import Derived.Test.YtedhmoihlfjbdaaMaskBits
import Derived.Test.YtedhmoihlfjbdaaRelRange
import Derived.Shelf.Abstract
import Derived.Shelf.RegionOpen
import Derived.OwnWalkIn
import Derived.TacticsInMore
import Derived.LoopNIn
import Derived.LoopIn
import Derived.OrdersIn
import Derived.TacticsIn
import Derived.RangeFuncCalls
import Derived.WalkKit
namespace Go.Proofs.Ytedhmoihlfjbdaa
open Go.RowKit Go.Shelf
set_option linter.unusedVariables false
attribute [local go_sem] Oper.semAt_some
theorem mBits_any (X : Nat) (w : World) :
    Calls Try.prog 157 #[.agg #[.int .u64 (Mk.H X), .int .u64 (Mk.L X)]] w fun e w' =>
      e = .returned (.func (.func 164) #[] #[.pointer (some ⟨w.heap.size, 0, none⟩)]) ∧ w' = w.alloc (.cells #[.int .u64 (Mk.H X), .int .u64 (Mk.L X)] 107) := by
  go_enter Try.func157, Try.ntmps157
  go_wp2
  go_ret
  exact ⟨rfl, rfl⟩
/-- The mask that lies in a block. -/
def mIn (b : Nat) (w : World) : Nat := Mk.mk (match w.cell? ⟨b, 0, none⟩ with | some v => (intOf v).toNat | none => 0) (match w.cell? ⟨b, 1, none⟩ with | some v => (intOf v).toNat | none => 0)
theorem Mk.mk_HL (X : Nat) : Mk.mk (Mk.H X) (Mk.L X) = X := by
  apply Mk.ext
  · rw [Mk.H_mk (Mk.L_lt X)]
  · rw [Mk.L_mk (Mk.L_lt X)]
theorem MAt.mIn {b X : Nat} {w : World} (h : MAt b X w) : mIn b w = X := by
  unfold Go.Proofs.Ytedhmoihlfjbdaa.mIn; rw [h.c0, h.c1]; simp only [intOf, Int.toNat_natCast]; exact Mk.mk_HL X
theorem grown_of_below {A B : World} (h : Below A.heap.size A B) : A.grownBy B none := ⟨h.os, h.tape, h.output, h.size, fun k hk _ => h.block k hk⟩
theorem MAt.same {b X : Nat} {w w' : World} (h : MAt b X w) (e : w'.heap[b]? = w.heap[b]?) : MAt b X w' :=
  ⟨(World.cell?_of_block (w := w) (a := ⟨b, 0, none⟩) e).trans h.c0, (World.cell?_of_block (w := w) (a := ⟨b, 1, none⟩) e).trans h.c1, (World.frozen?_of_block (w := w) (a := ⟨b, 0, none⟩) e).trans h.f0, (World.frozen?_of_block (w := w) (a := ⟨b, 1, none⟩) e).trans h.f1⟩
theorem MAt.new (w : World) (X t : Nat) : MAt w.heap.size X (w.alloc (.cells #[.int .u64 (Mk.H X), .int .u64 (Mk.L X)] t)) := by
  constructor <;> simp [go_sem]
theorem grown_set (w : World) (b o : Nat) (v : Value) : w.grownBy (w.setCell ⟨b, o, none⟩ v) (some b) :=
  ⟨rfl, rfl, rfl, by simp, fun k hk hne => Below.heap_setCell w ⟨b, o, none⟩ v k (fun e => hne (by rw [e]))⟩
set_option maxHeartbeats 1000000 in
theorem bits_rel (n : Nat) (hn : 1 ≤ n) (B X : Nat) (hX : Mk.Ok X) :
    SeqRel Fence.wide n Try.prog 164 #[.pointer (some ⟨B, 0, none⟩)] (fun k v _ _ => v = #[.int .i64 ((Mk.bits X).getD k 0)]) (Mk.bits X).length 1
      (fun W => W.cell? ⟨B, 0, none⟩ = some (.int .u64 (Mk.H X)) ∧ W.cell? ⟨B, 1, none⟩ = some (.int .u64 (Mk.L X))) := by
  rintro l J Jx W hP hJ hJx hY h0
  obtain ⟨c0, c1⟩ := hP 0 W h0
  clear hP
  generalize hxs : Mk.bits X = xs at *
  have HY := Lib.hid hY; clear hY
  have HJ := Lib.hid hJ; have HJx := Lib.hid hJx; clear hJ hJx
  refine callsIn_of_wp Try.func164 rfl trivial ?_ rfl
  simp only [Try.ntmps164, List.size_toArray, List.length_cons, List.length_nil, Nat.reduceAdd, Nat.reduceSub, Array.replicate_succ, Array.replicate_zero, List.push_toArray, List.append_toArray, List.nil_append, List.cons_append]
  gi_wp2
  have HM := Lib.hid (MAt.new W X 107)
  have h0' : J 0 (W.alloc (.cells #[.int .u64 (Mk.H X), .int .u64 (Mk.L X)] 107)) := HJ.out.alloc _ h0
  have hsz : W.heap.size + 1 ≤ (W.alloc (.cells #[.int .u64 (Mk.H X), .int .u64 (Mk.L X)] 107)).heap.size := by simp
  generalize W.alloc (.cells #[.int .u64 (Mk.H X), .int .u64 (Mk.L X)] 107) = W0 at HM h0' hsz ⊢
  clear h0 c0 c1
  gi_loopw [4] (fun i wr => ∃ k Xk : Nat, k ≤ xs.length ∧ Mk.Ok Xk ∧ Hid (xs.drop k = Mk.bits Xk) ∧ Hid (MAt W.heap.size Xk wr) ∧ J k wr ∧ W.heap.size + 1 ≤ wr.heap.size)
    (fun _ wr => (Mk.bits (mIn W.heap.size wr)).length)
  case atStart => exact ⟨0, X, Nat.zero_le _, hX, Lib.hid (by rw [← hxs]; rfl), HM, h0', hsz⟩
  case round =>
    clear HM h0' hsz
    obtain ⟨k, Xk, hk, hOk, HD, HM, hJk, hsz⟩ := hrel
    have HMx := HM
    by_cases hz : Xk = 0
    · subst hz
      have c0 : wr.cell? ⟨W.heap.size, 0, none⟩ = some (.int .u64 0) := HM.out.c0
      have c1 : wr.cell? ⟨W.heap.size, 1, none⟩ = some (.int .u64 0) := HM.out.c1
      have hk' : k = xs.length := by
        have := congrArg List.length HD.out; rw [Mk.bits_zero] at this; simp at this; omega
      gi_wp2
      go_end0
      exact ⟨⟨_, rfl⟩, .inl (hk' ▸ hJk)⟩
    · obtain ⟨hst, hf0, hf1, _⟩ := Mk.bits_step hz hOk
      have hx : xs[k]? = some (Mk.first Xk) := by
        have := congrArg (fun l => l[0]?) HD.out; rw [hst] at this; simpa using this
      have hdr : xs.drop (k + 1) = Mk.bits (Mk.rest Xk) := by
        have := congrArg (List.drop 1) HD.out; rw [hst, List.drop_drop] at this; simpa using this
      have hk1 : k + 1 ≤ xs.length := by
        have := (List.getElem?_eq_some_iff.1 hx).1; omega
      have c0 := HM.out.c0; have c1 := HM.out.c1
      have hq := mneq_zero Xk
      rw [show decide (Xk ≠ 0) = true by simp [hz]] at hq
      have hfst := fun w => mFirst_any Xk hOk w
      have hwo := fun w => mWithout_any Xk hOk (Mk.first Xk) (by omega) (by omega) w
      rw [show Xk ^^^ (Xk &&& Mk.one (Mk.first Xk)) = Mk.rest Xk from rfl] at hwo
      have HF := Lib.hid hfst; have HW := Lib.hid hwo; clear hfst hwo
      have hsm : (Mk.bits (Mk.rest Xk)).length < (Mk.bits Xk).length := by rw [hst]; simp
      have HSM := Lib.hid hsm; clear hsm hst
      have hro := Mk.rest_ok hOk
      have HDR := Lib.hid hdr; clear hdr
      have HX := Lib.hid hx; clear hx
      generalize hi : Mk.first Xk = i at *
      clear hi
      gi_wp2_with (first
        | (refine ⟨trivial, ?_⟩; gi_at_call 165; refine (callsIn_wide.2 (HF.out _)).mono ?_; rintro e w1 ⟨rfl, hB1⟩
           have hJ1 := HJ.out k _ _ none hJk (grown_of_below hB1) (fun r e => by cases e)
           have hM1 := HMx.out.below hB1 (by omega)
           obtain ⟨fn, tmps, assign, body, hy, hR⟩ := HY.out k #[.int .i64 i] _ w1 (by have := (List.getElem?_eq_some_iff.1 HX.out).1; exact this) hJ1 ⟨rfl, rfl, rfl, Nat.le_refl _, fun _ _ _ => rfl⟩ (by rw [List.getD_eq_getElem?_getD, HX.out]; rfl) (Nat.le_trans hsz hB1.size)
           have HM1 := Lib.hid hM1; clear hM1 hB1 hJ1
           have HR := Lib.hid hR; clear hR))
      refine HR.out.mono ?_
      clear hy HR
      rintro e W2 (⟨rfl, hJ2, _, hk2⟩ | ⟨rfl, hJx2⟩)
      · have hM2 := HM1.out.same (hk2.same W.heap.size (Nat.le_refl _) (by omega))
        have c0 := hM2.c0; have c1 := hM2.c1
        have hsz2 : W.heap.size + 1 ≤ W2.heap.size := by
          have h := hk2.same W.heap.size (Nat.le_refl _) (by omega)
          have h' := (Array.getElem?_eq_some_iff.1 (cells_of_cell c0).choose_spec.1).1
          exact h'
        have HM2 := Lib.hid hM2; clear hM2 hk2 HM1
        gi_wp2_with (first
          | (refine ⟨trivial, ?_⟩; gi_at_call 166; refine (callsIn_wide.2 (HW.out _)).mono ?_; rintro e w3 ⟨rfl, hB3⟩
             have hM3 := HM2.out.below hB3 (by omega)
             have hg3 := grown_of_below hB3
             have d0 := hM3.c0; have d1 := hM3.c1; have f0 := hM3.f0; have f1 := hM3.f1
             have HM3 := Lib.hid hM3; clear hM3 hB3))
        go_roundw
        case rel =>
          refine ⟨k + 1, Mk.rest Xk, hk1, hro, HDR, Lib.hid (HM3.out.set _), ?_, by have := hg3.size; simp; omega⟩
          have j3 := HJ.out (k + 1) _ _ none hJ2 hg3 (fun r e => by cases e)
          have j4 := HJ.out (k + 1) _ _ (some W.heap.size) j3 (grown_set w3 W.heap.size 0 (.int .u64 (Mk.H (Mk.rest Xk)))) (fun r e => by cases e; omega)
          exact HJ.out (k + 1) _ _ (some W.heap.size) j4 (grown_set _ W.heap.size 1 _) (fun r e => by cases e; omega)
        case measure =>
          rw [(HM3.out.set (Mk.rest Xk)).mIn, HMx.out.mIn]; exact HSM.out
      · gi_wp2
        refine bodyPost_ret (results_none rfl _ _ _) rfl ?_
        exact ⟨⟨_, rfl⟩, .inr ⟨k + 1, hk1, hJx2⟩⟩
end Go.Proofs.Ytedhmoihlfjbdaa
namespace Go.Proofs.Ytedhmoihlfjbdaa
open Go.RowKit
set_option linter.unusedVariables false
variable {F : Fence} {n : Nat} {P : Program}
/-- As SeqRel, but a round that says 'no more' keeps the iterator's own state, too (an iterator that is a range over another wants that): it hands out len values, one after the other, the k-th one as R says of the world ahead of its making and of the world at hand, till a round says 'no more'; its state lies in the first m blocks that it lays; in every world in which it is at work Pre holds. -/
def SeqKeep (F : Fence) (n : Nat) (P : Program) (g : Nat) (lb : Array Value) (R : Nat → Array Value → World → World → Prop) (len m : Nat) (Pre : World → Prop) : Prop :=
  ∀ (l : Nat) (J Jx : Nat → World → Prop) (W : World), (∀ k W1, J k W1 → Pre W1) → Stays W.heap.size (W.heap.size + m) J → Stays W.heap.size (W.heap.size + m) Jx →
    (∀ k v Wp W1, k < len → J k Wp → Wp.grownBy W1 none → R k v Wp W1 → W.heap.size + m ≤ Wp.heap.size → YieldAt F (n - 1) P l v W1 fun e W' =>
      (e = .returned (.bool true) ∧ J (k + 1) W' ∧ W1.heap.size ≤ W'.heap.size ∧ KeepsIn W.heap.size (W.heap.size + m) W1 W') ∨ (e = .returned (.bool false) ∧ Jx (k + 1) W' ∧ W1.heap.size ≤ W'.heap.size ∧ KeepsIn W.heap.size (W.heap.size + m) W1 W')) →
    J 0 W →
    CallsIn F n P g (#[.func (.yield l) #[] #[]] ++ lb) W fun e W' => (∃ v, e = .returned v) ∧ (J len W' ∨ ∃ k, k ≤ len ∧ Jx k W')
theorem SeqRel.keep {g : Nat} {lb : Array Value} {R : Nat → Array Value → World → World → Prop} {len m : Nat} {Pre : World → Prop} (h : SeqRel F n P g lb R len m Pre) : SeqKeep F n P g lb R len m Pre :=
  fun l J Jx W hP hJ hJx hY h0 => h l J Jx W hP hJ hJx (fun k v Wp W1 hk hp hg hR hs => (hY k v Wp W1 hk hp hg hR hs).mono fun e w h => h.imp id fun h => ⟨h.1, h.2.1⟩) h0
theorem round_any {a b l : Nat} {f : FuncId} {tmps : Array Value} {assign body : Code} {w : World} {R : Ending → World → Prop} (h : RoundIn Fence.wide a P l f tmps assign body w R) : RoundIn Fence.wide b P l f tmps assign body w R :=
  ⟨h.1, fun c cs _ => h.2 c cs (fun d hd => by cases hd)⟩
/-- A round of one depth and fence is a round of another: the wide fence bounds nothing. -/
theorem round_wide {a b l l' : Nat} {f : FuncId} {tmps : Array Value} {assign body : Code} {w : World} {R : Ending → World → Prop} (h : RoundIn Fence.wide a P l f tmps assign body w R) : RoundIn (Fence.wide.inRound l') b P l f tmps assign body w R :=
  ⟨h.1, fun c cs _ => h.2 c cs (fun d hd => by cases hd)⟩
theorem wp_range_keep {g : Operand} {ps : Array Tmp} {assign body : Code} {Q : Exit → Act → World → Prop} {a : Act} {w : World}
    (hro : F.round = none) (h1 : 1 ≤ n) {gf : Nat} {lb : Array Value} (hg : a.eval g = .func (.func gf) #[] lb) (hFg : F.fn gf) (eg : ∀ args w, (callFunc gf args).run P w = .ok (.enter gf args) w)
    {R : Nat → Array Value → World → World → Prop} {len m : Nat} {Pre : World → Prop} (hseq : SeqKeep F (n - 1) P gf lb R len m Pre)
    (hps : ∀ k x Wp W, R k x Wp W → x.size = ps.size) (hR : ∀ x Wp, w.heap.size + 2 + m ≤ Wp.heap.size → Stays w.heap.size (w.heap.size + 2 + m) (fun k W => R k x Wp W))
    (I : Nat → World → Prop) (Ix : Code → Nat → World → Prop) (hI : Stays w.heap.size (w.heap.size + 2 + m) I) (hIx : ∀ c, Stays w.heap.size (w.heap.size + 2 + m) (Ix c)) (hP : ∀ k W, I k W → Pre W) (h0 : I 0 w) (a₁ : Array Value → Act)
    (hassign : ∀ (l k : Nat) (x : Array Value) (Wp W : World) (K : Act → World → Prop), R k x Wp W → K (a₁ x) W →
      assign.wpIn (F.inRound l) (n - 1 - 1) P (Exit.then K (fun _ _ _ => False)) { tmps := (ps.zip x).foldl (fun t (p, v) => t.setIfInBounds p v) a.tmps, defers := [] } W)
    (hbody : ∀ (l k : Nat) (x : Array Value) (Wp W : World), k < len → I k Wp → Wp.grownBy W (some (w.heap.size + 1)) → R k x Wp W → I k W → w.heap.size + 2 + m ≤ Wp.heap.size →
      body.wpIn (F.inRound l) (n - 1 - 1) P (rowPost w.heap.size (w.heap.size + 2 + m) I Ix (k + 1) W) (a₁ x) W)
    (hdone : ∀ (W : World), I len W → W.heap[w.heap.size]? = some (.deferred (some [])) → Q .normal { a with defers := { target := .collected w.heap.size, args := #[] } :: a.defers } W)
    (hstop : ∀ (c : Code) (k : Nat) (W : World), k ≤ len → Ix c k W → W.heap[w.heap.size]? = some (.deferred (some [])) → c.wpIn F n P Q { a with defers := { target := .collected w.heap.size, args := #[] } :: a.defers } W) :
    (Code.rangeFunc g ps assign body).wpIn F n P Q a w := by
  refine wpIn_rangeFunc fun fn hfn => ?_
  rw [hro]
  let rec' : LoopState → Option Code → Loop := fun st pe => { state := st, pending := pe, fn := fn, tmps := a.tmps, params := ps, assign := assign, body := body, defers := w.heap.size }
  have hW1 : ∃ W1, W1 = (w.alloc (.deferred (some []))).alloc (.loop (rec' .ready none)) := ⟨_, rfl⟩
  obtain ⟨W1, hW1⟩ := hW1
  have sz : W1.heap.size = w.heap.size + 2 := by rw [hW1]; simp
  have hL : W1.heap[w.heap.size + 1]? = some (.loop (rec' .ready none)) := by
    rw [hW1]; have := World.alloc_heap_new (w.alloc (.deferred (some []))) (.loop (rec' .ready none)); rwa [World.size_alloc] at this
  have hD : W1.heap[w.heap.size]? = some (.deferred (some [])) := by
    rw [hW1]; exact (Below.heap_alloc _ _ _ (by simp)).trans (World.alloc_heap_new w _)
  have hI1 : I 0 W1 := by rw [hW1]; exact hI.alloc _ (hI.alloc _ h0)
  refine ⟨w.heap.size + 1, [{ target := .collected w.heap.size, args := #[] }], W1, { target := .fn (.func gf) lb, args := #[.func (.yield (w.heap.size + 1)) #[] #[]] }, W1, gf,
    #[.func (.yield (w.heap.size + 1)) #[] #[]] ++ lb, W1, by rw [hW1]; exact run_enterLoop_outer _ _ _ _ _, by simp only [resolve, hg]; simp [go_sem], ?_, by simp [invoke, go_sem, eg], fun _ => h1, ?_⟩
  · intro f' hf'; simp [Target.leads] at hf'; subst hf'; exact hFg
  have st : ∀ (I' : Nat → World → Prop) (o o' : Obj), Stays w.heap.size (w.heap.size + 2 + m) I' →
      Stays W1.heap.size (W1.heap.size + m) (fun k W => I' k W ∧ W.heap[w.heap.size + 1]? = some o ∧ W.heap[w.heap.size]? = some o') := fun I' o o' hI' s A B row hs hg' hr => by
    refine ⟨hI' s A B row hs.1 hg' (fun r e => by have := hr r e; omega), ?_, ?_⟩
    · rw [hg'.block _ (Array.getElem?_eq_some_iff.1 hs.2.1).1 (fun e => by have := hr _ e.symm; omega)]; exact hs.2.1
    · rw [hg'.block _ (Array.getElem?_eq_some_iff.1 hs.2.2).1 (fun e => by have := hr _ e.symm; omega)]; exact hs.2.2
  refine (hseq (w.heap.size + 1)
    (fun k W => I k W ∧ W.heap[w.heap.size + 1]? = some (.loop (rec' .ready none)) ∧ W.heap[w.heap.size]? = some (.deferred (some [])))
    (fun k W => ∃ c, Ix c k W ∧ W.heap[w.heap.size + 1]? = some (.loop (rec' .done (some c))) ∧ W.heap[w.heap.size]? = some (.deferred (some [])))
    W1 (fun k W h => hP k W h.1) (st I _ _ hI) (fun s A B row hs hg' hr => by
      obtain ⟨c, hc⟩ := hs
      exact ⟨c, st (Ix c) _ _ (hIx c) s A B row hc hg' hr⟩) ?_ ⟨hI1, hL, hD⟩).mono ?_
  · rintro k x Wp W hx ⟨hip, hlp, hkp⟩ hpw hRx hszp
    have hi : I k W := hI k Wp W none hip hpw (fun r e => by cases e)
    have hl : W.heap[w.heap.size + 1]? = some (.loop (rec' .ready none)) := (hpw.block _ (Array.getElem?_eq_some_iff.1 hlp).1 (by simp)).trans hlp
    have hk : W.heap[w.heap.size]? = some (.deferred (some [])) := (hpw.block _ (Array.getElem?_eq_some_iff.1 hkp).1 (by simp)).trans hkp
    have hsz := Nat.le_trans hszp hpw.size
    have hy := run_yield (P := P) (args := x) hl (hps k x Wp W hRx)
    refine ⟨fn, _, assign, body, hy, roundIn_of_wpIn hfn (hassign _ k x Wp W _ hRx ⟨_, run_beginRound hl rfl, ?_⟩)⟩
    have hlt : w.heap.size + 1 < W.heap.size := (Array.getElem?_eq_some_iff.1 hl).1
    have hbusy : ∃ Wb, Wb = W.putObj (w.heap.size + 1) (.loop { rec' .ready none with state := .busy }) := ⟨_, rfl⟩
    obtain ⟨Wb, hWb⟩ := hbusy
    have hlb : Wb.heap[w.heap.size + 1]? = some (.loop { rec' .ready none with state := .busy }) := by rw [hWb]; exact World.putObj_heap_same hlt
    have hkb : Wb.heap[w.heap.size]? = some (.deferred (some [])) := by rw [hWb]; exact (World.putObj_heap_other (by omega)).trans hk
    have hib : I k Wb := by rw [hWb]; exact hI.put _ hi (by omega) (by omega)
    have hRb : R k x Wp Wb := by rw [hWb]; exact (hR x Wp (by omega)).put (s := k) _ hRx (by omega) (by omega)
    have hpb : Wp.grownBy Wb (some (w.heap.size + 1)) := by rw [hWb]; have h2 := grownBy_putObj' W (w.heap.size + 1) (.loop { rec' .ready none with state := .busy }); exact ⟨h2.os.trans hpw.os, h2.tape.trans hpw.tape, h2.output.trans hpw.output, Nat.le_trans hpw.size h2.size, fun j hj hne => (h2.block j (Nat.lt_of_lt_of_le hj hpw.size) hne).trans (hpw.block j hj (by simp))⟩
    have hzb : Wb.heap.size = W.heap.size := by rw [hWb]; simp
    have hkeep : ∀ r, w.heap.size + 2 ≤ r → Wb.heap[r]? = W.heap[r]? := fun r hr => by rw [hWb]; exact World.putObj_heap_other (by omega)
    rw [← hWb]
    refine wpIn_mono (hbody _ k x Wp Wb hx hip hpb hRb hib (by omega)) ?_
    have fin : ∀ (jump : Option Code) (W3 : World), KeepsIn w.heap.size (w.heap.size + 2 + m) Wb W3 →
        ∃ W4, W4 = W3.putObj (w.heap.size + 1) (.loop (rec' (if jump.isNone then .ready else .done) jump)) ∧ (Instr.endRound (w.heap.size + 1) jump).run P W3 = .ok (.bool jump.isNone) W4 ∧
          W4.heap[w.heap.size + 1]? = some (.loop (rec' (if jump.isNone then .ready else .done) jump)) ∧ W4.heap[w.heap.size]? = some (.deferred (some [])) ∧ W.heap.size ≤ W4.heap.size ∧ KeepsIn W1.heap.size (W1.heap.size + m) W W4 := fun jump W3 h3 => by
      have hl3 := (h3.same (w.heap.size + 1) (by omega) (by omega)).trans hlb
      have hk3 := (h3.same w.heap.size (by omega) (by omega)).trans hkb
      refine ⟨_, rfl, run_endRound (P := P) jump hl3, World.putObj_heap_same (Array.getElem?_eq_some_iff.1 hl3).1, (World.putObj_heap_other (by omega)).trans hk3, by have := h3.size; simp; omega, by have := h3.size; simp; omega, fun r hr1 hr2 => ?_⟩
      rw [World.putObj_heap_other (by omega), h3.same r (by omega) (by omega), hkeep r (by omega)]
    rintro e a3 W3 hp
    cases e with
    | normal =>
      obtain ⟨h3, hi3⟩ := hp
      obtain ⟨W4, rfl, hr, hl4, hk4, hq⟩ := fin none W3 h3
      exact ⟨_, _, hr, .inl ⟨rfl, ⟨hI.put _ hi3 (by omega) (by omega), hl4, hk4⟩, hq⟩⟩
    | ret =>
      obtain ⟨h3, hi3⟩ := hp
      obtain ⟨W4, rfl, hr, hl4, hk4, hq⟩ := fin (some .ret) W3 h3
      exact ⟨_, _, hr, .inr ⟨rfl, ⟨.ret, (hIx _).put _ hi3 (by omega) (by omega), hl4, hk4⟩, hq⟩⟩
    | exit id =>
      obtain ⟨h3, hi3⟩ := hp
      obtain ⟨W4, rfl, hr, hl4, hk4, hq⟩ := fin (some (.exit id)) W3 h3
      exact ⟨_, _, hr, .inr ⟨rfl, ⟨.exit id, (hIx _).put _ hi3 (by omega) (by omega), hl4, hk4⟩, hq⟩⟩
    | goto t =>
      obtain ⟨h3, hi3⟩ := hp
      obtain ⟨W4, rfl, hr, hl4, hk4, hq⟩ := fin (some (.goto t)) W3 h3
      exact ⟨_, _, hr, .inr ⟨rfl, ⟨.goto t, (hIx _).put _ hi3 (by omega) (by omega), hl4, hk4⟩, hq⟩⟩
    | panic ch => exact hp.elim
    | outgrown => exact hp.elim
  · rintro e W2 ⟨⟨v, rfl⟩, (⟨hi, hl, hk⟩ | ⟨k, hk', c, hi, hl, hk⟩)⟩
    · exact ⟨none, _, run_endLoop (P := P) hl (by simp [rec']), hdone _ (hI.put _ hi (by omega) (by omega)) ((World.putObj_heap_other (by omega)).trans hk)⟩
    · exact ⟨some c, _, run_endLoop (P := P) hl (by simp [rec']), hstop c k _ hk' ((hIx c).put _ hi (by omega) (by omega)) ((World.putObj_heap_other (by omega)).trans hk)⟩
end Go.Proofs.Ytedhmoihlfjbdaa
namespace Go.Proofs.Ytedhmoihlfjbdaa
open Go.RowKit
set_option linter.unusedVariables false
variable {F : Fence} {n : Nat} {P : Program} {md : Region.Mode} {ops : Array Oper} {Q : Exit → Act → World → Prop}
/-- No operation is a defer. -/
def noDefer (ops : Array Oper) : Bool := ops.all fun o => match o.op with | .defer _ => false | _ => true
theorem noDefer_spec (h : noDefer ops = true) {j : Nat} {o : Oper} (hj : ops[j]? = some o) (c : Call) : o.op ≠ .defer c := by
  intro e
  obtain ⟨hlt, rfl⟩ := Array.getElem?_eq_some_iff.1 hj
  have := Array.all_eq_true.1 h j hlt
  rw [e] at this; cases this
theorem wpOpIn_round {l : Nat} (hro : F.round = none) (hd : noDefer ops = true) {i : Nat} {K : Act → World → Prop} {a : Act} {w : World} (h : wpOpIn F n P ops Q i K a w) : wpOpIn (F.inRound l) n P ops Q i K a w := by
  unfold wpOpIn at *
  cases ho : ops[i]? with
  | none => simpa [ho] using h
  | some o =>
    simp only [ho] at h ⊢
    split
    · rename_i hw
      simp only [hw, if_true] at h
      unfold Oper.wpIn at *
      refine ⟨h.1, ?_⟩
      have h2 := h.2
      rw [hro, Oper.semAt_none] at h2
      rw [show (F.inRound l).round = some l from rfl, Oper.semAt_some l _ _ (noDefer_spec hd ho)]
      generalize (execOp a.eval o).run P w = r at h2 ⊢
      cases r with
      | ok x w' => cases x <;> exact h2
      | halt x w' => cases x <;> exact h2
    · rename_i hw
      simp only [hw] at h
      exact h
theorem wpAnyIn_round {l : Nat} (hro : F.round = none) (hd : noDefer ops = true) : ∀ (fuel : Nat) (listed : Array Bool) (a : Act) (w : World), wpAnyIn F n P md ops Q fuel listed a w → wpAnyIn (F.inRound l) n P md ops Q fuel listed a w
  | 0, _, _, _, h => h
  | fuel + 1, _, _, _, h => ⟨h.1, fun i hi => wpOpIn_round hro hd (wpOpIn_mono (fun a w => wpAnyIn_round hro hd fuel _ a w) (h.2 i hi))⟩
theorem wpIn_region_round {l id : Nat} {a : Act} {w : World} (hm : P.follows .mixedOrders = true) (hro : F.round = none) (hd : noDefer ops = true)
    (h : wpAnyIn F n P .any ops Q ops.size (Array.replicate ops.size false) a w.drew) : (Code.region id ops true).wpIn (F.inRound l) n P Q a w :=
  wpIn_region_any hm (wpAnyIn_round hro hd _ _ _ _ h)
end Go.Proofs.Ytedhmoihlfjbdaa
