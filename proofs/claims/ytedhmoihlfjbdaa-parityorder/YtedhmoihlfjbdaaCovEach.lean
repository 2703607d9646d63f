
/-
  cover.Each.
-/
import Derived.Test.YtedhmoihlfjbdaaCovOf
import Derived.Test.YtedhmoihlfjbdaaRoundReg
namespace Go.Proofs.Ytedhmoihlfjbdaa
open Go.RowKit Go.Shelf
set_option linter.unusedVariables false
attribute [local go_sem] Oper.semAt_some
/-- What Each gives: a bit's number, and the number so far ahead of the base. -/
def eachRel (b : Int) (X : Nat) (k : Nat) (v : Array Value) (_ _ : World) : Prop := v = #[.int .i64 ((Mk.bits X).getD k 0), .int .u16 (Ser.add b ((Mk.bits X).getD k 0))]
def eachPre (BM BB : Nat) (b : Int) (X : Nat) (W : World) : Prop :=
  W.cell? ⟨BM, 0, none⟩ = some (.int .u64 (Mk.H X)) ∧ W.cell? ⟨BM, 1, none⟩ = some (.int .u64 (Mk.L X)) ∧ W.cell? ⟨BB, 0, none⟩ = some (.int .u16 b)
theorem grown_refl' (w : World) (r : Option Nat) : w.grownBy w r := ⟨rfl, rfl, rfl, Nat.le_refl _, fun _ _ _ => rfl⟩
set_option maxHeartbeats 1000000 in
theorem each_keep (n : Nat) (hn : 3 ≤ n) (BM BB : Nat) (b : Int) (X : Nat) (hX : Mk.Ok X) :
    SeqKeep Fence.wide n Try.prog 156 #[.pointer (some ⟨BM, 0, none⟩), .pointer (some ⟨BB, 0, none⟩)] (eachRel b X) (Mk.bits X).length 5 (eachPre BM BB b X) := by
  rintro l J Jx W hP hJ hJx hY h0
  obtain ⟨c0, c1, c2⟩ := hP 0 W h0
  have HY := Lib.hid hY; clear hY
  have HJ := Lib.hid hJ; have HJx := Lib.hid hJx; have HP := Lib.hid hP; clear hJ hJx hP
  refine callsIn_of_wp_marks Try.func156 rfl trivial ?_ rfl
  simp only [Try.ntmps156, List.size_toArray, List.length_cons, List.length_nil, Nat.reduceAdd, Nat.reduceSub, Array.replicate_succ, Array.replicate_zero, List.push_toArray, List.append_toArray, List.nil_append, List.cons_append]
  have hn1 : 1 ≤ n := by omega
  have h1 := HJ.out.alloc (.cells #[.func (.yield l) #[] #[]] 242) h0
  have hcy : (W.alloc (.cells #[.func (.yield l) #[] #[]] 242)).cell? ⟨W.heap.size, 0, none⟩ = some (.func (.yield l) #[] #[]) := by simp [go_sem]
  have hzy : (W.alloc (.cells #[.func (.yield l) #[] #[]] 242)).heap.size = W.heap.size + 1 := by simp
  obtain ⟨W0, hW0⟩ : ∃ W0, W.alloc (.cells #[.func (.yield l) #[] #[]] 242) = W0 := ⟨_, rfl⟩
  obtain ⟨d0, d1, d2⟩ := HP.out 0 _ h1
  rw [hW0] at d0 d1 d2 h1 hcy hzy
  clear c0 c1 c2 h0
  gi_wp2_with (first
    | (rw [hW0])
    | (refine ⟨trivial, ?_⟩; gi_at_call 157; refine (callsIn_wide.2 (mBits_any X _)).mono ?_; rintro e w1 ⟨rfl, rfl⟩))
  obtain ⟨W1, hW1⟩ : ∃ W1, W0.alloc (Obj.cells #[Value.int IntKind.u64 (Mk.H X), Value.int IntKind.u64 (Mk.L X)] 107) = W1 := ⟨_, rfl⟩
  have hz1 : W1.heap.size = W.heap.size + 2 := by rw [← hW1]; simp [hzy]
  have e0 : W1.cell? ⟨W.heap.size + 1, 0, none⟩ = some (.int .u64 (Mk.H X)) := by rw [← hW1, ← hzy]; simp [go_sem]
  have e1 : W1.cell? ⟨W.heap.size + 1, 1, none⟩ = some (.int .u64 (Mk.L X)) := by rw [← hW1, ← hzy]; simp [go_sem]
  have ey : W1.cell? ⟨W.heap.size, 0, none⟩ = some (.func (.yield l) #[] #[]) := by
    rw [← hW1, (((Below.refl _ W0).alloc (Nat.le_refl _) _).cell (p := ⟨W.heap.size, 0, none⟩) (by show W.heap.size < W0.heap.size; omega))]; exact hcy
  have h2 : J 0 W1 := by rw [← hW1]; exact HJ.out.alloc _ h1
  rw [hW1]
  clear hW1 d0 d1 d2 h1 hcy hW0
  have HE := Lib.hid (And.intro ey (And.intro e0 e1)); clear ey e0 e1
  refine wp_range_keep (F := Fence.wide) rfl (by omega) (gf := 164) (lb := #[.pointer (some ⟨W.heap.size + 1, 0, none⟩)]) rfl trivial (enters_of Try.func164 (by kernel_rfl) rfl) (bits_rel (n - 1) (by omega) (W.heap.size + 1) X hX).keep
    (fun k x Wp W h => by rw [h]; rfl) (fun x Wp _ => fun s A B row hs _ _ => hs)
    (fun k Wr => J k Wr ∧ Wr.cell? ⟨W.heap.size, 0, none⟩ = some (.func (.yield l) #[] #[]) ∧ Wr.cell? ⟨W.heap.size + 1, 0, none⟩ = some (.int .u64 (Mk.H X)) ∧ Wr.cell? ⟨W.heap.size + 1, 1, none⟩ = some (.int .u64 (Mk.L X)))
    (fun c k Wr => c = .ret ∧ Jx k Wr) ?stI ?stX (fun k Wr h => h.2.2) ⟨h2, HE.out⟩
    (fun x => { tmps := #[.func (.yield l) #[] #[], .pointer (some ⟨BM, 0, none⟩), .pointer (some ⟨BB, 0, none⟩), .pointer (some ⟨W.heap.size, 0, none⟩), x.getD 0 undef, .agg #[.int .u64 (Mk.H X), .int .u64 (Mk.L X)], .func (.func 164) #[] #[.pointer (some ⟨W.heap.size + 1, 0, none⟩)], x.getD 0 undef, undef, undef, undef, undef, undef, undef, undef], defers := [] })
    ?assign ?body ?done ?stop
  case stI =>
    rintro s A B row ⟨hj, q0, q1, q2⟩ hg hr
    have hA : W.heap.size + 1 < A.heap.size := (Array.getElem?_eq_some_iff.1 (cells_of_cell q1).choose_spec.1).1
    have hb0 : B.heap[W.heap.size]? = A.heap[W.heap.size]? := hg.block _ (by omega) (fun e => by have := hr _ e.symm; omega)
    have hb1 : B.heap[W.heap.size + 1]? = A.heap[W.heap.size + 1]? := hg.block _ hA (fun e => by have := hr _ e.symm; omega)
    exact ⟨HJ.out s A B row hj hg (fun r e => by have := hr r e; omega), (World.cell?_of_block (w := A) (a := ⟨W.heap.size, 0, none⟩) hb0).trans q0, (World.cell?_of_block (w := A) (a := ⟨W.heap.size + 1, 0, none⟩) hb1).trans q1, (World.cell?_of_block (w := A) (a := ⟨W.heap.size + 1, 1, none⟩) hb1).trans q2⟩
  case stX =>
    rintro c s A B row ⟨hc, hj⟩ hg hr
    exact ⟨hc, HJx.out s A B row hj hg (fun r e => by have := hr r e; omega)⟩
  case assign =>
    intro l' k x Wp W' K hRx hK
    subst hRx
    gi_wp2
    exact hK
  case body =>
    rintro l' k x Wp W' hk hIp hpw hRx ⟨hj, q0, q1, q2⟩ hsz
    subst hRx
    have hmx : Try.prog.follows .mixedOrders = true := by kernel_rfl
    have d2 := (HP.out k W' hj).2.2
    have hadd := fun w => add_any b ((Mk.bits X).getD k 0) w
    have hjd : J k W'.drew := HJ.out k W' W'.drew none hj ⟨rfl, rfl, rfl, Nat.le_refl _, fun _ _ _ => rfl⟩ (fun r e => by cases e)
    obtain ⟨fn, tmps, assign, body, hy, hR⟩ := HY.out k _ W'.drew W'.drew hk hjd (grown_refl' _ _) rfl (by have := hpw.size; show _ ≤ W'.heap.size; omega)
    have hR' := hR.mono (R' := fun e W2 => ∃ bb : Bool, e = .returned (.bool bb) ∧ (bb = true → J (k + 1) W2) ∧ (bb = false → Jx (k + 1) W2) ∧ KeepsIn W.heap.size (W.heap.size + 5) W'.drew W2) (by
      rintro e W2 (⟨rfl, h1, _, h2⟩ | ⟨rfl, h1, _, h2⟩)
      · exact ⟨true, rfl, fun _ => h1, (fun h => by cases h), h2⟩
      · exact ⟨false, rfl, (fun h => by cases h), fun _ => h1, h2⟩)
    have HR := Lib.hid hR'; clear hR hR'
    have HQ := Lib.hid (And.intro q0 (And.intro q1 q2)); clear q1 q2
    have HADD := Lib.hid hadd; clear hadd
    have HJK := Lib.hid hj; clear hj hjd hIp
    have hn2 : 1 ≤ n - 1 - 1 := by omega
    generalize (Mk.bits X).getD k 0 = i at *
    generalize Ser.add b i = v at *
    gi_wp2
    refine wpIn_region_round hmx rfl (by kernel_rfl) ?_
    refine wpAnyIn_take (i := 1) (v := .int .i64 i) rfl rfl (by kernel_rfl) (by kernel_rfl) (by kernel_rfl) (fun _ _ _ h => h) ⟨Or.inl ⟨by rfl, fun w => by go_simp⟩, fun _ => rfl⟩ ?_
    refine wpAnyIn_take (i := 3) (v := .int .i64 i) rfl rfl (by kernel_rfl) (by kernel_rfl) (by kernel_rfl) (fun _ _ _ h => h) ⟨Or.inl ⟨by rfl, fun w => by go_simp⟩, fun _ => rfl⟩ ?_
    refine wpAnyIn_ready (rs := [0, 2]) (by kernel_rfl) (by simp) ?_
    refine AllReadyIn.cons rfl (fun K hK => ?_) (AllReadyIn.cons rfl (fun K hK => ?_) AllReadyIn.nil)
    · go_simp
      refine hK _ _ ?_
      clear hK K
      refine wpAnyIn_ready (rs := [2]) (by kernel_rfl) (by simp) ?_
      refine AllReadyIn.cons rfl (fun K hK => ?_) AllReadyIn.nil
      go_simp
      refine hK _ _ ?_
      clear hK K
      refine wpAnyIn_ready (rs := [4]) (by kernel_rfl) (by simp) ?_
      refine AllReadyIn.cons rfl (fun K hK => ?_) AllReadyIn.nil
      go_simp
      refine ⟨trivial, ?_⟩
      gi_at_call 129
      refine (callsIn_wide.2 (HADD.out _)).mono ?_
      rintro e w' ⟨rfl, rfl⟩
      refine hK _ _ ?_
      clear hK K
      refine wpAnyIn_ready (rs := [5]) (by kernel_rfl) (by simp) ?_
      refine AllReadyIn.cons rfl (fun K hK => ?_) AllReadyIn.nil
      go_simp
      refine (round_any HR.out).mono ?_
      rintro e W2 ⟨bb, rfl, hpo⟩
      refine hK _ _ ?_
      clear hK K
      refine wpAnyIn_ready (rs := [6]) (by kernel_rfl) (by simp) ?_
      refine AllReadyIn.cons rfl (fun K hK => ?_) AllReadyIn.nil
      go_simp
      refine hK _ _ ?_
      clear hK K
      refine wpAnyIn_done (by kernel_rfl) ?_ _
      obtain ⟨p1, p2, p3⟩ := hpo
      have hk' : KeepsIn W1.heap.size (W1.heap.size + 2 + 1) W' W2 := ⟨p3.size, fun r a b => p3.same r (by omega) (by omega)⟩
      cases bb
      · have p4 := p2 rfl
        clear p1 p2
        gi_wp2
        exact ⟨hk', rfl, p4⟩
      · have p4 := p1 rfl
        clear p1 p2
        gi_wp2
        obtain ⟨q0, q1, q2⟩ := HQ.out
        have hb0 : W2.heap[W.heap.size]? = W'.heap[W.heap.size]? := p3.same _ (by omega) (by omega)
        have hb1 : W2.heap[W.heap.size + 1]? = W'.heap[W.heap.size + 1]? := p3.same _ (by omega) (by omega)
        exact ⟨hk', p4, (World.cell?_of_block (w := W') (a := ⟨W.heap.size, 0, none⟩) hb0).trans q0, (World.cell?_of_block (w := W') (a := ⟨W.heap.size + 1, 0, none⟩) hb1).trans q1, (World.cell?_of_block (w := W') (a := ⟨W.heap.size + 1, 1, none⟩) hb1).trans q2⟩
    · go_simp
      refine hK _ _ ?_
      clear hK K
      refine wpAnyIn_ready (rs := [0, 4]) (by kernel_rfl) (by simp) ?_
      refine AllReadyIn.cons rfl (fun K hK => ?_) (AllReadyIn.cons rfl (fun K hK => ?_) AllReadyIn.nil)
      · go_simp
        refine hK _ _ ?_
        clear hK K
        refine wpAnyIn_ready (rs := [4]) (by kernel_rfl) (by simp) ?_
        refine AllReadyIn.cons rfl (fun K hK => ?_) AllReadyIn.nil
        go_simp
        refine ⟨trivial, ?_⟩
        gi_at_call 129
        refine (callsIn_wide.2 (HADD.out _)).mono ?_
        rintro e w' ⟨rfl, rfl⟩
        refine hK _ _ ?_
        clear hK K
        refine wpAnyIn_ready (rs := [5]) (by kernel_rfl) (by simp) ?_
        refine AllReadyIn.cons rfl (fun K hK => ?_) AllReadyIn.nil
        go_simp
        refine (round_any HR.out).mono ?_
        rintro e W2 ⟨bb, rfl, hpo⟩
        refine hK _ _ ?_
        clear hK K
        refine wpAnyIn_ready (rs := [6]) (by kernel_rfl) (by simp) ?_
        refine AllReadyIn.cons rfl (fun K hK => ?_) AllReadyIn.nil
        go_simp
        refine hK _ _ ?_
        clear hK K
        refine wpAnyIn_done (by kernel_rfl) ?_ _
        obtain ⟨p1, p2, p3⟩ := hpo
        have hk' : KeepsIn W1.heap.size (W1.heap.size + 2 + 1) W' W2 := ⟨p3.size, fun r a b => p3.same r (by omega) (by omega)⟩
        cases bb
        · have p4 := p2 rfl
          clear p1 p2
          gi_wp2
          exact ⟨hk', rfl, p4⟩
        · have p4 := p1 rfl
          clear p1 p2
          gi_wp2
          obtain ⟨q0, q1, q2⟩ := HQ.out
          have hb0 : W2.heap[W.heap.size]? = W'.heap[W.heap.size]? := p3.same _ (by omega) (by omega)
          have hb1 : W2.heap[W.heap.size + 1]? = W'.heap[W.heap.size + 1]? := p3.same _ (by omega) (by omega)
          exact ⟨hk', p4, (World.cell?_of_block (w := W') (a := ⟨W.heap.size, 0, none⟩) hb0).trans q0, (World.cell?_of_block (w := W') (a := ⟨W.heap.size + 1, 0, none⟩) hb1).trans q1, (World.cell?_of_block (w := W') (a := ⟨W.heap.size + 1, 1, none⟩) hb1).trans q2⟩
      · go_simp
        refine ⟨trivial, ?_⟩
        gi_at_call 129
        refine (callsIn_wide.2 (HADD.out _)).mono ?_
        rintro e w' ⟨rfl, rfl⟩
        refine hK _ _ ?_
        clear hK K
        refine wpAnyIn_ready (rs := [0]) (by kernel_rfl) (by simp) ?_
        refine AllReadyIn.cons rfl (fun K hK => ?_) AllReadyIn.nil
        go_simp
        refine hK _ _ ?_
        clear hK K
        refine wpAnyIn_ready (rs := [5]) (by kernel_rfl) (by simp) ?_
        refine AllReadyIn.cons rfl (fun K hK => ?_) AllReadyIn.nil
        go_simp
        refine (round_any HR.out).mono ?_
        rintro e W2 ⟨bb, rfl, hpo⟩
        refine hK _ _ ?_
        clear hK K
        refine wpAnyIn_ready (rs := [6]) (by kernel_rfl) (by simp) ?_
        refine AllReadyIn.cons rfl (fun K hK => ?_) AllReadyIn.nil
        go_simp
        refine hK _ _ ?_
        clear hK K
        refine wpAnyIn_done (by kernel_rfl) ?_ _
        obtain ⟨p1, p2, p3⟩ := hpo
        have hk' : KeepsIn W1.heap.size (W1.heap.size + 2 + 1) W' W2 := ⟨p3.size, fun r a b => p3.same r (by omega) (by omega)⟩
        cases bb
        · have p4 := p2 rfl
          clear p1 p2
          gi_wp2
          exact ⟨hk', rfl, p4⟩
        · have p4 := p1 rfl
          clear p1 p2
          gi_wp2
          obtain ⟨q0, q1, q2⟩ := HQ.out
          have hb0 : W2.heap[W.heap.size]? = W'.heap[W.heap.size]? := p3.same _ (by omega) (by omega)
          have hb1 : W2.heap[W.heap.size + 1]? = W'.heap[W.heap.size + 1]? := p3.same _ (by omega) (by omega)
          exact ⟨hk', p4, (World.cell?_of_block (w := W') (a := ⟨W.heap.size, 0, none⟩) hb0).trans q0, (World.cell?_of_block (w := W') (a := ⟨W.heap.size + 1, 0, none⟩) hb1).trans q1, (World.cell?_of_block (w := W') (a := ⟨W.heap.size + 1, 1, none⟩) hb1).trans q2⟩
  case done =>
    rintro W2 ⟨hj, _⟩ hD
    gi_wp2
    refine ⟨by simp, .inl ⟨_, _, rfl, run_takeDeferred hD, ?_⟩⟩
    exact ⟨_, results_none rfl _ _ _, ⟨_, rfl⟩, .inl (HJ.out.put _ hj (by omega) (by omega))⟩
  case stop =>
    rintro c k W2 hk ⟨rfl, hj⟩ hD
    gi_wp2
    refine ⟨by simp, .inl ⟨_, _, rfl, run_takeDeferred hD, ?_⟩⟩
    exact ⟨_, results_none rfl _ _ _, ⟨_, rfl⟩, .inr ⟨k, hk, HJx.out.put _ hj (by omega) (by omega)⟩⟩
end Go.Proofs.Ytedhmoihlfjbdaa
