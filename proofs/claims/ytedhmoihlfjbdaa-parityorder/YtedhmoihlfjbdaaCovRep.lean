/-
  cover.Each itself; cover.Seqs.
-/
import Derived.Test.YtedhmoihlfjbdaaCovEach
import Derived.Maps.AppendAt
import Derived.Deep.Onto
namespace Go.Proofs.Ytedhmoihlfjbdaa
open Go.RowKit Go.Shelf
set_option linter.unusedVariables false
attribute [local go_sem] Oper.semAt_some
theorem each_any (b : Int) (X : Nat) (w : World) :
    Calls Try.prog 137 #[.int .u16 b, .agg #[.int .u64 (Mk.H X), .int .u64 (Mk.L X)]] w fun e w' =>
      e = .returned (.func (.func 156) #[] #[.pointer (some ⟨w.heap.size + 1, 0, none⟩), .pointer (some ⟨w.heap.size, 0, none⟩)]) ∧ w'.heap.size = w.heap.size + 2 ∧ eachPre (w.heap.size + 1) w.heap.size b X w' ∧ Below w.heap.size w w' := by
  go_enter Try.func137, Try.ntmps137
  go_wp2
  refine bodyPost_ret (v := .func (.func 156) #[] #[.pointer (some ⟨w.heap.size + 1, 0, none⟩), .pointer (some ⟨w.heap.size, 0, none⟩)]) (by simp [results, Try.results137, go_sem]) rfl ⟨rfl, by simp, ?_, ((Below.refl _ w).alloc (Nat.le_refl _) _).alloc (by simp) _⟩
  have hm := MAt.new (w.alloc (.cells #[.int .u16 b] 29)) X 107
  rw [World.size_alloc] at hm
  refine ⟨hm.c0, hm.c1, ?_⟩
  rw [(((Below.refl _ (w.alloc (.cells #[.int .u16 b] 29))).alloc (Nat.le_refl _) _).cell (p := ⟨w.heap.size, 0, none⟩) (by show w.heap.size < _; simp))]
  simp [go_sem]
theorem info_u16 : (Try.prog.info? 29).map (fun i => (i.zero, i.size, i.bytes)) = some (some (Value.int .u16 0), 1, 2) := by kernel_rfl
/-- The numbers of a base and a mask. -/
def Cv.seqs (b : Int) (X : Nat) : List Int := (Mk.bits X).map (Ser.add b)
def SeqsPost (b : Int) (X : Nat) (w : World) (e : Ending) (w' : World) : Prop :=
  ∃ v, e = .returned v ∧ w'.ownsRow (w.heap.size + 11) 29 1 v (Mk.bits X).length ((Cv.seqs b X).map (Value.int .u16)) ∧ Below w.heap.size w w'
set_option maxHeartbeats 1000000 in
theorem cseqs_any (b : Int) (X : Nat) (hX : Mk.Ok X) (w : World) :
    Calls Try.prog 97 #[.int .u16 b, .agg #[.int .u64 (Mk.H X), .int .u64 (Mk.L X)]] w (SeqsPost b X w) := by
  refine (callsIn_wide (n := 6)).1 ?_
  refine callsIn_of_wp_marks Try.func97 rfl trivial ?_ rfl
  simp only [Try.ntmps97, List.size_toArray, List.length_cons, List.length_nil, Nat.reduceAdd, Nat.reduceSub, Array.replicate_succ, Array.replicate_zero, List.push_toArray, List.append_toArray, List.nil_append, List.cons_append]
  gi_wp2_with (refine ⟨trivial, ?_⟩; gi_at_call 137; refine (callsIn_wide.2 (each_any b X _)).mono ?_; rintro e W0 ⟨rfl, hsz, hpre, hbl⟩)
  have hB0 : Below w.heap.size w W0 := (((Below.refl _ w).alloc (Nat.le_refl _) _).alloc (by simp) _).trans (hbl.mono (by simp; omega))
  have hb0 : Boxed W0 (w.heap.size + 1) 52 (Value.slice none 0 0) := by
    have h := Boxed.new (w.alloc (Obj.cells #[.int .u64 (Mk.H X), .int .u64 (Mk.L X)] 107)) 52 (Value.slice none 0 0)
    rw [World.size_alloc] at h
    exact h.kept (grown_of_below hbl) (by simp)
  have hs0 : W0.heap.size = w.heap.size + 4 := by rw [hsz]; simp
  have hpre0 : ∀ W, Below (w.heap.size + 4) W0 W → eachPre (w.heap.size + 3) (w.heap.size + 2) b X W := fun W hb => by
    have e3 : ((w.alloc (Obj.cells #[.int .u64 (Mk.H X), .int .u64 (Mk.L X)] 107)).alloc (Obj.cells #[Value.slice none 0 0] 52)).heap.size = w.heap.size + 2 := by simp
    rw [e3] at hpre
    exact ⟨(hb.cell (p := ⟨w.heap.size + 3, 0, none⟩) (by show w.heap.size + 3 < _; omega)).trans hpre.1, (hb.cell (p := ⟨w.heap.size + 3, 1, none⟩) (by show w.heap.size + 3 < _; omega)).trans hpre.2.1, (hb.cell (p := ⟨w.heap.size + 2, 0, none⟩) (by show w.heap.size + 2 < _; omega)).trans hpre.2.2⟩
  have HP := Lib.hid hpre0
  clear hpre0 hpre hbl hsz
  have hlen := Mk.bits_len X
  obtain ⟨i0, hi0, hz0, hz1, hz2⟩ := info_parts info_u16
  refine wp_range_keep rfl (by omega) (gf := 156) (lb := #[.pointer (some ⟨w.heap.size + 3, 0, none⟩), .pointer (some ⟨w.heap.size + 2, 0, none⟩)]) rfl trivial (enters_of Try.func156 (by kernel_rfl) rfl)
    (each_keep 5 (by omega) (w.heap.size + 3) (w.heap.size + 2) b X hX) (fun k x Wp W h => by rw [h]; rfl) (fun x Wp _ => fun s A B row hs _ _ => hs)
    (fun k W => ((∃ v, Boxed W (w.heap.size + 1) 52 v ∧ W.ownsRow (w.heap.size + 11) 29 1 v k (((Cv.seqs b X).take k).map (Value.int .u16))) ∧ Below w.heap.size w W) ∧ eachPre (w.heap.size + 3) (w.heap.size + 2) b X W)
    (fun _ _ _ => False) ?hI (fun _ _ _ _ _ h _ _ => h) (fun k W h => h.2) ⟨⟨⟨_, hb0, World.ownsRow_nil _ _ _ _⟩, hB0⟩, HP.out W0 (Below.refl _ _)⟩
    (fun x => { tmps := #[.int .u16 b, .agg #[.int .u64 (Mk.H X), .int .u64 (Mk.L X)], undef, .pointer (some ⟨w.heap.size, 0, none⟩), .slice none 0 0, .pointer (some ⟨w.heap.size + 1, 0, none⟩), undef, x.getD 1 undef, .int .u16 b, .agg #[.int .u64 (Mk.H X), .int .u64 (Mk.L X)], .func (.func 156) #[] #[.pointer (some ⟨w.heap.size + 3, 0, none⟩), .pointer (some ⟨w.heap.size + 2, 0, none⟩)], x.getD 0 undef, x.getD 1 undef, undef, undef, undef, undef, undef], defers := [] })
    ?assign ?body ?done ?stop
  case hI =>
    rintro s A B row ⟨⟨⟨v, hv, hr⟩, hb⟩, hp⟩ hg hrow
    have hA : w.heap.size + 3 < A.heap.size := (Array.getElem?_eq_some_iff.1 (cells_of_cell hp.1).choose_spec.1).1
    have e3 : B.heap[w.heap.size + 3]? = A.heap[w.heap.size + 3]? := hg.block _ hA (fun e => by have := hrow _ e.symm; omega)
    have e2 : B.heap[w.heap.size + 2]? = A.heap[w.heap.size + 2]? := hg.block _ (by omega) (fun e => by have := hrow _ e.symm; omega)
    refine ⟨⟨⟨v, hv.kept hg (fun e => by have := hrow _ e.symm; omega), hr.kept hg ?_⟩, hb.grown hg hb.size (fun k e => by have := hrow _ e; omega)⟩, (World.cell?_of_block (w := A) (a := ⟨w.heap.size + 3, 0, none⟩) e3).trans hp.1, (World.cell?_of_block (w := A) (a := ⟨w.heap.size + 3, 1, none⟩) e3).trans hp.2.1, (World.cell?_of_block (w := A) (a := ⟨w.heap.size + 2, 0, none⟩) e2).trans hp.2.2⟩
    rcases hob : v.ownBlock with _ | g
    · exact .inl rfl
    · exact .inr (fun e => by have := (hr.lt g hob).1; have := hrow g e.symm; omega)
  case assign =>
    intro l k x Wp W K hRx hK
    subst hRx
    generalize (Mk.bits X).getD k 0 = i1 at *
    generalize Ser.add b i1 = n1 at *
    gi_wp2
    exact hK
  case body =>
    rintro l k x Wp W hk _ hgw hRx ⟨⟨⟨v, hv, hr⟩, hb⟩, hp⟩ hsz'
    subst hRx
    have hl : ((Cv.seqs b X).take (k + 1)).map (Value.int .u16) = ((Cv.seqs b X).take k).map (Value.int .u16) ++ [.int .u16 (Ser.add b ((Mk.bits X).getD k 0))] := by
      unfold Cv.seqs
      rw [List.take_add_one, List.getElem?_map, List.getElem?_eq_getElem hk, List.getD_eq_getElem?_getD, List.getElem?_eq_getElem hk]; simp
    generalize (Mk.bits X).getD k 0 = i1 at *
    generalize Ser.add b i1 = n1 at *
    have HLL := Lib.hid hl; clear hl
    have hc := hv.cell
    have HV := Lib.hid hv; have HR := Lib.hid hr; have HB := Lib.hid hb; have HPP := Lib.hid hp; clear hv hr hb hp
    have hsz : w.heap.size + 11 ≤ W.heap.size := by
      have := hgw.size; omega
    clear hgw
    gi_wp2_with (gi_at_builtin; refine wpListIn_append_own _ rfl _ _ 52 rfl (w.heap.size + 11) 29 i0 (.int .u16 0) 1 2 Try.underlying52 hi0 hz0 hz1 hz2 rfl (by decide) _ _ _ rfl (HR.out.kept (grown_alloc W _) (by cases v.ownBlock <;> simp)) ⟨W.heap.size, 0, none⟩ 1 1 [.int .u16 n1] rfl rfl (cell_one_new _ _ _) (by simp [Value.oneCell']) (by unfold maxLen; omega) (by omega) (by simp; omega) ?_; intro v' w1 hown' hgrow _; obtain ⟨g', cap', rfl⟩ := ownsRow_succ hown'
                 have hv1 := (HV.out.alloc _).kept hgrow (HV.out.not_row (by decide) HR.out)
                 have hc1 := hv1.cell; have hf1 := hv1.frozen)
    have hrow : ∀ r, v.ownBlock = some r → w.heap.size + 11 ≤ r := fun r e => (HR.out.lt r e).1
    have hgrow' : (W.alloc (Obj.cells #[Value.int IntKind.u16 n1] 29)).grownBy w1 v.ownBlock := hgrow
    have hj : ∀ j, j < w.heap.size + 11 → j ≠ w.heap.size + 1 → (w1.setCell ⟨w.heap.size + 1, 0, none⟩ (.slice (some ⟨g', 0, none⟩) (k + 1) cap')).heap[j]? = W.heap[j]? := fun j h1 h2 =>
      (Below.heap_setCell w1 ⟨w.heap.size + 1, 0, none⟩ _ j h2).trans ((hgrow'.block j (by simp; omega) (fun e => by have := hrow j e.symm; omega)).trans (Below.heap_alloc W _ j (by omega)))
    refine ⟨((KeepsIn.alloc W _ (by omega)).trans (KeepsIn.grown hgrow' (by simp; omega) (fun r e => .inr (by have := hrow r e; omega)))).trans (KeepsIn.setCell _ _ _ (.inl (by show w.heap.size + 1 < _; omega))), ⟨⟨_, hv1.set _, ?_⟩, ?_⟩, ?_⟩
    · rw [HLL.out]; exact hown'.kept (grownBy_setCell' w1 (w.heap.size + 1) _) (.inr (hv1.not_row (by decide) hown').symm)
    · exact ((((HB.out.alloc HB.out.size _)).grown hgrow' (by have := HB.out.size; simp; omega) (fun r e => by have := hrow r e; omega))).setCell (by show w.heap.size ≤ w.heap.size + 1; omega) _
    · have hp := HPP.out
      exact ⟨(World.cell?_of_block (w := W) (a := ⟨w.heap.size + 3, 0, none⟩) (hj (w.heap.size + 3) (by omega) (by omega))).trans hp.1, (World.cell?_of_block (w := W) (a := ⟨w.heap.size + 3, 1, none⟩) (hj (w.heap.size + 3) (by omega) (by omega))).trans hp.2.1, (World.cell?_of_block (w := W) (a := ⟨w.heap.size + 2, 0, none⟩) (hj (w.heap.size + 2) (by omega) (by omega))).trans hp.2.2⟩
  case done =>
    rintro W ⟨⟨⟨v, hv, hr⟩, hb⟩, _⟩ hK
    have hc := hv.cell
    gi_wp2
    refine ⟨by simp, .inl ⟨_, _, rfl, run_takeDeferred hK, ?_⟩⟩
    refine ⟨_, results_tmp rfl _ _ _, v, rfl, ?_, ?_⟩
    · have h := ownsRow_putObj hr (.deferred none) hK rfl
      rwa [show (Cv.seqs b X).take (Mk.bits X).length = Cv.seqs b X from List.take_of_length_le (by unfold Cv.seqs; simp)] at h
    · exact hb.trans (belowK_b (w := w) (Nat.le_refl _) W W0.heap.size _ _ (by omega) hK rfl rfl)
  case stop => rintro c k W _ h _; exact h.elim
end Go.Proofs.Ytedhmoihlfjbdaa
namespace Go.Proofs.Ytedhmoihlfjbdaa
open Go.RowKit Go.Shelf
set_option linter.unusedVariables false
/-- A repair's cells. -/
def rpc (h : Nat → Int) (b : Int) (X : Nat) (a : Option Addr) (n c : Nat) : Value := .agg #[.int .u8 (h 0), .int .u8 (h 1), .int .u8 (h 2), .int .u8 (h 3), .int .u8 (h 4), .int .u8 (h 5), .int .u8 (h 6), .int .u8 (h 7), .int .u16 b, .int .u64 (Mk.H X), .int .u64 (Mk.L X), .slice a n c]
def RepPost (b : Int) (X : Nat) (w : World) (e : Ending) (w' : World) : Prop :=
  ∃ v, e = .returned v ∧ w'.ownsRow w.heap.size 29 1 v (Mk.bits X).length ((Cv.seqs b X).map (Value.int .u16)) ∧ Below w.heap.size w w'
theorem crepair_any (h : Nat → Int) (b : Int) (X : Nat) (hX : Mk.Ok X) (a : Option Addr) (n c : Nat) (w : World) :
    Calls Try.prog 62 #[rpc h b X a n c] w (RepPost b X w) := by
  have hs := fun w => cseqs_any b X hX w
  unfold rpc
  have HS := Lib.hid hs; clear hs
  go_enter Try.func62, Try.ntmps62
  go_wp2_with (go_at_call 97; refine (HS.out _).mono ?_; rintro e w1 ⟨v, rfl, hown, hbl⟩)
  exact bodyPost_ret (v := v) (by simp [results, Try.results62, go_sem]) rfl ⟨v, rfl, hown.mono (by simp; omega), ((Below.refl _ w).alloc (Nat.le_refl _) _).trans (hbl.mono (by simp))⟩
end Go.Proofs.Ytedhmoihlfjbdaa
