
/-
  red.readBlocks.
-/
import Derived.Test.YtfmabpddacfbcaaRedHeads
namespace Go.Proofs.Ytfmabpddacfbcaa
open Go.RowKit Go.Shelf
set_option linter.unusedVariables false
theorem ownsRow_above {W W' : World} {base size n : Nat} {e : TypeId} {v : Value} {xs : List Value} (h : W.ownsRow base e size v n xs) (hb : Above base W W') : W'.ownsRow base e size v n xs := by
  refine ⟨h.1, ?_⟩
  rcases h.2 with h' | ⟨g, cap, cur, rfl, hb', hg, rest⟩
  · exact .inl h'
  · exact .inr ⟨g, cap, cur, rfl, hb', (hb.2 g hb' (Array.getElem?_eq_some_iff.1 hg).1).trans hg, rest⟩
theorem Own.above {W W' : World} {base : Nat} {a : Option Addr} {n c : Nat} {l : List Int} (h : Own W base a n c l) (hb : Above base W W') : Own W' base a n c l := ⟨ownsRow_above h.row hb, h.ok⟩
theorem BRow.above {W W' : World} {base : Nat} {a : Option Addr} {i c : Nat} {xs ys : Nat → Int} {bs : Nat → List Int} (h : BRow W base a i c xs ys bs) (hb : Above base W W') : BRow W' base a i c xs ys bs := by
  obtain ⟨A, C, ho, he⟩ := h
  exact ⟨A, C, ownsRow_above ho hb, fun j hj => ⟨(he j hj).1.above hb, (he j hj).2⟩⟩
theorem BRow.nil (W : World) (base : Nat) (xs ys : Nat → Int) (bs : Nat → List Int) : BRow W base none 0 0 xs ys bs := ⟨fun _ => none, fun _ => 0, World.ownsRow_nil _ _ _ _, fun j hj => by omega⟩
theorem BRow.mono {W : World} {base base' : Nat} {a : Option Addr} {i c : Nat} {xs ys : Nat → Int} {bs : Nat → List Int} (h : BRow W base a i c xs ys bs) (hb : base' ≤ base) : BRow W base' a i c xs ys bs := by
  obtain ⟨A, C, ho, he⟩ := h
  refine ⟨A, C, ⟨ho.1, ?_⟩, fun j hj => ⟨(he j hj).1.mono hb, (he j hj).2⟩⟩
  rcases ho.2 with h' | ⟨g, cap, cur, e, hb', rest⟩
  · exact .inl h'
  · exact .inr ⟨g, cap, cur, e, by omega, rest⟩
theorem BRow.blk {W : World} {base : Nat} {a : Option Addr} {i c : Nat} {xs ys : Nat → Int} {bs : Nat → List Int} (h : BRow W base a i c xs ys bs) : ∀ x, a = some x → base ≤ x.block ∧ x.block < W.heap.size := fun x hx => by
  obtain ⟨A, C, ho, he⟩ := h
  subst hx
  exact ho.lt x.block rfl
/-- What readHeaders left, in the world W. -/
theorem hdr_cells {W : World} {base K c3 : Nat} {a3 : Option Addr} {l : List Int} (h : W.ownsRow base 76 5 (.slice a3 (K + 1) c3) (K + 1) (hcells l K ++ hlast l K)) :
    ∃ g, a3 = some ⟨g, 0, none⟩ ∧ base ≤ g ∧ g < W.heap.size ∧ K + 1 ≤ c3 ∧ ∀ j u, (hcells l K ++ hlast l K)[j]? = some u → W.cell? ⟨g, j, none⟩ = some u := by
  rcases h.2 with ⟨hv, e⟩ | ⟨g, cap, cur, hv, hb, hg, h1, h2, h3, h4⟩
  · omega
  · simp only [Value.slice.injEq, true_and] at hv
    obtain ⟨rfl, rfl⟩ := hv
    refine ⟨g, rfl, hb, (Array.getElem?_eq_some_iff.1 hg).1, h1, fun j u hu => ?_⟩
    have := h.cells (g := g) rfl j u hu
    rwa [show (Addr.add ⟨g, 0, none⟩ j) = ⟨g, j, none⟩ from by unfold Addr.add; split <;> simp_all] at this
theorem hcells_at (l : List Int) (T : List Value) : ∀ K i j, i < K → j < 5 → (hcells l K ++ T)[i * 5 + j]? = (hc1 l i)[j]?
  | 0, i, j, h, _ => by omega
  | K + 1, i, j, h, hj => by
    have hl := hcells_len l K
    by_cases e : i = K
    · subst e
      simp only [hcells]
      rw [List.append_assoc, List.getElem?_append_right (by omega), hl, Nat.add_sub_cancel_left, List.getElem?_append_left (by simp [hc1]; omega)]
    · simp only [hcells]
      rw [List.append_assoc]
      exact hcells_at l _ K i j (by omega) hj
theorem hlast_at (l : List Int) (K j : Nat) : (hcells l K ++ hlast l K)[K * 5 + j]? = (hlast l K)[j]? := by
  rw [List.getElem?_append_right (by rw [hcells_len]; omega), hcells_len, Nat.add_sub_cancel_left]
/-- How far it has read. -/
def bpos (l : List Int) (K n i : Nat) : Nat := if i ≤ K then dpos l K i else n
/-- At the head of the loop: w1 is the world behind readHeaders. -/
structure BL (w w1 W : World) (R U n : Nat) (l : List Int) (K i : Nat) (ao : Option Addr) (co : Nat) (a : Option Addr) (c : Nat) : Prop where
  rd : RdAt W R U a (n - bpos l K n i) c (l.drop (bpos l K n i))
  old : 0 < n - bpos l K n i → ∀ x, a = some x → x.block < w.heap.size
  out : BRow W w1.heap.size ao i co (ppt l) (pof l) (pdat l K)
  keep : Keep2 w1 W R (some U)
theorem BL.next {w w1 W w2 : World} {R U n : Nat} {l : List Int} {K i : Nat} {ao : Option Addr} {co : Nat} {a : Option Addr} {c : Nat} (h : BL w w1 W R U n l K i ao co a c) (hR : R < w.heap.size) (hU : U < w.heap.size) (hw1 : w.heap.size ≤ w1.heap.size) (bx : Array Value) {k : Nat} (hk : k = (pdat l K i).length)
    {a5 : Option Addr} {c5 : Nat} (hO : Own w2 (W.alloc (.cells bx 76)).heap.size a5 k c5 (pdat l K i)) {a2 : Option Addr} {n2 c2 : Nat} {l2 : List Int} (hR2 : RdAt w2 R U a2 n2 c2 l2) (hst : 0 < n2 → ∀ x, a2 = some x → x.block < w.heap.size) (hg : (W.alloc (.cells bx 76)).grownBy w2 (some R)) (ty : TypeId) (hi : i ≤ 100) :
    w2.heap[W.heap.size]? = some (.cells bx 76 (0, 0)) ∧
    ∃ a4 c4 w4, (Builtin.append_ #[22, 22] ty #[.slice ao i co, .slice (some ⟨w2.heap.size, 0, none⟩) 1 1]).run Try.prog ((w2.setCell ⟨W.heap.size, 2, none⟩ (.slice a5 k c5)).alloc (.cells #[.int .i64 (ppt l i), .int .i64 (pof l i), .slice a5 k c5] 50)) = .ok (.slice a4 (i + 1) c4) w4 ∧
      BRow w4 w1.heap.size a4 (i + 1) c4 (ppt l) (pof l) (pdat l K) ∧ RdAt w4 R U a2 n2 c2 l2 ∧ Keep2 w1 w4 R (some U) := by
  subst hk
  have hz := h.keep.size
  have hzW : W.heap.size + 1 ≤ w2.heap.size := by have := hg.size; simpa using this
  have hb2 : ∀ j, j < W.heap.size → j ≠ R → w2.heap[j]? = W.heap[j]? := fun j hj hne => (hg.block j (by simp; omega) (by intro e; injection e with e; omega)).trans (heap_alloc_old W _ hj)
  have hbx : w2.heap[W.heap.size]? = some (.cells bx 76 (0, 0)) := (hg.block W.heap.size (by simp) (by intro e; injection e with e; omega)).trans (lit_new rfl)
  refine ⟨hbx, ?_⟩
  obtain ⟨w3, hw3⟩ : ∃ w3, w2.setCell ⟨W.heap.size, 2, none⟩ (.slice a5 (pdat l K i).length c5) = w3 := ⟨_, rfl⟩
  have h3 : ∀ j, j ≠ W.heap.size → w3.heap[j]? = w2.heap[j]? := fun j hj => by rw [← hw3]; exact Below.heap_setCell w2 _ _ j hj
  have hz3 : w3.heap.size = w2.heap.size := by rw [← hw3]; simp
  have hab : Above w1.heap.size W w3 := ⟨by omega, fun j h1 h2 => (h3 j (by omega)).trans (hb2 j h2 (by omega))⟩
  have hO3 : Own w3 (W.heap.size + 1) a5 (pdat l K i).length c5 (pdat l K i) := by
    have := hO.above (W' := w3) ⟨by omega, fun j h1 h2 => h3 j (by simp at h1; omega)⟩
    simpa using this
  obtain ⟨a4, c4, w4, hrun, hB4, hg4, hb4⟩ := append_blk w3 ty w1.heap.size ao i co (ppt l) (pof l) (pdat l K) (h.out.above hab) a5 c5 (hO3.mono (by omega)) (fun y z hy hz' => by have := (h.out.blk y hy).2; have := (hO3.blk z hz').1; omega) (by omega) (by omega)
  rw [hw3]
  rw [hz3] at hrun
  have hlow : ∀ j, j < w1.heap.size → w4.heap[j]? = w2.heap[j]? := fun j hj => by
    refine (hg4.block j (by simp; omega) (fun e => ?_)).trans ((heap_alloc_old w3 _ (by omega)).trans (h3 j (by omega)))
    cases ao with
    | none => simp at e
    | some y => have := (h.out.blk y rfl).1; simp at e; omega
  have hz4 : w2.heap.size ≤ w4.heap.size := by have := hg4.size; simp at this; omega
  refine ⟨a4, c4, w4, hrun, hB4, ⟨(hlow R (by omega)).trans hR2.rd, (hlow U (by omega)).trans hR2.run, hR2.ne, hR2.row.same hz4 fun x h0 hx _ => hlow _ (by have := hst h0 x hx; omega), hR2.cap, hR2.far⟩, ?_⟩
  have e3 : w3.os = w2.os ∧ w3.tape = w2.tape ∧ w3.output = w2.output := by rw [← hw3]; exact ⟨rfl, rfl, rfl⟩
  exact ⟨hg4.os.trans (e3.1.trans (hg.os.trans h.keep.os)), hg4.tape.trans (e3.2.1.trans (hg.tape.trans h.keep.tape)), hg4.output.trans (e3.2.2.trans (hg.output.trans h.keep.output)), by omega, fun j hj e1 e2 => (hlow j hj).trans ((hb2 j (by omega) e1).trans (h.keep.block j hj e1 e2))⟩
set_option maxHeartbeats 1000000 in
set_option maxRecDepth 100000 in
theorem readBlocks_ok (R U : Nat) (a : Option Addr) (n c : Nat) (l : List Int) (K : Nat) (w : World) (h : RdAt w R U a n c l) (hK : Good l K) (hn : n ≤ 100000) :
    Calls Try.prog 23 #[.pointer (some ⟨R, 0, none⟩)] w (ParseOk R U 0 [] (fun v W => ∃ ao co, v = .slice ao (K + 1) co ∧ BRow W w.heap.size ao (K + 1) co (ppt l) (pof l) (pdat l K)) w) := by
  have HRH := Lib.hid (readHeaders_ok R U a n c l K w h hK.hd)
  have HH := Lib.hid h; have HK := Lib.hid hK; have HLN := Lib.hid h.row.len; have HOK := Lib.hid h.row.ok
  have hlR := h.ltR; have hlU := h.ltU
  clear h hK
  go_enter Try.func23, Try.ntmps23
  go_wp2_with (go_at_call 33; refine (HRH.out).mono ?_; rintro e w1 ⟨a3, c3, a', c', rfl, ho1, hR1, hK1, hold1⟩)
  obtain ⟨g, rfl, hgb, hgl, hgc, hgcell⟩ := hdr_cells ho1
  have hz1 := hK1.size
  have HCELL : Hid (∀ W, Keep2 w1 W R (some U) → ∀ j u, (hcells l K ++ hlast l K)[j]? = some u → W.cell? ⟨g, j, none⟩ = some u) := Lib.hid fun W hk j u hu => (World.cell?_of_block (w := w1) (a := ⟨g, j, none⟩) (hk.block g hgl (by omega) (by intro e; injection e with e; omega))).trans (hgcell j u hu)
  have B0 : Hid (BL w w1 w1 R U n l K 0 none 0 a' c') := Lib.hid ⟨by rw [bpos, if_pos (Nat.zero_le _)]; exact hR1, by rw [bpos, if_pos (Nat.zero_le _)]; exact hold1, BRow.nil _ _ _ _ _, Keep2.refl _ _ _⟩
  have HK1 := Lib.hid hK1
  clear hgcell ho1 hR1 hold1 hK1
  go_loopw [3, 9] (fun v iv wr => ∃ (i : Nat) (ao : Option Addr) (co : Nat) (a' : Option Addr) (c' : Nat), i ≤ K + 1 ∧ iv = .int .i64 i ∧ v = .slice ao i co ∧ Hid (BL w w1 wr R U n l K i ao co a' c')) (fun _ iv _ => K + 1 - (intOf iv).toNat)
  case atStart => exact ⟨0, none, 0, a', c', Nat.zero_le _, rfl, rfl, B0⟩
  case round =>
    clear B0
    obtain ⟨i, ao, co, a2, c2, hi, rfl, rfl, HP⟩ := hrel
    have hK8 := HK.out.hd.lt
    have hln := HLN.out
    by_cases hlt : i < K
    · have hc := fun j (hj : j < 5) u hu => HCELL.out wr HP.out.keep (i * 5 + j) u ((hcells_at l _ K i j hlt hj).trans hu)
      have h0 := hc 0 (by omega) _ rfl; have h1 := hc 1 (by omega) _ rfl; have h2 := hc 2 (by omega) _ rfl; have h3 := hc 3 (by omega) _ rfl; have h4 := hc 4 (by omega) _ rfl
      rw [Nat.add_zero] at h0
      clear hc
      have hiz : (i : Int) < (K : Int) + 1 := by omega
      have hi0 : (0 : Int) ≤ (i : Int) := by omega
      have hfit := HK.out.fit_i (i := i + 1) (by omega)
      have hdp : dpos l K (i + 1) = dpos l K i + psz l i := by simp only [dpos, psum]; omega
      have hp0 : bpos l K n i = dpos l K i := if_pos (by omega)
      have hp1 : bpos l K n (i + 1) = dpos l K i + psz l i := by rw [bpos, if_pos (by omega), hdp]
      have hrb := rh_bd HOK.out (HK.out.hd.hlen hlt)
      have hdl := HK.out.dlen hlt
      have hpo : pof l i = rh l i / 1024 := by unfold pof; rw [if_pos (HK.out.hd.more i hlt)]
      have hda : pdat l K i = (l.drop (dpos l K i)).take (psz l i) := by unfold pdat; rw [if_pos hlt]
      have hrd := HP.out.rd; have hol := HP.out.old
      rw [hp0] at hrd hol
      have HT := Lib.hid (take_ok R U a2 _ c2 _ (rh l i % 1024) (psz l i) (wr.alloc (.cells #[.int .i64 (ppt l i), .int .i64 (rh l i / 1024), .slice none 0 0, .bool true, .int .i64 (rh l i % 1024)] 76)) (hrd.below ((Below.refl _ wr).alloc (Nat.le_refl _) _)) (by omega) (by omega) (by unfold psz; omega))
      have HNX := Lib.hid fun w2 a5 c5 hO aR nR cR lR hR2 hst hg => HP.out.next (w2 := w2) hlR hlU hz1 #[.int .i64 (ppt l i), .int .i64 (rh l i / 1024), .slice none 0 0, .bool true, .int .i64 (rh l i % 1024)] (k := psz l i) hdl.symm (a5 := a5) (c5 := c5) hO (a2 := aR) (n2 := nR) (c2 := cR) (l2 := lR) hR2 hst hg 22 (by omega)
      go_wp2_with fail
      refine (HT.out).mono ?_
      rintro e w2 ⟨a5, c5, rfl, hO, hR2, hg⟩
      obtain ⟨hbx, a4, c4, w4, hrun, hB4, hR4, hk4⟩ := HNX.out w2 a5 c5 (by rw [hda]; exact hO) _ _ _ _ hR2 (restA_old hol) hg
      rw [hpo] at hrun
      have HRUN := Lib.hid hrun
      have HN : Hid (BL w w1 w4 R U n l K (i + 1) a4 c4 (restA a2 c2 (psz l i)) (c2 - psz l i)) := Lib.hid ⟨by rw [hp1, ← Nat.sub_sub, ← List.drop_drop]; exact hR4, by rw [hp1, ← Nat.sub_sub]; exact restA_old hol, hB4, hk4⟩
      have b0 : w2.cell? ⟨wr.heap.size, 0, none⟩ = some (.int .i64 (ppt l i)) := by rw [cell_of_row w2 _ 0 _ _ _ hbx]; rfl
      have b1 : w2.cell? ⟨wr.heap.size, 1, none⟩ = some (.int .i64 (rh l i / 1024)) := by rw [cell_of_row w2 _ 1 _ _ _ hbx]; rfl
      have b2 : w2.cell? ⟨wr.heap.size, 2, none⟩ = some (.slice none 0 0) := by rw [cell_of_row w2 _ 2 _ _ _ hbx]; rfl
      have fb : ∀ o, w2.frozen? ⟨wr.heap.size, o, none⟩ = false := fun o => frozen_of_row w2 _ o _ _ hbx
      clear hrun hB4 hR4 hk4 hO hR2 hg hbx HNX HT HP hrd hol hda hpo hdl hrb hp0 hp1 hdp hfit h0 h1 h2 h3 h4
      generalize ppt l i = p at *
      generalize rh l i / 1024 = o at *
      generalize rh l i % 1024 = s at *
      generalize psz l i = z at HRUN ⊢
      go_wp2_with (at_builtin; refine Lib.wpList_append_run _ rfl (.tmp 25) (.tmp 28) 22 22 rfl (.slice ao i co) (.slice (some ⟨w2.heap.size, 0, none⟩) 1 1) (by rfl) (by rfl) _ _ HRUN.out ?_)
      go_roundw
      case rel => exact ⟨i + 1, a4, c4, _, _, by omega, by go_num, rfl, HN⟩
      case measure => simp [intOf]; omega
    · by_cases hlt2 : i = K
      · subst hlt2
        have hc := fun j u hu => HCELL.out wr HP.out.keep (i * 5 + j) u ((hlast_at l i j).trans hu)
        have h0 := hc 0 _ rfl; have h1 := hc 1 _ rfl; have h2 := hc 2 _ rfl; have h3 := hc 3 _ rfl; have h4 := hc 4 _ rfl
        rw [Nat.add_zero] at h0
        clear hc
        have hiz : (i : Int) < (i : Int) + 1 := by omega
        have hi0 : (0 : Int) ≤ (i : Int) := by omega
        have hfit := HK.out.fit
        have hp0 : bpos l i n i = dpos l i i := if_pos (by omega)
        have hp1 : bpos l i n (i + 1) = n := by rw [bpos, if_neg (by omega)]
        have hpo : pof l i = 0 := by unfold pof; rw [if_neg (by have := HK.out.hd.last; omega)]
        have hpt : ppt l i = xh l i := by
          have := HK.out.hd.last; have := HOK.out (4 * i)
          unfold ppt xh at *; omega
        have hda : pdat l i i = l.drop (dpos l i i) := by unfold pdat; rw [if_neg (by omega)]
        have hdl : n - dpos l i i = (pdat l i i).length := by rw [hda, List.length_drop]; omega
        have hrd := HP.out.rd; have hol := HP.out.old
        rw [hp0] at hrd hol
        have HT := Lib.hid (rest_ok R U a2 _ c2 _ (wr.alloc (.cells #[.int .i64 (xh l i), .int .i64 0, .slice none 0 0, .bool false, .int .i64 0] 76)) (hrd.below ((Below.refl _ wr).alloc (Nat.le_refl _) _)) (by omega))
        have HNX := Lib.hid fun w2 a5 c5 hO aR nR cR lR hR2 hst hg => HP.out.next (w2 := w2) hlR hlU hz1 #[.int .i64 (xh l i), .int .i64 0, .slice none 0 0, .bool false, .int .i64 0] (k := n - dpos l i i) hdl (a5 := a5) (c5 := c5) hO (a2 := aR) (n2 := nR) (c2 := cR) (l2 := lR) hR2 hst hg 22 (by omega)
        go_wp2_with fail
        refine (HT.out).mono ?_
        rintro e w2 ⟨a5, c5, rfl, hO, hR2, hg⟩
        have htk : (l.drop (dpos l i i)).take (n - dpos l i i) = l.drop (dpos l i i) := List.take_of_length_le (by rw [List.length_drop]; omega)
        obtain ⟨hbx, a4, c4, w4, hrun, hB4, hR4, hk4⟩ := HNX.out w2 a5 c5 (by rw [hda, ← htk]; exact hO) _ _ _ _ hR2 (restA_old hol) hg
        rw [hpo, hpt] at hrun
        have HRUN := Lib.hid hrun
        have hl0 : l.drop n = [] := List.drop_of_length_le (by omega)
        have HN : Hid (BL w w1 w4 R U n l i (i + 1) a4 c4 (restA a2 c2 (n - dpos l i i)) (c2 - (n - dpos l i i))) := Lib.hid ⟨by
            rw [hp1, hl0]
            rw [List.drop_drop, show dpos l i i + (n - dpos l i i) = n from by omega, hl0, show n - dpos l i i - (n - dpos l i i) = n - n from by omega] at hR4
            exact hR4, fun h => by rw [hp1] at h; omega, hB4, hk4⟩
        have b0 : w2.cell? ⟨wr.heap.size, 0, none⟩ = some (.int .i64 (xh l i)) := by rw [cell_of_row w2 _ 0 _ _ _ hbx]; rfl
        have b1 : w2.cell? ⟨wr.heap.size, 1, none⟩ = some (.int .i64 0) := by rw [cell_of_row w2 _ 1 _ _ _ hbx]; rfl
        have b2 : w2.cell? ⟨wr.heap.size, 2, none⟩ = some (.slice none 0 0) := by rw [cell_of_row w2 _ 2 _ _ _ hbx]; rfl
        have fb : ∀ o, w2.frozen? ⟨wr.heap.size, o, none⟩ = false := fun o => frozen_of_row w2 _ o _ _ hbx
        clear hrun hB4 hR4 hk4 hO hR2 hg hbx HNX HT HP hrd hol hda hpo hdl hp0 hp1 hfit h0 h1 h2 h3 h4 hpt htk hl0
        generalize xh l i = p at *
        generalize n - dpos l i i = z at HRUN HN ⊢
        go_wp2_with (at_builtin; refine Lib.wpList_append_run _ rfl (.tmp 25) (.tmp 28) 22 22 rfl (.slice ao i co) (.slice (some ⟨w2.heap.size, 0, none⟩) 1 1) (by rfl) (by rfl) _ _ HRUN.out ?_)
        go_roundw
        case rel => exact ⟨i + 1, a4, c4, _, _, by omega, by go_num, rfl, HN⟩
        case measure => simp [intOf]
      · obtain rfl : i = K + 1 := by omega
        have hiz : ¬ ((K + 1 : Nat) : Int) < (K : Int) + 1 := by omega
        have hp1 : bpos l K n (K + 1) = n := by rw [bpos, if_neg (by omega)]
        have hrd := HP.out.rd
        rw [hp1, List.drop_of_length_le (by omega), Nat.sub_self] at hrd
        have hout := HP.out.out; have hkp := HP.out.keep
        have HFIN : Hid (ParseOk R U 0 [] (fun v W => ∃ ao co, v = .slice ao (K + 1) co ∧ BRow W w.heap.size ao (K + 1) co (ppt l) (pof l) (pdat l K)) w (.returned (.slice ao (K + 1) co)) wr) := Lib.hid ⟨_, _, _, rfl, hrd, keep2_trans HK1.out hkp, ao, co, rfl, hout.mono hz1⟩
        clear hrd hout hkp HP hp1
        go_wp2_with fail
        go_ret
        exact HFIN.out
end Go.Proofs.Ytfmabpddacfbcaa
