/-
  Every bytes are a good chain, or break off in the headers, or break off in the data.
-/
import Derived.Test.YtfmabpddacfbcaaRedParse
namespace Go.Proofs.Ytfmabpddacfbcaa
open Go.RowKit Go.Shelf
set_option linter.unusedVariables false
theorem red_upto (l : List Int) : ∀ i, i ≤ 8 → (∀ j, j < i → 4 * j + 4 ≤ l.length ∧ 128 ≤ xh l j) ∨ (∃ K, HdOk l K) ∨ (∃ f K, HBad l f K)
  | 0, _ => .inl fun j hj => by omega
  | i + 1, hi => by
    rcases red_upto l i (by omega) with h | h | h
    · by_cases h1 : l.length ≤ 4 * i
      · exact .inr (.inr ⟨20, i, by omega, h, .inl ⟨rfl, .inl h1⟩⟩)
      by_cases h2 : xh l i < 128
      · exact .inr (.inl ⟨i, by omega, by omega, h2, fun j hj => (h j hj).2⟩)
      by_cases h3 : l.length < 4 * i + 4
      · exact .inr (.inr ⟨20, i, by omega, h, .inl ⟨rfl, .inr ⟨h3, by omega⟩⟩⟩)
      · refine .inl fun j hj => ?_
        by_cases e : j = i
        · subst e; exact ⟨by omega, by omega⟩
        · exact h j (by omega)
    · exact .inr (.inl h)
    · exact .inr (.inr h)
/-- The data breaks off. -/
structure DBad (l : List Int) (K j : Nat) : Prop where
  hd : HdOk l K
  lt : j < K
  at_ : dpos l K j ≤ l.length
  no : l.length < dpos l K (j + 1)
theorem dbad_of {l : List Int} {K : Nat} (h : HdOk l K) : ∀ i, i ≤ K → l.length < dpos l K i → ∃ j, DBad l K j
  | 0, _, hl => by have := h.len; simp only [dpos, psum] at hl; omega
  | i + 1, hi, hl => by
    by_cases e : dpos l K i ≤ l.length
    · exact ⟨i, h, by omega, e, hl⟩
    · exact dbad_of h i (by omega) (by omega)
theorem red_cases (l : List Int) : (∃ K, Good l K) ∨ (∃ f K, HBad l f K) ∨ (∃ K j, DBad l K j) := by
  rcases red_upto l 8 (by omega) with h | ⟨K, h⟩ | h
  · by_cases h1 : l.length ≤ 32
    · exact .inr (.inl ⟨20, 8, by omega, h, .inl ⟨rfl, .inl h1⟩⟩)
    by_cases h2 : xh l 8 < 128
    · exact .inr (.inl ⟨3, 8, by omega, h, .inr ⟨rfl, rfl, by omega, .inl h2⟩⟩)
    by_cases h3 : l.length < 36
    · exact .inr (.inl ⟨20, 8, by omega, h, .inl ⟨rfl, .inr ⟨h3, by omega⟩⟩⟩)
    · exact .inr (.inl ⟨3, 8, by omega, h, .inr ⟨rfl, rfl, by omega, .inr (by omega)⟩⟩)
  · by_cases e : dpos l K K ≤ l.length
    · exact .inl ⟨K, h, e⟩
    · obtain ⟨j, hj⟩ := dbad_of h K (Nat.le_refl _) (by omega)
      exact .inr (.inr ⟨K, j, hj⟩)
  · exact .inr (.inl h)
end Go.Proofs.Ytfmabpddacfbcaa
namespace Go.Proofs.Ytfmabpddacfbcaa
open Go.RowKit Go.Shelf
set_option linter.unusedVariables false
theorem DBad.fit_i {l : List Int} {K j : Nat} (h : DBad l K j) {i : Nat} (hi : i ≤ j) : dpos l K i ≤ l.length := Nat.le_trans (by unfold dpos; have := psum_le (psz l) hi; omega) h.at_
theorem DBad.dlen {l : List Int} {K j : Nat} (h : DBad l K j) {i : Nat} (hi : i < j) : (pdat l K i).length = psz l i := by
  unfold pdat
  rw [if_pos (by have := h.lt; omega), List.length_take, List.length_drop]
  have h1 := h.fit_i (i := i + 1) (by omega)
  have : dpos l K (i + 1) = dpos l K i + psz l i := by simp only [dpos, psum]; omega
  omega
set_option maxHeartbeats 1000000 in
set_option maxRecDepth 100000 in
theorem readBlocks_dno (R U : Nat) (a : Option Addr) (n c : Nat) (l : List Int) (K j : Nat) (w : World) (h : RdAt w R U a n c l) (hK : DBad l K j) (hn : n ≤ 100000) :
    Calls Try.prog 23 #[.pointer (some ⟨R, 0, none⟩)] w (ParseFail R U 20 w) := by
  have HRH := Lib.hid (readHeaders_ok R U a n c l K w h hK.hd)
  have HH := Lib.hid h; have HK := Lib.hid hK; have HLN := Lib.hid h.row.len; have HOK := Lib.hid h.row.ok
  have hlR := h.ltR; have hlU := h.ltU
  clear h hK
  go_enter Try.func23, Try.ntmps23
  go_wp2_with (go_at_call 33; refine (HRH.out).mono ?_; rintro e w1 ⟨a3, c3, a', c', rfl, ho1, hR1, hK1, hold1⟩)
  obtain ⟨g, rfl, hgb, hgl, hgc, hgcell⟩ := hdr_cells ho1
  have hz1 := hK1.size
  have HCELL : Hid (∀ W, Keep2 w1 W R (some U) → ∀ j u, (hcells l K ++ hlast l K)[j]? = some u → W.cell? ⟨g, j, none⟩ = some u) := Lib.hid fun W hk j u hu => (World.cell?_of_block (w := w1) (a := ⟨g, j, none⟩) (hk.block g hgl (by omega) (by intro e; injection e with e; omega))).trans (hgcell j u hu)
  have B0 : Hid (BL w w1 w1 R U n l K 0 none 0 a' c') := Lib.hid ⟨by rw [bpos, if_pos (Nat.zero_le _)]; exact hR1, by rw [bpos, if_pos (Nat.zero_le _)]; exact hold1, BRow.nil _ _ _ _ _, Keep2.refl _ _ _⟩
  have HK1 := Lib.hid hK1
  clear hgcell ho1 hR1 hold1 hK1
  go_loopw [3, 9] (fun v iv wr => ∃ (i : Nat) (ao : Option Addr) (co : Nat) (a' : Option Addr) (c' : Nat), i ≤ j ∧ iv = .int .i64 i ∧ v = .slice ao i co ∧ Hid (BL w w1 wr R U n l K i ao co a' c')) (fun _ iv _ => K + 1 - (intOf iv).toNat)
  case atStart => exact ⟨0, none, 0, a', c', Nat.zero_le _, rfl, rfl, B0⟩
  case round =>
    clear B0
    obtain ⟨i, ao, co, a2, c2, hi, rfl, rfl, HP⟩ := hrel
    have hK8 := HK.out.hd.lt
    have hjK := HK.out.lt
    have hln := HLN.out
    by_cases hlj : i < j
    · have hlt : i < K := by omega
      have hc := fun j (hj : j < 5) u hu => HCELL.out wr HP.out.keep (i * 5 + j) u ((hcells_at l _ K i j hlt hj).trans hu)
      have h0 := hc 0 (by omega) _ rfl; have h1 := hc 1 (by omega) _ rfl; have h2 := hc 2 (by omega) _ rfl; have h3 := hc 3 (by omega) _ rfl; have h4 := hc 4 (by omega) _ rfl
      rw [Nat.add_zero] at h0
      clear hc
      have hiz : (i : Int) < (K : Int) + 1 := by omega
      have hi0 : (0 : Int) ≤ (i : Int) := by omega
      have hfit := HK.out.fit_i (i := i + 1) (by omega)
      have hdp : dpos l K (i + 1) = dpos l K i + psz l i := by simp only [dpos, psum]; omega
      have hp0 : bpos l K n i = dpos l K i := if_pos (by omega)
      have hp1 : bpos l K n (i + 1) = dpos l K i + psz l i := by rw [bpos, if_pos (by omega), hdp]
      have hrb := rh_bd HOK.out (HK.out.hd.hlen hlt)
      have hdl := HK.out.dlen hlj
      have hpo : pof l i = rh l i / 1024 := by unfold pof; rw [if_pos (HK.out.hd.more i hlt)]
      have hda : pdat l K i = (l.drop (dpos l K i)).take (psz l i) := by unfold pdat; rw [if_pos hlt]
      have hrd := HP.out.rd; have hol := HP.out.old
      rw [hp0] at hrd hol
      have HT := Lib.hid (take_ok R U a2 _ c2 _ (rh l i % 1024) (psz l i) (wr.alloc (.cells #[.int .i64 (ppt l i), .int .i64 (rh l i / 1024), .slice none 0 0, .bool true, .int .i64 (rh l i % 1024)] 76)) (hrd.below ((Below.refl _ wr).alloc (Nat.le_refl _) _)) (by omega) (by omega) (by unfold psz; omega))
      have HNX := Lib.hid fun w2 a5 c5 hO aR nR cR lR hR2 hst hg => HP.out.next (w2 := w2) hlR hlU hz1 #[.int .i64 (ppt l i), .int .i64 (rh l i / 1024), .slice none 0 0, .bool true, .int .i64 (rh l i % 1024)] (k := psz l i) hdl.symm (a5 := a5) (c5 := c5) hO (a2 := aR) (n2 := nR) (c2 := cR) (l2 := lR) hR2 hst hg 22 (by omega)
      go_wp2_with fail
      refine (HT.out).mono ?_
      rintro e w2 ⟨a5, c5, rfl, hO, hR2, hg⟩
      obtain ⟨hbx, a4, c4, w4, hrun, hB4, hR4, hk4⟩ := HNX.out w2 a5 c5 (by rw [hda]; exact hO) _ _ _ _ hR2 (restA_old hol) hg
      rw [hpo] at hrun
      have HRUN := Lib.hid hrun
      have HN : Hid (BL w w1 w4 R U n l K (i + 1) a4 c4 (restA a2 c2 (psz l i)) (c2 - psz l i)) := Lib.hid ⟨by rw [hp1, ← Nat.sub_sub, ← List.drop_drop]; exact hR4, by rw [hp1, ← Nat.sub_sub]; exact restA_old hol, hB4, hk4⟩
      have b0 : w2.cell? ⟨wr.heap.size, 0, none⟩ = some (.int .i64 (ppt l i)) := by rw [cell_of_row w2 _ 0 _ _ _ hbx]; rfl
      have b1 : w2.cell? ⟨wr.heap.size, 1, none⟩ = some (.int .i64 (rh l i / 1024)) := by rw [cell_of_row w2 _ 1 _ _ _ hbx]; rfl
      have b2 : w2.cell? ⟨wr.heap.size, 2, none⟩ = some (.slice none 0 0) := by rw [cell_of_row w2 _ 2 _ _ _ hbx]; rfl
      have fb : ∀ o, w2.frozen? ⟨wr.heap.size, o, none⟩ = false := fun o => frozen_of_row w2 _ o _ _ hbx
      clear hrun hB4 hR4 hk4 hO hR2 hg hbx HNX HT HP hrd hol hda hpo hdl hrb hp0 hp1 hdp hfit h0 h1 h2 h3 h4
      generalize ppt l i = p at *
      generalize rh l i / 1024 = o at *
      generalize rh l i % 1024 = s at *
      generalize psz l i = z at HRUN ⊢
      go_wp2_with (at_builtin; refine Lib.wpList_append_run _ rfl (.tmp 25) (.tmp 28) 22 22 rfl (.slice ao i co) (.slice (some ⟨w2.heap.size, 0, none⟩) 1 1) (by rfl) (by rfl) _ _ HRUN.out ?_)
      go_roundw
      case rel => exact ⟨i + 1, a4, c4, _, _, by omega, by go_num, rfl, HN⟩
      case measure => simp [intOf]; omega
    · obtain rfl : i = j := by omega
      have hlt : i < K := by omega
      have hc := fun j (hj : j < 5) u hu => HCELL.out wr HP.out.keep (i * 5 + j) u ((hcells_at l _ K i j hlt hj).trans hu)
      have h0 := hc 0 (by omega) _ rfl; have h1 := hc 1 (by omega) _ rfl; have h2 := hc 2 (by omega) _ rfl; have h3 := hc 3 (by omega) _ rfl; have h4 := hc 4 (by omega) _ rfl
      rw [Nat.add_zero] at h0
      clear hc
      have hiz : (i : Int) < (K : Int) + 1 := by omega
      have hi0 : (0 : Int) ≤ (i : Int) := by omega
      have hat := HK.out.at_; have hno := HK.out.no
      have hdp : dpos l K (i + 1) = dpos l K i + psz l i := by simp only [dpos, psum]; omega
      have hp0 : bpos l K n i = dpos l K i := if_pos (by omega)
      have hrb := rh_bd HOK.out (HK.out.hd.hlen hlt)
      have hrd := HP.out.rd
      rw [hp0] at hrd
      have hB : Below wr.heap.size wr (wr.alloc (.cells #[.int .i64 (ppt l i), .int .i64 (rh l i / 1024), .slice none 0 0, .bool true, .int .i64 (rh l i % 1024)] 76)) := (Below.refl _ wr).alloc (Nat.le_refl _) _
      have HT := Lib.hid (take_fail R U a2 _ c2 _ (rh l i % 1024) (wr.alloc (.cells #[.int .i64 (ppt l i), .int .i64 (rh l i / 1024), .slice none 0 0, .bool true, .int .i64 (rh l i % 1024)] 76)) (hrd.below hB) (by
        have : (psz l i : Int) = rh l i % 1024 := by unfold psz; omega
        omega))
      have HKK := Lib.hid (keep2_trans HK1.out (keep2_trans HP.out.keep ⟨hB.os, hB.tape, hB.output, hB.size, fun k hk _ _ => hB.block k hk⟩))
      clear HP hrd hp0 hdp hat hno hB hrb
      go_wp2_with fail
      refine (HT.out).mono ?_
      rintro e w2 ⟨rfl, f1, f2, f3⟩
      exact ⟨rfl, rfl, f1, keep2_trans HKK.out (fail_keep f2 R)⟩
/-- What Parse leaves of any bytes. -/
def PAny (l : List Int) (w : World) (e : Ending) (w' : World) : Prop :=
  (∃ K, Good l K ∧ PBk K l w e w') ∨ (∃ f, (f != 0) = true ∧ e = .returned (.tuple #[.slice none 0 0, .int .i64 f]) ∧ Below w.heap.size w w')
theorem rparse_dno (a : Option Addr) (n c : Nat) (l : List Int) (K j : Nat) (w : World) (hb : BAt w a n l) (hc : n ≤ c) (hK : DBad l K j) (hn : n ≤ 100000) :
    Calls Try.prog 11 #[.slice a n c] w (ReadFail (.slice none 0 0) 20 w) := by
  have hrd := part_rd w a n c l hb hc
  have hp := readBlocks_dno _ _ a n c l K j _ hrd hK hn
  have HR := Lib.hid (read_fail_blk a n c _ #[] 20 w rfl ⟨rb_nil, rb_ent, hp⟩)
  clear hp hrd
  go_enter Try.func11, Try.ntmps11
  go_wp2_with fail
  refine (HR.out).mono ?_
  rintro e w2 ⟨rfl, hB⟩
  have HB := Lib.hid hB; clear hB
  go_wp2_with fail
  exact bodyPost_ret (v := .tuple #[.slice none 0 0, .int .i64 20]) (by simp [results, Try.results11, go_sem]) rfl ⟨rfl, HB.out⟩
theorem rparse_any (a : Option Addr) (n c : Nat) (l : List Int) (w : World) (hb : BAt w a n l) (hc : n ≤ c) (hn : n ≤ 100000) :
    Calls Try.prog 11 #[.slice a n c] w (PAny l w) := by
  rcases red_cases l with ⟨K, h⟩ | ⟨f, K, h⟩ | ⟨K, j, h⟩
  · exact (rparse_ok a n c l K w hb hc h hn).mono fun e w' he => .inl ⟨K, h, he⟩
  · exact (rparse_no a n c l K f w hb hc h hn).mono fun e w' he => .inr ⟨f, by rcases h.bad with ⟨rfl, _⟩ | ⟨rfl, _⟩ <;> rfl, he.1, he.2⟩
  · exact (rparse_dno a n c l K j w hb hc h hn).mono fun e w' he => .inr ⟨20, rfl, he.1, he.2⟩
end Go.Proofs.Ytfmabpddacfbcaa
