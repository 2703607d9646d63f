
/-
  red.readHeaders, red.readBlocks: where they fail; red.Parse.
-/
import Derived.Test.YtfmabpddacfbcaaRedBlocks
import Derived.Test.YtfmabpddacfbcaaWirePartblk
namespace Go.Proofs.Ytfmabpddacfbcaa
open Go.RowKit Go.Shelf
set_option linter.unusedVariables false
/-- The headers break off at number i. -/
structure HBad (l : List Int) (f : Int) (i : Nat) : Prop where
  le : i ≤ 8
  more : ∀ j, j < i → 4 * j + 4 ≤ l.length ∧ 128 ≤ xh l j
  bad : (f = 20 ∧ (l.length ≤ 4 * i ∨ (l.length < 4 * i + 4 ∧ 128 ≤ xh l i))) ∨ (f = 3 ∧ i = 8 ∧ 4 * i < l.length ∧ (xh l i < 128 ∨ 4 * i + 4 ≤ l.length))
set_option maxHeartbeats 1000000 in
set_option maxRecDepth 100000 in
theorem readHeaders_no (R U : Nat) (a : Option Addr) (n c : Nat) (l : List Int) (K : Nat) (f : Int) (w : World) (h : RdAt w R U a n c l) (hK : HBad l f K) :
    Calls Try.prog 33 #[.pointer (some ⟨R, 0, none⟩)] w (ParseFail R U f w) := by
  have HH := Lib.hid h; have HK := Lib.hid hK; have HLN := Lib.hid h.row.len; have HOK := Lib.hid h.row.ok
  have hlR := h.ltR; have hlU := h.ltU
  clear h hK
  go_enter Try.func33, Try.ntmps33
  go_upto_region 2 with (fail)
  go_loopw [3] (fun v wr => ∃ (i : Nat) (ao : Option Addr) (co : Nat) (a' : Option Addr) (c' : Nat), i ≤ K ∧ v = .slice ao i co ∧ Hid (HL w wr R U n l i ao co a' c')) (fun v _ => K + 1 - slLen v)
  case atStart => exact ⟨0, none, 0, a, c, Nat.zero_le _, rfl, Lib.hid (HL.start HH.out)⟩
  case round =>
    obtain ⟨i, ao, co, a', c', hi, rfl, HP⟩ := hrel
    have hk8 := HK.out.le; have hln := HLN.out
    by_cases hlt : i < K
    · have hkl := (HK.out.more i hlt).1
      have h8 : ((i : Int) == 8) = false := by rw [beq_eq_false_iff_ne]; omega
      have HRH := readHeader_more R U a' (n - 4 * i) c' (l.drop (4 * i)) wr HP.out.rd (by omega) (by rw [getD_drop']; exact (HK.out.more i hlt).2) (rh l i) (rh_at l i)
      rw [getD_drop', List.drop_drop, show l.getD (4 * i + 0) 0 % 128 = ppt l i from rfl] at HRH
      have HNX : Hid (∀ w2 a2 c2, RdAt w2 R U a2 (n - 4 * i - 4) c2 (l.drop (4 * i + 4)) → Keep2 wr w2 R (some U) → (∀ B, (0 < n - 4 * i → ∀ x, a' = some x → x.block < B) → 0 < n - 4 * i - 4 → ∀ x, a2 = some x → x.block < B) → _) := Lib.hid fun w2 a2 c2 h1 h2 h3 => HP.out.next hlR hlU h1 h2 h3 (.int .i64 (ppt l i)) (.int .i64 (rh l i / 1024)) (.slice none 0 0) (.bool true) (.int .i64 (rh l i % 1024)) (by intro u hu; simp at hu; rcases hu with rfl | rfl | rfl | rfl | rfl <;> rfl) 73 (by omega)
      have HRH := Lib.hid HRH
      go_wp2_with fail
      refine (HRH.out).mono ?_
      rintro e w2 ⟨a2, c2, rfl, hR2, hK2, hst2⟩
      obtain ⟨a3, c3, w3, hrun, hbx, hR3, hold3, ho3, hk3⟩ := HNX.out _ _ _ hR2 hK2 hst2
      have HRUN := Lib.hid hrun
      have c3c : w3.cell? ⟨w2.heap.size, 3, none⟩ = some (.bool true) := by rw [cell_of_row w3 _ 3 _ _ _ hbx]; rfl
      have HN : Hid (HL w w3 R U n l (i + 1) a3 c3 a2 c2) := Lib.hid ⟨by rw [show n - 4 * (i + 1) = n - 4 * i - 4 from by omega, show 4 * (i + 1) = 4 * i + 4 from by omega]; exact hR3, by rw [show n - 4 * (i + 1) = n - 4 * i - 4 from by omega]; exact hold3, ho3, hk3⟩
      clear hrun hbx hR3 hold3 ho3 hk3 hR2 hK2 hst2 HNX HRH HP hln hkl hk8
      generalize ppt l i = p at HRUN ⊢
      generalize rh l i / 1024 = o at HRUN ⊢
      generalize rh l i % 1024 = s at HRUN ⊢
      unfold hdV
      go_wp2_with (at_builtin; refine Lib.wpList_append_run _ rfl (.tmp 12) (.tmp 14) 73 73 rfl (.slice ao i co) (.slice (some ⟨w2.heap.size + 1, 0, none⟩) 1 1) (by rfl) (by rfl) _ _ HRUN.out ?_)
      go_roundw
      case rel => exact ⟨i + 1, a3, c3, a2, c2, by omega, rfl, HN⟩
      case measure => simp [slLen]; omega
    · obtain rfl : i = K := by omega
      rcases HK.out.bad with ⟨rfl, hb⟩ | ⟨rfl, rfl, hb1, hb2⟩
      · have HRH := Lib.hid (readHeader_short R U a' (n - 4 * i) c' (l.drop (4 * i)) wr HP.out.rd (by
          rw [getD_drop']
          show _ ∨ _ ∧ 128 ≤ xh l i
          omega))
        have hkp := HP.out.keep
        clear HP hln hk8
        go_wp2_with fail
        refine (HRH.out).mono ?_
        rintro e w2 ⟨rfl, f1, f2⟩
        exact ⟨rfl, rfl, f1, keep2_trans hkp f2⟩
      · have HRH : Hid (∃ k v, Calls Try.prog 39 #[.pointer (some ⟨R, 0, none⟩)] wr (HdPost R U a' (n - 4 * 8) k ((l.drop (4 * 8)).drop k) v wr) ∧ ∃ p o m s, v = hdV p o m s) := Lib.hid (by
          by_cases hx : xh l 8 < 128
          · exact ⟨1, _, readHeader_last R U a' (n - 4 * 8) c' (l.drop (4 * 8)) wr HP.out.rd (by omega) (by rw [getD_drop']; exact hx), _, _, _, _, rfl⟩
          · exact ⟨4, _, readHeader_more R U a' (n - 4 * 8) c' (l.drop (4 * 8)) wr HP.out.rd (by omega) (by rw [getD_drop']; show 128 ≤ xh l 8; omega) _ (rh_at l 8), _, _, _, _, rfl⟩)
        obtain ⟨k, v, hr, p, o, m, s, rfl⟩ := HRH.out
        have HR := Lib.hid hr
        have hkp := HP.out.keep
        clear HP hln hk8 hr HRH
        unfold hdV at HR
        go_wp2_with fail
        refine (HR.out).mono ?_
        rintro e w2 ⟨a2, c2, rfl, hR2, hK2, hst2⟩
        have hB2 : ∀ o, Below w2.heap.size w2 (w2.alloc o) := fun o => (Below.refl _ w2).alloc (Nat.le_refl _) _
        have HF := Lib.hid (fun o => fail_nz R U _ _ _ _ 3 _ (hR2.below (hB2 o)) rfl)
        have HKK := Lib.hid (fun o => keep2_trans (keep2_trans hkp hK2) ⟨(hB2 o).os, (hB2 o).tape, (hB2 o).output, (hB2 o).size, fun k hk _ _ => (hB2 o).block k hk⟩)
        clear hB2 hR2 hK2 hst2 hkp HR
        go_wp2_with fail
        refine (HF.out _).mono ?_
        rintro e w3 ⟨rfl, f1, f2, f3⟩
        exact ⟨rfl, rfl, f1, keep2_trans (HKK.out _) (fail_keep f2 R)⟩
theorem attW_size (w : World) (U : Nat) (a : Option Addr) (n c : Nat) : (attW w U a n c).heap.size = w.heap.size + 2 := by simp [attW]
theorem rb_nil (w : World) : (binOp .neq 58 (.func (.func 23) #[] #[]) .nilFunc).run Try.prog w = .ok (.bool true) w := by kernel_rfl
theorem rb_ent (args : Array Value) (w : World) : (callFunc 23 args).run Try.prog w = .ok (.enter 23 args) w := by
  first | kernel_rfl | simp [go_sem]
theorem readBlocks_no (R U : Nat) (a : Option Addr) (n c : Nat) (l : List Int) (K : Nat) (f : Int) (w : World) (h : RdAt w R U a n c l) (hK : HBad l f K) :
    Calls Try.prog 23 #[.pointer (some ⟨R, 0, none⟩)] w (ParseFail R U f w) := by
  have HRH := Lib.hid (readHeaders_no R U a n c l K f w h hK)
  clear h
  go_enter Try.func23, Try.ntmps23
  go_wp2_with fail
  refine (HRH.out).mono ?_
  rintro e w2 ⟨rfl, f1, f2⟩
  exact ⟨rfl, rfl, f1, f2⟩
/-- What Parse leaves of good bytes. -/
def PBk (K : Nat) (l : List Int) (w : World) (e : Ending) (w' : World) : Prop :=
  ∃ ao co, e = .returned (.tuple #[.slice ao (K + 1) co, .int .i64 0]) ∧ BRow w' w.heap.size ao (K + 1) co (ppt l) (pof l) (pdat l K) ∧ Below w.heap.size w w'
theorem BRow.keptR {W W' : World} {base : Nat} {a : Option Addr} {i c : Nat} {xs ys : Nat → Int} {bs : Nat → List Int} {r : Nat} (h : BRow W base a i c xs ys bs) (hg : W.grownBy W' (some r)) (hr : r < base) : BRow W' base a i c xs ys bs :=
  h.above ⟨hg.size, fun k h1 h2 => hg.block k h2 (by intro e; injection e with e; omega)⟩
theorem rparse_ok (a : Option Addr) (n c : Nat) (l : List Int) (K : Nat) (w : World) (hb : BAt w a n l) (hc : n ≤ c) (hK : Good l K) (hn : n ≤ 100000) :
    Calls Try.prog 11 #[.slice a n c] w (PBk K l w) := by
  have hrd := part_rd w a n c l hb hc
  have hp := readBlocks_ok _ _ a n c l K _ hrd hK hn
  have HR := Lib.hid (read_ok_blk a n c _ #[] [] _ w (by omega) ⟨rb_nil, rb_ent, hp⟩)
  clear hp hrd
  go_enter Try.func11, Try.ntmps11
  go_wp2_with fail
  refine (HR.out).mono ?_
  rintro e w2 ⟨v, w1, rfl, ⟨ao, co, rfl, hG⟩, hg, hB, hz⟩
  have h1 := attW_size (runW w) w.heap.size a n c
  have h2 := runW_size w
  have HF : Hid (PBk K l w (.returned (.tuple #[.slice ao (K + 1) co, .int .i64 0])) w2) := Lib.hid ⟨ao, co, rfl, (hG.keptR hg (by omega)).mono (by omega), hB⟩
  clear hG hg hB hz h1 h2
  go_wp2_with fail
  exact bodyPost_ret (v := .tuple #[.slice ao (K + 1) co, .int .i64 0]) (by simp [results, Try.results11, go_sem]) rfl HF.out
theorem rparse_no (a : Option Addr) (n c : Nat) (l : List Int) (K : Nat) (f : Int) (w : World) (hb : BAt w a n l) (hc : n ≤ c) (hK : HBad l f K) (hn : n ≤ 100000) :
    Calls Try.prog 11 #[.slice a n c] w (ReadFail (.slice none 0 0) f w) := by
  have hrd := part_rd w a n c l hb hc
  have hp := readBlocks_no _ _ a n c l K f _ hrd hK
  have hf : (f != 0) = true := by rcases hK.bad with ⟨rfl, _⟩ | ⟨rfl, _⟩ <;> rfl
  have HR := Lib.hid (read_fail_blk a n c _ #[] f w hf ⟨rb_nil, rb_ent, hp⟩)
  clear hp hrd
  go_enter Try.func11, Try.ntmps11
  go_wp2_with fail
  refine (HR.out).mono ?_
  rintro e w2 ⟨rfl, hB⟩
  have HB := Lib.hid hB; clear hB
  go_wp2_with fail
  exact bodyPost_ret (v := .tuple #[.slice none 0 0, .int .i64 f]) (by simp [results, Try.results11, go_sem]) rfl ⟨rfl, HB.out⟩
end Go.Proofs.Ytfmabpddacfbcaa
