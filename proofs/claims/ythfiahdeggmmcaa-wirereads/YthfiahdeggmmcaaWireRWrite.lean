/-
  What steps write, by the reference.
-/
import Derived.Test.YthfiahdeggmmcaaWireWrite
namespace Go.Proofs.Ythfiahdeggmmcaa
open Go.RowKit Go.Shelf
set_option linter.unusedVariables false
theorem join_two (w : World) (a b : Option Addr) (n m c d : Nat) (la lb : List Int) (ha : BAt w a n la) (hb : BAt w b m lb) (hn : n ≤ 100000000) (hm : m ≤ 100000000) :
    Calls Try.prog 63 #[.slice (some ⟨w.heap.size, 0, none⟩) 2 2] (w.alloc (.cells #[.slice a n c, .slice b m d] 22)) (NewB (n + m) (la ++ lb) (w.alloc (.cells #[.slice a n c, .slice b m d] 22))) := by
  have h := join_any (some ⟨w.heap.size, 0, none⟩) 2 2 [la, lb] _ (rat_two w a b n m c d la lb ha hb (by omega) (by omega)) (by decide) (fun l hl => by
    simp at hl
    rcases hl with rfl | rfl
    · rw [ha.len]; exact hn
    · rw [hb.len]; exact hm) (n + m) (by simp [ha.len, hb.len])
  simpa using h
set_option maxHeartbeats 2000000 in
set_option maxRecDepth 100000 in
theorem rwrite_any (a0 : Option Addr) (n0 c0 : Nat) (ks ns : Nat → Int) (a1 : Option Addr) (n1 c1 : Nat) (xs : Nat → Int) (A : Nat → Option Addr) (L C : Nat → Nat) (bs : Nat → List Int) (w : World)
    (hs : StAt w a0 n0 ks ns) (hg : GtAt w a1 n1 xs A L C bs) (hn0 : n0 ≤ 100) (hn1 : n1 ≤ 9223372036854775807) (hL : ∀ i, i < n0 → i < n1 → L i ≤ 200) (m : Nat) (hm : min n0 n1 = m) (N : Nat) (hN : (Wr ks xs bs m).length = N) :
    Calls Try.prog 23 #[.slice a0 n0 c0, .slice a1 n1 c1] w (NewB N (Wr ks xs bs m) w) := by
  have HS := Lib.hid hs; have HG := Lib.hid hg; have HL := Lib.hid hL; have HM := Lib.hid hm; have HN := Lib.hid hN; clear hs hg hL hm hN
  go_enter Try.func23, Try.ntmps23
  go_wp2
  go_loopw [5, 6] (fun s iv wr => ∃ (i n' : Nat) (a' : Option Addr) (c' : Nat), i ≤ n0 ∧ i ≤ n1 ∧ n' ≤ 200 * i ∧ iv = .int .i64 i ∧ s = .slice a' n' c' ∧ Hid (Own wr w.heap.size a' n' c' (Wr ks xs bs i) ∧ Below w.heap.size w wr)) (fun _ iv _ => n0 - (intOf iv).toNat)
  case atStart => exact ⟨0, 0, _, _, Nat.zero_le _, Nat.zero_le _, Nat.zero_le _, rfl, rfl, Lib.hid ⟨own_nil w _ (Nat.le_refl _), (Below.refl _ w).alloc (Nat.le_refl _) _⟩⟩
  case round =>
    obtain ⟨i, n', a', c', hi0, hi1, hn', rfl, rfl, HW⟩ := hrel
    by_cases hlt : i < n0 ∧ i < n1
    · obtain ⟨hlt, hlt1⟩ := hlt
      have hltz : (i : Int) < (n0 : Int) := by omega
      have hlt1z : (i : Int) < (n1 : Int) := by omega
      obtain ⟨b0, o0, hr0⟩ := HS.out
      obtain ⟨rfl, hb0, k0, k1⟩ := hr0 i hlt
      have d0 : wr.cell? ⟨b0, o0 + i * 2, none⟩ = some (.int .i64 (ks i)) := (HW.out.2.cell (p := ⟨b0, o0 + i * 2, none⟩) hb0).trans k0
      clear hr0 k0 k1
      obtain ⟨k, hk⟩ : ∃ k, ks i = k := ⟨_, rfl⟩
      rw [hk] at d0
      have HK := Lib.hid hk; clear hk
      obtain ⟨b1, o1, hr1⟩ := HG.out
      obtain ⟨rfl, hb1, g0, g1, hx0, hx1, hba⟩ := hr1 i hlt1
      have e0 : wr.cell? ⟨b1, o1 + i * 2, none⟩ = some (.int .u64 (xs i)) := (HW.out.2.cell (p := ⟨b1, o1 + i * 2, none⟩) hb1).trans g0
      have e1 : wr.cell? ⟨b1, o1 + i * 2 + 1, none⟩ = some (.slice (A i) (L i) (C i)) := (HW.out.2.cell (p := ⟨b1, o1 + i * 2 + 1, none⟩) hb1).trans g1
      have hli := HL.out i hlt hlt1
      have hba := hba.below HW.out.2
      obtain ⟨x, hx⟩ : ∃ x, xs i = x := ⟨_, rfl⟩
      obtain ⟨bi, hbi⟩ : ∃ x, bs i = x := ⟨_, rfl⟩
      rw [hx] at e0 hx0 hx1
      rw [hbi] at hba
      have HX := Lib.hid hx; have HBI := Lib.hid hbi; have HBA := Lib.hid hba
      clear hr1 g0 g1 hx hbi hba
      generalize A i = ai at e1 HBA
      generalize L i = li at e1 HBA hli
      generalize C i = ci at e1
      rcases (show k = 1 ∨ k = 2 ∨ k = 4 ∨ k = 8 ∨ k = 0 ∨ (k ≠ 1 ∧ k ≠ 2 ∧ k ≠ 4 ∧ k ≠ 8 ∧ k ≠ 0) by omega) with h | h | h | h | h | h
      · obtain rfl : k = 1 := by assumption
        have hst : Wr ks xs bs (i + 1) = Wr ks xs bs i ++ Big 1 x := by show Wr ks xs bs i ++ wr1 (ks i) (xs i) (bs i) = _; rw [HK.out, HX.out]; rfl
        have HSTP := Lib.hid hst; clear hst
        have hbig := rbig_any x 1 wr hx0 hx1 (by decide)
        have HBIG := Lib.hid hbig; clear hbig
        go_wp2_with fail
        refine (HBIG.out).mono ?_
        rintro e w4 ⟨a4, c4, rfl, hO4, hB4⟩
        have hj := join_two w4 a' a4 n' 1 c' c4 _ _ (HW.out.1.bat.below hB4) hO4.bat (by omega) (by omega)
        have HJ := Lib.hid hj; have HB4 := Lib.hid hB4; clear hj hO4 hB4
        go_wp2_with fail
        refine (HJ.out).mono ?_
        rintro e w5 ⟨a5, c5, rfl, hO5, hB5⟩
        have hB : Below w.heap.size w w5 := ((HW.out.2.trans (HB4.out.mono HW.out.2.size)).alloc (Nat.le_trans HW.out.2.size HB4.out.size) _).trans (hB5.mono (by have := HW.out.2.size; have := HB4.out.size; simp; omega))
        have HO5 := Lib.hid (hO5.mono (show w.heap.size ≤ _ by have := HW.out.2.size; have := HB4.out.size; simp; omega)); have HB5 := Lib.hid hB; clear hO5 hB5 hB
        go_wp2
        go_roundw
        case rel => exact ⟨i + 1, n' + 1, a5, c5, by omega, by omega, by omega, by go_num, rfl, Lib.hid ⟨HSTP.out ▸ HO5.out, HB5.out⟩⟩
        case measure => simp [intOf]; omega
      · obtain rfl : k = 2 := by assumption
        have hst : Wr ks xs bs (i + 1) = Wr ks xs bs i ++ Big 2 x := by show Wr ks xs bs i ++ wr1 (ks i) (xs i) (bs i) = _; rw [HK.out, HX.out]; rfl
        have HSTP := Lib.hid hst; clear hst
        have hbig := rbig_any x 2 wr hx0 hx1 (by decide)
        have HBIG := Lib.hid hbig; clear hbig
        go_wp2_with fail
        refine (HBIG.out).mono ?_
        rintro e w4 ⟨a4, c4, rfl, hO4, hB4⟩
        have hj := join_two w4 a' a4 n' 2 c' c4 _ _ (HW.out.1.bat.below hB4) hO4.bat (by omega) (by omega)
        have HJ := Lib.hid hj; have HB4 := Lib.hid hB4; clear hj hO4 hB4
        go_wp2_with fail
        refine (HJ.out).mono ?_
        rintro e w5 ⟨a5, c5, rfl, hO5, hB5⟩
        have hB : Below w.heap.size w w5 := ((HW.out.2.trans (HB4.out.mono HW.out.2.size)).alloc (Nat.le_trans HW.out.2.size HB4.out.size) _).trans (hB5.mono (by have := HW.out.2.size; have := HB4.out.size; simp; omega))
        have HO5 := Lib.hid (hO5.mono (show w.heap.size ≤ _ by have := HW.out.2.size; have := HB4.out.size; simp; omega)); have HB5 := Lib.hid hB; clear hO5 hB5 hB
        go_wp2
        go_roundw
        case rel => exact ⟨i + 1, n' + 2, a5, c5, by omega, by omega, by omega, by go_num, rfl, Lib.hid ⟨HSTP.out ▸ HO5.out, HB5.out⟩⟩
        case measure => simp [intOf]; omega
      · obtain rfl : k = 4 := by assumption
        have hst : Wr ks xs bs (i + 1) = Wr ks xs bs i ++ Big 4 x := by show Wr ks xs bs i ++ wr1 (ks i) (xs i) (bs i) = _; rw [HK.out, HX.out]; rfl
        have HSTP := Lib.hid hst; clear hst
        have hbig := rbig_any x 4 wr hx0 hx1 (by decide)
        have HBIG := Lib.hid hbig; clear hbig
        go_wp2_with fail
        refine (HBIG.out).mono ?_
        rintro e w4 ⟨a4, c4, rfl, hO4, hB4⟩
        have hj := join_two w4 a' a4 n' 4 c' c4 _ _ (HW.out.1.bat.below hB4) hO4.bat (by omega) (by omega)
        have HJ := Lib.hid hj; have HB4 := Lib.hid hB4; clear hj hO4 hB4
        go_wp2_with fail
        refine (HJ.out).mono ?_
        rintro e w5 ⟨a5, c5, rfl, hO5, hB5⟩
        have hB : Below w.heap.size w w5 := ((HW.out.2.trans (HB4.out.mono HW.out.2.size)).alloc (Nat.le_trans HW.out.2.size HB4.out.size) _).trans (hB5.mono (by have := HW.out.2.size; have := HB4.out.size; simp; omega))
        have HO5 := Lib.hid (hO5.mono (show w.heap.size ≤ _ by have := HW.out.2.size; have := HB4.out.size; simp; omega)); have HB5 := Lib.hid hB; clear hO5 hB5 hB
        go_wp2
        go_roundw
        case rel => exact ⟨i + 1, n' + 4, a5, c5, by omega, by omega, by omega, by go_num, rfl, Lib.hid ⟨HSTP.out ▸ HO5.out, HB5.out⟩⟩
        case measure => simp [intOf]; omega
      · obtain rfl : k = 8 := by assumption
        have hst : Wr ks xs bs (i + 1) = Wr ks xs bs i ++ Big 8 x := by show Wr ks xs bs i ++ wr1 (ks i) (xs i) (bs i) = _; rw [HK.out, HX.out]; rfl
        have HSTP := Lib.hid hst; clear hst
        have hbig := rbig_any x 8 wr hx0 hx1 (by decide)
        have HBIG := Lib.hid hbig; clear hbig
        go_wp2_with fail
        refine (HBIG.out).mono ?_
        rintro e w4 ⟨a4, c4, rfl, hO4, hB4⟩
        have hj := join_two w4 a' a4 n' 8 c' c4 _ _ (HW.out.1.bat.below hB4) hO4.bat (by omega) (by omega)
        have HJ := Lib.hid hj; have HB4 := Lib.hid hB4; clear hj hO4 hB4
        go_wp2_with fail
        refine (HJ.out).mono ?_
        rintro e w5 ⟨a5, c5, rfl, hO5, hB5⟩
        have hB : Below w.heap.size w w5 := ((HW.out.2.trans (HB4.out.mono HW.out.2.size)).alloc (Nat.le_trans HW.out.2.size HB4.out.size) _).trans (hB5.mono (by have := HW.out.2.size; have := HB4.out.size; simp; omega))
        have HO5 := Lib.hid (hO5.mono (show w.heap.size ≤ _ by have := HW.out.2.size; have := HB4.out.size; simp; omega)); have HB5 := Lib.hid hB; clear hO5 hB5 hB
        go_wp2
        go_roundw
        case rel => exact ⟨i + 1, n' + 8, a5, c5, by omega, by omega, by omega, by go_num, rfl, Lib.hid ⟨HSTP.out ▸ HO5.out, HB5.out⟩⟩
        case measure => simp [intOf]; omega
      · obtain rfl : k = 0 := by assumption
        have hst : Wr ks xs bs (i + 1) = Wr ks xs bs i ++ bi := by show Wr ks xs bs i ++ wr1 (ks i) (xs i) (bs i) = _; rw [HK.out, HBI.out]; rfl
        have HSTP := Lib.hid hst; clear hst
        have hj := join_two wr a' ai n' li c' ci _ _ HW.out.1.bat HBA.out (by omega) (by omega)
        have HJ := Lib.hid hj; clear hj
        go_wp2_with fail
        refine (HJ.out).mono ?_
        rintro e w5 ⟨a5, c5, rfl, hO5, hB5⟩
        have hB : Below w.heap.size w w5 := (HW.out.2.alloc HW.out.2.size _).trans (hB5.mono (by have := HW.out.2.size; simp; omega))
        have HO5 := Lib.hid (hO5.mono (show w.heap.size ≤ _ by have := HW.out.2.size; simp; omega)); have HB5 := Lib.hid hB; clear hO5 hB5 hB
        go_wp2
        go_roundw
        case rel => exact ⟨i + 1, n' + li, a5, c5, by omega, by omega, by omega, by go_num, rfl, Lib.hid ⟨HSTP.out ▸ HO5.out, HB5.out⟩⟩
        case measure => simp [intOf]; omega
      · obtain ⟨h1, h2, h4, h8, hz⟩ := h
        have f1 : (k == 1) = false := by simpa using h1
        have f2 : (k == 2) = false := by simpa using h2
        have f4 : (k == 4) = false := by simpa using h4
        have f8 : (k == 8) = false := by simpa using h8
        have f0 : (k == 0) = false := by simpa using hz
        have hst : Wr ks xs bs (i + 1) = Wr ks xs bs i := by
          show Wr ks xs bs i ++ wr1 (ks i) (xs i) (bs i) = _
          rw [HK.out]; unfold wr1; rw [if_neg h1, if_neg h2, if_neg h4, if_neg h8, if_neg hz, List.append_nil]
        have HSTP := Lib.hid hst
        clear hst h1 h2 h4 h8 hz
        go_wp2
        go_roundw
        case rel => exact ⟨i + 1, n', a', c', by omega, by omega, by omega, by go_num, rfl, Lib.hid ⟨HSTP.out ▸ HW.out.1, HW.out.2⟩⟩
        case measure => simp [intOf]; omega
    · have him : i = m := by have := HM.out; omega
      have hO := HW.out.1
      have hln := hO.len
      rw [him, HN.out] at hln
      rw [him] at hO
      subst hln
      have HO := Lib.hid hO
      clear hO him
      by_cases h1 : (i : Int) < (n0 : Int)
      · have h2 : ¬ (i : Int) < (n1 : Int) := by omega
        clear hlt
        go_wp2
        go_ret
        exact ⟨_, _, rfl, HO.out, HW.out.2⟩
      · clear hlt
        go_wp2
        go_ret
        exact ⟨_, _, rfl, HO.out, HW.out.2⟩
end Go.Proofs.Ythfiahdeggmmcaa
