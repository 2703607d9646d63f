
/-
  confluxlaw06.alive.
-/
import Derived.Test.YtfmabpddacfbcaaRedAl0
namespace Go.Proofs.Ytfmabpddacfbcaa
open Go.RowKit Go.Shelf
set_option linter.unusedVariables false
attribute [local go_sem] Oper.semAt_some
theorem a6_os (W : World) (base : Nat) (oo : Option Addr) (oc : Nat) (OA : Nat → Option Addr) (OC : Nat → Nat) (h : W.ownsRow base 36 11 (.slice oo 1 oc) 1 (ocells (ppt rl6) (pof rl6) 10 3 OA OC (pdat rl6 1) 1)) :
    ∃ g, oo = some ⟨g, 0, none⟩ ∧ W.cell? ⟨g, 1, none⟩ = some (.int .i64 97) ∧ W.cell? ⟨g, 3, none⟩ = some (.int .u32 8) := by
  rcases h.2 with ⟨hv, e0⟩ | ⟨g, cap, cur, hv, hb, hg, h1, h2, h3, h4⟩
  · exact absurd e0 (by decide)
  · simp only [Value.slice.injEq, true_and] at hv
    obtain ⟨rfl, rfl⟩ := hv
    have hc : ∀ j u, (ocells (ppt rl6) (pof rl6) 10 3 OA OC (pdat rl6 1) 1)[j]? = some u → W.cell? ⟨g, j, none⟩ = some u := fun j u hu => by
      have := h.cells (g := g) rfl j u hu
      rwa [show (Addr.add ⟨g, 0, none⟩ j) = ⟨g, j, none⟩ from by unfold Addr.add; split <;> simp_all] at this
    refine ⟨g, rfl, hc 1 _ ?_, hc 3 _ ?_⟩
    · exact (ocells_at (ppt rl6) (pof rl6) 10 3 OA OC (pdat rl6 1) 1 0 1 (by decide) (by decide)).trans (by rw [rl6_p0]; rfl)
    · exact (ocells_at (ppt rl6) (pof rl6) 10 3 OA OC (pdat rl6 1) 1 0 3 (by decide) (by decide)).trans (by rw [rl6_o0, rl6_add]; rfl)
theorem a6_bs (W : World) (a : Option Addr) (A : Nat → Option Addr) (C : Nat → Nat) (h : BkAt W a 2 (ppt rl6) (pof rl6) A C (pdat rl6 1)) :
    ∃ b o, a = some ⟨b, o, none⟩ ∧ W.cell? ⟨b, o, none⟩ = some (.int .i64 97) ∧ W.cell? ⟨b, o + 1, none⟩ = some (.int .i64 2) ∧ W.cell? ⟨b, o + 2, none⟩ = some (.slice (A 0) 2 (C 0)) ∧ W.cell? ⟨b, o + 3, none⟩ = some (.int .i64 96) ∧ W.cell? ⟨b, o + 5, none⟩ = some (.slice (A 1) 1 (C 1)) ∧ BAt W (A 0) 2 [65, 66] ∧ BAt W (A 1) 1 [67] := by
  obtain ⟨b, o, hr⟩ := h
  obtain ⟨h1, _, h3, h4, h5, h6, _⟩ := hr 0 (by decide)
  obtain ⟨_, _, k3, k4, k5, k6, _⟩ := hr 1 (by decide)
  rw [rl6_p0] at h3
  rw [rl6_o0] at h4
  rw [rl6_d0] at h5 h6
  rw [rl6_p1] at k3
  rw [rl6_d1] at k5 k6
  exact ⟨b, o, h1, h3, h4, h5, k3, k5, h6, k6⟩
set_option maxHeartbeats 4000000 in
set_option maxRecDepth 100000 in
theorem alive6 (w : World) : Calls Try.prog 5 #[] w (ValB (.bool true) w) := by
  obtain ⟨w1, hw1⟩ : ∃ w1, w.alloc (.cells #[.int .u8 225, .int .u8 0, .int .u8 8, .int .u8 2, .int .u8 96, .int .u8 65, .int .u8 66, .int .u8 67] 5 (8, 9)) = w1 := ⟨_, rfl⟩
  have hb1 : BAt w1 (some ⟨w.heap.size, 0, none⟩) 8 rl6 := by rw [← hw1]; exact lit_bat' (l := rl6) (heap_alloc_new w _) rl6_ok (by decide)
  have B01 : Below w.heap.size w w1 := by rw [← hw1]; exact bel_alloc w _
  have HW1 := Lib.hid hw1; have HB1 := Lib.hid hb1; have HPA := Lib.hid (a6_parse _ w1 hb1)
  clear hw1 hb1
  have hcv := Lib.run_convert_bytes_const (P := Try.prog) w 25 5 #[.int .u8 225, .int .u8 0, .int .u8 8, .int .u8 2, .int .u8 96, .int .u8 65, .int .u8 66, .int .u8 67] 8 8 Try.underlying25 Try.underlying5
  simp only [List.size_toArray, List.length_cons, List.length_nil, Nat.reduceAdd] at hcv
  rw [HW1.out] at hcv
  go_enter Try.func5, Try.ntmps5
  go_wp2_with fail
  refine (HPA.out).mono ?_
  rintro e w2 ⟨ao, co, rfl, hBR, B12⟩
  obtain ⟨A, C, hbk, hkc, _⟩ := hBR.at
  have HBK := Lib.hid hbk
  have B02 := bel_trans B01 B12
  have HWR := Lib.hid (a6_write ao co A C w2 hbk hkc)
  clear hBR hbk HPA
  go_wp2_with fail
  refine (HWR.out).mono ?_
  rintro e w3 ⟨ac, nc, cc, rfl, hO3, B23⟩
  obtain rfl : 8 = nc := hO3.bat.len
  have HC3 := Lib.hid hO3.bat
  clear hO3 HWR
  go_wp2_with fail
  refine (a6_parse0 w3).mono ?_
  rintro e w4 ⟨rfl, B34⟩
  go_wp2_with fail
  refine (a6_write0 w4).mono ?_
  rintro e w5 ⟨az, nz, cz, rfl, _, B45⟩
  have B35 := bel_trans B34 B45
  have B25 := bel_trans B23 B35
  have B15 := bel_trans B12 B25
  clear B34 B45
  obtain ⟨w6, hw6⟩ : ∃ w6, w5.alloc (.cells #[.bool false, .int .i64 100, .int .u16 5, .int .u32 10, .int .u32 3, .slice none 0 0, .bool false, .int .u16 0, .slice none 0 0, .slice (some ⟨w.heap.size, 0, none⟩) 8 8, .slice none 0 0] 36) = w6 := ⟨_, rfl⟩
  have B56 : Below w5.heap.size w5 w6 := by rw [← hw6]; exact bel_alloc w5 _
  have hp6 : w6.heap[w5.heap.size]? = some (.cells #[.bool false, .int .i64 100, .int .u16 5, .int .u32 10, .int .u32 3, .slice none 0 0, .bool false, .int .u16 0, .slice none 0 0, .slice (some ⟨w.heap.size, 0, none⟩) 8 8, .slice none 0 0] 36 (0, 0)) := by rw [← hw6]; exact lit_new rfl
  have B16 := bel_trans B15 B56
  have HPR := Lib.hid (a6_prim _ w6 (HB1.out.below B16))
  have HW6 := Lib.hid hw6
  clear hw6
  go_upto_region 7 with (fail)
  rw [HW6.out]
  have d0 : w6.cell? ⟨w5.heap.size, 0, none⟩ = some (.bool false) := by rw [cell_of_row w6 _ 0 _ _ _ hp6]; rfl
  have d1 : w6.cell? ⟨w5.heap.size, 1, none⟩ = some (.int .i64 100) := by rw [cell_of_row w6 _ 1 _ _ _ hp6]; rfl
  have d2 : w6.cell? ⟨w5.heap.size, 2, none⟩ = some (.int .u16 5) := by rw [cell_of_row w6 _ 2 _ _ _ hp6]; rfl
  have d3 : w6.cell? ⟨w5.heap.size, 3, none⟩ = some (.int .u32 10) := by rw [cell_of_row w6 _ 3 _ _ _ hp6]; rfl
  have d4 : w6.cell? ⟨w5.heap.size, 4, none⟩ = some (.int .u32 3) := by rw [cell_of_row w6 _ 4 _ _ _ hp6]; rfl
  have d5 : w6.cell? ⟨w5.heap.size, 5, none⟩ = some (.slice none 0 0) := by rw [cell_of_row w6 _ 5 _ _ _ hp6]; rfl
  have d6 : w6.cell? ⟨w5.heap.size, 6, none⟩ = some (.bool false) := by rw [cell_of_row w6 _ 6 _ _ _ hp6]; rfl
  have d7 : w6.cell? ⟨w5.heap.size, 7, none⟩ = some (.int .u16 0) := by rw [cell_of_row w6 _ 7 _ _ _ hp6]; rfl
  have d8 : w6.cell? ⟨w5.heap.size, 8, none⟩ = some (.slice none 0 0) := by rw [cell_of_row w6 _ 8 _ _ _ hp6]; rfl
  have d9 : w6.cell? ⟨w5.heap.size, 9, none⟩ = some (.slice (some ⟨w.heap.size, 0, none⟩) 8 8) := by rw [cell_of_row w6 _ 9 _ _ _ hp6]; rfl
  have d10 : w6.cell? ⟨w5.heap.size, 10, none⟩ = some (.slice none 0 0) := by rw [cell_of_row w6 _ 10 _ _ _ hp6]; rfl
  go_wp2_with fail
  refine (HPR.out).mono ?_
  rintro e w7 ⟨⟨qa1, qn1, qc1, qa2, qn2, qc2, qa3, qn3, qc3, qa4, qn4, qc4⟩, rfl, hOq, B67, hSq⟩
  obtain rfl : 1 = qn3 := hOq.pay.bat.len
  simp only [pkc, q6]
  obtain ⟨w8, hw8⟩ : ∃ w8, w7.alloc (.cells #[.bool false, .int .i64 96, .int .u16 5, .int .u32 10, .int .u32 3, .slice qa1 qn1 qc1, .bool false, .int .u16 0, .slice qa2 qn2 qc2, .slice qa3 1 qc3, .slice qa4 qn4 qc4] 36) = w8 := ⟨_, rfl⟩
  have B78 : Below w7.heap.size w7 w8 := by rw [← hw8]; exact bel_alloc w7 _
  have hq8 : w8.heap[w7.heap.size]? = some (.cells #[.bool false, .int .i64 96, .int .u16 5, .int .u32 10, .int .u32 3, .slice qa1 qn1 qc1, .bool false, .int .u16 0, .slice qa2 qn2 qc2, .slice qa3 1 qc3, .slice qa4 qn4 qc4] 36 (0, 0)) := by rw [← hw8]; exact lit_new rfl
  have hOq8 : PkOwn w8 w6.heap.size q6 ⟨qa1, qn1, qc1, qa2, qn2, qc2, qa3, 1, qc3, qa4, qn4, qc4⟩ := ⟨hOq.csrc.below B78, hOq.ext.below B78, hOq.pay.below B78, hOq.pad.below B78, hOq.seq, hOq.ts, hOq.ssrc, hOq.prof⟩
  have HWP := Lib.hid (a6_wrap _ w8 (hOq8.mono (Nat.zero_le _)) hSq)
  simp only [pkc, q6] at HWP
  have HQP := Lib.hid hOq8.pay.bat
  have HW8 := Lib.hid hw8
  clear hw8 hOq hOq8 hSq HPR d0 d1 d2 d3 d4 d5 d6 d7 d8 d9 d10
  go_upto_region 8 with (fail)
  rw [HW8.out]
  have d0 : w8.cell? ⟨w7.heap.size, 0, none⟩ = some (.bool false) := by rw [cell_of_row w8 _ 0 _ _ _ hq8]; rfl
  have d1 : w8.cell? ⟨w7.heap.size, 1, none⟩ = some (.int .i64 96) := by rw [cell_of_row w8 _ 1 _ _ _ hq8]; rfl
  have d2 : w8.cell? ⟨w7.heap.size, 2, none⟩ = some (.int .u16 5) := by rw [cell_of_row w8 _ 2 _ _ _ hq8]; rfl
  have d3 : w8.cell? ⟨w7.heap.size, 3, none⟩ = some (.int .u32 10) := by rw [cell_of_row w8 _ 3 _ _ _ hq8]; rfl
  have d4 : w8.cell? ⟨w7.heap.size, 4, none⟩ = some (.int .u32 3) := by rw [cell_of_row w8 _ 4 _ _ _ hq8]; rfl
  have d5 : w8.cell? ⟨w7.heap.size, 5, none⟩ = some (.slice qa1 qn1 qc1) := by rw [cell_of_row w8 _ 5 _ _ _ hq8]; rfl
  have d6 : w8.cell? ⟨w7.heap.size, 6, none⟩ = some (.bool false) := by rw [cell_of_row w8 _ 6 _ _ _ hq8]; rfl
  have d7 : w8.cell? ⟨w7.heap.size, 7, none⟩ = some (.int .u16 0) := by rw [cell_of_row w8 _ 7 _ _ _ hq8]; rfl
  have d8 : w8.cell? ⟨w7.heap.size, 8, none⟩ = some (.slice qa2 qn2 qc2) := by rw [cell_of_row w8 _ 8 _ _ _ hq8]; rfl
  have d9 : w8.cell? ⟨w7.heap.size, 9, none⟩ = some (.slice qa3 1 qc3) := by rw [cell_of_row w8 _ 9 _ _ _ hq8]; rfl
  have d10 : w8.cell? ⟨w7.heap.size, 10, none⟩ = some (.slice qa4 qn4 qc4) := by rw [cell_of_row w8 _ 10 _ _ _ hq8]; rfl
  go_wp2_with fail
  refine (HWP.out).mono ?_
  rintro e w9 ⟨⟨xa1, xn1, xc1, xa2, xn2, xc2, xa3, xn3, xc3, xa4, xn4, xc4⟩, rfl, hOx, B89, hSx⟩
  obtain rfl : 2 = xn3 := hOx.pay.bat.len
  simp only [pkc, x6]
  obtain ⟨w10, hw10⟩ : ∃ w10, w9.alloc (.cells #[.bool false, .int .i64 100, .int .u16 5, .int .u32 10, .int .u32 3, .slice xa1 xn1 xc1, .bool false, .int .u16 0, .slice xa2 xn2 xc2, .slice xa3 2 xc3, .slice xa4 xn4 xc4] 36) = w10 := ⟨_, rfl⟩
  have B9a : Below w9.heap.size w9 w10 := by rw [← hw10]; exact bel_alloc w9 _
  have hx10 : w10.heap[w9.heap.size]? = some (.cells #[.bool false, .int .i64 100, .int .u16 5, .int .u32 10, .int .u32 3, .slice xa1 xn1 xc1, .bool false, .int .u16 0, .slice xa2 xn2 xc2, .slice xa3 2 xc3, .slice xa4 xn4 xc4] 36 (0, 0)) := by rw [← hw10]; exact lit_new rfl
  have HXP := Lib.hid (hOx.pay.bat.below B9a)
  have HW10 := Lib.hid hw10
  have B8a := bel_trans B89 B9a
  have B6a := bel_trans (bel_trans B67 B78) B8a
  have hp10 := (B6a.block w5.heap.size (Array.getElem?_eq_some_iff.1 hp6).1).trans hp6
  have B1a := bel_trans B16 B6a
  have HOL := Lib.hid (a6_older _ w10 (HB1.out.below B1a))
  clear hw10 hOx hSx HWP d0 d1 d2 d3 d4 d5 d6 d7 d8 d9 d10
  go_upto_region 9 with (fail)
  rw [HW10.out]
  have d0 : w10.cell? ⟨w5.heap.size, 0, none⟩ = some (.bool false) := by rw [cell_of_row w10 _ 0 _ _ _ hp10]; rfl
  have d1 : w10.cell? ⟨w5.heap.size, 1, none⟩ = some (.int .i64 100) := by rw [cell_of_row w10 _ 1 _ _ _ hp10]; rfl
  have d2 : w10.cell? ⟨w5.heap.size, 2, none⟩ = some (.int .u16 5) := by rw [cell_of_row w10 _ 2 _ _ _ hp10]; rfl
  have d3 : w10.cell? ⟨w5.heap.size, 3, none⟩ = some (.int .u32 10) := by rw [cell_of_row w10 _ 3 _ _ _ hp10]; rfl
  have d4 : w10.cell? ⟨w5.heap.size, 4, none⟩ = some (.int .u32 3) := by rw [cell_of_row w10 _ 4 _ _ _ hp10]; rfl
  have d5 : w10.cell? ⟨w5.heap.size, 5, none⟩ = some (.slice none 0 0) := by rw [cell_of_row w10 _ 5 _ _ _ hp10]; rfl
  have d6 : w10.cell? ⟨w5.heap.size, 6, none⟩ = some (.bool false) := by rw [cell_of_row w10 _ 6 _ _ _ hp10]; rfl
  have d7 : w10.cell? ⟨w5.heap.size, 7, none⟩ = some (.int .u16 0) := by rw [cell_of_row w10 _ 7 _ _ _ hp10]; rfl
  have d8 : w10.cell? ⟨w5.heap.size, 8, none⟩ = some (.slice none 0 0) := by rw [cell_of_row w10 _ 8 _ _ _ hp10]; rfl
  have d9 : w10.cell? ⟨w5.heap.size, 9, none⟩ = some (.slice (some ⟨w.heap.size, 0, none⟩) 8 8) := by rw [cell_of_row w10 _ 9 _ _ _ hp10]; rfl
  have d10 : w10.cell? ⟨w5.heap.size, 10, none⟩ = some (.slice none 0 0) := by rw [cell_of_row w10 _ 10 _ _ _ hp10]; rfl
  go_wp2_with (
    go_at_call 16
    refine (HOL.out).mono ?_
    rintro e w11 ⟨oo, oc, OA, OC, rfl, hOr, hOd, Bab⟩
    obtain ⟨g, rfl, g1, g3⟩ := a6_os _ _ _ _ _ _ hOr
    have B2b := bel_trans B25 (bel_trans B56 (bel_trans B6a Bab))
    obtain ⟨b, o, rfl, b0, b1, b2, b3, b5, bd0, bd1⟩ := a6_bs _ _ _ _ (HBK.out.below B2b)
    have B8b := bel_trans B8a Bab
    have hq11 := (B8b.block w7.heap.size (Array.getElem?_eq_some_iff.1 hq8).1).trans hq8
    have hx11 := (Bab.block w9.heap.size (Array.getElem?_eq_some_iff.1 hx10).1).trans hx10
    have q1 : w11.cell? ⟨w7.heap.size, 1, none⟩ = some (.int .i64 96) := by rw [cell_of_row w11 _ 1 _ _ _ hq11]; rfl
    have q2 : w11.cell? ⟨w7.heap.size, 2, none⟩ = some (.int .u16 5) := by rw [cell_of_row w11 _ 2 _ _ _ hq11]; rfl
    have q9 : w11.cell? ⟨w7.heap.size, 9, none⟩ = some (.slice qa3 1 qc3) := by rw [cell_of_row w11 _ 9 _ _ _ hq11]; rfl
    have x1 : w11.cell? ⟨w9.heap.size, 1, none⟩ = some (.int .i64 100) := by rw [cell_of_row w11 _ 1 _ _ _ hx11]; rfl
    have x9 : w11.cell? ⟨w9.heap.size, 9, none⟩ = some (.slice xa3 2 xc3) := by rw [cell_of_row w11 _ 9 _ _ _ hx11]; rfl
    have s1 : (convert 25 9 (.slice (A 0) 2 (C 0))).run Try.prog w11 = .ok (.string { data := #[65, 66] }) w11 := str_of w11 _ 2 _ [65, 66] bd0
    have s2 : (convert 25 9 (.slice (A 1) 1 (C 1))).run Try.prog w11 = .ok (.string { data := #[67] }) w11 := str_of w11 _ 1 _ [67] bd1
    have s3 : (convert 25 9 (.slice ac 8 cc)).run Try.prog w11 = .ok (.string { data := #[225, 0, 8, 2, 96, 65, 66, 67] }) w11 := str_of w11 _ 8 _ rl6 (HC3.out.below (bel_trans B35 (bel_trans B56 (bel_trans B6a Bab))))
    have s4 : (convert 25 9 (.slice (some ⟨w.heap.size, 0, none⟩) 8 8)).run Try.prog w11 = .ok (.string { data := #[225, 0, 8, 2, 96, 65, 66, 67] }) w11 := str_of w11 _ 8 _ rl6 (HB1.out.below (bel_trans B1a Bab))
    have s5 : (convert 25 9 (.slice qa3 1 qc3)).run Try.prog w11 = .ok (.string { data := #[67] }) w11 := str_of w11 _ 1 _ [67] (HQP.out.below B8b)
    have s6 : (convert 25 9 (.slice xa3 2 xc3)).run Try.prog w11 = .ok (.string { data := #[96, 67] }) w11 := str_of w11 _ 2 _ [96, 67] (HXP.out.below Bab)
    have BW := Lib.hid (bel_trans B01 (bel_trans B1a Bab))
    clear hOr hOd bd0 bd1 hq11 hx11 hq8 hx10 hp10 hp6 B2b B8b HBK HB1 HC3 HQP HXP d0 d1 d2 d3 d4 d5 d6 d7 d8 d9 d10 hcv HW1 HW6 HW8 HW10 HOL B01 B12 B02 B23 B35 B25 B15 B56 B16 B67 B78 B89 B9a B8a B6a B1a Bab)
  go_ret
  exact ⟨rfl, BW.out⟩
end Go.Proofs.Ytfmabpddacfbcaa
