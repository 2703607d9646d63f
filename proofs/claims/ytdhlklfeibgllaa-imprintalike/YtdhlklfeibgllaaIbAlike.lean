
/-
  ImprintAlike: the walk.
-/
import Derived.Test.YtdhlklfeibgllaaIbAlPlain
namespace Go.Proofs.Ytdhlklfeibgllaa
open Go.RowKit Go.Shelf
set_option linter.unusedVariables false
set_option linter.unusedSimpArgs false
set_option maxHeartbeats 1000000 in
set_option maxRecDepth 100000 in
theorem walk_ImprintAlike (a : Option Addr) (n c : Nat) (l : List Int) (sq ss at' : Int) (w : World) (ha : BAt w a n l) (hac : n ≤ c) (hq : 0 ≤ sq ∧ sq < 65536) (hs : 0 ≤ ss ∧ ss < 4294967296) :
    Calls Try.prog 7 #[.slice a n c, .int .u16 sq, .int .u32 ss, .int .i64 at'] w (TrueA w) := by
  have HA := Lib.hid ha
  have hl1 := ha.lim
  have HOF : Hid (∀ W, Below w.heap.size w W → Calls Try.prog 10 #[.slice a n c] W (OfOut (pcodeF n l) l W)) := Lib.hid fun W hW => of_any a n c l W (ha.below hW) hac
  have HOFA : Hid (∀ (b : Option Addr) (m d : Nat) (q : List Int) (W : World), BAt W b m q → m ≤ d → Calls Try.prog 10 #[.slice b m d] W (OfOut (pcodeF m q) q W)) := Lib.hid fun b m d q W h1 h2 => of_any b m d q W h1 h2
  have HCP : Hid (n ≤ 140737488355327 → ∀ W, Below w.heap.size w W → Calls Try.prog 9 #[.slice a n c] W (NewB n l W)) := Lib.hid fun h W hW => copy_any a n c l W (ha.below hW) h
  clear ha
  go_enter Try.func7, Try.ntmps7
  go_wp2_with fail
  refine (ialive _).mono ?_
  rintro e w1 ⟨rfl, hB1⟩
  have HB1 := Lib.hid hB1; clear hB1
  by_cases h1 : 2000 < n
  · have h1z : (2000 : Int) < (n : Int) := by omega
    go_wp2_with fail
    go_ret
    exact ⟨rfl, HB1.out⟩
  have h1z : ¬ (2000 : Int) < (n : Int) := by omega
  go_wp2_with fail
  refine (HOF.out _ HB1.out).mono ?_
  rintro e w2 ⟨h3, h4⟩
  by_cases hf : pcodeF n l = 0
  case neg =>
    obtain ⟨rfl, hB2⟩ := h3 hf
    have hfb : (pcodeF n l != 0) = true := by simpa using hf
    have HB2 := Lib.hid (HB1.out.trans (hB2.mono HB1.out.size))
    have hE := empty_any 0 0 0 0 0 0 0 0 none 0 0 [] (w2.alloc (.cells #[.int .u8 0, .int .u8 0, .int .u8 0, .int .u8 0, .int .u8 0, .int .u8 0, .int .u8 0, .int .u8 0, .slice none 0 0] 27)) (BAt.none _)
    rw [show (decide ([(0 : Int), 0, 0, 0, 0, 0, 0, 0] = [0, 0, 0, 0, 0, 0, 0, 0]) && decide (Str.gap [] [] < 0)) = true by rw [gap_self]; decide] at hE
    have HE := Lib.hid hE; clear hE
    have HB2 := Lib.hid (HB2.out.alloc HB2.out.size (.cells #[.int .u8 0, .int .u8 0, .int .u8 0, .int .u8 0, .int .u8 0, .int .u8 0, .int .u8 0, .int .u8 0, .slice none 0 0] 27))
    clear h3 h4 hB2 HOF HOFA HCP hf
    generalize pcodeF n l = f at *
    go_wp2_with fail
    refine (HE.out).mono ?_
    rintro e w3 ⟨rfl, hB3⟩
    have HB3 := Lib.hid (HB2.out.trans (hB3.mono HB2.out.size)); clear hB3
    go_wp2_with fail
    go_ret
    exact ⟨rfl, HB3.out⟩
  obtain ⟨ax, cx, rfl, hO2, hB2⟩ := h4 hf
  have hl := pcodeF_long hf
  have hln := HA.out.len
  have hv := pcodeF_v' hf
  have hok := HA.out.ok
  have hbd0 := hok 0; have hbd1 := hok 1; have hbd4 := hok 4; have hbd5 := hok 5; have hbd6 := hok 6; have hbd7 := hok 7
  have HB2 := Lib.hid (HB1.out.trans (hB2.mono HB1.out.size))
  have hO2' : Own w2 w.heap.size ax (l.length - 12) cx (l.drop 12) := hO2.mono HB1.out.size
  have HO2 := Lib.hid hO2'
  have hic := alk_ipc hok hln hf sq ss
  have HLL := Lib.hid (alk_len (l := l) (by omega) sq ss)
  have HLD := Lib.hid (alk_drop (l := l) sq ss)
  have HLC := Lib.hid (alk_code hok hv hf sq ss)
  have HLH := Lib.hid (alk_ihd hok (by omega) hv sq ss)
  have HLS := Lib.hid (alk_sq (l := l) sq ss hq)
  have HLR := Lib.hid (alk_ss (l := l) sq ss hs)
  have HODD := Lib.hid (odd_ne hok (by omega))
  have HV := Lib.hid hv; have HOK := Lib.hid hok; have HF := Lib.hid hf
  clear h3 h4 hO2 hO2' hB2 HB1 HOF hv hok hf
  generalize alk l sq ss = l' at *
  unfold ihd
  simp only [ibc, List.getD_cons_zero, List.getD_cons_succ]
  obtain ⟨q0, hq0⟩ : ∃ q, l.getD 0 0 % 64 = q := ⟨_, rfl⟩
  obtain ⟨q1, hq1⟩ : ∃ q, l.getD 1 0 = q := ⟨_, rfl⟩
  obtain ⟨q2, hq2⟩ : ∃ q, l.getD 4 0 = q := ⟨_, rfl⟩
  obtain ⟨q3, hq3⟩ : ∃ q, l.getD 5 0 = q := ⟨_, rfl⟩
  obtain ⟨q4, hq4⟩ : ∃ q, l.getD 6 0 = q := ⟨_, rfl⟩
  obtain ⟨q5, hq5⟩ : ∃ q, l.getD 7 0 = q := ⟨_, rfl⟩
  obtain ⟨q6, hq6⟩ : ∃ q, ((l.length - 12 : Nat) : Int) / 256 = q := ⟨_, rfl⟩
  obtain ⟨q7, hq7⟩ : ∃ q, ((l.length - 12 : Nat) : Int) % 256 = q := ⟨_, rfl⟩
  have b0 : 0 ≤ q0 ∧ q0 < 256 := by omega
  have b6 : 0 ≤ q6 ∧ q6 < 256 := by omega
  have b7 : 0 ≤ q7 ∧ q7 < 256 := by omega
  have hlen67 : q6 * 256 + q7 = (n : Int) - 12 := by omega
  rw [hq0, hq1, hq2, hq3, hq4, hq5, hq6, hq7] at hic ⊢
  have HHD : Hid ([q0, q1, q2, q3, q4, q5, q6, q7] = ihd l) := Lib.hid (by unfold ihd; rw [hq0, hq1, hq2, hq3, hq4, hq5, hq6, hq7])
  rw [hq1] at hbd1; rw [hq2] at hbd4; rw [hq3] at hbd5; rw [hq4] at hbd6; rw [hq5] at hbd7
  clear hq0 hq1 hq2 hq3 hq4 hq5 hq6 hq7 hbd0
  obtain ⟨n12, hn12⟩ : ∃ k, l.length - 12 = k := ⟨_, rfl⟩
  rw [hn12] at HO2 ⊢
  have hn12b : n12 ≤ 1488 ∧ 12 + n12 = n := by omega
  obtain ⟨db, hdb⟩ : ∃ d, l.drop 12 = d := ⟨_, rfl⟩
  rw [hdb] at HO2 HLD hic
  have HDB := Lib.hid hdb; have HN12 := Lib.hid hn12; have HLN := Lib.hid hln
  clear hn12 hdb hln
  obtain ⟨P, hP⟩ : ∃ P, w2.heap.size = P := ⟨_, rfl⟩
  obtain ⟨wx, hwx⟩ : ∃ wx, w2.alloc (.cells #[.int .u8 q0, .int .u8 q1, .int .u8 q2, .int .u8 q3, .int .u8 q4, .int .u8 q5, .int .u8 q6, .int .u8 q7, .slice ax n12 cx] 27) = wx := ⟨_, rfl⟩
  have h2x : Below w2.heap.size w2 wx := by rw [← hwx]; exact (Below.refl _ w2).alloc (Nat.le_refl _) _
  have HX2 : Hid (Bx wx P q0 q1 q2 q3 q4 q5 q6 q7 ax n12 cx) := Lib.hid (by rw [← hwx, ← hP]; unfold Bx; exact lit_new rfl)
  have HB2 := Lib.hid (HB2.out.trans (h2x.mono HB2.out.size))
  have HO2 := Lib.hid (HO2.out.below h2x)
  have HWX := Lib.hid hwx; have HPE := Lib.hid hP
  clear h2x hwx hP
  have hpk := packet_any q0 q1 q2 q3 q4 q5 q6 q7 ax n12 cx db sq ss wx HO2.out.bat HO2.out.cap7 (by omega) b0 hbd1 hbd4 hbd5 hbd6 hbd7 b6 b7 hq hs
  rw [hic.1, hic.2] at hpk
  have HPK := Lib.hid hpk
  clear hpk hic
  go_wp2_with fail
  rw [HPE.out] at *
  rw [HWX.out]
  refine (HPK.out).mono ?_
  rintro e w3 ⟨a8, n8, c8, rfl, hO8, hB8⟩
  have hn8 : n8 = n := by have := hO8.len; have := HLL.out; have := HLN.out; omega
  subst hn8
  have HB3 := Lib.hid (HB2.out.trans (hB8.mono HB2.out.size)); have HO3 := Lib.hid (HO2.out.below hB8)
  have HL3 := Lib.hid hO8
  have HX3 := Lib.hid (HX2.out.below hB8)
  clear HX2 hB8 hO8 HPK HB2 HO2
  go_wp2_with fail
  have hof := HOFA.out a8 n8 c8 l' w3 HL3.out.bat HL3.out.cap7
  rw [HLC.out] at hof
  refine (hof).mono ?_
  rintro e w4 ⟨_, h4⟩
  obtain ⟨ay, cy, rfl, hO4, hB4⟩ := h4 rfl
  rw [HLL.out, HLD.out, HN12.out] at hO4
  rw [HLL.out, HLH.out, ← HHD.out, HN12.out]
  simp only [ibc, List.getD_cons_zero, List.getD_cons_succ]
  have HB4 := Lib.hid (HB3.out.trans (hB4.mono HB3.out.size)); have HO4 := Lib.hid (HO3.out.below hB4); have HL4 := Lib.hid (HL3.out.below hB4)
  have HY4 := Lib.hid hO4
  have hB4' := Lib.hid hB4
  clear h4 hof hO4 hB4 HB3 HO3 HL3
  have HX4 := Lib.hid (HX3.out.below hB4'.out)
  clear HX3 hB4'
  obtain ⟨Q, hQ⟩ : ∃ Q, w4.heap.size = Q := ⟨_, rfl⟩
  obtain ⟨wy, hwy⟩ : ∃ wy, w4.alloc (.cells #[.int .u8 q0, .int .u8 q1, .int .u8 q2, .int .u8 q3, .int .u8 q4, .int .u8 q5, .int .u8 q6, .int .u8 q7, .slice ay n12 cy] 27) = wy := ⟨_, rfl⟩
  have h4y : Below w4.heap.size w4 wy := by rw [← hwy]; exact (Below.refl _ w4).alloc (Nat.le_refl _) _
  have HY5 : Hid (Bx wy Q q0 q1 q2 q3 q4 q5 q6 q7 ay n12 cy) := Lib.hid (by rw [← hwy, ← hQ]; unfold Bx; exact lit_new rfl)
  have HX5 := Lib.hid (HX4.out.below h4y)
  have HB5 := Lib.hid (HB4.out.trans (h4y.mono HB4.out.size))
  have HO5 := Lib.hid (HO4.out.below h4y); have HY5' := Lib.hid (HY4.out.below h4y); have HL5 := Lib.hid (HL4.out.below h4y)
  have HWY := Lib.hid hwy; have HQE := Lib.hid hQ
  clear h4y hwy hQ HX4 HB4 HO4 HY4 HL4
  have hsm := isame_any q0 q1 q2 q3 q4 q5 q6 q7 q0 q1 q2 q3 q4 q5 q6 q7 ax ay n12 n12 cx cy db db wy HO5.out.bat HY5'.out.bat
  rw [show (decide ([q0, q1, q2, q3, q4, q5, q6, q7] = [q0, q1, q2, q3, q4, q5, q6, q7]) && decide (Str.gap db db < 0)) = true by rw [gap_self]; simp] at hsm
  have HSM := Lib.hid hsm
  have hxc := HX5.out.cs; have hyc := HY5.out.cs
  rw [← HWY.out] at hxc hyc
  rw [← HQE.out] at hyc
  obtain ⟨x0, x1, x2, x3, x4, x5, x6, x7, x8⟩ := hxc
  obtain ⟨y0, y1, y2, y3, y4, y5, y6, y7, y8⟩ := hyc
  clear hsm
  go_wp2_with fail
  rw [HWY.out]
  refine (HSM.out).mono ?_
  rintro e w6 ⟨rfl, hB6⟩
  have HX6 := Lib.hid (HX5.out.below hB6); have HY6 := Lib.hid (HY5.out.below hB6)
  have HB6 := Lib.hid (HB5.out.trans (hB6.mono HB5.out.size))
  have HO6 := Lib.hid (HO5.out.below hB6); have HY6' := Lib.hid (HY5'.out.below hB6); have HL6 := Lib.hid (HL5.out.below hB6)
  clear x0 x1 x2 x3 x4 x5 x6 x7 x8 y0 y1 y2 y3 y4 y5 y6 y7 y8 HX5 HY5 HB5 HO5 HY5' HL5 HSM hB6
  rw [HQE.out] at *
  obtain ⟨x0, x1, x2, x3, x4, x5, x6, x7, x8⟩ := HX6.out.cs
  obtain ⟨y0, y1, y2, y3, y4, y5, y6, y7, y8⟩ := HY6.out.cs
  have had := iadd_self (fun j => [q0, q1, q2, q3, q4, q5, q6, q7].getD j 0) ax ay n12 n12 cx cy db w6 HO6.out.bat HY6'.out.bat (fun j => by
    rcases j with _ | _ | _ | _ | _ | _ | _ | _ | j
    · exact b0
    · exact hbd1
    · exact hbd4
    · exact hbd5
    · exact hbd6
    · exact hbd7
    · exact b6
    · exact b7
    · exact ⟨by simp, by simp⟩) (by omega) (by omega)
  simp only [List.getD_cons_zero, List.getD_cons_succ] at had
  have HAD := Lib.hid had
  clear had
  go_wp2_with fail
  refine (HAD.out).mono ?_
  rintro e w7 ⟨ab, nb, cb, lz, rfl, hO7, hg7, hB7⟩
  have HX7 := Lib.hid (HX6.out.below hB7)
  have HB7 := Lib.hid (HB6.out.trans (hB7.mono HB6.out.size))
  have HO7 := Lib.hid (HO6.out.below hB7); have HL7 := Lib.hid (HL6.out.below hB7)
  have hem := empty_any 0 0 0 0 0 0 0 0 ab nb cb lz w7 hO7.bat
  rw [show (decide ([(0 : Int), 0, 0, 0, 0, 0, 0, 0] = [0, 0, 0, 0, 0, 0, 0, 0]) && decide (Str.gap lz [] < 0)) = true by rw [hg7]; decide] at hem
  have HEM := Lib.hid hem
  clear x0 x1 x2 x3 x4 x5 x6 x7 x8 y0 y1 y2 y3 y4 y5 y6 y7 y8 HX6 HY6 HB6 HO6 HY6' HL6 HAD hB7 hO7 hg7 hem
  go_wp2_with fail
  refine (HEM.out).mono ?_
  rintro e w8 ⟨rfl, hB8⟩
  have HX8 := Lib.hid (HX7.out.below hB8)
  have HB8 := Lib.hid (HB7.out.trans (hB8.mono HB7.out.size))
  have HO8 := Lib.hid (HO7.out.below hB8); have HL8 := Lib.hid (HL7.out.below hB8)
  clear HX7 HB7 HO7 HL7 HEM hB8
  have hsq := seq5_any a8 n8 c8 l' w8 HL8.out.bat HL8.out.cap7
  unfold out_Seq at hsq
  rw [if_pos HLC.out, show (ppk l').seq = sq from HLS.out] at hsq
  have HSQ := Lib.hid hsq; clear hsq
  go_wp2_with fail
  refine (HSQ.out).mono ?_
  rintro e w9 ⟨rfl, hB9⟩
  have HX9 := Lib.hid (HX8.out.below hB9)
  have HB9 := Lib.hid (HB8.out.trans (hB9.mono HB8.out.size))
  have HO9 := Lib.hid (HO8.out.below hB9); have HL9 := Lib.hid (HL8.out.below hB9)
  clear HX8 HB8 HO8 HL8 HSQ hB9
  have hsr := ssrc5_any a8 n8 c8 l' w9 HL9.out.bat HL9.out.cap7
  unfold out_SSRC at hsr
  rw [if_pos HLC.out, show (ppk l').ssrc = ss from HLR.out] at hsr
  have HSR := Lib.hid hsr; clear hsr
  go_wp2_with fail
  refine (HSR.out).mono ?_
  rintro e w10 ⟨rfl, hB10⟩
  have HX10 := Lib.hid (HX9.out.below hB10)
  have HB10 := Lib.hid (HB9.out.trans (hB10.mono HB9.out.size))
  have HO10 := Lib.hid (HO9.out.below hB10)
  clear HX9 HB9 HO9 HL9 HSR hB10
  go_wp2_with fail
  refine (HCP.out (by omega) _ HB10.out).mono ?_
  rintro e w11 ⟨a11, c11, rfl, hO11, hB11⟩
  have HX11 := Lib.hid (HX10.out.below hB11)
  have HB11 := Lib.hid (HB10.out.trans (hB11.mono HB10.out.size))
  have HO11 := Lib.hid (HO10.out.below hB11)
  obtain ⟨g, rfl⟩ := hO11.form (by omega)
  have HC11 := Lib.hid hO11
  have hge : w10.heap.size ≤ g := (hO11.blk _ rfl).1
  have hgP : P < w10.heap.size := HX10.out.size
  have HGP : Hid (g ≠ P) := Lib.hid (by omega)
  have HGB : Hid (w.heap.size ≤ g) := Lib.hid (by have := HB10.out.size; omega)
  have hgo : ∀ x, ax = some x → x.block < w10.heap.size := fun x hx => (HO10.out.blk x hx).2
  have HGO : Hid (∀ x, ax = some x → x.block ≠ g) := Lib.hid fun x hx => by have := hgo x hx; omega
  clear HX10 HB10 HO10 HCP hB11 hO11 hge hgP hgo
  have hm := mask4095 at'
  obtain ⟨q, hq'⟩ : ∃ q : Nat, bits .and .i64 at' 4095 = (q : Int) := ⟨(bits .and .i64 at' 4095).toNat, by omega⟩
  rw [hq'] at hm
  have hkz : ((n8 : Int) == 0) = false := by
    have : (n8 : Int) ≠ 0 := by omega
    simpa using this
  have e3 : ((q : Int)).tmod (n8 : Int) = ((q % n8 : Nat) : Int) := by rw [Int.tmod_eq_emod_of_nonneg (by omega)]; simp
  have hk1 : q % n8 < n8 := Nat.mod_lt _ (by omega)
  generalize q % n8 = k at e3 hk1
  have dR := HC11.out.row.cellAt k (by omega)
  have dF := HC11.out.row.frozenAt k
  have hlen' := HLN.out
  rw [List.getElem?_map, List.getElem?_eq_getElem (by omega), Option.map_some] at dR
  have hx : l[k] = l.getD k 0 := by rw [List.getD_eq_getElem?_getD, List.getElem?_eq_getElem (by omega)]; rfl
  rw [hx] at dR
  have hxb := HOK.out k
  have hxo := bits_xor1 hxb
  have HOD := Lib.hid (HODD.out k (by omega) HV.out)
  have hyb := Str.bx_byte hxb (show (0 : Int) ≤ 1 ∧ (1 : Int) < 256 by decide)
  have HSET : Hid (Own (w11.setCell ⟨g, k, none⟩ (.int .u8 (Str.bx (l.getD k 0) 1))) w10.heap.size (some ⟨g, 0, none⟩) n8 c11 (l.set k (Str.bx (l.getD k 0) 1))) := Lib.hid (HC11.out.set k _ hyb)
  have hwr : IntKind.u8.wrap (Str.bx (l.getD k 0) 1) = Str.bx (l.getD k 0) 1 := by
    have hu : ∀ z : Int, IntKind.u8.wrap z = z % 256 := fun z => by simp [IntKind.wrap, IntKind.bits, IntKind.signed]
    rw [hu]; omega
  generalize hl2 : l.set k (Str.bx (l.getD k 0) 1) = l2 at *
  generalize Str.bx (l.getD k 0) 1 = y at *
  generalize l.getD k 0 = x at *
  clear hlen' hx HODD
  go_wp2_with fail
  obtain ⟨wz, hwz⟩ : ∃ wz, w11.setCell ⟨g, k, none⟩ (.int .u8 y) = wz := ⟨_, rfl⟩
  have hgz : w11.grownBy wz (some g) := by rw [← hwz]; exact ⟨rfl, rfl, rfl, by simp, fun j _ hj => Below.heap_setCell w11 _ _ j (fun e => hj (by rw [e]))⟩
  have HXZ : Hid (Bx wz P q0 q1 q2 q3 q4 q5 q6 q7 ax n12 cx) := Lib.hid ((hgz.block P HX11.out.size (fun e => HGP.out (by injection e with e; exact e.symm))).trans HX11.out)
  have HBZ : Hid (Below w.heap.size w wz) := Lib.hid (HB11.out.grown hgz HB11.out.size (fun j e => by cases e; exact HGB.out))
  have HOZ : Hid (BAt wz ax n12 db) := Lib.hid (HO11.out.bat.same hgz.size (fun x _ hx hlt => hgz.block _ hlt (fun e => HGO.out x hx (by injection e))))
  rw [hwz] at HSET ⊢
  have hof := HOFA.out (some ⟨g, 0, none⟩) n8 c11 l2 wz HSET.out.bat HSET.out.cap7
  clear hgz HX11 HB11 HO11 HC11 hwz dR dF hxo HGP HGO HGB
  refine (hof).mono ?_
  rintro e w12 ⟨h3, h4⟩
  have hsub : IntKind.i64.wrap ((n8 : Int) - 12) = (n8 : Int) - 12 := IntWalk.i64_in _ (by omega)
  by_cases hf2 : pcodeF n8 l2 = 0
  case neg =>
    obtain ⟨rfl, hB12⟩ := h3 hf2
    have hfb : (pcodeF n8 l2 == 0) = false := by simpa using hf2
    obtain ⟨wv, hwv⟩ : ∃ wv, w12.alloc (.cells #[.int .u8 0, .int .u8 0, .int .u8 0, .int .u8 0, .int .u8 0, .int .u8 0, .int .u8 0, .int .u8 0, .slice none 0 0] 27) = wv := ⟨_, rfl⟩
    have hzv : Below wz.heap.size wz wv := by rw [← hwv]; exact hB12.alloc hB12.size _
    have HXV := Lib.hid (HXZ.out.below hzv)
    have HBV := Lib.hid (HBZ.out.trans (hzv.mono HBZ.out.size))
    have HWV := Lib.hid hwv
    have hxc := HXV.out.cs
    rw [← hwv] at hxc
    obtain ⟨x0, x1, x2, x3, x4, x5, x6, x7, x8⟩ := hxc
    clear h3 h4 hB12 hzv hwv hof HXZ HBZ HOZ HSET hf2 HOFA
    generalize pcodeF n8 l2 = f2 at *
    go_wp2_with fail
    rw [HWV.out]
    have hle := length_any q0 q1 q2 q3 q4 q5 q6 q7 ax n12 cx wv b6 b7
    rw [hlen67] at hle
    refine (hle).mono ?_
    rintro e wL ⟨rfl, hBL⟩
    have HFIN : Hid (TrueA w (.returned (.bool true)) wL) := Lib.hid ⟨rfl, HBV.out.trans (hBL.mono HBV.out.size)⟩
    clear hle hBL
    go_wp2_with fail
    go_ret
    exact HFIN.out
  obtain ⟨az, cz, rfl, hOZ, hB12⟩ := h4 hf2
  have hOD := HOD.out (pcodeF_v' hf2)
  have hl2n : l2.length = n8 := HSET.out.len
  rw [hl2n] at hOZ ⊢
  rw [show n8 - 12 = n12 by omega] at hOZ ⊢
  obtain ⟨hh, hhd⟩ : ∃ hh, ihd l2 = hh := ⟨_, rfl⟩
  rw [hhd, ← HHD.out, HDB.out] at hOD
  obtain ⟨dz, hdz⟩ : ∃ d, l2.drop 12 = d := ⟨_, rfl⟩
  rw [hdz] at hOD hOZ
  have hh8 : ∃ r0 r1 r2 r3 r4 r5 r6 r7, hh = [r0, r1, r2, r3, r4, r5, r6, r7] := by rw [← hhd]; exact ⟨_, _, _, _, _, _, _, _, rfl⟩
  obtain ⟨r0, r1, r2, r3, r4, r5, r6, r7, rfl⟩ := hh8
  rw [hhd]
  simp only [ibc, List.getD_cons_zero, List.getD_cons_succ]
  obtain ⟨R, hR⟩ : ∃ R, w12.heap.size = R := ⟨_, rfl⟩
  obtain ⟨wv, hwv⟩ : ∃ wv, w12.alloc (.cells #[.int .u8 r0, .int .u8 r1, .int .u8 r2, .int .u8 r3, .int .u8 r4, .int .u8 r5, .int .u8 r6, .int .u8 r7, .slice az n12 cz] 27) = wv := ⟨_, rfl⟩
  have hzv : Below wz.heap.size wz wv := by rw [← hwv]; exact hB12.alloc hB12.size _
  have h12v : Below w12.heap.size w12 wv := by rw [← hwv]; exact (Below.refl _ w12).alloc (Nat.le_refl _) _
  have HZV : Hid (Bx wv R r0 r1 r2 r3 r4 r5 r6 r7 az n12 cz) := Lib.hid (by rw [← hwv, ← hR]; unfold Bx; exact lit_new rfl)
  have HXV := Lib.hid (HXZ.out.below hzv)
  have HBV := Lib.hid (HBZ.out.trans (hzv.mono HBZ.out.size))
  have HOV := Lib.hid (HOZ.out.below hzv)
  have HDV := Lib.hid ((hOZ.below h12v).bat)
  have HWV := Lib.hid hwv; have HRE := Lib.hid hR
  have hxc := HXV.out.cs; have hzc := HZV.out.cs
  rw [← hwv] at hxc hzc
  rw [← hR] at hzc
  obtain ⟨x0, x1, x2, x3, x4, x5, x6, x7, x8⟩ := hxc
  obtain ⟨z0, z1, z2, z3, z4, z5, z6, z7, z8⟩ := hzc
  clear h3 h4 hB12 hzv h12v hwv hof HXZ HBZ HOZ hOZ HSET hf2 HOFA hR hhd hdz hl2n
  by_cases hpos : k < 2 ∨ 4 ≤ k ∧ k < 8 ∨ 12 ≤ k
  case pos =>
    have hsm := isame_any q0 q1 q2 q3 q4 q5 q6 q7 r0 r1 r2 r3 r4 r5 r6 r7 ax az n12 n12 cx cz db dz wv HOV.out HDV.out
    rw [show (decide ([q0, q1, q2, q3, q4, q5, q6, q7] = [r0, r1, r2, r3, r4, r5, r6, r7]) && decide (Str.gap db dz < 0)) = false by rw [← Bool.decide_and, decide_eq_false_iff_not]; exact hOD hpos] at hsm
    have HSM := Lib.hid hsm
    clear hsm hOD HOD
    have hcs : k < 2 ∨ (4 ≤ k ∧ k < 8) ∨ 12 ≤ k := hpos
    clear hpos
    rcases hcs with h | ⟨h, h'⟩ | h
    · have p1 : (k : Int) < 2 := by omega
      clear h
      go_wp2_with fail
      rw [HWV.out]
      refine (HSM.out).mono ?_
      rintro e w13 ⟨rfl, hB13⟩
      have HX13 := Lib.hid (HXV.out.below hB13)
      have HB13 := Lib.hid (HBV.out.trans (hB13.mono HBV.out.size))
      clear x0 x1 x2 x3 x4 x5 x6 x7 x8 z0 z1 z2 z3 z4 z5 z6 z7 z8 HXV HZV HBV HOV HDV HSM hB13
      obtain ⟨x0, x1, x2, x3, x4, x5, x6, x7, x8⟩ := HX13.out.cs
      go_wp2_with fail
      have hle := length_any q0 q1 q2 q3 q4 q5 q6 q7 ax n12 cx w13 b6 b7
      rw [hlen67] at hle
      refine (hle).mono ?_
      rintro e wL ⟨rfl, hBL⟩
      have HFIN : Hid (TrueA w (.returned (.bool true)) wL) := Lib.hid ⟨rfl, HB13.out.trans (hBL.mono HB13.out.size)⟩
      clear hle hBL
      go_wp2_with fail
      go_ret
      exact HFIN.out
    · have p1 : ¬ (k : Int) < 2 := by omega
      have p2 : (4 : Int) ≤ k := by omega
      have p3 : (k : Int) < 8 := by omega
      clear h h'
      go_wp2_with fail
      rw [HWV.out]
      refine (HSM.out).mono ?_
      rintro e w13 ⟨rfl, hB13⟩
      have HX13 := Lib.hid (HXV.out.below hB13)
      have HB13 := Lib.hid (HBV.out.trans (hB13.mono HBV.out.size))
      clear x0 x1 x2 x3 x4 x5 x6 x7 x8 z0 z1 z2 z3 z4 z5 z6 z7 z8 HXV HZV HBV HOV HDV HSM hB13
      obtain ⟨x0, x1, x2, x3, x4, x5, x6, x7, x8⟩ := HX13.out.cs
      go_wp2_with fail
      have hle := length_any q0 q1 q2 q3 q4 q5 q6 q7 ax n12 cx w13 b6 b7
      rw [hlen67] at hle
      refine (hle).mono ?_
      rintro e wL ⟨rfl, hBL⟩
      have HFIN : Hid (TrueA w (.returned (.bool true)) wL) := Lib.hid ⟨rfl, HB13.out.trans (hBL.mono HB13.out.size)⟩
      clear hle hBL
      go_wp2_with fail
      go_ret
      exact HFIN.out
    · have p1 : ¬ (k : Int) < 2 := by omega
      have p2 : (4 : Int) ≤ k := by omega
      have p3 : ¬ (k : Int) < 8 := by omega
      have p4 : (12 : Int) ≤ k := by omega
      clear h
      go_wp2_with fail
      rw [HWV.out]
      refine (HSM.out).mono ?_
      rintro e w13 ⟨rfl, hB13⟩
      have HX13 := Lib.hid (HXV.out.below hB13)
      have HB13 := Lib.hid (HBV.out.trans (hB13.mono HBV.out.size))
      clear x0 x1 x2 x3 x4 x5 x6 x7 x8 z0 z1 z2 z3 z4 z5 z6 z7 z8 HXV HZV HBV HOV HDV HSM hB13
      obtain ⟨x0, x1, x2, x3, x4, x5, x6, x7, x8⟩ := HX13.out.cs
      go_wp2_with fail
      have hle := length_any q0 q1 q2 q3 q4 q5 q6 q7 ax n12 cx w13 b6 b7
      rw [hlen67] at hle
      refine (hle).mono ?_
      rintro e wL ⟨rfl, hBL⟩
      have HFIN : Hid (TrueA w (.returned (.bool true)) wL) := Lib.hid ⟨rfl, HB13.out.trans (hBL.mono HB13.out.size)⟩
      clear hle hBL
      go_wp2_with fail
      go_ret
      exact HFIN.out
  have p1 : ¬ (k : Int) < 2 := by omega
  have p4 : ¬ (12 : Int) ≤ k := by omega
  clear hOD HOD
  by_cases h : 4 ≤ k
  · have p2 : (4 : Int) ≤ k := by omega
    have p3 : ¬ (k : Int) < 8 := by omega
    clear hpos h
    go_wp2_with fail
    rw [HWV.out]
    have hle := length_any q0 q1 q2 q3 q4 q5 q6 q7 ax n12 cx wv b6 b7
    rw [hlen67] at hle
    refine (hle).mono ?_
    rintro e wL ⟨rfl, hBL⟩
    have HFIN : Hid (TrueA w (.returned (.bool true)) wL) := Lib.hid ⟨rfl, HBV.out.trans (hBL.mono HBV.out.size)⟩
    clear hle hBL
    go_wp2_with fail
    go_ret
    exact HFIN.out
  · have p2 : ¬ (4 : Int) ≤ k := by omega
    clear hpos h
    go_wp2_with fail
    rw [HWV.out]
    have hle := length_any q0 q1 q2 q3 q4 q5 q6 q7 ax n12 cx wv b6 b7
    rw [hlen67] at hle
    refine (hle).mono ?_
    rintro e wL ⟨rfl, hBL⟩
    have HFIN : Hid (TrueA w (.returned (.bool true)) wL) := Lib.hid ⟨rfl, HBV.out.trans (hBL.mono HBV.out.size)⟩
    clear hle hBL
    go_wp2_with fail
    go_ret
    exact HFIN.out
end Go.Proofs.Ytdhlklfeibgllaa
