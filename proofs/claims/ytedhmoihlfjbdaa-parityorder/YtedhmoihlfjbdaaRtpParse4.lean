
/-
  rtp.readPacket.
-/
import Derived.Test.YtedhmoihlfjbdaaRtpParse3
namespace Go.Proofs.Ytedhmoihlfjbdaa
open Go.RowKit Go.Shelf
set_option linter.unusedVariables false
theorem getD_drop1 (l : List Int) (k i : Nat) : (l.drop k).getD i 0 = l.getD (k + i) 0 := by simp [List.getD_eq_getElem?_getD]
/-- A call that panics, and a way out that cannot be. -/
theorem orFalse {P : Program} {f : FuncId} {args : Array Value} {w : World} {R : Ending → World → Prop} (v : Value) (h : Calls P f args w R) : Calls P f args w fun e w' => R e w' ∨ (e = .returned v ∧ Hid False) := h.mono fun _ _ h => .inl h
theorem nz_if (p : Prop) [Decidable p] (v : Int) (hv : v ≠ 0) : ((if p then v else 0) != 0) = decide p := by by_cases h : p <;> simp [h, hv]
set_option maxHeartbeats 8000000 in
set_option maxRecDepth 100000 in
theorem readPacket_any (R U : Nat) (a : Option Addr) (n c : Nat) (l : List Int) (w : World) (h : RdAt w R U a n c l) (hn : n ≤ 1500) :
    Calls Try.prog 76 #[.pointer (some ⟨R, 0, none⟩)] w (RPost R U n l w) := by
  obtain ⟨w0, hw0⟩ : ∃ w0, w.alloc (.cells #[.bool false, .int .i64 0, .int .u16 0, .int .u32 0, .int .u32 0, .slice none 0 0, .bool false, .int .u16 0, .slice none 0 0, .slice none 0 0, .slice none 0 0] 71) = w0 := ⟨_, rfl⟩
  have hB0 : Below w.heap.size w w0 := by rw [← hw0]; exact (Below.refl _ w).alloc (Nat.le_refl _) _
  have hbx0 : w0.heap[w.heap.size]? = some (.cells #[.bool false, .int .i64 0, .int .u16 0, .int .u32 0, .int .u32 0, .slice none 0 0, .bool false, .int .u16 0, .slice none 0 0, .slice none 0 0, .slice none 0 0] 71 (0, 0)) := by rw [← hw0]; exact lit_new rfl
  have hz0 : w0.heap.size = w.heap.size + 1 := by rw [← hw0]; simp
  have hR0 := h.below hB0
  have HK0 := Lib.hid (show Keep2 w w0 R (some U) from ⟨hB0.os, hB0.tape, hB0.output, hB0.size, fun k hk _ _ => hB0.block k hk⟩)
  have HW0 := Lib.hid hw0; have HR0 := Lib.hid hR0; have HZ0 := Lib.hid hz0; have HBX0 := Lib.hid hbx0; have HH := Lib.hid h; have HLN := Lib.hid h.row.len; have HOK := Lib.hid h.row.ok
  clear hw0 hR0 hB0 h hz0 hbx0
  by_cases h1 : 1 ≤ n
  case neg =>
    go_enter Try.func76, Try.ntmps76
    go_wp2_with fail
    rw [HW0.out]
    refine (byte_fail R U a n c l w0 HR0.out (by omega)).mono ?_
    rintro e w1 ⟨rfl, f1, f2, f3⟩
    exact ⟨rfl, RPost.no (pc0 (by omega)) (by decide) ⟨rfl, f1, keep2_trans HK0.out (fail_keep f2 R)⟩⟩
  have hn0 : n ≠ 0 := by omega
  have HBY := byte_ok R U a n c l w0 HR0.out h1
  rw [byte1 l (by have := HLN.out; omega)] at HBY
  have hb0 := HOK.out 0
  have HBY := Lib.hid HBY
  obtain ⟨x0, hx0⟩ : ∃ x0, l.getD 0 0 = x0 := ⟨_, rfl⟩
  rw [hx0] at HBY hb0
  have HX0 := Lib.hid hx0; clear hx0
  by_cases hv : x0 / 64 = 2
  case neg =>
    have hv' : (x0 / 64 != 2) = true := by simpa using hv
    go_enter Try.func76, Try.ntmps76
    go_wp2_with fail
    rw [HW0.out]
    refine (HBY.out).mono ?_
    rintro e w1 ⟨rfl, hR1, hg1⟩
    have HR1 := Lib.hid hR1; have HG1 := Lib.hid hg1; clear hR1 hg1
    go_wp2_with fail
    refine (fail_nz R U _ _ _ _ 21 w1 HR1.out rfl).mono ?_
    rintro e w2 ⟨rfl, f1, f2, f3⟩
    exact ⟨rfl, RPost.no (pcv hn0 (by rw [HX0.out]; exact hv)) (by decide) ⟨rfl, f1, keep2_trans (keep2_trans HK0.out (took_keep HG1.out U)) (fail_keep f2 R)⟩⟩
  have hv' : (x0 / 64 != 2) = false := by simpa using hv
  have HV := Lib.hid (show l.getD 0 0 / 64 = 2 by rw [HX0.out]; exact hv); clear hv
  obtain ⟨_, _, q3, q4, q5⟩ := bits_byte x0 hb0.1 hb0.2
  have hnc : x0 % 16 = ((pnc l : Nat) : Int) := by unfold pnc; rw [HX0.out]; omega
  rw [hnc] at q3
  have he4 : pext l = decide (x0 / 16 % 2 = 1) := by unfold pext; rw [HX0.out]
  have he5 : ppad l = decide (x0 / 32 % 2 = 1) := by unfold ppad; rw [HX0.out]
  obtain ⟨y4, hy4⟩ : ∃ y, (if x0 / 16 % 2 = 1 then (16 : Int) else 0) = y := ⟨_, rfl⟩
  obtain ⟨y5, hy5⟩ : ∃ y, (if x0 / 32 % 2 = 1 then (32 : Int) else 0) = y := ⟨_, rfl⟩
  rw [hy4] at q4; rw [hy5] at q5
  have hz4 : (y4 != 0) = pext l := by rw [he4, ← hy4]; exact nz_if _ 16 (by decide)
  have hz5 : (y5 != 0) = ppad l := by rw [he5, ← hy5]; exact nz_if _ 32 (by decide)
  have hp1 : pat1 l = 12 + 4 * pnc l := rfl
  have hp2 : pat2 l = if pext l = true then pat1 l + 4 + 4 * pwd l else pat1 l := rfl
  have hn15 : pnc l ≤ 15 := by unfold pnc; omega
  have HP1 := Lib.hid hp1; have HP2 := Lib.hid hp2; clear he4 he5 hy4 hy5 hnc hp1 hp2
  obtain ⟨k, hk⟩ : ∃ k, pnc l = k := ⟨_, rfl⟩
  rw [hk] at q3 HP1 hn15
  have HKK := Lib.hid hk; clear hk
  go_enter Try.func76, Try.ntmps76
  go_wp2_with fail
  rw [HW0.out]
  refine (HBY.out).mono ?_
  rintro e w1 ⟨rfl, hR1, hg1⟩
  have HR1 := Lib.hid hR1; have HK1 := Lib.hid (keep2_trans HK0.out (took_keep hg1 U))
  have HBX1 := Lib.hid ((hg1.block w.heap.size (by have := HZ0.out; omega) (by have := HH.out.ltR; simp; omega)).trans HBX0.out)
  have HZ1 := Lib.hid hg1.size
  clear hR1 hg1 HBY
  go_wp2_with fail
  by_cases h2 : 2 ≤ n
  case neg =>
    refine (byte_fail R U _ _ _ _ w1 HR1.out (by omega)).mono ?_
    rintro e w2 ⟨rfl, f1, f2, f3⟩
    exact ⟨rfl, RPost.no (pc1 hn0 HV.out (by have := HP1.out; omega)) (by decide) ⟨rfl, f1, keep2_trans HK1.out (fail_keep f2 R)⟩⟩
  have HBY := byte_ok R U _ _ _ _ w1 HR1.out (by omega)
  rw [byte1 _ (by rw [List.length_drop]; have := HLN.out; omega), getD_drop1] at HBY
  have hb1 := HOK.out 1
  obtain ⟨x1, hx1⟩ : ∃ x1, l.getD 1 0 = x1 := ⟨_, rfl⟩
  rw [show 1 + 0 = 1 from rfl, hx1] at HBY
  rw [hx1] at hb1
  have HX1 := Lib.hid hx1; clear hx1
  have HBY := Lib.hid HBY
  obtain ⟨q1, q2, _, _, _⟩ := bits_byte x1 hb1.1 hb1.2
  obtain ⟨y1, hy1⟩ : ∃ y, (if 128 ≤ x1 then (128 : Int) else 0) = y := ⟨_, rfl⟩
  rw [hy1] at q1
  obtain ⟨m, hm⟩ : ∃ m, decide (128 ≤ x1) = m := ⟨_, rfl⟩
  have hz1 : (y1 != 0) = m := by rw [← hm, ← hy1]; exact nz_if _ 128 (by decide)
  obtain ⟨pt, hpt⟩ : ∃ pt, x1 % 128 = pt := ⟨_, rfl⟩
  rw [hpt] at q2
  have HM := Lib.hid hm; have HPT := Lib.hid hpt; clear hm hpt hy1
  refine (HBY.out).mono ?_
  rintro e w2 ⟨rfl, hR2, hg2⟩
  have hz02 : w.heap.size < w2.heap.size := by have := HZ0.out; have := HZ1.out; have := hg2.size; omega
  have HS0 : Hid (RS w (w2.alloc (.cells #[.bool m, .int .i64 pt, .int .u16 0, .int .u32 0, .int .u32 0, .slice none 0 0, .bool false, .int .u16 0, .slice none 0 0, .slice none 0 0, .slice none 0 0] 71)) R U w2.heap.size (restA (restA a c 1) (c - 1) 1) (n - 1 - 1) (c - 1 - 1) ((l.drop 1).drop 1) #[.bool m, .int .i64 pt, .int .u16 0, .int .u32 0, .int .u32 0, .slice none 0 0, .bool false, .int .u16 0, .slice none 0 0, .slice none 0 0, .slice none 0 0]) := by
    have hB : Below w2.heap.size w2 (w2.alloc (.cells #[.bool m, .int .i64 pt, .int .u16 0, .int .u32 0, .int .u32 0, .slice none 0 0, .bool false, .int .u16 0, .slice none 0 0, .slice none 0 0, .slice none 0 0] 71)) := (Below.refl _ w2).alloc (Nat.le_refl _) _
    have hk2 := keep2_trans HK1.out (took_keep hg2 U)
    refine Lib.hid ⟨hR2.below hB, lit_new rfl, (hB.block _ hz02).trans ((hg2.block w.heap.size (by have := HZ0.out; have := HZ1.out; omega) (by have := HH.out.ltR; simp; omega)).trans HBX1.out), hz02, HH.out.ltR, HH.out.ltU, restA_old (restA_old (fun h0 x hx => HH.out.row.lt h0 x hx)), ?_⟩
    exact ⟨hB.os.trans hk2.os, hB.tape.trans hk2.tape, hB.output.trans hk2.output, Nat.le_trans hk2.size hB.size, fun k hk e1 e2 => (hB.block k (by have := hk2.size; omega)).trans (hk2.block k hk e1 e2)⟩
  clear hR2 hg2 HBY HR1 HK1 HBX1 HZ1
  go_wp2_with fail
  obtain ⟨w3, hw3⟩ : ∃ w3, w2.alloc (.cells #[.bool m, .int .i64 pt, .int .u16 0, .int .u32 0, .int .u32 0, .slice none 0 0, .bool false, .int .u16 0, .slice none 0 0, .slice none 0 0, .slice none 0 0] 71) = w3 := ⟨_, rfl⟩
  rw [hw3] at HS0
  rw [hw3]
  clear hw3
  obtain ⟨P, hP⟩ : ∃ P, w2.heap.size = P := ⟨_, rfl⟩
  rw [hP] at HS0 hz02 ⊢
  clear hP
  rw [List.drop_drop, Nat.sub_sub] at HS0
  by_cases h4 : 4 ≤ n
  case neg =>
    refine (word_fail R U _ _ _ _ _ HS0.out.rd (by omega)).mono ?_
    rintro e w5 ⟨rfl, f1, f2, f3⟩
    exact ⟨rfl, RPost.no (pc1 hn0 HV.out (by have := HP1.out; omega)) (by decide) (HS0.out.fail ⟨rfl, f1, f2, f3⟩)⟩
  have HBY := word_ok R U _ _ _ _ _ HS0.out.rd (by omega)
  have hbsq := num_lt (HOK.out.drop 2) 2 (by rw [List.length_drop]; have := HLN.out; omega) 65536 rfl
  obtain ⟨sq, hsq⟩ : ∃ x, Num ((l.drop 2).take 2) = x := ⟨_, rfl⟩
  rw [hsq] at HBY hbsq
  have Hsq := Lib.hid hsq; clear hsq
  have HBY := Lib.hid HBY
  refine (HBY.out).mono ?_
  rintro e w4 ⟨rfl, hR, hg⟩
  have HS1 := HS0.out.took hR hg
  rw [List.drop_drop, Nat.sub_sub] at HS1
  have c2 : w4.cell? ⟨P, 2, none⟩ = some (.int .u16 0) := HS1.c 2
  have ff := HS1.f 2
  have HS1 := Lib.hid (show RS w _ R U P _ _ _ _ #[.bool m, .int .i64 pt, .int .u16 sq, .int .u32 0, .int .u32 0, .slice none 0 0, .bool false, .int .u16 0, .slice none 0 0, .slice none 0 0, .slice none 0 0] from HS1.store 2 (.int .u16 sq))
  clear hR hg HBY HS0
  go_wp2_with fail
  clear c2 ff
  by_cases h8 : 8 ≤ n
  case neg =>
    refine (long_fail R U _ _ _ _ _ HS1.out.rd (by omega)).mono ?_
    rintro e w5 ⟨rfl, f1, f2, f3⟩
    exact ⟨rfl, RPost.no (pc1 hn0 HV.out (by have := HP1.out; omega)) (by decide) (HS1.out.fail ⟨rfl, f1, f2, f3⟩)⟩
  have HBY := long_ok R U _ _ _ _ _ HS1.out.rd (by omega)
  have hbts := num_lt (HOK.out.drop 4) 4 (by rw [List.length_drop]; have := HLN.out; omega) 4294967296 rfl
  obtain ⟨ts, hts⟩ : ∃ x, Num ((l.drop 4).take 4) = x := ⟨_, rfl⟩
  rw [hts] at HBY hbts
  have Hts := Lib.hid hts; clear hts
  have HBY := Lib.hid HBY
  refine (HBY.out).mono ?_
  rintro e w5 ⟨rfl, hR, hg⟩
  have HS2 := HS1.out.took hR hg
  rw [List.drop_drop, Nat.sub_sub] at HS2
  have c3 : w5.cell? ⟨P, 3, none⟩ = some (.int .u32 0) := HS2.c 3
  have ff := HS2.f 3
  have HS2 := Lib.hid (show RS w _ R U P _ _ _ _ #[.bool m, .int .i64 pt, .int .u16 sq, .int .u32 ts, .int .u32 0, .slice none 0 0, .bool false, .int .u16 0, .slice none 0 0, .slice none 0 0, .slice none 0 0] from HS2.store 3 (.int .u32 ts))
  clear hR hg HBY HS1
  go_wp2_with fail
  clear c3 ff
  by_cases h12 : 12 ≤ n
  case neg =>
    refine (long_fail R U _ _ _ _ _ HS2.out.rd (by omega)).mono ?_
    rintro e w5 ⟨rfl, f1, f2, f3⟩
    exact ⟨rfl, RPost.no (pc1 hn0 HV.out (by have := HP1.out; omega)) (by decide) (HS2.out.fail ⟨rfl, f1, f2, f3⟩)⟩
  have HBY := long_ok R U _ _ _ _ _ HS2.out.rd (by omega)
  have hbss := num_lt (HOK.out.drop 8) 4 (by rw [List.length_drop]; have := HLN.out; omega) 4294967296 rfl
  obtain ⟨ss, hss⟩ : ∃ x, Num ((l.drop 8).take 4) = x := ⟨_, rfl⟩
  rw [hss] at HBY hbss
  have Hss := Lib.hid hss; clear hss
  have HBY := Lib.hid HBY
  refine (HBY.out).mono ?_
  rintro e w6 ⟨rfl, hR, hg⟩
  have HS3 := HS2.out.took hR hg
  rw [List.drop_drop, Nat.sub_sub] at HS3
  have c4 : w6.cell? ⟨P, 4, none⟩ = some (.int .u32 0) := HS3.c 4
  have ff := HS3.f 4
  have HS3 := Lib.hid (show RS w _ R U P _ _ _ _ #[.bool m, .int .i64 pt, .int .u16 sq, .int .u32 ts, .int .u32 ss, .slice none 0 0, .bool false, .int .u16 0, .slice none 0 0, .slice none 0 0, .slice none 0 0] from HS3.store 4 (.int .u32 ss))
  clear hR hg HBY HS2
  go_wp2_with fail
  clear c4 ff
  have HRL := Lib.hid (show RL w _ R U P n l m pt sq ts ss 0 none 0 _ _ from ⟨HS3.out, OwnL.nil _ _⟩)
  clear HS3
  go_loopw [32] (fun iv wr => ∃ (i : Nat) (ac : Option Addr) (cc : Nat) (a' : Option Addr) (c' : Nat), i ≤ k ∧ 12 + 4 * i ≤ n ∧ iv = .int .i64 i ∧ Hid (RL w wr R U P n l m pt sq ts ss i ac cc a' c')) (fun iv _ => k - (intOf iv).toNat)
  case atStart => exact ⟨0, none, 0, _, _, Nat.zero_le _, by omega, rfl, HRL⟩
  case round =>
    obtain ⟨i, ac, cc, a', c', hi, hin, rfl, HQ⟩ := hrel
    clear HRL
    by_cases hlt : i < k
    · have hltz : (i : Int) < (k : Int) := by omega
      have hcur : wr.cell? ⟨P, 5, none⟩ = some (.slice ac i cc) := HQ.out.rs.c 5
      have RD := Lib.hid (HQ.out.rs.rd.below (Below.refl _ wr).drew)
      by_cases h16 : 12 + 4 * i + 4 ≤ n
      · have HLG := Lib.hid (long_ok R U _ _ _ _ wr.drew RD.out (by omega))
        have HNX : Hid (∀ w7, RdAt w7 R U (restA a' c' 4) (n - 12 - 4 * i - 4) (c' - 4) ((l.drop (12 + 4 * i)).drop 4) → wr.drew.grownBy w7 (some R) → _) := Lib.hid fun w7 hr hg => HQ.out.next HLN.out HOK.out (by omega) (by omega) (W0 := wr.drew) ⟨⟨Nat.le_refl _, fun _ _ _ => rfl⟩, rfl⟩ hr hg ⟨rfl, rfl, rfl⟩ 69
        generalize Num ((l.drop (12 + 4 * i)).take 4) = x at HLG HNX
        have DR : Hid (∀ W : World, W.cell? ⟨P, 5, none⟩ = some (.slice ac i cc) → W.drew.cell? ⟨P, 5, none⟩ = some (.slice ac i cc)) := Lib.hid fun W h => h
        go_wp2_with fail
        go_region_law
          (first
            | (refine step_append_run rfl (.tmp 35) (.tmp 38) 69 69 rfl (.slice ac i cc) (.slice (some ⟨w7.heap.size, 0, none⟩) 1 1) (by rfl) (by rfl) _ _ HRUN.out ?_)
            | (go_simp; go_at_call 106; refine (HLG.out).mono ?_; rintro e w7 ⟨rfl, hR7, hg7⟩; obtain ⟨a2, c2, w8, hrun, hS8, hF8, hRL8⟩ := HNX.out w7 hR7 hg7; have HRUN := Lib.hid hrun; have HRL8 := Lib.hid hRL8; have hS7 : w7.cell? ⟨P, 5, none⟩ = some (.slice ac i cc) := (HQ.out.rs.took (k := 4) hR7 ⟨hg7.os, hg7.tape, hg7.output, hg7.size, hg7.block⟩).c 5; have hA7 : ∀ o, (w7.alloc o).cell? ⟨P, 5, none⟩ = some (.slice ac i cc) := fun o => (World.cell?_of_block (w := w7) (a := ⟨P, 5, none⟩) (heap_alloc_old w7 o (HQ.out.rs.took (k := 4) hR7 ⟨hg7.os, hg7.tape, hg7.output, hg7.size, hg7.block⟩).zP)).trans hS7; clear hrun hRL8 hR7 hg7))
        all_goals go_wp2
        all_goals
          go_roundw
          case rel => exact ⟨i + 1, a2, c2, _, _, by omega, by omega, by go_num, HRL8⟩
          case measure => simp [intOf]; omega
      · have HLG := Lib.hid (orFalse (.int .u32 0) (long_fail R U _ _ _ _ wr.drew RD.out (by omega)))
        have HPC := Lib.hid (pc1 hn0 HV.out (by have := HP1.out; omega))
        go_wp2_with fail
        go_region_law
          (first
            | (refine step_append_run rfl (.tmp 35) (.tmp 38) 69 69 rfl (.slice ac i cc) (.slice (some ⟨w7.heap.size, 0, none⟩) 1 1) (by rfl) (by rfl) _ _ HRUN.out ?_)
            | (go_simp; go_at_call 106; refine (HLG.out).mono ?_; rintro e w7 (hf | hf); (obtain ⟨rfl, f1, f2, f3⟩ := hf; exact ⟨rfl, RPost.no HPC.out (by decide) (HQ.out.rs.fail ⟨rfl, f1, ⟨f2.os, f2.tape, f2.output, f2.size, f2.block⟩, f3⟩)⟩); obtain ⟨rfl, HFA⟩ := hf; have HRUN : Hid ((Builtin.append_ #[69, 69] 69 #[.slice ac i cc, .slice (some ⟨w7.heap.size, 0, none⟩) 1 1]).run Try.prog (w7.alloc (.cells #[.int .u32 0] 64)) = .ok (.slice none 0 0) w7) := Lib.hid HFA.out.elim; have hS7 : w7.cell? ⟨P, 5, none⟩ = some (.slice ac i cc) := HFA.out.elim; have hF7 : w7.frozen? ⟨P, 5, none⟩ = false := HFA.out.elim; have hA7 : ∀ o, (w7.alloc o).cell? ⟨P, 5, none⟩ = some (.slice ac i cc) := fun o => HFA.out.elim))
        all_goals exact HFA.out.elim
    · have hltz : ¬ (i : Int) < (k : Int) := by omega
      obtain rfl : i = k := by omega
      cases hx : pext l
      · rw [hx] at hz4
        have hp2 : pat2 l = 12 + 4 * i := by rw [HP2.out, hx, if_neg (by simp)]; exact HP1.out
        have HTL : Hid (ptail l = l.drop (12 + 4 * i)) := Lib.hid (by unfold ptail; rw [hp2])
        have HPT2 := Lib.hid hp2
        have HPX := Lib.hid hx
        have HPR : Hid (pprof l = 0) := Lib.hid (by unfold pprof; rw [hx]; simp)
        have HLE : Hid (pexts l = []) := Lib.hid (by unfold pexts; rw [hx]; simp)
        have HT := Lib.hid (show RT w wr R U P a' (n - 12 - 4 * i) c' (l.drop (12 + 4 * i)) m pt sq ts ss ac i cc (pcsrc l i) false 0 none 0 0 [] from ⟨HQ.out.rs, HQ.out.own.lin, BIn.nil _ _⟩)
        clear hx hp2 HQ HP2
        obtain ⟨n', hn'⟩ : ∃ n', n - 12 - 4 * i = n' := ⟨_, rfl⟩
        rw [hn'] at HT
        have hn2 : n' ≤ 1500 := by omega
        have HN' := Lib.hid hn'; clear hn'
        go_wp2_with fail
        refine (rest_ok R U _ _ _ _ _ HT.out.rs.rd (by omega)).mono ?_
        rintro e w7 ⟨a1, c1, rfl, hO7, hR7, hg7⟩
        have hs7 := HT.out.rs.took hR7 hg7
        have hlt7 := HT.out.rs.rd.row.len
        rw [Nat.sub_self, List.drop_of_length_le (Nat.le_of_eq hlt7)] at hs7
        rw [List.take_of_length_le (Nat.le_of_eq hlt7)] at hO7
        have ha7 : Above (P + 1) _ w7 := Above.grown hg7 (by have := hs7.ltP; have := hs7.ltR; omega)
        have HC7 := Lib.hid (HT.out.csrc.above ha7); have HE7 := Lib.hid (HT.out.ext.above ha7)
        have HO7 := Lib.hid (hO7.mono HT.out.rs.zP); have HS7 := Lib.hid hs7; have HLT7 := Lib.hid hlt7
        have hzz : ¬ w.heap.size = P := by have := hs7.ltP; omega
        have hzy : ¬ P = w.heap.size := by have := hs7.ltP; omega
        have fP := hs7.f
        have fB : ∀ o, w7.frozen? ⟨w.heap.size, o, none⟩ = false := fun o => frozen_of_row w7 _ o _ _ hs7.bx
        have d0 : w7.cell? ⟨P, 0, none⟩ = some (.bool m) := hs7.c 0
        have d1 : w7.cell? ⟨P, 1, none⟩ = some (.int .i64 pt) := hs7.c 1
        have d2 : w7.cell? ⟨P, 2, none⟩ = some (.int .u16 sq) := hs7.c 2
        have d3 : w7.cell? ⟨P, 3, none⟩ = some (.int .u32 ts) := hs7.c 3
        have d4 : w7.cell? ⟨P, 4, none⟩ = some (.int .u32 ss) := hs7.c 4
        have d5 : w7.cell? ⟨P, 5, none⟩ = some (.slice ac i cc) := hs7.c 5
        have d6 : w7.cell? ⟨P, 6, none⟩ = some (.bool false) := hs7.c 6
        have d7 : w7.cell? ⟨P, 7, none⟩ = some (.int .u16 0) := hs7.c 7
        have d8 : w7.cell? ⟨P, 8, none⟩ = some (.slice none 0 0) := hs7.c 8
        have d9 : w7.cell? ⟨P, 9, none⟩ = some (.slice none 0 0) := hs7.c 9
        have d10 : w7.cell? ⟨P, 10, none⟩ = some (.slice none 0 0) := hs7.c 10
        clear hs7 hlt7 hO7 hR7 hg7 ha7 HT
        have HPC := pc_end hn0 HV.out (by have := HP1.out; omega) (fun e => by rw [HPX.out] at e; cases e) (by rw [HPT2.out]; omega)
        cases hpp : ppad l
        · rw [hpp] at hz5
          have HPP := Lib.hid hpp; clear hpp
          rw [HPP.out, if_neg (by simp)] at HPC
          have HPC := Lib.hid HPC
          have y0 : w7.cell? ⟨w.heap.size, 0, none⟩ = some (.bool false) := by rw [cell_of_row w7 _ 0 _ _ _ HS7.out.bx]; rfl
          have y1 : w7.cell? ⟨w.heap.size, 1, none⟩ = some (.int .i64 0) := by rw [cell_of_row w7 _ 1 _ _ _ HS7.out.bx]; rfl
          have y2 : w7.cell? ⟨w.heap.size, 2, none⟩ = some (.int .u16 0) := by rw [cell_of_row w7 _ 2 _ _ _ HS7.out.bx]; rfl
          have y3 : w7.cell? ⟨w.heap.size, 3, none⟩ = some (.int .u32 0) := by rw [cell_of_row w7 _ 3 _ _ _ HS7.out.bx]; rfl
          have y4 : w7.cell? ⟨w.heap.size, 4, none⟩ = some (.int .u32 0) := by rw [cell_of_row w7 _ 4 _ _ _ HS7.out.bx]; rfl
          have y5 : w7.cell? ⟨w.heap.size, 5, none⟩ = some (.slice none 0 0) := by rw [cell_of_row w7 _ 5 _ _ _ HS7.out.bx]; rfl
          have y6 : w7.cell? ⟨w.heap.size, 6, none⟩ = some (.bool false) := by rw [cell_of_row w7 _ 6 _ _ _ HS7.out.bx]; rfl
          have y7 : w7.cell? ⟨w.heap.size, 7, none⟩ = some (.int .u16 0) := by rw [cell_of_row w7 _ 7 _ _ _ HS7.out.bx]; rfl
          have y8 : w7.cell? ⟨w.heap.size, 8, none⟩ = some (.slice none 0 0) := by rw [cell_of_row w7 _ 8 _ _ _ HS7.out.bx]; rfl
          have y9 : w7.cell? ⟨w.heap.size, 9, none⟩ = some (.slice none 0 0) := by rw [cell_of_row w7 _ 9 _ _ _ HS7.out.bx]; rfl
          have y10 : w7.cell? ⟨w.heap.size, 10, none⟩ = some (.slice none 0 0) := by rw [cell_of_row w7 _ 10 _ _ _ HS7.out.bx]; rfl
          go_wp2
          obtain ⟨w8, hw8⟩ : ∃ w8, w7.setCell ⟨P, 9, none⟩ (.slice a1 n' c1) = w8 := ⟨_, rfl⟩
          have hs8 := (show RS w (w7.setCell ⟨P, 9, none⟩ (.slice a1 n' c1)) R U P _ 0 _ [] #[.bool m, .int .i64 pt, .int .u16 sq, .int .u32 ts, .int .u32 ss, .slice ac i cc, .bool false, .int .u16 0, .slice none 0 0, .slice a1 n' c1, .slice none 0 0] from HS7.out.store 9 (.slice a1 n' c1))
          rw [hw8] at hs8
          have ha8 : Above (P + 1) w7 w8 := by rw [← hw8]; exact ⟨by simp, fun k h1 h2 => Below.heap_setCell w7 _ _ k (by simp; omega)⟩
          rw [hw8]
          obtain ⟨w9, hw9⟩ : ∃ w9, putL w8 w.heap.size 0 [.bool m, .int .i64 pt, .int .u16 sq, .int .u32 ts, .int .u32 ss, .slice ac i cc, .bool false, .int .u16 0, .slice none 0 0, .slice a1 n' c1, .slice none 0 0] = w9 := ⟨_, rfl⟩
          have P9 : Put w8 w9 w.heap.size #[.bool m, .int .i64 pt, .int .u16 sq, .int .u32 ts, .int .u32 ss, .slice ac i cc, .bool false, .int .u16 0, .slice none 0 0, .slice a1 n' c1, .slice none 0 0] 71 := by rw [← hw9]; exact putL_is (us := [.bool false, .int .i64 0, .int .u16 0, .int .u32 0, .int .u32 0, .slice none 0 0, .bool false, .int .u16 0, .slice none 0 0, .slice none 0 0, .slice none 0 0]) hs8.bx rfl
          simp only [putL, Nat.zero_add, Nat.reduceAdd] at hw9
          rw [hw9]
          have q9 := P9.row
          have HF := Lib.hid (RT.done (p := ppk l) (lt := []) (n' := 0) hs8 (HC7.out.above ha8) (HE7.out.above ha8) (HO7.out.bin.above ha8) (BIn.nil _ _) (ppk_eq (by rw [HX1.out]; exact HM.out) (by rw [HX1.out]; exact HPT.out) Hsq.out Hts.out Hss.out (by rw [HKK.out]) HPX.out HPR.out HLE.out
              (by unfold pend; rw [HPP.out, if_neg (by simp), Nat.sub_zero, HTL.out, List.take_of_length_le (Nat.le_refl _)]) (by unfold pend; rw [HPP.out, if_neg (by simp), Nat.sub_zero, HTL.out, List.drop_of_length_le (Nat.le_refl _)])) hbsq hbts hbss ⟨by omega, by omega⟩ P9)
          clear hw8 hw9 hs8 ha8 P9 d0 d1 d2 d3 d4 d5 d6 d7 d8 d9 d10 y0 y1 y2 y3 y4 y5 y6 y7 y8 y9 y10
          have d0 : w9.cell? ⟨w.heap.size, 0, none⟩ = some (.bool m) := by rw [cell_of_row w9 _ 0 _ _ _ q9]; rfl
          have d1 : w9.cell? ⟨w.heap.size, 1, none⟩ = some (.int .i64 pt) := by rw [cell_of_row w9 _ 1 _ _ _ q9]; rfl
          have d2 : w9.cell? ⟨w.heap.size, 2, none⟩ = some (.int .u16 sq) := by rw [cell_of_row w9 _ 2 _ _ _ q9]; rfl
          have d3 : w9.cell? ⟨w.heap.size, 3, none⟩ = some (.int .u32 ts) := by rw [cell_of_row w9 _ 3 _ _ _ q9]; rfl
          have d4 : w9.cell? ⟨w.heap.size, 4, none⟩ = some (.int .u32 ss) := by rw [cell_of_row w9 _ 4 _ _ _ q9]; rfl
          have d5 : w9.cell? ⟨w.heap.size, 5, none⟩ = some (.slice ac i cc) := by rw [cell_of_row w9 _ 5 _ _ _ q9]; rfl
          have d6 : w9.cell? ⟨w.heap.size, 6, none⟩ = some (.bool false) := by rw [cell_of_row w9 _ 6 _ _ _ q9]; rfl
          have d7 : w9.cell? ⟨w.heap.size, 7, none⟩ = some (.int .u16 0) := by rw [cell_of_row w9 _ 7 _ _ _ q9]; rfl
          have d8 : w9.cell? ⟨w.heap.size, 8, none⟩ = some (.slice none 0 0) := by rw [cell_of_row w9 _ 8 _ _ _ q9]; rfl
          have d9 : w9.cell? ⟨w.heap.size, 9, none⟩ = some (.slice a1 n' c1) := by rw [cell_of_row w9 _ 9 _ _ _ q9]; rfl
          have d10 : w9.cell? ⟨w.heap.size, 10, none⟩ = some (.slice none 0 0) := by rw [cell_of_row w9 _ 10 _ _ _ q9]; rfl
          clear q9
          exact bodyPost_ret (v := .agg #[.bool m, .int .i64 pt, .int .u16 sq, .int .u32 ts, .int .u32 ss, .slice ac i cc, .bool false, .int .u16 0, .slice none 0 0, .slice a1 n' c1, .slice none 0 0]) (by simp [results, Try.results76, go_sem, d0, d1, d2, d3, d4, d5, d6, d7, d8, d9, d10]) rfl (RPost.yes HPC.out HF.out)
        · rw [hpp] at hz5
          have HPP := Lib.hid hpp; clear hpp
          have hs8 : RS w (w7.setCell ⟨P, 9, none⟩ (.slice a1 n' c1)) R U P _ 0 _ [] #[.bool m, .int .i64 pt, .int .u16 sq, .int .u32 ts, .int .u32 ss, .slice ac i cc, .bool false, .int .u16 0, .slice none 0 0, .slice a1 n' c1, .slice none 0 0] := HS7.out.store 9 (.slice a1 n' c1)
          have ha8 : Above (P + 1) w7 (w7.setCell ⟨P, 9, none⟩ (.slice a1 n' c1)) := ⟨by simp, fun k h1 h2 => Below.heap_setCell w7 _ _ k (by simp; omega)⟩
          have HB8 := Lib.hid (HO7.out.bin.above ha8); have HC8 := Lib.hid (HC7.out.above ha8); have HE8 := Lib.hid (HE7.out.above ha8); have HS8 := Lib.hid hs8
          have hcap : n' ≤ c1 := by
            rcases HO7.out.row.2 with ⟨hv, h0⟩ | ⟨g, cap, cur, hv, _, _, hnc, _⟩
            · omega
            · simp only [Value.slice.injEq, true_and] at hv; omega
          clear hs8 ha8
          by_cases hps : psize (ptail l) = 0
          · rw [HPP.out, if_pos ⟨rfl, hps⟩] at HPC
            have HPC := Lib.hid HPC
            have hps' : psize (l.drop (12 + 4 * i)) = 0 := by rw [← HTL.out]; exact hps
            have HSP := Lib.hid (split_no R U _ _ _ _ a1 n' c1 _ _ HS8.out.rd HB8.out.1 hps')
            clear hps hps'
            go_wp2_with fail
            refine (HSP.out).mono ?_
            rintro e w8 ⟨rfl, f1, f2, f3⟩
            exact ⟨rfl, RPost.no HPC.out (by decide) (HS8.out.fail ⟨rfl, f1, f2, f3⟩)⟩
          · rw [HPP.out, if_neg (fun e => hps e.2)] at HPC
            have HPC := Lib.hid HPC
            have hps' : psize (l.drop (12 + 4 * i)) ≠ 0 := by rw [← HTL.out]; exact hps
            have hple := psize_le _ HO7.out.ok
            rw [HLT7.out] at hple
            obtain ⟨e, he⟩ : ∃ e, e + psize (l.drop (12 + 4 * i)) = n' := ⟨n' - psize (l.drop (12 + 4 * i)), by omega⟩
            have HSP := Lib.hid (split_ok R a1 n' c1 e _ _ HB8.out.1 hcap hps' he)
            have HEE := Lib.hid he
            have hele : e ≤ n' := by omega
            clear hps hps' he hple
            go_wp2_with fail
            refine (HSP.out).mono ?_
            rintro ev w8 ⟨rfl, j, hj⟩
            have hs9 := HS8.out.drewN j
            have hab := Above.drewN (P + 1) (w7.setCell ⟨P, 9, none⟩ (.slice a1 n' c1)) j
            rw [← hj] at hs9 hab
            have HS9 := Lib.hid hs9; have HB9 := Lib.hid (HB8.out.above hab); have HC9 := Lib.hid (HC8.out.above hab); have HE9 := Lib.hid (HE8.out.above hab)
            clear hj hab d0 d1 d2 d3 d4 d5 d6 d7 d8 d9 d10 fP fB HS8 HB8 HC8 HE8 HSP
            have fP := hs9.f
            have fB : ∀ o, w8.frozen? ⟨w.heap.size, o, none⟩ = false := fun o => frozen_of_row w8 _ o _ _ hs9.bx
            have d0 : w8.cell? ⟨P, 0, none⟩ = some (.bool m) := hs9.c 0
            have d1 : w8.cell? ⟨P, 1, none⟩ = some (.int .i64 pt) := hs9.c 1
            have d2 : w8.cell? ⟨P, 2, none⟩ = some (.int .u16 sq) := hs9.c 2
            have d3 : w8.cell? ⟨P, 3, none⟩ = some (.int .u32 ts) := hs9.c 3
            have d4 : w8.cell? ⟨P, 4, none⟩ = some (.int .u32 ss) := hs9.c 4
            have d5 : w8.cell? ⟨P, 5, none⟩ = some (.slice ac i cc) := hs9.c 5
            have d6 : w8.cell? ⟨P, 6, none⟩ = some (.bool false) := hs9.c 6
            have d7 : w8.cell? ⟨P, 7, none⟩ = some (.int .u16 0) := hs9.c 7
            have d8 : w8.cell? ⟨P, 8, none⟩ = some (.slice none 0 0) := hs9.c 8
            have d9 : w8.cell? ⟨P, 9, none⟩ = some (.slice a1 n' c1) := hs9.c 9
            have d10 : w8.cell? ⟨P, 10, none⟩ = some (.slice none 0 0) := hs9.c 10
            have y0 : w8.cell? ⟨w.heap.size, 0, none⟩ = some (.bool false) := by rw [cell_of_row w8 _ 0 _ _ _ HS9.out.bx]; rfl
            have y1 : w8.cell? ⟨w.heap.size, 1, none⟩ = some (.int .i64 0) := by rw [cell_of_row w8 _ 1 _ _ _ HS9.out.bx]; rfl
            have y2 : w8.cell? ⟨w.heap.size, 2, none⟩ = some (.int .u16 0) := by rw [cell_of_row w8 _ 2 _ _ _ HS9.out.bx]; rfl
            have y3 : w8.cell? ⟨w.heap.size, 3, none⟩ = some (.int .u32 0) := by rw [cell_of_row w8 _ 3 _ _ _ HS9.out.bx]; rfl
            have y4 : w8.cell? ⟨w.heap.size, 4, none⟩ = some (.int .u32 0) := by rw [cell_of_row w8 _ 4 _ _ _ HS9.out.bx]; rfl
            have y5 : w8.cell? ⟨w.heap.size, 5, none⟩ = some (.slice none 0 0) := by rw [cell_of_row w8 _ 5 _ _ _ HS9.out.bx]; rfl
            have y6 : w8.cell? ⟨w.heap.size, 6, none⟩ = some (.bool false) := by rw [cell_of_row w8 _ 6 _ _ _ HS9.out.bx]; rfl
            have y7 : w8.cell? ⟨w.heap.size, 7, none⟩ = some (.int .u16 0) := by rw [cell_of_row w8 _ 7 _ _ _ HS9.out.bx]; rfl
            have y8 : w8.cell? ⟨w.heap.size, 8, none⟩ = some (.slice none 0 0) := by rw [cell_of_row w8 _ 8 _ _ _ HS9.out.bx]; rfl
            have y9 : w8.cell? ⟨w.heap.size, 9, none⟩ = some (.slice none 0 0) := by rw [cell_of_row w8 _ 9 _ _ _ HS9.out.bx]; rfl
            have y10 : w8.cell? ⟨w.heap.size, 10, none⟩ = some (.slice none 0 0) := by rw [cell_of_row w8 _ 10 _ _ _ HS9.out.bx]; rfl
            clear hs9
            go_wp2
            obtain ⟨w9, hw9⟩ : ∃ w9, (w8.setCell ⟨P, 9, none⟩ (.slice a1 e e)).setCell ⟨P, 10, none⟩ (.slice (restA a1 c1 e) (n' - e) (c1 - e)) = w9 := ⟨_, rfl⟩
            have hs8 := (show RS w ((w8.setCell ⟨P, 9, none⟩ (.slice a1 e e)).setCell ⟨P, 10, none⟩ (.slice (restA a1 c1 e) (n' - e) (c1 - e))) R U P _ 0 _ [] #[.bool m, .int .i64 pt, .int .u16 sq, .int .u32 ts, .int .u32 ss, .slice ac i cc, .bool false, .int .u16 0, .slice none 0 0, .slice a1 e e, .slice (restA a1 c1 e) (n' - e) (c1 - e)] from (HS9.out.store 9 (.slice a1 e e)).store 10 (.slice (restA a1 c1 e) (n' - e) (c1 - e)))
            rw [hw9] at hs8
            have ha8 : Above (P + 1) w8 w9 := by rw [← hw9]; exact ⟨by simp, fun k h1 h2 => (Below.heap_setCell _ _ _ k (by simp; omega)).trans (Below.heap_setCell w8 _ _ k (by simp; omega))⟩
            rw [hw9]
            obtain ⟨w10, hw10⟩ : ∃ w10, putL w9 w.heap.size 0 [.bool m, .int .i64 pt, .int .u16 sq, .int .u32 ts, .int .u32 ss, .slice ac i cc, .bool false, .int .u16 0, .slice none 0 0, .slice a1 e e, .slice (restA a1 c1 e) (n' - e) (c1 - e)] = w10 := ⟨_, rfl⟩
            have P10 : Put w9 w10 w.heap.size #[.bool m, .int .i64 pt, .int .u16 sq, .int .u32 ts, .int .u32 ss, .slice ac i cc, .bool false, .int .u16 0, .slice none 0 0, .slice a1 e e, .slice (restA a1 c1 e) (n' - e) (c1 - e)] 71 := by rw [← hw10]; exact putL_is (us := [.bool false, .int .i64 0, .int .u16 0, .int .u32 0, .int .u32 0, .slice none 0 0, .bool false, .int .u16 0, .slice none 0 0, .slice none 0 0, .slice none 0 0]) hs8.bx rfl
            simp only [putL, Nat.zero_add, Nat.reduceAdd] at hw10
            rw [hw10]
            have q9 := P10.row
            have hb9 := HB9.out.above ha8
            have hpy : BIn w9 (P + 1) a1 e ((l.drop (12 + 4 * i)).take e) := ⟨hb9.1.take e hele, fun h0 x hx => hb9.2 (by omega) x hx⟩
            have hpd : BIn w9 (P + 1) (restA a1 c1 e) (n' - e) ((l.drop (12 + 4 * i)).drop e) := ⟨restA_bat hb9.1 hcap e hele, fun h0 x hx => by
              obtain ⟨y, hy, ey⟩ := restA_blk hx
              rw [ey]; exact hb9.2 (by omega) y hy⟩
            have HF := Lib.hid (RT.done (p := ppk l) (lt := []) (n' := 0) hs8 (HC9.out.above ha8) (HE9.out.above ha8) hpy hpd (by
              have hpe : pend l = e := by
                unfold pend; rw [HPP.out, if_pos rfl, HTL.out, HLT7.out]; have := HEE.out; omega
              exact ppk_eq (by rw [HX1.out]; exact HM.out) (by rw [HX1.out]; exact HPT.out) Hsq.out Hts.out Hss.out (by rw [HKK.out]) HPX.out HPR.out HLE.out (by rw [hpe, HTL.out]) (by rw [hpe, HTL.out])) hbsq hbts hbss ⟨by omega, by omega⟩ P10)
            clear hw9 hw10 hs8 ha8 P10 hb9 hpy hpd d0 d1 d2 d3 d4 d5 d6 d7 d8 d9 d10 y0 y1 y2 y3 y4 y5 y6 y7 y8 y9 y10
            have d0 : w10.cell? ⟨w.heap.size, 0, none⟩ = some (.bool m) := by rw [cell_of_row w10 _ 0 _ _ _ q9]; rfl
            have d1 : w10.cell? ⟨w.heap.size, 1, none⟩ = some (.int .i64 pt) := by rw [cell_of_row w10 _ 1 _ _ _ q9]; rfl
            have d2 : w10.cell? ⟨w.heap.size, 2, none⟩ = some (.int .u16 sq) := by rw [cell_of_row w10 _ 2 _ _ _ q9]; rfl
            have d3 : w10.cell? ⟨w.heap.size, 3, none⟩ = some (.int .u32 ts) := by rw [cell_of_row w10 _ 3 _ _ _ q9]; rfl
            have d4 : w10.cell? ⟨w.heap.size, 4, none⟩ = some (.int .u32 ss) := by rw [cell_of_row w10 _ 4 _ _ _ q9]; rfl
            have d5 : w10.cell? ⟨w.heap.size, 5, none⟩ = some (.slice ac i cc) := by rw [cell_of_row w10 _ 5 _ _ _ q9]; rfl
            have d6 : w10.cell? ⟨w.heap.size, 6, none⟩ = some (.bool false) := by rw [cell_of_row w10 _ 6 _ _ _ q9]; rfl
            have d7 : w10.cell? ⟨w.heap.size, 7, none⟩ = some (.int .u16 0) := by rw [cell_of_row w10 _ 7 _ _ _ q9]; rfl
            have d8 : w10.cell? ⟨w.heap.size, 8, none⟩ = some (.slice none 0 0) := by rw [cell_of_row w10 _ 8 _ _ _ q9]; rfl
            have d9 : w10.cell? ⟨w.heap.size, 9, none⟩ = some (.slice a1 e e) := by rw [cell_of_row w10 _ 9 _ _ _ q9]; rfl
            have d10 : w10.cell? ⟨w.heap.size, 10, none⟩ = some (.slice (restA a1 c1 e) (n' - e) (c1 - e)) := by rw [cell_of_row w10 _ 10 _ _ _ q9]; rfl
            clear q9
            exact bodyPost_ret (v := .agg #[.bool m, .int .i64 pt, .int .u16 sq, .int .u32 ts, .int .u32 ss, .slice ac i cc, .bool false, .int .u16 0, .slice none 0 0, .slice a1 e e, .slice (restA a1 c1 e) (n' - e) (c1 - e)]) (by simp [results, Try.results76, go_sem, d0, d1, d2, d3, d4, d5, d6, d7, d8, d9, d10]) rfl (RPost.yes HPC.out HF.out)
      · rw [hx] at hz4
        have HPX := Lib.hid hx
        have e6 : wr.cell? ⟨P, 6, none⟩ = some (.bool false) := HQ.out.rs.c 6
        have ff := HQ.out.rs.f 6
        have HS6 := Lib.hid (show RS w (wr.setCell ⟨P, 6, none⟩ (.bool true)) R U P _ _ _ _ #[.bool m, .int .i64 pt, .int .u16 sq, .int .u32 ts, .int .u32 ss, .slice ac i cc, .bool true, .int .u16 0, .slice none 0 0, .slice none 0 0, .slice none 0 0] from HQ.out.rs.store 6 (.bool true))
        have HOL := Lib.hid (show LIn (wr.setCell ⟨P, 6, none⟩ (.bool true)) (P + 1) ac i (pcsrc l i) from HQ.out.own.lin.above ⟨by simp, fun k h1 h2 => Below.heap_setCell wr _ _ k (by simp; omega)⟩)
        clear hx HQ
        go_wp2_with fail
        clear e6 ff
        by_cases h2e : 12 + 4 * i + 2 ≤ n
        case neg =>
          refine (word_fail R U _ _ _ _ _ HS6.out.rd (by omega)).mono ?_
          rintro e w5 ⟨rfl, f1, f2, f3⟩
          exact ⟨rfl, RPost.no (pc2 hn0 HV.out HPX.out (by have := HP1.out; omega)) (by decide) (HS6.out.fail ⟨rfl, f1, f2, f3⟩)⟩
        have HBY := word_ok R U _ _ _ _ _ HS6.out.rd (by omega)
        have hbpr := num_lt (HOK.out.drop (12 + 4 * i)) 2 (by rw [List.length_drop]; have := HLN.out; omega) 65536 rfl
        obtain ⟨pr, hpr⟩ : ∃ x, Num ((l.drop (12 + 4 * i)).take 2) = x := ⟨_, rfl⟩
        rw [hpr] at HBY hbpr
        have Hpr := Lib.hid hpr; clear hpr
        have HBY := Lib.hid HBY
        refine (HBY.out).mono ?_
        rintro e w4 ⟨rfl, hR, hg⟩
        have HS7 := HS6.out.took hR hg
        rw [List.drop_drop] at HS7
        have HOL7 := HOL.out.above (Above.grown (B := P + 1) hg (by have := HS7.ltP; have := HS7.ltR; omega))
        have c7 : w4.cell? ⟨P, 7, none⟩ = some (.int .u16 0) := HS7.c 7
        have ff := HS7.f 7
        have HOL8 := Lib.hid (show LIn (w4.setCell ⟨P, 7, none⟩ (.int .u16 pr)) (P + 1) ac i (pcsrc l i) from HOL7.above ⟨by simp, fun k h1 h2 => Below.heap_setCell w4 _ _ k (by simp; omega)⟩)
        have HS8 := Lib.hid (show RS w (w4.setCell ⟨P, 7, none⟩ (.int .u16 pr)) R U P _ _ _ _ #[.bool m, .int .i64 pt, .int .u16 sq, .int .u32 ts, .int .u32 ss, .slice ac i cc, .bool true, .int .u16 pr, .slice none 0 0, .slice none 0 0, .slice none 0 0] from HS7.store 7 (.int .u16 pr))
        clear hR hg HBY HS6 HS7 HOL HOL7
        go_wp2_with fail
        clear c7 ff
        by_cases h4e : 12 + 4 * i + 4 ≤ n
        case neg =>
          refine (word_fail R U _ _ _ _ _ HS8.out.rd (by omega)).mono ?_
          rintro e w5 ⟨rfl, f1, f2, f3⟩
          exact ⟨rfl, RPost.no (pc2 hn0 HV.out HPX.out (by have := HP1.out; omega)) (by decide) (HS8.out.fail ⟨rfl, f1, f2, f3⟩)⟩
        have HBY := word_ok R U _ _ _ _ _ HS8.out.rd (by omega)
        have hbwd := num_lt (HOK.out.drop (12 + 4 * i + 2)) 2 (by rw [List.length_drop]; have := HLN.out; omega) 65536 rfl
        have hpw : pwd l = (Num ((l.drop (12 + 4 * i + 2)).take 2)).toNat := by unfold pwd; rw [HP1.out]
        obtain ⟨wd, hwd⟩ : ∃ wd : Nat, Num ((l.drop (12 + 4 * i + 2)).take 2) = (wd : Int) := ⟨_, (Int.toNat_of_nonneg hbwd.1).symm⟩
        rw [hwd] at HBY hbwd hpw
        rw [Int.toNat_natCast] at hpw
        have HPW := Lib.hid hpw; clear hpw hwd
        have HBY := Lib.hid HBY
        refine (HBY.out).mono ?_
        rintro e w5 ⟨rfl, hR, hg⟩
        have HS9 := HS8.out.took hR hg
        rw [List.drop_drop] at HS9
        have HOL9 := Lib.hid (HOL8.out.above (Above.grown (B := P + 1) hg (by have := HS9.ltP; have := HS9.ltR; omega)))
        have HS9 := Lib.hid HS9
        clear hR hg HBY HS8 HOL8
        have hcv : IntKind.i64.wrap (wd : Int) = (wd : Int) := by rw [IntKind.wrap_i64]; omega
        have hp2 : pat2 l = 12 + 4 * i + 4 + 4 * wd := by rw [HP2.out, HPX.out, if_pos rfl, HP1.out, HPW.out]
        go_wp2_with fail
        by_cases hwe : 12 + 4 * i + 4 + 4 * wd ≤ n
        case neg =>
          refine (take_fail R U _ _ _ _ _ _ HS9.out.rd (by omega)).mono ?_
          rintro e w6 ⟨rfl, f1, f2, f3⟩
          exact ⟨rfl, RPost.no (pc3 hn0 HV.out (by rw [hp2]; omega)) (by decide) (HS9.out.fail ⟨rfl, f1, f2, f3⟩)⟩
        refine (take_ok R U _ _ _ _ _ (4 * wd) _ HS9.out.rd (by omega) (by omega) (by omega)).mono ?_
        rintro e w6 ⟨ae, ce, rfl, hO, hR, hg⟩
        have hs := HS9.out.took hR hg
        rw [List.drop_drop] at hs
        have hab := Above.grown (B := P + 1) hg (by have := hs.ltP; have := hs.ltR; omega)
        have hol := HOL9.out.above hab
        have hex := (hO.mono HS9.out.zP).bin
        have c8 : w6.cell? ⟨P, 8, none⟩ = some (.slice none 0 0) := hs.c 8
        have ff := hs.f 8
        have hab2 : Above (P + 1) w6 (w6.setCell ⟨P, 8, none⟩ (.slice ae (4 * wd) ce)) := ⟨by simp, fun k h1 h2 => Below.heap_setCell w6 _ _ k (by simp; omega)⟩
        have HTL : Hid (ptail l = l.drop (12 + 4 * i + 2 + 2 + 4 * wd)) := Lib.hid (by unfold ptail; rw [hp2])
        have HPT2 := Lib.hid hp2
        have HPR : Hid (pprof l = pr) := Lib.hid (by unfold pprof; rw [HPX.out, if_pos rfl, HP1.out]; exact Hpr.out)
        have HLE : Hid (pexts l = (l.drop (12 + 4 * i + 2 + 2)).take (4 * wd)) := Lib.hid (by unfold pexts; rw [HPX.out, if_pos rfl, HP1.out, HPW.out])
        have HT := Lib.hid (show RT w (w6.setCell ⟨P, 8, none⟩ (.slice ae (4 * wd) ce)) R U P _ (n - 12 - 4 * i - 2 - 2 - 4 * wd) _ (l.drop (12 + 4 * i + 2 + 2 + 4 * wd)) m pt sq ts ss ac i cc (pcsrc l i) true pr ae (4 * wd) ce ((l.drop (12 + 4 * i + 2 + 2)).take (4 * wd)) from ⟨hs.store 8 (.slice ae (4 * wd) ce), hol.above hab2, hex.above hab2⟩)
        clear hs hab hol hex hab2 hO hR hg HS9 HOL9 hp2 HP2 hcv
        obtain ⟨n', hn'⟩ : ∃ n', n - 12 - 4 * i - 2 - 2 - 4 * wd = n' := ⟨_, rfl⟩
        rw [hn'] at HT
        have hn2 : n' ≤ 1500 := by omega
        have HN' := Lib.hid hn'; clear hn'
        go_wp2_with fail
        refine (rest_ok R U _ _ _ _ _ HT.out.rs.rd (by omega)).mono ?_
        rintro e w7 ⟨a1, c1, rfl, hO7, hR7, hg7⟩
        have hs7 := HT.out.rs.took hR7 hg7
        have hlt7 := HT.out.rs.rd.row.len
        rw [Nat.sub_self, List.drop_of_length_le (Nat.le_of_eq hlt7)] at hs7
        rw [List.take_of_length_le (Nat.le_of_eq hlt7)] at hO7
        have ha7 : Above (P + 1) _ w7 := Above.grown hg7 (by have := hs7.ltP; have := hs7.ltR; omega)
        have HC7 := Lib.hid (HT.out.csrc.above ha7); have HE7 := Lib.hid (HT.out.ext.above ha7)
        have HO7 := Lib.hid (hO7.mono HT.out.rs.zP); have HS7 := Lib.hid hs7; have HLT7 := Lib.hid hlt7
        have hzz : ¬ w.heap.size = P := by have := hs7.ltP; omega
        have hzy : ¬ P = w.heap.size := by have := hs7.ltP; omega
        have fP := hs7.f
        have fB : ∀ o, w7.frozen? ⟨w.heap.size, o, none⟩ = false := fun o => frozen_of_row w7 _ o _ _ hs7.bx
        have d0 : w7.cell? ⟨P, 0, none⟩ = some (.bool m) := hs7.c 0
        have d1 : w7.cell? ⟨P, 1, none⟩ = some (.int .i64 pt) := hs7.c 1
        have d2 : w7.cell? ⟨P, 2, none⟩ = some (.int .u16 sq) := hs7.c 2
        have d3 : w7.cell? ⟨P, 3, none⟩ = some (.int .u32 ts) := hs7.c 3
        have d4 : w7.cell? ⟨P, 4, none⟩ = some (.int .u32 ss) := hs7.c 4
        have d5 : w7.cell? ⟨P, 5, none⟩ = some (.slice ac i cc) := hs7.c 5
        have d6 : w7.cell? ⟨P, 6, none⟩ = some (.bool true) := hs7.c 6
        have d7 : w7.cell? ⟨P, 7, none⟩ = some (.int .u16 pr) := hs7.c 7
        have d8 : w7.cell? ⟨P, 8, none⟩ = some (.slice ae (4 * wd) ce) := hs7.c 8
        have d9 : w7.cell? ⟨P, 9, none⟩ = some (.slice none 0 0) := hs7.c 9
        have d10 : w7.cell? ⟨P, 10, none⟩ = some (.slice none 0 0) := hs7.c 10
        clear hs7 hlt7 hO7 hR7 hg7 ha7 HT
        have HPC := pc_end hn0 HV.out (by have := HP1.out; omega) (fun _ => by have := HP1.out; omega) (by rw [HPT2.out]; omega)
        cases hpp : ppad l
        · rw [hpp] at hz5
          have HPP := Lib.hid hpp; clear hpp
          rw [HPP.out, if_neg (by simp)] at HPC
          have HPC := Lib.hid HPC
          have y0 : w7.cell? ⟨w.heap.size, 0, none⟩ = some (.bool false) := by rw [cell_of_row w7 _ 0 _ _ _ HS7.out.bx]; rfl
          have y1 : w7.cell? ⟨w.heap.size, 1, none⟩ = some (.int .i64 0) := by rw [cell_of_row w7 _ 1 _ _ _ HS7.out.bx]; rfl
          have y2 : w7.cell? ⟨w.heap.size, 2, none⟩ = some (.int .u16 0) := by rw [cell_of_row w7 _ 2 _ _ _ HS7.out.bx]; rfl
          have y3 : w7.cell? ⟨w.heap.size, 3, none⟩ = some (.int .u32 0) := by rw [cell_of_row w7 _ 3 _ _ _ HS7.out.bx]; rfl
          have y4 : w7.cell? ⟨w.heap.size, 4, none⟩ = some (.int .u32 0) := by rw [cell_of_row w7 _ 4 _ _ _ HS7.out.bx]; rfl
          have y5 : w7.cell? ⟨w.heap.size, 5, none⟩ = some (.slice none 0 0) := by rw [cell_of_row w7 _ 5 _ _ _ HS7.out.bx]; rfl
          have y6 : w7.cell? ⟨w.heap.size, 6, none⟩ = some (.bool false) := by rw [cell_of_row w7 _ 6 _ _ _ HS7.out.bx]; rfl
          have y7 : w7.cell? ⟨w.heap.size, 7, none⟩ = some (.int .u16 0) := by rw [cell_of_row w7 _ 7 _ _ _ HS7.out.bx]; rfl
          have y8 : w7.cell? ⟨w.heap.size, 8, none⟩ = some (.slice none 0 0) := by rw [cell_of_row w7 _ 8 _ _ _ HS7.out.bx]; rfl
          have y9 : w7.cell? ⟨w.heap.size, 9, none⟩ = some (.slice none 0 0) := by rw [cell_of_row w7 _ 9 _ _ _ HS7.out.bx]; rfl
          have y10 : w7.cell? ⟨w.heap.size, 10, none⟩ = some (.slice none 0 0) := by rw [cell_of_row w7 _ 10 _ _ _ HS7.out.bx]; rfl
          go_wp2
          obtain ⟨w8, hw8⟩ : ∃ w8, w7.setCell ⟨P, 9, none⟩ (.slice a1 n' c1) = w8 := ⟨_, rfl⟩
          have hs8 := (show RS w (w7.setCell ⟨P, 9, none⟩ (.slice a1 n' c1)) R U P _ 0 _ [] #[.bool m, .int .i64 pt, .int .u16 sq, .int .u32 ts, .int .u32 ss, .slice ac i cc, .bool true, .int .u16 pr, .slice ae (4 * wd) ce, .slice a1 n' c1, .slice none 0 0] from HS7.out.store 9 (.slice a1 n' c1))
          rw [hw8] at hs8
          have ha8 : Above (P + 1) w7 w8 := by rw [← hw8]; exact ⟨by simp, fun k h1 h2 => Below.heap_setCell w7 _ _ k (by simp; omega)⟩
          rw [hw8]
          obtain ⟨w9, hw9⟩ : ∃ w9, putL w8 w.heap.size 0 [.bool m, .int .i64 pt, .int .u16 sq, .int .u32 ts, .int .u32 ss, .slice ac i cc, .bool true, .int .u16 pr, .slice ae (4 * wd) ce, .slice a1 n' c1, .slice none 0 0] = w9 := ⟨_, rfl⟩
          have P9 : Put w8 w9 w.heap.size #[.bool m, .int .i64 pt, .int .u16 sq, .int .u32 ts, .int .u32 ss, .slice ac i cc, .bool true, .int .u16 pr, .slice ae (4 * wd) ce, .slice a1 n' c1, .slice none 0 0] 71 := by rw [← hw9]; exact putL_is (us := [.bool false, .int .i64 0, .int .u16 0, .int .u32 0, .int .u32 0, .slice none 0 0, .bool false, .int .u16 0, .slice none 0 0, .slice none 0 0, .slice none 0 0]) hs8.bx rfl
          simp only [putL, Nat.zero_add, Nat.reduceAdd] at hw9
          rw [hw9]
          have q9 := P9.row
          have HF := Lib.hid (RT.done (p := ppk l) (lt := []) (n' := 0) hs8 (HC7.out.above ha8) (HE7.out.above ha8) (HO7.out.bin.above ha8) (BIn.nil _ _) (ppk_eq (by rw [HX1.out]; exact HM.out) (by rw [HX1.out]; exact HPT.out) Hsq.out Hts.out Hss.out (by rw [HKK.out]) HPX.out HPR.out HLE.out
              (by unfold pend; rw [HPP.out, if_neg (by simp), Nat.sub_zero, HTL.out, List.take_of_length_le (Nat.le_refl _)]) (by unfold pend; rw [HPP.out, if_neg (by simp), Nat.sub_zero, HTL.out, List.drop_of_length_le (Nat.le_refl _)])) hbsq hbts hbss hbpr P9)
          clear hw8 hw9 hs8 ha8 P9 d0 d1 d2 d3 d4 d5 d6 d7 d8 d9 d10 y0 y1 y2 y3 y4 y5 y6 y7 y8 y9 y10
          have d0 : w9.cell? ⟨w.heap.size, 0, none⟩ = some (.bool m) := by rw [cell_of_row w9 _ 0 _ _ _ q9]; rfl
          have d1 : w9.cell? ⟨w.heap.size, 1, none⟩ = some (.int .i64 pt) := by rw [cell_of_row w9 _ 1 _ _ _ q9]; rfl
          have d2 : w9.cell? ⟨w.heap.size, 2, none⟩ = some (.int .u16 sq) := by rw [cell_of_row w9 _ 2 _ _ _ q9]; rfl
          have d3 : w9.cell? ⟨w.heap.size, 3, none⟩ = some (.int .u32 ts) := by rw [cell_of_row w9 _ 3 _ _ _ q9]; rfl
          have d4 : w9.cell? ⟨w.heap.size, 4, none⟩ = some (.int .u32 ss) := by rw [cell_of_row w9 _ 4 _ _ _ q9]; rfl
          have d5 : w9.cell? ⟨w.heap.size, 5, none⟩ = some (.slice ac i cc) := by rw [cell_of_row w9 _ 5 _ _ _ q9]; rfl
          have d6 : w9.cell? ⟨w.heap.size, 6, none⟩ = some (.bool true) := by rw [cell_of_row w9 _ 6 _ _ _ q9]; rfl
          have d7 : w9.cell? ⟨w.heap.size, 7, none⟩ = some (.int .u16 pr) := by rw [cell_of_row w9 _ 7 _ _ _ q9]; rfl
          have d8 : w9.cell? ⟨w.heap.size, 8, none⟩ = some (.slice ae (4 * wd) ce) := by rw [cell_of_row w9 _ 8 _ _ _ q9]; rfl
          have d9 : w9.cell? ⟨w.heap.size, 9, none⟩ = some (.slice a1 n' c1) := by rw [cell_of_row w9 _ 9 _ _ _ q9]; rfl
          have d10 : w9.cell? ⟨w.heap.size, 10, none⟩ = some (.slice none 0 0) := by rw [cell_of_row w9 _ 10 _ _ _ q9]; rfl
          clear q9
          exact bodyPost_ret (v := .agg #[.bool m, .int .i64 pt, .int .u16 sq, .int .u32 ts, .int .u32 ss, .slice ac i cc, .bool true, .int .u16 pr, .slice ae (4 * wd) ce, .slice a1 n' c1, .slice none 0 0]) (by simp [results, Try.results76, go_sem, d0, d1, d2, d3, d4, d5, d6, d7, d8, d9, d10]) rfl (RPost.yes HPC.out HF.out)
        · rw [hpp] at hz5
          have HPP := Lib.hid hpp; clear hpp
          have hs8 : RS w (w7.setCell ⟨P, 9, none⟩ (.slice a1 n' c1)) R U P _ 0 _ [] #[.bool m, .int .i64 pt, .int .u16 sq, .int .u32 ts, .int .u32 ss, .slice ac i cc, .bool true, .int .u16 pr, .slice ae (4 * wd) ce, .slice a1 n' c1, .slice none 0 0] := HS7.out.store 9 (.slice a1 n' c1)
          have ha8 : Above (P + 1) w7 (w7.setCell ⟨P, 9, none⟩ (.slice a1 n' c1)) := ⟨by simp, fun k h1 h2 => Below.heap_setCell w7 _ _ k (by simp; omega)⟩
          have HB8 := Lib.hid (HO7.out.bin.above ha8); have HC8 := Lib.hid (HC7.out.above ha8); have HE8 := Lib.hid (HE7.out.above ha8); have HS8 := Lib.hid hs8
          have hcap : n' ≤ c1 := by
            rcases HO7.out.row.2 with ⟨hv, h0⟩ | ⟨g, cap, cur, hv, _, _, hnc, _⟩
            · omega
            · simp only [Value.slice.injEq, true_and] at hv; omega
          clear hs8 ha8
          by_cases hps : psize (ptail l) = 0
          · rw [HPP.out, if_pos ⟨rfl, hps⟩] at HPC
            have HPC := Lib.hid HPC
            have hps' : psize (l.drop (12 + 4 * i + 2 + 2 + 4 * wd)) = 0 := by rw [← HTL.out]; exact hps
            have HSP := Lib.hid (split_no R U _ _ _ _ a1 n' c1 _ _ HS8.out.rd HB8.out.1 hps')
            clear hps hps'
            go_wp2_with fail
            refine (HSP.out).mono ?_
            rintro e w8 ⟨rfl, f1, f2, f3⟩
            exact ⟨rfl, RPost.no HPC.out (by decide) (HS8.out.fail ⟨rfl, f1, f2, f3⟩)⟩
          · rw [HPP.out, if_neg (fun e => hps e.2)] at HPC
            have HPC := Lib.hid HPC
            have hps' : psize (l.drop (12 + 4 * i + 2 + 2 + 4 * wd)) ≠ 0 := by rw [← HTL.out]; exact hps
            have hple := psize_le _ HO7.out.ok
            rw [HLT7.out] at hple
            obtain ⟨e, he⟩ : ∃ e, e + psize (l.drop (12 + 4 * i + 2 + 2 + 4 * wd)) = n' := ⟨n' - psize (l.drop (12 + 4 * i + 2 + 2 + 4 * wd)), by omega⟩
            have HSP := Lib.hid (split_ok R a1 n' c1 e _ _ HB8.out.1 hcap hps' he)
            have HEE := Lib.hid he
            have hele : e ≤ n' := by omega
            clear hps hps' he hple
            go_wp2_with fail
            refine (HSP.out).mono ?_
            rintro ev w8 ⟨rfl, j, hj⟩
            have hs9 := HS8.out.drewN j
            have hab := Above.drewN (P + 1) (w7.setCell ⟨P, 9, none⟩ (.slice a1 n' c1)) j
            rw [← hj] at hs9 hab
            have HS9 := Lib.hid hs9; have HB9 := Lib.hid (HB8.out.above hab); have HC9 := Lib.hid (HC8.out.above hab); have HE9 := Lib.hid (HE8.out.above hab)
            clear hj hab d0 d1 d2 d3 d4 d5 d6 d7 d8 d9 d10 fP fB HS8 HB8 HC8 HE8 HSP
            have fP := hs9.f
            have fB : ∀ o, w8.frozen? ⟨w.heap.size, o, none⟩ = false := fun o => frozen_of_row w8 _ o _ _ hs9.bx
            have d0 : w8.cell? ⟨P, 0, none⟩ = some (.bool m) := hs9.c 0
            have d1 : w8.cell? ⟨P, 1, none⟩ = some (.int .i64 pt) := hs9.c 1
            have d2 : w8.cell? ⟨P, 2, none⟩ = some (.int .u16 sq) := hs9.c 2
            have d3 : w8.cell? ⟨P, 3, none⟩ = some (.int .u32 ts) := hs9.c 3
            have d4 : w8.cell? ⟨P, 4, none⟩ = some (.int .u32 ss) := hs9.c 4
            have d5 : w8.cell? ⟨P, 5, none⟩ = some (.slice ac i cc) := hs9.c 5
            have d6 : w8.cell? ⟨P, 6, none⟩ = some (.bool true) := hs9.c 6
            have d7 : w8.cell? ⟨P, 7, none⟩ = some (.int .u16 pr) := hs9.c 7
            have d8 : w8.cell? ⟨P, 8, none⟩ = some (.slice ae (4 * wd) ce) := hs9.c 8
            have d9 : w8.cell? ⟨P, 9, none⟩ = some (.slice a1 n' c1) := hs9.c 9
            have d10 : w8.cell? ⟨P, 10, none⟩ = some (.slice none 0 0) := hs9.c 10
            have y0 : w8.cell? ⟨w.heap.size, 0, none⟩ = some (.bool false) := by rw [cell_of_row w8 _ 0 _ _ _ HS9.out.bx]; rfl
            have y1 : w8.cell? ⟨w.heap.size, 1, none⟩ = some (.int .i64 0) := by rw [cell_of_row w8 _ 1 _ _ _ HS9.out.bx]; rfl
            have y2 : w8.cell? ⟨w.heap.size, 2, none⟩ = some (.int .u16 0) := by rw [cell_of_row w8 _ 2 _ _ _ HS9.out.bx]; rfl
            have y3 : w8.cell? ⟨w.heap.size, 3, none⟩ = some (.int .u32 0) := by rw [cell_of_row w8 _ 3 _ _ _ HS9.out.bx]; rfl
            have y4 : w8.cell? ⟨w.heap.size, 4, none⟩ = some (.int .u32 0) := by rw [cell_of_row w8 _ 4 _ _ _ HS9.out.bx]; rfl
            have y5 : w8.cell? ⟨w.heap.size, 5, none⟩ = some (.slice none 0 0) := by rw [cell_of_row w8 _ 5 _ _ _ HS9.out.bx]; rfl
            have y6 : w8.cell? ⟨w.heap.size, 6, none⟩ = some (.bool false) := by rw [cell_of_row w8 _ 6 _ _ _ HS9.out.bx]; rfl
            have y7 : w8.cell? ⟨w.heap.size, 7, none⟩ = some (.int .u16 0) := by rw [cell_of_row w8 _ 7 _ _ _ HS9.out.bx]; rfl
            have y8 : w8.cell? ⟨w.heap.size, 8, none⟩ = some (.slice none 0 0) := by rw [cell_of_row w8 _ 8 _ _ _ HS9.out.bx]; rfl
            have y9 : w8.cell? ⟨w.heap.size, 9, none⟩ = some (.slice none 0 0) := by rw [cell_of_row w8 _ 9 _ _ _ HS9.out.bx]; rfl
            have y10 : w8.cell? ⟨w.heap.size, 10, none⟩ = some (.slice none 0 0) := by rw [cell_of_row w8 _ 10 _ _ _ HS9.out.bx]; rfl
            clear hs9
            go_wp2
            obtain ⟨w9, hw9⟩ : ∃ w9, (w8.setCell ⟨P, 9, none⟩ (.slice a1 e e)).setCell ⟨P, 10, none⟩ (.slice (restA a1 c1 e) (n' - e) (c1 - e)) = w9 := ⟨_, rfl⟩
            have hs8 := (show RS w ((w8.setCell ⟨P, 9, none⟩ (.slice a1 e e)).setCell ⟨P, 10, none⟩ (.slice (restA a1 c1 e) (n' - e) (c1 - e))) R U P _ 0 _ [] #[.bool m, .int .i64 pt, .int .u16 sq, .int .u32 ts, .int .u32 ss, .slice ac i cc, .bool true, .int .u16 pr, .slice ae (4 * wd) ce, .slice a1 e e, .slice (restA a1 c1 e) (n' - e) (c1 - e)] from (HS9.out.store 9 (.slice a1 e e)).store 10 (.slice (restA a1 c1 e) (n' - e) (c1 - e)))
            rw [hw9] at hs8
            have ha8 : Above (P + 1) w8 w9 := by rw [← hw9]; exact ⟨by simp, fun k h1 h2 => (Below.heap_setCell _ _ _ k (by simp; omega)).trans (Below.heap_setCell w8 _ _ k (by simp; omega))⟩
            rw [hw9]
            obtain ⟨w10, hw10⟩ : ∃ w10, putL w9 w.heap.size 0 [.bool m, .int .i64 pt, .int .u16 sq, .int .u32 ts, .int .u32 ss, .slice ac i cc, .bool true, .int .u16 pr, .slice ae (4 * wd) ce, .slice a1 e e, .slice (restA a1 c1 e) (n' - e) (c1 - e)] = w10 := ⟨_, rfl⟩
            have P10 : Put w9 w10 w.heap.size #[.bool m, .int .i64 pt, .int .u16 sq, .int .u32 ts, .int .u32 ss, .slice ac i cc, .bool true, .int .u16 pr, .slice ae (4 * wd) ce, .slice a1 e e, .slice (restA a1 c1 e) (n' - e) (c1 - e)] 71 := by rw [← hw10]; exact putL_is (us := [.bool false, .int .i64 0, .int .u16 0, .int .u32 0, .int .u32 0, .slice none 0 0, .bool false, .int .u16 0, .slice none 0 0, .slice none 0 0, .slice none 0 0]) hs8.bx rfl
            simp only [putL, Nat.zero_add, Nat.reduceAdd] at hw10
            rw [hw10]
            have q9 := P10.row
            have hb9 := HB9.out.above ha8
            have hpy : BIn w9 (P + 1) a1 e ((l.drop (12 + 4 * i + 2 + 2 + 4 * wd)).take e) := ⟨hb9.1.take e hele, fun h0 x hx => hb9.2 (by omega) x hx⟩
            have hpd : BIn w9 (P + 1) (restA a1 c1 e) (n' - e) ((l.drop (12 + 4 * i + 2 + 2 + 4 * wd)).drop e) := ⟨restA_bat hb9.1 hcap e hele, fun h0 x hx => by
              obtain ⟨y, hy, ey⟩ := restA_blk hx
              rw [ey]; exact hb9.2 (by omega) y hy⟩
            have HF := Lib.hid (RT.done (p := ppk l) (lt := []) (n' := 0) hs8 (HC9.out.above ha8) (HE9.out.above ha8) hpy hpd (by
              have hpe : pend l = e := by
                unfold pend; rw [HPP.out, if_pos rfl, HTL.out, HLT7.out]; have := HEE.out; omega
              exact ppk_eq (by rw [HX1.out]; exact HM.out) (by rw [HX1.out]; exact HPT.out) Hsq.out Hts.out Hss.out (by rw [HKK.out]) HPX.out HPR.out HLE.out (by rw [hpe, HTL.out]) (by rw [hpe, HTL.out])) hbsq hbts hbss hbpr P10)
            clear hw9 hw10 hs8 ha8 P10 hb9 hpy hpd d0 d1 d2 d3 d4 d5 d6 d7 d8 d9 d10 y0 y1 y2 y3 y4 y5 y6 y7 y8 y9 y10
            have d0 : w10.cell? ⟨w.heap.size, 0, none⟩ = some (.bool m) := by rw [cell_of_row w10 _ 0 _ _ _ q9]; rfl
            have d1 : w10.cell? ⟨w.heap.size, 1, none⟩ = some (.int .i64 pt) := by rw [cell_of_row w10 _ 1 _ _ _ q9]; rfl
            have d2 : w10.cell? ⟨w.heap.size, 2, none⟩ = some (.int .u16 sq) := by rw [cell_of_row w10 _ 2 _ _ _ q9]; rfl
            have d3 : w10.cell? ⟨w.heap.size, 3, none⟩ = some (.int .u32 ts) := by rw [cell_of_row w10 _ 3 _ _ _ q9]; rfl
            have d4 : w10.cell? ⟨w.heap.size, 4, none⟩ = some (.int .u32 ss) := by rw [cell_of_row w10 _ 4 _ _ _ q9]; rfl
            have d5 : w10.cell? ⟨w.heap.size, 5, none⟩ = some (.slice ac i cc) := by rw [cell_of_row w10 _ 5 _ _ _ q9]; rfl
            have d6 : w10.cell? ⟨w.heap.size, 6, none⟩ = some (.bool true) := by rw [cell_of_row w10 _ 6 _ _ _ q9]; rfl
            have d7 : w10.cell? ⟨w.heap.size, 7, none⟩ = some (.int .u16 pr) := by rw [cell_of_row w10 _ 7 _ _ _ q9]; rfl
            have d8 : w10.cell? ⟨w.heap.size, 8, none⟩ = some (.slice ae (4 * wd) ce) := by rw [cell_of_row w10 _ 8 _ _ _ q9]; rfl
            have d9 : w10.cell? ⟨w.heap.size, 9, none⟩ = some (.slice a1 e e) := by rw [cell_of_row w10 _ 9 _ _ _ q9]; rfl
            have d10 : w10.cell? ⟨w.heap.size, 10, none⟩ = some (.slice (restA a1 c1 e) (n' - e) (c1 - e)) := by rw [cell_of_row w10 _ 10 _ _ _ q9]; rfl
            clear q9
            exact bodyPost_ret (v := .agg #[.bool m, .int .i64 pt, .int .u16 sq, .int .u32 ts, .int .u32 ss, .slice ac i cc, .bool true, .int .u16 pr, .slice ae (4 * wd) ce, .slice a1 e e, .slice (restA a1 c1 e) (n' - e) (c1 - e)]) (by simp [results, Try.results76, go_sem, d0, d1, d2, d3, d4, d5, d6, d7, d8, d9, d10]) rfl (RPost.yes HPC.out HF.out)
end Go.Proofs.Ytedhmoihlfjbdaa
