
/-
  ImprintBack: the walk.
-/
import Derived.Test.YtdhlklfeibgllaaIbAl
import Derived.Test.YtdhlklfeibgllaaRtpField
namespace Go.Proofs.Ytdhlklfeibgllaa
open Go.RowKit Go.Shelf
set_option linter.unusedVariables false
set_option linter.unusedSimpArgs false
def TrueI (w : World) (e : Ending) (w' : World) : Prop := e = .returned (.bool true) ∧ Below w.heap.size w w'
theorem ip_len {l : List Int} (h1 : 12 ≤ l.length) (h2 : l.length ≤ 1500) : ipl (((l.length - 12 : Nat) : Int) / 256) (((l.length - 12 : Nat) : Int) % 256) = l.length - 12 := by
  unfold ipl; omega
theorem ip_back {l m : List Int} (ho : Str.Ok l) (h1 : 12 ≤ l.length) (h2 : l.length ≤ 1500) (hv : l.getD 0 0 / 64 = 2) :
    ipb (l.getD 0 0 % 64) (l.getD 1 0) (l.getD 4 0) (l.getD 5 0) (l.getD 6 0) (l.getD 7 0) (((l.length - 12 : Nat) : Int) / 256) (((l.length - 12 : Nat) : Int) % 256) (l.drop 12 ++ m) (l.length - 12) (Num ((l.drop 2).take 2)) (Num ((l.drop 8).take 4)) = l := by
  match l, h1 with
  | x0 :: x1 :: x2 :: x3 :: x4 :: x5 :: x6 :: x7 :: x8 :: x9 :: x10 :: x11 :: r, _ =>
    have a0 := ho 0; have a1 := ho 1; have a2 := ho 2; have a3 := ho 3; have a8 := ho 8; have a9 := ho 9; have a10 := ho 10; have a11 := ho 11
    simp only [List.getD_cons_zero, List.getD_cons_succ] at *
    unfold ipb
    have hr : ((x0 :: x1 :: x2 :: x3 :: x4 :: x5 :: x6 :: x7 :: x8 :: x9 :: x10 :: x11 :: r).length - 12) = r.length := by simp
    rw [hr]
    simp only [List.drop_succ_cons, List.drop_zero, List.take_succ_cons, List.take_zero, List.take_left]
    simp [Big, Num, List.range_succ]
    omega
theorem pcodeF_v {n : Nat} {l : List Int} (h : pcodeF n l = 0) : l.getD 0 0 / 64 = 2 := by
  unfold pcodeF at h
  split at h
  · cases h
  · unfold pcode at h
    by_cases e : l.getD 0 0 / 64 = 2
    · exact e
    · rw [if_pos e] at h
      split at h <;> cases h
set_option maxHeartbeats 1000000 in
set_option maxRecDepth 100000 in
theorem walk_ImprintBack (a : Option Addr) (n c : Nat) (l : List Int) (b : Option Addr) (m d : Nat) (lm : List Int) (w : World) (ha : BAt w a n l) (hac : n ≤ c) (hb : BAt w b m lm) :
    Calls Try.prog 5 #[.slice a n c, .slice b m d] w (TrueI w) := by
  have HA := Lib.hid ha; have HB := Lib.hid hb
  have hl1 := ha.lim; have hl2 := hb.lim
  have HOF : Hid (∀ W, Below w.heap.size w W → Calls Try.prog 10 #[.slice a n c] W (OfOut (pcodeF n l) l W)) := Lib.hid fun W hW => of_any a n c l W (ha.below hW) hac
  have HSQ : Hid (∀ W, Below w.heap.size w W → Calls Try.prog 24 #[.slice a n c] W (ValB (out_Seq n l) W)) := Lib.hid fun W hW => seq5_any a n c l W (ha.below hW) hac
  have HSS : Hid (∀ W, Below w.heap.size w W → Calls Try.prog 25 #[.slice a n c] W (ValB (out_SSRC n l) W)) := Lib.hid fun W hW => ssrc5_any a n c l W (ha.below hW) hac
  clear ha hb
  go_enter Try.func5, Try.ntmps5
  go_wp2_with fail
  refine (ialive _).mono ?_
  rintro e w1 ⟨rfl, hB1⟩
  have HB1 := Lib.hid hB1; clear hB1
  by_cases h1 : 2000 < n
  · have h1z : (2000 : Int) < (n : Int) := by omega
    go_wp2_with fail
    go_ret
    exact ⟨rfl, HB1.out⟩
  by_cases h2 : 1000 < m
  · have h1z : ¬ (2000 : Int) < (n : Int) := by omega
    have h2z : (1000 : Int) < (m : Int) := by omega
    go_wp2_with fail
    go_ret
    exact ⟨rfl, HB1.out⟩
  have h1z : ¬ (2000 : Int) < (n : Int) := by omega
  have h2z : ¬ (1000 : Int) < (m : Int) := by omega
  go_wp2_with fail
  refine (HOF.out _ HB1.out).mono ?_
  rintro e w2 ⟨h3, h4⟩
  by_cases hf : pcodeF n l = 0
  case neg =>
    obtain ⟨rfl, hB2⟩ := h3 hf
    have hfb : (pcodeF n l != 0) = true := by simpa using hf
    have HB2 := Lib.hid (HB1.out.trans (hB2.mono HB1.out.size))
    clear h3 h4 hB2 HOF HSQ HSS hf
    generalize pcodeF n l = f at *
    go_wp2_with fail
    go_ret
    exact ⟨rfl, HB2.out.alloc HB2.out.size _⟩
  obtain ⟨ax, cx, rfl, hO2, hB2⟩ := h4 hf
  have hl := pcodeF_long hf
  have hln := HA.out.len
  have HPB := Lib.hid (ip_back (m := lm) HA.out.ok (by omega) (by omega) (pcodeF_v hf))
  have HPL := Lib.hid (ip_len (l := l) (by omega) (by omega))
  have HSQ1 : Hid (∀ W, Below w.heap.size w W → Calls Try.prog 24 #[.slice a n c] W (ValB (.tuple #[.int .u16 (Num ((l.drop 2).take 2)), .bool true]) W)) := Lib.hid fun W hW => by
    have := HSQ.out W hW
    unfold out_Seq at this
    rw [if_pos hf] at this
    exact this
  have HSS1 : Hid (∀ W, Below w.heap.size w W → Calls Try.prog 25 #[.slice a n c] W (ValB (.tuple #[.int .u32 (Num ((l.drop 8).take 4)), .bool true]) W)) := Lib.hid fun W hW => by
    have := HSS.out W hW
    unfold out_SSRC at this
    rw [if_pos hf] at this
    exact this
  have bsq := num_lt (HA.out.ok.drop 2) 2 (by rw [List.length_drop]; omega) 65536 (by decide)
  have bss := num_lt (HA.out.ok.drop 8) 4 (by rw [List.length_drop]; omega) 4294967296 (by decide)
  have hbd0 := HA.out.ok 0; have hbd1 := HA.out.ok 1; have hbd4 := HA.out.ok 4; have hbd5 := HA.out.ok 5; have hbd6 := HA.out.ok 6; have hbd7 := HA.out.ok 7
  have HF := Lib.hid hf
  clear h3 h4 HOF HSQ HSS hf
  have HB2 := Lib.hid (HB1.out.trans (hB2.mono HB1.out.size))
  have hO2' : Own w2 w.heap.size ax (l.length - 12) cx (l.drop 12) := hO2.mono HB1.out.size
  have HO2 := Lib.hid hO2'
  clear hO2 hO2' hB2
  unfold ihd
  simp only [ibc, List.getD_cons_zero, List.getD_cons_succ]
  generalize hsq : Num ((l.drop 2).take 2) = sq at *
  generalize hss : Num ((l.drop 8).take 4) = ss at *
  obtain ⟨q0, hq0⟩ : ∃ q, l.getD 0 0 % 64 = q := ⟨_, rfl⟩
  obtain ⟨q1, hq1⟩ : ∃ q, l.getD 1 0 = q := ⟨_, rfl⟩
  obtain ⟨q2, hq2⟩ : ∃ q, l.getD 4 0 = q := ⟨_, rfl⟩
  obtain ⟨q3, hq3⟩ : ∃ q, l.getD 5 0 = q := ⟨_, rfl⟩
  obtain ⟨q4, hq4⟩ : ∃ q, l.getD 6 0 = q := ⟨_, rfl⟩
  obtain ⟨q5, hq5⟩ : ∃ q, l.getD 7 0 = q := ⟨_, rfl⟩
  obtain ⟨q6, hq6⟩ : ∃ q, ((l.length - 12 : Nat) : Int) / 256 = q := ⟨_, rfl⟩
  obtain ⟨q7, hq7⟩ : ∃ q, ((l.length - 12 : Nat) : Int) % 256 = q := ⟨_, rfl⟩
  have b0 : 0 ≤ q0 ∧ q0 < 256 := by omega
  have b6 : 0 ≤ q6 ∧ q6 < 256 := by omega
  have b7 : 0 ≤ q7 ∧ q7 < 256 := by omega
  rw [hq0, hq1, hq2, hq3, hq4, hq5, hq6, hq7] at HPB ⊢
  rw [hq6, hq7] at HPL
  rw [hq1] at hbd1; rw [hq2] at hbd4; rw [hq3] at hbd5; rw [hq4] at hbd6; rw [hq5] at hbd7
  clear hq0 hq1 hq2 hq3 hq4 hq5 hq6 hq7 hsq hss hbd0
  obtain ⟨n12, hn12⟩ : ∃ k, l.length - 12 = k := ⟨_, rfl⟩
  rw [hn12] at HO2 HPB HPL ⊢
  have hn12b : n12 ≤ 1488 ∧ 12 + n12 = n := by omega
  generalize hdb : l.drop 12 = db at *
  clear hn12 hdb
  obtain ⟨P, hP⟩ : ∃ P, w2.heap.size = P := ⟨_, rfl⟩
  obtain ⟨w3, hw3⟩ : ∃ w3, w2.alloc (.cells #[.int .u8 q0, .int .u8 q1, .int .u8 q2, .int .u8 q3, .int .u8 q4, .int .u8 q5, .int .u8 q6, .int .u8 q7, .slice ax n12 cx] 27) = w3 := ⟨_, rfl⟩
  have h23 : Below w2.heap.size w2 w3 := by rw [← hw3]; exact (Below.refl _ w2).alloc (Nat.le_refl _) _
  have HX3 : Hid (w3.heap[P]? = some (.cells #[.int .u8 q0, .int .u8 q1, .int .u8 q2, .int .u8 q3, .int .u8 q4, .int .u8 q5, .int .u8 q6, .int .u8 q7, .slice ax n12 cx] 27 (0, 0))) := Lib.hid (by rw [← hw3, ← hP]; exact lit_new rfl)
  have HB3 := Lib.hid (HB2.out.trans (h23.mono HB2.out.size))
  have HO3 := Lib.hid (HO2.out.below h23)
  have HPP : Hid (∀ x, ax = some x → x.block < P) := Lib.hid fun x hx => by rw [← hP]; exact (HO2.out.blk x hx).2
  have HPW : Hid (w.heap.size ≤ P) := Lib.hid (by rw [← hP]; exact HB2.out.size)
  have HW3 := Lib.hid hw3; have HPE := Lib.hid hP
  clear h23 HB2 HO2 hw3 hP HB1
  go_wp2_with fail
  rw [HPE.out] at *
  rw [HW3.out]
  refine (HSQ1.out _ HB3.out).mono ?_
  rintro e w4 ⟨rfl, hB4⟩
  have HX4 := Lib.hid ((hB4.block _ (Array.getElem?_eq_some_iff.1 HX3.out).1).trans HX3.out)
  have HB4 := Lib.hid (HB3.out.trans (hB4.mono HB3.out.size)); have HO4 := Lib.hid (HO3.out.below hB4)
  clear hB4 HX3 HB3 HO3
  go_wp2_with fail
  refine (HSS1.out _ HB4.out).mono ?_
  rintro e w5 ⟨rfl, hB5⟩
  have HX5 := Lib.hid ((hB5.block _ (Array.getElem?_eq_some_iff.1 HX4.out).1).trans HX4.out)
  have HB5 := Lib.hid (HB4.out.trans (hB5.mono HB4.out.size)); have HO5 := Lib.hid (HO4.out.below hB5)
  clear hB5 HX4 HB4 HO4
  have x0 : w5.cell? ⟨P, 0, none⟩ = some (.int .u8 q0) := by rw [cell_of_row w5 _ 0 _ _ _ (HX5.out)]; rfl
  have x1 : w5.cell? ⟨P, 1, none⟩ = some (.int .u8 q1) := by rw [cell_of_row w5 _ 1 _ _ _ (HX5.out)]; rfl
  have x2 : w5.cell? ⟨P, 2, none⟩ = some (.int .u8 q2) := by rw [cell_of_row w5 _ 2 _ _ _ (HX5.out)]; rfl
  have x3 : w5.cell? ⟨P, 3, none⟩ = some (.int .u8 q3) := by rw [cell_of_row w5 _ 3 _ _ _ (HX5.out)]; rfl
  have x4 : w5.cell? ⟨P, 4, none⟩ = some (.int .u8 q4) := by rw [cell_of_row w5 _ 4 _ _ _ (HX5.out)]; rfl
  have x5 : w5.cell? ⟨P, 5, none⟩ = some (.int .u8 q5) := by rw [cell_of_row w5 _ 5 _ _ _ (HX5.out)]; rfl
  have x6 : w5.cell? ⟨P, 6, none⟩ = some (.int .u8 q6) := by rw [cell_of_row w5 _ 6 _ _ _ (HX5.out)]; rfl
  have x7 : w5.cell? ⟨P, 7, none⟩ = some (.int .u8 q7) := by rw [cell_of_row w5 _ 7 _ _ _ (HX5.out)]; rfl
  have x8 : w5.cell? ⟨P, 8, none⟩ = some (.slice ax n12 cx) := by rw [cell_of_row w5 _ 8 _ _ _ (HX5.out)]; rfl
  have fB : ∀ o, w5.frozen? ⟨P, o, none⟩ = false := fun o => frozen_of_row w5 _ o _ _ HX5.out
  obtain ⟨a6, c6, w6, hrun, hO6, hg6, hloc6⟩ := append_bytes w5 22 w.heap.size ax n12 cx db HO5.out b m d lm (HB.out.below HB5.out) (by omega) HB5.out.size
  have hlt5 := (Array.getElem?_eq_some_iff.1 HX5.out).1
  have hx6 : w6.heap[P]? = some (.cells #[.int .u8 q0, .int .u8 q1, .int .u8 q2, .int .u8 q3, .int .u8 q4, .int .u8 q5, .int .u8 q6, .int .u8 q7, .slice ax n12 cx] 27 (0, 0)) := (hg6.block P hlt5 (fun e => by
    cases ax with
    | none => cases e
    | some y => have := HPP.out y rfl; simp at e; omega)).trans HX5.out
  have hb6' : Below w.heap.size w w6 := HB5.out.grown hg6 HB5.out.size (fun k e => by
    cases ax with
    | none => cases e
    | some y => have := (HO5.out.blk y rfl).1; simp at e; omega)
  have g8 : w6.cell? ⟨P, 8, none⟩ = some (.slice ax n12 cx) := by rw [cell_of_row w6 _ 8 _ _ _ hx6]; rfl
  have gf : w6.frozen? ⟨P, 8, none⟩ = false := frozen_of_row w6 _ 8 _ _ hx6
  obtain ⟨w7, hw7⟩ : ∃ w7, w6.setCell ⟨P, 8, none⟩ (.slice a6 (n12 + m) c6) = w7 := ⟨_, rfl⟩
  have hx7 : w7.heap[P]? = some (.cells #[.int .u8 q0, .int .u8 q1, .int .u8 q2, .int .u8 q3, .int .u8 q4, .int .u8 q5, .int .u8 q6, .int .u8 q7, .slice a6 (n12 + m) c6] 27 (0, 0)) := by rw [← hw7]; exact heap_setCell_same w6 P 8 _ _ _ hx6
  have hg7 : w6.grownBy w7 (some P) := by rw [← hw7]; exact ⟨rfl, rfl, rfl, by simp, fun k _ hk => Below.heap_setCell w6 _ _ k (fun e => hk (by rw [e]))⟩
  have hne6 : ∀ x, a6 = some x → x.block ≠ P := fun x hx => by
    rcases hloc6 x hx with ⟨y, hy, e⟩ | e
    · have := HPP.out y hy; omega
    · omega
  have hO7 : BAt w7 a6 (n12 + m) (db ++ lm) := hO6.bat.same hg7.size (fun x _ hx hlt => hg7.block _ hlt (fun e => hne6 x hx (by injection e)))
  have hb7' : Below w.heap.size w w7 := hb6'.grown hg7 hb6'.size (fun k e => by cases e; exact HPW.out)
  have hpc : ipc q0 q1 q2 q3 q4 q5 q6 q7 (db ++ lm) sq ss = 0 := by
    unfold ipc
    rw [HPL.out, HPB.out, if_neg (by have := hO6.len; omega), hn12b.2, HF.out]; rfl
  have hpo : ipo q0 q1 q2 q3 q4 q5 q6 q7 (db ++ lm) sq ss = l := by unfold ipo; rw [if_pos hpc, HPL.out, HPB.out]
  have hpk := packet_any q0 q1 q2 q3 q4 q5 q6 q7 a6 (n12 + m) c6 (db ++ lm) sq ss w7 hO7 hO6.cap7 (by omega) b0 hbd1 hbd4 hbd5 hbd6 hbd7 b6 b7 bsq bss
  rw [hpc, hpo] at hpk
  have k0 : (w6.setCell ⟨P, 8, none⟩ (.slice a6 (n12 + m) c6)).cell? ⟨P, 0, none⟩ = some (.int .u8 q0) := by rw [hw7, cell_of_row w7 _ 0 _ _ _ hx7]; rfl
  have k1 : (w6.setCell ⟨P, 8, none⟩ (.slice a6 (n12 + m) c6)).cell? ⟨P, 1, none⟩ = some (.int .u8 q1) := by rw [hw7, cell_of_row w7 _ 1 _ _ _ hx7]; rfl
  have k2 : (w6.setCell ⟨P, 8, none⟩ (.slice a6 (n12 + m) c6)).cell? ⟨P, 2, none⟩ = some (.int .u8 q2) := by rw [hw7, cell_of_row w7 _ 2 _ _ _ hx7]; rfl
  have k3 : (w6.setCell ⟨P, 8, none⟩ (.slice a6 (n12 + m) c6)).cell? ⟨P, 3, none⟩ = some (.int .u8 q3) := by rw [hw7, cell_of_row w7 _ 3 _ _ _ hx7]; rfl
  have k4 : (w6.setCell ⟨P, 8, none⟩ (.slice a6 (n12 + m) c6)).cell? ⟨P, 4, none⟩ = some (.int .u8 q4) := by rw [hw7, cell_of_row w7 _ 4 _ _ _ hx7]; rfl
  have k5 : (w6.setCell ⟨P, 8, none⟩ (.slice a6 (n12 + m) c6)).cell? ⟨P, 5, none⟩ = some (.int .u8 q5) := by rw [hw7, cell_of_row w7 _ 5 _ _ _ hx7]; rfl
  have k6 : (w6.setCell ⟨P, 8, none⟩ (.slice a6 (n12 + m) c6)).cell? ⟨P, 6, none⟩ = some (.int .u8 q6) := by rw [hw7, cell_of_row w7 _ 6 _ _ _ hx7]; rfl
  have k7 : (w6.setCell ⟨P, 8, none⟩ (.slice a6 (n12 + m) c6)).cell? ⟨P, 7, none⟩ = some (.int .u8 q7) := by rw [hw7, cell_of_row w7 _ 7 _ _ _ hx7]; rfl
  have k8 : (w6.setCell ⟨P, 8, none⟩ (.slice a6 (n12 + m) c6)).cell? ⟨P, 8, none⟩ = some (.slice a6 (n12 + m) c6) := by rw [hw7, cell_of_row w7 _ 8 _ _ _ hx7]; rfl
  have HPK := Lib.hid hpk; have HRUN := Lib.hid hrun; have HW7 := Lib.hid hw7; have HX7 := Lib.hid hx7; have HB7 := Lib.hid hb7'
  clear hpk hrun hw7 hx7 hg7 hne6 hO7 hb7' hpc hpo hO6 hg6 hloc6 hx6 hb6' HX5 HO5
  go_wp2_with (at_builtin; refine Lib.wpList_append_run _ rfl (.tmp 45) (.tmp 46) 22 22 rfl (.slice ax n12 cx) (.slice b m d) (by rfl) (by rfl) _ _ HRUN.out ?_)
  rw [HW7.out]
  refine (HPK.out).mono ?_
  rintro e w8 ⟨a8, n8, c8, rfl, hO8, hB8⟩
  have HB8 := Lib.hid (HB7.out.trans (hB8.mono HB7.out.size))
  have HO8 := Lib.hid hO8
  clear hB8 hO8
  go_wp2_with fail
  refine (same_any a8 a n8 n c8 c l l w8 HO8.out.bat (HA.out.below HB8.out)).mono ?_
  rintro e w9 ⟨rfl, kd, rfl⟩
  rw [decide_eq_true (rfl : l = l)]
  have HB9 := Lib.hid (HB8.out.trans ((below_drewN w8 _ kd).mono HB8.out.size))
  go_wp2_with fail
  go_ret
  exact ⟨rfl, HB9.out⟩
end Go.Proofs.Ytdhlklfeibgllaa
