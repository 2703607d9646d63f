
/-
  rtp.Seq, SSRC, PT, IsRTCP.
-/
import Derived.Test.YtkoldfoliigifaaRtpClone
namespace Go.Proofs.Ytkoldfoliigifaa
open Go.RowKit Go.Shelf
set_option linter.unusedVariables false
theorem pick_Seq (p : Pk) (s : Pl) (w : World) : Calls Try.prog 30 #[.agg (pkc p s)] w (ValB (.int .u16 p.seq) w) := by
  obtain ⟨m, pt, sq, ts, ss, cs, h, pr, ex, py, pd⟩ := p
  obtain ⟨ac, nc, cc, ae, ne, ce, ap, np, cp, ad, nd, cd⟩ := s
  simp only [pkc] at *
  go_enter Try.func30, Try.ntmps30
  go_wp2
  go_ret
  exact ⟨rfl, (Below.refl _ w).alloc (Nat.le_refl _) _⟩
def out_Seq (n : Nat) (l : List Int) : Value := if pcodeF n l = 0 then .tuple #[.int .u16 (ppk l).seq, .bool true] else .tuple #[.int .u16 0, .bool false]
theorem ent_Seq (args : Array Value) (w : World) : (callFunc 30 args).run Try.prog w = .ok (.enter 30 args) w := by
  first | kernel_rfl | simp [go_sem]
set_option maxHeartbeats 2000000 in
set_option maxRecDepth 100000 in
theorem field_Seq (a : Option Addr) (n c : Nat) (l : List Int) (w : World) (hb : BAt w a n l) (hc : n ≤ c) :
    Calls Try.prog 29 #[.slice a n c, .func (.func 30) #[] #[]] w (ValB (out_Seq n l) w) := by
  have HP := Lib.hid (parse5_any a n c l w hb hc)
  have hent := ent_Seq
  clear hb
  unfold out_Seq
  generalize pcodeF n l = f at HP ⊢
  generalize ppk l = p at HP ⊢
  by_cases hf : f = 0
  · rw [if_pos hf]
    go_enter Try.func29, Try.ntmps29
    go_wp2_with fail
    refine (HP.out).mono ?_
    intro e w1 hP
    obtain ⟨s, rfl, hpk, hB⟩ := hP.2 hf
    have HPC := Lib.hid (fun W => pick_Seq p s W)
    have HB := Lib.hid hB
    obtain ⟨m, pt, sq, ts, ss, cs, h, pr, ex, py, pd⟩ := p
    obtain ⟨ac, nc, cc, ae, ne, ce, ap, np, cp, ad, nd, cd⟩ := s
    simp only [pkc] at *
    clear hP hpk hB HP hf
    go_wp2_with fail
    refine (HPC.out _).mono ?_
    rintro e w2 ⟨rfl, hB2⟩
    have HB2 := Lib.hid hB2; clear hB2
    go_wp2
    go_ret2
    exact ⟨rfl, (HB.out.alloc HB.out.size _).trans (HB2.out.mono (by have := HB.out.size; simp; omega))⟩
  · rw [if_neg hf]
    have hf0 : (f != 0) = true := by simpa using hf
    go_enter Try.func29, Try.ntmps29
    go_wp2_with fail
    refine (HP.out).mono ?_
    intro e w1 hP
    obtain ⟨rfl, hB⟩ := hP.1 hf
    have HB := Lib.hid hB
    clear hP hB HP hf
    go_wp2
    go_ret2
    exact ⟨rfl, HB.out.alloc HB.out.size _⟩
theorem seq5_any (a : Option Addr) (n c : Nat) (l : List Int) (w : World) (hb : BAt w a n l) (hc : n ≤ c) :
    Calls Try.prog 15 #[.slice a n c] w (ValB (out_Seq n l) w) := by
  have HP := Lib.hid (field_Seq a n c l w hb hc)
  clear hb
  unfold out_Seq at HP ⊢
  by_cases hf : pcodeF n l = 0
  all_goals
    first | rw [if_pos hf] at HP ⊢ | rw [if_neg hf] at HP ⊢
    clear hf
    go_enter Try.func15, Try.ntmps15
    go_wp2_with fail
    refine (HP.out).mono ?_
    rintro e w1 ⟨rfl, hB⟩
    have HB := Lib.hid hB; clear hB HP
    go_wp2
    go_ret2
    exact ⟨rfl, HB.out⟩
theorem pick_SSRC (p : Pk) (s : Pl) (w : World) : Calls Try.prog 32 #[.agg (pkc p s)] w (ValB (.int .u32 p.ssrc) w) := by
  obtain ⟨m, pt, sq, ts, ss, cs, h, pr, ex, py, pd⟩ := p
  obtain ⟨ac, nc, cc, ae, ne, ce, ap, np, cp, ad, nd, cd⟩ := s
  simp only [pkc] at *
  go_enter Try.func32, Try.ntmps32
  go_wp2
  go_ret
  exact ⟨rfl, (Below.refl _ w).alloc (Nat.le_refl _) _⟩
def out_SSRC (n : Nat) (l : List Int) : Value := if pcodeF n l = 0 then .tuple #[.int .u32 (ppk l).ssrc, .bool true] else .tuple #[.int .u32 0, .bool false]
theorem ent_SSRC (args : Array Value) (w : World) : (callFunc 32 args).run Try.prog w = .ok (.enter 32 args) w := by
  first | kernel_rfl | simp [go_sem]
set_option maxHeartbeats 2000000 in
set_option maxRecDepth 100000 in
theorem field_SSRC (a : Option Addr) (n c : Nat) (l : List Int) (w : World) (hb : BAt w a n l) (hc : n ≤ c) :
    Calls Try.prog 31 #[.slice a n c, .func (.func 32) #[] #[]] w (ValB (out_SSRC n l) w) := by
  have HP := Lib.hid (parse5_any a n c l w hb hc)
  have hent := ent_SSRC
  clear hb
  unfold out_SSRC
  generalize pcodeF n l = f at HP ⊢
  generalize ppk l = p at HP ⊢
  by_cases hf : f = 0
  · rw [if_pos hf]
    go_enter Try.func31, Try.ntmps31
    go_wp2_with fail
    refine (HP.out).mono ?_
    intro e w1 hP
    obtain ⟨s, rfl, hpk, hB⟩ := hP.2 hf
    have HPC := Lib.hid (fun W => pick_SSRC p s W)
    have HB := Lib.hid hB
    obtain ⟨m, pt, sq, ts, ss, cs, h, pr, ex, py, pd⟩ := p
    obtain ⟨ac, nc, cc, ae, ne, ce, ap, np, cp, ad, nd, cd⟩ := s
    simp only [pkc] at *
    clear hP hpk hB HP hf
    go_wp2_with fail
    refine (HPC.out _).mono ?_
    rintro e w2 ⟨rfl, hB2⟩
    have HB2 := Lib.hid hB2; clear hB2
    go_wp2
    go_ret2
    exact ⟨rfl, (HB.out.alloc HB.out.size _).trans (HB2.out.mono (by have := HB.out.size; simp; omega))⟩
  · rw [if_neg hf]
    have hf0 : (f != 0) = true := by simpa using hf
    go_enter Try.func31, Try.ntmps31
    go_wp2_with fail
    refine (HP.out).mono ?_
    intro e w1 hP
    obtain ⟨rfl, hB⟩ := hP.1 hf
    have HB := Lib.hid hB
    clear hP hB HP hf
    go_wp2
    go_ret2
    exact ⟨rfl, HB.out.alloc HB.out.size _⟩
theorem ssrc5_any (a : Option Addr) (n c : Nat) (l : List Int) (w : World) (hb : BAt w a n l) (hc : n ≤ c) :
    Calls Try.prog 16 #[.slice a n c] w (ValB (out_SSRC n l) w) := by
  have HP := Lib.hid (field_SSRC a n c l w hb hc)
  clear hb
  unfold out_SSRC at HP ⊢
  by_cases hf : pcodeF n l = 0
  all_goals
    first | rw [if_pos hf] at HP ⊢ | rw [if_neg hf] at HP ⊢
    clear hf
    go_enter Try.func16, Try.ntmps16
    go_wp2_with fail
    refine (HP.out).mono ?_
    rintro e w1 ⟨rfl, hB⟩
    have HB := Lib.hid hB; clear hB HP
    go_wp2
    go_ret2
    exact ⟨rfl, HB.out⟩
theorem pick_PT (p : Pk) (s : Pl) (w : World) : Calls Try.prog 34 #[.agg (pkc p s)] w (ValB (.int .i64 p.pt) w) := by
  obtain ⟨m, pt, sq, ts, ss, cs, h, pr, ex, py, pd⟩ := p
  obtain ⟨ac, nc, cc, ae, ne, ce, ap, np, cp, ad, nd, cd⟩ := s
  simp only [pkc] at *
  go_enter Try.func34, Try.ntmps34
  go_wp2
  go_ret
  exact ⟨rfl, (Below.refl _ w).alloc (Nat.le_refl _) _⟩
def out_PT (n : Nat) (l : List Int) : Value := if pcodeF n l = 0 then .tuple #[.int .i64 (ppk l).pt, .bool true] else .tuple #[.int .i64 0, .bool false]
theorem ent_PT (args : Array Value) (w : World) : (callFunc 34 args).run Try.prog w = .ok (.enter 34 args) w := by
  first | kernel_rfl | simp [go_sem]
set_option maxHeartbeats 2000000 in
set_option maxRecDepth 100000 in
theorem field_PT (a : Option Addr) (n c : Nat) (l : List Int) (w : World) (hb : BAt w a n l) (hc : n ≤ c) :
    Calls Try.prog 33 #[.slice a n c, .func (.func 34) #[] #[]] w (ValB (out_PT n l) w) := by
  have HP := Lib.hid (parse5_any a n c l w hb hc)
  have hent := ent_PT
  clear hb
  unfold out_PT
  generalize pcodeF n l = f at HP ⊢
  generalize ppk l = p at HP ⊢
  by_cases hf : f = 0
  · rw [if_pos hf]
    go_enter Try.func33, Try.ntmps33
    go_wp2_with fail
    refine (HP.out).mono ?_
    intro e w1 hP
    obtain ⟨s, rfl, hpk, hB⟩ := hP.2 hf
    have HPC := Lib.hid (fun W => pick_PT p s W)
    have HB := Lib.hid hB
    obtain ⟨m, pt, sq, ts, ss, cs, h, pr, ex, py, pd⟩ := p
    obtain ⟨ac, nc, cc, ae, ne, ce, ap, np, cp, ad, nd, cd⟩ := s
    simp only [pkc] at *
    clear hP hpk hB HP hf
    go_wp2_with fail
    refine (HPC.out _).mono ?_
    rintro e w2 ⟨rfl, hB2⟩
    have HB2 := Lib.hid hB2; clear hB2
    go_wp2
    go_ret2
    exact ⟨rfl, (HB.out.alloc HB.out.size _).trans (HB2.out.mono (by have := HB.out.size; simp; omega))⟩
  · rw [if_neg hf]
    have hf0 : (f != 0) = true := by simpa using hf
    go_enter Try.func33, Try.ntmps33
    go_wp2_with fail
    refine (HP.out).mono ?_
    intro e w1 hP
    obtain ⟨rfl, hB⟩ := hP.1 hf
    have HB := Lib.hid hB
    clear hP hB HP hf
    go_wp2
    go_ret2
    exact ⟨rfl, HB.out.alloc HB.out.size _⟩
theorem pt5_any (a : Option Addr) (n c : Nat) (l : List Int) (w : World) (hb : BAt w a n l) (hc : n ≤ c) :
    Calls Try.prog 17 #[.slice a n c] w (ValB (out_PT n l) w) := by
  have HP := Lib.hid (field_PT a n c l w hb hc)
  clear hb
  unfold out_PT at HP ⊢
  by_cases hf : pcodeF n l = 0
  all_goals
    first | rw [if_pos hf] at HP ⊢ | rw [if_neg hf] at HP ⊢
    clear hf
    go_enter Try.func17, Try.ntmps17
    go_wp2_with fail
    refine (HP.out).mono ?_
    rintro e w1 ⟨rfl, hB⟩
    have HB := Lib.hid hB; clear hB HP
    go_wp2
    go_ret2
    exact ⟨rfl, HB.out⟩
end Go.Proofs.Ytkoldfoliigifaa
