
/-
  rtp.Seq, SSRC, PT, IsRTCP.
-/
import Derived.Test.YtppgjodehphaeaaRtpClone
namespace Go.Proofs.Ytppgjodehphaeaa
open Go.RowKit Go.Shelf
set_option linter.unusedVariables false
theorem pick_Seq (p : Pk) (s : Pl) (w : World) : Calls Try.prog 44 #[.agg (pkc p s)] w (ValB (.int .u16 p.seq) w) := by
  obtain ⟨m, pt, sq, ts, ss, cs, h, pr, ex, py, pd⟩ := p
  obtain ⟨ac, nc, cc, ae, ne, ce, ap, np, cp, ad, nd, cd⟩ := s
  simp only [pkc] at *
  go_enter Try.func44, Try.ntmps44
  go_wp2
  go_ret
  exact ⟨rfl, (Below.refl _ w).alloc (Nat.le_refl _) _⟩
def out_Seq (n : Nat) (l : List Int) : Value := if pcodeF n l = 0 then .tuple #[.int .u16 (ppk l).seq, .bool true] else .tuple #[.int .u16 0, .bool false]
theorem ent_Seq (args : Array Value) (w : World) : (callFunc 44 args).run Try.prog w = .ok (.enter 44 args) w := by
  first | kernel_rfl | simp [go_sem]
set_option maxHeartbeats 2000000 in
set_option maxRecDepth 100000 in
theorem field_Seq (a : Option Addr) (n c : Nat) (l : List Int) (w : World) (hb : BAt w a n l) (hc : n ≤ c) :
    Calls Try.prog 43 #[.slice a n c, .func (.func 44) #[] #[]] w (ValB (out_Seq n l) w) := by
  have HP := Lib.hid (parse5_any a n c l w hb hc)
  have hent := ent_Seq
  clear hb
  unfold out_Seq
  generalize pcodeF n l = f at HP ⊢
  generalize ppk l = p at HP ⊢
  by_cases hf : f = 0
  · rw [if_pos hf]
    go_enter Try.func43, Try.ntmps43
    go_wp2_with fail
    refine (HP.out).mono ?_
    intro e w1 hP
    obtain ⟨s, rfl, hpk, hB⟩ := hP.2 hf
    have HPC := Lib.hid (fun W => pick_Seq p s W)
    have HB := Lib.hid hB
    obtain ⟨m, pt, sq, ts, ss, cs, h, pr, ex, py, pd⟩ := p
    obtain ⟨ac, nc, cc, ae, ne, ce, ap, np, cp, ad, nd, cd⟩ := s
    simp only [pkc] at *
    clear hP hpk hB HP hf
    go_wp2_with fail
    refine (HPC.out _).mono ?_
    rintro e w2 ⟨rfl, hB2⟩
    have HB2 := Lib.hid hB2; clear hB2
    go_wp2
    go_ret2
    exact ⟨rfl, (HB.out.alloc HB.out.size _).trans (HB2.out.mono (by have := HB.out.size; simp; omega))⟩
  · rw [if_neg hf]
    have hf0 : (f != 0) = true := by simpa using hf
    go_enter Try.func43, Try.ntmps43
    go_wp2_with fail
    refine (HP.out).mono ?_
    intro e w1 hP
    obtain ⟨rfl, hB⟩ := hP.1 hf
    have HB := Lib.hid hB
    clear hP hB HP hf
    go_wp2
    go_ret2
    exact ⟨rfl, HB.out.alloc HB.out.size _⟩
theorem seq5_any (a : Option Addr) (n c : Nat) (l : List Int) (w : World) (hb : BAt w a n l) (hc : n ≤ c) :
    Calls Try.prog 25 #[.slice a n c] w (ValB (out_Seq n l) w) := by
  have HP := Lib.hid (field_Seq a n c l w hb hc)
  clear hb
  unfold out_Seq at HP ⊢
  by_cases hf : pcodeF n l = 0
  all_goals
    first | rw [if_pos hf] at HP ⊢ | rw [if_neg hf] at HP ⊢
    clear hf
    go_enter Try.func25, Try.ntmps25
    go_wp2_with fail
    refine (HP.out).mono ?_
    rintro e w1 ⟨rfl, hB⟩
    have HB := Lib.hid hB; clear hB HP
    go_wp2
    go_ret2
    exact ⟨rfl, HB.out⟩
theorem pick_SSRC (p : Pk) (s : Pl) (w : World) : Calls Try.prog 46 #[.agg (pkc p s)] w (ValB (.int .u32 p.ssrc) w) := by
  obtain ⟨m, pt, sq, ts, ss, cs, h, pr, ex, py, pd⟩ := p
  obtain ⟨ac, nc, cc, ae, ne, ce, ap, np, cp, ad, nd, cd⟩ := s
  simp only [pkc] at *
  go_enter Try.func46, Try.ntmps46
  go_wp2
  go_ret
  exact ⟨rfl, (Below.refl _ w).alloc (Nat.le_refl _) _⟩
def out_SSRC (n : Nat) (l : List Int) : Value := if pcodeF n l = 0 then .tuple #[.int .u32 (ppk l).ssrc, .bool true] else .tuple #[.int .u32 0, .bool false]
theorem ent_SSRC (args : Array Value) (w : World) : (callFunc 46 args).run Try.prog w = .ok (.enter 46 args) w := by
  first | kernel_rfl | simp [go_sem]
set_option maxHeartbeats 2000000 in
set_option maxRecDepth 100000 in
theorem field_SSRC (a : Option Addr) (n c : Nat) (l : List Int) (w : World) (hb : BAt w a n l) (hc : n ≤ c) :
    Calls Try.prog 45 #[.slice a n c, .func (.func 46) #[] #[]] w (ValB (out_SSRC n l) w) := by
  have HP := Lib.hid (parse5_any a n c l w hb hc)
  have hent := ent_SSRC
  clear hb
  unfold out_SSRC
  generalize pcodeF n l = f at HP ⊢
  generalize ppk l = p at HP ⊢
  by_cases hf : f = 0
  · rw [if_pos hf]
    go_enter Try.func45, Try.ntmps45
    go_wp2_with fail
    refine (HP.out).mono ?_
    intro e w1 hP
    obtain ⟨s, rfl, hpk, hB⟩ := hP.2 hf
    have HPC := Lib.hid (fun W => pick_SSRC p s W)
    have HB := Lib.hid hB
    obtain ⟨m, pt, sq, ts, ss, cs, h, pr, ex, py, pd⟩ := p
    obtain ⟨ac, nc, cc, ae, ne, ce, ap, np, cp, ad, nd, cd⟩ := s
    simp only [pkc] at *
    clear hP hpk hB HP hf
    go_wp2_with fail
    refine (HPC.out _).mono ?_
    rintro e w2 ⟨rfl, hB2⟩
    have HB2 := Lib.hid hB2; clear hB2
    go_wp2
    go_ret2
    exact ⟨rfl, (HB.out.alloc HB.out.size _).trans (HB2.out.mono (by have := HB.out.size; simp; omega))⟩
  · rw [if_neg hf]
    have hf0 : (f != 0) = true := by simpa using hf
    go_enter Try.func45, Try.ntmps45
    go_wp2_with fail
    refine (HP.out).mono ?_
    intro e w1 hP
    obtain ⟨rfl, hB⟩ := hP.1 hf
    have HB := Lib.hid hB
    clear hP hB HP hf
    go_wp2
    go_ret2
    exact ⟨rfl, HB.out.alloc HB.out.size _⟩
theorem ssrc5_any (a : Option Addr) (n c : Nat) (l : List Int) (w : World) (hb : BAt w a n l) (hc : n ≤ c) :
    Calls Try.prog 26 #[.slice a n c] w (ValB (out_SSRC n l) w) := by
  have HP := Lib.hid (field_SSRC a n c l w hb hc)
  clear hb
  unfold out_SSRC at HP ⊢
  by_cases hf : pcodeF n l = 0
  all_goals
    first | rw [if_pos hf] at HP ⊢ | rw [if_neg hf] at HP ⊢
    clear hf
    go_enter Try.func26, Try.ntmps26
    go_wp2_with fail
    refine (HP.out).mono ?_
    rintro e w1 ⟨rfl, hB⟩
    have HB := Lib.hid hB; clear hB HP
    go_wp2
    go_ret2
    exact ⟨rfl, HB.out⟩
def out_PT (n : Nat) (l : List Int) : Value := if pcodeF n l = 0 then .tuple #[.int .i64 (ppk l).pt, .bool true] else .tuple #[.int .i64 0, .bool false]
end Go.Proofs.Ytppgjodehphaeaa
