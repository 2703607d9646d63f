
/-
  report.Stats: Note behind the first packet.
-/
import Derived.Test.YtpannhbmelcpfabRep2
import Derived.Deep.RegionLaw
import Derived.StillTailTactics
namespace Go.Proofs.Ytpannhbmelcpfab
open Go.RowKit
set_option linter.unusedVariables false
set_option maxRecDepth 100000 in
set_option maxHeartbeats 400000 in
theorem note_in (b : Nat) (h f r s t n e c q ts now : Int) (w : World) (H : Sta b h f r s t n e c w) (hh : WdOk h) (hn : 0 ≤ q) (hn' : q < 65536) (hr : 0 < r) (hr' : r ≤ 1099511627776) (hs : 0 ≤ s) (hs' : s ≤ 1125899906842624) (hn0 : 0 ≤ n) (hn1 : n ≤ 1099511627776) (hw0 : 0 ≤ now) (hw1 : now ≤ 1099511627776) :
    Calls Try.prog 24 #[.pointer (some ⟨b, 0, none⟩), .int .u16 q, .int .u32 ts, .int .i64 now] w (NPost b (Ser.high h q) f (r + 1) (Rep.next s (now - n - Ser.ahead32 ts t)) ts now e c (.tuple #[]) w) := by
  have HO : Hid (∀ W, Sta b h f r s t n e c W → Calls Try.prog 56 #[.pointer (some ⟨b, 0, none⟩), .int .u16 q] W (NPost b (Ser.high h q) f r s t n e c (.int .i64 (Ser.extend h q)) W)) := Lib.hid fun W hW => sof_any b h f r s t n e c q W hW hh hn hn'
  generalize Ser.high h q = h' at *
  generalize Ser.extend h q = v at *
  have hA : Hid (∀ W, Calls Try.prog 58 #[.int .u32 ts, .int .u32 t] W fun e w' => e = .returned (.int .i64 (Ser.ahead32 ts t)) ∧ W = w') := Lib.hid fun W => ahead32_any ts t W
  obtain ⟨a1, a2⟩ := Ser.ahead32_bd ts t
  generalize Ser.ahead32 ts t = A at *
  obtain ⟨F, hF⟩ : ∃ F : Int, F = Rep.next s (now - n - A) := ⟨_, rfl⟩
  obtain ⟨D, hD⟩ : ∃ D : Int, D = now - n := ⟨_, rfl⟩
  obtain ⟨E, hE⟩ : ∃ E : Int, E = D - A := ⟨_, rfl⟩
  have hN : Hid (∀ W, Calls Try.prog 57 #[.int .i64 s, .int .i64 E] W fun e w' => e = .returned (.int .i64 F) ∧ W = w') := Lib.hid fun W => by
    rw [hF, hE, hD]
    exact next_any s (now - n - A) W hs hs' (by omega) (by omega)
  have i1 : IntKind.i64.wrap (now - n) = D := by rw [hD]; exact i64w_in _ (by omega) (by omega)
  have i2 : IntKind.i64.wrap (D - A) = E := by rw [hE]; exact i64w_in _ (by omega) (by omega)
  have i3 : IntKind.i64.wrap (r + 1) = r + 1 := i64w_in _ (by omega) (by omega)
  rw [← hF]
  clear hF hD hE
  have hr0 : (r == 0) = false := by simp; omega
  go_enter Try.func24, Try.ntmps24
  go_wp2_with fail
  refine (HO.out _ H).mono ?_
  rintro x w1 ⟨rfl, H1, g1⟩
  have c2 := H1.c2
  have f2 := H1.fro 2; have f4 := H1.fro 4; have f5 := H1.fro 5; have f3 := H1.fro 3
  have c3 := H1.c3; have c4 := H1.c4; have c5 := H1.c5
  have HH1 := Lib.hid H1; have HG1 := Lib.hid g1; clear H1 g1 H HO
  go_wp2_with fail
  refine wp_region_still_tail 21 (by kernel_rfl) (by kernel_rfl) ?_
  simp only [List.take_succ_cons, List.take_zero, List.drop_succ_cons, List.drop_zero]
  repeat still_step
  still_call ((hA.out _).mono fun _ _ ⟨a, b⟩ => ⟨a, b.symm⟩)
  repeat still_step
  still_call ((hN.out _).mono fun _ _ ⟨a, b⟩ => ⟨a, b.symm⟩)
  repeat still_step
  refine wpStill_nil ?_
  change wpList _ _ _ _ _ w1.drew
  have f2' : w1.drew.frozen? ⟨b, 2, none⟩ = false := f2
  have f3' : w1.drew.frozen? ⟨b, 3, none⟩ = false := f3
  have f4' : w1.drew.frozen? ⟨b, 4, none⟩ = false := f4
  have f5' : w1.drew.frozen? ⟨b, 5, none⟩ = false := f5
  have c2' : w1.drew.cell? ⟨b, 2, none⟩ = some (.int .i64 r) := c2
  have c3' : w1.drew.cell? ⟨b, 3, none⟩ = some (.int .i64 s) := c3
  have c4' : w1.drew.cell? ⟨b, 4, none⟩ = some (.int .u32 t) := c4
  have c5' : w1.drew.cell? ⟨b, 5, none⟩ = some (.int .i64 n) := c5
  go_wp2
  (try simp only [Exit.inBlock, Exit.then])
  refine bodyPost_ret (results_none rfl _ _ _) rfl ?_
  refine ⟨rfl, ((((HH1.out.s3 _).s2 _).s4 _).s5 _), ?_⟩
  exact gb_trans (gb_trans (gb_trans (gb_trans (gb_trans HG1.out (grownBy_setOwn _ _ _ _)) (grownBy_setOwn _ _ _ _)) (grownBy_setOwn _ _ _ _)) (grownBy_setOwn _ _ _ _)) (grownBy_drewN _ 1 _)
set_option maxRecDepth 100000 in
set_option maxHeartbeats 400000 in
theorem note_lo (b : Nat) (h f r s t n e c q ts now : Int) (w : World) (H : Sta b h f r s t n e c w) (hh : WdOk h) (hn : 0 ≤ q) (hn' : q < 65536) (hr : 0 < r) (hr' : r ≤ 1099511627776) (hs : 0 ≤ s) (hs' : s ≤ 1125899906842624) (hn0 : 0 ≤ n) (hn1 : n ≤ 1099511627776) (hw0 : now < 0) :
    Calls Try.prog 24 #[.pointer (some ⟨b, 0, none⟩), .int .u16 q, .int .u32 ts, .int .i64 now] w (NPost b (Ser.high h q) f (r + 1) (Rep.next s ((0 : Int) - n - Ser.ahead32 ts t)) ts (0 : Int) e c (.tuple #[]) w) := by
  have HO : Hid (∀ W, Sta b h f r s t n e c W → Calls Try.prog 56 #[.pointer (some ⟨b, 0, none⟩), .int .u16 q] W (NPost b (Ser.high h q) f r s t n e c (.int .i64 (Ser.extend h q)) W)) := Lib.hid fun W hW => sof_any b h f r s t n e c q W hW hh hn hn'
  generalize Ser.high h q = h' at *
  generalize Ser.extend h q = v at *
  have hA : Hid (∀ W, Calls Try.prog 58 #[.int .u32 ts, .int .u32 t] W fun e w' => e = .returned (.int .i64 (Ser.ahead32 ts t)) ∧ W = w') := Lib.hid fun W => ahead32_any ts t W
  obtain ⟨a1, a2⟩ := Ser.ahead32_bd ts t
  generalize Ser.ahead32 ts t = A at *
  obtain ⟨F, hF⟩ : ∃ F : Int, F = Rep.next s ((0 : Int) - n - A) := ⟨_, rfl⟩
  obtain ⟨D, hD⟩ : ∃ D : Int, D = (0 : Int) - n := ⟨_, rfl⟩
  obtain ⟨E, hE⟩ : ∃ E : Int, E = D - A := ⟨_, rfl⟩
  have hN : Hid (∀ W, Calls Try.prog 57 #[.int .i64 s, .int .i64 E] W fun e w' => e = .returned (.int .i64 F) ∧ W = w') := Lib.hid fun W => by
    rw [hF, hE, hD]
    exact next_any s ((0 : Int) - n - A) W hs hs' (by omega) (by omega)
  have i1 : IntKind.i64.wrap (-n) = D := by rw [hD, Int.zero_sub]; exact i64w_in _ (by omega) (by omega)
  have i2 : IntKind.i64.wrap (D - A) = E := by rw [hE]; exact i64w_in _ (by omega) (by omega)
  have i3 : IntKind.i64.wrap (r + 1) = r + 1 := i64w_in _ (by omega) (by omega)
  rw [← hF]
  clear hF hD hE
  have hr0 : (r == 0) = false := by simp; omega
  go_enter Try.func24, Try.ntmps24
  go_wp2_with fail
  refine (HO.out _ H).mono ?_
  rintro x w1 ⟨rfl, H1, g1⟩
  have c2 := H1.c2
  have f2 := H1.fro 2; have f4 := H1.fro 4; have f5 := H1.fro 5; have f3 := H1.fro 3
  have c3 := H1.c3; have c4 := H1.c4; have c5 := H1.c5
  have HH1 := Lib.hid H1; have HG1 := Lib.hid g1; clear H1 g1 H HO
  go_wp2_with fail
  refine wp_region_still_tail 21 (by kernel_rfl) (by kernel_rfl) ?_
  simp only [List.take_succ_cons, List.take_zero, List.drop_succ_cons, List.drop_zero]
  repeat still_step
  still_call ((hA.out _).mono fun _ _ ⟨a, b⟩ => ⟨a, b.symm⟩)
  repeat still_step
  still_call ((hN.out _).mono fun _ _ ⟨a, b⟩ => ⟨a, b.symm⟩)
  repeat still_step
  refine wpStill_nil ?_
  change wpList _ _ _ _ _ w1.drew
  have f2' : w1.drew.frozen? ⟨b, 2, none⟩ = false := f2
  have f3' : w1.drew.frozen? ⟨b, 3, none⟩ = false := f3
  have f4' : w1.drew.frozen? ⟨b, 4, none⟩ = false := f4
  have f5' : w1.drew.frozen? ⟨b, 5, none⟩ = false := f5
  have c2' : w1.drew.cell? ⟨b, 2, none⟩ = some (.int .i64 r) := c2
  have c3' : w1.drew.cell? ⟨b, 3, none⟩ = some (.int .i64 s) := c3
  have c4' : w1.drew.cell? ⟨b, 4, none⟩ = some (.int .u32 t) := c4
  have c5' : w1.drew.cell? ⟨b, 5, none⟩ = some (.int .i64 n) := c5
  go_wp2
  (try simp only [Exit.inBlock, Exit.then])
  refine bodyPost_ret (results_none rfl _ _ _) rfl ?_
  refine ⟨rfl, ((((HH1.out.s3 _).s2 _).s4 _).s5 _), ?_⟩
  exact gb_trans (gb_trans (gb_trans (gb_trans (gb_trans HG1.out (grownBy_setOwn _ _ _ _)) (grownBy_setOwn _ _ _ _)) (grownBy_setOwn _ _ _ _)) (grownBy_setOwn _ _ _ _)) (grownBy_drewN _ 1 _)
set_option maxRecDepth 100000 in
set_option maxHeartbeats 400000 in
theorem note_hi (b : Nat) (h f r s t n e c q ts now : Int) (w : World) (H : Sta b h f r s t n e c w) (hh : WdOk h) (hn : 0 ≤ q) (hn' : q < 65536) (hr : 0 < r) (hr' : r ≤ 1099511627776) (hs : 0 ≤ s) (hs' : s ≤ 1125899906842624) (hn0 : 0 ≤ n) (hn1 : n ≤ 1099511627776) (hw1 : 1099511627776 < now) :
    Calls Try.prog 24 #[.pointer (some ⟨b, 0, none⟩), .int .u16 q, .int .u32 ts, .int .i64 now] w (NPost b (Ser.high h q) f (r + 1) (Rep.next s ((1099511627776 : Int) - n - Ser.ahead32 ts t)) ts (1099511627776 : Int) e c (.tuple #[]) w) := by
  have HO : Hid (∀ W, Sta b h f r s t n e c W → Calls Try.prog 56 #[.pointer (some ⟨b, 0, none⟩), .int .u16 q] W (NPost b (Ser.high h q) f r s t n e c (.int .i64 (Ser.extend h q)) W)) := Lib.hid fun W hW => sof_any b h f r s t n e c q W hW hh hn hn'
  generalize Ser.high h q = h' at *
  generalize Ser.extend h q = v at *
  have hA : Hid (∀ W, Calls Try.prog 58 #[.int .u32 ts, .int .u32 t] W fun e w' => e = .returned (.int .i64 (Ser.ahead32 ts t)) ∧ W = w') := Lib.hid fun W => ahead32_any ts t W
  obtain ⟨a1, a2⟩ := Ser.ahead32_bd ts t
  generalize Ser.ahead32 ts t = A at *
  obtain ⟨F, hF⟩ : ∃ F : Int, F = Rep.next s ((1099511627776 : Int) - n - A) := ⟨_, rfl⟩
  obtain ⟨D, hD⟩ : ∃ D : Int, D = (1099511627776 : Int) - n := ⟨_, rfl⟩
  obtain ⟨E, hE⟩ : ∃ E : Int, E = D - A := ⟨_, rfl⟩
  have hN : Hid (∀ W, Calls Try.prog 57 #[.int .i64 s, .int .i64 E] W fun e w' => e = .returned (.int .i64 F) ∧ W = w') := Lib.hid fun W => by
    rw [hF, hE, hD]
    exact next_any s ((1099511627776 : Int) - n - A) W hs hs' (by omega) (by omega)
  have i1 : IntKind.i64.wrap ((1099511627776 : Int) - n) = D := by rw [hD]; exact i64w_in _ (by omega) (by omega)
  have i2 : IntKind.i64.wrap (D - A) = E := by rw [hE]; exact i64w_in _ (by omega) (by omega)
  have i3 : IntKind.i64.wrap (r + 1) = r + 1 := i64w_in _ (by omega) (by omega)
  rw [← hF]
  clear hF hD hE
  have hr0 : (r == 0) = false := by simp; omega
  go_enter Try.func24, Try.ntmps24
  go_wp2_with fail
  refine (HO.out _ H).mono ?_
  rintro x w1 ⟨rfl, H1, g1⟩
  have c2 := H1.c2
  have f2 := H1.fro 2; have f4 := H1.fro 4; have f5 := H1.fro 5; have f3 := H1.fro 3
  have c3 := H1.c3; have c4 := H1.c4; have c5 := H1.c5
  have HH1 := Lib.hid H1; have HG1 := Lib.hid g1; clear H1 g1 H HO
  go_wp2_with fail
  refine wp_region_still_tail 21 (by kernel_rfl) (by kernel_rfl) ?_
  simp only [List.take_succ_cons, List.take_zero, List.drop_succ_cons, List.drop_zero]
  repeat still_step
  still_call ((hA.out _).mono fun _ _ ⟨a, b⟩ => ⟨a, b.symm⟩)
  repeat still_step
  still_call ((hN.out _).mono fun _ _ ⟨a, b⟩ => ⟨a, b.symm⟩)
  repeat still_step
  refine wpStill_nil ?_
  change wpList _ _ _ _ _ w1.drew
  have f2' : w1.drew.frozen? ⟨b, 2, none⟩ = false := f2
  have f3' : w1.drew.frozen? ⟨b, 3, none⟩ = false := f3
  have f4' : w1.drew.frozen? ⟨b, 4, none⟩ = false := f4
  have f5' : w1.drew.frozen? ⟨b, 5, none⟩ = false := f5
  have c2' : w1.drew.cell? ⟨b, 2, none⟩ = some (.int .i64 r) := c2
  have c3' : w1.drew.cell? ⟨b, 3, none⟩ = some (.int .i64 s) := c3
  have c4' : w1.drew.cell? ⟨b, 4, none⟩ = some (.int .u32 t) := c4
  have c5' : w1.drew.cell? ⟨b, 5, none⟩ = some (.int .i64 n) := c5
  go_wp2
  (try simp only [Exit.inBlock, Exit.then])
  refine bodyPost_ret (results_none rfl _ _ _) rfl ?_
  refine ⟨rfl, ((((HH1.out.s3 _).s2 _).s4 _).s5 _), ?_⟩
  exact gb_trans (gb_trans (gb_trans (gb_trans (gb_trans HG1.out (grownBy_setOwn _ _ _ _)) (grownBy_setOwn _ _ _ _)) (grownBy_setOwn _ _ _ _)) (grownBy_setOwn _ _ _ _)) (grownBy_drewN _ 1 _)
theorem note_more (b : Nat) (h f r s t n e c q ts now : Int) (w : World) (H : Sta b h f r s t n e c w) (hh : WdOk h) (hn : 0 ≤ q) (hn' : q < 65536) (hr : 0 < r) (hr' : r ≤ 1099511627776) (hs : 0 ≤ s) (hs' : s ≤ 1125899906842624) (hn0 : 0 ≤ n) (hn1 : n ≤ 1099511627776) :
    Calls Try.prog 24 #[.pointer (some ⟨b, 0, none⟩), .int .u16 q, .int .u32 ts, .int .i64 now] w (NPost b (Ser.high h q) f (r + 1) (Rep.next s (Rep.clampT now - n - Ser.ahead32 ts t)) ts (Rep.clampT now) e c (.tuple #[]) w) := by
  by_cases h0 : now < 0
  · rw [show Rep.clampT now = 0 by unfold Rep.clampT; omega]
    exact note_lo b h f r s t n e c q ts now w H hh hn hn' hr hr' hs hs' hn0 hn1 h0
  · by_cases h1 : 1099511627776 < now
    · rw [show Rep.clampT now = 1099511627776 by unfold Rep.clampT; omega]
      exact note_hi b h f r s t n e c q ts now w H hh hn hn' hr hr' hs hs' hn0 hn1 h1
    · rw [show Rep.clampT now = now by unfold Rep.clampT; omega]
      exact note_in b h f r s t n e c q ts now w H hh hn hn' hr hr' hs hs' hn0 hn1 (by omega) (by omega)
end Go.Proofs.Ytpannhbmelcpfab
