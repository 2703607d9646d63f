
/-
  report.Stats: Note.
-/
import Derived.Test.YtpannhbmelcpfabRep1
import Derived.Deep.RegionLaw
import Derived.StillTailTactics
namespace Go.Proofs.Ytpannhbmelcpfab
open Go.RowKit
set_option linter.unusedVariables false
def NPost (b : Nat) (h f r s t n e c : Int) (v : Value) (w : World) (x : Ending) (w' : World) : Prop :=
  x = .returned v ∧ Sta b h f r s t n e c w' ∧ w.grownBy w' (some b)
theorem sof_up (b : Nat) (h f r s t n e c q v : Int) (w : World) (H : Sta b h f r s t n e c w) (hh : WdOk h) (hn : 0 ≤ q) (hn' : q < 65536) (HV : Hid (Ser.extend h q = v)) (hb1 : 4294934528 ≤ v) (hb2 : v ≤ 2305843009213726720) (hlt : h < v) :
    Calls Try.prog 56 #[.pointer (some ⟨b, 0, none⟩), .int .u16 q] w (NPost b v f r s t n e c (.int .i64 v) w) := by
  have hc := H.c0
  have hf := H.fro 0
  have hw : Wd b h w := ⟨hc, hf⟩
  go_enter Try.func56, Try.ntmps56
  go_wp2_with (go_at_call 91; refine (extend_v b h q v _ hw hh hn hn' HV).mono ?_; rintro e w' ⟨rfl, k, rfl⟩)
  go_ret
  exact ⟨rfl, (H.drawn k).s0 v, gb_trans (grownBy_drewN w k (some b)) (grownBy_setOwn _ _ _ _)⟩
theorem sof_same (b : Nat) (h f r s t n e c q v : Int) (w : World) (H : Sta b h f r s t n e c w) (hh : WdOk h) (hn : 0 ≤ q) (hn' : q < 65536) (HV : Hid (Ser.extend h q = v)) (hb1 : 4294934528 ≤ v) (hb2 : v ≤ 2305843009213726720) (hlt : v ≤ h) :
    Calls Try.prog 56 #[.pointer (some ⟨b, 0, none⟩), .int .u16 q] w (NPost b h f r s t n e c (.int .i64 v) w) := by
  have hc := H.c0
  have hf := H.fro 0
  have hw : Wd b h w := ⟨hc, hf⟩
  go_enter Try.func56, Try.ntmps56
  go_wp2_with (go_at_call 91; refine (extend_v b h q v _ hw hh hn hn' HV).mono ?_; rintro e w' ⟨rfl, k, rfl⟩)
  go_ret
  exact ⟨rfl, H.drawn k, grownBy_drewN _ _ _⟩
theorem sof_any (b : Nat) (h f r s t n e c q : Int) (w : World) (H : Sta b h f r s t n e c w) (hh : WdOk h) (hn : 0 ≤ q) (hn' : q < 65536) :
    Calls Try.prog 56 #[.pointer (some ⟨b, 0, none⟩), .int .u16 q] w (NPost b (Ser.high h q) f r s t n e c (.int .i64 (Ser.extend h q)) w) := by
  have hb := Ser.extend_bd h q hh hn hn'
  unfold Ser.high
  by_cases hlt : h < Ser.extend h q
  · rw [if_pos hlt]; exact sof_up b h f r s t n e c q _ w H hh hn hn' (Lib.hid rfl) hb.1 hb.2 hlt
  · rw [if_neg hlt]; exact sof_same b h f r s t n e c q _ w H hh hn hn' (Lib.hid rfl) hb.1 hb.2 (by omega)
def Rep.clampT (x : Int) : Int := min (max x 0) 1099511627776
theorem Sta.to {b : Nat} {h f r s t n e c h' f' r' s' t' n' e' c' : Int} {w : World} (H : Sta b h f r s t n e c w) (e0 : h = h') (e1 : f = f') (e2 : r = r') (e3 : s = s') (e4 : t = t') (e5 : n = n') (e6 : e = e') (e7 : c = c') :
    Sta b h' f' r' s' t' n' e' c' w := by subst e0 e1 e2 e3 e4 e5 e6 e7; exact H
theorem note_first (b : Nat) (h f s t n e c q ts now : Int) (w : World) (H : Sta b h f 0 s t n e c w) (hh : WdOk h) (hn : 0 ≤ q) (hn' : q < 65536) :
    Calls Try.prog 24 #[.pointer (some ⟨b, 0, none⟩), .int .u16 q, .int .u32 ts, .int .i64 now] w (NPost b (Ser.high h q) (Ser.extend h q) 1 s ts (Rep.clampT now) e c (.tuple #[]) w) := by
  have HO : Hid (∀ W, Sta b h f 0 s t n e c W → Calls Try.prog 56 #[.pointer (some ⟨b, 0, none⟩), .int .u16 q] W (NPost b (Ser.high h q) f 0 s t n e c (.int .i64 (Ser.extend h q)) W)) := Lib.hid fun W hW => sof_any b h f 0 s t n e c q W hW hh hn hn'
  generalize Ser.high h q = h' at *
  generalize Ser.extend h q = v at *
  go_enter Try.func24, Try.ntmps24
  go_wp2_with fail
  all_goals (
    refine (HO.out _ H).mono ?_
    rintro x w1 ⟨rfl, H1, g1⟩
    have c2 := H1.c2
    have f1 := H1.fro 1; have f2 := H1.fro 2; have f4 := H1.fro 4; have f5 := H1.fro 5
    have c1 := H1.c1; have c4 := H1.c4; have c5 := H1.c5
    go_wp2
    (try simp only [Exit.inBlock, Exit.then])
    refine bodyPost_ret (results_none rfl _ _ _) rfl ?_
    refine ⟨rfl, ((((H1.s1 _).s2 _).s4 _).s5 _).to rfl rfl (by first | rfl | decide) rfl rfl (by unfold Rep.clampT; omega) rfl rfl, ?_⟩
    exact gb_trans (gb_trans (gb_trans (gb_trans g1 (grownBy_setOwn _ _ _ _)) (grownBy_setOwn _ _ _ _)) (grownBy_setOwn _ _ _ _)) (grownBy_setOwn _ _ _ _))
end Go.Proofs.Ytpannhbmelcpfab
