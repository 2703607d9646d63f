
/-
  The contracts of serial.Wide's methods.
-/
import Derived.Test.YtpannhbmelcpfabLeaf
import Derived.Deep.QuietTactic
import Derived.BigQuiet
namespace Go.Proofs.Ytpannhbmelcpfab
open Go.RowKit
set_option linter.unusedVariables false

theorem started_any (b : Nat) (h : Int) (w : World) (hc : w.cell? ⟨b, 0, none⟩ = some (.int .i64 h)) :
    Calls Try.prog 113 #[.pointer (some ⟨b, 0, none⟩)] w fun e w' => e = .returned (.bool (h != 0)) ∧ w = w' := by
  go_enter Try.func113, Try.ntmps113
  go_wp2
  go_ret
  exact ⟨rfl, rfl⟩
theorem highest_any (b : Nat) (h : Int) (w : World) (hc : w.cell? ⟨b, 0, none⟩ = some (.int .i64 h)) :
    Calls Try.prog 87 #[.pointer (some ⟨b, 0, none⟩)] w fun e w' => e = .returned (.int .i64 h) ∧ w = w' := by
  go_enter Try.func87, Try.ntmps87
  go_wp2
  go_ret
  exact ⟨rfl, rfl⟩
theorem extend_new (b : Nat) (n : Int) (w : World) (hc : w.cell? ⟨b, 0, none⟩ = some (.int .i64 0)) (hn : 0 ≤ n) (hn' : n < 65536) :
    Calls Try.prog 91 #[.pointer (some ⟨b, 0, none⟩), .int .u16 n] w fun e w' => e = .returned (.int .i64 (4294967296 + n)) ∧ ∃ k, w' = w.drewN k := by
  go_enter Try.func91, Try.ntmps91
  go_wp2_with (go_at_call 113; refine (started_any _ _ _ hc).mono ?_; rintro e w' ⟨rfl, rfl⟩)
  go_ret
  exact ⟨rfl, 0, rfl⟩
theorem extend_old (b : Nat) (h n : Int) (w : World) (hc : w.cell? ⟨b, 0, none⟩ = some (.int .i64 h)) (h0 : 0 < h) (h1 : h ≤ 4611686018427387904) (hn : 0 ≤ n) (hn' : n < 65536) :
    Calls Try.prog 91 #[.pointer (some ⟨b, 0, none⟩), .int .u16 n] w fun e w' => e = .returned (.int .i64 (h + Ser.ahead n (h % 65536))) ∧ ∃ k, w' = w.drewN k := by
  have hz : (h != 0) = true := by rw [bne_iff_ne]; omega
  have hu := u16w h
  have hb := Ser.ahead_bd n (h % 65536)
  go_enter Try.func91, Try.ntmps91
  go_wp2_with (go_at_call 113; refine (started_any _ _ _ hc).mono ?_; rintro e w' ⟨rfl, rfl⟩)
  go_quiet ((go_at_call 114; exact Calls.quiet_of_same ((ahead_any _ _ _).mono fun _ _ ⟨a, b⟩ => ⟨a, b.symm⟩)))
  go_wp2
  go_ret
  exact ⟨rfl, _, rfl⟩

/-- The state of a Wide whose cell is block b: its highest number is h, and it can be written. -/
structure Wd (b : Nat) (h : Int) (w : World) : Prop where
  cell : w.cell? ⟨b, 0, none⟩ = some (.int .i64 h)
  fro : w.frozen? ⟨b, 0, none⟩ = false
/-- The states that a Wide has within some thousands of calls. -/
def WdOk (h : Int) : Prop := h = 0 ∨ 4294967296 ≤ h ∧ h ≤ 2305843009213693952
def Ser.high (h n : Int) : Int := if h < Ser.extend h n then Ser.extend h n else h
def Drawn (v : Value) (w : World) (e : Ending) (w' : World) : Prop := e = .returned v ∧ ∃ k, w' = w.drewN k
theorem Ser.extend_bd (h n : Int) (hh : WdOk h) (hn : 0 ≤ n) (hn' : n < 65536) : 4294934528 ≤ Ser.extend h n ∧ Ser.extend h n ≤ 2305843009213726720 := by
  have hb := Ser.ahead_bd n (h % 65536)
  unfold Ser.extend
  rcases hh with rfl | ⟨h1, h2⟩
  · simp; omega
  · rw [if_neg (by omega)]; omega
theorem extend_v (b : Nat) (h n v : Int) (w : World) (hw : Wd b h w) (hh : WdOk h) (hn : 0 ≤ n) (hn' : n < 65536) (hv : Hid (Ser.extend h n = v)) :
    Calls Try.prog 91 #[.pointer (some ⟨b, 0, none⟩), .int .u16 n] w (Drawn (.int .i64 v) w) := by
  have e := hv.out
  unfold Ser.extend at e
  rcases hh with rfl | ⟨h1, h2⟩
  · refine (extend_new b n w hw.cell hn hn').mono fun _ _ ⟨a, k⟩ => ⟨?_, k⟩
    rw [a, ← e]; simp
  · refine (extend_old b h n w hw.cell (by omega) (by omega) hn hn').mono fun _ _ ⟨a, k⟩ => ⟨?_, k⟩
    rw [a, ← e, if_neg (by omega)]
def OfPost (b : Nat) (v h' : Int) (w : World) (e : Ending) (w' : World) : Prop :=
  e = .returned (.int .i64 v) ∧ Wd b h' w' ∧ w.grownBy w' (some b) ∧ w'.heap.size = w.heap.size
theorem grownBy_drewN (w : World) (k : Nat) (row : Option Nat) : w.grownBy (w.drewN k) row :=
  ⟨rfl, rfl, rfl, Nat.le_refl _, fun _ _ _ => rfl⟩
theorem gb_trans {a b c : World} {row : Option Nat} (h : a.grownBy b row) (k : b.grownBy c row) : a.grownBy c row :=
  ⟨k.os.trans h.os, k.tape.trans h.tape, k.output.trans h.output, Nat.le_trans h.size k.size, fun i hi hr => (k.block i (Nat.lt_of_lt_of_le hi h.size) hr).trans (h.block i hi hr)⟩
theorem grownBy_setOwn (w : World) (b i : Nat) (v : Value) : w.grownBy (w.setCell ⟨b, i, none⟩ v) (some b) :=
  ⟨by simp [World.setCell], by simp [World.setCell], by simp [World.setCell], by simp [World.setCell], fun k _ hk => Below.heap_setCell w _ _ k (fun e => hk (by rw [e]))⟩
theorem of_up (b : Nat) (h n v : Int) (w : World) (hw : Wd b h w) (hh : WdOk h) (hn : 0 ≤ n) (hn' : n < 65536) (H : Hid (Ser.extend h n = v)) (hb1 : 4294934528 ≤ v) (hb2 : v ≤ 2305843009213726720) (hlt : h < v) :
    Calls Try.prog 56 #[.pointer (some ⟨b, 0, none⟩), .int .u16 n] w (OfPost b v v w) := by
  have hc := hw.cell
  have hf := hw.fro
  go_enter Try.func56, Try.ntmps56
  go_wp2_with (go_at_call 91; refine (extend_v b h n v _ hw hh hn hn' H).mono ?_; rintro e w' ⟨rfl, k, rfl⟩)
  go_ret
  refine ⟨rfl, ⟨World.cell?_setCell_same _ _ _ hc, by simpa [go_sem] using hf⟩, ?_, by simp⟩
  exact gb_trans (grownBy_drewN w k (some b)) (grownBy_setOwn _ _ _ _)
theorem of_same (b : Nat) (h n v : Int) (w : World) (hw : Wd b h w) (hh : WdOk h) (hn : 0 ≤ n) (hn' : n < 65536) (H : Hid (Ser.extend h n = v)) (hb1 : 4294934528 ≤ v) (hb2 : v ≤ 2305843009213726720) (hlt : v ≤ h) :
    Calls Try.prog 56 #[.pointer (some ⟨b, 0, none⟩), .int .u16 n] w (OfPost b v h w) := by
  have hc := hw.cell
  have hf := hw.fro
  go_enter Try.func56, Try.ntmps56
  go_wp2_with (go_at_call 91; refine (extend_v b h n v _ hw hh hn hn' H).mono ?_; rintro e w' ⟨rfl, k, rfl⟩)
  go_ret
  exact ⟨rfl, ⟨by simpa using hc, by simpa using hf⟩, grownBy_drewN _ _ _, by simp⟩
theorem of_any (b : Nat) (h n : Int) (w : World) (hw : Wd b h w) (hh : WdOk h) (hn : 0 ≤ n) (hn' : n < 65536) :
    Calls Try.prog 56 #[.pointer (some ⟨b, 0, none⟩), .int .u16 n] w (OfPost b (Ser.extend h n) (Ser.high h n) w) := by
  have hb := Ser.extend_bd h n hh hn hn'
  unfold Ser.high
  by_cases hlt : h < Ser.extend h n
  · rw [if_pos hlt]; exact of_up b h n _ w hw hh hn hn' (Lib.hid rfl) hb.1 hb.2 hlt
  · rw [if_neg hlt]; exact of_same b h n _ w hw hh hn hn' (Lib.hid rfl) hb.1 hb.2 (by omega)
end Go.Proofs.Ytpannhbmelcpfab
