
/-
  report.Stats: Note as one step of a state, and what is asked of it, in such states.
-/
import Derived.Test.YtpannhbmelcpfabRep2b
namespace Go.Proofs.Ytpannhbmelcpfab
open Go.RowKit
set_option linter.unusedVariables false
/-- What a Stats has. -/
structure Rs where
  h : Int
  f : Int
  r : Int
  s : Int
  t : Int
  n : Int
  e : Int
  c : Int
def Rs.zero : Rs := ⟨0, 0, 0, 0, 0, 0, 0, 0⟩
def Rs.exp (x : Rs) : Int := Rep.exp x.h x.f x.r
def Rs.lost (x : Rs) : Int := Rep.lost x.h x.f x.r
def Rs.frac (x : Rs) : Int := Rep.frac (x.exp - x.e) (x.r - x.c)
def Rs.note (x : Rs) (q ts now : Int) : Rs :=
  ⟨Ser.high x.h q, if x.r = 0 then Ser.extend x.h q else x.f, x.r + 1, if x.r = 0 then x.s else Rep.next x.s (Rep.clampT now - x.n - Ser.ahead32 ts x.t), ts, Rep.clampT now, x.e, x.c⟩
def Rs.told (x : Rs) : Rs := { x with e := x.exp, c := x.r }
structure Rs.Ok (x : Rs) : Prop where
  r0 : 0 ≤ x.r
  r1 : x.r ≤ 1000
  hf : (x.r = 0 ∧ x.h = 0 ∧ x.f = 0) ∨ (0 < x.r ∧ 4294967296 ≤ x.h ∧ x.h ≤ 4295032831 + 32767 * x.r ∧ 4294967296 ≤ x.f ∧ x.f ≤ 4295032831 ∧ x.f ≤ x.h)
  s0 : 0 ≤ x.s
  s1 : x.s ≤ 1125899906842624
  n0 : 0 ≤ x.n
  n1 : x.n ≤ 1099511627776
  c0 : 0 ≤ x.c
  c1 : x.c ≤ x.r
  e0 : 0 ≤ x.e
  e1 : x.e ≤ x.exp
theorem Rs.zero_ok : Rs.zero.Ok := by
  constructor <;> simp [Rs.zero, Rs.exp, Rep.exp]
theorem Rs.Ok.wd {x : Rs} (H : x.Ok) : WdOk x.h := by
  have := H.hf; have := H.r1; unfold WdOk; omega
theorem Rep.next_bd (s l : Int) (h : 0 ≤ s) (h' : s ≤ 1125899906842624) : 0 ≤ Rep.next s l ∧ Rep.next s l ≤ 1125899906842624 := by
  unfold Rep.next; omega
theorem Rep.clampT_bd (x : Int) : 0 ≤ Rep.clampT x ∧ Rep.clampT x ≤ 1099511627776 := by unfold Rep.clampT; omega
theorem Rs.Ok.exp_bd {x : Rs} (H : x.Ok) : 0 ≤ x.exp ∧ x.exp ≤ 40000000 ∧ (x.r = 0 → x.exp = 0) ∧ (0 < x.r → x.exp = x.h - x.f + 1) := by
  have := H.hf; have := H.r1; unfold Rs.exp Rep.exp; split <;> omega
theorem Rs.Ok.note {x : Rs} (H : x.Ok) (q ts now : Int) (hr : x.r < 1000) (hq : 0 ≤ q) (hq' : q < 65536) : (x.note q ts now).Ok := by
  have hb := Ser.ahead_bd q (x.h % 65536)
  have hx := H.hf
  have hn := Rep.next_bd x.s (Rep.clampT now - x.n - Ser.ahead32 ts x.t) H.s0 H.s1
  have hc := Rep.clampT_bd now
  have e1 := H.e1; have e0 := H.e0; have c0 := H.c0; have c1 := H.c1; have r0 := H.r0; have s0 := H.s0; have s1 := H.s1
  rcases hx with ⟨z1, z2, z3⟩ | ⟨p1, p2, p3, p4, p5, p6⟩
  · have E : Ser.extend x.h q = 4294967296 + q := by unfold Ser.extend; rw [if_pos z2]
    have Hh : Ser.high x.h q = 4294967296 + q := by unfold Ser.high; rw [E, if_pos (by omega)]
    have X : x.exp = 0 := by unfold Rs.exp Rep.exp; rw [if_pos z1]
    constructor <;> simp only [Rs.note, Rs.exp, Rep.exp, Hh, E, if_pos z1] <;> (try split) <;> omega
  · have hz : ¬ x.r = 0 := by omega
    have E : Ser.extend x.h q = x.h + Ser.ahead q (x.h % 65536) := by unfold Ser.extend; rw [if_neg (by omega)]
    have Hh : x.h ≤ Ser.high x.h q ∧ Ser.high x.h q ≤ x.h + 32767 := by unfold Ser.high; rw [E]; split <;> omega
    have X : x.exp = x.h - x.f + 1 := by unfold Rs.exp Rep.exp; rw [if_neg hz]
    constructor <;> simp only [Rs.note, Rs.exp, Rep.exp, if_neg hz] <;> (try split) <;> omega
theorem Rs.Ok.told {x : Rs} (H : x.Ok) : x.told.Ok := by
  have := H.exp_bd
  exact ⟨H.r0, H.r1, H.hf, H.s0, H.s1, H.n0, H.n1, H.r0, Int.le_refl _, this.1, Int.le_refl _⟩
/-- Block b holds the state x. -/
def Hold (b : Nat) (x : Rs) (w : World) : Prop := Sta b x.h x.f x.r x.s x.t x.n x.e x.c w
def HPost (b : Nat) (x : Rs) (v : Value) (w : World) (z : Ending) (w' : World) : Prop :=
  z = .returned v ∧ Hold b x w' ∧ w.grownBy w' (some b)
theorem note_ok (b : Nat) (x : Rs) (q ts now : Int) (w : World) (H : Hold b x w) (ok : x.Ok) (hr : x.r < 1000) (hq : 0 ≤ q) (hq' : q < 65536) :
    Calls Try.prog 24 #[.pointer (some ⟨b, 0, none⟩), .int .u16 q, .int .u32 ts, .int .i64 now] w (HPost b (x.note q ts now) (.tuple #[]) w) := by
  by_cases h0 : x.r = 0
  · obtain ⟨h, f, r, s, t, n, e, c⟩ := x
    simp only at h0; subst h0
    refine (note_first b h f s t n e c q ts now w H ok.wd hq hq').mono ?_
    rintro z w' ⟨rfl, h1, h2⟩
    exact ⟨rfl, h1, h2⟩
  · have hp : 0 < x.r := by have := ok.r0; omega
    refine (note_more b x.h x.f x.r x.s x.t x.n x.e x.c q ts now w H ok.wd hq hq' hp (by omega) ok.s0 ok.s1 ok.n0 ok.n1).mono ?_
    rintro z w' ⟨rfl, h1, h2⟩
    refine ⟨rfl, ?_, h2⟩
    unfold Hold Rs.note
    simp only [if_neg h0]
    exact h1
theorem Rs.Ok.hbd {x : Rs} (ok : x.Ok) : (0 ≤ x.h ∧ x.h ≤ 2305843009213726720) ∧ (0 ≤ x.f ∧ x.f ≤ 2305843009213726720) ∧ (0 ≤ x.r ∧ x.r ≤ 1099511627776) := by
  have := ok.hf; have := ok.r0; have := ok.r1; omega
set_option linter.unusedSectionVars false
section
variable (b : Nat) (x : Rs) (w : World) (H : Hold b x w) (ok : x.Ok)
include H ok
theorem received_ok : Calls Try.prog 46 #[.pointer (some ⟨b, 0, none⟩)] w fun e w' => e = .returned (.int .i64 x.r) ∧ w = w' := received_any b _ _ _ _ _ _ _ _ w H
theorem highest_ok : Calls Try.prog 49 #[.pointer (some ⟨b, 0, none⟩)] w fun e w' => e = .returned (.int .u32 (x.h % 4294967296)) ∧ w = w' := rhighest_any b _ _ _ _ _ _ _ _ w H
theorem jitter_ok : Calls Try.prog 50 #[.pointer (some ⟨b, 0, none⟩)] w fun e w' => e = .returned (.int .u32 (Rep.jit x.s)) ∧ w = w' := jitter_any b _ _ _ _ _ _ _ _ w H ok.s0 ok.s1
theorem expected_ok : Calls Try.prog 47 #[.pointer (some ⟨b, 0, none⟩)] w (Drawn (.int .i64 x.exp) w) := expected_any b _ _ _ _ _ _ _ _ w H ok.hbd.1 ok.hbd.2.1
theorem lost_ok : Calls Try.prog 48 #[.pointer (some ⟨b, 0, none⟩)] w (Drawn (.int .i32 x.lost) w) := lost_any b _ _ _ _ _ _ _ _ w H ok.hbd.1 ok.hbd.2.1 ok.hbd.2.2
theorem fraction_ok : Calls Try.prog 45 #[.pointer (some ⟨b, 0, none⟩)] w (Drawn (.int .i64 x.frac) w) := by
  have h1 := ok.exp_bd; have h2 := ok.e0; have h3 := ok.e1; have h4 := ok.c0; have h5 := ok.c1; have h6 := ok.r1
  unfold Rs.exp at h1 h3
  exact fraction_any b _ _ _ _ _ _ _ _ w H ok.hbd.1 ok.hbd.2.1 ok.hbd.2.2 (by omega) (by omega) (by omega)
end
theorem Hold.below {b : Nat} {x : Rs} {w w' : World} (H : Hold b x w) (hb : Below w.heap.size w w') : Hold b x w' := Sta.below H hb
theorem Hold.drawn {b : Nat} {x : Rs} {w : World} (H : Hold b x w) (k : Nat) : Hold b x (w.drewN k) := H
theorem Hold.other {b : Nat} {x : Rs} {w w' : World} {row : Option Nat} (H : Hold b x w) (g : w.grownBy w' row) (hne : some b ≠ row) : Hold b x w' := Sta.other H g hne
theorem Hold.lt {b : Nat} {x : Rs} {w : World} (H : Hold b x w) : b < w.heap.size := Sta.lt H
theorem heap_new (w : World) (o : Obj) : (w.alloc o).heap[w.heap.size]? = some o := by
  first | (unfold World.alloc; simp; done) | (simp [World.alloc]; done) | (show (w.heap.push o)[w.heap.size]? = some o; simp)
theorem Hold.alloc (w : World) : Hold w.heap.size Rs.zero (w.alloc (.cells #[.int .i64 0, .int .i64 0, .int .i64 0, .int .i64 0, .int .u32 0, .int .i64 0, .int .i64 0, .int .i64 0] 66)) := by
  exact heap_new w _
end Go.Proofs.Ytpannhbmelcpfab
