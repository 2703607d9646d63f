
/-
  confluxlaw08.same.
-/
import Derived.Test.YtpannhbmelcpfabRepRef3
namespace Go.Proofs.Ytpannhbmelcpfab
open Go.RowKit
set_option linter.unusedVariables false
attribute [local go_sem] Oper.semAt_some
/-- m packets noted, E expected and C come by the last report. -/
def Ys (q t n : Nat → Int) (m : Nat) (E C : Int) : Rs := { Os.st q t n m with e := E, c := C }
theorem Ys.ok (q t n : Nat → Int) (m : Nat) (E C : Int) (h : (Os.st q t n m).Ok) (hE : 0 ≤ E ∧ E ≤ (Os.st q t n m).exp) (hC : 0 ≤ C ∧ C ≤ m) : (Ys q t n m E C).Ok :=
  ⟨h.r0, h.r1, h.hf, h.s0, h.s1, h.n0, h.n1, hC.1, by show C ≤ (Os.st q t n m).r; rw [Os.r]; exact hC.2, hE.1, hE.2⟩
theorem Ys.note (q t n : Nat → Int) (m : Nat) (E C : Int) : (Ys q t n m E C).note (q m) (t m) (n m) = Ys q t n (m + 1) E C := rfl
theorem Ys.told (q t n : Nat → Int) (m : Nat) (E C : Int) : (Ys q t n m E C).told = Ys q t n m (Os.st q t n m).exp m := by
  have := Os.r q t n m
  show (⟨_, _, _, _, _, _, (Os.st q t n m).exp, (Os.st q t n m).r⟩ : Rs) = _
  rw [this]; rfl
theorem Ys.frac (q t n : Nat → Int) (m : Nat) (E C : Int) : (Ys q t n m E C).frac = Rep.frac ((Os.st q t n m).exp - E) (m - C) := by
  show Rep.frac ((Os.st q t n m).exp - E) ((Os.st q t n m).r - C) = _
  rw [Os.r]
theorem bx_drawn {w : World} {a : Option Addr} {m cap : Nat} {E C : Int} {W : World} {k : Nat} (h : W.cell? ⟨w.heap.size, 0, none⟩ = some (.slice a m cap) ∧ W.cell? ⟨w.heap.size, 1, none⟩ = some (.int .i64 E) ∧ W.cell? ⟨w.heap.size, 2, none⟩ = some (.int .i64 C) ∧ Below w.heap.size w W ∧ w.heap.size < W.heap.size) :
    (W.drewN k).cell? ⟨w.heap.size, 0, none⟩ = some (.slice a m cap) ∧ (W.drewN k).cell? ⟨w.heap.size, 1, none⟩ = some (.int .i64 E) ∧ (W.drewN k).cell? ⟨w.heap.size, 2, none⟩ = some (.int .i64 C) ∧ Below w.heap.size w (W.drewN k) ∧ w.heap.size < (W.drewN k).heap.size :=
  bx_below h ⟨rfl, rfl, rfl, Nat.le_refl _, fun _ _ => rfl⟩
set_option maxRecDepth 100000 in
set_option maxHeartbeats 1000000 in
theorem same8_any (b : Nat) (a : Option Addr) (g m cap : Nat) (q t n : Nat → Int) (E C : Int) (w : World) (H : OAt w a g m q t n) (hm : m ≤ 60) (hE : 0 ≤ E ∧ E ≤ 40000000) (hC : 0 ≤ C ∧ C ≤ 1000) (HH : Hold b (Ys q t n m E C) w) (ok : (Ys q t n m E C).Ok) :
    Calls Try.prog 25 #[.pointer (some ⟨b, 0, none⟩), .agg #[.slice a m cap, .int .i64 E, .int .i64 C]] w (RePost (.bool true) w) := by
  have hb := HH.lt
  have eR : (Ys q t n m E C).r = m := Os.r q t n m
  have eF := Ys.frac q t n m E C
  have RE : Hid (∀ W, Below w.heap.size w W → Calls Try.prog 55 #[.agg #[.slice a m cap, .int .i64 E, .int .i64 C]] W (RePost (.int .i64 (Os.st q t n m).exp) W)) := Lib.hid fun W hW => refexp_any a g m cap q t n E C W (H.below hW) hm
  have RL : Hid (∀ W, Below w.heap.size w W → Calls Try.prog 52 #[.agg #[.slice a m cap, .int .i64 E, .int .i64 C]] W (RePost (.int .i32 (Os.st q t n m).lost) W)) := Lib.hid fun W hW => reflost_any a g m cap q t n E C W (H.below hW) hm
  have RH : Hid (∀ W, Below w.heap.size w W → Calls Try.prog 53 #[.agg #[.slice a m cap, .int .i64 E, .int .i64 C]] W (RePost (.int .u32 ((Os.st q t n m).h % 4294967296)) W)) := Lib.hid fun W hW => refhi_any a g m cap q t n E C W (H.below hW) hm
  have RJ : Hid (∀ W, Below w.heap.size w W → Calls Try.prog 54 #[.agg #[.slice a m cap, .int .i64 E, .int .i64 C]] W (RePost (.int .u32 (Rep.jit (Os.st q t n m).s)) W)) := Lib.hid fun W hW => refjit_any a g m cap q t n E C W (H.below hW) hm
  have RF : Hid (∀ W, Below w.heap.size w W → Calls Try.prog 51 #[.agg #[.slice a m cap, .int .i64 E, .int .i64 C]] W (RePost (.int .i64 (Rep.frac ((Os.st q t n m).exp - E) (m - C))) W)) := Lib.hid fun W hW => reffrac_any a g m cap q t n E C W (H.below hW) hm hE hC
  have SR : Hid (∀ W, Below w.heap.size w W → Calls Try.prog 46 #[.pointer (some ⟨b, 0, none⟩)] W (fun e W' => e = .returned (.int .i64 m) ∧ W = W')) := Lib.hid fun W hW => eR ▸ received_ok b _ W (HH.below hW) ok
  have SE : Hid (∀ W, Below w.heap.size w W → Calls Try.prog 47 #[.pointer (some ⟨b, 0, none⟩)] W (Drawn (.int .i64 (Os.st q t n m).exp) W)) := Lib.hid fun W hW => expected_ok b (Ys q t n m E C) W (HH.below hW) ok
  have SL : Hid (∀ W, Below w.heap.size w W → Calls Try.prog 48 #[.pointer (some ⟨b, 0, none⟩)] W (Drawn (.int .i32 (Os.st q t n m).lost) W)) := Lib.hid fun W hW => lost_ok b (Ys q t n m E C) W (HH.below hW) ok
  have SH : Hid (∀ W, Below w.heap.size w W → Calls Try.prog 49 #[.pointer (some ⟨b, 0, none⟩)] W (fun e W' => e = .returned (.int .u32 ((Os.st q t n m).h % 4294967296)) ∧ W = W')) := Lib.hid fun W hW => highest_ok b (Ys q t n m E C) W (HH.below hW) ok
  have SJ : Hid (∀ W, Below w.heap.size w W → Calls Try.prog 50 #[.pointer (some ⟨b, 0, none⟩)] W (fun e W' => e = .returned (.int .u32 (Rep.jit (Os.st q t n m).s)) ∧ W = W')) := Lib.hid fun W hW => jitter_ok b (Ys q t n m E C) W (HH.below hW) ok
  have SF : Hid (∀ W, Below w.heap.size w W → Calls Try.prog 45 #[.pointer (some ⟨b, 0, none⟩)] W (Drawn (.int .i64 (Rep.frac ((Os.st q t n m).exp - E) (m - C))) W)) := Lib.hid fun W hW => eF ▸ fraction_ok b _ W (HH.below hW) ok
  clear eR eF ok
  generalize Rep.frac ((Os.st q t n m).exp - E) (m - C) = Fr at *
  generalize (Os.st q t n m).lost = Lo at *
  generalize (Os.st q t n m).h % 4294967296 = Hi at *
  generalize Rep.jit (Os.st q t n m).s = Ji at *
  generalize (Os.st q t n m).exp = X at *
  have hS := bx_new w a m cap E C
  go_enter Try.func25, Try.ntmps25
  go_wp2_with fail
  generalize w.alloc (.cells #[.slice a m cap, .int .i64 E, .int .i64 C] 68) = w0 at hS ⊢
  clear H HH
  go_region_held3 (fun W => W.cell? ⟨w.heap.size, 0, none⟩ = some (.slice a m cap) ∧ W.cell? ⟨w.heap.size, 1, none⟩ = some (.int .i64 E) ∧ W.cell? ⟨w.heap.size, 2, none⟩ = some (.int .i64 C) ∧ Below w.heap.size w W ∧ w.heap.size < W.heap.size)
    (first | with_reducible assumption | with_reducible exact bx_drew (by with_reducible assumption) | with_reducible exact bx_drawn (by with_reducible assumption) | with_reducible exact bx_below (by with_reducible assumption) (by with_reducible assumption))
    (first
      | (go_at_call 46; refine (SR.out _ (bx_b (by assumption))).mono ?_; rintro e _ ⟨rfl, rfl⟩)
      | (go_at_call 47; refine (SE.out _ (bx_b (by assumption))).mono ?_; rintro e _ ⟨rfl, kE, rfl⟩)
      | (go_at_call 48; refine (SL.out _ (bx_b (by assumption))).mono ?_; rintro e _ ⟨rfl, kL, rfl⟩)
      | (go_at_call 49; refine (SH.out _ (bx_b (by assumption))).mono ?_; rintro e _ ⟨rfl, rfl⟩)
      | (go_at_call 50; refine (SJ.out _ (bx_b (by assumption))).mono ?_; rintro e _ ⟨rfl, rfl⟩)
      | (go_at_call 45; refine (SF.out _ (bx_b (by assumption))).mono ?_; rintro e _ ⟨rfl, kF, rfl⟩)
      | (go_at_call 55; refine (RE.out _ (bx_b (by assumption))).mono ?_; rintro e wE ⟨rfl, hbE⟩)
      | (go_at_call 52; refine (RL.out _ (bx_b (by assumption))).mono ?_; rintro e wL ⟨rfl, hbL⟩)
      | (go_at_call 53; refine (RH.out _ (bx_b (by assumption))).mono ?_; rintro e wH ⟨rfl, hbH⟩)
      | (go_at_call 54; refine (RJ.out _ (bx_b (by assumption))).mono ?_; rintro e wJ ⟨rfl, hbJ⟩)
      | (go_at_call 51; refine (RF.out _ (bx_b (by assumption))).mono ?_; rintro e wF ⟨rfl, hbF⟩))
  all_goals go_wp2
  all_goals go_ret
  all_goals exact ⟨rfl, bx_b (by assumption)⟩
end Go.Proofs.Ytpannhbmelcpfab
