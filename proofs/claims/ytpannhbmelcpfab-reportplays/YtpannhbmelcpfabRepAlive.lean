
/-
  confluxlaw08.alive.
-/
import Derived.Test.YtpannhbmelcpfabRepIn
namespace Go.Proofs.Ytpannhbmelcpfab
open Go.RowKit
set_option linter.unusedVariables false
/-- The law's own Stats, and what is below it. -/
structure Kp (w : World) (b : Nat) (x : Rs) (W : World) : Prop where
  hold : Hold b x W
  bel : Below w.heap.size w W
  le : w.heap.size ≤ b
theorem Kp.new {w W : World} (h : Below w.heap.size w W) : Kp w W.heap.size Rs.zero (W.alloc (.cells #[.int .i64 0, .int .i64 0, .int .i64 0, .int .i64 0, .int .u32 0, .int .i64 0, .int .i64 0, .int .i64 0] 66)) :=
  ⟨Hold.alloc W, h.alloc h.size _, h.size⟩
theorem Kp.grown {w W W' : World} {b : Nat} {x y : Rs} (h : Kp w b x W) (h1 : Hold b y W') (h2 : W.grownBy W' (some b)) : Kp w b y W' :=
  ⟨h1, h.bel.grown h2 h.bel.size (fun k e => by injection e with e; have := h.le; omega), h.le⟩
theorem Kp.drawn {w W : World} {b : Nat} {x : Rs} (h : Kp w b x W) (k : Nat) : Kp w b x (W.drewN k) :=
  ⟨h.hold.drawn k, h.bel.grown (grownBy_drewN _ _ none) h.bel.size (fun k e => by cases e), h.le⟩
/-- A second one is not touched. -/
theorem Kp.other {w W W' : World} {b c : Nat} {x : Rs} (h : Kp w b x W) (h2 : W.grownBy W' (some c)) (hc : w.heap.size ≤ c) (hne : b ≠ c) : Kp w b x W' :=
  ⟨h.hold.other h2 (by intro e; injection e with e; exact hne e), h.bel.grown h2 h.bel.size (fun k e => by injection e with e; omega), h.le⟩
theorem Kp.new2 {w W W' : World} {b : Nat} {x : Rs} (h : Kp w b x W) (h2 : W.grownBy W' none) : Kp w b x W' :=
  ⟨h.hold.other h2 (by intro e; cases e), h.bel.grown h2 h.bel.size (fun k e => by cases e), h.le⟩
def Al.x1 : Rs := ⟨4295032830, 4295032830, 1, 0, 0, 0, 0, 0⟩
def Al.x2 : Rs := ⟨4295032831, 4295032830, 2, 160, 0, 160, 0, 0⟩
def Al.x3 : Rs := ⟨4295032833, 4295032830, 3, 150, 0, 160, 0, 0⟩
theorem Al.e1 : Rs.zero.note 65534 0 0 = Al.x1 := by kernel_rfl
theorem Al.e2 : Al.x1.note 65535 0 160 = Al.x2 := by kernel_rfl
theorem Al.e3 : Al.x2.note 1 0 160 = Al.x3 := by kernel_rfl
theorem Al.ok1 : Al.x1.Ok := Al.e1 ▸ Rs.zero_ok.note 65534 0 0 (by decide) (by decide) (by decide)
theorem Al.ok2 : Al.x2.Ok := Al.e2 ▸ Al.ok1.note 65535 0 160 (by decide) (by decide) (by decide)
theorem Al.ok3 : Al.x3.Ok := Al.e3 ▸ Al.ok2.note 1 0 160 (by decide) (by decide) (by decide)
set_option maxHeartbeats 400000 in
theorem alive8_any (w : World) : Calls Try.prog 21 #[] w (TrueBelow w) := by
  have N1 : Hid (∀ W, Kp w w.heap.size Rs.zero W → Calls Try.prog 24 #[.pointer (some ⟨w.heap.size, 0, none⟩), .int .u16 65534, .int .u32 0, .int .i64 0] W fun e W' => e = .returned (.tuple #[]) ∧ Kp w w.heap.size Al.x1 W') := Lib.hid fun W hW =>
    (note_ok _ _ 65534 0 0 W hW.hold Rs.zero_ok (by decide) (by decide) (by decide)).mono fun e W' ⟨h1, h2, h3⟩ => ⟨h1, hW.grown (Al.e1 ▸ h2) h3⟩
  have N2 : Hid (∀ W, Kp w w.heap.size Al.x1 W → Calls Try.prog 24 #[.pointer (some ⟨w.heap.size, 0, none⟩), .int .u16 65535, .int .u32 0, .int .i64 160] W fun e W' => e = .returned (.tuple #[]) ∧ Kp w w.heap.size Al.x2 W') := Lib.hid fun W hW =>
    (note_ok _ _ 65535 0 160 W hW.hold Al.ok1 (by decide) (by decide) (by decide)).mono fun e W' ⟨h1, h2, h3⟩ => ⟨h1, hW.grown (Al.e2 ▸ h2) h3⟩
  have N3 : Hid (∀ W, Kp w w.heap.size Al.x2 W → Calls Try.prog 24 #[.pointer (some ⟨w.heap.size, 0, none⟩), .int .u16 1, .int .u32 0, .int .i64 160] W fun e W' => e = .returned (.tuple #[]) ∧ Kp w w.heap.size Al.x3 W') := Lib.hid fun W hW =>
    (note_ok _ _ 1 0 160 W hW.hold Al.ok2 (by decide) (by decide) (by decide)).mono fun e W' ⟨h1, h2, h3⟩ => ⟨h1, hW.grown (Al.e3 ▸ h2) h3⟩
  have K0 := Lib.hid (Kp.new (Below.refl w.heap.size w))
  go_enter Try.func21, Try.ntmps21
  go_wp2_with fail
  refine (N1.out _ K0.out).mono ?_
  rintro e w1 ⟨rfl, h1⟩
  have K1 := Lib.hid h1; clear h1 K0 N1
  go_wp2_with fail
  refine (N2.out _ K1.out).mono ?_
  rintro e w2 ⟨rfl, h2⟩
  have K2 := Lib.hid h2; clear h2 K1 N2
  go_wp2_with fail
  refine (N3.out _ K2.out).mono ?_
  rintro e w3 ⟨rfl, h3⟩
  have K3 := Lib.hid h3; clear h3 K2 N3
  go_wp2_with fail
  refine (clone_ok _ Al.x3 _ K3.out.hold).mono ?_
  rintro e w4 ⟨rfl, h4, g4⟩
  have K4 := Lib.hid (K3.out.new2 g4)
  have C4 : Hid (Kp w w3.heap.size Al.x3 w4) := Lib.hid ⟨h4, K4.out.bel, K3.out.bel.size⟩
  have hlt : w.heap.size < w3.heap.size := K3.out.hold.lt
  clear h4 g4 K3
  go_wp2_with fail
  refine (fraction_ok _ Al.x3 _ K4.out.hold Al.ok3).mono ?_
  rintro e w5 ⟨rfl, k5, rfl⟩
  rw [show Al.x3.frac = 64 from by kernel_rfl]
  go_wp2_with fail
  refine (report_ok _ Al.x3 9 _ (K4.out.drawn k5).hold Al.ok3).mono ?_
  rintro e w6 ⟨rfl, h6, g6⟩
  have K6 := Lib.hid ((K4.out.drawn k5).grown h6 g6)
  have C6 := Lib.hid ((C4.out.drawn k5).other g6 (Nat.le_refl _) (by omega))
  rw [show Al.x3.frac = 64 from by kernel_rfl, show Al.x3.lost = 1 from by kernel_rfl, show Al.x3.h % 4294967296 = 65537 from by kernel_rfl, show Rep.jit Al.x3.s = 9 from by kernel_rfl]
  clear h6 g6 K4 C4
  go_wp2_with fail
  generalize hw7 : w6.alloc (.cells #[.int .u32 9, .int .i64 64, .int .i32 1, .int .u32 65537, .int .u32 9, .int .u32 0, .int .u32 0] 53) = w7
  have K7 : Hid (Kp w w.heap.size Al.x3.told w7) := Lib.hid (hw7 ▸ K6.out.new2 (gb_alloc _ _ _))
  have C7 : Hid (Kp w w3.heap.size Al.x3 w7) := Lib.hid (hw7 ▸ C6.out.new2 (gb_alloc _ _ _))
  have hrow : w7.heap[w6.heap.size]? = some (.cells #[.int .u32 9, .int .i64 64, .int .i32 1, .int .u32 65537, .int .u32 9, .int .u32 0, .int .u32 0] 53 (0, 0)) := hw7 ▸ heap_new _ _
  have r0 := cell_of_row w7 _ 0 _ _ _ hrow; have r1 := cell_of_row w7 _ 1 _ _ _ hrow; have r2 := cell_of_row w7 _ 2 _ _ _ hrow; have r3 := cell_of_row w7 _ 3 _ _ _ hrow
  simp only [List.getElem?_toArray, List.getElem?_cons_zero, List.getElem?_cons_succ] at r0 r1 r2 r3
  clear hrow hw7 K6 C6
  have ok := Al.ok3.told
  have RC : Hid (∀ W, Kp w w.heap.size Al.x3.told W → Calls Try.prog 46 #[.pointer (some ⟨w.heap.size, 0, none⟩)] W fun e W' => e = .returned (.int .i64 3) ∧ W = W') := Lib.hid fun W hW => received_ok _ _ W hW.hold ok
  have RE : Hid (∀ W, Kp w w.heap.size Al.x3.told W → Calls Try.prog 47 #[.pointer (some ⟨w.heap.size, 0, none⟩)] W (Drawn (.int .i64 4) W)) := Lib.hid fun W hW => (show Al.x3.told.exp = 4 from by kernel_rfl) ▸ expected_ok _ _ W hW.hold ok
  have RL : Hid (∀ W, Kp w w.heap.size Al.x3.told W → Calls Try.prog 48 #[.pointer (some ⟨w.heap.size, 0, none⟩)] W (Drawn (.int .i32 1) W)) := Lib.hid fun W hW => (show Al.x3.told.lost = 1 from by kernel_rfl) ▸ lost_ok _ _ W hW.hold ok
  have RF : Hid (∀ W, Kp w w.heap.size Al.x3.told W → Calls Try.prog 45 #[.pointer (some ⟨w.heap.size, 0, none⟩)] W (Drawn (.int .i64 0) W)) := Lib.hid fun W hW => (show Al.x3.told.frac = 0 from by kernel_rfl) ▸ fraction_ok _ _ W hW.hold ok
  have RH : Hid (∀ W, Kp w w.heap.size Al.x3.told W → Calls Try.prog 49 #[.pointer (some ⟨w.heap.size, 0, none⟩)] W fun e W' => e = .returned (.int .u32 65537) ∧ W = W') := Lib.hid fun W hW => highest_ok _ _ W hW.hold ok
  have RJ : Hid (∀ W, Kp w w.heap.size Al.x3.told W → Calls Try.prog 50 #[.pointer (some ⟨w.heap.size, 0, none⟩)] W fun e W' => e = .returned (.int .u32 9) ∧ W = W') := Lib.hid fun W hW => jitter_ok _ _ W hW.hold ok
  have CF : Hid (∀ W, Kp w w3.heap.size Al.x3 W → Calls Try.prog 45 #[.pointer (some ⟨w3.heap.size, 0, none⟩)] W (Drawn (.int .i64 64) W)) := Lib.hid fun W hW => (show Al.x3.frac = 64 from by kernel_rfl) ▸ fraction_ok _ _ W hW.hold Al.ok3
  refine (RC.out _ K7.out).mono ?_
  rintro e _ ⟨rfl, rfl⟩
  go_wp2_with fail
  refine (RE.out _ K7.out).mono ?_
  rintro e _ ⟨rfl, k8, rfl⟩
  go_wp2_with fail
  refine (RL.out _ (K7.out.drawn _)).mono ?_
  rintro e _ ⟨rfl, k9, rfl⟩
  go_wp2_with fail
  refine (RH.out _ (K7.out.drawn _)).mono ?_
  rintro e _ ⟨rfl, rfl⟩
  go_wp2_with fail
  refine (RJ.out _ (K7.out.drawn _)).mono ?_
  rintro e _ ⟨rfl, rfl⟩
  go_wp2_with fail
  refine (RF.out _ (K7.out.drawn _)).mono ?_
  rintro e _ ⟨rfl, k10, rfl⟩
  go_wp2_with fail
  refine (CF.out _ (C7.out.drawn _)).mono ?_
  rintro e _ ⟨rfl, k11, rfl⟩
  go_wp2
  go_ret
  exact ⟨rfl, (K7.out.drawn _).bel⟩
end Go.Proofs.Ytpannhbmelcpfab
