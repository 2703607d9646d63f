
/-
  report.Stats: Clone and Report.
-/
import Derived.Test.YtpannhbmelcpfabRep3
import Derived.Deep.RegionLaw
namespace Go.Proofs.Ytpannhbmelcpfab
open Go.RowKit
set_option linter.unusedVariables false
theorem gb_alloc (w : World) (o : Obj) (row : Option Nat) : w.grownBy (w.alloc o) row :=
  ⟨rfl, rfl, rfl, by simp, fun i hi _ => Below.heap_alloc w _ i hi⟩
theorem held_set {w W : World} {b k i : Nat} {x : Rs} {v : Value} (h : Hold b x W ∧ w.grownBy W (some b)) (hb : b < w.heap.size) (hk : w.heap.size ≤ k) : Hold b x (W.setCell ⟨k, i, none⟩ v) ∧ w.grownBy (W.setCell ⟨k, i, none⟩ v) (some b) :=
  ⟨(Below.heap_setCell W _ _ b (by show b ≠ k; omega)).trans h.1,
   ⟨by simpa [World.setCell] using h.2.os, by simpa [World.setCell] using h.2.tape, by simpa [World.setCell] using h.2.output, by simpa using h.2.size, fun j hj hr => (Below.heap_setCell W _ _ j (by show j ≠ k; omega)).trans (h.2.block j hj hr)⟩⟩
theorem clone_ok (b : Nat) (x : Rs) (w : World) (H : Hold b x w) :
    Calls Try.prog 44 #[.pointer (some ⟨b, 0, none⟩)] w fun e w' => e = .returned (.pointer (some ⟨w.heap.size, 0, none⟩)) ∧ Hold w.heap.size x w' ∧ w.grownBy w' none := by
  obtain ⟨h, f, r, s, t, n, e, c⟩ := x
  have H' : Sta b h f r s t n e c w := H
  have c0 := H'.c0; have c1 := H'.c1; have c2 := H'.c2; have c3 := H'.c3; have c4 := H'.c4; have c5 := H'.c5; have c6 := H'.c6; have c7 := H'.c7
  go_enter Try.func44, Try.ntmps44
  go_wp2
  go_ret
  exact ⟨rfl, heap_new w _, gb_alloc _ _ _⟩
set_option maxHeartbeats 400000 in
theorem report_ok (b : Nat) (x : Rs) (ssrc : Int) (w : World) (H : Hold b x w) (ok : x.Ok) :
    Calls Try.prog 22 #[.pointer (some ⟨b, 0, none⟩), .int .u32 ssrc] w (HPost b x.told (.agg #[.int .u32 ssrc, .int .i64 x.frac, .int .i32 x.lost, .int .u32 (x.h % 4294967296), .int .u32 (Rep.jit x.s), .int .u32 0, .int .u32 0]) w) := by
  have hF : Hid (∀ W, Hold b x W → Calls Try.prog 45 #[.pointer (some ⟨b, 0, none⟩)] W (Drawn (.int .i64 x.frac) W)) := Lib.hid fun W hW => fraction_ok b x W hW ok
  have hL : Hid (∀ W, Hold b x W → Calls Try.prog 48 #[.pointer (some ⟨b, 0, none⟩)] W (Drawn (.int .i32 x.lost) W)) := Lib.hid fun W hW => lost_ok b x W hW ok
  have hH : Hid (∀ W, Hold b x W → Calls Try.prog 49 #[.pointer (some ⟨b, 0, none⟩)] W fun e w' => e = .returned (.int .u32 (x.h % 4294967296)) ∧ W = w') := Lib.hid fun W hW => highest_ok b x W hW ok
  have hJ : Hid (∀ W, Hold b x W → Calls Try.prog 50 #[.pointer (some ⟨b, 0, none⟩)] W fun e w' => e = .returned (.int .u32 (Rep.jit x.s)) ∧ W = w') := Lib.hid fun W hW => jitter_ok b x W hW ok
  have hE : Hid (∀ W, Hold b x W → Calls Try.prog 47 #[.pointer (some ⟨b, 0, none⟩)] W (Drawn (.int .i64 x.exp) W)) := Lib.hid fun W hW => expected_ok b x W hW ok
  go_enter Try.func22, Try.ntmps22
  go_wp2_with fail
  have H0 : ∀ o, Hold b x (w.alloc o) := fun o => H.below ((Below.refl _ _).alloc (Nat.le_refl _) _)
  have HH0 := Lib.hid H0; clear H0
  have hb := H.lt
  refine (hF.out _ (HH0.out _)).mono ?_
  rintro e1 w1 ⟨rfl, k1, rfl⟩
  go_wp2_with fail
  refine (hL.out _ ((HH0.out _).drawn _)).mono ?_
  rintro e1 w1 ⟨rfl, k2, rfl⟩
  go_wp2_with fail
  refine (hH.out _ ((HH0.out _).drawn _)).mono ?_
  rintro e1 w1 ⟨rfl, rfl⟩
  go_wp2_with fail
  refine (hJ.out _ ((HH0.out _).drawn _)).mono ?_
  rintro e1 w1 ⟨rfl, rfl⟩
  generalize x.frac = Fr at *
  generalize x.lost = Lo at *
  generalize Rep.jit x.s = Ji at *
  generalize x.h % 4294967296 = Hi at *
  go_wp2_with fail
  generalize hW2 : ((w.alloc (.cells #[.int .u32 0, .int .i64 0, .int .i32 0, .int .u32 0, .int .u32 0, .int .u32 0, .int .u32 0] 53)).drewN (k1 + k2)).alloc (.cells #[.int .u32 ssrc, .int .i64 Fr, .int .i32 Lo, .int .u32 Hi, .int .u32 Ji, .int .u32 0, .int .u32 0] 53) = W2
  have HN : Hid (Hold b x W2 ∧ W2.heap[w.heap.size]? = some (.cells #[.int .u32 0, .int .i64 0, .int .i32 0, .int .u32 0, .int .u32 0, .int .u32 0, .int .u32 0] 53 (0, 0)) ∧ W2.heap[w.heap.size + 1]? = some (.cells #[.int .u32 ssrc, .int .i64 Fr, .int .i32 Lo, .int .u32 Hi, .int .u32 Ji, .int .u32 0, .int .u32 0] 53 (0, 0)) ∧ w.grownBy W2 (some b)) := Lib.hid (by
    subst hW2
    have s1 : ∀ o, (w.alloc o).heap.size = w.heap.size + 1 := fun o => by simp
    refine ⟨?_, ?_, ?_, ?_⟩
    · exact ((HH0.out _).drawn _).below ((Below.refl _ _).alloc (Nat.le_refl _) _)
    · exact (Below.heap_alloc _ _ _ (by simp)).trans (heap_new w _)
    · exact heap_new ((w.alloc _).drewN (k1 + k2)) _ |> fun h => by simpa using h
    · exact gb_trans (gb_trans (gb_alloc _ _ _) (grownBy_drewN _ _ _)) (gb_alloc _ _ _))
  clear hW2 hF hL hH hJ HH0
  have HB := HN.out.1
  have c2 := Sta.c2 HB; have c6 := Sta.c6 HB; have c7 := Sta.c7 HB
  have f6 := Sta.fro HB 6; have f7 := Sta.fro HB 7
  have hEx : Hid (∀ k, Calls Try.prog 47 #[.pointer (some ⟨b, 0, none⟩)] (W2.drewN k) (Drawn (.int .i64 x.exp) (W2.drewN k))) := Lib.hid fun k => hE.out _ HN.out.1
  clear hE HB
  obtain ⟨X, hX⟩ : ∃ X, X = x.exp := ⟨_, rfl⟩
  rw [← hX] at hEx
  have HX := Lib.hid hX; clear hX
  have hE0 : Hid (Calls Try.prog 47 #[.pointer (some ⟨b, 0, none⟩)] W2.drew (Drawn (.int .i64 X) (W2.drewN 1))) := Lib.hid (hEx.out 1)
  go_region_law (first | (go_simp; go_at_call 47; refine hE0.out.mono ?_; rintro e4 w4 ⟨rfl, k4, rfl⟩))
  all_goals (
    generalize hW3 : ((W2.drewN (1 + k4)).setCell ⟨b, 6, none⟩ (.int .i64 X)).setCell ⟨b, 7, none⟩ (.int .i64 x.r) = W3
    have HT : Hid (Hold b x.told W3 ∧ w.grownBy W3 (some b)) := Lib.hid (by
      subst hW3
      refine ⟨?_, gb_trans (gb_trans (gb_trans HN.out.2.2.2 (grownBy_drewN _ _ _)) (grownBy_setOwn _ _ _ _)) (grownBy_setOwn _ _ _ _)⟩
      have := Sta.s7 (Sta.s6 (Sta.drawn HN.out.1 (1 + k4)) X) x.r
      rw [HX.out] at this ⊢
      exact this)
    have hg : W2.grownBy W3 (some b) := by subst hW3; exact gb_trans (gb_trans (grownBy_drewN _ _ _) (grownBy_setOwn _ _ _ _)) (grownBy_setOwn _ _ _ _)
    have b0 := (hg.block w.heap.size (Array.getElem?_eq_some_iff.1 HN.out.2.1).1 (by intro h; injection h with h; omega)).trans HN.out.2.1
    have b1 := (hg.block (w.heap.size + 1) (Array.getElem?_eq_some_iff.1 HN.out.2.2.1).1 (by intro h; injection h with h; omega)).trans HN.out.2.2.1
    have r0 := cell_of_row W3 _ 0 _ _ _ b1; have r1 := cell_of_row W3 _ 1 _ _ _ b1; have r2 := cell_of_row W3 _ 2 _ _ _ b1; have r3 := cell_of_row W3 _ 3 _ _ _ b1; have r4 := cell_of_row W3 _ 4 _ _ _ b1; have r5 := cell_of_row W3 _ 5 _ _ _ b1; have r6 := cell_of_row W3 _ 6 _ _ _ b1
    have o0 := cell_of_row W3 _ 0 _ _ _ b0; have o1 := cell_of_row W3 _ 1 _ _ _ b0; have o2 := cell_of_row W3 _ 2 _ _ _ b0; have o3 := cell_of_row W3 _ 3 _ _ _ b0; have o4 := cell_of_row W3 _ 4 _ _ _ b0; have o5 := cell_of_row W3 _ 5 _ _ _ b0; have o6 := cell_of_row W3 _ 6 _ _ _ b0
    have z0 := frozen_of_row W3 _ 0 _ _ b0; have z1 := frozen_of_row W3 _ 1 _ _ b0; have z2 := frozen_of_row W3 _ 2 _ _ b0; have z3 := frozen_of_row W3 _ 3 _ _ b0; have z4 := frozen_of_row W3 _ 4 _ _ b0; have z5 := frozen_of_row W3 _ 5 _ _ b0; have z6 := frozen_of_row W3 _ 6 _ _ b0
    simp only [List.getElem?_toArray, List.getElem?_cons_zero, List.getElem?_cons_succ] at r0 r1 r2 r3 r4 r5 r6 o0 o1 o2 o3 o4 o5 o6
    clear hW3 b0 b1 hg c2 c6 c7 f6 f7 hEx hE0 HN
    go_wp2
    refine bodyPost_ret (v := .agg #[.int .u32 ssrc, .int .i64 Fr, .int .i32 Lo, .int .u32 Hi, .int .u32 Ji, .int .u32 0, .int .u32 0]) (by simp [results, Try.results22, go_sem, o0, o1, o2, o3, o4, o5, o6]) rfl ⟨rfl, ?_⟩
    exact held_set (held_set (held_set (held_set (held_set (held_set (held_set HT.out hb (Nat.le_refl _)) hb (Nat.le_refl _)) hb (Nat.le_refl _)) hb (Nat.le_refl _)) hb (Nat.le_refl _)) hb (Nat.le_refl _)) hb (Nat.le_refl _))
end Go.Proofs.Ytpannhbmelcpfab
