
/-
  report.Stats: its state, and the contracts of the methods that read it.
-/
import Derived.Test.YtpannhbmelcpfabWide
import Derived.Laws.Rows
import Derived.Deep.RegionHeld3
namespace Go.Proofs.Ytpannhbmelcpfab
open Go.RowKit
set_option linter.unusedVariables false
/-- Block b holds a Stats: the highest number, the first one, how many came, the sum, the last timestamp and time, what was expected and had come by the last report. -/
def Sta (b : Nat) (h f r s t n e c : Int) (w : World) : Prop :=
  w.heap[b]? = some (.cells #[.int .i64 h, .int .i64 f, .int .i64 r, .int .i64 s, .int .u32 t, .int .i64 n, .int .i64 e, .int .i64 c] 66 (0, 0))
section
variable {b : Nat} {h f r s t n e c : Int} {w : World}
theorem Sta.c0 (H : Sta b h f r s t n e c w) : w.cell? ⟨b, 0, none⟩ = some (.int .i64 h) := by rw [cell_of_row w b 0 _ _ _ H]; rfl
theorem Sta.c1 (H : Sta b h f r s t n e c w) : w.cell? ⟨b, 1, none⟩ = some (.int .i64 f) := by rw [cell_of_row w b 1 _ _ _ H]; rfl
theorem Sta.c2 (H : Sta b h f r s t n e c w) : w.cell? ⟨b, 2, none⟩ = some (.int .i64 r) := by rw [cell_of_row w b 2 _ _ _ H]; rfl
theorem Sta.c3 (H : Sta b h f r s t n e c w) : w.cell? ⟨b, 3, none⟩ = some (.int .i64 s) := by rw [cell_of_row w b 3 _ _ _ H]; rfl
theorem Sta.c4 (H : Sta b h f r s t n e c w) : w.cell? ⟨b, 4, none⟩ = some (.int .u32 t) := by rw [cell_of_row w b 4 _ _ _ H]; rfl
theorem Sta.c5 (H : Sta b h f r s t n e c w) : w.cell? ⟨b, 5, none⟩ = some (.int .i64 n) := by rw [cell_of_row w b 5 _ _ _ H]; rfl
theorem Sta.c6 (H : Sta b h f r s t n e c w) : w.cell? ⟨b, 6, none⟩ = some (.int .i64 e) := by rw [cell_of_row w b 6 _ _ _ H]; rfl
theorem Sta.c7 (H : Sta b h f r s t n e c w) : w.cell? ⟨b, 7, none⟩ = some (.int .i64 c) := by rw [cell_of_row w b 7 _ _ _ H]; rfl
theorem Sta.fro (H : Sta b h f r s t n e c w) (i : Nat) : w.frozen? ⟨b, i, none⟩ = false := frozen_of_row w b i _ _ H
theorem Sta.lt (H : Sta b h f r s t n e c w) : b < w.heap.size := (Array.getElem?_eq_some_iff.1 H).1
theorem Sta.below {w' : World} (H : Sta b h f r s t n e c w) (hb : Below w.heap.size w w') : Sta b h f r s t n e c w' := (hb.block b H.lt).trans H
theorem Sta.drawn (H : Sta b h f r s t n e c w) (k : Nat) : Sta b h f r s t n e c (w.drewN k) := H
theorem Sta.other {w' : World} {row : Option Nat} (H : Sta b h f r s t n e c w) (g : w.grownBy w' row) (hne : some b ≠ row) : Sta b h f r s t n e c w' := (g.block b H.lt hne).trans H
end
section
variable {b : Nat} {h f r s t n e c : Int} {w : World}
theorem Sta.s0 (H : Sta b h f r s t n e c w) (x : Int) : Sta b x f r s t n e c (w.setCell ⟨b, 0, none⟩ (.int .i64 x)) := heap_setCell_same w b 0 _ _ _ H
theorem Sta.s1 (H : Sta b h f r s t n e c w) (x : Int) : Sta b h x r s t n e c (w.setCell ⟨b, 1, none⟩ (.int .i64 x)) := heap_setCell_same w b 1 _ _ _ H
theorem Sta.s2 (H : Sta b h f r s t n e c w) (x : Int) : Sta b h f x s t n e c (w.setCell ⟨b, 2, none⟩ (.int .i64 x)) := heap_setCell_same w b 2 _ _ _ H
theorem Sta.s3 (H : Sta b h f r s t n e c w) (x : Int) : Sta b h f r x t n e c (w.setCell ⟨b, 3, none⟩ (.int .i64 x)) := heap_setCell_same w b 3 _ _ _ H
theorem Sta.s4 (H : Sta b h f r s t n e c w) (x : Int) : Sta b h f r s x n e c (w.setCell ⟨b, 4, none⟩ (.int .u32 x)) := heap_setCell_same w b 4 _ _ _ H
theorem Sta.s5 (H : Sta b h f r s t n e c w) (x : Int) : Sta b h f r s t x e c (w.setCell ⟨b, 5, none⟩ (.int .i64 x)) := heap_setCell_same w b 5 _ _ _ H
theorem Sta.s6 (H : Sta b h f r s t n e c w) (x : Int) : Sta b h f r s t n x c (w.setCell ⟨b, 6, none⟩ (.int .i64 x)) := heap_setCell_same w b 6 _ _ _ H
theorem Sta.s7 (H : Sta b h f r s t n e c w) (x : Int) : Sta b h f r s t n e x (w.setCell ⟨b, 7, none⟩ (.int .i64 x)) := heap_setCell_same w b 7 _ _ _ H
end
theorem i64w_in (n : Int) (h : -9223372036854775808 ≤ n) (h' : n ≤ 9223372036854775807) : IntKind.i64.wrap n = n := by
  simp [IntKind.wrap, IntKind.bits, IntKind.signed]; split <;> omega
def Rep.exp (h f r : Int) : Int := if r = 0 then 0 else h - f + 1
def Rep.clampL (x : Int) : Int := min (max x (-8388608)) 8388607
def Rep.lost (h f r : Int) : Int := Rep.clampL (Rep.exp h f r - r)
def Rep.jit (s : Int) : Int := min (s / 16) 4294967295
def Rep.frac (E R : Int) : Int := if E ≤ 0 then 0 else min (max ((E - R) * 256 |>.tdiv E) 0) 255
def Rep.next (s l : Int) : Int := min (s + max l (-l) - (s + 8) / 16) 1125899906842624
theorem next_any (s l : Int) (w : World) (hs : 0 ≤ s) (hs' : s ≤ 1125899906842624) (hl : -4398046511104 ≤ l) (hl' : l ≤ 4398046511104) :
    Calls Try.prog 57 #[.int .i64 s, .int .i64 l] w fun e w' => e = .returned (.int .i64 (Rep.next s l)) ∧ w = w' := by
  have ht : (s + 8).tdiv 16 = (s + 8) / 16 := Int.tdiv_eq_ediv_of_nonneg (by omega)
  go_enter Try.func57, Try.ntmps57
  go_wp2
  all_goals go_ret
  all_goals (refine ⟨ret_int ?_, rfl⟩; unfold Rep.next; omega)
theorem received_any (b : Nat) (h f r s t n e c : Int) (w : World) (H : Sta b h f r s t n e c w) :
    Calls Try.prog 46 #[.pointer (some ⟨b, 0, none⟩)] w fun e w' => e = .returned (.int .i64 r) ∧ w = w' := by
  have c2 := H.c2
  go_enter Try.func46, Try.ntmps46
  go_wp2
  go_ret
  exact ⟨rfl, rfl⟩
theorem rhighest_any (b : Nat) (h f r s t n e c : Int) (w : World) (H : Sta b h f r s t n e c w) :
    Calls Try.prog 49 #[.pointer (some ⟨b, 0, none⟩)] w fun e w' => e = .returned (.int .u32 (h % 4294967296)) ∧ w = w' := by
  have c0 := H.c0
  go_enter Try.func49, Try.ntmps49
  go_wp2_with (go_at_call 87; refine (highest_any _ _ _ c0).mono ?_; rintro e w' ⟨rfl, rfl⟩)
  go_ret
  exact ⟨ret_int (by first | rfl | rw [u32w] | omega), rfl⟩
theorem expected_any (b : Nat) (h f r s t n e c : Int) (w : World) (H : Sta b h f r s t n e c w) (hh : 0 ≤ h ∧ h ≤ 2305843009213726720) (hf : 0 ≤ f ∧ f ≤ 2305843009213726720) :
    Calls Try.prog 47 #[.pointer (some ⟨b, 0, none⟩)] w (Drawn (.int .i64 (Rep.exp h f r)) w) := by
  have c0 := H.c0; have c1 := H.c1; have c2 := H.c2
  obtain ⟨h1, h2⟩ := hh
  obtain ⟨f1, f2⟩ := hf
  by_cases hr : r = 0
  · have hr' : (r == 0) = true := by simpa using hr
    go_enter Try.func47, Try.ntmps47
    go_wp2
    go_ret
    exact ⟨ret_int (by simp [Rep.exp, hr]), 0, rfl⟩
  · have hr' : (r == 0) = false := by simpa using hr
    go_enter Try.func47, Try.ntmps47
    go_wp2_with fail
    go_region_held3 (fun W => W.cell? ⟨b, 0, none⟩ = some (.int .i64 h) ∧ W.cell? ⟨b, 1, none⟩ = some (.int .i64 f)) (first | (simp [go_sem, *]; done) | (simp [go_sem]; done))
      (first | (go_at_call 87; refine (highest_any b h _ (by simpa [go_sem] using c0)).mono ?_; rintro e w' ⟨rfl, rfl⟩))
    go_wp2
    go_ret
    exact ⟨ret_int (by rw [Rep.exp, if_neg hr, i64w_in (h - f) (by omega) (by omega), i64w_in _ (by omega) (by omega)]), _, rfl⟩
end Go.Proofs.Ytpannhbmelcpfab
