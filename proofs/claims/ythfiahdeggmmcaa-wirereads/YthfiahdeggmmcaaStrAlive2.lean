/-
  The document's examples of layer 4: alive.
-/
import Derived.Test.YthfiahdeggmmcaaStrAlive
namespace Go.Proofs.Ythfiahdeggmmcaa
open Go.RowKit Go.Shelf
set_option linter.unusedVariables false
theorem lit_new {W : World} {g : Nat} {o : Obj} (h : g = W.heap.size) : (W.alloc o).heap[g]? = some o := by subst h; exact heap_alloc_new W o
theorem lit_old {W : World} {g : Nat} {o o' : Obj} (h : g = W.heap.size) : ((W.alloc o).alloc o').heap[g]? = some o := by
  subst h; exact (Below.heap_alloc _ _ _ (by simp)).trans (heap_alloc_new W o)
theorem l_zero0 (W : World) (g : Nat) (h : W.heap[g]? = some (.cells #[.int .u8 0, .int .u8 0] 5 (0, 0))) : Calls Try.prog 38 #[.slice (some ⟨g, 0, none⟩) 2 2] W (SameV (.bool true) W) :=
  zero_any _ 2 2 [0, 0] W (lit_bat (l := [0, 0]) h (ok_lit rfl) (by decide))
theorem l_zero1 (W : World) (g : Nat) (h : W.heap[g]? = some (.cells #[.int .u8 0, .int .u8 1] 5 (0, 0))) : Calls Try.prog 38 #[.slice (some ⟨g, 0, none⟩) 2 2] W (SameV (.bool false) W) :=
  zero_any _ 2 2 [0, 1] W (lit_bat (l := [0, 1]) h (ok_lit rfl) (by decide))
theorem l_gap1 (W : World) (g g' : Nat) (h : W.heap[g]? = some (.cells #[.int .u8 1, .int .u8 2] 5 (0, 0))) (h' : W.heap[g']? = some (.cells #[.int .u8 1] 5 (0, 0))) : Calls Try.prog 36 #[.slice (some ⟨g, 0, none⟩) 2 2, .slice (some ⟨g', 0, none⟩) 1 1] W (SameV (.int .i64 1) W) :=
  gap_any _ _ 2 1 2 1 [1, 2] [1] W (lit_bat (l := [1, 2]) h (ok_lit rfl) (by decide)) (lit_bat (l := [1]) h' (ok_lit rfl) (by decide))
theorem l_gap2 (W : World) (g g' : Nat) (h : W.heap[g]? = some (.cells #[.int .u8 1, .int .u8 0] 5 (0, 0))) (h' : W.heap[g']? = some (.cells #[.int .u8 1] 5 (0, 0))) : Calls Try.prog 36 #[.slice (some ⟨g, 0, none⟩) 2 2, .slice (some ⟨g', 0, none⟩) 1 1] W (SameV (.int .i64 (-1)) W) :=
  gap_any _ _ 2 1 2 1 [1, 0] [1] W (lit_bat (l := [1, 0]) h (ok_lit rfl) (by decide)) (lit_bat (l := [1]) h' (ok_lit rfl) (by decide))
theorem l_xor (W : World) (g g' : Nat) (h : W.heap[g]? = some (.cells #[.int .u8 1, .int .u8 2] 5 (0, 0))) (h' : W.heap[g']? = some (.cells #[.int .u8 3] 5 (0, 0))) : Calls Try.prog 34 #[.slice (some ⟨g, 0, none⟩) 2 2, .slice (some ⟨g', 0, none⟩) 1 1] W (NewB 2 [2, 2] W) :=
  xor_any _ _ 2 1 2 1 [1, 2] [3] W (lit_bat (l := [1, 2]) h (ok_lit rfl) (by decide)) (lit_bat (l := [3]) h' (ok_lit rfl) (by decide)) (by decide) (by decide)
theorem l_fit (W : World) (g : Nat) (h : W.heap[g]? = some (.cells #[.int .u8 7] 5 (0, 0))) : Calls Try.prog 39 #[.slice (some ⟨g, 0, none⟩) 1 1, .int .i64 2] W (NewB 2 [7, 0] W) :=
  fit_any _ 1 1 [7] 2 W (lit_bat (l := [7]) h (ok_lit rfl) (by decide)) (by decide) (by decide)
theorem l_all (W : World) : Calls Try.prog 30 #[.slice none 0 0] W (NewB 0 [] W) :=
  all_any none 0 0 [] W ⟨rfl, 0, 0, fun _ => none, fun _ => 0, fun _ => 0, fun k hk => by omega⟩ (by decide)
theorem l_add1 (W : World) (s g : Nat) (hs : SumAt W s s none 0 0 [] 0) (h : W.heap[g]? = some (.cells #[.int .u8 1, .int .u8 2] 5 (0, 0))) (hne : g ≠ s) : Calls Try.prog 28 #[.pointer (some ⟨s, 0, none⟩), .slice (some ⟨g, 0, none⟩) 2 2] W (AddPost s s [1, 2] 2 1 W none) :=
  add_any s s none 0 0 [] 0 _ 2 2 [1, 2] W hs (lit_bat (l := [1, 2]) h (ok_lit rfl) (by decide)) (fun _ x hx => by cases hx; exact ⟨hne, by simp⟩) (by decide) (by decide) (by decide) (by have := hs.lt; omega)
theorem l_add2 (W : World) (s g : Nat) (a : Option Addr) (c : Nat) (hs : SumAt W s s a 2 c [1, 2] 1) (h : W.heap[g]? = some (.cells #[.int .u8 3] 5 (0, 0))) (hne : g ≠ s) (hna : ∀ x, a = some x → x.block ≠ g) : Calls Try.prog 28 #[.pointer (some ⟨s, 0, none⟩), .slice (some ⟨g, 0, none⟩) 1 1] W (AddPost s s [2, 2] 2 2 W (a.map (·.block))) :=
  add_any s s a 2 c [1, 2] 1 _ 1 1 [3] W hs (lit_bat (l := [3]) h (ok_lit rfl) (by decide)) (fun _ x hx => by
    cases hx
    refine ⟨hne, fun e => ?_⟩
    cases a with
    | none => cases e
    | some y => exact hna y rfl (by simpa using e.symm)) (by decide) (by decide) (by decide) (by have := hs.lt; omega)
theorem grown_below {W W' : World} (h : Below W.heap.size W W') (r : Option Nat) : W.grownBy W' r := ⟨h.os, h.tape, h.output, h.size, fun k hk _ => h.block k hk⟩
theorem SumAt.below {W W' : World} {s base : Nat} {a : Option Addr} {n c : Nat} {l : List Int} {cnt : Int} (h : SumAt W s base a n c l cnt) (hb : Below W.heap.size W W') : SumAt W' s base a n c l cnt := h.keep (grown_below hb none) (by simp) (by simp)
/-- What stands while the examples are gone through. -/
def AlSt (w : World) (a : Option Addr) (c : Nat) (a6 : Option Addr) (W : World) : Prop := SumAt W w.heap.size w.heap.size a 2 c [2, 2] 2 ∧ BAt W a6 2 [2, 2] ∧ Below w.heap.size w W
theorem AlSt.below {w : World} {a : Option Addr} {c : Nat} {a6 : Option Addr} {W W' : World} (h : AlSt w a c a6 W) (hb : Below W.heap.size W W') : AlSt w a c a6 W' :=
  ⟨h.1.below hb, h.2.1.below hb, h.2.2.trans (hb.mono (by have := h.2.2.size; omega))⟩
theorem AlSt.alloc {w : World} {a : Option Addr} {c : Nat} {a6 : Option Addr} {W : World} (h : AlSt w a c a6 W) (o : Obj) : AlSt w a c a6 (W.alloc o) := h.below ((Below.refl _ W).alloc (Nat.le_refl _) o)
set_option maxHeartbeats 2000000 in
set_option maxRecDepth 100000 in
theorem alive_any (w : World) : Calls Try.prog 25 #[] w (TrueBelow w) := by
  go_enter Try.func25, Try.ntmps25
  go_wp2_with fail
  refine (l_add1 _ w.heap.size (w.heap.size + 1) ⟨lit_old rfl, ⟨World.ownsRow_nil _ _ _ _, Str.ok_nil⟩, fun x hx => by cases hx⟩ (lit_new (by simp)) (by omega)).mono ?_
  rintro e w3 ⟨rfl, a1, c1, hS1, hK1, hL1⟩
  have hB1 : Below w.heap.size w w3 := (((Below.refl _ w).alloc (Nat.le_refl _) _).alloc (by simp) _).trans (hK1.below (Nat.le_refl _) (fun x e => by cases e) (by simp; omega))
  have HS1 := Lib.hid hS1; have HB1 := Lib.hid hB1; clear hS1 hB1 hK1 hL1
  go_wp2_with fail
  have hS1 := HS1.out.below ((Below.refl _ w3).alloc (Nat.le_refl _) (.cells #[.int .u8 3] 5))
  have hlt1 := HS1.out.lt
  refine (l_add2 _ w.heap.size w3.heap.size a1 c1 hS1 (lit_new rfl) (by omega) (fun x hx => by have := (HS1.out.own.blk x hx).2; omega)).mono ?_
  rintro e w5 ⟨rfl, a2, c2, hS2, hK2, hL2⟩
  have hB2 : Below w.heap.size w w5 := (HB1.out.alloc (by omega) _).trans (hK2.below (Nat.le_refl _) (fun x e => by
    cases a1 with
    | none => cases e
    | some y => have := (HS1.out.own.blk y rfl).1; simp at e; omega) (by simp; omega))
  have HS2 := Lib.hid hS2; have HB2 := Lib.hid hB2; clear hS2 hB2 hK2 hL2 hS1 HS1 HB1 hlt1
  go_wp2_with fail
  refine (fold_alive _).mono ?_
  rintro e w6 ⟨a6, c6, rfl, hO6, hB6⟩
  have hst : AlSt w a2 c2 a6 w6 := ⟨HS2.out.below hB6, hO6.bat, HB2.out.trans (hB6.mono (by have := HB2.out.size; omega))⟩
  have HST := Lib.hid hst; clear hst hO6 hB6 HS2 HB2
  have hc6 := str_of w6 a6 2 c6 [2, 2] HST.out.2.1
  go_wp2_with fail
  refine (l_xor _ w6.heap.size (w6.heap.size + 1) (lit_old rfl) (lit_new (by simp))).mono ?_
  rintro e w7 ⟨a7, c7, rfl, hO7, hB7⟩
  have hc7 : (convert 22 9 (.slice a7 2 c7)).run Try.prog w7 = .ok (.string { data := #[2, 2] }) w7 := str_of w7 a7 2 c7 [2, 2] hO7.bat
  have HS7 := Lib.hid (((HST.out.alloc _).alloc _).below hB7); clear hO7 hB7 HST hc6
  go_wp2_with fail
  refine (bytes_any w.heap.size w.heap.size a2 2 c2 [2, 2] 2 w7 HS7.out.1 (by decide)).mono ?_
  rintro e w8 ⟨a8, c8, rfl, hO8, hB8⟩
  have hc8 : (convert 22 9 (.slice a8 2 c8)).run Try.prog w8 = .ok (.string { data := #[2, 2] }) w8 := str_of w8 a8 2 c8 [2, 2] hO8.bat
  have HS8 := Lib.hid (HS7.out.below hB8); clear hO8 hB8 HS7 hc7
  go_wp2_with fail
  refine (count_any w.heap.size w.heap.size a2 2 c2 [2, 2] 2 w8 HS8.out.1).mono ?_
  rintro e w8' ⟨rfl, rfl⟩
  clear hc8
  go_wp2_with fail
  refine (longest_any w.heap.size w.heap.size a2 2 c2 [2, 2] 2 w8 HS8.out.1).mono ?_
  rintro e w8' ⟨rfl, rfl⟩
  have hc8 : (convert 22 9 (.slice a6 2 c6)).run Try.prog w8 = .ok (.string { data := #[2, 2] }) w8 := str_of w8 a6 2 c6 [2, 2] HS8.out.2.1
  go_wp2_with fail
  refine (l_fit _ w8.heap.size (lit_new rfl)).mono ?_
  rintro e w9 ⟨a9, c9, rfl, hO9, hB9⟩
  have hc9 : (convert 22 9 (.slice a9 2 c9)).run Try.prog w9 = .ok (.string { data := #[7, 0] }) w9 := str_of w9 a9 2 c9 [7, 0] hO9.bat
  have HS9 := Lib.hid ((HS8.out.alloc _).below hB9); clear hO9 hB9 HS8 hc8
  go_wp2_with fail
  refine (l_all _).mono ?_
  rintro e w10 ⟨a10, c10, rfl, hO10, hB10⟩
  have HS10 := Lib.hid (HS9.out.below hB10); clear hO10 hB10 HS9 hc9
  go_wp2_with fail
  refine (l_zero0 _ w10.heap.size (lit_new rfl)).mono ?_
  rintro e w11 ⟨rfl, rfl⟩
  go_wp2_with fail
  refine (l_zero1 _ (w10.heap.size + 1) (lit_new (by simp))).mono ?_
  rintro e w12 ⟨rfl, rfl⟩
  go_wp2_with fail
  refine (l_gap1 _ (w10.heap.size + 1 + 1) (w10.heap.size + 1 + 1 + 1) (lit_old (by simp)) (lit_new (by simp))).mono ?_
  rintro e w13 ⟨rfl, rfl⟩
  go_wp2_with fail
  refine (l_gap2 _ (w10.heap.size + 1 + 1 + 1 + 1) (w10.heap.size + 1 + 1 + 1 + 1 + 1) (lit_old (by simp)) (lit_new (by simp))).mono ?_
  rintro e w14 ⟨rfl, rfl⟩
  go_wp2
  go_ret
  exact ⟨rfl, ((((((HS10.out.alloc _).alloc _).alloc _).alloc _).alloc _).alloc _).2.2⟩
end Go.Proofs.Ythfiahdeggmmcaa
