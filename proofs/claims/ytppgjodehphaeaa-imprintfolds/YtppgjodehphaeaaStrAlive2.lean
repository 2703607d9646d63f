/-
  slices.Values over byte strings; stripe.Fold.
-/
import Derived.Test.YtppgjodehphaeaaStrSum
import Derived.Test.YtppgjodehphaeaaRelRange
import Derived.Shelf.Abstract
import Derived.Shelf.RegionOpen
import Derived.OwnWalkIn
import Derived.TacticsInMore
import Derived.LoopNIn
import Derived.LoopIn
import Derived.Laws.BytesString
namespace Go.Proofs.Ytppgjodehphaeaa
open Go.RowKit Go.Shelf
set_option linter.unusedVariables false
attribute [local go_sem] Oper.semAt_some
theorem grown_refl (w : World) (r : Option Nat) : w.grownBy w r := ⟨rfl, rfl, rfl, Nat.le_refl _, fun _ _ _ => rfl⟩
def valsPre (B : Nat) (a : Option Addr) (len c b o : Nat) (vals : Nat → Value) (W : World) : Prop :=
  W.cell? ⟨B, 0, none⟩ = some (.slice a len c) ∧ ∀ k, k < len → W.cell? ⟨b, o + k, none⟩ = some (vals k)
def valsRel (vals : Nat → Value) (k : Nat) (v : Array Value) (_ _ : World) : Prop := v = #[vals k]
/-- What Fold is told of an iterator: the k-th value is a slice whose bytes are the k-th of ls; they lie in old memory, or were just made. -/
def FoldsTo (w0 : World) (R : Nat → Array Value → World → World → Prop) (ls : List (List Int)) : Prop :=
  ∀ k v Wp W, k < ls.length → Below w0.heap.size w0 Wp → Below w0.heap.size w0 W → w0.heap.size < Wp.heap.size → R k v Wp W → ∃ a n c, v = #[.slice a n c] ∧ n ≤ 140737488355328 ∧ BAt W a n (ls.getD k []) ∧ ∀ x, 0 < n → a = some x → x.block < w0.heap.size ∨ Wp.heap.size ≤ x.block
def Str.longest (ls : List (List Int)) : Nat := (Str.all [] ls).length
end Go.Proofs.Ytppgjodehphaeaa
namespace Go.Proofs.Ytppgjodehphaeaa
open Go.RowKit Go.Shelf
set_option linter.unusedVariables false
attribute [local go_sem] Oper.semAt_some
def foldI (w : World) (B : Nat) (ls : List (List Int)) (k : Nat) (W : World) : Prop :=
  (∃ a c, SumAt W w.heap.size B a (Str.all [] (ls.take k)).length c (Str.all [] (ls.take k)) k) ∧ Below w.heap.size w W
theorem foldI.grown {w : World} {B m : Nat} {ls : List (List Int)} (hB : B = w.heap.size + 3 + m) : Stays (w.heap.size + 1) (w.heap.size + 1 + 2 + m) (foldI w B ls) := by
  rintro s A C row ⟨⟨a, c, hs⟩, hb⟩ hg hrow
  refine ⟨⟨a, c, hs.keep hg (fun e => by have := hrow _ e.symm; omega) (fun x hx e => by have := hrow _ e.symm; have := (hs.own.blk x hx).1; omega)⟩, hb.grown hg hb.size (fun k e => by have := hrow _ e; omega)⟩
/-- The slice a of len slices of bytes reads as ls. -/
structure RAt (W : World) (a : Option Addr) (len : Nat) (ls : List (List Int)) : Prop where
  count : ls.length = len
  row : ∃ b o, ∃ (av : Nat → Option Addr) (nv cv : Nat → Nat), ∀ k, k < len → a = some ⟨b, o, none⟩ ∧ b < W.heap.size ∧ W.cell? ⟨b, o + k, none⟩ = some (.slice (av k) (nv k) (cv k)) ∧ BAt W (av k) (nv k) (ls.getD k []) ∧ nv k ≤ 140737488355328
theorem RAt.below {W W' : World} {a : Option Addr} {len : Nat} {ls : List (List Int)} (h : RAt W a len ls) (hb : Below W.heap.size W W') : RAt W' a len ls := by
  obtain ⟨b, o, av, nv, cv, hr⟩ := h.row
  refine ⟨h.count, b, o, av, nv, cv, fun k hk => ?_⟩
  obtain ⟨h1, h2, h3, h4, h5⟩ := hr k hk
  exact ⟨h1, by have := hb.size; omega, (hb.cell (p := ⟨b, o + k, none⟩) h2).trans h3, h4.below hb, h5⟩
theorem BAt.lt {W : World} {a : Option Addr} {n : Nat} {l : List Int} (h : BAt W a n l) (h0 : 0 < n) (x : Addr) (hx : a = some x) : x.block < W.heap.size := by
  obtain ⟨b, o, hr⟩ := h.row
  obtain ⟨h1, h2, _⟩ := hr 0 h0
  rw [h1] at hx; cases hx; exact h2
theorem below_of_alloc {w W : World} {o : Obj} (h : Below (w.alloc o).heap.size (w.alloc o) W) : Below w.heap.size w W :=
  ((Below.refl _ w).alloc (Nat.le_refl _) o).trans (h.mono (by simp))
/-- Two slices laid side by side. -/
theorem rat_two (w : World) (a b : Option Addr) (n m c d : Nat) (la lb : List Int) (ha : BAt w a n la) (hb : BAt w b m lb) (hn : n ≤ 140737488355328) (hm : m ≤ 140737488355328) :
    RAt (w.alloc (.cells #[.slice a n c, .slice b m d] 22)) (some ⟨w.heap.size, 0, none⟩) 2 [la, lb] := by
  have hbel : Below w.heap.size w (w.alloc (.cells #[.slice a n c, .slice b m d] 22)) := (Below.refl _ w).alloc (Nat.le_refl _) _
  refine ⟨rfl, w.heap.size, 0, fun k => if k = 0 then a else b, fun k => if k = 0 then n else m, fun k => if k = 0 then c else d, fun k hk => ?_⟩
  match k, hk with
  | 0, _ => exact ⟨rfl, by simp, by simp [go_sem], ha.below hbel, hn⟩
  | 1, _ => exact ⟨rfl, by simp, by simp [go_sem], hb.below hbel, hm⟩
end Go.Proofs.Ytppgjodehphaeaa
namespace Go.Proofs.Ytppgjodehphaeaa
open Go.RowKit Go.Shelf
set_option linter.unusedVariables false
attribute [local go_sem] Oper.semAt_some
def TrueBelow (w : World) (e : Ending) (w' : World) : Prop := e = .returned (.bool true) ∧ Below w.heap.size w w'
/-- Bytes as a string's. -/
def bytesOf (l : List Int) : ByteArray := l.foldl (fun r n => r.push (UInt8.ofNat n.toNat)) ByteArray.empty
theorem str_of (W : World) (a : Option Addr) (n c : Nat) (l : List Int) (h : BAt W a n l) : (convert 22 9 (.slice a n c)).run Try.prog W = .ok (.string (bytesOf l)) W := by
  rw [run_convert_bytes_string (P := Try.prog) W 22 9 5 a n c Try.underlying22 Try.underlying5 Try.underlying9]
  cases a with
  | none =>
    have h0 : n = 0 := by
      obtain ⟨b, o, hr⟩ := h.row
      rcases Nat.eq_zero_or_pos n with h' | h'
      · exact h'
      · have := (hr 0 h').1; cases this
    subst h0
    have hl : l = [] := List.eq_nil_of_length_eq_zero h.len
    subst hl
    simp [Conv.bytesToString, Sem.run_pure]; rfl
  | some x =>
    refine run_bytesToString (P := Try.prog) W x n c l ?_
    have hfc : (Builtin.firstCells 1 n (.slice (some x) n c)).run Try.prog W = .ok (l.map (Value.int .u8)).toArray W := by
      by_cases h0 : n = 0
      · subst h0
        have hl : l = [] := List.eq_nil_of_length_eq_zero h.len
        subst hl
        exact run_firstCells_some (P := Try.prog) W 1 0 x 0 c [] (by simp) (by simp)
      · have hpos : 0 < ((l.take n).map (Value.int .u8)).length := by have := h.len; simp; omega
        obtain ⟨ad, e, hsrc⟩ := bat_src h n hpos
        cases e
        rw [List.take_of_length_le (by have := h.len; omega)] at hsrc
        exact run_firstCells_some (P := Try.prog) W 1 n x n c _ (by have := h.len; simp; omega) hsrc
    simpa [Builtin.firstCells] using hfc
/-- What a slice of bytes written out reads as. -/
theorem lit_bat {W : World} {g : Nat} {l : List Int} (h : W.heap[g]? = some (.cells (l.map (Value.int .u8)).toArray 5 (0, 0))) (hl : Str.Ok l) (hn : l.length ≤ 9223372036854775807) : BAt W (some ⟨g, 0, none⟩) l.length l := by
  refine ⟨rfl, hn, g, 0, fun i hi => ⟨rfl, (Array.getElem?_eq_some_iff.1 h).1, ?_, hl i⟩⟩
  rw [cell_of_row W g _ _ _ _ h]
  simp [List.getD_eq_getElem?_getD, List.getElem?_eq_getElem hi]
def litRel (ls : List (List Int)) (k : Nat) (v : Array Value) (Wp W : World) : Prop :=
  ∃ g, Wp.heap.size ≤ g ∧ v = #[.slice (some ⟨g, 0, none⟩) (ls.getD k []).length (ls.getD k []).length] ∧ W.heap[g]? = some (.cells ((ls.getD k []).map (Value.int .u8)).toArray 5 (0, 0))
theorem ok_lit {l : List Int} (h : l.all (fun x => decide (0 ≤ x) && decide (x < 256)) = true) : Str.Ok l := fun i => by
  by_cases hi : i < l.length
  · rw [List.getD_eq_getElem?_getD, List.getElem?_eq_getElem hi]
    have := List.all_eq_true.1 h _ (List.getElem_mem hi)
    simpa using this
  · rw [getD_out (by omega)]; omega
end Go.Proofs.Ytppgjodehphaeaa
namespace Go.Proofs.Ytppgjodehphaeaa
open Go.RowKit Go.Shelf
set_option linter.unusedVariables false
theorem lit_new {W : World} {g : Nat} {o : Obj} (h : g = W.heap.size) : (W.alloc o).heap[g]? = some o := by subst h; exact heap_alloc_new W o
theorem lit_old {W : World} {g : Nat} {o o' : Obj} (h : g = W.heap.size) : ((W.alloc o).alloc o').heap[g]? = some o := by
  subst h; exact (Below.heap_alloc _ _ _ (by simp)).trans (heap_alloc_new W o)
theorem l_gap1 (W : World) (g g' : Nat) (h : W.heap[g]? = some (.cells #[.int .u8 1, .int .u8 2] 5 (0, 0))) (h' : W.heap[g']? = some (.cells #[.int .u8 1] 5 (0, 0))) : Calls Try.prog 40 #[.slice (some ⟨g, 0, none⟩) 2 2, .slice (some ⟨g', 0, none⟩) 1 1] W (SameV (.int .i64 1) W) :=
  gap_any _ _ 2 1 2 1 [1, 2] [1] W (lit_bat (l := [1, 2]) h (ok_lit rfl) (by decide)) (lit_bat (l := [1]) h' (ok_lit rfl) (by decide))
theorem l_gap2 (W : World) (g g' : Nat) (h : W.heap[g]? = some (.cells #[.int .u8 1, .int .u8 0] 5 (0, 0))) (h' : W.heap[g']? = some (.cells #[.int .u8 1] 5 (0, 0))) : Calls Try.prog 40 #[.slice (some ⟨g, 0, none⟩) 2 2, .slice (some ⟨g', 0, none⟩) 1 1] W (SameV (.int .i64 (-1)) W) :=
  gap_any _ _ 2 1 2 1 [1, 0] [1] W (lit_bat (l := [1, 0]) h (ok_lit rfl) (by decide)) (lit_bat (l := [1]) h' (ok_lit rfl) (by decide))
theorem l_add1 (W : World) (s g : Nat) (hs : SumAt W s s none 0 0 [] 0) (h : W.heap[g]? = some (.cells #[.int .u8 1, .int .u8 2] 5 (0, 0))) (hne : g ≠ s) : Calls Try.prog 41 #[.pointer (some ⟨s, 0, none⟩), .slice (some ⟨g, 0, none⟩) 2 2] W (AddPost s s [1, 2] 2 1 W none) :=
  add_any s s none 0 0 [] 0 _ 2 2 [1, 2] W hs (lit_bat (l := [1, 2]) h (ok_lit rfl) (by decide)) (fun _ x hx => by cases hx; exact ⟨hne, by simp⟩) (by decide) (by decide) (by decide) (by have := hs.lt; omega)
theorem l_add2 (W : World) (s g : Nat) (a : Option Addr) (c : Nat) (hs : SumAt W s s a 2 c [1, 2] 1) (h : W.heap[g]? = some (.cells #[.int .u8 3] 5 (0, 0))) (hne : g ≠ s) (hna : ∀ x, a = some x → x.block ≠ g) : Calls Try.prog 41 #[.pointer (some ⟨s, 0, none⟩), .slice (some ⟨g, 0, none⟩) 1 1] W (AddPost s s [2, 2] 2 2 W (a.map (·.block))) :=
  add_any s s a 2 c [1, 2] 1 _ 1 1 [3] W hs (lit_bat (l := [3]) h (ok_lit rfl) (by decide)) (fun _ x hx => by
    cases hx
    refine ⟨hne, fun e => ?_⟩
    cases a with
    | none => cases e
    | some y => exact hna y rfl (by simpa using e.symm)) (by decide) (by decide) (by decide) (by have := hs.lt; omega)
theorem grown_below {W W' : World} (h : Below W.heap.size W W') (r : Option Nat) : W.grownBy W' r := ⟨h.os, h.tape, h.output, h.size, fun k hk _ => h.block k hk⟩
theorem SumAt.below {W W' : World} {s base : Nat} {a : Option Addr} {n c : Nat} {l : List Int} {cnt : Int} (h : SumAt W s base a n c l cnt) (hb : Below W.heap.size W W') : SumAt W' s base a n c l cnt := h.keep (grown_below hb none) (by simp) (by simp)
/-- What stands while the examples are gone through. -/
def AlSt (w : World) (a : Option Addr) (c : Nat) (a6 : Option Addr) (W : World) : Prop := SumAt W w.heap.size w.heap.size a 2 c [2, 2] 2 ∧ BAt W a6 2 [2, 2] ∧ Below w.heap.size w W
theorem AlSt.below {w : World} {a : Option Addr} {c : Nat} {a6 : Option Addr} {W W' : World} (h : AlSt w a c a6 W) (hb : Below W.heap.size W W') : AlSt w a c a6 W' :=
  ⟨h.1.below hb, h.2.1.below hb, h.2.2.trans (hb.mono (by have := h.2.2.size; omega))⟩
theorem AlSt.alloc {w : World} {a : Option Addr} {c : Nat} {a6 : Option Addr} {W : World} (h : AlSt w a c a6 W) (o : Obj) : AlSt w a c a6 (W.alloc o) := h.below ((Below.refl _ W).alloc (Nat.le_refl _) o)
end Go.Proofs.Ytppgjodehphaeaa
