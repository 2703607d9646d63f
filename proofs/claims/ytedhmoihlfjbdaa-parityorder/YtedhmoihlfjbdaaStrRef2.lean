/-
  slices.Values over byte strings; stripe.Fold.
-/
import Derived.Test.YtedhmoihlfjbdaaStrSum
import Derived.Test.YtedhmoihlfjbdaaRelRange
import Derived.Shelf.Abstract
import Derived.Shelf.RegionOpen
import Derived.OwnWalkIn
import Derived.TacticsInMore
import Derived.LoopNIn
import Derived.LoopIn
import Derived.Laws.BytesString
import Derived.Deep.RegionHeld3
import Derived.IntWalk
namespace Go.Proofs.Ytedhmoihlfjbdaa
open Go.RowKit Go.Shelf
set_option linter.unusedVariables false
attribute [local go_sem] Oper.semAt_some
theorem grown_refl (w : World) (r : Option Nat) : w.grownBy w r := ⟨rfl, rfl, rfl, Nat.le_refl _, fun _ _ _ => rfl⟩
def valsPre (B : Nat) (a : Option Addr) (len c b o : Nat) (vals : Nat → Value) (W : World) : Prop :=
  W.cell? ⟨B, 0, none⟩ = some (.slice a len c) ∧ ∀ k, k < len → W.cell? ⟨b, o + k, none⟩ = some (vals k)
def valsRel (vals : Nat → Value) (k : Nat) (v : Array Value) (_ _ : World) : Prop := v = #[vals k]
/-- What Fold is told of an iterator: the k-th value is a slice whose bytes are the k-th of ls; they lie in old memory, or were just made. -/
def FoldsTo (w0 : World) (R : Nat → Array Value → World → World → Prop) (ls : List (List Int)) : Prop :=
  ∀ k v Wp W, k < ls.length → Below w0.heap.size w0 Wp → Below w0.heap.size w0 W → w0.heap.size < Wp.heap.size → R k v Wp W → ∃ a n c, v = #[.slice a n c] ∧ n ≤ 140737488355328 ∧ BAt W a n (ls.getD k []) ∧ ∀ x, 0 < n → a = some x → x.block < w0.heap.size ∨ Wp.heap.size ≤ x.block
def Str.longest (ls : List (List Int)) : Nat := (Str.all [] ls).length
end Go.Proofs.Ytedhmoihlfjbdaa
namespace Go.Proofs.Ytedhmoihlfjbdaa
open Go.RowKit Go.Shelf
set_option linter.unusedVariables false
attribute [local go_sem] Oper.semAt_some
def foldI (w : World) (B : Nat) (ls : List (List Int)) (k : Nat) (W : World) : Prop :=
  (∃ a c, SumAt W w.heap.size B a (Str.all [] (ls.take k)).length c (Str.all [] (ls.take k)) k) ∧ Below w.heap.size w W
theorem foldI.grown {w : World} {B m : Nat} {ls : List (List Int)} (hB : B = w.heap.size + 3 + m) : Stays (w.heap.size + 1) (w.heap.size + 1 + 2 + m) (foldI w B ls) := by
  rintro s A C row ⟨⟨a, c, hs⟩, hb⟩ hg hrow
  refine ⟨⟨a, c, hs.keep hg (fun e => by have := hrow _ e.symm; omega) (fun x hx e => by have := hrow _ e.symm; have := (hs.own.blk x hx).1; omega)⟩, hb.grown hg hb.size (fun k e => by have := hrow _ e; omega)⟩
/-- The slice a of len slices of bytes reads as ls. -/
structure RAt (W : World) (a : Option Addr) (len : Nat) (ls : List (List Int)) : Prop where
  count : ls.length = len
  row : ∃ b o, ∃ (av : Nat → Option Addr) (nv cv : Nat → Nat), ∀ k, k < len → a = some ⟨b, o, none⟩ ∧ b < W.heap.size ∧ W.cell? ⟨b, o + k, none⟩ = some (.slice (av k) (nv k) (cv k)) ∧ BAt W (av k) (nv k) (ls.getD k []) ∧ nv k ≤ 140737488355328
theorem RAt.below {W W' : World} {a : Option Addr} {len : Nat} {ls : List (List Int)} (h : RAt W a len ls) (hb : Below W.heap.size W W') : RAt W' a len ls := by
  obtain ⟨b, o, av, nv, cv, hr⟩ := h.row
  refine ⟨h.count, b, o, av, nv, cv, fun k hk => ?_⟩
  obtain ⟨h1, h2, h3, h4, h5⟩ := hr k hk
  exact ⟨h1, by have := hb.size; omega, (hb.cell (p := ⟨b, o + k, none⟩) h2).trans h3, h4.below hb, h5⟩
theorem BAt.lt {W : World} {a : Option Addr} {n : Nat} {l : List Int} (h : BAt W a n l) (h0 : 0 < n) (x : Addr) (hx : a = some x) : x.block < W.heap.size := by
  obtain ⟨b, o, hr⟩ := h.row
  obtain ⟨h1, h2, _⟩ := hr 0 h0
  rw [h1] at hx; cases hx; exact h2
theorem below_of_alloc {w W : World} {o : Obj} (h : Below (w.alloc o).heap.size (w.alloc o) W) : Below w.heap.size w W :=
  ((Below.refl _ w).alloc (Nat.le_refl _) o).trans (h.mono (by simp))
/-- Two slices laid side by side. -/
theorem rat_two (w : World) (a b : Option Addr) (n m c d : Nat) (la lb : List Int) (ha : BAt w a n la) (hb : BAt w b m lb) (hn : n ≤ 140737488355328) (hm : m ≤ 140737488355328) :
    RAt (w.alloc (.cells #[.slice a n c, .slice b m d] 26)) (some ⟨w.heap.size, 0, none⟩) 2 [la, lb] := by
  have hbel : Below w.heap.size w (w.alloc (.cells #[.slice a n c, .slice b m d] 26)) := (Below.refl _ w).alloc (Nat.le_refl _) _
  refine ⟨rfl, w.heap.size, 0, fun k => if k = 0 then a else b, fun k => if k = 0 then n else m, fun k => if k = 0 then c else d, fun k hk => ?_⟩
  match k, hk with
  | 0, _ => exact ⟨rfl, by simp, by simp [go_sem], ha.below hbel, hn⟩
  | 1, _ => exact ⟨rfl, by simp, by simp [go_sem], hb.below hbel, hm⟩
end Go.Proofs.Ytedhmoihlfjbdaa
namespace Go.Proofs.Ytedhmoihlfjbdaa
open Go.RowKit Go.Shelf
set_option linter.unusedVariables false
attribute [local go_sem] Oper.semAt_some
def TrueBelow (w : World) (e : Ending) (w' : World) : Prop := e = .returned (.bool true) ∧ Below w.heap.size w w'
/-- Bytes as a string's. -/
def bytesOf (l : List Int) : ByteArray := l.foldl (fun r n => r.push (UInt8.ofNat n.toNat)) ByteArray.empty
theorem str_of (W : World) (a : Option Addr) (n c : Nat) (l : List Int) (h : BAt W a n l) : (convert 26 9 (.slice a n c)).run Try.prog W = .ok (.string (bytesOf l)) W := by
  rw [run_convert_bytes_string (P := Try.prog) W 26 9 5 a n c Try.underlying26 Try.underlying5 Try.underlying9]
  cases a with
  | none =>
    have h0 : n = 0 := by
      obtain ⟨b, o, hr⟩ := h.row
      rcases Nat.eq_zero_or_pos n with h' | h'
      · exact h'
      · have := (hr 0 h').1; cases this
    subst h0
    have hl : l = [] := List.eq_nil_of_length_eq_zero h.len
    subst hl
    simp [Conv.bytesToString, Sem.run_pure]; rfl
  | some x =>
    refine run_bytesToString (P := Try.prog) W x n c l ?_
    have hfc : (Builtin.firstCells 1 n (.slice (some x) n c)).run Try.prog W = .ok (l.map (Value.int .u8)).toArray W := by
      by_cases h0 : n = 0
      · subst h0
        have hl : l = [] := List.eq_nil_of_length_eq_zero h.len
        subst hl
        exact run_firstCells_some (P := Try.prog) W 1 0 x 0 c [] (by simp) (by simp)
      · have hpos : 0 < ((l.take n).map (Value.int .u8)).length := by have := h.len; simp; omega
        obtain ⟨ad, e, hsrc⟩ := bat_src h n hpos
        cases e
        rw [List.take_of_length_le (by have := h.len; omega)] at hsrc
        exact run_firstCells_some (P := Try.prog) W 1 n x n c _ (by have := h.len; simp; omega) hsrc
    simpa [Builtin.firstCells] using hfc
/-- What a slice of bytes written out reads as. -/
theorem lit_bat {W : World} {g : Nat} {l : List Int} (h : W.heap[g]? = some (.cells (l.map (Value.int .u8)).toArray 5 (0, 0))) (hl : Str.Ok l) (hn : l.length ≤ 9223372036854775807) : BAt W (some ⟨g, 0, none⟩) l.length l := by
  refine ⟨rfl, hn, g, 0, fun i hi => ⟨rfl, (Array.getElem?_eq_some_iff.1 h).1, ?_, hl i⟩⟩
  rw [cell_of_row W g _ _ _ _ h]
  simp [List.getD_eq_getElem?_getD, List.getElem?_eq_getElem hi]
def litRel (ls : List (List Int)) (k : Nat) (v : Array Value) (Wp W : World) : Prop :=
  ∃ g, Wp.heap.size ≤ g ∧ v = #[.slice (some ⟨g, 0, none⟩) (ls.getD k []).length (ls.getD k []).length] ∧ W.heap[g]? = some (.cells ((ls.getD k []).map (Value.int .u8)).toArray 5 (0, 0))
theorem ok_lit {l : List Int} (h : l.all (fun x => decide (0 ≤ x) && decide (x < 256)) = true) : Str.Ok l := fun i => by
  by_cases hi : i < l.length
  · rw [List.getD_eq_getElem?_getD, List.getElem?_eq_getElem hi]
    have := List.all_eq_true.1 h _ (List.getElem_mem hi)
    simpa using this
  · rw [getD_out (by omega)]; omega
end Go.Proofs.Ytedhmoihlfjbdaa
namespace Go.Proofs.Ytedhmoihlfjbdaa
open Go.RowKit Go.Shelf
set_option linter.unusedVariables false
theorem lit_new {W : World} {g : Nat} {o : Obj} (h : g = W.heap.size) : (W.alloc o).heap[g]? = some o := by subst h; exact heap_alloc_new W o
theorem lit_old {W : World} {g : Nat} {o o' : Obj} (h : g = W.heap.size) : ((W.alloc o).alloc o').heap[g]? = some o := by
  subst h; exact (Below.heap_alloc _ _ _ (by simp)).trans (heap_alloc_new W o)
theorem l_gap1 (W : World) (g g' : Nat) (h : W.heap[g]? = some (.cells #[.int .u8 1, .int .u8 2] 5 (0, 0))) (h' : W.heap[g']? = some (.cells #[.int .u8 1] 5 (0, 0))) : Calls Try.prog 67 #[.slice (some ⟨g, 0, none⟩) 2 2, .slice (some ⟨g', 0, none⟩) 1 1] W (SameV (.int .i64 1) W) :=
  gap_any _ _ 2 1 2 1 [1, 2] [1] W (lit_bat (l := [1, 2]) h (ok_lit rfl) (by decide)) (lit_bat (l := [1]) h' (ok_lit rfl) (by decide))
theorem l_gap2 (W : World) (g g' : Nat) (h : W.heap[g]? = some (.cells #[.int .u8 1, .int .u8 0] 5 (0, 0))) (h' : W.heap[g']? = some (.cells #[.int .u8 1] 5 (0, 0))) : Calls Try.prog 67 #[.slice (some ⟨g, 0, none⟩) 2 2, .slice (some ⟨g', 0, none⟩) 1 1] W (SameV (.int .i64 (-1)) W) :=
  gap_any _ _ 2 1 2 1 [1, 0] [1] W (lit_bat (l := [1, 0]) h (ok_lit rfl) (by decide)) (lit_bat (l := [1]) h' (ok_lit rfl) (by decide))
theorem l_add1 (W : World) (s g : Nat) (hs : SumAt W s s none 0 0 [] 0) (h : W.heap[g]? = some (.cells #[.int .u8 1, .int .u8 2] 5 (0, 0))) (hne : g ≠ s) : Calls Try.prog 91 #[.pointer (some ⟨s, 0, none⟩), .slice (some ⟨g, 0, none⟩) 2 2] W (AddPost s s [1, 2] 2 1 W none) :=
  sumadd_any s s none 0 0 [] 0 _ 2 2 [1, 2] W hs (lit_bat (l := [1, 2]) h (ok_lit rfl) (by decide)) (fun _ x hx => by cases hx; exact ⟨hne, by simp⟩) (by decide) (by decide) (by decide) (by have := hs.lt; omega)
theorem l_add2 (W : World) (s g : Nat) (a : Option Addr) (c : Nat) (hs : SumAt W s s a 2 c [1, 2] 1) (h : W.heap[g]? = some (.cells #[.int .u8 3] 5 (0, 0))) (hne : g ≠ s) (hna : ∀ x, a = some x → x.block ≠ g) : Calls Try.prog 91 #[.pointer (some ⟨s, 0, none⟩), .slice (some ⟨g, 0, none⟩) 1 1] W (AddPost s s [2, 2] 2 2 W (a.map (·.block))) :=
  sumadd_any s s a 2 c [1, 2] 1 _ 1 1 [3] W hs (lit_bat (l := [3]) h (ok_lit rfl) (by decide)) (fun _ x hx => by
    cases hx
    refine ⟨hne, fun e => ?_⟩
    cases a with
    | none => cases e
    | some y => exact hna y rfl (by simpa using e.symm)) (by decide) (by decide) (by decide) (by have := hs.lt; omega)
theorem grown_below {W W' : World} (h : Below W.heap.size W W') (r : Option Nat) : W.grownBy W' r := ⟨h.os, h.tape, h.output, h.size, fun k hk _ => h.block k hk⟩
theorem SumAt.below {W W' : World} {s base : Nat} {a : Option Addr} {n c : Nat} {l : List Int} {cnt : Int} (h : SumAt W s base a n c l cnt) (hb : Below W.heap.size W W') : SumAt W' s base a n c l cnt := h.keep (grown_below hb none) (by simp) (by simp)
/-- What stands while the examples are gone through. -/
def AlSt (w : World) (a : Option Addr) (c : Nat) (a6 : Option Addr) (W : World) : Prop := SumAt W w.heap.size w.heap.size a 2 c [2, 2] 2 ∧ BAt W a6 2 [2, 2] ∧ Below w.heap.size w W
theorem AlSt.below {w : World} {a : Option Addr} {c : Nat} {a6 : Option Addr} {W W' : World} (h : AlSt w a c a6 W) (hb : Below W.heap.size W W') : AlSt w a c a6 W' :=
  ⟨h.1.below hb, h.2.1.below hb, h.2.2.trans (hb.mono (by have := h.2.2.size; omega))⟩
theorem AlSt.alloc {w : World} {a : Option Addr} {c : Nat} {a6 : Option Addr} {W : World} (h : AlSt w a c a6 W) (o : Obj) : AlSt w a c a6 (W.alloc o) := h.below ((Below.refl _ W).alloc (Nat.le_refl _) o)
end Go.Proofs.Ytedhmoihlfjbdaa
namespace Go.Proofs.Ytedhmoihlfjbdaa
open Go.RowKit Go.Shelf
set_option linter.unusedVariables false
theorem getD_take' (l : List Int) (k i : Nat) : (l.take k).getD i 0 = if i < k then l.getD i 0 else 0 := by
  rw [List.getD_eq_getElem?_getD, List.getElem?_take, List.getD_eq_getElem?_getD]; split <;> rfl
theorem getD_drop' (l : List Int) (k i : Nat) : (l.drop k).getD i 0 = l.getD (k + i) 0 := by
  rw [List.getD_eq_getElem?_getD, List.getElem?_drop, List.getD_eq_getElem?_getD]
theorem getD_append' (l m : List Int) (i : Nat) : (l ++ m).getD i 0 = if i < l.length then l.getD i 0 else m.getD (i - l.length) 0 := by
  rw [List.getD_eq_getElem?_getD, List.getElem?_append]; split <;> rw [List.getD_eq_getElem?_getD]
theorem Str.Ok.take {l : List Int} (h : Str.Ok l) (k : Nat) : Str.Ok (l.take k) := fun i => by
  rw [getD_take']; split
  · exact h i
  · omega
theorem Str.Ok.drop {l : List Int} (h : Str.Ok l) (k : Nat) : Str.Ok (l.drop k) := fun i => by rw [getD_drop']; exact h _
theorem Str.Ok.append {l m : List Int} (h : Str.Ok l) (h' : Str.Ok m) : Str.Ok (l ++ m) := fun i => by
  rw [getD_append']; split
  · exact h i
  · exact h' _
theorem xor_parts (a b : List Int) (k : Nat) (h : a.length = b.length) (hk : k ≤ a.length) : Str.xor (a.take k) (b.take k) ++ Str.xor (a.drop k) (b.drop k) = Str.xor a b := by
  refine getD_ext (by simp only [List.length_append, Str.xor_len, List.length_take, List.length_drop]; omega) fun i hi => ?_
  rw [getD_append', Str.xor_len]
  simp only [List.length_take]
  split
  · rw [Str.xor_at, Str.xor_at, getD_take', getD_take', if_pos (by omega), if_pos (by omega)]
  · rw [Str.xor_at, Str.xor_at, getD_drop', getD_drop', show k + (i - max (min k a.length) (min k b.length)) = i by omega]
theorem fit_fit (l : List Int) (m k : Nat) (h : m ≤ k) : Str.fit (Str.fit l k) m = Str.fit l m := by
  refine getD_ext (by simp only [Str.fit_len]) fun i hi => ?_
  rw [Str.fit_len] at hi
  rw [Str.fit_at, Str.fit_at, Str.fit_at, if_pos hi, if_pos (by omega), if_pos hi]
theorem gap_eq (a b : List Int) (h : a.length = b.length) : decide (Str.gap a b < 0) = decide (a = b) := by
  rw [Str.gap_neg]
  by_cases e : a = b
  · rw [decide_eq_true e, decide_eq_true (fun j _ => by rw [e])]
  · rw [decide_eq_false e, decide_eq_false (fun hh => e (getD_ext h fun i hi => hh i (by omega)))]
theorem zero_eq (a b : List Int) (ha : Str.Ok a) (hb : Str.Ok b) (h : a.length = b.length) : decide (Str.gap (Str.xor a b) [] < 0) = decide (a = b) := by
  rw [Str.gap_neg]
  by_cases e : a = b
  · rw [decide_eq_true e, decide_eq_true (fun j _ => by rw [Str.xor_at, e, Str.bx_self, getD_out (by simp)])]
  · rw [decide_eq_false e, decide_eq_false (fun hh => e (getD_ext h fun i hi => ?_))]
    have := hh i (by rw [Str.xor_len]; omega)
    rw [Str.xor_at, getD_out (a := []) (by simp)] at this
    exact (Str.bx_eq_zero (ha i).1 (hb i).1).1 this
theorem and1023 (n : Int) : bits .and .i64 n 1023 = n % 1024 := by
  have hmn : (BitVec.ofInt 64 (1023 : Int)).toNat = 2 ^ 10 - 1 := by decide
  have key : (BitVec.ofInt 64 n &&& BitVec.ofInt 64 (1023 : Int)).toNat = (n % ((2 ^ 64 : Nat) : Int)).toNat % 2 ^ 10 := by
    rw [BitVec.toNat_and, BitVec.toNat_ofInt, hmn, Nat.and_two_pow_sub_one_eq_mod]
  show IntKind.i64.wrap ((BitVec.ofInt 64 n &&& BitVec.ofInt 64 (1023 : Int)).toNat : Nat) = _
  rw [key, IntKind.wrap_i64]
  omega
theorem BAt.take {W : World} {a : Option Addr} {n : Nat} {l : List Int} (h : BAt W a n l) (k : Nat) (hk : k ≤ n) : BAt W a k (l.take k) := by
  have hl := h.len; have hz := h.lim
  obtain ⟨b, o, hr⟩ := h.row
  refine ⟨by simp; omega, by omega, b, o, fun i hi => ?_⟩
  rw [getD_take', if_pos hi]; exact hr i (by omega)
theorem BAt.drop {W : World} {b o : Nat} {n : Nat} {l : List Int} (h : BAt W (some ⟨b, o, Option.none⟩) n l) (k : Nat) (hk : k ≤ n) : BAt W (some ⟨b, o + k, Option.none⟩) (n - k) (l.drop k) := by
  have hl := h.len; have hz := h.lim
  obtain ⟨b', o', hr⟩ := h.row
  refine ⟨by simp; omega, by omega, b, o + k, fun i hi => ?_⟩
  obtain ⟨h1, h2, h3, h4⟩ := hr (k + i) (by omega)
  cases h1
  rw [getD_drop', Nat.add_assoc]; exact ⟨rfl, h2, h3, h4⟩
/-- append(x, y...) of two slices of bytes, x in a row of its own. -/
theorem append_bytes (w : World) (ty : TypeId) (base : Nat) (a : Option Addr) (n c : Nat) (l : List Int) (h : Own w base a n c l) (a2 : Option Addr) (m c2 : Nat) (l2 : List Int) (h2 : BAt w a2 m l2) (hlim : n + m ≤ 140737488355328) (hbase : base ≤ w.heap.size) :
    ∃ a' c' w', (Builtin.append_ #[26, 26] ty #[.slice a n c, .slice a2 m c2]).run Try.prog w = .ok (.slice a' (n + m) c') w' ∧
      Own w' base a' (n + m) c' (l ++ l2) ∧ w.grownBy w' (a.map (·.block)) ∧ (∀ x, a' = some x → (∃ y, a = some y ∧ x.block = y.block) ∨ x.block = w.heap.size) := by
  obtain ⟨i0, hi0, hz0, hz1, hz2⟩ := info_parts info_u8
  have hll := h.len; have hl2 := h2.len
  have hok := h.ok.append h2.ok
  cases a2 with
  | none =>
    have h0 : m = 0 := by
      obtain ⟨b, o, hr⟩ := h2.row
      rcases Nat.eq_zero_or_pos m with h' | h'
      · exact h'
      · have := (hr 0 h').1; cases this
    subst h0
    have hl0 : l2 = [] := List.eq_nil_of_length_eq_zero hl2
    subst hl0
    rw [List.append_nil]
    refine ⟨a, c, w, ?_, h, grown_refl w _, fun x hx => .inl ⟨x, hx, rfl⟩⟩
    have hnc : n ≤ c := by
      rcases h.row.2 with ⟨hv, rfl⟩ | ⟨g, cap, cur, hv, _, _, hnc, _⟩
      · exact Nat.zero_le _
      · simp only [Value.slice.injEq, true_and] at hv; omega
    cases a <;> simp [Builtin.append_, run_underlying Try.underlying26, sizeOf, typeInfo, hi0, Builtin.lenOf, Builtin.firstCells, hnc, storeCells]
  | some x =>
    have hsrc : ∀ j u, (l2.map (Value.int .u8))[j]? = some u → w.cell? (x.add j) = some u := fun j u hu => by
      have hj : j < l2.length := by have := (List.getElem?_eq_some_iff.1 hu).1; simpa using this
      have hpos : 0 < ((l2.take m).map (Value.int .u8)).length := by simp; omega
      obtain ⟨ad, e, hs⟩ := bat_src h2 m hpos
      cases e
      rw [List.take_of_length_le (by omega)] at hs
      exact hs j u hu
    obtain ⟨v', w', hr, ho, hg, hnil, hat⟩ := run_append_own_at (P := Try.prog) w base 26 ty 5 i0 (.int .u8 0) 1 1 Try.underlying26 hi0 hz0 hz1 hz2 rfl (by decide) (.slice a n c) n _ h.row x m c2 (l2.map (Value.int .u8)) (by simp; omega) hsrc (one_u8 l2) (by unfold maxLen; omega) (by omega) hbase
    rw [← List.map_append] at ho
    have hv : ∃ a' c', v' = .slice a' (n + m) c' := by
      rcases ho.2 with ⟨rfl, e⟩ | ⟨g, cap, cur, rfl, _⟩
      · exact ⟨none, 0, by rw [e]⟩
      · exact ⟨_, _, rfl⟩
    obtain ⟨a', c', rfl⟩ := hv
    have eb : ∀ (y : Option Addr) (k d : Nat), (Value.slice y k d).ownBlock = y.map (·.block) := fun y k d => by cases y <;> rfl
    rw [eb] at hg
    rw [eb, eb] at hat
    refine ⟨a', c', w', hr, ⟨ho, hok⟩, hg, fun y hy => ?_⟩
    subst hy
    rcases hat with e | e
    · cases a with
      | none => cases e
      | some z => exact .inl ⟨z, rfl, by simpa using e⟩
    · exact .inr (by simpa using e)
theorem step_append_run {P : Program} {ops : Array Oper} {o : Oper} {a : Act} {w : World} {K : Act → World → Prop} {Q : Exit → Act → World → Prop} {E : Prop} (hgd : o.guard = none) (s x : Operand) (t tn : TypeId)
    (ho : o.op = .call { callee := .builtin .append, args := #[s, x], argTypes := #[t, tn] }) (vs vx : Value) (hs : a.eval s = vs) (hx : a.eval x = vx)
    (v' : Value) (w' : World) (hr : (Builtin.append_ #[t, tn] o.type #[vs, vx]).run P w = .ok v' w') (h : K (a.put o.dst v') w') :
    if Region.wanted o (yielded ops a.tmps) = true then Oper.wp P o a w K Q else E := by
  have hw : Region.wanted o (yielded ops a.tmps) = true := by simp [Region.wanted, hgd]
  rw [if_pos hw]
  exact Lib.wp_append_run w s x t tn ho vs vx hs hx v' w' hr h
theorem clamp_nat (q : Nat) (h : q ≤ 65536) : Str.clamp (q : Int) = q := by unfold Str.clamp; omega
theorem below_drewN (W : World) (B j : Nat) : Below B W (W.drewN j) := ⟨rfl, rfl, rfl, Nat.le_refl _, fun _ _ => rfl⟩
def IntRow (k : IntKind) (w : World) (a : Option Addr) (len cap : Nat) (zs : List Int) : Prop :=
  (a = none ∧ len = 0 ∧ cap = 0 ∧ zs = []) ∨
  ∃ x, a = some x ∧ len ≤ cap ∧ cap ≤ maxLen ∧ zs.length = cap ∧ (∀ i, i < zs.length → w.cell? (x.add i) = some (.int k (zs.getD i 0))) ∧ ∀ n ∈ zs, (Lit.int k n).wf = true
theorem IntRow.bat {w : World} {a : Option Addr} {len cap : Nat} {zs : List Int} (h : IntRow .u8 w a len cap zs) : BAt w a len (zs.take len) ∧ len ≤ cap := by
  rcases h with ⟨rfl, rfl, rfl, rfl⟩ | ⟨⟨b, off, sp⟩, rfl, hl, hm, hz, hc, hw⟩
  · exact ⟨BAt.none w, Nat.le_refl _⟩
  · refine ⟨⟨by simp; omega, by unfold maxLen at hm; omega, b, off, fun i hi => ?_⟩, hl⟩
    have hs : sp = none := by
      have := World.cell?_spot (hc 0 (by omega)); simpa [Addr.add] using this
    subst hs
    have h1 := hc i (by omega)
    rw [show (Addr.add ⟨b, off, none⟩ i) = ⟨b, off + i, none⟩ from by unfold Addr.add; split <;> simp_all] at h1
    rw [getD_take', if_pos hi]
    refine ⟨rfl, ?_, h1, ?_⟩
    · simp only [World.cell?] at h1
      by_cases hb : b < w.heap.size
      · exact hb
      · simp [Array.getElem?_eq_none (Nat.le_of_not_lt hb)] at h1
    · have : zs.getD i 0 ∈ zs := by
        rw [List.getD_eq_getElem?_getD, List.getElem?_eq_getElem (by omega)]; simp
      have := hw _ this
      generalize zs.getD i 0 = z at this ⊢
      simp [Lit.wf, IntKind.min, IntKind.max, IntKind.bits, IntKind.signed] at this; omega
end Go.Proofs.Ytedhmoihlfjbdaa
namespace Go.Proofs.Ytedhmoihlfjbdaa
open Go.RowKit Go.Shelf
set_option linter.unusedVariables false
theorem at_any (a : Option Addr) (n c : Nat) (l : List Int) (i : Nat) (w : World) (ha : BAt w a n l) (hi : i ≤ 9223372036854775807) :
    Calls Try.prog 155 #[.slice a n c, .int .i64 i] w (SameV (.int .u8 (l.getD i 0)) w) := by
  have z := ha.lim
  obtain ⟨b, o, hr⟩ := ha.row
  by_cases h : i < n
  · obtain ⟨rfl, _, d, _⟩ := hr i h
    have hz : (i : Int) < (n : Int) := by omega
    clear hr ha
    generalize l.getD i 0 = x at d ⊢
    go_enter Try.func155, Try.ntmps155
    go_wp2
    go_ret
    exact ⟨rfl, rfl⟩
  · have hz : ¬ (i : Int) < (n : Int) := by omega
    rw [getD_out (by have := ha.len; omega)]
    clear hr ha
    go_enter Try.func155, Try.ntmps155
    go_wp2
    go_ret
    exact ⟨rfl, rfl⟩
/-- The bit of an exclusive or. -/
theorem Str.bx_bit (x y : Int) (j : Nat) (hx : 0 ≤ x) (hy : 0 ≤ y) : (Str.bx x y).toNat / 2 ^ j % 2 = (x.toNat / 2 ^ j % 2 + y.toNat / 2 ^ j % 2) % 2 := by
  have h : (Str.bx x y).toNat = x.toNat ^^^ y.toNat := by unfold Str.bx; simp
  rw [h]
  have := Nat.testBit_xor x.toNat y.toNat j
  rw [Nat.testBit_eq_decide_div_mod_eq, Nat.testBit_eq_decide_div_mod_eq, Nat.testBit_eq_decide_div_mod_eq] at this
  have m1 := Nat.mod_two_eq_zero_or_one (x.toNat / 2 ^ j)
  have m2 := Nat.mod_two_eq_zero_or_one (y.toNat / 2 ^ j)
  have m3 := Nat.mod_two_eq_zero_or_one ((x.toNat ^^^ y.toNat) / 2 ^ j)
  rcases m1 with m1 | m1 <;> rcases m2 with m2 | m2 <;> rcases m3 with m3 | m3 <;> simp [m1, m2, m3] at this ⊢
def OnePow (P : Nat) : Prop := P = 128 ∨ P = 64 ∨ P = 32 ∨ P = 16 ∨ P = 8 ∨ P = 4 ∨ P = 2 ∨ P = 1
theorem OnePow.bit {P : Nat} (h : OnePow P) (x y : Int) (hx : 0 ≤ x ∧ x < 256) (hy : 0 ≤ y ∧ y < 256) : Str.bx x y / P % 2 = (x / P % 2 + y / P % 2) % 2 := by
  have hb := (Str.bx_byte hx hy).1
  have key : ∀ j, Str.bx x y / ((2 ^ j : Nat) : Int) % 2 = (x / ((2 ^ j : Nat) : Int) % 2 + y / ((2 ^ j : Nat) : Int) % 2) % 2 := fun j => by
    have h1 := Str.bx_bit x y j hx.1 hy.1
    have e1 : Str.bx x y = ((Str.bx x y).toNat : Int) := by omega
    have e2 : x = (x.toNat : Int) := by omega
    have e3 : y = (y.toNat : Int) := by omega
    generalize (Str.bx x y).toNat = a at h1 e1
    generalize x.toNat = b at h1 e2
    generalize y.toNat = c at h1 e3
    rw [e1, e2, e3, ← Int.natCast_ediv, ← Int.natCast_ediv, ← Int.natCast_ediv]
    omega
  rcases h with rfl | rfl | rfl | rfl | rfl | rfl | rfl | rfl
  · exact key 7
  · exact key 6
  · exact key 5
  · exact key 4
  · exact key 3
  · exact key 2
  · exact key 1
  · exact key 0
set_option maxHeartbeats 1000000 in
set_option maxRecDepth 100000 in
theorem one_any (x y : Int) (w : World) (hx : 0 ≤ x ∧ x < 256) (hy : 0 ≤ y ∧ y < 256) :
    Calls Try.prog 154 #[.int .u8 x, .int .u8 y] w (Drawn (.int .u8 (Str.bx x y)) w) := by
  have hz := Str.bx_byte hx hy
  have hbit : ∀ P, OnePow P → Str.bx x y / (P : Int) % 2 = (x / (P : Int) % 2 + y / (P : Int) % 2) % 2 := fun P h => h.bit x y hx hy
  generalize Str.bx x y = Z at hz hbit ⊢
  have HBIT := Lib.hid hbit; clear hbit
  obtain ⟨x1, x2⟩ := hx
  obtain ⟨y1, y2⟩ := hy
  obtain ⟨z1, z2⟩ := hz
  go_enter Try.func154, Try.ntmps154
  go_wp2
  go_loopw [5, 6] (fun o p wr => ∃ (P m : Nat), p = .int .i64 P ∧ Hid (wr = w.drewN m) ∧ ((P = 0 ∧ o = .int .u8 Z) ∨ (Hid (OnePow P) ∧ o = .int .u8 (Z / (2 * P) * (2 * P))))) (fun _ p _ => (intOf p).toNat)
  case atStart => exact ⟨128, 0, rfl, Lib.hid rfl, .inr ⟨Lib.hid (.inl rfl), by congr 1; omega⟩⟩
  case round =>
    obtain ⟨P, m, rfl, HW, hrel⟩ := hrel
    rcases hrel with ⟨rfl, rfl⟩ | ⟨HP, rfl⟩
    · go_wp2
      go_ret
      exact ⟨rfl, m, HW.out⟩
    · have hbit := HBIT.out P HP.out
      have hP : 0 < P ∧ P ≤ 128 := by have h := HP.out; unfold OnePow at h; omega
      have hPz : (0 : Int) < (P : Int) := by omega
      have hP2 : (P : Int) ≤ 128 := by omega
      have hdiv : Z / (P : Int) = 2 * (Z / (2 * P)) + Z / (P : Int) % 2 := by
        rw [show (2 * (P : Int)) = P * 2 by omega, ← Int.ediv_ediv_of_nonneg (by omega)]
        omega
      have hle : Z / (P : Int) * P ≤ Z := Int.ediv_mul_le _ (by omega)
      have hge : 0 ≤ Z / (2 * (P : Int)) := Int.ediv_nonneg z1 (by omega)
      have hnext : (P / 2 = 0 ∧ Z / (P : Int) * P = Z) ∨ (OnePow (P / 2) ∧ 2 * ((P / 2 : Nat) : Int) = P) := by
        have h := HP.out; unfold OnePow at h ⊢
        rcases h with rfl | rfl | rfl | rfl | rfl | rfl | rfl | rfl <;> first | (right; refine ⟨by decide, by decide⟩) | (left; refine ⟨by decide, by simp⟩)
      have hO1 : Z / (2 * (P : Int)) * (2 * P) = Z / (P : Int) * P - Z / (P : Int) % 2 * P := by
        clear hle hnext hbit
        generalize Z / (2 * (P : Int)) = E at hdiv ⊢
        generalize Z / (P : Int) % 2 = B at hdiv ⊢
        rw [hdiv, Int.add_mul, Int.mul_comm 2 E, Int.mul_assoc]
        omega
      have tx : (x / (P : Int)).tmod 2 = x / (P : Int) % 2 := Int.tmod_eq_emod_of_nonneg (Int.ediv_nonneg x1 (by omega))
      have ty : (y / (P : Int)).tmod 2 = y / (P : Int) % 2 := Int.tmod_eq_emod_of_nonneg (Int.ediv_nonneg y1 (by omega))
      have hge2 : 0 ≤ Z / (2 * (P : Int)) * (2 * P) := Int.mul_nonneg hge (by omega)
      by_cases hb : (x / (P : Int)).tmod 2 = (y / (P : Int)).tmod 2
      · have hbb : ((x / (P : Int)).tmod 2 != (y / (P : Int)).tmod 2) = false := by rw [hb]; simp
        have h0 : Z / (P : Int) % 2 = 0 := by rw [tx, ty] at hb; omega
        rw [h0] at hO1
        have hO2 : Z / (2 * (P : Int)) * (2 * P) = Z / (P : Int) * P := by omega
        have HO := Lib.hid hO2; have HN := Lib.hid hnext
        generalize Z / (2 * (P : Int)) * (2 * P) = O at hge2 HO ⊢
        clear hnext hdiv hbit hO1 hO2 h0 tx ty hb hle hge
        go_wp2_with fail
        go_quiet (fail)
        go_wp2
        go_roundw
        case rel =>
          refine ⟨P / 2, m + nq, by congr 1, Lib.hid (by rw [HW.out, World.drewN_drewN]), ?_⟩
          rcases HN.out with ⟨h1, h2⟩ | ⟨h1, h2⟩
          · exact .inl ⟨h1, by rw [HO.out, h2]⟩
          · exact .inr ⟨Lib.hid h1, by rw [h2, HO.out]⟩
        case measure => simp [intOf]; omega
      · have hbb : ((x / (P : Int)).tmod 2 != (y / (P : Int)).tmod 2) = true := by rw [bne_iff_ne]; exact hb
        have h1 : Z / (P : Int) % 2 = 1 := by rw [tx, ty] at hb; omega
        rw [h1] at hO1
        have hO2 : Z / (2 * (P : Int)) * (2 * P) + P = Z / (P : Int) * P := by omega
        have hO3 : Z / (2 * (P : Int)) * (2 * P) + P ≤ 255 := by omega
        have HO := Lib.hid hO2; have HN := Lib.hid hnext
        generalize Z / (2 * (P : Int)) * (2 * P) = O at hge2 HO hO3 ⊢
        clear hnext hdiv hbit hO1 hO2 h1 tx ty hb hle hge
        go_wp2_with fail
        go_quiet (fail)
        go_wp2
        go_roundw
        case rel =>
          refine ⟨P / 2, m + nq, by congr 1, Lib.hid (by rw [HW.out, World.drewN_drewN]), ?_⟩
          rcases HN.out with ⟨h1, h2⟩ | ⟨h1, h2⟩
          · exact .inl ⟨h1, by rw [HO.out, h2]⟩
          · exact .inr ⟨Lib.hid h1, by rw [h2, HO.out]⟩
        case measure => simp [intOf]; omega
end Go.Proofs.Ytedhmoihlfjbdaa
namespace Go.Proofs.Ytedhmoihlfjbdaa
open Go.RowKit Go.Shelf
set_option linter.unusedVariables false
theorem own_nil (W : World) (base : Nat) (hb : base ≤ W.heap.size) : Own (W.alloc (.cells #[] 5)) base (some ⟨W.heap.size, 0, none⟩) 0 0 [] :=
  ⟨⟨rfl, .inr ⟨W.heap.size, 0, #[], rfl, hb, heap_alloc_new W _, Nat.le_refl _, Nat.zero_le _, rfl, rfl⟩⟩, Str.ok_nil⟩
/-- append(s, x) of one byte, as the builtin makes it. -/
theorem append_one (W : World) (ty : TypeId) (base : Nat) (a : Option Addr) (n c : Nat) (l : List Int) (h : Own W base a n c l) (x : Int) (hx : 0 ≤ x ∧ x < 256) (hlim : n + 1 ≤ 140737488355328) (hbase : base ≤ W.heap.size) :
    ∃ a' c' w', (Builtin.append_ #[26, 26] ty #[.slice a n c, .slice (some ⟨W.heap.size, 0, none⟩) 1 1]).run Try.prog (W.alloc (.cells #[.int .u8 x] 5)) = .ok (.slice a' (n + 1) c') w' ∧
      Own w' base a' (n + 1) c' (l ++ [x]) ∧ Below base W w' := by
  have hb0 : Below W.heap.size W (W.alloc (.cells #[.int .u8 x] 5)) := (Below.refl _ W).alloc (Nat.le_refl _) _
  obtain ⟨a', c', w', hr, ho, hg, _⟩ := append_bytes (W.alloc (.cells #[.int .u8 x] 5)) ty base a n c l (h.below hb0) (some ⟨W.heap.size, 0, none⟩) 1 1 [x] (lit_bat (l := [x]) (heap_alloc_new W _) (fun i => by cases i with | zero => exact hx | succ i => simp) (by simp)) hlim (by simp; omega)
  refine ⟨a', c', w', hr, ho, ((hb0.mono hbase).trans ((Below.refl _ _).grown hg (by simp; omega) (fun k e => ?_)))⟩
  cases a with
  | none => cases e
  | some y => have := (h.blk y rfl).1; simp at e; omega
theorem xor_take_snoc (a b : List Int) (k : Nat) (h : k < max a.length b.length) : (Str.xor a b).take k ++ [Str.bx (a.getD k 0) (b.getD k 0)] = (Str.xor a b).take (k + 1) := by
  have hk : k < (Str.xor a b).length := by rw [Str.xor_len]; exact h
  rw [List.take_add_one, List.getElem?_eq_getElem hk]
  have := Str.xor_at a b k
  rw [List.getD_eq_getElem?_getD, List.getElem?_eq_getElem hk] at this
  simp only [Option.getD_some] at this
  rw [this]; rfl
set_option maxHeartbeats 1000000 in
set_option maxRecDepth 100000 in
theorem rxor_any (a b : Option Addr) (n m c d : Nat) (la lb : List Int) (w : World) (ha : BAt w a n la) (hb : BAt w b m lb) (hn : n ≤ 140737488355328) (hm : m ≤ 140737488355328) :
    Calls Try.prog 136 #[.slice a n c, .slice b m d] w (NewB (max n m) (Str.xor la lb) w) := by
  have e1 := ha.len; have e2 := hb.len
  have HA := Lib.hid ha; have HB := Lib.hid hb; have E1 := Lib.hid e1; have E2 := Lib.hid e2; clear ha hb e1 e2
  have hXL : (Str.xor la lb).length = max n m := by rw [Str.xor_len, E1.out, E2.out]
  have HXL := Lib.hid hXL; clear hXL
  go_enter Try.func136, Try.ntmps136
  go_wp2
  go_loopw [5, 6] (fun s i wr => ∃ (k : Nat) (a' : Option Addr) (c' : Nat), k ≤ max n m ∧ i = .int .i64 k ∧ s = .slice a' k c' ∧ Hid (Own wr w.heap.size a' k c' ((Str.xor la lb).take k) ∧ Below w.heap.size w wr)) (fun _ i _ => max n m - (intOf i).toNat)
  case atStart => exact ⟨0, _, _, Nat.zero_le _, rfl, rfl, Lib.hid ⟨own_nil w _ (Nat.le_refl _), (Below.refl _ w).alloc (Nat.le_refl _) _⟩⟩
  case round =>
    obtain ⟨k, a', c', hk, rfl, rfl, HW⟩ := hrel
    by_cases hlt : k < max n m
    · have hor : (k : Int) < (n : Int) ∨ ¬ (k : Int) < (n : Int) ∧ (k : Int) < (m : Int) := by omega
      have hatA := at_any a n c la k wr (HA.out.below HW.out.2) (by omega)
      have hatB := at_any b m d lb k wr (HB.out.below HW.out.2) (by omega)
      have hx1 := HA.out.ok k; have hx2 := HB.out.ok k
      have hone := one_any _ _ wr hx1 hx2
      have hsn := xor_take_snoc la lb k (by rw [E1.out, E2.out]; exact hlt)
      have hby := Str.bx_byte hx1 hx2
      generalize Str.bx (la.getD k 0) (lb.getD k 0) = z at hone hsn hby
      generalize la.getD k 0 = x at hatA hone
      generalize lb.getD k 0 = y at hatB hone
      have HATA := Lib.hid hatA; have HATB := Lib.hid hatB; have HONE := Lib.hid hone; have HSN := Lib.hid hsn; have HBY := Lib.hid hby
      clear hatA hatB hone hsn hby hx1 hx2
      rcases hor with h1 | ⟨h1, h2⟩
      all_goals
        go_wp2_with (first
          | (go_at_call_of 155 (Value.slice a n c); (with_reducible refine (HATA.out).mono ?_); rintro e w' ⟨rfl, rfl⟩)
          | (go_at_call_of 155 (Value.slice b m d); (with_reducible refine (HATB.out).mono ?_); rintro e w' ⟨rfl, rfl⟩)
          | (go_at_call 154; (with_reducible refine (HONE.out).mono ?_); rintro e w' ⟨rfl, j, rfl⟩
             obtain ⟨a5, c5, w5, hrun, hO5, hB5⟩ := append_one (wr.drewN j) 26 w.heap.size a' k c' _ (HW.out.1.below ⟨rfl, rfl, rfl, Nat.le_refl _, fun _ _ => rfl⟩) z HBY.out (by omega) HW.out.2.size
             have HRUN := Lib.hid hrun; have HO5 := Lib.hid hO5; have HB5 := Lib.hid hB5; clear hrun hO5 hB5)
          | (at_builtin; refine Lib.wpList_append_run _ rfl (.tmp 20) (.tmp 28) 26 26 rfl (.slice a' k c') _ (by rfl) (by rfl) _ _ HRUN.out ?_))
        go_roundw
        case rel => exact ⟨k + 1, a5, c5, by omega, by go_num, rfl, Lib.hid ⟨HSN.out ▸ HO5.out, HW.out.2.trans ((below_drewN wr _ j).trans HB5.out)⟩⟩
        case measure => simp [intOf]; omega
    · have h1 : ¬ (k : Int) < (n : Int) := by omega
      have h2 : ¬ (k : Int) < (m : Int) := by omega
      obtain rfl : k = max n m := by omega
      go_wp2
      go_ret
      have hO := HW.out.1
      rw [List.take_of_length_le (by rw [HXL.out]; exact Nat.le_refl _)] at hO
      exact ⟨_, _, rfl, hO, HW.out.2⟩
theorem fit_take_snoc (l : List Int) (m k : Nat) (h : k < m) : (Str.fit l m).take k ++ [l.getD k 0] = (Str.fit l m).take (k + 1) := by
  have hk : k < (Str.fit l m).length := by rw [Str.fit_len]; exact h
  rw [List.take_add_one, List.getElem?_eq_getElem hk]
  have := Str.fit_at l m k
  rw [if_pos h, List.getD_eq_getElem?_getD, List.getElem?_eq_getElem hk] at this
  simp only [Option.getD_some] at this
  rw [this]; rfl
set_option maxHeartbeats 1000000 in
set_option maxRecDepth 100000 in
theorem copy_any (a : Option Addr) (n c : Nat) (l : List Int) (w : World) (ha : BAt w a n l) (hn : n ≤ 140737488355327) :
    Calls Try.prog 14 #[.slice a n c] w (NewB n l w) := by
  have e1 := ha.len
  have HA := Lib.hid ha; have E1 := Lib.hid e1; clear ha e1
  go_enter Try.func14, Try.ntmps14
  go_wp2
  go_loopw [3, 4] (fun s i wr => ∃ (k : Nat) (a' : Option Addr) (c' : Nat), k ≤ n ∧ i = .int .i64 k ∧ s = .slice a' k c' ∧ Hid (Own wr w.heap.size a' k c' (l.take k) ∧ Below w.heap.size w wr)) (fun _ i _ => n - (intOf i).toNat)
  case atStart => exact ⟨0, _, _, Nat.zero_le _, rfl, rfl, Lib.hid ⟨own_nil w _ (Nat.le_refl _), (Below.refl _ w).alloc (Nat.le_refl _) _⟩⟩
  case round =>
    obtain ⟨k, a', c', hk, rfl, rfl, HW⟩ := hrel
    by_cases hlt : k < n
    · have h1 : (k : Int) < (n : Int) := by omega
      obtain ⟨b, o, hr⟩ := (HA.out.below HW.out.2).row
      obtain ⟨rfl, _, d, q1, q2⟩ := hr k hlt
      have hsn : l.take k ++ [l.getD k 0] = l.take (k + 1) := by
        rw [List.take_add_one, List.getD_eq_getElem?_getD, List.getElem?_eq_getElem (by rw [E1.out]; exact hlt)]; rfl
      generalize l.getD k 0 = x at d q1 q2 hsn
      obtain ⟨a5, c5, w5, hrun, hO5, hB5⟩ := append_one wr 26 w.heap.size a' k c' _ HW.out.1 x ⟨q1, q2⟩ (by omega) HW.out.2.size
      have HSN := Lib.hid hsn; have HRUN := Lib.hid hrun; have HO5 := Lib.hid hO5; have HB5 := Lib.hid hB5
      clear hsn hrun hO5 hB5 hr
      go_wp2_with (at_builtin; refine Lib.wpList_append_run _ rfl (.tmp 12) (.tmp 17) 26 26 rfl (.slice a' k c') _ (by rfl) (by rfl) _ _ HRUN.out ?_)
      go_roundw
      case rel => exact ⟨k + 1, a5, c5, by omega, by go_num, rfl, Lib.hid ⟨HSN.out ▸ HO5.out, HW.out.2.trans HB5.out⟩⟩
      case measure => simp [intOf]; omega
    · have h1 : ¬ (k : Int) < (n : Int) := by omega
      obtain rfl : k = n := by omega
      go_wp2
      go_ret
      have hO := HW.out.1
      rw [List.take_of_length_le (by rw [E1.out]; exact Nat.le_refl _)] at hO
      exact ⟨_, _, rfl, hO, HW.out.2⟩
end Go.Proofs.Ytedhmoihlfjbdaa
