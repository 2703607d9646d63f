/-
  slices.Values over byte strings; stripe.Fold.
-/
import Derived.Test.YtpannhbmelcpfaaStrSum
import Derived.Test.YtpannhbmelcpfaaRelRange
import Derived.Shelf.Abstract
import Derived.Shelf.RegionOpen
import Derived.OwnWalkIn
import Derived.TacticsInMore
import Derived.LoopNIn
import Derived.LoopIn
namespace Go.Proofs.Ytpannhbmelcpfaa
open Go.RowKit Go.Shelf
set_option linter.unusedVariables false
attribute [local go_sem] Oper.semAt_some
theorem grown_refl (w : World) (r : Option Nat) : w.grownBy w r := ⟨rfl, rfl, rfl, Nat.le_refl _, fun _ _ _ => rfl⟩
def valsPre (B : Nat) (a : Option Addr) (len c b o : Nat) (vals : Nat → Value) (W : World) : Prop :=
  W.cell? ⟨B, 0, none⟩ = some (.slice a len c) ∧ ∀ k, k < len → W.cell? ⟨b, o + k, none⟩ = some (vals k)
def valsRel (vals : Nat → Value) (k : Nat) (v : Array Value) (_ _ : World) : Prop := v = #[vals k]
/-- What Fold is told of an iterator: the k-th value is a slice whose bytes are the k-th of ls; they lie in old memory, or were just made. -/
def FoldsTo (w0 : World) (R : Nat → Array Value → World → World → Prop) (ls : List (List Int)) : Prop :=
  ∀ k v Wp W, k < ls.length → Below w0.heap.size w0 Wp → Below w0.heap.size w0 W → w0.heap.size < Wp.heap.size → R k v Wp W → ∃ a n c, v = #[.slice a n c] ∧ n ≤ 140737488355328 ∧ BAt W a n (ls.getD k []) ∧ ∀ x, 0 < n → a = some x → x.block < w0.heap.size ∨ Wp.heap.size ≤ x.block
def Str.longest (ls : List (List Int)) : Nat := (Str.all [] ls).length
end Go.Proofs.Ytpannhbmelcpfaa
namespace Go.Proofs.Ytpannhbmelcpfaa
open Go.RowKit Go.Shelf
set_option linter.unusedVariables false
attribute [local go_sem] Oper.semAt_some
/-- The slice a of len slices of bytes reads as ls. -/
structure RAt (W : World) (a : Option Addr) (len : Nat) (ls : List (List Int)) : Prop where
  count : ls.length = len
  row : ∃ b o, ∃ (av : Nat → Option Addr) (nv cv : Nat → Nat), ∀ k, k < len → a = some ⟨b, o, none⟩ ∧ b < W.heap.size ∧ W.cell? ⟨b, o + k, none⟩ = some (.slice (av k) (nv k) (cv k)) ∧ BAt W (av k) (nv k) (ls.getD k []) ∧ nv k ≤ 140737488355328
theorem RAt.below {W W' : World} {a : Option Addr} {len : Nat} {ls : List (List Int)} (h : RAt W a len ls) (hb : Below W.heap.size W W') : RAt W' a len ls := by
  obtain ⟨b, o, av, nv, cv, hr⟩ := h.row
  refine ⟨h.count, b, o, av, nv, cv, fun k hk => ?_⟩
  obtain ⟨h1, h2, h3, h4, h5⟩ := hr k hk
  exact ⟨h1, by have := hb.size; omega, (hb.cell (p := ⟨b, o + k, none⟩) h2).trans h3, h4.below hb, h5⟩
theorem BAt.lt {W : World} {a : Option Addr} {n : Nat} {l : List Int} (h : BAt W a n l) (h0 : 0 < n) (x : Addr) (hx : a = some x) : x.block < W.heap.size := by
  obtain ⟨b, o, hr⟩ := h.row
  obtain ⟨h1, h2, _⟩ := hr 0 h0
  rw [h1] at hx; cases hx; exact h2
theorem below_of_alloc {w W : World} {o : Obj} (h : Below (w.alloc o).heap.size (w.alloc o) W) : Below w.heap.size w W :=
  ((Below.refl _ w).alloc (Nat.le_refl _) o).trans (h.mono (by simp))
/-- Two slices laid side by side. -/
theorem rat_two (w : World) (a b : Option Addr) (n m c d : Nat) (la lb : List Int) (ha : BAt w a n la) (hb : BAt w b m lb) (hn : n ≤ 140737488355328) (hm : m ≤ 140737488355328) :
    RAt (w.alloc (.cells #[.slice a n c, .slice b m d] 25)) (some ⟨w.heap.size, 0, none⟩) 2 [la, lb] := by
  have hbel : Below w.heap.size w (w.alloc (.cells #[.slice a n c, .slice b m d] 25)) := (Below.refl _ w).alloc (Nat.le_refl _) _
  refine ⟨rfl, w.heap.size, 0, fun k => if k = 0 then a else b, fun k => if k = 0 then n else m, fun k => if k = 0 then c else d, fun k hk => ?_⟩
  match k, hk with
  | 0, _ => exact ⟨rfl, by simp, by simp [go_sem], ha.below hbel, hn⟩
  | 1, _ => exact ⟨rfl, by simp, by simp [go_sem], hb.below hbel, hm⟩
end Go.Proofs.Ytpannhbmelcpfaa
