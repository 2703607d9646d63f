
/-
  Stores of a whole struct into a block; what a parser of a struct leaves.
-/
import Derived.Test.YtedhmoihlfjbdaaWirePartint
namespace Go.Proofs.Ytedhmoihlfjbdaa
open Go.RowKit Go.Shelf
set_option linter.unusedVariables false
/-- The cells from i on of block b set to vs. -/
def putL (W : World) (b : Nat) : Nat → List Value → World
  | _, [] => W
  | i, v :: vs => putL (W.setCell ⟨b, i, none⟩ v) b (i + 1) vs
/-- W2 is W but for block b, which holds cs. -/
structure Put (W W2 : World) (b : Nat) (cs : Array Value) (t : TypeId) : Prop where
  row : W2.heap[b]? = some (.cells cs t (0, 0))
  grown : W.grownBy W2 (some b)
  size : W2.heap.size = W.heap.size
theorem putL_grown (b : Nat) : ∀ (vs : List Value) (i : Nat) (W : World), W.grownBy (putL W b i vs) (some b) ∧ (putL W b i vs).heap.size = W.heap.size
  | [], i, W => ⟨⟨rfl, rfl, rfl, Nat.le_refl _, fun _ _ _ => rfl⟩, rfl⟩
  | v :: vs, i, W => by
    obtain ⟨h1, h2⟩ := putL_grown b vs (i + 1) (W.setCell ⟨b, i, none⟩ v)
    have hz : (W.setCell ⟨b, i, none⟩ v).heap.size = W.heap.size := by simp
    refine ⟨⟨h1.os, h1.tape, h1.output, (hz ▸ h1.size : _), fun k hk hne => ?_⟩, h2.trans hz⟩
    exact (h1.block k (by omega) hne).trans (Below.heap_setCell W _ _ k (fun e => hne (by rw [e])))
theorem putL_other (b k : Nat) (hk : k ≠ b) : ∀ (vs : List Value) (i : Nat) (W : World), (putL W b i vs).heap[k]? = W.heap[k]?
  | [], _, _ => rfl
  | v :: vs, i, W => (putL_other b k hk vs (i + 1) (W.setCell ⟨b, i, none⟩ v)).trans (Below.heap_setCell W _ _ k hk)
theorem putL_row (b : Nat) (t : TypeId) : ∀ (vs : List Value) (i : Nat) (W : World) (cs : List Value), W.heap[b]? = some (.cells cs.toArray t (0, 0)) → i + vs.length = cs.length → (putL W b i vs).heap[b]? = some (.cells (cs.take i ++ vs).toArray t (0, 0))
  | [], i, W, cs, h, hl => by
    simp at hl
    simp only [putL, List.append_nil]
    rw [List.take_of_length_le (by omega)]; exact h
  | v :: vs, i, W, cs, h, hl => by
    have h1 := heap_setCell_same W b i _ t v h
    rw [List.setIfInBounds_toArray] at h1
    have h2 := putL_row b t vs (i + 1) (W.setCell ⟨b, i, none⟩ v) _ h1 (by simp at hl ⊢; omega)
    simp only [putL]
    rw [h2]
    have hi : i < cs.length := by simp at hl; omega
    congr 3
    rw [List.take_add_one, List.getElem?_set_self hi, List.take_set_of_le (Nat.le_refl _)]
    simp
theorem putL_is {W : World} {b : Nat} {t : TypeId} {us vs : List Value} (h : W.heap[b]? = some (.cells us.toArray t (0, 0))) (hl : vs.length = us.length) : Put W (putL W b 0 vs) b vs.toArray t :=
  ⟨by rw [putL_row b t vs 0 W us h (by omega)]; simp, (putL_grown b vs 0 W).1, (putL_grown b vs 0 W).2⟩
/-- What lies from B on is as it was. -/
def Above (B : Nat) (W W' : World) : Prop := W.heap.size ≤ W'.heap.size ∧ ∀ k, B ≤ k → k < W.heap.size → W'.heap[k]? = W.heap[k]?
theorem Above.trans {B : Nat} {a b c : World} (h : Above B a b) (k : Above B b c) : Above B a c := ⟨Nat.le_trans h.1 k.1, fun i hi hl => (k.2 i hi (Nat.lt_of_lt_of_le hl h.1)).trans (h.2 i hi hl)⟩
theorem Above.refl (B : Nat) (W : World) : Above B W W := ⟨Nat.le_refl _, fun _ _ _ => rfl⟩
theorem Above.drewN (B : Nat) (W : World) (j : Nat) : Above B W (W.drewN j) := ⟨Nat.le_refl _, fun _ _ _ => rfl⟩
theorem Above.grown {B r : Nat} {W W' : World} (h : W.grownBy W' (some r)) (hr : r < B) : Above B W W' := ⟨h.size, fun k hk hl => h.block k hl (fun e => by cases e; omega)⟩
theorem Above.new {B r : Nat} {W W' : World} (h : W.grownBy W' (some r)) (hr : W.heap.size ≤ r) : Above B W W' := ⟨h.size, fun k hk hl => h.block k hl (fun e => by cases e; omega)⟩
theorem Above.alloc (B : Nat) (W : World) (o : Obj) : Above B W (W.alloc o) := ⟨by simp, fun k _ hl => heap_alloc_old W o hl⟩
theorem Above.below {B : Nat} {W W' : World} (h : Below W.heap.size W W') : Above B W W' := ⟨h.size, fun k _ hl => h.block k hl⟩
def Steady (B : Nat) (Q : Value → World → Prop) : Prop := ∀ v W W', Above B W W' → Q v W → Q v W'
def AttS (U k : Nat) (Q : Value → World → Prop) (w : World) (e : Ending) (w' : World) : Prop :=
  ∃ v, e = .returned (.tuple #[v, .int .i64 k]) ∧ Q v w' ∧ w'.heap[U]? = some (.cells #[.bool true, .int .i64 0] 219 (0, 0)) ∧ w.grownBy w' (some U)
def PartS (k : Nat) (Q : Value → World → Prop) (w : World) (e : Ending) (w' : World) : Prop :=
  ∃ v, e = .returned (.tuple #[v, .int .i64 k, .int .i64 0]) ∧ Q v w' ∧ Below w.heap.size w w'
def ReadS (Q : Value → World → Prop) (w : World) (e : Ending) (w' : World) : Prop :=
  ∃ v, e = .returned (.tuple #[v, .int .i64 0]) ∧ Q v w' ∧ Below w.heap.size w w'
end Go.Proofs.Ytedhmoihlfjbdaa
