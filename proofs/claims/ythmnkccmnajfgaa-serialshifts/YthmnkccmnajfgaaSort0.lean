/-
  The row that is sorted, as the walks of slices' stable sort see it.
-/
import Derived.Test.YthmnkccmnajfgaaWide
import Derived.Sort.LotA
import Derived.BigRegion
import Derived.Deep.LoopGhost
namespace Go.Proofs.Ythmnkccmnajfgaa
open Go.RowKit Go.Sort
set_option linter.unusedVariables false

/-- In w the row of block blk holds the numbers d, and can be written; all other blocks are as in w0. -/
structure SRow (blk off : Nat) (w0 : World) (d : Array Int) (w : World) : Prop where
  cell : ∀ j, j < d.size → w.cell? ⟨blk, off + j, none⟩ = some (.int .u16 d[j]!)
  fro : ∀ j, j < d.size → w.frozen? ⟨blk, off + j, none⟩ = false
  others : w0.grownBy w (some blk)
  size : w.heap.size = w0.heap.size
theorem SRow.drewN {blk off : Nat} {w0 : World} {d : Array Int} {w : World} (S : SRow blk off w0 d w) (n : Nat) : SRow blk off w0 d (w.drewN n) :=
  ⟨S.cell, S.fro, gb_trans S.others (grownBy_drewN _ _ _), S.size⟩
theorem bang_set_same (d : Array Int) (i : Nat) (x : Int) (hi : i < d.size) : (d.setIfInBounds i x)[i]! = x := by
  rw [getElem!_pos _ i (by simpa using hi), Array.getElem_setIfInBounds, if_pos rfl]
  exact hi
theorem bang_set_other (d : Array Int) (i k : Nat) (x : Int) (hk : k ≠ i) : (d.setIfInBounds i x)[k]! = d[k]! := by
  by_cases h : k < d.size
  · rw [getElem!_pos _ k (by simpa using h), getElem!_pos d k h, Array.getElem_setIfInBounds, if_neg (Ne.symm hk)]
  · rw [getElem!_neg _ k (by simpa using h), getElem!_neg d k h]
theorem SRow.set {blk off : Nat} {w0 : World} {d : Array Int} {w : World} (S : SRow blk off w0 d w) (i : Nat) (x : Int) (hi : i < d.size) : SRow blk off w0 (d.setIfInBounds i x) (w.setCell ⟨blk, off + i, none⟩ (.int .u16 x)) := by
  refine ⟨fun j hj => ?_, fun j hj => ?_, gb_trans S.others (grownBy_setOwn _ _ _ _), ?_⟩
  · rw [Array.size_setIfInBounds] at hj
    by_cases e : j = i
    · subst e
      rw [bang_set_same d j x hj]
      exact World.cell?_setCell_same _ _ _ (S.cell j hj)
    · rw [bang_set_other d i j x e, ← S.cell j hj]
      exact World.cell?_setCell_other _ _ _ _ (by intro h; simp at h)
  · rw [Array.size_setIfInBounds] at hj
    rw [← S.fro j hj]; simp [go_sem]
  · simpa using S.size
theorem SRow.swap {blk off : Nat} {w0 : World} {d : Array Int} {w : World} (S : SRow blk off w0 d w) (i j : Nat) (hi : i < d.size) (hj : j < d.size) :
    SRow blk off w0 (swp d i j) ((w.setCell ⟨blk, off + i, none⟩ (.int .u16 d[j]!)).setCell ⟨blk, off + j, none⟩ (.int .u16 d[i]!)) :=
  (S.set i d[j]! hi).set j d[i]! (by simpa using hj)

/-- What is asked of the comparison (a closure over cb): in every world of the sort it returns cf x y, and at most draws. -/
def CmpOk (P : Program) (g : Nat) (cb : Value) (cf : Int → Int → Int) (blk off n : Nat) (w0 : World) : Prop :=
  ∀ (d : Array Int) (w : World), d.size = n → SRow blk off w0 d w → ∀ i j, i < n → j < n → Calls P g #[.int .u16 d[i]!, .int .u16 d[j]!, cb] w (Drawn (.int .i64 (cf d[i]! d[j]!)) w)
def ltC (cf : Int → Int → Int) (x y : Int) : Bool := decide (cf x y < 0)
def SortPost (blk off : Nat) (w0 : World) (Q : Array Int → Prop) (e : Ending) (w' : World) : Prop :=
  e = .returned (.tuple #[]) ∧ ∃ d', SRow blk off w0 d' w' ∧ Q d'

theorem insI_go (lt : Int → Int → Bool) (a j : Nat) (d : Array Int) (hj : a < j) (hl : lt d[j]! d[j - 1]! = true) : insInner lt a j d = insInner lt a (j - 1) (swp d j (j - 1)) := by
  obtain ⟨k, rfl⟩ : ∃ k, j = k + 1 := ⟨j - 1, by omega⟩
  rw [insInner]
  simp only [Nat.add_sub_cancel] at hl ⊢
  simp [hj, hl]
theorem insI_stop (lt : Int → Int → Bool) (a j : Nat) (d : Array Int) (h : j ≤ a ∨ lt d[j]! d[j - 1]! = false) : insInner lt a j d = d := by
  cases j with
  | zero => rw [insInner]
  | succ k =>
    rw [insInner]
    simp only [Nat.add_sub_cancel] at h
    rcases h with h | h
    · simp [show ¬ k + 1 > a by omega]
    · simp [h]
theorem insO_go (lt : Int → Int → Bool) (a b i : Nat) (d : Array Int) (h : i < b) : insOuter lt a b i d = insOuter lt a b (i + 1) (insInner lt a i d) := by rw [insOuter, if_pos h]
theorem insO_stop (lt : Int → Int → Bool) (a b i : Nat) (d : Array Int) (h : ¬ i < b) : insOuter lt a b i d = d := by rw [insOuter, if_neg h]
end Go.Proofs.Ythmnkccmnajfgaa
