
/-
  What steps write, by the reference.
-/
import Derived.Test.YtknpdcnhdmbbiaaWireWrite
namespace Go.Proofs.Ytknpdcnhdmbbiaa
open Go.RowKit Go.Shelf
set_option linter.unusedVariables false
theorem join_two (w : World) (a b : Option Addr) (n m c d : Nat) (la lb : List Int) (ha : BAt w a n la) (hb : BAt w b m lb) (hn : n ≤ 100000000) (hm : m ≤ 100000000) :
    Calls Try.prog 34 #[.slice (some ⟨w.heap.size, 0, none⟩) 2 2] (w.alloc (.cells #[.slice a n c, .slice b m d] 22)) (NewB (n + m) (la ++ lb) (w.alloc (.cells #[.slice a n c, .slice b m d] 22))) := by
  have h := join_any (some ⟨w.heap.size, 0, none⟩) 2 2 [la, lb] _ (rat_two w a b n m c d la lb ha hb (by omega) (by omega)) (by decide) (fun l hl => by
    simp at hl
    rcases hl with rfl | rfl
    · rw [ha.len]; exact hn
    · rw [hb.len]; exact hm) (n + m) (by simp [ha.len, hb.len])
  simpa using h
end Go.Proofs.Ytknpdcnhdmbbiaa
