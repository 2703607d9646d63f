
/-
  RtpBack: the walk.
-/
import Derived.Test.YtkoldfoliigifaaRtpAl
import Derived.Test.YtkoldfoliigifaaRtpPlain2
namespace Go.Proofs.Ytkoldfoliigifaa
open Go.RowKit Go.Shelf
set_option linter.unusedVariables false
def z0 : Pk := ⟨false, 0, 0, 0, 0, [], false, 0, [], [], []⟩
theorem z0_at (W : World) : PkAt W z0 zS := ⟨(LIn.nil W 0).1, BAt.none W, BAt.none W, BAt.none W, by decide, by decide, by decide, by decide⟩
/-- The law's packet in its box. -/
structure Lw (w W : World) (p : Pk) (s : Pl) : Prop where
  box : W.heap[w.heap.size]? = some (.cells (pkc p s) 27 (0, 0))
  low : Below w.heap.size w W
theorem Lw.lt {w W : World} {p : Pk} {s : Pl} (h : Lw w W p s) : w.heap.size < W.heap.size := (Array.getElem?_eq_some_iff.1 h.box).1
theorem Lw.below {w W W' : World} {p : Pk} {s : Pl} (h : Lw w W p s) (hb : Below W.heap.size W W') : Lw w W' p s := ⟨(hb.block _ h.lt).trans h.box, h.low.trans (hb.mono h.low.size)⟩
theorem Lw.start (w : World) (p : Pk) (s : Pl) : Lw w (w.alloc (.cells (pkc p s) 27)) p s := ⟨heap_alloc_new w _, (Below.refl _ w).alloc (Nat.le_refl _) _⟩
theorem few_sm {s : Pl} (h : few s = true) : Sm s := by
  unfold few at h; simp at h
  exact ⟨by omega, by omega, by omega, by omega⟩
theorem Own.cap {W : World} {base : Nat} {a : Option Addr} {n c : Nat} {l : List Int} (h : Own W base a n c l) : n ≤ c := by
  rcases h.row.2 with ⟨hv, h0⟩ | ⟨g, cap, cur, hv, _, _, hnc, _⟩
  · omega
  · simp only [Value.slice.injEq, true_and] at hv; omega
def TrueB (w : World) (e : Ending) (w' : World) : Prop := e = .returned (.bool true) ∧ Below w.heap.size w w'
end Go.Proofs.Ytkoldfoliigifaa
