
/-
  What one step reads: confluxlaw03.one.
-/
import Derived.Test.YtpannhbmelcpfaaWirePartgot
import Derived.Test.YtpannhbmelcpfaaWireWrite
namespace Go.Proofs.Ytpannhbmelcpfaa
open Go.RowKit Go.Shelf
set_option linter.unusedVariables false
/-- What one step that ends well gives: k bytes are read, the number x, the bytes bs. -/
def OnePost (R U : Nat) (a : Option Addr) (n c : Nat) (l : List Int) (k : Nat) (x : Int) (bs : List Int) (w : World) (e : Ending) (w' : World) : Prop :=
  ∃ a' c', e = .returned (.agg #[.int .u64 x, .slice a' bs.length c']) ∧ Own w' w.heap.size a' bs.length c' bs ∧ RdAt w' R U (restA a c k) (n - k) (c - k) (l.drop k) ∧ w.grownBy w' (some R)
/-- What one step that fails gives. -/
def OneFail (U : Nat) (f : Int) (w : World) (e : Ending) (w' : World) : Prop :=
  e = .panicked [{ v := failV U, recovered := false }] ∧ w'.heap[U]? = some (.cells #[.bool false, .int .i64 f] 168 (0, 0)) ∧ w.grownBy w' (some U)
/-- A Reader that has read k bytes, in a world that is else as it was, new blocks aside. -/
theorem RdAt.moved {w w' : World} {R U : Nat} {a : Option Addr} {n c : Nat} {l : List Int} (h : RdAt w R U a n c l) (k : Nat) (hk : k ≤ n) (hg : w.grownBy w' (some R))
    (hrd : w'.heap[R]? = some (.cells #[.slice (restA a c k) (n - k) (c - k), .pointer (some ⟨U, 0, Option.none⟩)] 191 (0, 0))) : RdAt w' R U (restA a c k) (n - k) (c - k) (l.drop k) :=
  ⟨hrd, (hg.block U h.ltU (by simpa using h.ne.symm)).trans h.run, h.ne,
    restA_bat (h.row.same hg.size fun x h0 hx hl => hg.block x.block hl (fun e => (h.far h0 x hx).1 (by simpa using e))) h.cap k hk, by have := h.cap; omega, restA_far h.cap hk h.far⟩
/-- The result's cells, written. -/
def boxW (w : World) (B : Nat) (x : Int) (v : Value) : World := (w.setCell ⟨B, 0, none⟩ (.int .u64 x)).setCell ⟨B, 1, none⟩ v
theorem boxW_grown (w : World) (B : Nat) (x : Int) (v : Value) : w.grownBy (boxW w B x v) (some B) :=
  ⟨rfl, rfl, rfl, by simp [boxW], fun j _ hj => (Below.heap_setCell _ _ _ j (fun e => hj (by rw [e]))).trans (Below.heap_setCell w _ _ j (fun e => hj (by rw [e])))⟩
/-- One step, in numbers: its error (0: none), how many bytes it reads, its number, its bytes. -/
def stepNo (k m : Int) (n : Nat) : Int :=
  if k = 1 ∨ k = 2 ∨ k = 4 ∨ k = 8 then (if (n : Int) < k then 20 else 0) else if k = 0 then (if (n : Int) < m then 20 else 0) else if k = -2 then failOf m else 0
def stepK (k m : Int) (n : Nat) : Nat :=
  if k = 1 ∨ k = 2 ∨ k = 4 ∨ k = 8 then k.toNat else if k = 0 then m.toNat else if k = -1 then n else 0
def stepX (k : Int) (l : List Int) : Int :=
  if k = 1 ∨ k = 2 ∨ k = 4 ∨ k = 8 then Num (l.take k.toNat) else if k = 0 ∨ k = -1 then 0 else l.length
def stepB (k m : Int) (l : List Int) : List Int :=
  if k = 0 ∨ k = -1 then l.take (stepK k m l.length) else []
end Go.Proofs.Ytpannhbmelcpfaa
