
/-
  slices.Values over byte strings; stripe.Fold.
-/
import Derived.Test.YtpannhbmelcpfaaStrSum
import Derived.Test.YtpannhbmelcpfaaRelRange
import Derived.Shelf.Abstract
import Derived.Shelf.RegionOpen
import Derived.OwnWalkIn
import Derived.TacticsInMore
import Derived.LoopNIn
import Derived.LoopIn
namespace Go.Proofs.Ytpannhbmelcpfaa
open Go.RowKit Go.Shelf
set_option linter.unusedVariables false
attribute [local go_sem] Oper.semAt_some
theorem grown_refl (w : World) (r : Option Nat) : w.grownBy w r := ⟨rfl, rfl, rfl, Nat.le_refl _, fun _ _ _ => rfl⟩
def valsPre (B : Nat) (a : Option Addr) (len c b o : Nat) (vals : Nat → Value) (W : World) : Prop :=
  W.cell? ⟨B, 0, none⟩ = some (.slice a len c) ∧ ∀ k, k < len → W.cell? ⟨b, o + k, none⟩ = some (vals k)
def valsRel (vals : Nat → Value) (k : Nat) (v : Array Value) (_ _ : World) : Prop := v = #[vals k]
/-- What Fold is told of an iterator: the k-th value is a slice whose bytes are the k-th of ls; they lie in old memory, or were just made. -/
def FoldsTo (w0 : World) (R : Nat → Array Value → World → World → Prop) (ls : List (List Int)) : Prop :=
  ∀ k v Wp W, k < ls.length → Below w0.heap.size w0 Wp → Below w0.heap.size w0 W → w0.heap.size < Wp.heap.size → R k v Wp W → ∃ a n c, v = #[.slice a n c] ∧ n ≤ 140737488355328 ∧ BAt W a n (ls.getD k []) ∧ ∀ x, 0 < n → a = some x → x.block < w0.heap.size ∨ Wp.heap.size ≤ x.block
def Str.longest (ls : List (List Int)) : Nat := (Str.all [] ls).length
end Go.Proofs.Ytpannhbmelcpfaa
