
/-
  wire.Part, wire.Read: what is asked of a parser, and what they leave; no type.
-/
import Derived.Test.YtpannhbmelcpfaaWireAtt0
namespace Go.Proofs.Ytpannhbmelcpfaa
open Go.RowKit Go.Shelf
set_option linter.unusedVariables false
/-- Behind 'var own run'. -/
def runW (w : World) : World := w.alloc (.cells #[.bool false, .int .i64 0] 168)
theorem runW_size (w : World) : (runW w).heap.size = w.heap.size + 1 := by simp [runW]
/-- The parser g (over what it has captured), called for the bytes a n c in the world w, ends well: n' bytes, l', are left. -/
structure ParsesOk (F : TypeId) (g : Nat) (cap : Array Value) (a : Option Addr) (n c : Nat) (n' : Nat) (l' : List Int) (Q : Value → World → Prop) (w : World) : Prop where
  nil : ∀ w, (binOp .neq F (.func (.func g) #[] cap) .nilFunc).run Try.prog w = .ok (.bool true) w
  ent : ∀ args w, (callFunc g args).run Try.prog w = .ok (.enter g args) w
  calls : Calls Try.prog g (#[.pointer (some ⟨(runW w).heap.size + 1, 0, none⟩)] ++ cap) (attW (runW w) w.heap.size a n c) (ParseOk ((runW w).heap.size + 1) w.heap.size n' l' Q (attW (runW w) w.heap.size a n c))
structure ParsesFail (F : TypeId) (g : Nat) (cap : Array Value) (a : Option Addr) (n c : Nat) (f : Int) (w : World) : Prop where
  nil : ∀ w, (binOp .neq F (.func (.func g) #[] cap) .nilFunc).run Try.prog w = .ok (.bool true) w
  ent : ∀ args w, (callFunc g args).run Try.prog w = .ok (.enter g args) w
  calls : Calls Try.prog g (#[.pointer (some ⟨(runW w).heap.size + 1, 0, none⟩)] ++ cap) (attW (runW w) w.heap.size a n c) (ParseFail ((runW w).heap.size + 1) w.heap.size f (attW (runW w) w.heap.size a n c))
/-- The Reader that the parser is given. -/
theorem part_rd (w : World) (a : Option Addr) (n c : Nat) (l : List Int) (hb : BAt w a n l) (hc : n ≤ c) : RdAt (attW (runW w) w.heap.size a n c) ((runW w).heap.size + 1) w.heap.size a n c l :=
  attW_rd (runW w) w.heap.size a n c l (heap_alloc_new w _) (hb.below ((Below.refl _ w).alloc (Nat.le_refl _) _)) hc (fun h0 x hx => by have := hb.lt h0 x hx; omega)
theorem part_attW_below (w : World) (a : Option Addr) (n c : Nat) : Below w.heap.size w (attW (runW w) w.heap.size a n c) :=
  ((((Below.refl _ w).alloc (Nat.le_refl _) _).alloc (by simp) _).alloc (by simp; omega) _)
def PartOk (k : Nat) (Q : Value → World → Prop) (w : World) (e : Ending) (w' : World) : Prop :=
  ∃ v w1, e = .returned (.tuple #[v, .int .i64 k, .int .i64 0]) ∧ Q v w1 ∧ w1.grownBy w' (some w.heap.size) ∧ Below w.heap.size w w' ∧ w.heap.size < w1.heap.size
def PartFail (z : Value) (f : Int) (w : World) (e : Ending) (w' : World) : Prop := e = .returned (.tuple #[z, .int .i64 0, .int .i64 f]) ∧ Below w.heap.size w w'
def ReadOk (Q : Value → World → Prop) (w : World) (e : Ending) (w' : World) : Prop :=
  ∃ v w1, e = .returned (.tuple #[v, .int .i64 0]) ∧ Q v w1 ∧ w1.grownBy w' (some w.heap.size) ∧ Below w.heap.size w w' ∧ w.heap.size < w1.heap.size
def ReadFail (z : Value) (f : Int) (w : World) (e : Ending) (w' : World) : Prop := e = .returned (.tuple #[z, .int .i64 f]) ∧ Below w.heap.size w w'
theorem part_below (w : World) {w2 : World} (hg : (runW w).grownBy w2 (some w.heap.size)) : Below w.heap.size w w2 :=
  ((Below.refl _ w).alloc (Nat.le_refl _) _).grown hg (by simp) (fun k e => by cases e; exact Nat.le_refl _)
theorem part_post (k : Nat) (Q : Value → World → Prop) (w : World) (v : Value) (w1 w2 : World) (hQ : Q v w1) (hg1 : w1.grownBy w2 (some w.heap.size)) (hg : (runW w).grownBy w2 (some w.heap.size)) (hz : (runW w).heap.size ≤ w1.heap.size) : PartOk k Q w (.returned (.tuple #[v, .int .i64 k, .int .i64 0])) w2 :=
  ⟨v, w1, rfl, hQ, hg1, part_below w hg, by rw [runW_size] at hz; omega⟩
end Go.Proofs.Ytpannhbmelcpfaa
