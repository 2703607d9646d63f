/-
  wire.attempt: what its deferred closure and it itself do; the parts that hang on no type.
-/
import Derived.Test.YtedhmoihlfjbdaaWireNum
import Derived.Defers
import Derived.Recover
import Derived.LaidEql
namespace Go.Proofs.Ytedhmoihlfjbdaa
open Go.RowKit Go.Shelf
set_option linter.unusedVariables false
theorem neq_ptr_same (w : World) (t te : TypeId) (j : TypeInfo) (a : Addr) (hp : Try.prog.underlying t = some (.pointer te)) (hte : Try.prog.info? te = some j) :
    (binOp .neq t (.pointer (some a)) (.pointer (some a))).run Try.prog w = .ok (.bool false) w := by
  have h : ∀ d : Nat, (Op.equalIn (d + 1) t (.pointer (some a)) (.pointer (some a))).run Try.prog w = .ok true w := fun d => by
    simp [Op.equalIn, run_underlying hp, typeInfo, sizeOf, run_sameAddr_same, hte]
  simp only [binOp]
  simp [Op.equal, Op.maxDepth, h 9999]
theorem neq_run (w : World) (U : Nat) : (binOp .neq 222 (.pointer (some ⟨U, 0, none⟩)) (.pointer (some ⟨U, 0, none⟩))).run Try.prog w = .ok (.bool false) w := by
  have h2 : (Try.prog.info? 219).isSome = true := by kernel_rfl
  obtain ⟨j, hj⟩ := Option.isSome_iff_exists.1 h2
  exact neq_ptr_same w 222 219 j _ Try.underlying222 hj
/-- What a parser that ends well leaves: n' bytes, l', are left; Q tells of its value. -/
def ParseOk (R U : Nat) (n' : Nat) (l' : List Int) (Q : Value → World → Prop) (w : World) (e : Ending) (w' : World) : Prop :=
  ∃ v a' c', e = .returned v ∧ RdAt w' R U a' n' c' l' ∧ Keep2 w w' R (some U) ∧ Q v w'
/-- What a parser that fails leaves. -/
def ParseFail (R U : Nat) (f : Int) (w : World) (e : Ending) (w' : World) : Prop :=
  e = .panicked [{ v := failV U, recovered := false }] ∧ w'.heap[U]? = some (.cells #[.bool false, .int .i64 f] 219 (0, 0)) ∧ Keep2 w w' R (some U)
/-- What attempt leaves where the parser ends well. -/
def AttOk (U k : Nat) (Q : Value → World → Prop) (w : World) (e : Ending) (w' : World) : Prop :=
  ∃ v w1, e = .returned (.tuple #[v, .int .i64 k]) ∧ Q v w1 ∧ w1.grownBy w' (some U) ∧ w'.heap[U]? = some (.cells #[.bool true, .int .i64 0] 219 (0, 0)) ∧ w.grownBy w' (some U) ∧ w.heap.size ≤ w1.heap.size
def AttFail (U : Nat) (f : Int) (z : Value) (w : World) (e : Ending) (w' : World) : Prop :=
  e = .returned (.tuple #[z, .int .i64 0]) ∧ w'.heap[U]? = some (.cells #[.bool true, .int .i64 f] 219 (0, 0)) ∧ w.grownBy w' (some U)
/-- The world in which the parser is called. -/
def attW (w : World) (U : Nat) (a : Option Addr) (n c : Nat) : World := (w.alloc (.cells #[.pointer (some ⟨U, 0, none⟩)] 222)).alloc (.cells #[.slice a n c, .pointer (some ⟨U, 0, none⟩)] 227)
theorem attW_rd (w : World) (U : Nat) (a : Option Addr) (n c : Nat) (l : List Int) (hu : w.heap[U]? = some (.cells #[.bool false, .int .i64 0] 219 (0, 0))) (hb : BAt w a n l) (hc : n ≤ c) (hne : 0 < n → ∀ x, a = some x → x.block ≠ U) : RdAt (attW w U a n c) (w.heap.size + 1) U a n c l := by
  have hlt := (Array.getElem?_eq_some_iff.1 hu).1
  have hB : Below w.heap.size w (attW w U a n c) := ((Below.refl _ w).alloc (Nat.le_refl _) _).alloc (by simp) _
  exact ⟨lit_new (by simp), (hB.block U hlt).trans hu, by omega, hb.below hB, hc, fun h0 x hx => ⟨by have := hb.lt h0 x hx; omega, hne h0 x hx⟩⟩
theorem attW_box (w : World) (U : Nat) (a : Option Addr) (n c : Nat) (hU : U < w.heap.size) {w1 : World} (hK : Keep2 (attW w U a n c) w1 (w.heap.size + 1) (some U)) : w1.cell? ⟨w.heap.size, 0, none⟩ = some (.pointer (some ⟨U, 0, none⟩)) := by
  have h1 : w1.heap[w.heap.size]? = (attW w U a n c).heap[w.heap.size]? := hK.block w.heap.size (by simp [attW]; omega) (by omega) (by simp; omega)
  have h2 : (attW w U a n c).heap[w.heap.size]? = some (.cells #[.pointer (some ⟨U, 0, none⟩)] 222 (0, 0)) := lit_old rfl
  rw [cell_of_row w1 w.heap.size 0 _ _ _ (h1.trans h2)]; rfl
theorem attW_grown (w : World) (U : Nat) (a : Option Addr) (n c : Nat) {w1 w2 : World} (hK : Keep2 (attW w U a n c) w1 (w.heap.size + 1) (some U)) (hg : w1.grownBy w2 (some U)) : w.grownBy w2 (some U) := by
  have hB : Below w.heap.size w (attW w U a n c) := ((Below.refl _ w).alloc (Nat.le_refl _) _).alloc (by simp) _
  have hz := hB.size
  refine ⟨hg.os.trans (hK.os.trans hB.os), hg.tape.trans (hK.tape.trans hB.tape), hg.output.trans (hK.output.trans hB.output), Nat.le_trans hz (Nat.le_trans hK.size hg.size), fun j hj hne => ?_⟩
  exact (hg.block j (Nat.lt_of_lt_of_le hj (Nat.le_trans hz hK.size)) hne).trans ((hK.block j (Nat.lt_of_lt_of_le hj hz) (by omega) hne).trans (hB.block j hj))
end Go.Proofs.Ytedhmoihlfjbdaa
namespace Go.Proofs.Ytedhmoihlfjbdaa
open Go.RowKit Go.Shelf
set_option linter.unusedVariables false
end Go.Proofs.Ytedhmoihlfjbdaa
namespace Go.Proofs.Ytedhmoihlfjbdaa
open Go.RowKit Go.Shelf
set_option linter.unusedVariables false
/-- Behind 'var own run'. -/
def runW (w : World) : World := w.alloc (.cells #[.bool false, .int .i64 0] 219)
theorem runW_size (w : World) : (runW w).heap.size = w.heap.size + 1 := by simp [runW]
/-- The parser g (over what it has captured), called for the bytes a n c in the world w, ends well: n' bytes, l', are left. -/
structure ParsesOk (F : TypeId) (g : Nat) (cap : Array Value) (a : Option Addr) (n c : Nat) (n' : Nat) (l' : List Int) (Q : Value → World → Prop) (w : World) : Prop where
  nil : ∀ w, (binOp .neq F (.func (.func g) #[] cap) .nilFunc).run Try.prog w = .ok (.bool true) w
  ent : ∀ args w, (callFunc g args).run Try.prog w = .ok (.enter g args) w
  calls : Calls Try.prog g (#[.pointer (some ⟨(runW w).heap.size + 1, 0, none⟩)] ++ cap) (attW (runW w) w.heap.size a n c) (ParseOk ((runW w).heap.size + 1) w.heap.size n' l' Q (attW (runW w) w.heap.size a n c))
structure ParsesFail (F : TypeId) (g : Nat) (cap : Array Value) (a : Option Addr) (n c : Nat) (f : Int) (w : World) : Prop where
  nil : ∀ w, (binOp .neq F (.func (.func g) #[] cap) .nilFunc).run Try.prog w = .ok (.bool true) w
  ent : ∀ args w, (callFunc g args).run Try.prog w = .ok (.enter g args) w
  calls : Calls Try.prog g (#[.pointer (some ⟨(runW w).heap.size + 1, 0, none⟩)] ++ cap) (attW (runW w) w.heap.size a n c) (ParseFail ((runW w).heap.size + 1) w.heap.size f (attW (runW w) w.heap.size a n c))
/-- The Reader that the parser is given. -/
theorem part_rd (w : World) (a : Option Addr) (n c : Nat) (l : List Int) (hb : BAt w a n l) (hc : n ≤ c) : RdAt (attW (runW w) w.heap.size a n c) ((runW w).heap.size + 1) w.heap.size a n c l :=
  attW_rd (runW w) w.heap.size a n c l (heap_alloc_new w _) (hb.below ((Below.refl _ w).alloc (Nat.le_refl _) _)) hc (fun h0 x hx => by have := hb.lt h0 x hx; omega)
theorem part_attW_below (w : World) (a : Option Addr) (n c : Nat) : Below w.heap.size w (attW (runW w) w.heap.size a n c) :=
  ((((Below.refl _ w).alloc (Nat.le_refl _) _).alloc (by simp) _).alloc (by simp; omega) _)
def PartOk (k : Nat) (Q : Value → World → Prop) (w : World) (e : Ending) (w' : World) : Prop :=
  ∃ v w1, e = .returned (.tuple #[v, .int .i64 k, .int .i64 0]) ∧ Q v w1 ∧ w1.grownBy w' (some w.heap.size) ∧ Below w.heap.size w w' ∧ w.heap.size < w1.heap.size
def PartFail (z : Value) (f : Int) (w : World) (e : Ending) (w' : World) : Prop := e = .returned (.tuple #[z, .int .i64 0, .int .i64 f]) ∧ Below w.heap.size w w'
def ReadOk (Q : Value → World → Prop) (w : World) (e : Ending) (w' : World) : Prop :=
  ∃ v w1, e = .returned (.tuple #[v, .int .i64 0]) ∧ Q v w1 ∧ w1.grownBy w' (some w.heap.size) ∧ Below w.heap.size w w' ∧ w.heap.size < w1.heap.size
def ReadFail (z : Value) (f : Int) (w : World) (e : Ending) (w' : World) : Prop := e = .returned (.tuple #[z, .int .i64 f]) ∧ Below w.heap.size w w'
theorem part_below (w : World) {w2 : World} (hg : (runW w).grownBy w2 (some w.heap.size)) : Below w.heap.size w w2 :=
  ((Below.refl _ w).alloc (Nat.le_refl _) _).grown hg (by simp) (fun k e => by cases e; exact Nat.le_refl _)
theorem part_post (k : Nat) (Q : Value → World → Prop) (w : World) (v : Value) (w1 w2 : World) (hQ : Q v w1) (hg1 : w1.grownBy w2 (some w.heap.size)) (hg : (runW w).grownBy w2 (some w.heap.size)) (hz : (runW w).heap.size ≤ w1.heap.size) : PartOk k Q w (.returned (.tuple #[v, .int .i64 k, .int .i64 0])) w2 :=
  ⟨v, w1, rfl, hQ, hg1, part_below w hg, by rw [runW_size] at hz; omega⟩
end Go.Proofs.Ytedhmoihlfjbdaa
namespace Go.Proofs.Ytedhmoihlfjbdaa
open Go.RowKit Go.Shelf
set_option linter.unusedVariables false
end Go.Proofs.Ytedhmoihlfjbdaa
namespace Go.Proofs.Ytedhmoihlfjbdaa
open Go.RowKit Go.Shelf
set_option linter.unusedVariables false
end Go.Proofs.Ytedhmoihlfjbdaa
namespace Go.Proofs.Ytedhmoihlfjbdaa
open Go.RowKit Go.Shelf
set_option linter.unusedVariables false
end Go.Proofs.Ytedhmoihlfjbdaa
