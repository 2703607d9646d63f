/-
  The document's examples of layer 3: the parsers, and wire.Each over single bytes.
-/
import Derived.Test.YtppgjodehphaeaaWirePartint
import Derived.Test.YtppgjodehphaeaaWireWr
import Derived.Lib.SlBytesConst
namespace Go.Proofs.Ytppgjodehphaeaa
open Go.RowKit Go.Shelf
set_option linter.unusedVariables false
theorem took_keep {w w' : World} {R : Nat} (h : w.grownBy w' (some R)) (U : Nat) : Keep2 w w' R (some U) := ⟨h.os, h.tape, h.output, h.size, fun k hk h1 _ => h.block k hk (fun e => h1 (by simpa using e))⟩
theorem fail_keep {w w' : World} {U : Nat} (h : w.grownBy w' (some U)) (R : Nat) : Keep2 w w' R (some U) := ⟨h.os, h.tape, h.output, h.size, fun k hk _ h2 => h.block k hk h2⟩
theorem keep2_trans {a b c : World} {R U : Nat} (h : Keep2 a b R (some U)) (k : Keep2 b c R (some U)) : Keep2 a c R (some U) := h.trans k (fun x e => .inl e)
def isV (v : Value) (u : Value) (_ : World) : Prop := u = v
theorem byte1 (l : List Int) (h : 0 < l.length) : Num (l.take 1) = l.getD 0 0 := by
  cases l with
  | nil => simp at h
  | cons x l => simp [Num]
theorem info_int : (Try.prog.info? 3).map (fun i => (i.zero, i.size, i.bytes)) = some (some (Value.int .i64 0), 1, 8) := by kernel_rfl
/-- A parser of one byte. -/
def ByteParser (g : Nat) : Prop := ∀ (R U : Nat) (a : Option Addr) (n c : Nat) (l : List Int) (w : World), RdAt w R U a n c l → 1 ≤ n → Calls Try.prog g #[.pointer (some ⟨R, 0, none⟩)] w (ParseOk R U (n - 1) (l.drop 1) (isV (.int .i64 (l.getD 0 0))) w)
def EachOk (l : List Int) (w : World) (e : Ending) (w' : World) : Prop := ∃ a c, e = .returned (.tuple #[.slice a l.length c, .int .i64 0]) ∧ w'.ownsRow w.heap.size 3 1 (.slice a l.length c) l.length (l.map (.int .i64)) ∧ Below w.heap.size w w'
def EachMany (w : World) (e : Ending) (w' : World) : Prop := e = .returned (.tuple #[.slice none 0 0, .int .i64 3]) ∧ Below w.heap.size w w'
def EachPost (n most : Nat) (l : List Int) (w : World) (e : Ending) (w' : World) : Prop := if n ≤ most then EachOk l w e w' else EachMany w e w'
theorem restA_blk {a : Option Addr} {c k : Nat} {x : Addr} (h : restA a c k = some x) : ∃ y, a = some y ∧ x.block = y.block := by
  unfold restA at h
  split at h
  · exact ⟨x, h, rfl⟩
  · cases a with
    | none => cases h
    | some y =>
      simp only [Option.map_some, Option.some.injEq] at h
      refine ⟨y, rfl, ?_⟩
      rw [← h]; unfold Addr.add; split <;> rfl
end Go.Proofs.Ytppgjodehphaeaa
namespace Go.Proofs.Ytppgjodehphaeaa
open Go.RowKit Go.Shelf
set_option linter.unusedVariables false
theorem lit_bat' {W : World} {g : Nat} {l : List Int} {fr : Nat × Nat} (h : W.heap[g]? = some (.cells (l.map (Value.int .u8)).toArray 5 fr)) (hl : Str.Ok l) (hn : l.length ≤ 9223372036854775807) : BAt W (some ⟨g, 0, none⟩) l.length l := by
  refine ⟨rfl, hn, g, 0, fun i hi => ⟨rfl, (Array.getElem?_eq_some_iff.1 h).1, ?_, hl i⟩⟩
  rw [cell_of_row W g _ _ _ _ h]
  simp [List.getD_eq_getElem?_getD, List.getElem?_eq_getElem hi]
def wAlSt (w : World) (W : World) : Prop := BAt W (some ⟨w.heap.size, 0, none⟩) 3 [1, 2, 3] ∧ Below w.heap.size w W
theorem wAlSt.below {w W W' : World} (h : wAlSt w W) (hb : Below W.heap.size W W') : wAlSt w W' := ⟨h.1.below hb, h.2.trans (hb.mono h.2.size)⟩
def IsRet (v : Value) (w : World) (e : Ending) (w' : World) : Prop := e = .returned v ∧ Below w.heap.size w w'
def Each3 (w : World) (e : Ending) (w' : World) : Prop := ∃ g c, e = .returned (.tuple #[.slice (some ⟨g, 0, none⟩) 3 c, .int .i64 0]) ∧ w'.cell? ⟨g, 2, none⟩ = some (.int .i64 3) ∧ g < w'.heap.size ∧ Below w.heap.size w w'
end Go.Proofs.Ytppgjodehphaeaa
