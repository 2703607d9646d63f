
/-
  The document's examples of layer 3: alive.
-/
import Derived.Test.YtpannhbmelcpfaaWireAl0
import Derived.Lib.SlBytesConst
namespace Go.Proofs.Ytpannhbmelcpfaa
open Go.RowKit Go.Shelf
set_option linter.unusedVariables false
theorem lit_bat' {W : World} {g : Nat} {l : List Int} {fr : Nat × Nat} (h : W.heap[g]? = some (.cells (l.map (Value.int .u8)).toArray 5 fr)) (hl : Str.Ok l) (hn : l.length ≤ 9223372036854775807) : BAt W (some ⟨g, 0, none⟩) l.length l := by
  refine ⟨rfl, hn, g, 0, fun i hi => ⟨rfl, (Array.getElem?_eq_some_iff.1 h).1, ?_, hl i⟩⟩
  rw [cell_of_row W g _ _ _ _ h]
  simp [List.getD_eq_getElem?_getD, List.getElem?_eq_getElem hi]
def wAlSt (w : World) (W : World) : Prop := BAt W (some ⟨w.heap.size, 0, none⟩) 3 [1, 2, 3] ∧ Below w.heap.size w W
theorem wAlSt.below {w W W' : World} (h : wAlSt w W) (hb : Below W.heap.size W W') : wAlSt w W' := ⟨h.1.below hb, h.2.trans (hb.mono h.2.size)⟩
def IsRet (v : Value) (w : World) (e : Ending) (w' : World) : Prop := e = .returned v ∧ Below w.heap.size w w'
def Each3 (w : World) (e : Ending) (w' : World) : Prop := ∃ g c, e = .returned (.tuple #[.slice (some ⟨g, 0, none⟩) 3 c, .int .i64 0]) ∧ w'.cell? ⟨g, 2, none⟩ = some (.int .i64 3) ∧ g < w'.heap.size ∧ Below w.heap.size w w'
end Go.Proofs.Ytpannhbmelcpfaa
