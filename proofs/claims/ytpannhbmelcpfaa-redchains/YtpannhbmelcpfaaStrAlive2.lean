/-
  The document's examples of layer 4.
-/
import Derived.Test.YtpannhbmelcpfaaStrFold
import Derived.Laws.BytesString
namespace Go.Proofs.Ytpannhbmelcpfaa
open Go.RowKit Go.Shelf
set_option linter.unusedVariables false
attribute [local go_sem] Oper.semAt_some
def TrueBelow (w : World) (e : Ending) (w' : World) : Prop := e = .returned (.bool true) ∧ Below w.heap.size w w'
/-- Bytes as a string's. -/
def bytesOf (l : List Int) : ByteArray := l.foldl (fun r n => r.push (UInt8.ofNat n.toNat)) ByteArray.empty
theorem str_of (W : World) (a : Option Addr) (n c : Nat) (l : List Int) (h : BAt W a n l) : (convert 25 9 (.slice a n c)).run Try.prog W = .ok (.string (bytesOf l)) W := by
  rw [run_convert_bytes_string (P := Try.prog) W 25 9 5 a n c Try.underlying25 Try.underlying5 Try.underlying9]
  cases a with
  | none =>
    have h0 : n = 0 := by
      obtain ⟨b, o, hr⟩ := h.row
      rcases Nat.eq_zero_or_pos n with h' | h'
      · exact h'
      · have := (hr 0 h').1; cases this
    subst h0
    have hl : l = [] := List.eq_nil_of_length_eq_zero h.len
    subst hl
    simp [Conv.bytesToString, Sem.run_pure]; rfl
  | some x =>
    refine run_bytesToString (P := Try.prog) W x n c l ?_
    have hfc : (Builtin.firstCells 1 n (.slice (some x) n c)).run Try.prog W = .ok (l.map (Value.int .u8)).toArray W := by
      by_cases h0 : n = 0
      · subst h0
        have hl : l = [] := List.eq_nil_of_length_eq_zero h.len
        subst hl
        exact run_firstCells_some (P := Try.prog) W 1 0 x 0 c [] (by simp) (by simp)
      · have hpos : 0 < ((l.take n).map (Value.int .u8)).length := by have := h.len; simp; omega
        obtain ⟨ad, e, hsrc⟩ := bat_src h n hpos
        cases e
        rw [List.take_of_length_le (by have := h.len; omega)] at hsrc
        exact run_firstCells_some (P := Try.prog) W 1 n x n c _ (by have := h.len; simp; omega) hsrc
    simpa [Builtin.firstCells] using hfc
/-- What a slice of bytes written out reads as. -/
theorem lit_bat {W : World} {g : Nat} {l : List Int} (h : W.heap[g]? = some (.cells (l.map (Value.int .u8)).toArray 5 (0, 0))) (hl : Str.Ok l) (hn : l.length ≤ 9223372036854775807) : BAt W (some ⟨g, 0, none⟩) l.length l := by
  refine ⟨rfl, hn, g, 0, fun i hi => ⟨rfl, (Array.getElem?_eq_some_iff.1 h).1, ?_, hl i⟩⟩
  rw [cell_of_row W g _ _ _ _ h]
  simp [List.getD_eq_getElem?_getD, List.getElem?_eq_getElem hi]
def litRel (ls : List (List Int)) (k : Nat) (v : Array Value) (Wp W : World) : Prop :=
  ∃ g, Wp.heap.size ≤ g ∧ v = #[.slice (some ⟨g, 0, none⟩) (ls.getD k []).length (ls.getD k []).length] ∧ W.heap[g]? = some (.cells ((ls.getD k []).map (Value.int .u8)).toArray 5 (0, 0))
theorem ok_lit {l : List Int} (h : l.all (fun x => decide (0 ≤ x) && decide (x < 256)) = true) : Str.Ok l := fun i => by
  by_cases hi : i < l.length
  · rw [List.getD_eq_getElem?_getD, List.getElem?_eq_getElem hi]
    have := List.all_eq_true.1 h _ (List.getElem_mem hi)
    simpa using this
  · rw [getD_out (by omega)]; omega
end Go.Proofs.Ytpannhbmelcpfaa
namespace Go.Proofs.Ytpannhbmelcpfaa
open Go.RowKit Go.Shelf
set_option linter.unusedVariables false
theorem lit_new {W : World} {g : Nat} {o : Obj} (h : g = W.heap.size) : (W.alloc o).heap[g]? = some o := by subst h; exact heap_alloc_new W o
theorem lit_old {W : World} {g : Nat} {o o' : Obj} (h : g = W.heap.size) : ((W.alloc o).alloc o').heap[g]? = some o := by
  subst h; exact (Below.heap_alloc _ _ _ (by simp)).trans (heap_alloc_new W o)
theorem grown_below {W W' : World} (h : Below W.heap.size W W') (r : Option Nat) : W.grownBy W' r := ⟨h.os, h.tape, h.output, h.size, fun k hk _ => h.block k hk⟩
end Go.Proofs.Ytpannhbmelcpfaa
