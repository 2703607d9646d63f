/-
  The document's examples of layer 4.
-/
import Derived.Test.YthfiahdeggmmcaaStrFold
import Derived.Laws.BytesString
namespace Go.Proofs.Ythfiahdeggmmcaa
open Go.RowKit Go.Shelf
set_option linter.unusedVariables false
attribute [local go_sem] Oper.semAt_some
def TrueBelow (w : World) (e : Ending) (w' : World) : Prop := e = .returned (.bool true) ∧ Below w.heap.size w w'
/-- Bytes as a string's. -/
def bytesOf (l : List Int) : ByteArray := l.foldl (fun r n => r.push (UInt8.ofNat n.toNat)) ByteArray.empty
theorem str_of (W : World) (a : Option Addr) (n c : Nat) (l : List Int) (h : BAt W a n l) : (convert 22 9 (.slice a n c)).run Try.prog W = .ok (.string (bytesOf l)) W := by
  rw [run_convert_bytes_string (P := Try.prog) W 22 9 5 a n c Try.underlying22 Try.underlying5 Try.underlying9]
  cases a with
  | none =>
    have h0 : n = 0 := by
      obtain ⟨b, o, hr⟩ := h.row
      rcases Nat.eq_zero_or_pos n with h' | h'
      · exact h'
      · have := (hr 0 h').1; cases this
    subst h0
    have hl : l = [] := List.eq_nil_of_length_eq_zero h.len
    subst hl
    simp [Conv.bytesToString, Sem.run_pure]; rfl
  | some x =>
    refine run_bytesToString (P := Try.prog) W x n c l ?_
    have hfc : (Builtin.firstCells 1 n (.slice (some x) n c)).run Try.prog W = .ok (l.map (Value.int .u8)).toArray W := by
      by_cases h0 : n = 0
      · subst h0
        have hl : l = [] := List.eq_nil_of_length_eq_zero h.len
        subst hl
        exact run_firstCells_some (P := Try.prog) W 1 0 x 0 c [] (by simp) (by simp)
      · have hpos : 0 < ((l.take n).map (Value.int .u8)).length := by have := h.len; simp; omega
        obtain ⟨ad, e, hsrc⟩ := bat_src h n hpos
        cases e
        rw [List.take_of_length_le (by have := h.len; omega)] at hsrc
        exact run_firstCells_some (P := Try.prog) W 1 n x n c _ (by have := h.len; simp; omega) hsrc
    simpa [Builtin.firstCells] using hfc
/-- What a slice of bytes written out reads as. -/
theorem lit_bat {W : World} {g : Nat} {l : List Int} (h : W.heap[g]? = some (.cells (l.map (Value.int .u8)).toArray 5 (0, 0))) (hl : Str.Ok l) (hn : l.length ≤ 9223372036854775807) : BAt W (some ⟨g, 0, none⟩) l.length l := by
  refine ⟨rfl, hn, g, 0, fun i hi => ⟨rfl, (Array.getElem?_eq_some_iff.1 h).1, ?_, hl i⟩⟩
  rw [cell_of_row W g _ _ _ _ h]
  simp [List.getD_eq_getElem?_getD, List.getElem?_eq_getElem hi]
def litRel (ls : List (List Int)) (k : Nat) (v : Array Value) (Wp W : World) : Prop :=
  ∃ g, Wp.heap.size ≤ g ∧ v = #[.slice (some ⟨g, 0, none⟩) (ls.getD k []).length (ls.getD k []).length] ∧ W.heap[g]? = some (.cells ((ls.getD k []).map (Value.int .u8)).toArray 5 (0, 0))
set_option maxHeartbeats 1000000 in
set_option maxRecDepth 100000 in
theorem alive1_rel (n : Nat) (hn : 1 ≤ n) :
    SeqRel Fence.wide n Try.prog 66 #[] (litRel [[1, 2], [3]]) 2 0 (fun _ => True) := by
  rintro l J Jx W hP hJ hJx hY h0
  have HY := Lib.hid hY; clear hY
  have HJ := Lib.hid hJ; have HJx := Lib.hid hJx; clear hJ hJx hP
  obtain ⟨fn, tmps, assign, body, hy, hR⟩ := HY.out 0 #[.slice (some ⟨W.heap.size, 0, none⟩) 2 2] W (W.alloc (.cells #[.int .u8 1, .int .u8 2] 5)) (by decide) h0 (grown_alloc W _) ⟨W.heap.size, Nat.le_refl _, rfl, heap_alloc_new W _⟩ (by omega)
  have HR := Lib.hid hR; clear hR
  refine callsIn_of_wp Try.func66 rfl trivial ?_ rfl
  simp only [Try.ntmps66, List.size_toArray, List.length_cons, List.length_nil, Nat.reduceAdd, Nat.reduceSub, Array.replicate_succ, Array.replicate_zero, List.push_toArray, List.append_toArray, List.nil_append, List.cons_append]
  gi_wp2
  refine HR.out.mono ?_
  clear hy HR
  rintro e W2 (⟨rfl, hJ2, hs2, hk2⟩ | ⟨rfl, hJx2⟩)
  · obtain ⟨fn, tmps, assign, body, hy, hR⟩ := HY.out 1 #[.slice (some ⟨W2.heap.size, 0, none⟩) 1 1] W2 (W2.alloc (.cells #[.int .u8 3] 5)) (by decide) hJ2 (grown_alloc W2 _) ⟨W2.heap.size, Nat.le_refl _, rfl, heap_alloc_new W2 _⟩ (by simp at hs2; omega)
    have HR := Lib.hid hR; clear hR hJ2 hk2
    gi_wp2
    refine HR.out.mono ?_
    clear hy HR
    rintro e W3 (⟨rfl, hJ3, hs3, hk3⟩ | ⟨rfl, hJx3⟩)
    · gi_wp2
      go_end0
      exact ⟨⟨_, rfl⟩, .inl hJ3⟩
    · gi_wp2
      go_end0
      exact ⟨⟨_, rfl⟩, .inr ⟨2, by omega, hJx3⟩⟩
  · gi_wp2
    refine ⟨fun f hf => (by cases hf), ?_⟩
    gi_wp2
    go_end0
    exact ⟨⟨_, rfl⟩, .inr ⟨1, by omega, hJx2⟩⟩
theorem ok_lit {l : List Int} (h : l.all (fun x => decide (0 ≤ x) && decide (x < 256)) = true) : Str.Ok l := fun i => by
  by_cases hi : i < l.length
  · rw [List.getD_eq_getElem?_getD, List.getElem?_eq_getElem hi]
    have := List.all_eq_true.1 h _ (List.getElem_mem hi)
    simpa using this
  · rw [getD_out (by omega)]; omega
theorem fold_alive (w : World) : Calls Try.prog 65 #[.func (.func 66) #[] #[]] w (NewB 2 [2, 2] w) := by
  have h := fold_any w 66 #[] (litRel [[1, 2], [3]]) [[1, 2], [3]] 0 (fun _ => True) (alive1_rel 3 (by omega))
    (enters_of Try.func66 (by kernel_rfl) rfl) (fun w => by kernel_rfl)
    (fun k v Wp W hk _ _ _ hR => by
      obtain ⟨g, hg, hv, hh⟩ := hR
      refine ⟨_, _, _, hv, ?_, lit_bat hh ?_ ?_, fun x _ hx => .inr (by cases hx; exact hg)⟩
      · match k, hk with | 0, _ => decide | 1, _ => decide
      · match k, hk with | 0, _ => exact ok_lit rfl | 1, _ => exact ok_lit rfl
      · match k, hk with | 0, _ => decide | 1, _ => decide)
    (fun k x Wp W hR => by obtain ⟨g, _, hv, _⟩ := hR; exact ⟨_, hv⟩)
    (fun x Wp lo hi hlo hhi s A B row hR hg hrow => by
      obtain ⟨g, h1, hv, hh⟩ := hR
      exact ⟨g, h1, hv, (hg.block g (Array.getElem?_eq_some_iff.1 hh).1 (fun e => by have := hrow g e.symm; omega)).trans hh⟩)
    (fun _ _ => trivial) (by decide)
  exact h
end Go.Proofs.Ythfiahdeggmmcaa
