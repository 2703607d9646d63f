
/-
  wire.attempt, Part and Read of conflux/api.Packet (a struct).
-/
import Derived.Test.YtfmabpddacfbcaaWireAttS0
namespace Go.Proofs.Ytfmabpddacfbcaa
open Go.RowKit Go.Shelf
set_option linter.unusedVariables false
def attW_pk (w : World) (U : Nat) (a : Option Addr) (n c : Nat) : World := (((w.alloc (.cells #[.pointer (some ⟨U, 0, none⟩)] 85)).alloc (.cells #[.bool false, .int .i64 0, .int .u16 0, .int .u32 0, .int .u32 0, .slice none 0 0, .bool false, .int .u16 0, .slice none 0 0, .slice none 0 0, .slice none 0 0] 36)).alloc (.cells #[.slice a n c, .pointer (some ⟨U, 0, none⟩)] 92)).alloc (.cells #[.bool false, .int .i64 0, .int .u16 0, .int .u32 0, .int .u32 0, .slice none 0 0, .bool false, .int .u16 0, .slice none 0 0, .slice none 0 0, .slice none 0 0] 36)
theorem attW_pk_size (w : World) (U : Nat) (a : Option Addr) (n c : Nat) : (attW_pk w U a n c).heap.size = w.heap.size + 4 := by simp [attW_pk]
theorem attW_pk_below (w : World) (U : Nat) (a : Option Addr) (n c : Nat) : Below w.heap.size w (attW_pk w U a n c) :=
  ((((Below.refl _ w).alloc (Nat.le_refl _) _).alloc (by simp) _).alloc (by simp <;> omega) _).alloc (by simp <;> omega) _
theorem attW_pk_rd (w : World) (U : Nat) (a : Option Addr) (n c : Nat) (l : List Int) (hu : w.heap[U]? = some (.cells #[.bool false, .int .i64 0] 82 (0, 0))) (hb : BAt w a n l) (hc : n ≤ c) (hne : 0 < n → ∀ x, a = some x → x.block ≠ U) : RdAt (attW_pk w U a n c) (w.heap.size + 2) U a n c l := by
  have hlt := (Array.getElem?_eq_some_iff.1 hu).1
  have hB := attW_pk_below w U a n c
  exact ⟨lit_old (by simp), (hB.block U hlt).trans hu, by omega, hb.below hB, hc, fun h0 x hx => ⟨by have := hb.lt h0 x hx; omega, hne h0 x hx⟩⟩
theorem attW_pk_rows (w : World) (U : Nat) (a : Option Addr) (n c : Nat) : (attW_pk w U a n c).heap[w.heap.size]? = some (.cells #[.pointer (some ⟨U, 0, none⟩)] 85 (0, 0)) ∧ (attW_pk w U a n c).heap[w.heap.size + 1]? = some (.cells #[.bool false, .int .i64 0, .int .u16 0, .int .u32 0, .int .u32 0, .slice none 0 0, .bool false, .int .u16 0, .slice none 0 0, .slice none 0 0, .slice none 0 0] 36 (0, 0)) ∧ (attW_pk w U a n c).heap[w.heap.size + 1 + 1 + 1]? = some (.cells #[.bool false, .int .i64 0, .int .u16 0, .int .u32 0, .int .u32 0, .slice none 0 0, .bool false, .int .u16 0, .slice none 0 0, .slice none 0 0, .slice none 0 0] 36 (0, 0)) := by
  refine ⟨?_, ?_, lit_new (by simp)⟩
  · exact (heap_alloc_old _ _ (by simp <;> omega)).trans ((heap_alloc_old _ _ (by simp <;> omega)).trans (lit_old rfl))
  · exact (heap_alloc_old _ _ (by simp <;> omega)).trans (lit_old (by simp))
/-- Behind the result's box and 'var own run'. -/
def runW_pk (w : World) : World := (w.alloc (.cells #[.bool false, .int .i64 0, .int .u16 0, .int .u32 0, .int .u32 0, .slice none 0 0, .bool false, .int .u16 0, .slice none 0 0, .slice none 0 0, .slice none 0 0] 36)).alloc (.cells #[.bool false, .int .i64 0] 82)
theorem runW_pk_size (w : World) : (runW_pk w).heap.size = w.heap.size + 2 := by simp [runW_pk]
theorem runW_pk_below (w : World) : Below w.heap.size w (runW_pk w) := ((Below.refl _ w).alloc (Nat.le_refl _) _).alloc (by simp) _
theorem runW_pk_run (w : World) : (runW_pk w).heap[w.heap.size + 1]? = some (.cells #[.bool false, .int .i64 0] 82 (0, 0)) := lit_new (by simp)
theorem runW_pk_box (w : World) : (runW_pk w).heap[w.heap.size]? = some (.cells #[.bool false, .int .i64 0, .int .u16 0, .int .u32 0, .int .u32 0, .slice none 0 0, .bool false, .int .u16 0, .slice none 0 0, .slice none 0 0, .slice none 0 0] 36 (0, 0)) := lit_old rfl
/-- The Reader that the parser is given. -/
theorem part_rd_pk (w : World) (a : Option Addr) (n c : Nat) (l : List Int) (hb : BAt w a n l) (hc : n ≤ c) : RdAt (attW_pk (runW_pk w) (w.heap.size + 1) a n c) ((runW_pk w).heap.size + 2) (w.heap.size + 1) a n c l :=
  attW_pk_rd (runW_pk w) (w.heap.size + 1) a n c l (runW_pk_run w) (hb.below (runW_pk_below w)) hc (fun h0 x hx => by have := hb.lt h0 x hx; omega)
theorem part_sz_pk (w : World) (a : Option Addr) (n c : Nat) : (attW_pk (runW_pk w) (w.heap.size + 1) a n c).heap.size = w.heap.size + 6 := by rw [attW_pk_size, runW_pk_size]
theorem part_low_pk (w : World) (a : Option Addr) (n c : Nat) : Below w.heap.size w (attW_pk (runW_pk w) (w.heap.size + 1) a n c) :=
  (runW_pk_below w).trans ((attW_pk_below (runW_pk w) (w.heap.size + 1) a n c).mono (runW_pk_below w).size)
end Go.Proofs.Ytfmabpddacfbcaa
