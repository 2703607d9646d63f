
/-
  A packet as it comes in.
-/
import Derived.Test.YtkoldfoliigifaaRtpEnc
namespace Go.Proofs.Ytkoldfoliigifaa
open Go.RowKit Go.Shelf
set_option linter.unusedVariables false
theorem IntRow.lgat {w : World} {a : Option Addr} {len cap : Nat} {zs : List Int} (h : IntRow .u32 w a len cap zs) : LgAt w a len (zs.take len) := by
  rcases h with ⟨rfl, rfl, rfl, rfl⟩ | ⟨⟨b, off, sp⟩, rfl, hl, hm, hz, hc, hw⟩
  · exact ⟨rfl, 0, 0, fun i hi => by omega⟩
  · refine ⟨by simp; omega, b, off, fun i hi => ?_⟩
    have hs : sp = none := by
      have := World.cell?_spot (hc 0 (by omega)); simpa [Addr.add] using this
    subst hs
    have h1 := hc i (by omega)
    rw [show (Addr.add ⟨b, off, none⟩ i) = ⟨b, off + i, none⟩ from by unfold Addr.add; split <;> simp_all] at h1
    rw [getD_take', if_pos hi]
    refine ⟨rfl, ?_, h1, ?_⟩
    · simp only [World.cell?] at h1
      by_cases hb : b < w.heap.size
      · exact hb
      · simp [Array.getElem?_eq_none (Nat.le_of_not_lt hb)] at h1
    · have : zs.getD i 0 ∈ zs := by
        rw [List.getD_eq_getElem?_getD, List.getElem?_eq_getElem (by omega)]; simp
      have := hw _ this
      generalize zs.getD i 0 = z at this ⊢
      simp [Lit.wf, IntKind.min, IntKind.max, IntKind.bits, IntKind.signed] at this; omega
theorem lit_u16 {x : Int} (h : (Lit.int .u16 x).wf = true) : 0 ≤ x ∧ x < 65536 := by
  simp [Lit.wf, IntKind.min, IntKind.max, IntKind.bits, IntKind.signed] at h; omega
theorem lit_u32 {x : Int} (h : (Lit.int .u32 x).wf = true) : 0 ≤ x ∧ x < 4294967296 := by
  simp [Lit.wf, IntKind.min, IntKind.max, IntKind.bits, IntKind.signed] at h; omega
theorem lit_i64 {x : Int} (h : (Lit.int .i64 x).wf = true) : -9223372036854775808 ≤ x ∧ x ≤ 9223372036854775807 := by
  simp [Lit.wf, IntKind.min, IntKind.max, IntKind.bits, IntKind.signed] at h; omega
theorem pk_rows {w : World} {x0 : Bool} {x1 x2 x3 x4 : Int} {a5 : Option Addr} {n5 c5 : Nat} {z5 : List Int} {x6 : Bool} {x7 : Int} {a8 : Option Addr} {n8 c8 : Nat} {z8 : List Int} {a9 : Option Addr} {n9 c9 : Nat} {z9 : List Int} {a10 : Option Addr} {n10 c10 : Nat} {z10 : List Int}
    (h : (Lit.int .i64 x1).wf = true ∧ (Lit.int .u16 x2).wf = true ∧ (Lit.int .u32 x3).wf = true ∧ (Lit.int .u32 x4).wf = true ∧ IntRow .u32 w a5 n5 c5 z5 ∧ (Lit.int .u16 x7).wf = true ∧ IntRow .u8 w a8 n8 c8 z8 ∧ IntRow .u8 w a9 n9 c9 z9 ∧ IntRow .u8 w a10 n10 c10 z10) :
    PkAt w ⟨x0, x1, x2, x3, x4, z5.take n5, x6, x7, z8.take n8, z9.take n9, z10.take n10⟩ ⟨a5, n5, c5, a8, n8, c8, a9, n9, c9, a10, n10, c10⟩ := by
  obtain ⟨_, h2, h3, h4, h5, h7, h8, h9, h10⟩ := h
  exact ⟨h5.lgat, h8.bat.1, h9.bat.1, h10.bat.1, lit_u16 h2, lit_u32 h3, lit_u32 h4, lit_u16 h7⟩
end Go.Proofs.Ytkoldfoliigifaa
