
/-
  Numbers as they come in.
-/
import Derived.Test.YtppgjodehphaeaaIbLen
namespace Go.Proofs.Ytppgjodehphaeaa
open Go.RowKit Go.Shelf
theorem ib_u16 {x : Int} (h : (Lit.int .u16 x).wf = true) : 0 ≤ x ∧ x < 65536 := by
  simp [Lit.wf, IntKind.min, IntKind.max, IntKind.bits, IntKind.signed] at h; omega
theorem ib_u32 {x : Int} (h : (Lit.int .u32 x).wf = true) : 0 ≤ x ∧ x < 4294967296 := by
  simp [Lit.wf, IntKind.min, IntKind.max, IntKind.bits, IntKind.signed] at h; omega
end Go.Proofs.Ytppgjodehphaeaa
