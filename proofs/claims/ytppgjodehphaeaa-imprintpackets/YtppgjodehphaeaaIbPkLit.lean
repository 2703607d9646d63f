
/-
  ImprintPackets: as the arguments come in.
-/
import Derived.Test.YtppgjodehphaeaaIbPkLaw
import Derived.Test.YtppgjodehphaeaaIbLit
namespace Go.Proofs.Ytppgjodehphaeaa
open Go.RowKit Go.Shelf
set_option linter.unusedVariables false
theorem ib_u8 {x : Int} (h : (Lit.int .u8 x).wf = true) : 0 ≤ x ∧ x < 256 := by
  simp [Lit.wf, IntKind.min, IntKind.max, IntKind.bits, IntKind.signed] at h; omega
def f8 (x0 x1 x2 x3 x4 x5 x6 x7 : Int) : Nat → Int
  | 0 => x0 | 1 => x1 | 2 => x2 | 3 => x3 | 4 => x4 | 5 => x5 | 6 => x6 | 7 => x7 | _ => 0
theorem f8_by (x0 x1 x2 x3 x4 x5 x6 x7 : Int) (h0 : (Lit.int .u8 x0).wf = true) (h1 : (Lit.int .u8 x1).wf = true) (h2 : (Lit.int .u8 x2).wf = true) (h3 : (Lit.int .u8 x3).wf = true) (h4 : (Lit.int .u8 x4).wf = true) (h5 : (Lit.int .u8 x5).wf = true) (h6 : (Lit.int .u8 x6).wf = true) (h7 : (Lit.int .u8 x7).wf = true) : by8 (f8 x0 x1 x2 x3 x4 x5 x6 x7) := fun j => by
  have b0 := ib_u8 h0
  have b1 := ib_u8 h1
  have b2 := ib_u8 h2
  have b3 := ib_u8 h3
  have b4 := ib_u8 h4
  have b5 := ib_u8 h5
  have b6 := ib_u8 h6
  have b7 := ib_u8 h7
  rcases j with _ | _ | _ | _ | _ | _ | _ | _ | j
  all_goals simp only [f8]
  all_goals omega
theorem packets_in (x0 x1 x2 x3 x4 x5 x6 x7 : Int) (a : Option Addr) (n c : Nat) (z : List Int) (y0 y1 y2 y3 y4 y5 y6 y7 : Int) (b : Option Addr) (m d : Nat) (z' : List Int) (sq ss : Int) (w : World) (h : (Lit.int .u8 x0).wf = true ∧ (Lit.int .u8 x1).wf = true ∧ (Lit.int .u8 x2).wf = true ∧ (Lit.int .u8 x3).wf = true ∧ (Lit.int .u8 x4).wf = true ∧ (Lit.int .u8 x5).wf = true ∧ (Lit.int .u8 x6).wf = true ∧ (Lit.int .u8 x7).wf = true ∧ IntRow .u8 w a n c z) (h' : (Lit.int .u8 y0).wf = true ∧ (Lit.int .u8 y1).wf = true ∧ (Lit.int .u8 y2).wf = true ∧ (Lit.int .u8 y3).wf = true ∧ (Lit.int .u8 y4).wf = true ∧ (Lit.int .u8 y5).wf = true ∧ (Lit.int .u8 y6).wf = true ∧ (Lit.int .u8 y7).wf = true ∧ IntRow .u8 w b m d z') (hq : (Lit.int .u16 sq).wf = true) (hs : (Lit.int .u32 ss).wf = true) :
    Calls Try.prog 4 #[.agg #[.int .u8 x0, .int .u8 x1, .int .u8 x2, .int .u8 x3, .int .u8 x4, .int .u8 x5, .int .u8 x6, .int .u8 x7, .slice a n c], .agg #[.int .u8 y0, .int .u8 y1, .int .u8 y2, .int .u8 y3, .int .u8 y4, .int .u8 y5, .int .u8 y6, .int .u8 y7, .slice b m d], .int .u16 sq, .int .u32 ss] w (TrueA w) := by
  obtain ⟨h0, h1, h2, h3, h4, h5, h6, h7, hr⟩ := h
  obtain ⟨g0, g1, g2, g3, g4, g5, g6, g7, gr⟩ := h'
  exact walk_ImprintPackets (f8 x0 x1 x2 x3 x4 x5 x6 x7) (f8 y0 y1 y2 y3 y4 y5 y6 y7) a b n c m d _ _ sq ss w hr.bat.1 hr.bat.2 gr.bat.1 (f8_by _ _ _ _ _ _ _ _ h0 h1 h2 h3 h4 h5 h6 h7) (f8_by _ _ _ _ _ _ _ _ g0 g1 g2 g3 g4 g5 g6 g7) (ib_u16 hq) (ib_u32 hs)
end Go.Proofs.Ytppgjodehphaeaa
