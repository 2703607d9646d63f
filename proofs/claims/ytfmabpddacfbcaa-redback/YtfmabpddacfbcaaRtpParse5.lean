
/-
  rtp.Parse.
-/
import Derived.Test.YtfmabpddacfbcaaRtpParse4
namespace Go.Proofs.Ytfmabpddacfbcaa
open Go.RowKit Go.Shelf
set_option linter.unusedVariables false
def pcodeF (n : Nat) (l : List Int) : Int := if 1500 < n then 2 else pcode n l
/-- What Parse leaves: an error and the empty packet, or a packet in new memory. -/
def POut (f : Int) (p : Pk) (w : World) (e : Ending) (w' : World) : Prop :=
  (f ≠ 0 → e = .returned (.tuple #[.agg #[.bool false, .int .i64 0, .int .u16 0, .int .u32 0, .int .u32 0, .slice none 0 0, .bool false, .int .u16 0, .slice none 0 0, .slice none 0 0, .slice none 0 0], .int .i64 f]) ∧ Below w.heap.size w w') ∧
  (f = 0 → ∃ s, e = .returned (.tuple #[.agg (pkc p s), .int .i64 0]) ∧ PkIn w' w.heap.size p s ∧ Below w.heap.size w w')
theorem rp_ag (base : Nat) (p : Pk) (v : Value) (W : World) (h : QPk base p v W) : ∃ x0 x1 x2 x3 x4 a5 n5 c5 x6 x7 a8 n8 c8 a9 n9 c9 a10 n10 c10, v = .agg #[.bool x0, .int .i64 x1, .int .u16 x2, .int .u32 x3, .int .u32 x4, .slice a5 n5 c5, .bool x6, .int .u16 x7, .slice a8 n8 c8, .slice a9 n9 c9, .slice a10 n10 c10] := by
  obtain ⟨s, rfl, _⟩ := h
  exact ⟨_, _, _, _, _, _, _, _, _, _, _, _, _, _, _, _, _, _, _, rfl⟩
theorem PkIn.mono {W : World} {base base' : Nat} {p : Pk} {s : Pl} (h : PkIn W base p s) (hb : base' ≤ base) : PkIn W base' p s :=
  ⟨h.csrc.mono hb, h.ext.mono hb, h.pay.mono hb, h.pad.mono hb, h.seq, h.ts, h.ssrc, h.prof⟩
end Go.Proofs.Ytfmabpddacfbcaa
