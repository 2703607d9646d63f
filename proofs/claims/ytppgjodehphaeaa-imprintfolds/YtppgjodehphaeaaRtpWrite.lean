
/-
  rtp.Write.
-/
import Derived.Test.YtppgjodehphaeaaRtpEnc
namespace Go.Proofs.Ytppgjodehphaeaa
open Go.RowKit Go.Shelf
set_option linter.unusedVariables false
/-- Bytes and an error: new bytes l. -/
def WrOut (f : Int) (l : List Int) (w : World) (e : Ending) (w' : World) : Prop :=
  ∃ a n c, e = .returned (.tuple #[.slice a n c, .int .i64 f]) ∧ Own w' w.heap.size a n c l ∧ Below w.heap.size w w'
def wcode (p : Pk) (s : Pl) : Int :=
  if p.pt < 0 ∨ 127 < p.pt ∨ vext p s = false ∨ vpad p.pad s.nd = false then 1 else if 15 < s.nc then 3 else if 1500 < sz p s then 2 else 0
def wbytes (p : Pk) (s : Pl) : List Int := if wcode p s = 0 then enc p s else []
theorem WrOut.nil (f : Int) (w w' : World) (hb : Below w.heap.size w w') : WrOut f [] w (.returned (.tuple #[.slice none 0 0, .int .i64 f])) w' :=
  ⟨none, 0, 0, rfl, ⟨World.ownsRow_nil _ _ _ _, Str.ok_nil⟩, hb⟩
end Go.Proofs.Ytppgjodehphaeaa
