/-
  No cell of these rows narrows 'for every input' (looked for: loops, veiled, ifaces, maps, wideKeys, modest, calm, conditions, laid).
  DERIVED. THE GIVEN ROWS OF THIS SEAT. 7 by the template 'for every input the law returns true; each argument reads behind the call as it read before'; 0 by the template 'total and deterministic' (their statements: YtknpdcnhdmbbiaaTotals.lean).
  GIVEN WITH THE SEED: the statements are not yours to turn. If you find one false, say at which input.
  Laid BY PROGRAM, IN A SANDBOX (cutbox-rows.mjs): the forced cells as the released guide's own fill.sh prints them over the translation 3c378ba5a73e64b5… (all of the seat's roots in one cut). By AI agents, Wed Nov 11 2026. No macro, syntax, notation, axiom, sorry.
-/
import Derived.Test.YtknpdcnhdmbbiaaChecked
import GoSem.Claim
import GoSem.ClaimJoined
import GoSem.ClaimMapViews
import Derived.JoinedTies
import Derived.KernelRfl
namespace Go.Proofs.Ytknpdcnhdmbbiaa
/- THE CELL 'sum', in the pinned program and in every row, IS THE sha256 OF THE DUMP (.gsa) THAT YtknpdcnhdmbbiaaProg.lean LOADS. Nothing in Lean hashes anything: it is a label: what it is worth is what the hold of that sum in a sandbox is worth. -/
noncomputable def Try.pinned : Pinned := { name := "ytknpdcnhdmbbiaa", sum := "3c378ba5a73e64b5ca9a410b32daf171f7535a97d2c8c99e4bf5825cddc684db", checked := Try.checked }
namespace Rows
def none {H : Type} : Left H := { results := [], args := [] }

/-- 'confluxlaw03.WireEach': WHATEVER THE INPUT: true; the input reads as it did. -/
def wireEachSpec : ChangeSpec := { name := "wireEach", fn := fun _ => fun
  | [d1, d2, d3] => { results := [.lit (.bool true)], args := [d1, d2, d3] }
  | _ => none }
def wireEachRow : OpenClaim := { program := "ytknpdcnhdmbbiaa", sum := "3c378ba5a73e64b5ca9a410b32daf171f7535a97d2c8c99e4bf5825cddc684db", func := "conflux/confluxlaw03.WireEach", spec := "wireEach", unfollowed := true, recurses := true, apart := false }
def WireEachSaid : Prop := wireEachRow.holds Try.pinned (OpenSpec.ofChange wireEachSpec)

/-- ITS FALSE NEIGHBOUR: 'it returns false'. Refute it at one input. -/
def wireEachWrong : ChangeSpec := { name := "wireEach", fn := fun _ => fun
  | [d1, d2, d3] => { results := [.lit (.bool false)], args := [d1, d2, d3] }
  | _ => none }
def WireEachWrongFalsely : Prop := wireEachRow.holds Try.pinned (OpenSpec.ofChange wireEachWrong)

/-- 'confluxlaw03.WireBack': WHATEVER THE INPUT: true; the input reads as it did. -/
def wireBackSpec : ChangeSpec := { name := "wireBack", fn := fun _ => fun
  | [d1, d2] => { results := [.lit (.bool true)], args := [d1, d2] }
  | _ => none }
def wireBackRow : OpenClaim := { program := "ytknpdcnhdmbbiaa", sum := "3c378ba5a73e64b5ca9a410b32daf171f7535a97d2c8c99e4bf5825cddc684db", func := "conflux/confluxlaw03.WireBack", spec := "wireBack", unfollowed := true, recurses := true, apart := false }
def WireBackSaid : Prop := wireBackRow.holds Try.pinned (OpenSpec.ofChange wireBackSpec)

/-- ITS FALSE NEIGHBOUR: 'it returns false'. Refute it at one input. -/
def wireBackWrong : ChangeSpec := { name := "wireBack", fn := fun _ => fun
  | [d1, d2] => { results := [.lit (.bool false)], args := [d1, d2] }
  | _ => none }
def WireBackWrongFalsely : Prop := wireBackRow.holds Try.pinned (OpenSpec.ofChange wireBackWrong)

/-- 'confluxlaw03.WireParts': WHATEVER THE INPUT: true; the input reads as it did. -/
def wirePartsSpec : ChangeSpec := { name := "wireParts", fn := fun _ => fun
  | [d1, d2, d3] => { results := [.lit (.bool true)], args := [d1, d2, d3] }
  | _ => none }
def wirePartsRow : OpenClaim := { program := "ytknpdcnhdmbbiaa", sum := "3c378ba5a73e64b5ca9a410b32daf171f7535a97d2c8c99e4bf5825cddc684db", func := "conflux/confluxlaw03.WireParts", spec := "wireParts", unfollowed := true, recurses := true, apart := false }
def WirePartsSaid : Prop := wirePartsRow.holds Try.pinned (OpenSpec.ofChange wirePartsSpec)

/-- ITS FALSE NEIGHBOUR: 'it returns false'. Refute it at one input. -/
def wirePartsWrong : ChangeSpec := { name := "wireParts", fn := fun _ => fun
  | [d1, d2, d3] => { results := [.lit (.bool false)], args := [d1, d2, d3] }
  | _ => none }
def WirePartsWrongFalsely : Prop := wirePartsRow.holds Try.pinned (OpenSpec.ofChange wirePartsWrong)

/-- 'confluxlaw05.RtpWrites': WHATEVER THE INPUT: true; the input reads as it did. -/
def rtpWritesSpec : ChangeSpec := { name := "rtpWrites", fn := fun _ => fun
  | [d1, d2] => { results := [.lit (.bool true)], args := [d1, d2] }
  | _ => none }
def rtpWritesRow : OpenClaim := { program := "ytknpdcnhdmbbiaa", sum := "3c378ba5a73e64b5ca9a410b32daf171f7535a97d2c8c99e4bf5825cddc684db", func := "conflux/confluxlaw05.RtpWrites", spec := "rtpWrites", unfollowed := true, recurses := true, apart := false }
def RtpWritesSaid : Prop := rtpWritesRow.holds Try.pinned (OpenSpec.ofChange rtpWritesSpec)

/-- ITS FALSE NEIGHBOUR: 'it returns false'. Refute it at one input. -/
def rtpWritesWrong : ChangeSpec := { name := "rtpWrites", fn := fun _ => fun
  | [d1, d2] => { results := [.lit (.bool false)], args := [d1, d2] }
  | _ => none }
def RtpWritesWrongFalsely : Prop := rtpWritesRow.holds Try.pinned (OpenSpec.ofChange rtpWritesWrong)

/-- 'confluxlaw05.RtpBack': WHATEVER THE INPUT: true; the input reads as it did. -/
def rtpBackSpec : ChangeSpec := { name := "rtpBack", fn := fun _ => fun
  | [d1, d2] => { results := [.lit (.bool true)], args := [d1, d2] }
  | _ => none }
def rtpBackRow : OpenClaim := { program := "ytknpdcnhdmbbiaa", sum := "3c378ba5a73e64b5ca9a410b32daf171f7535a97d2c8c99e4bf5825cddc684db", func := "conflux/confluxlaw05.RtpBack", spec := "rtpBack", unfollowed := true, recurses := true, apart := false }
def RtpBackSaid : Prop := rtpBackRow.holds Try.pinned (OpenSpec.ofChange rtpBackSpec)

/-- ITS FALSE NEIGHBOUR: 'it returns false'. Refute it at one input. -/
def rtpBackWrong : ChangeSpec := { name := "rtpBack", fn := fun _ => fun
  | [d1, d2] => { results := [.lit (.bool false)], args := [d1, d2] }
  | _ => none }
def RtpBackWrongFalsely : Prop := rtpBackRow.holds Try.pinned (OpenSpec.ofChange rtpBackWrong)

/-- 'confluxlaw05.RtpCuts': WHATEVER THE INPUT: true; the input reads as it did. -/
def rtpCutsSpec : ChangeSpec := { name := "rtpCuts", fn := fun _ => fun
  | [d1, d2] => { results := [.lit (.bool true)], args := [d1, d2] }
  | _ => none }
def rtpCutsRow : OpenClaim := { program := "ytknpdcnhdmbbiaa", sum := "3c378ba5a73e64b5ca9a410b32daf171f7535a97d2c8c99e4bf5825cddc684db", func := "conflux/confluxlaw05.RtpCuts", spec := "rtpCuts", unfollowed := true, recurses := true, apart := false }
def RtpCutsSaid : Prop := rtpCutsRow.holds Try.pinned (OpenSpec.ofChange rtpCutsSpec)

/-- ITS FALSE NEIGHBOUR: 'it returns false'. Refute it at one input. -/
def rtpCutsWrong : ChangeSpec := { name := "rtpCuts", fn := fun _ => fun
  | [d1, d2] => { results := [.lit (.bool false)], args := [d1, d2] }
  | _ => none }
def RtpCutsWrongFalsely : Prop := rtpCutsRow.holds Try.pinned (OpenSpec.ofChange rtpCutsWrong)

/-- 'confluxlaw05.RtpPlaces': WHATEVER THE INPUT: true; the input reads as it did. -/
def rtpPlacesSpec : ChangeSpec := { name := "rtpPlaces", fn := fun _ => fun
  | [d1, d2, d3, d4] => { results := [.lit (.bool true)], args := [d1, d2, d3, d4] }
  | _ => none }
def rtpPlacesRow : OpenClaim := { program := "ytknpdcnhdmbbiaa", sum := "3c378ba5a73e64b5ca9a410b32daf171f7535a97d2c8c99e4bf5825cddc684db", func := "conflux/confluxlaw05.RtpPlaces", spec := "rtpPlaces", unfollowed := true, recurses := true, apart := false }
def RtpPlacesSaid : Prop := rtpPlacesRow.holds Try.pinned (OpenSpec.ofChange rtpPlacesSpec)

/-- ITS FALSE NEIGHBOUR: 'it returns false'. Refute it at one input. -/
def rtpPlacesWrong : ChangeSpec := { name := "rtpPlaces", fn := fun _ => fun
  | [d1, d2, d3, d4] => { results := [.lit (.bool false)], args := [d1, d2, d3, d4] }
  | _ => none }
def RtpPlacesWrongFalsely : Prop := rtpPlacesRow.holds Try.pinned (OpenSpec.ofChange rtpPlacesWrong)

/- THE SECOND FORM. 'bulk': how many values and letters a reading holds, each counted each time it is reached (what is shared counts as often as it is met; a slice's spare places count too). A statement '..UptoSaid' is the law's where the arguments, and the package variables that the reading takes, are together of bulk at most 1048576: NARROWER than '..Said'. Prove '..Said' where nothing that the law and all that it calls make is longer than what came in: it says more and counts as full. Else prove '..UptoSaid'. A law counts once. -/
mutual
def uptoBulk {H : Type} : DataW H → Nat
  | .lit (.string bytes) => bytes.length + 1
  | .lit _ => 1
  | .nil => 1
  | .ptr d => uptoBulk d + 1
  | .slice elems spare => uptoBulkAll elems + uptoBulkAll spare + 1
  | .agg parts => uptoBulkAll parts + 1
  | .iface _ d => uptoBulk d + 1
  | .map entries => uptoBulkEntries entries + 1
  | .held _ => 1
def uptoBulkAll {H : Type} : List (DataW H) → Nat
  | [] => 0
  | d :: r => uptoBulk d + uptoBulkAll r
def uptoBulkEntries {H : Type} : List (Lit × DataW H) → Nat
  | [] => 0
  | x :: r => uptoBulkEntry x + uptoBulkEntries r
def uptoBulkEntry {H : Type} : Lit × DataW H → Nat
  | (.string bytes, d) => bytes.length + uptoBulk d + 1
  | (_, d) => uptoBulk d + 1
 end
def uptoSmall : (H : Type) → List (DataW H) → Bool := fun _ ds => decide (uptoBulkAll ds ≤ 1048576)
def OpenSpec.upto (s : _root_.Go.ChangeSpec) : _root_.Go.OpenSpec := { _root_.Go.OpenSpec.ofChange s with cond := some uptoSmall }

/-- 'confluxlaw03.WireEach', WHERE WHAT IT READS IS OF BULK AT MOST 1048576: true; the input reads as it did. -/
def wireEachUptoRow : OpenClaim := { program := "ytknpdcnhdmbbiaa", sum := "3c378ba5a73e64b5ca9a410b32daf171f7535a97d2c8c99e4bf5825cddc684db", func := "conflux/confluxlaw03.WireEach", spec := "wireEach", unfollowed := true, recurses := true, apart := false, narrowed := true }
def WireEachUptoSaid : Prop := wireEachUptoRow.holds Try.pinned (OpenSpec.upto wireEachSpec)

/-- 'confluxlaw03.WireBack', WHERE WHAT IT READS IS OF BULK AT MOST 1048576: true; the input reads as it did. -/
def wireBackUptoRow : OpenClaim := { program := "ytknpdcnhdmbbiaa", sum := "3c378ba5a73e64b5ca9a410b32daf171f7535a97d2c8c99e4bf5825cddc684db", func := "conflux/confluxlaw03.WireBack", spec := "wireBack", unfollowed := true, recurses := true, apart := false, narrowed := true }
def WireBackUptoSaid : Prop := wireBackUptoRow.holds Try.pinned (OpenSpec.upto wireBackSpec)

/-- 'confluxlaw03.WireParts', WHERE WHAT IT READS IS OF BULK AT MOST 1048576: true; the input reads as it did. -/
def wirePartsUptoRow : OpenClaim := { program := "ytknpdcnhdmbbiaa", sum := "3c378ba5a73e64b5ca9a410b32daf171f7535a97d2c8c99e4bf5825cddc684db", func := "conflux/confluxlaw03.WireParts", spec := "wireParts", unfollowed := true, recurses := true, apart := false, narrowed := true }
def WirePartsUptoSaid : Prop := wirePartsUptoRow.holds Try.pinned (OpenSpec.upto wirePartsSpec)

/-- 'confluxlaw05.RtpWrites', WHERE WHAT IT READS IS OF BULK AT MOST 1048576: true; the input reads as it did. -/
def rtpWritesUptoRow : OpenClaim := { program := "ytknpdcnhdmbbiaa", sum := "3c378ba5a73e64b5ca9a410b32daf171f7535a97d2c8c99e4bf5825cddc684db", func := "conflux/confluxlaw05.RtpWrites", spec := "rtpWrites", unfollowed := true, recurses := true, apart := false, narrowed := true }
def RtpWritesUptoSaid : Prop := rtpWritesUptoRow.holds Try.pinned (OpenSpec.upto rtpWritesSpec)

/-- 'confluxlaw05.RtpBack', WHERE WHAT IT READS IS OF BULK AT MOST 1048576: true; the input reads as it did. -/
def rtpBackUptoRow : OpenClaim := { program := "ytknpdcnhdmbbiaa", sum := "3c378ba5a73e64b5ca9a410b32daf171f7535a97d2c8c99e4bf5825cddc684db", func := "conflux/confluxlaw05.RtpBack", spec := "rtpBack", unfollowed := true, recurses := true, apart := false, narrowed := true }
def RtpBackUptoSaid : Prop := rtpBackUptoRow.holds Try.pinned (OpenSpec.upto rtpBackSpec)

/-- 'confluxlaw05.RtpCuts', WHERE WHAT IT READS IS OF BULK AT MOST 1048576: true; the input reads as it did. -/
def rtpCutsUptoRow : OpenClaim := { program := "ytknpdcnhdmbbiaa", sum := "3c378ba5a73e64b5ca9a410b32daf171f7535a97d2c8c99e4bf5825cddc684db", func := "conflux/confluxlaw05.RtpCuts", spec := "rtpCuts", unfollowed := true, recurses := true, apart := false, narrowed := true }
def RtpCutsUptoSaid : Prop := rtpCutsUptoRow.holds Try.pinned (OpenSpec.upto rtpCutsSpec)

/-- 'confluxlaw05.RtpPlaces', WHERE WHAT IT READS IS OF BULK AT MOST 1048576: true; the input reads as it did. -/
def rtpPlacesUptoRow : OpenClaim := { program := "ytknpdcnhdmbbiaa", sum := "3c378ba5a73e64b5ca9a410b32daf171f7535a97d2c8c99e4bf5825cddc684db", func := "conflux/confluxlaw05.RtpPlaces", spec := "rtpPlaces", unfollowed := true, recurses := true, apart := false, narrowed := true }
def RtpPlacesUptoSaid : Prop := rtpPlacesUptoRow.holds Try.pinned (OpenSpec.upto rtpPlacesSpec)

end Rows
end Go.Proofs.Ytknpdcnhdmbbiaa
