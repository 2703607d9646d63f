/-
  No cell of these rows narrows 'for every input' (looked for: loops, veiled, ifaces, maps, wideKeys, modest, calm, conditions, laid).
  DERIVED. THE GIVEN ROWS OF THIS SEAT. 3 by the template 'for every input the law returns true; each argument reads behind the call as it read before'; 0 by the template 'total and deterministic' (their statements: YtppgjodehphaeaaTotals.lean).
  GIVEN WITH THE SEED: the statements are not yours to turn. If you find one false, say at which input.
  Laid BY PROGRAM, IN A SANDBOX (cutbox-rows.mjs): the forced cells as the released guide's own fill.sh prints them over the translation 897dbbef5c457e8a… (all of the seat's roots in one cut). By AI agents, Wed Nov 11 2026. No macro, syntax, notation, axiom, sorry.
-/
import Derived.Test.YtppgjodehphaeaaChecked
import GoSem.Claim
import GoSem.ClaimJoined
import GoSem.ClaimMapViews
import Derived.JoinedTies
import Derived.KernelRfl
namespace Go.Proofs.Ytppgjodehphaeaa
/- THE CELL 'sum', in the pinned program and in every row, IS THE sha256 OF THE DUMP (.gsa) THAT YtppgjodehphaeaaProg.lean LOADS. Nothing in Lean hashes anything: it is a label: what it is worth is what the hold of that sum in a sandbox is worth. -/
noncomputable def Try.pinned : Pinned := { name := "ytppgjodehphaeaa", sum := "897dbbef5c457e8a92b560746713abc589bd035377c70b944ccadef279ad7955", checked := Try.checked }
namespace Rows
def none {H : Type} : Left H := { results := [], args := [] }

/-- 'confluxlaw12.ImprintOf': WHATEVER THE INPUT: true; the input reads as it did. -/
def imprintOfSpec : ChangeSpec := { name := "imprintOf", fn := fun _ => fun
  | [d] => { results := [.lit (.bool true)], args := [d] }
  | _ => none }
def imprintOfRow : OpenClaim := { program := "ytppgjodehphaeaa", sum := "897dbbef5c457e8a92b560746713abc589bd035377c70b944ccadef279ad7955", func := "conflux/confluxlaw12.ImprintOf", spec := "imprintOf", unfollowed := true, recurses := true, apart := false }
def ImprintOfSaid : Prop := imprintOfRow.holds Try.pinned (OpenSpec.ofChange imprintOfSpec)

/-- ITS FALSE NEIGHBOUR: 'it returns false'. Refute it at one input. -/
def imprintOfWrong : ChangeSpec := { name := "imprintOf", fn := fun _ => fun
  | [d] => { results := [.lit (.bool false)], args := [d] }
  | _ => none }
def ImprintOfWrongFalsely : Prop := imprintOfRow.holds Try.pinned (OpenSpec.ofChange imprintOfWrong)

/-- 'confluxlaw12.ImprintPackets': WHATEVER THE INPUT: true; the input reads as it did. -/
def imprintPacketsSpec : ChangeSpec := { name := "imprintPackets", fn := fun _ => fun
  | [d1, d2, d3, d4] => { results := [.lit (.bool true)], args := [d1, d2, d3, d4] }
  | _ => none }
def imprintPacketsRow : OpenClaim := { program := "ytppgjodehphaeaa", sum := "897dbbef5c457e8a92b560746713abc589bd035377c70b944ccadef279ad7955", func := "conflux/confluxlaw12.ImprintPackets", spec := "imprintPackets", unfollowed := true, recurses := true, apart := false }
def ImprintPacketsSaid : Prop := imprintPacketsRow.holds Try.pinned (OpenSpec.ofChange imprintPacketsSpec)

/-- ITS FALSE NEIGHBOUR: 'it returns false'. Refute it at one input. -/
def imprintPacketsWrong : ChangeSpec := { name := "imprintPackets", fn := fun _ => fun
  | [d1, d2, d3, d4] => { results := [.lit (.bool false)], args := [d1, d2, d3, d4] }
  | _ => none }
def ImprintPacketsWrongFalsely : Prop := imprintPacketsRow.holds Try.pinned (OpenSpec.ofChange imprintPacketsWrong)

/-- 'confluxlaw12.ImprintFolds': WHATEVER THE INPUT: true; the input reads as it did. -/
def imprintFoldsSpec : ChangeSpec := { name := "imprintFolds", fn := fun _ => fun
  | [d1, d2] => { results := [.lit (.bool true)], args := [d1, d2] }
  | _ => none }
def imprintFoldsRow : OpenClaim := { program := "ytppgjodehphaeaa", sum := "897dbbef5c457e8a92b560746713abc589bd035377c70b944ccadef279ad7955", func := "conflux/confluxlaw12.ImprintFolds", spec := "imprintFolds", unfollowed := true, recurses := true, apart := false }
def ImprintFoldsSaid : Prop := imprintFoldsRow.holds Try.pinned (OpenSpec.ofChange imprintFoldsSpec)

/-- ITS FALSE NEIGHBOUR: 'it returns false'. Refute it at one input. -/
def imprintFoldsWrong : ChangeSpec := { name := "imprintFolds", fn := fun _ => fun
  | [d1, d2] => { results := [.lit (.bool false)], args := [d1, d2] }
  | _ => none }
def ImprintFoldsWrongFalsely : Prop := imprintFoldsRow.holds Try.pinned (OpenSpec.ofChange imprintFoldsWrong)

/- THE SECOND FORM. 'bulk': how many values and letters a reading holds, each counted each time it is reached (what is shared counts as often as it is met; a slice's spare places count too). A statement '..UptoSaid' is the law's where the arguments, and the package variables that the reading takes, are together of bulk at most 1048576: NARROWER than '..Said'. Prove '..Said' where nothing that the law and all that it calls make is longer than what came in: it says more and counts as full. Else prove '..UptoSaid'. A law counts once. -/
mutual
def uptoBulk {H : Type} : DataW H → Nat
  | .lit (.string bytes) => bytes.length + 1
  | .lit _ => 1
  | .nil => 1
  | .ptr d => uptoBulk d + 1
  | .slice elems spare => uptoBulkAll elems + uptoBulkAll spare + 1
  | .agg parts => uptoBulkAll parts + 1
  | .iface _ d => uptoBulk d + 1
  | .map entries => uptoBulkEntries entries + 1
  | .held _ => 1
def uptoBulkAll {H : Type} : List (DataW H) → Nat
  | [] => 0
  | d :: r => uptoBulk d + uptoBulkAll r
def uptoBulkEntries {H : Type} : List (Lit × DataW H) → Nat
  | [] => 0
  | x :: r => uptoBulkEntry x + uptoBulkEntries r
def uptoBulkEntry {H : Type} : Lit × DataW H → Nat
  | (.string bytes, d) => bytes.length + uptoBulk d + 1
  | (_, d) => uptoBulk d + 1
 end
def uptoSmall : (H : Type) → List (DataW H) → Bool := fun _ ds => decide (uptoBulkAll ds ≤ 1048576)
def OpenSpec.upto (s : _root_.Go.ChangeSpec) : _root_.Go.OpenSpec := { _root_.Go.OpenSpec.ofChange s with cond := some uptoSmall }

/-- 'confluxlaw12.ImprintOf', WHERE WHAT IT READS IS OF BULK AT MOST 1048576: true; the input reads as it did. -/
def imprintOfUptoRow : OpenClaim := { program := "ytppgjodehphaeaa", sum := "897dbbef5c457e8a92b560746713abc589bd035377c70b944ccadef279ad7955", func := "conflux/confluxlaw12.ImprintOf", spec := "imprintOf", unfollowed := true, recurses := true, apart := false, narrowed := true }
def ImprintOfUptoSaid : Prop := imprintOfUptoRow.holds Try.pinned (OpenSpec.upto imprintOfSpec)

/-- 'confluxlaw12.ImprintPackets', WHERE WHAT IT READS IS OF BULK AT MOST 1048576: true; the input reads as it did. -/
def imprintPacketsUptoRow : OpenClaim := { program := "ytppgjodehphaeaa", sum := "897dbbef5c457e8a92b560746713abc589bd035377c70b944ccadef279ad7955", func := "conflux/confluxlaw12.ImprintPackets", spec := "imprintPackets", unfollowed := true, recurses := true, apart := false, narrowed := true }
def ImprintPacketsUptoSaid : Prop := imprintPacketsUptoRow.holds Try.pinned (OpenSpec.upto imprintPacketsSpec)

/-- 'confluxlaw12.ImprintFolds', WHERE WHAT IT READS IS OF BULK AT MOST 1048576: true; the input reads as it did. -/
def imprintFoldsUptoRow : OpenClaim := { program := "ytppgjodehphaeaa", sum := "897dbbef5c457e8a92b560746713abc589bd035377c70b944ccadef279ad7955", func := "conflux/confluxlaw12.ImprintFolds", spec := "imprintFolds", unfollowed := true, recurses := true, apart := false, narrowed := true }
def ImprintFoldsUptoSaid : Prop := imprintFoldsUptoRow.holds Try.pinned (OpenSpec.upto imprintFoldsSpec)

end Rows
end Go.Proofs.Ytppgjodehphaeaa
