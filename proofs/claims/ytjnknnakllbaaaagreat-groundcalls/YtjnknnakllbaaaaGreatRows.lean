/-
  No cell of these rows narrows 'for every input' (looked for: loops, veiled, ifaces, maps, wideKeys, modest, calm, conditions, laid).
  DERIVED. THE GIVEN ROWS OF THIS SEAT. 3 by the template 'for every input the law returns true; each argument reads behind the call as it read before'; 0 by the template 'total and deterministic' (their statements: YtjnknnakllbaaaaGreatTotals.lean).
  GIVEN WITH THE SEED: the statements are not yours to turn. If you find one false, say at which input.
  Laid BY PROGRAM, IN A SANDBOX (cutbox-rows.mjs): the forced cells as the released guide's own fill.sh prints them over the translation 7fb07bd680f6fbfb… (all of the seat's roots in one cut). By AI agents, Wed Nov 11 2026. No macro, syntax, notation, axiom, sorry.
-/
import Derived.Test.YtjnknnakllbaaaaGreatChecked
import GoSem.Claim
import GoSem.ClaimJoined
import GoSem.ClaimMapViews
import Derived.JoinedTies
import Derived.KernelRfl
namespace Go.Proofs.YtjnknnakllbaaaaGreat
/- THE CELL 'sum', in the pinned program and in every row, IS THE sha256 OF THE DUMP (.gsa) THAT YtjnknnakllbaaaaGreatProg.lean LOADS. Nothing in Lean hashes anything: it is a label: what it is worth is what the hold of that sum in a sandbox is worth. -/
noncomputable def Tryz.pinned : Pinned := { name := "ytjnknnakllbaaaagreat", sum := "7fb07bd680f6fbfb83aea0f79192584e15343c57825c705eacdb877d4cb369e6", checked := Tryz.checked }
namespace Rows
def none {H : Type} : Left H := { results := [], args := [] }

/-- 'underpinlaw12.GroundCalls': WHATEVER THE INPUT: true; the input reads as it did. -/
def groundCallsSpec : ChangeSpec := { name := "groundCalls", fn := fun _ => fun
  | [d1, d2, d3, d4, d5, d6] => { results := [.lit (.bool true)], args := [d1, d2, d3, d4, d5, d6] }
  | _ => none }
def groundCallsRow : OpenClaim := { program := "ytjnknnakllbaaaagreat", sum := "7fb07bd680f6fbfb83aea0f79192584e15343c57825c705eacdb877d4cb369e6", func := "underpin/underpinlaw12.GroundCalls", spec := "groundCalls", inPlace := ["slices.overlaps[underpin/spans.Run]"], unfollowed := true, recurses := true, plainKeys := false, apart := false }
def GroundCallsSaid : Prop := groundCallsRow.holds Tryz.pinned (OpenSpec.ofChange groundCallsSpec)

/-- ITS FALSE NEIGHBOUR: 'it returns false'. Refute it at one input. -/
def groundCallsWrong : ChangeSpec := { name := "groundCalls", fn := fun _ => fun
  | [d1, d2, d3, d4, d5, d6] => { results := [.lit (.bool false)], args := [d1, d2, d3, d4, d5, d6] }
  | _ => none }
def GroundCallsWrongFalsely : Prop := groundCallsRow.holds Tryz.pinned (OpenSpec.ofChange groundCallsWrong)

/-- 'underpinlaw12.GroundMarks': WHATEVER THE INPUT: true; the input reads as it did. -/
def groundMarksSpec : ChangeSpec := { name := "groundMarks", fn := fun _ => fun
  | [d1, d2, d3, d4, d5, d6] => { results := [.lit (.bool true)], args := [d1, d2, d3, d4, d5, d6] }
  | _ => none }
def groundMarksRow : OpenClaim := { program := "ytjnknnakllbaaaagreat", sum := "7fb07bd680f6fbfb83aea0f79192584e15343c57825c705eacdb877d4cb369e6", func := "underpin/underpinlaw12.GroundMarks", spec := "groundMarks", inPlace := ["slices.overlaps[underpin/spans.Run]", "maps.clone"], unfollowed := true, recurses := true, plainKeys := false, apart := false }
def GroundMarksSaid : Prop := groundMarksRow.holds Tryz.pinned (OpenSpec.ofChange groundMarksSpec)

/-- ITS FALSE NEIGHBOUR: 'it returns false'. Refute it at one input. -/
def groundMarksWrong : ChangeSpec := { name := "groundMarks", fn := fun _ => fun
  | [d1, d2, d3, d4, d5, d6] => { results := [.lit (.bool false)], args := [d1, d2, d3, d4, d5, d6] }
  | _ => none }
def GroundMarksWrongFalsely : Prop := groundMarksRow.holds Tryz.pinned (OpenSpec.ofChange groundMarksWrong)

/-- 'underpinlaw12.GroundBytes': WHATEVER THE INPUT: true; the input reads as it did. -/
def groundBytesSpec : ChangeSpec := { name := "groundBytes", fn := fun _ => fun
  | [d1, d2, d3, d4] => { results := [.lit (.bool true)], args := [d1, d2, d3, d4] }
  | _ => none }
def groundBytesRow : OpenClaim := { program := "ytjnknnakllbaaaagreat", sum := "7fb07bd680f6fbfb83aea0f79192584e15343c57825c705eacdb877d4cb369e6", func := "underpin/underpinlaw12.GroundBytes", spec := "groundBytes", inPlace := ["slices.overlaps[underpin/spans.Run]", "maps.clone"], unfollowed := true, recurses := true, plainKeys := false, apart := false }
def GroundBytesSaid : Prop := groundBytesRow.holds Tryz.pinned (OpenSpec.ofChange groundBytesSpec)

/-- ITS FALSE NEIGHBOUR: 'it returns false'. Refute it at one input. -/
def groundBytesWrong : ChangeSpec := { name := "groundBytes", fn := fun _ => fun
  | [d1, d2, d3, d4] => { results := [.lit (.bool false)], args := [d1, d2, d3, d4] }
  | _ => none }
def GroundBytesWrongFalsely : Prop := groundBytesRow.holds Tryz.pinned (OpenSpec.ofChange groundBytesWrong)

/- THE SECOND FORM. 'bulk': how many values and letters a reading holds, each counted each time it is reached (what is shared counts as often as it is met; a slice's spare places count too). A statement '..UptoSaid' is the law's where the arguments, and the package variables that the reading takes, are together of bulk at most 1048576: NARROWER than '..Said'. Prove '..Said' where nothing that the law and all that it calls make is longer than what came in: it says more and counts as full. Else prove '..UptoSaid'. A law counts once. -/
mutual
def uptoBulk {H : Type} : DataW H → Nat
  | .lit (.string bytes) => bytes.length + 1
  | .lit _ => 1
  | .nil => 1
  | .ptr d => uptoBulk d + 1
  | .slice elems spare => uptoBulkAll elems + uptoBulkAll spare + 1
  | .agg parts => uptoBulkAll parts + 1
  | .iface _ d => uptoBulk d + 1
  | .map entries => uptoBulkEntries entries + 1
  | .held _ => 1
def uptoBulkAll {H : Type} : List (DataW H) → Nat
  | [] => 0
  | d :: r => uptoBulk d + uptoBulkAll r
def uptoBulkEntries {H : Type} : List (Lit × DataW H) → Nat
  | [] => 0
  | x :: r => uptoBulkEntry x + uptoBulkEntries r
def uptoBulkEntry {H : Type} : Lit × DataW H → Nat
  | (.string bytes, d) => bytes.length + uptoBulk d + 1
  | (_, d) => uptoBulk d + 1
 end
def uptoSmall : (H : Type) → List (DataW H) → Bool := fun _ ds => decide (uptoBulkAll ds ≤ 1048576)
def OpenSpec.upto (s : _root_.Go.ChangeSpec) : _root_.Go.OpenSpec := { _root_.Go.OpenSpec.ofChange s with cond := some uptoSmall }

/-- 'underpinlaw12.GroundCalls', WHERE WHAT IT READS IS OF BULK AT MOST 1048576: true; the input reads as it did. -/
def groundCallsUptoRow : OpenClaim := { program := "ytjnknnakllbaaaagreat", sum := "7fb07bd680f6fbfb83aea0f79192584e15343c57825c705eacdb877d4cb369e6", func := "underpin/underpinlaw12.GroundCalls", spec := "groundCalls", inPlace := ["slices.overlaps[underpin/spans.Run]"], unfollowed := true, recurses := true, plainKeys := false, apart := false, narrowed := true }
def GroundCallsUptoSaid : Prop := groundCallsUptoRow.holds Tryz.pinned (OpenSpec.upto groundCallsSpec)

/-- 'underpinlaw12.GroundMarks', WHERE WHAT IT READS IS OF BULK AT MOST 1048576: true; the input reads as it did. -/
def groundMarksUptoRow : OpenClaim := { program := "ytjnknnakllbaaaagreat", sum := "7fb07bd680f6fbfb83aea0f79192584e15343c57825c705eacdb877d4cb369e6", func := "underpin/underpinlaw12.GroundMarks", spec := "groundMarks", inPlace := ["slices.overlaps[underpin/spans.Run]", "maps.clone"], unfollowed := true, recurses := true, plainKeys := false, apart := false, narrowed := true }
def GroundMarksUptoSaid : Prop := groundMarksUptoRow.holds Tryz.pinned (OpenSpec.upto groundMarksSpec)

/-- 'underpinlaw12.GroundBytes', WHERE WHAT IT READS IS OF BULK AT MOST 1048576: true; the input reads as it did. -/
def groundBytesUptoRow : OpenClaim := { program := "ytjnknnakllbaaaagreat", sum := "7fb07bd680f6fbfb83aea0f79192584e15343c57825c705eacdb877d4cb369e6", func := "underpin/underpinlaw12.GroundBytes", spec := "groundBytes", inPlace := ["slices.overlaps[underpin/spans.Run]", "maps.clone"], unfollowed := true, recurses := true, plainKeys := false, apart := false, narrowed := true }
def GroundBytesUptoSaid : Prop := groundBytesUptoRow.holds Tryz.pinned (OpenSpec.upto groundBytesSpec)

end Rows
end Go.Proofs.YtjnknnakllbaaaaGreat
