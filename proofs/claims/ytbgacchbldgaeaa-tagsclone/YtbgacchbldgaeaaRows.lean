/-
  No cell of these rows narrows 'for every input' (looked for: loops, veiled, ifaces, maps, wideKeys, modest, calm, conditions, laid).
  DERIVED. THE GIVEN ROWS OF THIS SEAT. 4 by the template 'for every input the law returns true; each argument reads behind the call as it read before'; 0 by the template 'total and deterministic' (their statements: YtbgacchbldgaeaaTotals.lean).
  GIVEN WITH THE SEED: the statements are not yours to turn. If you find one false, say at which input.
  Laid BY PROGRAM, IN A SANDBOX (cutbox-rows.mjs): the forced cells as the released guide's own fill.sh prints them over the translation 4280231e4a62f3d5… (all of the seat's roots in one cut). By AI agents, Wed Nov 11 2026. No macro, syntax, notation, axiom, sorry.
-/
import Derived.Test.YtbgacchbldgaeaaChecked
import GoSem.Claim
import GoSem.ClaimJoined
import GoSem.ClaimMapViews
import Derived.JoinedTies
import Derived.KernelRfl
namespace Go.Proofs.Ytbgacchbldgaeaa
/- THE CELL 'sum', in the pinned program and in every row, IS THE sha256 OF THE DUMP (.gsa) THAT YtbgacchbldgaeaaProg.lean LOADS. Nothing in Lean hashes anything: it is a label: what it is worth is what the hold of that sum in a sandbox is worth. -/
noncomputable def Try.pinned : Pinned := { name := "ytbgacchbldgaeaa", sum := "4280231e4a62f3d583c701d7ad2b66cb108c69fa2b8adfa95095e86e3ac6d292", checked := Try.checked }
namespace Rows
def none {H : Type} : Left H := { results := [], args := [] }

/-- 'underpinlaw11.TagsCalls': WHATEVER THE INPUT: true; the input reads as it did. -/
def tagsCallsSpec : ChangeSpec := { name := "tagsCalls", fn := fun _ => fun
  | [d1, d2, d3] => { results := [.lit (.bool true)], args := [d1, d2, d3] }
  | _ => none }
def tagsCallsRow : OpenClaim := { program := "ytbgacchbldgaeaa", sum := "4280231e4a62f3d583c701d7ad2b66cb108c69fa2b8adfa95095e86e3ac6d292", func := "underpin/underpinlaw11.TagsCalls", spec := "tagsCalls", inPlace := ["maps.clone"], unfollowed := true, recurses := true, plainKeys := false, apart := false }
def TagsCallsSaid : Prop := tagsCallsRow.holds Try.pinned (OpenSpec.ofChange tagsCallsSpec)

/-- ITS FALSE NEIGHBOUR: 'it returns false'. Refute it at one input. -/
def tagsCallsWrong : ChangeSpec := { name := "tagsCalls", fn := fun _ => fun
  | [d1, d2, d3] => { results := [.lit (.bool false)], args := [d1, d2, d3] }
  | _ => none }
def TagsCallsWrongFalsely : Prop := tagsCallsRow.holds Try.pinned (OpenSpec.ofChange tagsCallsWrong)

/-- 'underpinlaw11.TagsMoves': WHATEVER THE INPUT: true; the input reads as it did. -/
def tagsMovesSpec : ChangeSpec := { name := "tagsMoves", fn := fun _ => fun
  | [d1, d2, d3, d4, d5] => { results := [.lit (.bool true)], args := [d1, d2, d3, d4, d5] }
  | _ => none }
def tagsMovesRow : OpenClaim := { program := "ytbgacchbldgaeaa", sum := "4280231e4a62f3d583c701d7ad2b66cb108c69fa2b8adfa95095e86e3ac6d292", func := "underpin/underpinlaw11.TagsMoves", spec := "tagsMoves", inPlace := ["maps.clone"], unfollowed := true, recurses := true, plainKeys := false, apart := false }
def TagsMovesSaid : Prop := tagsMovesRow.holds Try.pinned (OpenSpec.ofChange tagsMovesSpec)

/-- ITS FALSE NEIGHBOUR: 'it returns false'. Refute it at one input. -/
def tagsMovesWrong : ChangeSpec := { name := "tagsMoves", fn := fun _ => fun
  | [d1, d2, d3, d4, d5] => { results := [.lit (.bool false)], args := [d1, d2, d3, d4, d5] }
  | _ => none }
def TagsMovesWrongFalsely : Prop := tagsMovesRow.holds Try.pinned (OpenSpec.ofChange tagsMovesWrong)

/-- 'underpinlaw11.TagsSums': WHATEVER THE INPUT: true; the input reads as it did. -/
def tagsSumsSpec : ChangeSpec := { name := "tagsSums", fn := fun _ => fun
  | [d] => { results := [.lit (.bool true)], args := [d] }
  | _ => none }
def tagsSumsRow : OpenClaim := { program := "ytbgacchbldgaeaa", sum := "4280231e4a62f3d583c701d7ad2b66cb108c69fa2b8adfa95095e86e3ac6d292", func := "underpin/underpinlaw11.TagsSums", spec := "tagsSums", inPlace := ["maps.clone"], unfollowed := true, recurses := true, plainKeys := false, apart := false }
def TagsSumsSaid : Prop := tagsSumsRow.holds Try.pinned (OpenSpec.ofChange tagsSumsSpec)

/-- ITS FALSE NEIGHBOUR: 'it returns false'. Refute it at one input. -/
def tagsSumsWrong : ChangeSpec := { name := "tagsSums", fn := fun _ => fun
  | [d] => { results := [.lit (.bool false)], args := [d] }
  | _ => none }
def TagsSumsWrongFalsely : Prop := tagsSumsRow.holds Try.pinned (OpenSpec.ofChange tagsSumsWrong)

/-- 'underpinlaw11.TagsClone': WHATEVER THE INPUT: true; the input reads as it did. -/
def tagsCloneSpec : ChangeSpec := { name := "tagsClone", fn := fun _ => fun
  | [d1, d2] => { results := [.lit (.bool true)], args := [d1, d2] }
  | _ => none }
def tagsCloneRow : OpenClaim := { program := "ytbgacchbldgaeaa", sum := "4280231e4a62f3d583c701d7ad2b66cb108c69fa2b8adfa95095e86e3ac6d292", func := "underpin/underpinlaw11.TagsClone", spec := "tagsClone", inPlace := ["maps.clone"], unfollowed := true, recurses := true, plainKeys := false, apart := false }
def TagsCloneSaid : Prop := tagsCloneRow.holds Try.pinned (OpenSpec.ofChange tagsCloneSpec)

/-- ITS FALSE NEIGHBOUR: 'it returns false'. Refute it at one input. -/
def tagsCloneWrong : ChangeSpec := { name := "tagsClone", fn := fun _ => fun
  | [d1, d2] => { results := [.lit (.bool false)], args := [d1, d2] }
  | _ => none }
def TagsCloneWrongFalsely : Prop := tagsCloneRow.holds Try.pinned (OpenSpec.ofChange tagsCloneWrong)

/- THE SECOND FORM. 'bulk': how many values and letters a reading holds, each counted each time it is reached (what is shared counts as often as it is met; a slice's spare places count too). A statement '..UptoSaid' is the law's where the arguments, and the package variables that the reading takes, are together of bulk at most 1048576: NARROWER than '..Said'. Prove '..Said' where nothing that the law and all that it calls make is longer than what came in: it says more and counts as full. Else prove '..UptoSaid'. A law counts once. -/
mutual
def uptoBulk {H : Type} : DataW H → Nat
  | .lit (.string bytes) => bytes.length + 1
  | .lit _ => 1
  | .nil => 1
  | .ptr d => uptoBulk d + 1
  | .slice elems spare => uptoBulkAll elems + uptoBulkAll spare + 1
  | .agg parts => uptoBulkAll parts + 1
  | .iface _ d => uptoBulk d + 1
  | .map entries => uptoBulkEntries entries + 1
  | .held _ => 1
def uptoBulkAll {H : Type} : List (DataW H) → Nat
  | [] => 0
  | d :: r => uptoBulk d + uptoBulkAll r
def uptoBulkEntries {H : Type} : List (Lit × DataW H) → Nat
  | [] => 0
  | x :: r => uptoBulkEntry x + uptoBulkEntries r
def uptoBulkEntry {H : Type} : Lit × DataW H → Nat
  | (.string bytes, d) => bytes.length + uptoBulk d + 1
  | (_, d) => uptoBulk d + 1
 end
def uptoSmall : (H : Type) → List (DataW H) → Bool := fun _ ds => decide (uptoBulkAll ds ≤ 1048576)
def OpenSpec.upto (s : _root_.Go.ChangeSpec) : _root_.Go.OpenSpec := { _root_.Go.OpenSpec.ofChange s with cond := some uptoSmall }

/-- 'underpinlaw11.TagsCalls', WHERE WHAT IT READS IS OF BULK AT MOST 1048576: true; the input reads as it did. -/
def tagsCallsUptoRow : OpenClaim := { program := "ytbgacchbldgaeaa", sum := "4280231e4a62f3d583c701d7ad2b66cb108c69fa2b8adfa95095e86e3ac6d292", func := "underpin/underpinlaw11.TagsCalls", spec := "tagsCalls", inPlace := ["maps.clone"], unfollowed := true, recurses := true, plainKeys := false, apart := false, narrowed := true }
def TagsCallsUptoSaid : Prop := tagsCallsUptoRow.holds Try.pinned (OpenSpec.upto tagsCallsSpec)

/-- 'underpinlaw11.TagsMoves', WHERE WHAT IT READS IS OF BULK AT MOST 1048576: true; the input reads as it did. -/
def tagsMovesUptoRow : OpenClaim := { program := "ytbgacchbldgaeaa", sum := "4280231e4a62f3d583c701d7ad2b66cb108c69fa2b8adfa95095e86e3ac6d292", func := "underpin/underpinlaw11.TagsMoves", spec := "tagsMoves", inPlace := ["maps.clone"], unfollowed := true, recurses := true, plainKeys := false, apart := false, narrowed := true }
def TagsMovesUptoSaid : Prop := tagsMovesUptoRow.holds Try.pinned (OpenSpec.upto tagsMovesSpec)

/-- 'underpinlaw11.TagsSums', WHERE WHAT IT READS IS OF BULK AT MOST 1048576: true; the input reads as it did. -/
def tagsSumsUptoRow : OpenClaim := { program := "ytbgacchbldgaeaa", sum := "4280231e4a62f3d583c701d7ad2b66cb108c69fa2b8adfa95095e86e3ac6d292", func := "underpin/underpinlaw11.TagsSums", spec := "tagsSums", inPlace := ["maps.clone"], unfollowed := true, recurses := true, plainKeys := false, apart := false, narrowed := true }
def TagsSumsUptoSaid : Prop := tagsSumsUptoRow.holds Try.pinned (OpenSpec.upto tagsSumsSpec)

/-- 'underpinlaw11.TagsClone', WHERE WHAT IT READS IS OF BULK AT MOST 1048576: true; the input reads as it did. -/
def tagsCloneUptoRow : OpenClaim := { program := "ytbgacchbldgaeaa", sum := "4280231e4a62f3d583c701d7ad2b66cb108c69fa2b8adfa95095e86e3ac6d292", func := "underpin/underpinlaw11.TagsClone", spec := "tagsClone", inPlace := ["maps.clone"], unfollowed := true, recurses := true, plainKeys := false, apart := false, narrowed := true }
def TagsCloneUptoSaid : Prop := tagsCloneUptoRow.holds Try.pinned (OpenSpec.upto tagsCloneSpec)

end Rows
end Go.Proofs.Ytbgacchbldgaeaa
