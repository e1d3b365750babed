/-
  NARROWER THAN 'FOR EVERY INPUT', by the rows' own cells (each row's printed sentence says how): TableaAnswers: laid · TableaWaste: laid · TableaAligns: laid.
  DERIVED. THE GIVEN ROWS OF THIS SEAT. 3 by the template 'for every input the law returns true; each argument reads behind the call as it read before'; 0 by the template 'total and deterministic' (their statements: YtlbhbjcimbgffaaDoorTotals.lean).
  GIVEN WITH THE SEED: the statements are not yours to turn. If you find one false, say at which input.
  Laid BY PROGRAM, IN A SANDBOX (cutbox-rows.mjs): the forced cells as the released guide's own fill.sh prints them over the translation 03c5eac52eabfb71… (all of the seat's roots in one cut). By AI agents, Wed Nov 11 2026. No macro, syntax, notation, axiom, sorry.
-/
import Derived.Test.YtlbhbjcimbgffaaDoorChecked
import GoSem.Claim
import GoSem.ClaimJoined
import GoSem.ClaimMapViews
import Derived.JoinedTies
import Derived.KernelRfl
namespace Go.Proofs.YtlbhbjcimbgffaaDoor
/- THE CELL 'sum', in the pinned program and in every row, IS THE sha256 OF THE DUMP (.gsa) THAT YtlbhbjcimbgffaaDoorProg.lean LOADS. Nothing in Lean hashes anything: it is a label: what it is worth is what the hold of that sum in a sandbox is worth. -/
noncomputable def Tryd.pinned : Pinned := { name := "ytlbhbjcimbgffaadoor", sum := "03c5eac52eabfb71326fa5fff1b0c39ec4a6ba01a5957efcf90177a42aa23c67", checked := Tryd.checked }
namespace Rows
def none {H : Type} : Left H := { results := [], args := [] }

/- WHAT THE LISTED PACKAGE-LEVEL VARIABLES READ AS WHEN THE CALL BEGINS. Each datum BY PROGRAM (the guide's laid-datum.mjs) off the statement by which the dump's own 'gosem.cut.vars' lays the variable. In a bare row this is a premise. The card (YtlbhbjcimbgffaaDoorCards.lean) ties it to the program's text. -/
def laid_underpin_tablea_classSizes {H : Type} : DataW H := .agg [.lit (.int .i64 16), .lit (.int .i64 32), .lit (.int .i64 48), .lit (.int .i64 64), .lit (.int .i64 80), .lit (.int .i64 96), .lit (.int .i64 112), .lit (.int .i64 128), .lit (.int .i64 160), .lit (.int .i64 192), .lit (.int .i64 224), .lit (.int .i64 256), .lit (.int .i64 320), .lit (.int .i64 384), .lit (.int .i64 448), .lit (.int .i64 512)]

/-- 'underpinlaw05.TableaAnswers': WHATEVER THE INPUT: true; the input reads as it did. -/
def tableaAnswersSpec : ChangeSpec := { name := "tableaAnswers", fn := fun _ => fun
  | [d1, d2, d3] => { results := [.lit (.bool true)], args := [d1, d2, d3] }
  | _ => none }
def tableaAnswersRow : OpenClaim := { program := "ytlbhbjcimbgffaadoor", sum := "03c5eac52eabfb71326fa5fff1b0c39ec4a6ba01a5957efcf90177a42aa23c67", func := "underpin/underpinlaw05.TableaAnswers", spec := "tableaAnswers", named := ["underpin/tablea.classSizes"], apart := false, laid := [("underpin/tablea.classSizes", laid_underpin_tablea_classSizes)] }
def TableaAnswersSaid : Prop := tableaAnswersRow.holds Tryd.pinned (OpenSpec.ofChange tableaAnswersSpec)

/-- ITS FALSE NEIGHBOUR: 'it returns false'. Refute it at one input. -/
def tableaAnswersWrong : ChangeSpec := { name := "tableaAnswers", fn := fun _ => fun
  | [d1, d2, d3] => { results := [.lit (.bool false)], args := [d1, d2, d3] }
  | _ => none }
def TableaAnswersWrongFalsely : Prop := tableaAnswersRow.holds Tryd.pinned (OpenSpec.ofChange tableaAnswersWrong)

/-- 'underpinlaw05.TableaWaste': WHATEVER THE INPUT: true; the input reads as it did. -/
def tableaWasteSpec : ChangeSpec := { name := "tableaWaste", fn := fun _ => fun
  | [d] => { results := [.lit (.bool true)], args := [d] }
  | _ => none }
def tableaWasteRow : OpenClaim := { program := "ytlbhbjcimbgffaadoor", sum := "03c5eac52eabfb71326fa5fff1b0c39ec4a6ba01a5957efcf90177a42aa23c67", func := "underpin/underpinlaw05.TableaWaste", spec := "tableaWaste", named := ["underpin/tablea.classSizes"], apart := false, laid := [("underpin/tablea.classSizes", laid_underpin_tablea_classSizes)] }
def TableaWasteSaid : Prop := tableaWasteRow.holds Tryd.pinned (OpenSpec.ofChange tableaWasteSpec)

/-- ITS FALSE NEIGHBOUR: 'it returns false'. Refute it at one input. -/
def tableaWasteWrong : ChangeSpec := { name := "tableaWaste", fn := fun _ => fun
  | [d] => { results := [.lit (.bool false)], args := [d] }
  | _ => none }
def TableaWasteWrongFalsely : Prop := tableaWasteRow.holds Tryd.pinned (OpenSpec.ofChange tableaWasteWrong)

/-- 'underpinlaw05.TableaAligns': WHATEVER THE INPUT: true; the input reads as it did. -/
def tableaAlignsSpec : ChangeSpec := { name := "tableaAligns", fn := fun _ => fun
  | [d1, d2, d3] => { results := [.lit (.bool true)], args := [d1, d2, d3] }
  | _ => none }
def tableaAlignsRow : OpenClaim := { program := "ytlbhbjcimbgffaadoor", sum := "03c5eac52eabfb71326fa5fff1b0c39ec4a6ba01a5957efcf90177a42aa23c67", func := "underpin/underpinlaw05.TableaAligns", spec := "tableaAligns", named := ["underpin/tablea.classSizes"], apart := false, laid := [("underpin/tablea.classSizes", laid_underpin_tablea_classSizes)] }
def TableaAlignsSaid : Prop := tableaAlignsRow.holds Tryd.pinned (OpenSpec.ofChange tableaAlignsSpec)

/-- ITS FALSE NEIGHBOUR: 'it returns false'. Refute it at one input. -/
def tableaAlignsWrong : ChangeSpec := { name := "tableaAligns", fn := fun _ => fun
  | [d1, d2, d3] => { results := [.lit (.bool false)], args := [d1, d2, d3] }
  | _ => none }
def TableaAlignsWrongFalsely : Prop := tableaAlignsRow.holds Tryd.pinned (OpenSpec.ofChange tableaAlignsWrong)

/- THE SECOND FORM. 'bulk': how many values and letters a reading holds, each counted each time it is reached (what is shared counts as often as it is met; a slice's spare places count too). A statement '..UptoSaid' is the law's where the arguments, and the package variables that the reading takes, are together of bulk at most 1048576: NARROWER than '..Said'. Prove '..Said' where nothing that the law and all that it calls make is longer than what came in: it says more and counts as full. Else prove '..UptoSaid'. A law counts once. -/
mutual
def uptoBulk {H : Type} : DataW H → Nat
  | .lit (.string bytes) => bytes.length + 1
  | .lit _ => 1
  | .nil => 1
  | .ptr d => uptoBulk d + 1
  | .slice elems spare => uptoBulkAll elems + uptoBulkAll spare + 1
  | .agg parts => uptoBulkAll parts + 1
  | .iface _ d => uptoBulk d + 1
  | .map entries => uptoBulkEntries entries + 1
  | .held _ => 1
def uptoBulkAll {H : Type} : List (DataW H) → Nat
  | [] => 0
  | d :: r => uptoBulk d + uptoBulkAll r
def uptoBulkEntries {H : Type} : List (Lit × DataW H) → Nat
  | [] => 0
  | x :: r => uptoBulkEntry x + uptoBulkEntries r
def uptoBulkEntry {H : Type} : Lit × DataW H → Nat
  | (.string bytes, d) => bytes.length + uptoBulk d + 1
  | (_, d) => uptoBulk d + 1
 end
def uptoSmall : (H : Type) → List (DataW H) → Bool := fun _ ds => decide (uptoBulkAll ds ≤ 1048576)
def OpenSpec.upto (s : _root_.Go.ChangeSpec) : _root_.Go.OpenSpec := { _root_.Go.OpenSpec.ofChange s with cond := some uptoSmall }

/-- 'underpinlaw05.TableaAnswers', WHERE WHAT IT READS IS OF BULK AT MOST 1048576: true; the input reads as it did. -/
def tableaAnswersUptoRow : OpenClaim := { program := "ytlbhbjcimbgffaadoor", sum := "03c5eac52eabfb71326fa5fff1b0c39ec4a6ba01a5957efcf90177a42aa23c67", func := "underpin/underpinlaw05.TableaAnswers", spec := "tableaAnswers", named := ["underpin/tablea.classSizes"], apart := false, laid := [("underpin/tablea.classSizes", laid_underpin_tablea_classSizes)], narrowed := true }
def TableaAnswersUptoSaid : Prop := tableaAnswersUptoRow.holds Tryd.pinned (OpenSpec.upto tableaAnswersSpec)

/-- 'underpinlaw05.TableaWaste', WHERE WHAT IT READS IS OF BULK AT MOST 1048576: true; the input reads as it did. -/
def tableaWasteUptoRow : OpenClaim := { program := "ytlbhbjcimbgffaadoor", sum := "03c5eac52eabfb71326fa5fff1b0c39ec4a6ba01a5957efcf90177a42aa23c67", func := "underpin/underpinlaw05.TableaWaste", spec := "tableaWaste", named := ["underpin/tablea.classSizes"], apart := false, laid := [("underpin/tablea.classSizes", laid_underpin_tablea_classSizes)], narrowed := true }
def TableaWasteUptoSaid : Prop := tableaWasteUptoRow.holds Tryd.pinned (OpenSpec.upto tableaWasteSpec)

/-- 'underpinlaw05.TableaAligns', WHERE WHAT IT READS IS OF BULK AT MOST 1048576: true; the input reads as it did. -/
def tableaAlignsUptoRow : OpenClaim := { program := "ytlbhbjcimbgffaadoor", sum := "03c5eac52eabfb71326fa5fff1b0c39ec4a6ba01a5957efcf90177a42aa23c67", func := "underpin/underpinlaw05.TableaAligns", spec := "tableaAligns", named := ["underpin/tablea.classSizes"], apart := false, laid := [("underpin/tablea.classSizes", laid_underpin_tablea_classSizes)], narrowed := true }
def TableaAlignsUptoSaid : Prop := tableaAlignsUptoRow.holds Tryd.pinned (OpenSpec.upto tableaAlignsSpec)

end Rows
end Go.Proofs.YtlbhbjcimbgffaaDoor
