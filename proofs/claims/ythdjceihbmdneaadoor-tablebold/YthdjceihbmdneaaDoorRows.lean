/-
  NARROWER THAN 'FOR EVERY INPUT', by the rows' own cells (each row's printed sentence says how): TablebAnswers: laid · TablebTwins: laid · TablebOld: laid · TablebWaste: laid.
  DERIVED. THE GIVEN ROWS OF THIS SEAT. 4 by the template 'for every input the law returns true; each argument reads behind the call as it read before'; 0 by the template 'total and deterministic' (their statements: YthdjceihbmdneaaDoorTotals.lean).
  GIVEN WITH THE SEED: the statements are not yours to turn. If you find one false, say at which input.
  Laid BY PROGRAM, IN A SANDBOX (cutbox-rows.mjs): the forced cells as the released guide's own fill.sh prints them over the translation 122b89f535f55fef… (all of the seat's roots in one cut). By AI agents, Wed Nov 11 2026. No macro, syntax, notation, axiom, sorry.
-/
import Derived.Test.YthdjceihbmdneaaDoorChecked
import GoSem.Claim
import GoSem.ClaimJoined
import GoSem.ClaimMapViews
import Derived.JoinedTies
import Derived.KernelRfl
namespace Go.Proofs.YthdjceihbmdneaaDoor
/- THE CELL 'sum', in the pinned program and in every row, IS THE sha256 OF THE DUMP (.gsa) THAT YthdjceihbmdneaaDoorProg.lean LOADS. Nothing in Lean hashes anything: it is a label: what it is worth is what the hold of that sum in a sandbox is worth. -/
noncomputable def Tryd.pinned : Pinned := { name := "ythdjceihbmdneaadoor", sum := "122b89f535f55fef29eddb459240459221c8caa214a660f3effc3d7b46401d19", checked := Tryd.checked }
namespace Rows
def none {H : Type} : Left H := { results := [], args := [] }

/- WHAT THE LISTED PACKAGE-LEVEL VARIABLES READ AS WHEN THE CALL BEGINS. Each datum BY PROGRAM (the guide's laid-datum.mjs) off the statement by which the dump's own 'gosem.cut.vars' lays the variable. In a bare row this is a premise. The card (YthdjceihbmdneaaDoorCards.lean) ties it to the program's text. -/
def laid_underpin_tablea_classSizes {H : Type} : DataW H := .agg [.lit (.int .i64 16), .lit (.int .i64 32), .lit (.int .i64 48), .lit (.int .i64 64), .lit (.int .i64 80), .lit (.int .i64 96), .lit (.int .i64 112), .lit (.int .i64 128), .lit (.int .i64 160), .lit (.int .i64 192), .lit (.int .i64 224), .lit (.int .i64 256), .lit (.int .i64 320), .lit (.int .i64 384), .lit (.int .i64 448), .lit (.int .i64 512)]
def laid_underpin_tableb_newSizes {H : Type} : DataW H := .agg [.lit (.int .i64 8), .lit (.int .i64 16), .lit (.int .i64 24), .lit (.int .i64 32), .lit (.int .i64 48), .lit (.int .i64 64), .lit (.int .i64 96), .lit (.int .i64 128), .lit (.int .i64 192), .lit (.int .i64 256), .lit (.int .i64 384), .lit (.int .i64 512)]

/-- 'underpinlaw06.TablebAnswers': WHATEVER THE INPUT: true; the input reads as it did. -/
def tablebAnswersSpec : ChangeSpec := { name := "tablebAnswers", fn := fun _ => fun
  | [d1, d2, d3, d4] => { results := [.lit (.bool true)], args := [d1, d2, d3, d4] }
  | _ => none }
def tablebAnswersRow : OpenClaim := { program := "ythdjceihbmdneaadoor", sum := "122b89f535f55fef29eddb459240459221c8caa214a660f3effc3d7b46401d19", func := "underpin/underpinlaw06.TablebAnswers", spec := "tablebAnswers", named := ["underpin/tablea.classSizes", "underpin/tableb.newSizes"], apart := false, laid := [("underpin/tablea.classSizes", laid_underpin_tablea_classSizes), ("underpin/tableb.newSizes", laid_underpin_tableb_newSizes)] }
def TablebAnswersSaid : Prop := tablebAnswersRow.holds Tryd.pinned (OpenSpec.ofChange tablebAnswersSpec)

/-- ITS FALSE NEIGHBOUR: 'it returns false'. Refute it at one input. -/
def tablebAnswersWrong : ChangeSpec := { name := "tablebAnswers", fn := fun _ => fun
  | [d1, d2, d3, d4] => { results := [.lit (.bool false)], args := [d1, d2, d3, d4] }
  | _ => none }
def TablebAnswersWrongFalsely : Prop := tablebAnswersRow.holds Tryd.pinned (OpenSpec.ofChange tablebAnswersWrong)

/-- 'underpinlaw06.TablebTwins': WHATEVER THE INPUT: true; the input reads as it did. -/
def tablebTwinsSpec : ChangeSpec := { name := "tablebTwins", fn := fun _ => fun
  | [d1, d2, d3] => { results := [.lit (.bool true)], args := [d1, d2, d3] }
  | _ => none }
def tablebTwinsRow : OpenClaim := { program := "ythdjceihbmdneaadoor", sum := "122b89f535f55fef29eddb459240459221c8caa214a660f3effc3d7b46401d19", func := "underpin/underpinlaw06.TablebTwins", spec := "tablebTwins", named := ["underpin/tablea.classSizes", "underpin/tableb.newSizes"], apart := false, laid := [("underpin/tablea.classSizes", laid_underpin_tablea_classSizes), ("underpin/tableb.newSizes", laid_underpin_tableb_newSizes)] }
def TablebTwinsSaid : Prop := tablebTwinsRow.holds Tryd.pinned (OpenSpec.ofChange tablebTwinsSpec)

/-- ITS FALSE NEIGHBOUR: 'it returns false'. Refute it at one input. -/
def tablebTwinsWrong : ChangeSpec := { name := "tablebTwins", fn := fun _ => fun
  | [d1, d2, d3] => { results := [.lit (.bool false)], args := [d1, d2, d3] }
  | _ => none }
def TablebTwinsWrongFalsely : Prop := tablebTwinsRow.holds Tryd.pinned (OpenSpec.ofChange tablebTwinsWrong)

/-- 'underpinlaw06.TablebOld': WHATEVER THE INPUT: true; the input reads as it did. -/
def tablebOldSpec : ChangeSpec := { name := "tablebOld", fn := fun _ => fun
  | [d1, d2, d3] => { results := [.lit (.bool true)], args := [d1, d2, d3] }
  | _ => none }
def tablebOldRow : OpenClaim := { program := "ythdjceihbmdneaadoor", sum := "122b89f535f55fef29eddb459240459221c8caa214a660f3effc3d7b46401d19", func := "underpin/underpinlaw06.TablebOld", spec := "tablebOld", named := ["underpin/tablea.classSizes", "underpin/tableb.newSizes"], apart := false, laid := [("underpin/tablea.classSizes", laid_underpin_tablea_classSizes), ("underpin/tableb.newSizes", laid_underpin_tableb_newSizes)] }
def TablebOldSaid : Prop := tablebOldRow.holds Tryd.pinned (OpenSpec.ofChange tablebOldSpec)

/-- ITS FALSE NEIGHBOUR: 'it returns false'. Refute it at one input. -/
def tablebOldWrong : ChangeSpec := { name := "tablebOld", fn := fun _ => fun
  | [d1, d2, d3] => { results := [.lit (.bool false)], args := [d1, d2, d3] }
  | _ => none }
def TablebOldWrongFalsely : Prop := tablebOldRow.holds Tryd.pinned (OpenSpec.ofChange tablebOldWrong)

/-- 'underpinlaw06.TablebWaste': WHATEVER THE INPUT: true; the input reads as it did. -/
def tablebWasteSpec : ChangeSpec := { name := "tablebWaste", fn := fun _ => fun
  | [d1, d2] => { results := [.lit (.bool true)], args := [d1, d2] }
  | _ => none }
def tablebWasteRow : OpenClaim := { program := "ythdjceihbmdneaadoor", sum := "122b89f535f55fef29eddb459240459221c8caa214a660f3effc3d7b46401d19", func := "underpin/underpinlaw06.TablebWaste", spec := "tablebWaste", named := ["underpin/tablea.classSizes", "underpin/tableb.newSizes"], apart := false, laid := [("underpin/tablea.classSizes", laid_underpin_tablea_classSizes), ("underpin/tableb.newSizes", laid_underpin_tableb_newSizes)] }
def TablebWasteSaid : Prop := tablebWasteRow.holds Tryd.pinned (OpenSpec.ofChange tablebWasteSpec)

/-- ITS FALSE NEIGHBOUR: 'it returns false'. Refute it at one input. -/
def tablebWasteWrong : ChangeSpec := { name := "tablebWaste", fn := fun _ => fun
  | [d1, d2] => { results := [.lit (.bool false)], args := [d1, d2] }
  | _ => none }
def TablebWasteWrongFalsely : Prop := tablebWasteRow.holds Tryd.pinned (OpenSpec.ofChange tablebWasteWrong)

/- THE SECOND FORM. 'bulk': how many values and letters a reading holds, each counted each time it is reached (what is shared counts as often as it is met; a slice's spare places count too). A statement '..UptoSaid' is the law's where the arguments, and the package variables that the reading takes, are together of bulk at most 1048576: NARROWER than '..Said'. Prove '..Said' where nothing that the law and all that it calls make is longer than what came in: it says more and counts as full. Else prove '..UptoSaid'. A law counts once. -/
mutual
def uptoBulk {H : Type} : DataW H → Nat
  | .lit (.string bytes) => bytes.length + 1
  | .lit _ => 1
  | .nil => 1
  | .ptr d => uptoBulk d + 1
  | .slice elems spare => uptoBulkAll elems + uptoBulkAll spare + 1
  | .agg parts => uptoBulkAll parts + 1
  | .iface _ d => uptoBulk d + 1
  | .map entries => uptoBulkEntries entries + 1
  | .held _ => 1
def uptoBulkAll {H : Type} : List (DataW H) → Nat
  | [] => 0
  | d :: r => uptoBulk d + uptoBulkAll r
def uptoBulkEntries {H : Type} : List (Lit × DataW H) → Nat
  | [] => 0
  | x :: r => uptoBulkEntry x + uptoBulkEntries r
def uptoBulkEntry {H : Type} : Lit × DataW H → Nat
  | (.string bytes, d) => bytes.length + uptoBulk d + 1
  | (_, d) => uptoBulk d + 1
 end
def uptoSmall : (H : Type) → List (DataW H) → Bool := fun _ ds => decide (uptoBulkAll ds ≤ 1048576)
def OpenSpec.upto (s : _root_.Go.ChangeSpec) : _root_.Go.OpenSpec := { _root_.Go.OpenSpec.ofChange s with cond := some uptoSmall }

/-- 'underpinlaw06.TablebAnswers', WHERE WHAT IT READS IS OF BULK AT MOST 1048576: true; the input reads as it did. -/
def tablebAnswersUptoRow : OpenClaim := { program := "ythdjceihbmdneaadoor", sum := "122b89f535f55fef29eddb459240459221c8caa214a660f3effc3d7b46401d19", func := "underpin/underpinlaw06.TablebAnswers", spec := "tablebAnswers", named := ["underpin/tablea.classSizes", "underpin/tableb.newSizes"], apart := false, laid := [("underpin/tablea.classSizes", laid_underpin_tablea_classSizes), ("underpin/tableb.newSizes", laid_underpin_tableb_newSizes)], narrowed := true }
def TablebAnswersUptoSaid : Prop := tablebAnswersUptoRow.holds Tryd.pinned (OpenSpec.upto tablebAnswersSpec)

/-- 'underpinlaw06.TablebTwins', WHERE WHAT IT READS IS OF BULK AT MOST 1048576: true; the input reads as it did. -/
def tablebTwinsUptoRow : OpenClaim := { program := "ythdjceihbmdneaadoor", sum := "122b89f535f55fef29eddb459240459221c8caa214a660f3effc3d7b46401d19", func := "underpin/underpinlaw06.TablebTwins", spec := "tablebTwins", named := ["underpin/tablea.classSizes", "underpin/tableb.newSizes"], apart := false, laid := [("underpin/tablea.classSizes", laid_underpin_tablea_classSizes), ("underpin/tableb.newSizes", laid_underpin_tableb_newSizes)], narrowed := true }
def TablebTwinsUptoSaid : Prop := tablebTwinsUptoRow.holds Tryd.pinned (OpenSpec.upto tablebTwinsSpec)

/-- 'underpinlaw06.TablebOld', WHERE WHAT IT READS IS OF BULK AT MOST 1048576: true; the input reads as it did. -/
def tablebOldUptoRow : OpenClaim := { program := "ythdjceihbmdneaadoor", sum := "122b89f535f55fef29eddb459240459221c8caa214a660f3effc3d7b46401d19", func := "underpin/underpinlaw06.TablebOld", spec := "tablebOld", named := ["underpin/tablea.classSizes", "underpin/tableb.newSizes"], apart := false, laid := [("underpin/tablea.classSizes", laid_underpin_tablea_classSizes), ("underpin/tableb.newSizes", laid_underpin_tableb_newSizes)], narrowed := true }
def TablebOldUptoSaid : Prop := tablebOldUptoRow.holds Tryd.pinned (OpenSpec.upto tablebOldSpec)

/-- 'underpinlaw06.TablebWaste', WHERE WHAT IT READS IS OF BULK AT MOST 1048576: true; the input reads as it did. -/
def tablebWasteUptoRow : OpenClaim := { program := "ythdjceihbmdneaadoor", sum := "122b89f535f55fef29eddb459240459221c8caa214a660f3effc3d7b46401d19", func := "underpin/underpinlaw06.TablebWaste", spec := "tablebWaste", named := ["underpin/tablea.classSizes", "underpin/tableb.newSizes"], apart := false, laid := [("underpin/tablea.classSizes", laid_underpin_tablea_classSizes), ("underpin/tableb.newSizes", laid_underpin_tableb_newSizes)], narrowed := true }
def TablebWasteUptoSaid : Prop := tablebWasteUptoRow.holds Tryd.pinned (OpenSpec.upto tablebWasteSpec)

end Rows
end Go.Proofs.YthdjceihbmdneaaDoor
