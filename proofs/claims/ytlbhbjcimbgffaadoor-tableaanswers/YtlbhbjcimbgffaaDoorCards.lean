/-
  DERIVED. GIVEN WITH THE SEED: THE CARDS: each row of YtlbhbjcimbgffaaDoorRows.lean that lists a variable, with what it lists TIED to the program's text (the seventh form; the later family's looks); each row that meets fmt, with fmt's text TOLD by the authors' own Lean function (tested against real Go, not proved from fmt's source: count such statements apart). THE CARD IS WHAT COUNTS. Prove the row's statement (the work); the ties are given (YtlbhbjcimbgffaaDoorTie.lean); close each card by the builder's one call (the guide's Derived/Test/ToyasCard.lean, 'card_holds'). Laid BY PROGRAM, IN A SANDBOX (cutbox-door.mjs). By AI agents, Wed Nov 11 2026. No macro, syntax, notation, axiom, sorry.
-/
import Derived.Test.YtlbhbjcimbgffaaDoorRows
import GoSem.ClaimSeven
namespace Go.Proofs.YtlbhbjcimbgffaaDoor
namespace Rows

/-- THE TIED CARD OF 'underpinlaw05.TableaAnswers'. -/
def tableaAnswersCard : Claim7 := { stood := { row := tableaAnswersRow, standIns := [], harness := (true, "3ff4fa84ada794f23bd7f6585f4a7aab712e25e45f0a173ab9318351296c8cb4"), looks := false }, kinds := [], alts := [], laidByText := true, laidKinds := [.data], laidTests := true, laidLooks := .later }
def TableaAnswersCardSaid : Prop := Claim7.holds Tryd.pinned (.plain (OpenSpec.ofChange tableaAnswersSpec)) tableaAnswersCard

/-- THE TIED CARD OF 'underpinlaw05.TableaWaste'. -/
def tableaWasteCard : Claim7 := { stood := { row := tableaWasteRow, standIns := [], harness := (true, "3ff4fa84ada794f23bd7f6585f4a7aab712e25e45f0a173ab9318351296c8cb4"), looks := false }, kinds := [], alts := [], laidByText := true, laidKinds := [.data], laidTests := true, laidLooks := .later }
def TableaWasteCardSaid : Prop := Claim7.holds Tryd.pinned (.plain (OpenSpec.ofChange tableaWasteSpec)) tableaWasteCard

/-- THE TIED CARD OF 'underpinlaw05.TableaAligns'. -/
def tableaAlignsCard : Claim7 := { stood := { row := tableaAlignsRow, standIns := [], harness := (true, "3ff4fa84ada794f23bd7f6585f4a7aab712e25e45f0a173ab9318351296c8cb4"), looks := false }, kinds := [], alts := [], laidByText := true, laidKinds := [.data], laidTests := true, laidLooks := .later }
def TableaAlignsCardSaid : Prop := Claim7.holds Tryd.pinned (.plain (OpenSpec.ofChange tableaAlignsSpec)) tableaAlignsCard

/-- THE SECOND FORM's CARD OF 'underpinlaw05.TableaAnswers'. -/
def tableaAnswersUptoCard : Claim7 := { stood := { row := tableaAnswersUptoRow, standIns := [], harness := (true, "3ff4fa84ada794f23bd7f6585f4a7aab712e25e45f0a173ab9318351296c8cb4"), looks := false }, kinds := [], alts := [], laidByText := true, laidKinds := [.data], laidTests := true, laidLooks := .later }
def TableaAnswersUptoCardSaid : Prop := Claim7.holds Tryd.pinned (.plain (OpenSpec.upto tableaAnswersSpec)) tableaAnswersUptoCard

/-- THE SECOND FORM's CARD OF 'underpinlaw05.TableaWaste'. -/
def tableaWasteUptoCard : Claim7 := { stood := { row := tableaWasteUptoRow, standIns := [], harness := (true, "3ff4fa84ada794f23bd7f6585f4a7aab712e25e45f0a173ab9318351296c8cb4"), looks := false }, kinds := [], alts := [], laidByText := true, laidKinds := [.data], laidTests := true, laidLooks := .later }
def TableaWasteUptoCardSaid : Prop := Claim7.holds Tryd.pinned (.plain (OpenSpec.upto tableaWasteSpec)) tableaWasteUptoCard

/-- THE SECOND FORM's CARD OF 'underpinlaw05.TableaAligns'. -/
def tableaAlignsUptoCard : Claim7 := { stood := { row := tableaAlignsUptoRow, standIns := [], harness := (true, "3ff4fa84ada794f23bd7f6585f4a7aab712e25e45f0a173ab9318351296c8cb4"), looks := false }, kinds := [], alts := [], laidByText := true, laidKinds := [.data], laidTests := true, laidLooks := .later }
def TableaAlignsUptoCardSaid : Prop := Claim7.holds Tryd.pinned (.plain (OpenSpec.upto tableaAlignsSpec)) tableaAlignsUptoCard
end Rows
end Go.Proofs.YtlbhbjcimbgffaaDoor
