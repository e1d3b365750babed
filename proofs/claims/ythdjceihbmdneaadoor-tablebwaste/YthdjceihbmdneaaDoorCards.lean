/-
  DERIVED. GIVEN WITH THE SEED: THE CARDS: each row of YthdjceihbmdneaaDoorRows.lean that lists a variable, with what it lists TIED to the program's text (the seventh form; the later family's looks); each row that meets fmt, with fmt's text TOLD by the authors' own Lean function (tested against real Go, not proved from fmt's source: count such statements apart). THE CARD IS WHAT COUNTS. Prove the row's statement (the work); the ties are given (YthdjceihbmdneaaDoorTie.lean); close each card by the builder's one call (the guide's Derived/Test/ToyasCard.lean, 'card_holds'). Laid BY PROGRAM, IN A SANDBOX (cutbox-door.mjs). By AI agents, Wed Nov 11 2026. No macro, syntax, notation, axiom, sorry.
-/
import Derived.Test.YthdjceihbmdneaaDoorRows
import GoSem.ClaimSeven
namespace Go.Proofs.YthdjceihbmdneaaDoor
namespace Rows

/-- THE TIED CARD OF 'underpinlaw06.TablebAnswers'. -/
def tablebAnswersCard : Claim7 := { stood := { row := tablebAnswersRow, standIns := [], harness := (true, "c704b41ab9c85f1c6add05d783e6644adb7a948a143bff60c6871abbb9cdce2e"), looks := false }, kinds := [], alts := [], laidByText := true, laidKinds := [.data, .data], laidTests := true, laidLooks := .later }
def TablebAnswersCardSaid : Prop := Claim7.holds Tryd.pinned (.plain (OpenSpec.ofChange tablebAnswersSpec)) tablebAnswersCard

/-- THE TIED CARD OF 'underpinlaw06.TablebTwins'. -/
def tablebTwinsCard : Claim7 := { stood := { row := tablebTwinsRow, standIns := [], harness := (true, "c704b41ab9c85f1c6add05d783e6644adb7a948a143bff60c6871abbb9cdce2e"), looks := false }, kinds := [], alts := [], laidByText := true, laidKinds := [.data, .data], laidTests := true, laidLooks := .later }
def TablebTwinsCardSaid : Prop := Claim7.holds Tryd.pinned (.plain (OpenSpec.ofChange tablebTwinsSpec)) tablebTwinsCard

/-- THE TIED CARD OF 'underpinlaw06.TablebOld'. -/
def tablebOldCard : Claim7 := { stood := { row := tablebOldRow, standIns := [], harness := (true, "c704b41ab9c85f1c6add05d783e6644adb7a948a143bff60c6871abbb9cdce2e"), looks := false }, kinds := [], alts := [], laidByText := true, laidKinds := [.data, .data], laidTests := true, laidLooks := .later }
def TablebOldCardSaid : Prop := Claim7.holds Tryd.pinned (.plain (OpenSpec.ofChange tablebOldSpec)) tablebOldCard

/-- THE TIED CARD OF 'underpinlaw06.TablebWaste'. -/
def tablebWasteCard : Claim7 := { stood := { row := tablebWasteRow, standIns := [], harness := (true, "c704b41ab9c85f1c6add05d783e6644adb7a948a143bff60c6871abbb9cdce2e"), looks := false }, kinds := [], alts := [], laidByText := true, laidKinds := [.data, .data], laidTests := true, laidLooks := .later }
def TablebWasteCardSaid : Prop := Claim7.holds Tryd.pinned (.plain (OpenSpec.ofChange tablebWasteSpec)) tablebWasteCard

/-- THE SECOND FORM's CARD OF 'underpinlaw06.TablebAnswers'. -/
def tablebAnswersUptoCard : Claim7 := { stood := { row := tablebAnswersUptoRow, standIns := [], harness := (true, "c704b41ab9c85f1c6add05d783e6644adb7a948a143bff60c6871abbb9cdce2e"), looks := false }, kinds := [], alts := [], laidByText := true, laidKinds := [.data, .data], laidTests := true, laidLooks := .later }
def TablebAnswersUptoCardSaid : Prop := Claim7.holds Tryd.pinned (.plain (OpenSpec.upto tablebAnswersSpec)) tablebAnswersUptoCard

/-- THE SECOND FORM's CARD OF 'underpinlaw06.TablebTwins'. -/
def tablebTwinsUptoCard : Claim7 := { stood := { row := tablebTwinsUptoRow, standIns := [], harness := (true, "c704b41ab9c85f1c6add05d783e6644adb7a948a143bff60c6871abbb9cdce2e"), looks := false }, kinds := [], alts := [], laidByText := true, laidKinds := [.data, .data], laidTests := true, laidLooks := .later }
def TablebTwinsUptoCardSaid : Prop := Claim7.holds Tryd.pinned (.plain (OpenSpec.upto tablebTwinsSpec)) tablebTwinsUptoCard

/-- THE SECOND FORM's CARD OF 'underpinlaw06.TablebOld'. -/
def tablebOldUptoCard : Claim7 := { stood := { row := tablebOldUptoRow, standIns := [], harness := (true, "c704b41ab9c85f1c6add05d783e6644adb7a948a143bff60c6871abbb9cdce2e"), looks := false }, kinds := [], alts := [], laidByText := true, laidKinds := [.data, .data], laidTests := true, laidLooks := .later }
def TablebOldUptoCardSaid : Prop := Claim7.holds Tryd.pinned (.plain (OpenSpec.upto tablebOldSpec)) tablebOldUptoCard

/-- THE SECOND FORM's CARD OF 'underpinlaw06.TablebWaste'. -/
def tablebWasteUptoCard : Claim7 := { stood := { row := tablebWasteUptoRow, standIns := [], harness := (true, "c704b41ab9c85f1c6add05d783e6644adb7a948a143bff60c6871abbb9cdce2e"), looks := false }, kinds := [], alts := [], laidByText := true, laidKinds := [.data, .data], laidTests := true, laidLooks := .later }
def TablebWasteUptoCardSaid : Prop := Claim7.holds Tryd.pinned (.plain (OpenSpec.upto tablebWasteSpec)) tablebWasteUptoCard
end Rows
end Go.Proofs.YthdjceihbmdneaaDoor
