/-
  DERIVED. GIVEN WITH THE SEED: THE CARDS: each row of YthleflfljomeiaaDoorRows.lean that lists a variable, with what it lists TIED to the program's text (the seventh form; the later family's looks); each row that meets fmt, with fmt's text TOLD by the authors' own Lean function (tested against real Go, not proved from fmt's source: count such statements apart). THE CARD IS WHAT COUNTS. Prove the row's statement (the work); the ties are given (YthleflfljomeiaaDoorTie.lean); close each card by the builder's one call (the guide's Derived/Test/ToyasCard.lean, 'card_holds'). Laid BY PROGRAM, IN A SANDBOX (cutbox-door.mjs). By AI agents, Wed Nov 11 2026. No macro, syntax, notation, axiom, sorry.
-/
import Derived.Test.YthleflfljomeiaaDoorRows
import GoSem.ClaimSeven
namespace Go.Proofs.YthleflfljomeiaaDoor
namespace Rows

/-- THE TIED CARD OF 'underpinlaw03.BitsCalls'. -/
def bitsCallsCard : Claim7 := { stood := { row := bitsCallsRow, standIns := [], harness := (true, "bd46554bcc28253c034c13c964b89252d32b915461f88070cf8a8801e5de4c1d"), looks := false }, kinds := [], alts := [], laidByText := true, laidKinds := [.data], laidTests := true, laidLooks := .later }
def BitsCallsCardSaid : Prop := Claim7.holds Tryd.pinned (.plain (OpenSpec.ofChange bitsCallsSpec)) bitsCallsCard

/-- THE TIED CARD OF 'underpinlaw03.BitsKeys'. -/
def bitsKeysCard : Claim7 := { stood := { row := bitsKeysRow, standIns := [], harness := (true, "bd46554bcc28253c034c13c964b89252d32b915461f88070cf8a8801e5de4c1d"), looks := false }, kinds := [], alts := [], laidByText := true, laidKinds := [.data], laidTests := true, laidLooks := .later }
def BitsKeysCardSaid : Prop := Claim7.holds Tryd.pinned (.plain (OpenSpec.ofChange bitsKeysSpec)) bitsKeysCard

/-- THE TIED CARD OF 'underpinlaw03.BitsMates'. -/
def bitsMatesCard : Claim7 := { stood := { row := bitsMatesRow, standIns := [], harness := (true, "bd46554bcc28253c034c13c964b89252d32b915461f88070cf8a8801e5de4c1d"), looks := false }, kinds := [], alts := [], laidByText := true, laidKinds := [.data], laidTests := true, laidLooks := .later }
def BitsMatesCardSaid : Prop := Claim7.holds Tryd.pinned (.plain (OpenSpec.ofChange bitsMatesSpec)) bitsMatesCard

/-- THE SECOND FORM's CARD OF 'underpinlaw03.BitsCalls'. -/
def bitsCallsUptoCard : Claim7 := { stood := { row := bitsCallsUptoRow, standIns := [], harness := (true, "bd46554bcc28253c034c13c964b89252d32b915461f88070cf8a8801e5de4c1d"), looks := false }, kinds := [], alts := [], laidByText := true, laidKinds := [.data], laidTests := true, laidLooks := .later }
def BitsCallsUptoCardSaid : Prop := Claim7.holds Tryd.pinned (.plain (OpenSpec.upto bitsCallsSpec)) bitsCallsUptoCard

/-- THE SECOND FORM's CARD OF 'underpinlaw03.BitsKeys'. -/
def bitsKeysUptoCard : Claim7 := { stood := { row := bitsKeysUptoRow, standIns := [], harness := (true, "bd46554bcc28253c034c13c964b89252d32b915461f88070cf8a8801e5de4c1d"), looks := false }, kinds := [], alts := [], laidByText := true, laidKinds := [.data], laidTests := true, laidLooks := .later }
def BitsKeysUptoCardSaid : Prop := Claim7.holds Tryd.pinned (.plain (OpenSpec.upto bitsKeysSpec)) bitsKeysUptoCard

/-- THE SECOND FORM's CARD OF 'underpinlaw03.BitsMates'. -/
def bitsMatesUptoCard : Claim7 := { stood := { row := bitsMatesUptoRow, standIns := [], harness := (true, "bd46554bcc28253c034c13c964b89252d32b915461f88070cf8a8801e5de4c1d"), looks := false }, kinds := [], alts := [], laidByText := true, laidKinds := [.data], laidTests := true, laidLooks := .later }
def BitsMatesUptoCardSaid : Prop := Claim7.holds Tryd.pinned (.plain (OpenSpec.upto bitsMatesSpec)) bitsMatesUptoCard
end Rows
end Go.Proofs.YthleflfljomeiaaDoor
