/-
  DERIVED. GIVEN WITH THE SEED: THE CARDS: each row of YtiemgeflkmbfoaaDoorRows.lean that lists a variable, with what it lists TIED to the program's text (the seventh form; the later family's looks); each row that meets fmt, with fmt's text TOLD by the authors' own Lean function (tested against real Go, not proved from fmt's source: count such statements apart). THE CARD IS WHAT COUNTS. Prove the row's statement (the work); the ties are given (YtiemgeflkmbfoaaDoorTie.lean); close each card by the builder's one call (the guide's Derived/Test/ToyasCard.lean, 'card_holds'). Laid BY PROGRAM, IN A SANDBOX (cutbox-door.mjs). By AI agents, Wed Nov 11 2026. No macro, syntax, notation, axiom, sorry.
-/
import Derived.Test.YtiemgeflkmbfoaaDoorRows
import GoSem.ClaimSeven
namespace Go.Proofs.YtiemgeflkmbfoaaDoor
namespace Rows

/-- THE TIED CARD OF 'underpinlaw13.OldslabCalls'. -/
def oldslabCallsCard : Claim7 := { stood := { row := oldslabCallsRow, standIns := [], harness := (true, "d735fa6d1069d0f699055594fa3f127ce754fed6a4e1f4febc367633c12347a4"), looks := false }, kinds := [], alts := [], laidByText := true, laidKinds := [.data, .data], laidTests := true, laidLooks := .later }
def OldslabCallsCardSaid : Prop := Claim7.holds Tryd.pinned (.plain (OpenSpec.ofChange oldslabCallsSpec)) oldslabCallsCard

/-- THE TIED CARD OF 'underpinlaw13.OldslabPlaces'. -/
def oldslabPlacesCard : Claim7 := { stood := { row := oldslabPlacesRow, standIns := [], harness := (true, "d735fa6d1069d0f699055594fa3f127ce754fed6a4e1f4febc367633c12347a4"), looks := false }, kinds := [], alts := [], laidByText := true, laidKinds := [.data, .data], laidTests := true, laidLooks := .later }
def OldslabPlacesCardSaid : Prop := Claim7.holds Tryd.pinned (.plain (OpenSpec.ofChange oldslabPlacesSpec)) oldslabPlacesCard

/-- THE TIED CARD OF 'underpinlaw13.OldslabAll'. -/
def oldslabAllCard : Claim7 := { stood := { row := oldslabAllRow, standIns := [], harness := (true, "d735fa6d1069d0f699055594fa3f127ce754fed6a4e1f4febc367633c12347a4"), looks := false }, kinds := [], alts := [], laidByText := true, laidKinds := [.data, .data], laidTests := true, laidLooks := .later }
def OldslabAllCardSaid : Prop := Claim7.holds Tryd.pinned (.plain (OpenSpec.ofChange oldslabAllSpec)) oldslabAllCard

/-- THE TIED CARD OF 'underpinlaw13.OldslabKeys'. -/
def oldslabKeysCard : Claim7 := { stood := { row := oldslabKeysRow, standIns := [], harness := (true, "d735fa6d1069d0f699055594fa3f127ce754fed6a4e1f4febc367633c12347a4"), looks := false }, kinds := [], alts := [], laidByText := true, laidKinds := [.data, .data], laidTests := true, laidLooks := .later }
def OldslabKeysCardSaid : Prop := Claim7.holds Tryd.pinned (.plain (OpenSpec.ofChange oldslabKeysSpec)) oldslabKeysCard

/-- THE SECOND FORM's CARD OF 'underpinlaw13.OldslabCalls'. -/
def oldslabCallsUptoCard : Claim7 := { stood := { row := oldslabCallsUptoRow, standIns := [], harness := (true, "d735fa6d1069d0f699055594fa3f127ce754fed6a4e1f4febc367633c12347a4"), looks := false }, kinds := [], alts := [], laidByText := true, laidKinds := [.data, .data], laidTests := true, laidLooks := .later }
def OldslabCallsUptoCardSaid : Prop := Claim7.holds Tryd.pinned (.plain (OpenSpec.upto oldslabCallsSpec)) oldslabCallsUptoCard

/-- THE SECOND FORM's CARD OF 'underpinlaw13.OldslabPlaces'. -/
def oldslabPlacesUptoCard : Claim7 := { stood := { row := oldslabPlacesUptoRow, standIns := [], harness := (true, "d735fa6d1069d0f699055594fa3f127ce754fed6a4e1f4febc367633c12347a4"), looks := false }, kinds := [], alts := [], laidByText := true, laidKinds := [.data, .data], laidTests := true, laidLooks := .later }
def OldslabPlacesUptoCardSaid : Prop := Claim7.holds Tryd.pinned (.plain (OpenSpec.upto oldslabPlacesSpec)) oldslabPlacesUptoCard

/-- THE SECOND FORM's CARD OF 'underpinlaw13.OldslabAll'. -/
def oldslabAllUptoCard : Claim7 := { stood := { row := oldslabAllUptoRow, standIns := [], harness := (true, "d735fa6d1069d0f699055594fa3f127ce754fed6a4e1f4febc367633c12347a4"), looks := false }, kinds := [], alts := [], laidByText := true, laidKinds := [.data, .data], laidTests := true, laidLooks := .later }
def OldslabAllUptoCardSaid : Prop := Claim7.holds Tryd.pinned (.plain (OpenSpec.upto oldslabAllSpec)) oldslabAllUptoCard

/-- THE SECOND FORM's CARD OF 'underpinlaw13.OldslabKeys'. -/
def oldslabKeysUptoCard : Claim7 := { stood := { row := oldslabKeysUptoRow, standIns := [], harness := (true, "d735fa6d1069d0f699055594fa3f127ce754fed6a4e1f4febc367633c12347a4"), looks := false }, kinds := [], alts := [], laidByText := true, laidKinds := [.data, .data], laidTests := true, laidLooks := .later }
def OldslabKeysUptoCardSaid : Prop := Claim7.holds Tryd.pinned (.plain (OpenSpec.upto oldslabKeysSpec)) oldslabKeysUptoCard
end Rows
end Go.Proofs.YtiemgeflkmbfoaaDoor
