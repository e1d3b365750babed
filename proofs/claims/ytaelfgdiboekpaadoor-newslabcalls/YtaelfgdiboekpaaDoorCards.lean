/-
  DERIVED. GIVEN WITH THE SEED: THE CARDS: each row of YtaelfgdiboekpaaDoorRows.lean that lists a variable, with what it lists TIED to the program's text (the seventh form; the later family's looks); each row that meets fmt, with fmt's text TOLD by the authors' own Lean function (tested against real Go, not proved from fmt's source: count such statements apart). THE CARD IS WHAT COUNTS. Prove the row's statement (the work); the ties are given (YtaelfgdiboekpaaDoorTie.lean); close each card by the builder's one call (the guide's Derived/Test/ToyasCard.lean, 'card_holds'). Laid BY PROGRAM, IN A SANDBOX (cutbox-door.mjs). By AI agents, Wed Nov 11 2026. No macro, syntax, notation, axiom, sorry.
-/
import Derived.Test.YtaelfgdiboekpaaDoorRows
import GoSem.ClaimSeven
namespace Go.Proofs.YtaelfgdiboekpaaDoor
namespace Rows

/-- THE TIED CARD OF 'underpinlaw15.NewslabWords'. -/
def newslabWordsCard : Claim7 := { stood := { row := newslabWordsRow, standIns := [], harness := (true, "9feca2f2682b42646a5e3cc0d79c7e4144a81b18b08337d6d641e8ed77dcd5a6"), looks := false }, kinds := [], alts := [], laidByText := true, laidKinds := [.data, .data], laidTests := true, laidLooks := .later }
def NewslabWordsCardSaid : Prop := Claim7.holds Tryd.pinned (.plain (OpenSpec.ofChange newslabWordsSpec)) newslabWordsCard

/-- THE TIED CARD OF 'underpinlaw15.NewslabCalls'. -/
def newslabCallsCard : Claim7 := { stood := { row := newslabCallsRow, standIns := [], harness := (true, "9feca2f2682b42646a5e3cc0d79c7e4144a81b18b08337d6d641e8ed77dcd5a6"), looks := false }, kinds := [], alts := [], laidByText := true, laidKinds := [.data, .data], laidTests := true, laidLooks := .later }
def NewslabCallsCardSaid : Prop := Claim7.holds Tryd.pinned (.plain (OpenSpec.ofChange newslabCallsSpec)) newslabCallsCard

/-- THE TIED CARD OF 'underpinlaw15.NewslabTouches'. -/
def newslabTouchesCard : Claim7 := { stood := { row := newslabTouchesRow, standIns := [], harness := (true, "9feca2f2682b42646a5e3cc0d79c7e4144a81b18b08337d6d641e8ed77dcd5a6"), looks := false }, kinds := [], alts := [], laidByText := true, laidKinds := [.data, .data], laidTests := true, laidLooks := .later }
def NewslabTouchesCardSaid : Prop := Claim7.holds Tryd.pinned (.plain (OpenSpec.ofChange newslabTouchesSpec)) newslabTouchesCard

/-- THE TIED CARD OF 'underpinlaw15.NewslabLast'. -/
def newslabLastCard : Claim7 := { stood := { row := newslabLastRow, standIns := [], harness := (true, "9feca2f2682b42646a5e3cc0d79c7e4144a81b18b08337d6d641e8ed77dcd5a6"), looks := false }, kinds := [], alts := [], laidByText := true, laidKinds := [.data, .data], laidTests := true, laidLooks := .later }
def NewslabLastCardSaid : Prop := Claim7.holds Tryd.pinned (.plain (OpenSpec.ofChange newslabLastSpec)) newslabLastCard

/-- THE TIED CARD OF 'underpinlaw15.NewslabForged'. -/
def newslabForgedCard : Claim7 := { stood := { row := newslabForgedRow, standIns := [], harness := (true, "9feca2f2682b42646a5e3cc0d79c7e4144a81b18b08337d6d641e8ed77dcd5a6"), looks := false }, kinds := [], alts := [], laidByText := true, laidKinds := [.data, .data], laidTests := true, laidLooks := .later }
def NewslabForgedCardSaid : Prop := Claim7.holds Tryd.pinned (.plain (OpenSpec.ofChange newslabForgedSpec)) newslabForgedCard

/-- THE TIED CARD OF 'underpinlaw15.NewslabBroken'. -/
def newslabBrokenCard : Claim7 := { stood := { row := newslabBrokenRow, standIns := [], harness := (true, "9feca2f2682b42646a5e3cc0d79c7e4144a81b18b08337d6d641e8ed77dcd5a6"), looks := false }, kinds := [], alts := [], laidByText := true, laidKinds := [.data, .data], laidTests := true, laidLooks := .later }
def NewslabBrokenCardSaid : Prop := Claim7.holds Tryd.pinned (.plain (OpenSpec.ofChange newslabBrokenSpec)) newslabBrokenCard

/-- THE SECOND FORM's CARD OF 'underpinlaw15.NewslabWords'. -/
def newslabWordsUptoCard : Claim7 := { stood := { row := newslabWordsUptoRow, standIns := [], harness := (true, "9feca2f2682b42646a5e3cc0d79c7e4144a81b18b08337d6d641e8ed77dcd5a6"), looks := false }, kinds := [], alts := [], laidByText := true, laidKinds := [.data, .data], laidTests := true, laidLooks := .later }
def NewslabWordsUptoCardSaid : Prop := Claim7.holds Tryd.pinned (.plain (OpenSpec.upto newslabWordsSpec)) newslabWordsUptoCard

/-- THE SECOND FORM's CARD OF 'underpinlaw15.NewslabCalls'. -/
def newslabCallsUptoCard : Claim7 := { stood := { row := newslabCallsUptoRow, standIns := [], harness := (true, "9feca2f2682b42646a5e3cc0d79c7e4144a81b18b08337d6d641e8ed77dcd5a6"), looks := false }, kinds := [], alts := [], laidByText := true, laidKinds := [.data, .data], laidTests := true, laidLooks := .later }
def NewslabCallsUptoCardSaid : Prop := Claim7.holds Tryd.pinned (.plain (OpenSpec.upto newslabCallsSpec)) newslabCallsUptoCard

/-- THE SECOND FORM's CARD OF 'underpinlaw15.NewslabTouches'. -/
def newslabTouchesUptoCard : Claim7 := { stood := { row := newslabTouchesUptoRow, standIns := [], harness := (true, "9feca2f2682b42646a5e3cc0d79c7e4144a81b18b08337d6d641e8ed77dcd5a6"), looks := false }, kinds := [], alts := [], laidByText := true, laidKinds := [.data, .data], laidTests := true, laidLooks := .later }
def NewslabTouchesUptoCardSaid : Prop := Claim7.holds Tryd.pinned (.plain (OpenSpec.upto newslabTouchesSpec)) newslabTouchesUptoCard

/-- THE SECOND FORM's CARD OF 'underpinlaw15.NewslabLast'. -/
def newslabLastUptoCard : Claim7 := { stood := { row := newslabLastUptoRow, standIns := [], harness := (true, "9feca2f2682b42646a5e3cc0d79c7e4144a81b18b08337d6d641e8ed77dcd5a6"), looks := false }, kinds := [], alts := [], laidByText := true, laidKinds := [.data, .data], laidTests := true, laidLooks := .later }
def NewslabLastUptoCardSaid : Prop := Claim7.holds Tryd.pinned (.plain (OpenSpec.upto newslabLastSpec)) newslabLastUptoCard

/-- THE SECOND FORM's CARD OF 'underpinlaw15.NewslabForged'. -/
def newslabForgedUptoCard : Claim7 := { stood := { row := newslabForgedUptoRow, standIns := [], harness := (true, "9feca2f2682b42646a5e3cc0d79c7e4144a81b18b08337d6d641e8ed77dcd5a6"), looks := false }, kinds := [], alts := [], laidByText := true, laidKinds := [.data, .data], laidTests := true, laidLooks := .later }
def NewslabForgedUptoCardSaid : Prop := Claim7.holds Tryd.pinned (.plain (OpenSpec.upto newslabForgedSpec)) newslabForgedUptoCard

/-- THE SECOND FORM's CARD OF 'underpinlaw15.NewslabBroken'. -/
def newslabBrokenUptoCard : Claim7 := { stood := { row := newslabBrokenUptoRow, standIns := [], harness := (true, "9feca2f2682b42646a5e3cc0d79c7e4144a81b18b08337d6d641e8ed77dcd5a6"), looks := false }, kinds := [], alts := [], laidByText := true, laidKinds := [.data, .data], laidTests := true, laidLooks := .later }
def NewslabBrokenUptoCardSaid : Prop := Claim7.holds Tryd.pinned (.plain (OpenSpec.upto newslabBrokenSpec)) newslabBrokenUptoCard
end Rows
end Go.Proofs.YtaelfgdiboekpaaDoor
