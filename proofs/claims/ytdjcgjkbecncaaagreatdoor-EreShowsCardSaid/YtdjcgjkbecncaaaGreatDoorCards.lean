/-
  DERIVED. GIVEN WITH THE SEED: THE CARDS: each row of YtdjcgjkbecncaaaGreatDoorRows.lean that lists a variable, with what it lists TIED to the program's text (the seventh form; the later family's looks); each row that meets fmt, with fmt's text TOLD by the authors' own Lean function (tested against real Go, not proved from fmt's source: count such statements apart). THE CARD IS WHAT COUNTS. Prove the row's statement (the work); the ties are given (YtdjcgjkbecncaaaGreatDoorTie.lean); close each card by the builder's one call (the guide's Derived/Test/ToyasCard.lean, 'card_holds'). Laid BY PROGRAM, IN A SANDBOX (cutbox-door.mjs). By AI agents, Wed Nov 11 2026. No macro, syntax, notation, axiom, sorry.
-/
import Derived.Test.YtdjcgjkbecncaaaGreatDoorRows
import GoSem.ClaimSeven
namespace Go.Proofs.YtdjcgjkbecncaaaGreatDoor
namespace Rows

/-- THE TIED CARD OF 'calenderlaw05.EreShows'. -/
def ereShowsCard : Claim7 := { stood := { row := ereShowsRow, standIns := [], harness := (true, "bc96edf03f1572598ac0cfcaab002503341b7a6487da492d2b37f58579b5fb26"), looks := true }, kinds := [], alts := [], laidByText := true, laidKinds := [.data, .data, .data, .data, .sentinel, .sentinel, .pinned], laidTests := true, laidLooks := .later }
def EreShowsCardSaid : Prop := Claim7.holds Tryz.pinned (.plain (OpenSpec.ofChange ereShowsSpec)) ereShowsCard

/-- THE TIED CARD OF 'calenderlaw05.EreParses'. -/
def ereParsesCard : Claim7 := { stood := { row := ereParsesRow, standIns := [], harness := (true, "bc96edf03f1572598ac0cfcaab002503341b7a6487da492d2b37f58579b5fb26"), looks := true }, kinds := [], alts := [], laidByText := true, laidKinds := [.data, .data, .data, .data, .sentinel, .sentinel, .pinned], laidTests := true, laidLooks := .later }
def EreParsesCardSaid : Prop := Claim7.holds Tryz.pinned (.plain (OpenSpec.ofChange ereParsesSpec)) ereParsesCard

/-- THE TIED CARD OF 'calenderlaw05.ErePrints'. -/
def erePrintsCard : Claim7 := { stood := { row := erePrintsRow, standIns := [], harness := (true, "bc96edf03f1572598ac0cfcaab002503341b7a6487da492d2b37f58579b5fb26"), looks := true }, kinds := [], alts := [], laidByText := true, laidKinds := [.data, .data, .data, .data, .sentinel, .sentinel, .pinned], laidTests := true, laidLooks := .later }
def ErePrintsCardSaid : Prop := Claim7.holds Tryz.pinned (.plain (OpenSpec.ofChange erePrintsSpec)) erePrintsCard

/-- THE TIED CARD OF 'calenderlaw05.EreBack'. -/
def ereBackCard : Claim7 := { stood := { row := ereBackRow, standIns := [], harness := (true, "bc96edf03f1572598ac0cfcaab002503341b7a6487da492d2b37f58579b5fb26"), looks := true }, kinds := [], alts := [], laidByText := true, laidKinds := [.data, .data, .data, .data, .sentinel, .sentinel, .pinned], laidTests := true, laidLooks := .later }
def EreBackCardSaid : Prop := Claim7.holds Tryz.pinned (.plain (OpenSpec.ofChange ereBackSpec)) ereBackCard

/-- THE TIED CARD OF 'calenderlaw05.EreAlts'. -/
def ereAltsCard : Claim7 := { stood := { row := ereAltsRow, standIns := [], harness := (true, "bc96edf03f1572598ac0cfcaab002503341b7a6487da492d2b37f58579b5fb26"), looks := true }, kinds := [], alts := [], laidByText := true, laidKinds := [.data, .data, .data, .data, .sentinel, .sentinel, .pinned], laidTests := true, laidLooks := .later }
def EreAltsCardSaid : Prop := Claim7.holds Tryz.pinned (.plain (OpenSpec.ofChange ereAltsSpec)) ereAltsCard

/-- THE TIED CARD OF 'calenderlaw05.ErePlaces'. -/
def erePlacesCard : Claim7 := { stood := { row := erePlacesRow, standIns := [], harness := (true, "bc96edf03f1572598ac0cfcaab002503341b7a6487da492d2b37f58579b5fb26"), looks := true }, kinds := [], alts := [], laidByText := true, laidKinds := [.data, .data, .data, .data, .sentinel, .sentinel, .pinned], laidTests := true, laidLooks := .later }
def ErePlacesCardSaid : Prop := Claim7.holds Tryz.pinned (.plain (OpenSpec.ofChange erePlacesSpec)) erePlacesCard

/-- THE SECOND FORM's CARD OF 'calenderlaw05.EreShows'. -/
def ereShowsUptoCard : Claim7 := { stood := { row := ereShowsUptoRow, standIns := [], harness := (true, "bc96edf03f1572598ac0cfcaab002503341b7a6487da492d2b37f58579b5fb26"), looks := true }, kinds := [], alts := [], laidByText := true, laidKinds := [.data, .data, .data, .data, .sentinel, .sentinel, .pinned], laidTests := true, laidLooks := .later }
def EreShowsUptoCardSaid : Prop := Claim7.holds Tryz.pinned (.plain (OpenSpec.upto ereShowsSpec)) ereShowsUptoCard

/-- THE SECOND FORM's CARD OF 'calenderlaw05.EreParses'. -/
def ereParsesUptoCard : Claim7 := { stood := { row := ereParsesUptoRow, standIns := [], harness := (true, "bc96edf03f1572598ac0cfcaab002503341b7a6487da492d2b37f58579b5fb26"), looks := true }, kinds := [], alts := [], laidByText := true, laidKinds := [.data, .data, .data, .data, .sentinel, .sentinel, .pinned], laidTests := true, laidLooks := .later }
def EreParsesUptoCardSaid : Prop := Claim7.holds Tryz.pinned (.plain (OpenSpec.upto ereParsesSpec)) ereParsesUptoCard

/-- THE SECOND FORM's CARD OF 'calenderlaw05.ErePrints'. -/
def erePrintsUptoCard : Claim7 := { stood := { row := erePrintsUptoRow, standIns := [], harness := (true, "bc96edf03f1572598ac0cfcaab002503341b7a6487da492d2b37f58579b5fb26"), looks := true }, kinds := [], alts := [], laidByText := true, laidKinds := [.data, .data, .data, .data, .sentinel, .sentinel, .pinned], laidTests := true, laidLooks := .later }
def ErePrintsUptoCardSaid : Prop := Claim7.holds Tryz.pinned (.plain (OpenSpec.upto erePrintsSpec)) erePrintsUptoCard

/-- THE SECOND FORM's CARD OF 'calenderlaw05.EreBack'. -/
def ereBackUptoCard : Claim7 := { stood := { row := ereBackUptoRow, standIns := [], harness := (true, "bc96edf03f1572598ac0cfcaab002503341b7a6487da492d2b37f58579b5fb26"), looks := true }, kinds := [], alts := [], laidByText := true, laidKinds := [.data, .data, .data, .data, .sentinel, .sentinel, .pinned], laidTests := true, laidLooks := .later }
def EreBackUptoCardSaid : Prop := Claim7.holds Tryz.pinned (.plain (OpenSpec.upto ereBackSpec)) ereBackUptoCard

/-- THE SECOND FORM's CARD OF 'calenderlaw05.EreAlts'. -/
def ereAltsUptoCard : Claim7 := { stood := { row := ereAltsUptoRow, standIns := [], harness := (true, "bc96edf03f1572598ac0cfcaab002503341b7a6487da492d2b37f58579b5fb26"), looks := true }, kinds := [], alts := [], laidByText := true, laidKinds := [.data, .data, .data, .data, .sentinel, .sentinel, .pinned], laidTests := true, laidLooks := .later }
def EreAltsUptoCardSaid : Prop := Claim7.holds Tryz.pinned (.plain (OpenSpec.upto ereAltsSpec)) ereAltsUptoCard

/-- THE SECOND FORM's CARD OF 'calenderlaw05.ErePlaces'. -/
def erePlacesUptoCard : Claim7 := { stood := { row := erePlacesUptoRow, standIns := [], harness := (true, "bc96edf03f1572598ac0cfcaab002503341b7a6487da492d2b37f58579b5fb26"), looks := true }, kinds := [], alts := [], laidByText := true, laidKinds := [.data, .data, .data, .data, .sentinel, .sentinel, .pinned], laidTests := true, laidLooks := .later }
def ErePlacesUptoCardSaid : Prop := Claim7.holds Tryz.pinned (.plain (OpenSpec.upto erePlacesSpec)) erePlacesUptoCard
end Rows
end Go.Proofs.YtdjcgjkbecncaaaGreatDoor
