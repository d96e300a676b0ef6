/-
  DERIVED. GIVEN WITH THE SEED: THE CARDS: each row of YthbldjiibgnfmaaGreatDoorRows.lean that lists a variable, with what it lists TIED to the program's text (the seventh form; the later family's looks); each row that meets fmt, with fmt's text TOLD by the authors' own Lean function (tested against real Go, not proved from fmt's source: count such statements apart). THE CARD IS WHAT COUNTS. Prove the row's statement (the work); the ties are given (YthbldjiibgnfmaaGreatDoorTie.lean); close each card by the builder's one call (the guide's Derived/Test/ToyasCard.lean, 'card_holds'). Laid BY PROGRAM, IN A SANDBOX (cutbox-door.mjs). By AI agents, Wed Nov 11 2026. No macro, syntax, notation, axiom, sorry.
-/
import Derived.Test.YthbldjiibgnfmaaGreatDoorRows
import GoSem.ClaimSeven
namespace Go.Proofs.YthbldjiibgnfmaaGreatDoor
namespace Rows

/-- THE TIED CARD OF 'calenderlaw04.BreShows'. -/
def breShowsCard : Claim7 := { stood := { row := breShowsRow, standIns := [], harness := (true, "8081060ec9e21ee10b99207a3efff7322d9b762498c362f0c301ba4cf85b709d"), looks := true }, kinds := [], alts := [], laidByText := true, laidKinds := [.data, .data, .data, .sentinel, .sentinel], laidTests := true, laidLooks := .later }
def BreShowsCardSaid : Prop := Claim7.holds Tryz.pinned (.plain (OpenSpec.ofChange breShowsSpec)) breShowsCard

/-- THE TIED CARD OF 'calenderlaw04.BreBack'. -/
def breBackCard : Claim7 := { stood := { row := breBackRow, standIns := [], harness := (true, "8081060ec9e21ee10b99207a3efff7322d9b762498c362f0c301ba4cf85b709d"), looks := true }, kinds := [], alts := [], laidByText := true, laidKinds := [.data, .data, .data, .sentinel, .sentinel], laidTests := true, laidLooks := .later }
def BreBackCardSaid : Prop := Claim7.holds Tryz.pinned (.plain (OpenSpec.ofChange breBackSpec)) breBackCard

/-- THE TIED CARD OF 'calenderlaw04.BreLetters'. -/
def breLettersCard : Claim7 := { stood := { row := breLettersRow, standIns := [], harness := (true, "8081060ec9e21ee10b99207a3efff7322d9b762498c362f0c301ba4cf85b709d"), looks := true }, kinds := [], alts := [], laidByText := true, laidKinds := [.data, .data, .data, .sentinel, .sentinel], laidTests := true, laidLooks := .later }
def BreLettersCardSaid : Prop := Claim7.holds Tryz.pinned (.plain (OpenSpec.ofChange breLettersSpec)) breLettersCard

/-- THE SECOND FORM's CARD OF 'calenderlaw04.BreShows'. -/
def breShowsUptoCard : Claim7 := { stood := { row := breShowsUptoRow, standIns := [], harness := (true, "8081060ec9e21ee10b99207a3efff7322d9b762498c362f0c301ba4cf85b709d"), looks := true }, kinds := [], alts := [], laidByText := true, laidKinds := [.data, .data, .data, .sentinel, .sentinel], laidTests := true, laidLooks := .later }
def BreShowsUptoCardSaid : Prop := Claim7.holds Tryz.pinned (.plain (OpenSpec.upto breShowsSpec)) breShowsUptoCard

/-- THE SECOND FORM's CARD OF 'calenderlaw04.BreBack'. -/
def breBackUptoCard : Claim7 := { stood := { row := breBackUptoRow, standIns := [], harness := (true, "8081060ec9e21ee10b99207a3efff7322d9b762498c362f0c301ba4cf85b709d"), looks := true }, kinds := [], alts := [], laidByText := true, laidKinds := [.data, .data, .data, .sentinel, .sentinel], laidTests := true, laidLooks := .later }
def BreBackUptoCardSaid : Prop := Claim7.holds Tryz.pinned (.plain (OpenSpec.upto breBackSpec)) breBackUptoCard

/-- THE SECOND FORM's CARD OF 'calenderlaw04.BreLetters'. -/
def breLettersUptoCard : Claim7 := { stood := { row := breLettersUptoRow, standIns := [], harness := (true, "8081060ec9e21ee10b99207a3efff7322d9b762498c362f0c301ba4cf85b709d"), looks := true }, kinds := [], alts := [], laidByText := true, laidKinds := [.data, .data, .data, .sentinel, .sentinel], laidTests := true, laidLooks := .later }
def BreLettersUptoCardSaid : Prop := Claim7.holds Tryz.pinned (.plain (OpenSpec.upto breLettersSpec)) breLettersUptoCard
end Rows
end Go.Proofs.YthbldjiibgnfmaaGreatDoor
