/-
  DERIVED. GIVEN WITH THE SEED: THE CARDS: each row of YtkmfncajdkdenaaGreatDoorRows.lean that lists a variable, with what it lists TIED to the program's text (the seventh form; the later family's looks); each row that meets fmt, with fmt's text TOLD by the authors' own Lean function (tested against real Go, not proved from fmt's source: count such statements apart). THE CARD IS WHAT COUNTS. Prove the row's statement (the work); the ties are given (YtkmfncajdkdenaaGreatDoorTie.lean); close each card by the builder's one call (the guide's Derived/Test/ToyasCard.lean, 'card_holds'). Laid BY PROGRAM, IN A SANDBOX (cutbox-door.mjs). By AI agents, Wed Nov 11 2026. No macro, syntax, notation, axiom, sorry.
-/
import Derived.Test.YtkmfncajdkdenaaGreatDoorRows
import GoSem.ClaimSeven
namespace Go.Proofs.YtkmfncajdkdenaaGreatDoor
namespace Rows

/-- THE TIED CARD OF 'calenderlaw04.BreBrackets'. -/
def breBracketsCard : Claim7 := { stood := { row := breBracketsRow, standIns := [], harness := (true, "46f3d0e911d4ac63ec29f01e0f6a2d949058685ad3eb19e09a1ad446fc9a2d59"), looks := true }, kinds := [], alts := [], laidByText := true, laidKinds := [.data, .data, .data, .sentinel, .sentinel], laidTests := true, laidLooks := .later }
def BreBracketsCardSaid : Prop := Claim7.holds Tryz.pinned (.plain (OpenSpec.ofChange breBracketsSpec)) breBracketsCard

/-- THE TIED CARD OF 'calenderlaw04.BreParses'. -/
def breParsesCard : Claim7 := { stood := { row := breParsesRow, standIns := [], harness := (true, "46f3d0e911d4ac63ec29f01e0f6a2d949058685ad3eb19e09a1ad446fc9a2d59"), looks := true }, kinds := [], alts := [], laidByText := true, laidKinds := [.data, .data, .data, .sentinel, .sentinel], laidTests := true, laidLooks := .later }
def BreParsesCardSaid : Prop := Claim7.holds Tryz.pinned (.plain (OpenSpec.ofChange breParsesSpec)) breParsesCard

/-- THE TIED CARD OF 'calenderlaw04.BrePrints'. -/
def brePrintsCard : Claim7 := { stood := { row := brePrintsRow, standIns := [], harness := (true, "46f3d0e911d4ac63ec29f01e0f6a2d949058685ad3eb19e09a1ad446fc9a2d59"), looks := true }, kinds := [], alts := [], laidByText := true, laidKinds := [.data, .data, .data, .sentinel, .sentinel], laidTests := true, laidLooks := .later }
def BrePrintsCardSaid : Prop := Claim7.holds Tryz.pinned (.plain (OpenSpec.ofChange brePrintsSpec)) brePrintsCard

/-- THE SECOND FORM's CARD OF 'calenderlaw04.BreBrackets'. -/
def breBracketsUptoCard : Claim7 := { stood := { row := breBracketsUptoRow, standIns := [], harness := (true, "46f3d0e911d4ac63ec29f01e0f6a2d949058685ad3eb19e09a1ad446fc9a2d59"), looks := true }, kinds := [], alts := [], laidByText := true, laidKinds := [.data, .data, .data, .sentinel, .sentinel], laidTests := true, laidLooks := .later }
def BreBracketsUptoCardSaid : Prop := Claim7.holds Tryz.pinned (.plain (OpenSpec.upto breBracketsSpec)) breBracketsUptoCard

/-- THE SECOND FORM's CARD OF 'calenderlaw04.BreParses'. -/
def breParsesUptoCard : Claim7 := { stood := { row := breParsesUptoRow, standIns := [], harness := (true, "46f3d0e911d4ac63ec29f01e0f6a2d949058685ad3eb19e09a1ad446fc9a2d59"), looks := true }, kinds := [], alts := [], laidByText := true, laidKinds := [.data, .data, .data, .sentinel, .sentinel], laidTests := true, laidLooks := .later }
def BreParsesUptoCardSaid : Prop := Claim7.holds Tryz.pinned (.plain (OpenSpec.upto breParsesSpec)) breParsesUptoCard

/-- THE SECOND FORM's CARD OF 'calenderlaw04.BrePrints'. -/
def brePrintsUptoCard : Claim7 := { stood := { row := brePrintsUptoRow, standIns := [], harness := (true, "46f3d0e911d4ac63ec29f01e0f6a2d949058685ad3eb19e09a1ad446fc9a2d59"), looks := true }, kinds := [], alts := [], laidByText := true, laidKinds := [.data, .data, .data, .sentinel, .sentinel], laidTests := true, laidLooks := .later }
def BrePrintsUptoCardSaid : Prop := Claim7.holds Tryz.pinned (.plain (OpenSpec.upto brePrintsSpec)) brePrintsUptoCard
end Rows
end Go.Proofs.YtkmfncajdkdenaaGreatDoor
