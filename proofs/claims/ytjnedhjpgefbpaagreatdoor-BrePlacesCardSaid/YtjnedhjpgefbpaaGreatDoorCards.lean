/-
  DERIVED. GIVEN WITH THE SEED: THE CARDS: each row of YtjnedhjpgefbpaaGreatDoorRows.lean that lists a variable, with what it lists TIED to the program's text (the seventh form; the later family's looks); each row that meets fmt, with fmt's text TOLD by the authors' own Lean function (tested against real Go, not proved from fmt's source: count such statements apart). THE CARD IS WHAT COUNTS. Prove the row's statement (the work); the ties are given (YtjnedhjpgefbpaaGreatDoorTie.lean); close each card by the builder's one call (the guide's Derived/Test/ToyasCard.lean, 'card_holds'). Laid BY PROGRAM, IN A SANDBOX (cutbox-door.mjs). By AI agents, Wed Nov 11 2026. No macro, syntax, notation, axiom, sorry.
-/
import Derived.Test.YtjnedhjpgefbpaaGreatDoorRows
import GoSem.ClaimSeven
namespace Go.Proofs.YtjnedhjpgefbpaaGreatDoor
namespace Rows

/-- THE TIED CARD OF 'calenderlaw04.BrePlaces'. -/
def brePlacesCard : Claim7 := { stood := { row := brePlacesRow, standIns := [], harness := (true, "5ff2108e491eb9c554ee59e53bbb74558291de0df22e5077ef27c8f4205c4db9"), looks := true }, kinds := [], alts := [], laidByText := true, laidKinds := [.data, .data, .data, .sentinel, .sentinel], laidTests := true, laidLooks := .later }
def BrePlacesCardSaid : Prop := Claim7.holds Tryz.pinned (.plain (OpenSpec.ofChange brePlacesSpec)) brePlacesCard

/-- THE SECOND FORM's CARD OF 'calenderlaw04.BrePlaces'. -/
def brePlacesUptoCard : Claim7 := { stood := { row := brePlacesUptoRow, standIns := [], harness := (true, "5ff2108e491eb9c554ee59e53bbb74558291de0df22e5077ef27c8f4205c4db9"), looks := true }, kinds := [], alts := [], laidByText := true, laidKinds := [.data, .data, .data, .sentinel, .sentinel], laidTests := true, laidLooks := .later }
def BrePlacesUptoCardSaid : Prop := Claim7.holds Tryz.pinned (.plain (OpenSpec.upto brePlacesSpec)) brePlacesUptoCard
end Rows
end Go.Proofs.YtjnedhjpgefbpaaGreatDoor
