/-
  DERIVED. GIVEN WITH THE SEED: THE CARDS: each row of YtkcbknfhckomcaaGreatDoorRows.lean that lists a variable, with what it lists TIED to the program's text (the seventh form; the later family's looks); each row that meets fmt, with fmt's text TOLD by the authors' own Lean function (tested against real Go, not proved from fmt's source: count such statements apart). THE CARD IS WHAT COUNTS. Prove the row's statement (the work); the ties are given (YtkcbknfhckomcaaGreatDoorTie.lean); close each card by the builder's one call (the guide's Derived/Test/ToyasCard.lean, 'card_holds'). Laid BY PROGRAM, IN A SANDBOX (cutbox-door.mjs). By AI agents, Wed Nov 11 2026. No macro, syntax, notation, axiom, sorry.
-/
import Derived.Test.YtkcbknfhckomcaaGreatDoorRows
import GoSem.ClaimSeven
namespace Go.Proofs.YtkcbknfhckomcaaGreatDoor
namespace Rows

/-- THE TIED CARD OF 'calenderlaw04.BrePrints'. -/
def brePrintsCard : Claim7 := { stood := { row := brePrintsRow, standIns := [], harness := (true, "538a29c824c1d8b06532969a72c14abaf770907825e94566923dea9260aed0c1"), looks := true }, kinds := [], alts := [], laidByText := true, laidKinds := [.data, .data, .data, .sentinel, .sentinel], laidTests := true, laidLooks := .later }
def BrePrintsCardSaid : Prop := Claim7.holds Tryz.pinned (.plain (OpenSpec.ofChange brePrintsSpec)) brePrintsCard

/-- THE SECOND FORM's CARD OF 'calenderlaw04.BrePrints'. -/
def brePrintsUptoCard : Claim7 := { stood := { row := brePrintsUptoRow, standIns := [], harness := (true, "538a29c824c1d8b06532969a72c14abaf770907825e94566923dea9260aed0c1"), looks := true }, kinds := [], alts := [], laidByText := true, laidKinds := [.data, .data, .data, .sentinel, .sentinel], laidTests := true, laidLooks := .later }
def BrePrintsUptoCardSaid : Prop := Claim7.holds Tryz.pinned (.plain (OpenSpec.upto brePrintsSpec)) brePrintsUptoCard
end Rows
end Go.Proofs.YtkcbknfhckomcaaGreatDoor
