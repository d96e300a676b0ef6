/-
  DERIVED. GIVEN WITH THE SEED: THE CARDS: each row of YthcgboebmhabeaaDoorRows.lean that lists a variable, with what it lists TIED to the program's text (the seventh form; the later family's looks); each row that meets fmt, with fmt's text TOLD by the authors' own Lean function (tested against real Go, not proved from fmt's source: count such statements apart). THE CARD IS WHAT COUNTS. Prove the row's statement (the work); the ties are given (YthcgboebmhabeaaDoorTie.lean); close each card by the builder's one call (the guide's Derived/Test/ToyasCard.lean, 'card_holds'). Laid BY PROGRAM, IN A SANDBOX (cutbox-door.mjs). By AI agents, Wed Nov 11 2026. No macro, syntax, notation, axiom, sorry.
-/
import Derived.Test.YthcgboebmhabeaaDoorRows
import GoSem.ClaimSeven
namespace Go.Proofs.YthcgboebmhabeaaDoor
namespace Rows

/-- THE TIED CARD OF 'calenderlaw03.RxParses'. -/
def rxParsesCard : Claim7 := { stood := { row := rxParsesRow, standIns := [], harness := (true, "4f2573f8b15f9a42d85f45683012da011105a25373c2778fb741c7c666ca4af9"), looks := true }, kinds := [], alts := [], laidByText := true, laidKinds := [.data, .data, .data, .sentinel, .sentinel], laidTests := true, laidLooks := .later }
def RxParsesCardSaid : Prop := Claim7.holds Tryd.pinned (.plain (OpenSpec.ofChange rxParsesSpec)) rxParsesCard

/-- THE SECOND FORM's CARD OF 'calenderlaw03.RxParses'. -/
def rxParsesUptoCard : Claim7 := { stood := { row := rxParsesUptoRow, standIns := [], harness := (true, "4f2573f8b15f9a42d85f45683012da011105a25373c2778fb741c7c666ca4af9"), looks := true }, kinds := [], alts := [], laidByText := true, laidKinds := [.data, .data, .data, .sentinel, .sentinel], laidTests := true, laidLooks := .later }
def RxParsesUptoCardSaid : Prop := Claim7.holds Tryd.pinned (.plain (OpenSpec.upto rxParsesSpec)) rxParsesUptoCard
end Rows
end Go.Proofs.YthcgboebmhabeaaDoor
