/-
  DERIVED. GIVEN WITH THE SEED: THE CARDS: each row of YtfkidgbjjlgjdaaDoorRows.lean that lists a variable, with what it lists TIED to the program's text (the seventh form; the later family's looks); each row that meets fmt, with fmt's text TOLD by the authors' own Lean function (tested against real Go, not proved from fmt's source: count such statements apart). THE CARD IS WHAT COUNTS. Prove the row's statement (the work); the ties are given (YtfkidgbjjlgjdaaDoorTie.lean); close each card by the builder's one call (the guide's Derived/Test/ToyasCard.lean, 'card_holds'). Laid BY PROGRAM, IN A SANDBOX (cutbox-door.mjs). By AI agents, Wed Nov 11 2026. No macro, syntax, notation, axiom, sorry.
-/
import Derived.Test.YtfkidgbjjlgjdaaDoorRows
import GoSem.ClaimSeven
namespace Go.Proofs.YtfkidgbjjlgjdaaDoor
namespace Rows

/-- THE TIED CARD OF 'calenderlaw03.RxParses'. -/
def rxParsesCard : Claim7 := { stood := { row := rxParsesRow, standIns := [], harness := (true, "4ffad2b28cc4e3f860821ce8012f1f84f2707dabded48cd260a8bac4702e156c"), looks := true }, kinds := [], alts := [], laidByText := true, laidKinds := [.data, .data, .data, .sentinel, .sentinel], laidTests := true, laidLooks := .later }
def RxParsesCardSaid : Prop := Claim7.holds Tryd.pinned (.plain (OpenSpec.ofChange rxParsesSpec)) rxParsesCard

/-- THE TIED CARD OF 'calenderlaw03.RxBack'. -/
def rxBackCard : Claim7 := { stood := { row := rxBackRow, standIns := [], harness := (true, "4ffad2b28cc4e3f860821ce8012f1f84f2707dabded48cd260a8bac4702e156c"), looks := true }, kinds := [], alts := [], laidByText := true, laidKinds := [.data, .data, .data, .sentinel, .sentinel], laidTests := true, laidLooks := .later }
def RxBackCardSaid : Prop := Claim7.holds Tryd.pinned (.plain (OpenSpec.ofChange rxBackSpec)) rxBackCard

/-- THE TIED CARD OF 'calenderlaw03.RxFolds'. -/
def rxFoldsCard : Claim7 := { stood := { row := rxFoldsRow, standIns := [], harness := (true, "4ffad2b28cc4e3f860821ce8012f1f84f2707dabded48cd260a8bac4702e156c"), looks := true }, kinds := [], alts := [], laidByText := true, laidKinds := [.data, .data, .data, .sentinel, .sentinel], laidTests := true, laidLooks := .later }
def RxFoldsCardSaid : Prop := Claim7.holds Tryd.pinned (.plain (OpenSpec.ofChange rxFoldsSpec)) rxFoldsCard

/-- THE TIED CARD OF 'calenderlaw03.RxApart'. -/
def rxApartCard : Claim7 := { stood := { row := rxApartRow, standIns := [], harness := (true, "4ffad2b28cc4e3f860821ce8012f1f84f2707dabded48cd260a8bac4702e156c"), looks := true }, kinds := [], alts := [], laidByText := true, laidKinds := [.data, .data, .data, .sentinel, .sentinel], laidTests := true, laidLooks := .later }
def RxApartCardSaid : Prop := Claim7.holds Tryd.pinned (.plain (OpenSpec.ofChange rxApartSpec)) rxApartCard

/-- THE TIED CARD OF 'calenderlaw03.RxGroups'. -/
def rxGroupsCard : Claim7 := { stood := { row := rxGroupsRow, standIns := [], harness := (true, "4ffad2b28cc4e3f860821ce8012f1f84f2707dabded48cd260a8bac4702e156c"), looks := true }, kinds := [], alts := [], laidByText := true, laidKinds := [.data, .data, .data, .sentinel, .sentinel], laidTests := true, laidLooks := .later }
def RxGroupsCardSaid : Prop := Claim7.holds Tryd.pinned (.plain (OpenSpec.ofChange rxGroupsSpec)) rxGroupsCard

/-- THE SECOND FORM's CARD OF 'calenderlaw03.RxParses'. -/
def rxParsesUptoCard : Claim7 := { stood := { row := rxParsesUptoRow, standIns := [], harness := (true, "4ffad2b28cc4e3f860821ce8012f1f84f2707dabded48cd260a8bac4702e156c"), looks := true }, kinds := [], alts := [], laidByText := true, laidKinds := [.data, .data, .data, .sentinel, .sentinel], laidTests := true, laidLooks := .later }
def RxParsesUptoCardSaid : Prop := Claim7.holds Tryd.pinned (.plain (OpenSpec.upto rxParsesSpec)) rxParsesUptoCard

/-- THE SECOND FORM's CARD OF 'calenderlaw03.RxBack'. -/
def rxBackUptoCard : Claim7 := { stood := { row := rxBackUptoRow, standIns := [], harness := (true, "4ffad2b28cc4e3f860821ce8012f1f84f2707dabded48cd260a8bac4702e156c"), looks := true }, kinds := [], alts := [], laidByText := true, laidKinds := [.data, .data, .data, .sentinel, .sentinel], laidTests := true, laidLooks := .later }
def RxBackUptoCardSaid : Prop := Claim7.holds Tryd.pinned (.plain (OpenSpec.upto rxBackSpec)) rxBackUptoCard

/-- THE SECOND FORM's CARD OF 'calenderlaw03.RxFolds'. -/
def rxFoldsUptoCard : Claim7 := { stood := { row := rxFoldsUptoRow, standIns := [], harness := (true, "4ffad2b28cc4e3f860821ce8012f1f84f2707dabded48cd260a8bac4702e156c"), looks := true }, kinds := [], alts := [], laidByText := true, laidKinds := [.data, .data, .data, .sentinel, .sentinel], laidTests := true, laidLooks := .later }
def RxFoldsUptoCardSaid : Prop := Claim7.holds Tryd.pinned (.plain (OpenSpec.upto rxFoldsSpec)) rxFoldsUptoCard

/-- THE SECOND FORM's CARD OF 'calenderlaw03.RxApart'. -/
def rxApartUptoCard : Claim7 := { stood := { row := rxApartUptoRow, standIns := [], harness := (true, "4ffad2b28cc4e3f860821ce8012f1f84f2707dabded48cd260a8bac4702e156c"), looks := true }, kinds := [], alts := [], laidByText := true, laidKinds := [.data, .data, .data, .sentinel, .sentinel], laidTests := true, laidLooks := .later }
def RxApartUptoCardSaid : Prop := Claim7.holds Tryd.pinned (.plain (OpenSpec.upto rxApartSpec)) rxApartUptoCard

/-- THE SECOND FORM's CARD OF 'calenderlaw03.RxGroups'. -/
def rxGroupsUptoCard : Claim7 := { stood := { row := rxGroupsUptoRow, standIns := [], harness := (true, "4ffad2b28cc4e3f860821ce8012f1f84f2707dabded48cd260a8bac4702e156c"), looks := true }, kinds := [], alts := [], laidByText := true, laidKinds := [.data, .data, .data, .sentinel, .sentinel], laidTests := true, laidLooks := .later }
def RxGroupsUptoCardSaid : Prop := Claim7.holds Tryd.pinned (.plain (OpenSpec.upto rxGroupsSpec)) rxGroupsUptoCard
end Rows
end Go.Proofs.YtfkidgbjjlgjdaaDoor
