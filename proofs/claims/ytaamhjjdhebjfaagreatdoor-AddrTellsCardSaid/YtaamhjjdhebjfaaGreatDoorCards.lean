/-
  DERIVED. GIVEN WITH THE SEED: THE CARDS: each row of YtaamhjjdhebjfaaGreatDoorRows.lean that lists a variable, with what it lists TIED to the program's text (the seventh form; the later family's looks); each row that meets fmt, with fmt's text TOLD by the authors' own Lean function (tested against real Go, not proved from fmt's source: count such statements apart). THE CARD IS WHAT COUNTS. Prove the row's statement (the work); the ties are given (YtaamhjjdhebjfaaGreatDoorTie.lean); close each card by the builder's one call (the guide's Derived/Test/ToyasCard.lean, 'card_holds'). Laid BY PROGRAM, IN A SANDBOX (cutbox-door.mjs). By AI agents, Wed Nov 11 2026. No macro, syntax, notation, axiom, sorry.
-/
import Derived.Test.YtaamhjjdhebjfaaGreatDoorRows
import GoSem.ClaimSeven
namespace Go.Proofs.YtaamhjjdhebjfaaGreatDoor
namespace Rows

/-- THE TIED CARD OF 'calenderlaw11.AddrTells'. -/
def addrTellsCard : Claim7 := { stood := { row := addrTellsRow, standIns := [], harness := (true, "06be9cff23845513ce0caada82ef6d7236d55fdc7745ce53b5beb95f02dfb8d6"), looks := true }, kinds := [], alts := [], laidByText := true, laidKinds := [.data, .data, .data, .data, .sentinel, .sentinel, .pinned], laidTests := true, laidLooks := .later }
def AddrTellsCardSaid : Prop := Claim7.holds Tryz.pinned (.plain (OpenSpec.ofChange addrTellsSpec)) addrTellsCard

/-- THE TIED CARD OF 'calenderlaw11.AddrAsks'. -/
def addrAsksCard : Claim7 := { stood := { row := addrAsksRow, standIns := [], harness := (true, "06be9cff23845513ce0caada82ef6d7236d55fdc7745ce53b5beb95f02dfb8d6"), looks := true }, kinds := [], alts := [], laidByText := true, laidKinds := [.data, .data, .data, .data, .sentinel, .sentinel, .pinned], laidTests := true, laidLooks := .later }
def AddrAsksCardSaid : Prop := Claim7.holds Tryz.pinned (.plain (OpenSpec.ofChange addrAsksSpec)) addrAsksCard

/-- THE SECOND FORM's CARD OF 'calenderlaw11.AddrTells'. -/
def addrTellsUptoCard : Claim7 := { stood := { row := addrTellsUptoRow, standIns := [], harness := (true, "06be9cff23845513ce0caada82ef6d7236d55fdc7745ce53b5beb95f02dfb8d6"), looks := true }, kinds := [], alts := [], laidByText := true, laidKinds := [.data, .data, .data, .data, .sentinel, .sentinel, .pinned], laidTests := true, laidLooks := .later }
def AddrTellsUptoCardSaid : Prop := Claim7.holds Tryz.pinned (.plain (OpenSpec.upto addrTellsSpec)) addrTellsUptoCard

/-- THE SECOND FORM's CARD OF 'calenderlaw11.AddrAsks'. -/
def addrAsksUptoCard : Claim7 := { stood := { row := addrAsksUptoRow, standIns := [], harness := (true, "06be9cff23845513ce0caada82ef6d7236d55fdc7745ce53b5beb95f02dfb8d6"), looks := true }, kinds := [], alts := [], laidByText := true, laidKinds := [.data, .data, .data, .data, .sentinel, .sentinel, .pinned], laidTests := true, laidLooks := .later }
def AddrAsksUptoCardSaid : Prop := Claim7.holds Tryz.pinned (.plain (OpenSpec.upto addrAsksSpec)) addrAsksUptoCard
end Rows
end Go.Proofs.YtaamhjjdhebjfaaGreatDoor
