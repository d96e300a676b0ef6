/-
  DERIVED. GIVEN WITH THE SEED: THE CARDS: each row of YtagjoebggghknaaDoorRows.lean that lists a variable, with what it lists TIED to the program's text (the seventh form; the later family's looks); each row that meets fmt, with fmt's text TOLD by the authors' own Lean function (tested against real Go, not proved from fmt's source: count such statements apart). THE CARD IS WHAT COUNTS. Prove the row's statement (the work); the ties are given (YtagjoebggghknaaDoorTie.lean); close each card by the builder's one call (the guide's Derived/Test/ToyasCard.lean, 'card_holds'). Laid BY PROGRAM, IN A SANDBOX (cutbox-door.mjs). By AI agents, Wed Nov 11 2026. No macro, syntax, notation, axiom, sorry.
-/
import Derived.Test.YtagjoebggghknaaDoorRows
import GoSem.ClaimSeven
namespace Go.Proofs.YtagjoebggghknaaDoor
namespace Rows

/-- THE TIED CARD OF 'calenderlaw12.PieceTakes'. -/
def pieceTakesCard : Claim7 := { stood := { row := pieceTakesRow, standIns := [], harness := (true, "84f0aec9d952398b78e850f98340d646cb3797f8e5ad3d8e037038d0132d666c"), looks := true }, kinds := [], alts := [], laidByText := true, laidKinds := [.data, .pinned], laidTests := true, laidLooks := .later }
def PieceTakesCardSaid : Prop := Claim7.holds Tryd.pinned (.plain (OpenSpec.ofChange pieceTakesSpec)) pieceTakesCard

/-- THE TIED CARD OF 'calenderlaw12.PieceWords'. -/
def pieceWordsCard : Claim7 := { stood := { row := pieceWordsRow, standIns := [], harness := (true, "84f0aec9d952398b78e850f98340d646cb3797f8e5ad3d8e037038d0132d666c"), looks := true }, kinds := [], alts := [], laidByText := true, laidKinds := [.data, .data, .data, .data, .sentinel, .sentinel, .pinned], laidTests := true, laidLooks := .later }
def PieceWordsCardSaid : Prop := Claim7.holds Tryd.pinned (.plain (OpenSpec.ofChange pieceWordsSpec)) pieceWordsCard

/-- THE TIED CARD OF 'calenderlaw12.PieceTexts'. -/
def pieceTextsCard : Claim7 := { stood := { row := pieceTextsRow, standIns := [], harness := (true, "84f0aec9d952398b78e850f98340d646cb3797f8e5ad3d8e037038d0132d666c"), looks := true }, kinds := [], alts := [], laidByText := true, laidKinds := [.data, .pinned], laidTests := true, laidLooks := .later }
def PieceTextsCardSaid : Prop := Claim7.holds Tryd.pinned (.plain (OpenSpec.ofChange pieceTextsSpec)) pieceTextsCard

/-- THE TIED CARD OF 'calenderlaw12.PieceBack'. -/
def pieceBackCard : Claim7 := { stood := { row := pieceBackRow, standIns := [], harness := (true, "84f0aec9d952398b78e850f98340d646cb3797f8e5ad3d8e037038d0132d666c"), looks := true }, kinds := [], alts := [], laidByText := true, laidKinds := [.data, .pinned], laidTests := true, laidLooks := .later }
def PieceBackCardSaid : Prop := Claim7.holds Tryd.pinned (.plain (OpenSpec.ofChange pieceBackSpec)) pieceBackCard

/-- THE TIED CARD OF 'calenderlaw12.PieceAgain'. -/
def pieceAgainCard : Claim7 := { stood := { row := pieceAgainRow, standIns := [], harness := (true, "84f0aec9d952398b78e850f98340d646cb3797f8e5ad3d8e037038d0132d666c"), looks := true }, kinds := [], alts := [], laidByText := true, laidKinds := [.data, .pinned], laidTests := true, laidLooks := .later }
def PieceAgainCardSaid : Prop := Claim7.holds Tryd.pinned (.plain (OpenSpec.ofChange pieceAgainSpec)) pieceAgainCard

/-- THE TIED CARD OF 'calenderlaw12.PieceEnds'. -/
def pieceEndsCard : Claim7 := { stood := { row := pieceEndsRow, standIns := [], harness := (true, "84f0aec9d952398b78e850f98340d646cb3797f8e5ad3d8e037038d0132d666c"), looks := true }, kinds := [], alts := [], laidByText := true, laidKinds := [.data, .pinned], laidTests := true, laidLooks := .later }
def PieceEndsCardSaid : Prop := Claim7.holds Tryd.pinned (.plain (OpenSpec.ofChange pieceEndsSpec)) pieceEndsCard

/-- THE SECOND FORM's CARD OF 'calenderlaw12.PieceTakes'. -/
def pieceTakesUptoCard : Claim7 := { stood := { row := pieceTakesUptoRow, standIns := [], harness := (true, "84f0aec9d952398b78e850f98340d646cb3797f8e5ad3d8e037038d0132d666c"), looks := true }, kinds := [], alts := [], laidByText := true, laidKinds := [.data, .pinned], laidTests := true, laidLooks := .later }
def PieceTakesUptoCardSaid : Prop := Claim7.holds Tryd.pinned (.plain (OpenSpec.upto pieceTakesSpec)) pieceTakesUptoCard

/-- THE SECOND FORM's CARD OF 'calenderlaw12.PieceWords'. -/
def pieceWordsUptoCard : Claim7 := { stood := { row := pieceWordsUptoRow, standIns := [], harness := (true, "84f0aec9d952398b78e850f98340d646cb3797f8e5ad3d8e037038d0132d666c"), looks := true }, kinds := [], alts := [], laidByText := true, laidKinds := [.data, .data, .data, .data, .sentinel, .sentinel, .pinned], laidTests := true, laidLooks := .later }
def PieceWordsUptoCardSaid : Prop := Claim7.holds Tryd.pinned (.plain (OpenSpec.upto pieceWordsSpec)) pieceWordsUptoCard

/-- THE SECOND FORM's CARD OF 'calenderlaw12.PieceTexts'. -/
def pieceTextsUptoCard : Claim7 := { stood := { row := pieceTextsUptoRow, standIns := [], harness := (true, "84f0aec9d952398b78e850f98340d646cb3797f8e5ad3d8e037038d0132d666c"), looks := true }, kinds := [], alts := [], laidByText := true, laidKinds := [.data, .pinned], laidTests := true, laidLooks := .later }
def PieceTextsUptoCardSaid : Prop := Claim7.holds Tryd.pinned (.plain (OpenSpec.upto pieceTextsSpec)) pieceTextsUptoCard

/-- THE SECOND FORM's CARD OF 'calenderlaw12.PieceBack'. -/
def pieceBackUptoCard : Claim7 := { stood := { row := pieceBackUptoRow, standIns := [], harness := (true, "84f0aec9d952398b78e850f98340d646cb3797f8e5ad3d8e037038d0132d666c"), looks := true }, kinds := [], alts := [], laidByText := true, laidKinds := [.data, .pinned], laidTests := true, laidLooks := .later }
def PieceBackUptoCardSaid : Prop := Claim7.holds Tryd.pinned (.plain (OpenSpec.upto pieceBackSpec)) pieceBackUptoCard

/-- THE SECOND FORM's CARD OF 'calenderlaw12.PieceAgain'. -/
def pieceAgainUptoCard : Claim7 := { stood := { row := pieceAgainUptoRow, standIns := [], harness := (true, "84f0aec9d952398b78e850f98340d646cb3797f8e5ad3d8e037038d0132d666c"), looks := true }, kinds := [], alts := [], laidByText := true, laidKinds := [.data, .pinned], laidTests := true, laidLooks := .later }
def PieceAgainUptoCardSaid : Prop := Claim7.holds Tryd.pinned (.plain (OpenSpec.upto pieceAgainSpec)) pieceAgainUptoCard

/-- THE SECOND FORM's CARD OF 'calenderlaw12.PieceEnds'. -/
def pieceEndsUptoCard : Claim7 := { stood := { row := pieceEndsUptoRow, standIns := [], harness := (true, "84f0aec9d952398b78e850f98340d646cb3797f8e5ad3d8e037038d0132d666c"), looks := true }, kinds := [], alts := [], laidByText := true, laidKinds := [.data, .pinned], laidTests := true, laidLooks := .later }
def PieceEndsUptoCardSaid : Prop := Claim7.holds Tryd.pinned (.plain (OpenSpec.upto pieceEndsSpec)) pieceEndsUptoCard
end Rows
end Go.Proofs.YtagjoebggghknaaDoor
