/-
  NARROWER THAN 'FOR EVERY INPUT', by the rows' own cells (each row's printed sentence says how): TransMakes: laid · TransParses: laid · TransLists: laid · TransLines: laid · TransInverse: laid · TransPiece: laid · TransApart: laid.
  DERIVED. THE GIVEN ROWS OF THIS SEAT. 7 by the template 'for every input the law returns true; each argument reads behind the call as it read before'; 0 by the template 'total and deterministic' (their statements: YthnadcmejaciaaaDoorTotals.lean).
  GIVEN WITH THE SEED: the statements are not yours to turn. If you find one false, say at which input.
  Laid BY PROGRAM, IN A SANDBOX (cutbox-rows.mjs): the forced cells as the released guide's own fill.sh prints them over the translation 5254b7b1a9efff14… (all of the seat's roots in one cut). By AI agents, Wed Nov 11 2026. No macro, syntax, notation, axiom, sorry.
-/
import Derived.Test.YthnadcmejaciaaaDoorChecked
import GoSem.PinnedTables
import GoSem.Claim
import GoSem.ClaimJoined
import GoSem.ClaimMapViews
import Derived.JoinedTies
import Derived.KernelRfl
namespace Go.Proofs.YthnadcmejaciaaaDoor
/- THE CELL 'sum', in the pinned program and in every row, IS THE sha256 OF THE DUMP (.gsa) THAT YthnadcmejaciaaaDoorProg.lean LOADS. Nothing in Lean hashes anything: it is a label: what it is worth is what the hold of that sum in a sandbox is worth. -/
noncomputable def Tryd.pinned : Pinned := { name := "ythnadcmejaciaaadoor", sum := "5254b7b1a9efff1408d13fe077f6306b0eeb880db44a699624e07f0ad2e9499d", checked := Tryd.checked }
namespace Rows
def none {H : Type} : Left H := { results := [], args := [] }

/- WHAT THE LISTED PACKAGE-LEVEL VARIABLES READ AS WHEN THE CALL BEGINS. Each datum BY PROGRAM (the guide's laid-datum.mjs) off the statement by which the dump's own 'gosem.cut.vars' lays the variable. In a bare row this is a premise. The card (YthnadcmejaciaaaDoorCards.lean) ties it to the program's text. -/
def laid_unicode_utf8_acceptRanges {H : Type} : DataW H := .agg [.agg [.lit (.int .u8 128), .lit (.int .u8 191)], .agg [.lit (.int .u8 160), .lit (.int .u8 191)], .agg [.lit (.int .u8 128), .lit (.int .u8 159)], .agg [.lit (.int .u8 144), .lit (.int .u8 191)], .agg [.lit (.int .u8 128), .lit (.int .u8 143)], .agg [.lit (.int .u8 0), .lit (.int .u8 0)], .agg [.lit (.int .u8 0), .lit (.int .u8 0)], .agg [.lit (.int .u8 0), .lit (.int .u8 0)], .agg [.lit (.int .u8 0), .lit (.int .u8 0)], .agg [.lit (.int .u8 0), .lit (.int .u8 0)], .agg [.lit (.int .u8 0), .lit (.int .u8 0)], .agg [.lit (.int .u8 0), .lit (.int .u8 0)], .agg [.lit (.int .u8 0), .lit (.int .u8 0)], .agg [.lit (.int .u8 0), .lit (.int .u8 0)], .agg [.lit (.int .u8 0), .lit (.int .u8 0)], .agg [.lit (.int .u8 0), .lit (.int .u8 0)]]
/-- One of Go's own tables, pinned by name: the form's constant. -/
def laid_unicode_utf8_first : DataW Unit := Go.Pinned.utf8First

/-- 'calenderlaw10.TransMakes': WHATEVER THE INPUT: true; the input reads as it did. -/
def transMakesSpec : ChangeSpec := { name := "transMakes", fn := fun _ => fun
  | [d1, d2, d3, d4] => { results := [.lit (.bool true)], args := [d1, d2, d3, d4] }
  | _ => none }
def transMakesRow : OpenClaim := { program := "ythnadcmejaciaaadoor", sum := "5254b7b1a9efff1408d13fe077f6306b0eeb880db44a699624e07f0ad2e9499d", func := "calender/calenderlaw10.TransMakes", spec := "transMakes", inPlace := ["internal/bytealg.CountString", "internal/bytealg.IndexByteString", "internal/bytealg.IndexString", "internal/abi.NoEscape"], unfollowed := true, recurses := true, named := ["unicode/utf8.first", "unicode/utf8.acceptRanges", "internal/bytealg.MaxLen"], apart := false, laid := [("unicode/utf8.acceptRanges", laid_unicode_utf8_acceptRanges), ("unicode/utf8.first", laid_unicode_utf8_first)] }
def TransMakesSaid : Prop := transMakesRow.holds Tryd.pinned (OpenSpec.ofChange transMakesSpec)

/-- ITS FALSE NEIGHBOUR: 'it returns false'. Refute it at one input. -/
def transMakesWrong : ChangeSpec := { name := "transMakes", fn := fun _ => fun
  | [d1, d2, d3, d4] => { results := [.lit (.bool false)], args := [d1, d2, d3, d4] }
  | _ => none }
def TransMakesWrongFalsely : Prop := transMakesRow.holds Tryd.pinned (OpenSpec.ofChange transMakesWrong)

/-- 'calenderlaw10.TransParses': WHATEVER THE INPUT: true; the input reads as it did. -/
def transParsesSpec : ChangeSpec := { name := "transParses", fn := fun _ => fun
  | [d] => { results := [.lit (.bool true)], args := [d] }
  | _ => none }
def transParsesRow : OpenClaim := { program := "ythnadcmejaciaaadoor", sum := "5254b7b1a9efff1408d13fe077f6306b0eeb880db44a699624e07f0ad2e9499d", func := "calender/calenderlaw10.TransParses", spec := "transParses", inPlace := ["internal/bytealg.CountString", "internal/bytealg.IndexByteString", "internal/bytealg.IndexString", "internal/abi.NoEscape", "internal/bytealg.MakeNoZero"], unfollowed := true, recurses := true, named := ["unicode/utf8.first", "unicode/utf8.acceptRanges", "internal/bytealg.MaxLen"], apart := false, laid := [("unicode/utf8.acceptRanges", laid_unicode_utf8_acceptRanges), ("unicode/utf8.first", laid_unicode_utf8_first)] }
def TransParsesSaid : Prop := transParsesRow.holds Tryd.pinned (OpenSpec.ofChange transParsesSpec)

/-- ITS FALSE NEIGHBOUR: 'it returns false'. Refute it at one input. -/
def transParsesWrong : ChangeSpec := { name := "transParses", fn := fun _ => fun
  | [d] => { results := [.lit (.bool false)], args := [d] }
  | _ => none }
def TransParsesWrongFalsely : Prop := transParsesRow.holds Tryd.pinned (OpenSpec.ofChange transParsesWrong)

/-- 'calenderlaw10.TransLists': WHATEVER THE INPUT: true; the input reads as it did. -/
def transListsSpec : ChangeSpec := { name := "transLists", fn := fun _ => fun
  | [d1, d2, d3] => { results := [.lit (.bool true)], args := [d1, d2, d3] }
  | _ => none }
def transListsRow : OpenClaim := { program := "ythnadcmejaciaaadoor", sum := "5254b7b1a9efff1408d13fe077f6306b0eeb880db44a699624e07f0ad2e9499d", func := "calender/calenderlaw10.TransLists", spec := "transLists", inPlace := ["internal/bytealg.CountString", "internal/bytealg.IndexByteString", "internal/bytealg.IndexString", "internal/abi.NoEscape"], unfollowed := true, recurses := true, named := ["unicode/utf8.first", "unicode/utf8.acceptRanges", "internal/bytealg.MaxLen"], apart := false, laid := [("unicode/utf8.acceptRanges", laid_unicode_utf8_acceptRanges), ("unicode/utf8.first", laid_unicode_utf8_first)] }
def TransListsSaid : Prop := transListsRow.holds Tryd.pinned (OpenSpec.ofChange transListsSpec)

/-- ITS FALSE NEIGHBOUR: 'it returns false'. Refute it at one input. -/
def transListsWrong : ChangeSpec := { name := "transLists", fn := fun _ => fun
  | [d1, d2, d3] => { results := [.lit (.bool false)], args := [d1, d2, d3] }
  | _ => none }
def TransListsWrongFalsely : Prop := transListsRow.holds Tryd.pinned (OpenSpec.ofChange transListsWrong)

/-- 'calenderlaw10.TransLines': WHATEVER THE INPUT: true; the input reads as it did. -/
def transLinesSpec : ChangeSpec := { name := "transLines", fn := fun _ => fun
  | [d1, d2] => { results := [.lit (.bool true)], args := [d1, d2] }
  | _ => none }
def transLinesRow : OpenClaim := { program := "ythnadcmejaciaaadoor", sum := "5254b7b1a9efff1408d13fe077f6306b0eeb880db44a699624e07f0ad2e9499d", func := "calender/calenderlaw10.TransLines", spec := "transLines", inPlace := ["internal/bytealg.CountString", "internal/bytealg.IndexByteString", "internal/bytealg.IndexString", "internal/abi.NoEscape"], unfollowed := true, recurses := true, named := ["unicode/utf8.first", "unicode/utf8.acceptRanges", "internal/bytealg.MaxLen"], apart := false, laid := [("unicode/utf8.acceptRanges", laid_unicode_utf8_acceptRanges), ("unicode/utf8.first", laid_unicode_utf8_first)] }
def TransLinesSaid : Prop := transLinesRow.holds Tryd.pinned (OpenSpec.ofChange transLinesSpec)

/-- ITS FALSE NEIGHBOUR: 'it returns false'. Refute it at one input. -/
def transLinesWrong : ChangeSpec := { name := "transLines", fn := fun _ => fun
  | [d1, d2] => { results := [.lit (.bool false)], args := [d1, d2] }
  | _ => none }
def TransLinesWrongFalsely : Prop := transLinesRow.holds Tryd.pinned (OpenSpec.ofChange transLinesWrong)

/-- 'calenderlaw10.TransInverse': WHATEVER THE INPUT: true; the input reads as it did. -/
def transInverseSpec : ChangeSpec := { name := "transInverse", fn := fun _ => fun
  | [d1, d2, d3] => { results := [.lit (.bool true)], args := [d1, d2, d3] }
  | _ => none }
def transInverseRow : OpenClaim := { program := "ythnadcmejaciaaadoor", sum := "5254b7b1a9efff1408d13fe077f6306b0eeb880db44a699624e07f0ad2e9499d", func := "calender/calenderlaw10.TransInverse", spec := "transInverse", inPlace := ["internal/bytealg.CountString", "internal/bytealg.IndexByteString", "internal/bytealg.IndexString", "internal/abi.NoEscape"], unfollowed := true, recurses := true, named := ["unicode/utf8.first", "unicode/utf8.acceptRanges", "internal/bytealg.MaxLen"], apart := false, laid := [("unicode/utf8.acceptRanges", laid_unicode_utf8_acceptRanges), ("unicode/utf8.first", laid_unicode_utf8_first)] }
def TransInverseSaid : Prop := transInverseRow.holds Tryd.pinned (OpenSpec.ofChange transInverseSpec)

/-- ITS FALSE NEIGHBOUR: 'it returns false'. Refute it at one input. -/
def transInverseWrong : ChangeSpec := { name := "transInverse", fn := fun _ => fun
  | [d1, d2, d3] => { results := [.lit (.bool false)], args := [d1, d2, d3] }
  | _ => none }
def TransInverseWrongFalsely : Prop := transInverseRow.holds Tryd.pinned (OpenSpec.ofChange transInverseWrong)

/-- 'calenderlaw10.TransPiece': WHATEVER THE INPUT: true; the input reads as it did. -/
def transPieceSpec : ChangeSpec := { name := "transPiece", fn := fun _ => fun
  | [d1, d2] => { results := [.lit (.bool true)], args := [d1, d2] }
  | _ => none }
def transPieceRow : OpenClaim := { program := "ythnadcmejaciaaadoor", sum := "5254b7b1a9efff1408d13fe077f6306b0eeb880db44a699624e07f0ad2e9499d", func := "calender/calenderlaw10.TransPiece", spec := "transPiece", inPlace := ["internal/bytealg.CountString", "internal/bytealg.IndexByteString", "internal/bytealg.IndexString", "internal/abi.NoEscape"], unfollowed := true, recurses := true, named := ["unicode/utf8.first", "unicode/utf8.acceptRanges", "internal/bytealg.MaxLen"], apart := false, laid := [("unicode/utf8.acceptRanges", laid_unicode_utf8_acceptRanges), ("unicode/utf8.first", laid_unicode_utf8_first)] }
def TransPieceSaid : Prop := transPieceRow.holds Tryd.pinned (OpenSpec.ofChange transPieceSpec)

/-- ITS FALSE NEIGHBOUR: 'it returns false'. Refute it at one input. -/
def transPieceWrong : ChangeSpec := { name := "transPiece", fn := fun _ => fun
  | [d1, d2] => { results := [.lit (.bool false)], args := [d1, d2] }
  | _ => none }
def TransPieceWrongFalsely : Prop := transPieceRow.holds Tryd.pinned (OpenSpec.ofChange transPieceWrong)

/-- 'calenderlaw10.TransApart': WHATEVER THE INPUT: true; the input reads as it did. -/
def transApartSpec : ChangeSpec := { name := "transApart", fn := fun _ => fun
  | [d1, d2, d3] => { results := [.lit (.bool true)], args := [d1, d2, d3] }
  | _ => none }
def transApartRow : OpenClaim := { program := "ythnadcmejaciaaadoor", sum := "5254b7b1a9efff1408d13fe077f6306b0eeb880db44a699624e07f0ad2e9499d", func := "calender/calenderlaw10.TransApart", spec := "transApart", inPlace := ["internal/bytealg.CountString", "internal/bytealg.IndexByteString", "internal/bytealg.IndexString", "internal/abi.NoEscape"], unfollowed := true, recurses := true, named := ["unicode/utf8.first", "unicode/utf8.acceptRanges", "internal/bytealg.MaxLen"], apart := false, laid := [("unicode/utf8.acceptRanges", laid_unicode_utf8_acceptRanges), ("unicode/utf8.first", laid_unicode_utf8_first)] }
def TransApartSaid : Prop := transApartRow.holds Tryd.pinned (OpenSpec.ofChange transApartSpec)

/-- ITS FALSE NEIGHBOUR: 'it returns false'. Refute it at one input. -/
def transApartWrong : ChangeSpec := { name := "transApart", fn := fun _ => fun
  | [d1, d2, d3] => { results := [.lit (.bool false)], args := [d1, d2, d3] }
  | _ => none }
def TransApartWrongFalsely : Prop := transApartRow.holds Tryd.pinned (OpenSpec.ofChange transApartWrong)

/- THE SECOND FORM. 'bulk': how many values and letters a reading holds, each counted each time it is reached (what is shared counts as often as it is met; a slice's spare places count too). A statement '..UptoSaid' is the law's where the arguments, and the package variables that the reading takes, are together of bulk at most 1048576: NARROWER than '..Said'. Prove '..Said' where nothing that the law and all that it calls make is longer than what came in: it says more and counts as full. Else prove '..UptoSaid'. A law counts once. -/
mutual
def uptoBulk {H : Type} : DataW H → Nat
  | .lit (.string bytes) => bytes.length + 1
  | .lit _ => 1
  | .nil => 1
  | .ptr d => uptoBulk d + 1
  | .slice elems spare => uptoBulkAll elems + uptoBulkAll spare + 1
  | .agg parts => uptoBulkAll parts + 1
  | .iface _ d => uptoBulk d + 1
  | .map entries => uptoBulkEntries entries + 1
  | .held _ => 1
def uptoBulkAll {H : Type} : List (DataW H) → Nat
  | [] => 0
  | d :: r => uptoBulk d + uptoBulkAll r
def uptoBulkEntries {H : Type} : List (Lit × DataW H) → Nat
  | [] => 0
  | x :: r => uptoBulkEntry x + uptoBulkEntries r
def uptoBulkEntry {H : Type} : Lit × DataW H → Nat
  | (.string bytes, d) => bytes.length + uptoBulk d + 1
  | (_, d) => uptoBulk d + 1
 end
def uptoSmall : (H : Type) → List (DataW H) → Bool := fun _ ds => decide (uptoBulkAll ds ≤ 1048576)
def OpenSpec.upto (s : _root_.Go.ChangeSpec) : _root_.Go.OpenSpec := { _root_.Go.OpenSpec.ofChange s with cond := some uptoSmall }

/-- 'calenderlaw10.TransMakes', WHERE WHAT IT READS IS OF BULK AT MOST 1048576: true; the input reads as it did. -/
def transMakesUptoRow : OpenClaim := { program := "ythnadcmejaciaaadoor", sum := "5254b7b1a9efff1408d13fe077f6306b0eeb880db44a699624e07f0ad2e9499d", func := "calender/calenderlaw10.TransMakes", spec := "transMakes", inPlace := ["internal/bytealg.CountString", "internal/bytealg.IndexByteString", "internal/bytealg.IndexString", "internal/abi.NoEscape"], unfollowed := true, recurses := true, named := ["unicode/utf8.first", "unicode/utf8.acceptRanges", "internal/bytealg.MaxLen"], apart := false, laid := [("unicode/utf8.acceptRanges", laid_unicode_utf8_acceptRanges), ("unicode/utf8.first", laid_unicode_utf8_first)], narrowed := true }
def TransMakesUptoSaid : Prop := transMakesUptoRow.holds Tryd.pinned (OpenSpec.upto transMakesSpec)

/-- 'calenderlaw10.TransParses', WHERE WHAT IT READS IS OF BULK AT MOST 1048576: true; the input reads as it did. -/
def transParsesUptoRow : OpenClaim := { program := "ythnadcmejaciaaadoor", sum := "5254b7b1a9efff1408d13fe077f6306b0eeb880db44a699624e07f0ad2e9499d", func := "calender/calenderlaw10.TransParses", spec := "transParses", inPlace := ["internal/bytealg.CountString", "internal/bytealg.IndexByteString", "internal/bytealg.IndexString", "internal/abi.NoEscape", "internal/bytealg.MakeNoZero"], unfollowed := true, recurses := true, named := ["unicode/utf8.first", "unicode/utf8.acceptRanges", "internal/bytealg.MaxLen"], apart := false, laid := [("unicode/utf8.acceptRanges", laid_unicode_utf8_acceptRanges), ("unicode/utf8.first", laid_unicode_utf8_first)], narrowed := true }
def TransParsesUptoSaid : Prop := transParsesUptoRow.holds Tryd.pinned (OpenSpec.upto transParsesSpec)

/-- 'calenderlaw10.TransLists', WHERE WHAT IT READS IS OF BULK AT MOST 1048576: true; the input reads as it did. -/
def transListsUptoRow : OpenClaim := { program := "ythnadcmejaciaaadoor", sum := "5254b7b1a9efff1408d13fe077f6306b0eeb880db44a699624e07f0ad2e9499d", func := "calender/calenderlaw10.TransLists", spec := "transLists", inPlace := ["internal/bytealg.CountString", "internal/bytealg.IndexByteString", "internal/bytealg.IndexString", "internal/abi.NoEscape"], unfollowed := true, recurses := true, named := ["unicode/utf8.first", "unicode/utf8.acceptRanges", "internal/bytealg.MaxLen"], apart := false, laid := [("unicode/utf8.acceptRanges", laid_unicode_utf8_acceptRanges), ("unicode/utf8.first", laid_unicode_utf8_first)], narrowed := true }
def TransListsUptoSaid : Prop := transListsUptoRow.holds Tryd.pinned (OpenSpec.upto transListsSpec)

/-- 'calenderlaw10.TransLines', WHERE WHAT IT READS IS OF BULK AT MOST 1048576: true; the input reads as it did. -/
def transLinesUptoRow : OpenClaim := { program := "ythnadcmejaciaaadoor", sum := "5254b7b1a9efff1408d13fe077f6306b0eeb880db44a699624e07f0ad2e9499d", func := "calender/calenderlaw10.TransLines", spec := "transLines", inPlace := ["internal/bytealg.CountString", "internal/bytealg.IndexByteString", "internal/bytealg.IndexString", "internal/abi.NoEscape"], unfollowed := true, recurses := true, named := ["unicode/utf8.first", "unicode/utf8.acceptRanges", "internal/bytealg.MaxLen"], apart := false, laid := [("unicode/utf8.acceptRanges", laid_unicode_utf8_acceptRanges), ("unicode/utf8.first", laid_unicode_utf8_first)], narrowed := true }
def TransLinesUptoSaid : Prop := transLinesUptoRow.holds Tryd.pinned (OpenSpec.upto transLinesSpec)

/-- 'calenderlaw10.TransInverse', WHERE WHAT IT READS IS OF BULK AT MOST 1048576: true; the input reads as it did. -/
def transInverseUptoRow : OpenClaim := { program := "ythnadcmejaciaaadoor", sum := "5254b7b1a9efff1408d13fe077f6306b0eeb880db44a699624e07f0ad2e9499d", func := "calender/calenderlaw10.TransInverse", spec := "transInverse", inPlace := ["internal/bytealg.CountString", "internal/bytealg.IndexByteString", "internal/bytealg.IndexString", "internal/abi.NoEscape"], unfollowed := true, recurses := true, named := ["unicode/utf8.first", "unicode/utf8.acceptRanges", "internal/bytealg.MaxLen"], apart := false, laid := [("unicode/utf8.acceptRanges", laid_unicode_utf8_acceptRanges), ("unicode/utf8.first", laid_unicode_utf8_first)], narrowed := true }
def TransInverseUptoSaid : Prop := transInverseUptoRow.holds Tryd.pinned (OpenSpec.upto transInverseSpec)

/-- 'calenderlaw10.TransPiece', WHERE WHAT IT READS IS OF BULK AT MOST 1048576: true; the input reads as it did. -/
def transPieceUptoRow : OpenClaim := { program := "ythnadcmejaciaaadoor", sum := "5254b7b1a9efff1408d13fe077f6306b0eeb880db44a699624e07f0ad2e9499d", func := "calender/calenderlaw10.TransPiece", spec := "transPiece", inPlace := ["internal/bytealg.CountString", "internal/bytealg.IndexByteString", "internal/bytealg.IndexString", "internal/abi.NoEscape"], unfollowed := true, recurses := true, named := ["unicode/utf8.first", "unicode/utf8.acceptRanges", "internal/bytealg.MaxLen"], apart := false, laid := [("unicode/utf8.acceptRanges", laid_unicode_utf8_acceptRanges), ("unicode/utf8.first", laid_unicode_utf8_first)], narrowed := true }
def TransPieceUptoSaid : Prop := transPieceUptoRow.holds Tryd.pinned (OpenSpec.upto transPieceSpec)

/-- 'calenderlaw10.TransApart', WHERE WHAT IT READS IS OF BULK AT MOST 1048576: true; the input reads as it did. -/
def transApartUptoRow : OpenClaim := { program := "ythnadcmejaciaaadoor", sum := "5254b7b1a9efff1408d13fe077f6306b0eeb880db44a699624e07f0ad2e9499d", func := "calender/calenderlaw10.TransApart", spec := "transApart", inPlace := ["internal/bytealg.CountString", "internal/bytealg.IndexByteString", "internal/bytealg.IndexString", "internal/abi.NoEscape"], unfollowed := true, recurses := true, named := ["unicode/utf8.first", "unicode/utf8.acceptRanges", "internal/bytealg.MaxLen"], apart := false, laid := [("unicode/utf8.acceptRanges", laid_unicode_utf8_acceptRanges), ("unicode/utf8.first", laid_unicode_utf8_first)], narrowed := true }
def TransApartUptoSaid : Prop := transApartUptoRow.holds Tryd.pinned (OpenSpec.upto transApartSpec)

end Rows
end Go.Proofs.YthnadcmejaciaaaDoor
