/- head. -/
import Derived.Test.YtjnedhjpgefbpaaGreatDoorZRxX
import Derived.Test.YtjnedhjpgefbpaaGreatDoorZShelf
import Derived.Lib.AppendIntMem
import Derived.Lib.ItoaLen
namespace Go.Proofs.YtjnedhjpgefbpaaGreatDoor
open Go.RowKit Go.Lib
set_option linter.unusedVariables false
set_option linter.unusedSimpArgs false

/-- The world holds the two tables. -/
structure Fit3 (w : World) : Prop where
  fit : Fit w
  pow : Lib.TabIs Tryz.prog w "internal/strconv.uint64pow10" .u64 Lib.pow10Tab
theorem Fit3.below {w w' : World} (h : Fit3 w) (hB : Below w.heap.size w w') : Fit3 w' := ⟨h.fit.below hB, Lib.tabBelow_of_tabIs h.pow w' hB⟩

theorem itoa_c (n : Int) (h0 : -9223372036854775808 ≤ n) (h1 : n ≤ 9223372036854775807) (w : World) (h : Fit3 w) :
    Calls Tryz.prog 27 #[.int .i64 n] w fun e w' => e = .returned (.string ⟨(itoa n).toArray⟩) ∧ Below w.heap.size w w' := by
  refine (Tryz.strconv_Itoa n h0 h1 w h.pow).mono ?_
  rintro e w' ⟨rfl, k, os, rfl⟩
  exact ⟨rfl, Lib.below_grow _ _ (Nat.le_refl _) k os⟩

/-- What stands ahead of the texts of a node's parts. -/
def headText (x : Nd) : List UInt8 :=
  if x.kind = 0 then [101] else if x.kind = 1 then 91 :: (hexl (bytesOf x.set).data.toList ++ [93]) else if x.kind = 2 then [94] else if x.kind = 3 then [36] else if x.kind = 4 then [38] else if x.kind = 5 then [124]
  else if x.kind = 6 then 42 :: (itoa x.mn ++ 44 :: (itoa x.mx ++ [59])) else if x.kind = 7 then [40] else 92 :: itoa x.n

end Go.Proofs.YtjnedhjpgefbpaaGreatDoor
