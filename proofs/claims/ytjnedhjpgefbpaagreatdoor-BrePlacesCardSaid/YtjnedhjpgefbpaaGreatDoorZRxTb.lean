/- Text's closure at the other trees. -/
import Derived.Test.YtjnedhjpgefbpaaGreatDoorZRxTa
namespace Go.Proofs.YtjnedhjpgefbpaaGreatDoor
open Go.RowKit
set_option linter.unusedVariables false
set_option linter.unusedSimpArgs false

theorem cells_app (a b : List UInt8) : Lib.byteCells (a ++ b) = Lib.byteCells a ++ Lib.byteCells b := List.map_append ..
theorem cells_len (a : List UInt8) : (Lib.byteCells a).length = a.length := by simp [Lib.byteCells]

end Go.Proofs.YtjnedhjpgefbpaaGreatDoor
