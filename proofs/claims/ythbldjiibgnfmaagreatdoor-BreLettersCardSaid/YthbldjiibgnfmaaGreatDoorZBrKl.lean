/- What lifts the walks of stage 4. -/
import Derived.Test.YthbldjiibgnfmaaGreatDoorZRxL
import Derived.Test.YthbldjiibgnfmaaGreatDoorZBrKj
namespace Go.Proofs.YthbldjiibgnfmaaGreatDoor
open Go.ChangeShapes Go.WideShapes Go.ChangeAt Go.RowKit
set_option linter.unusedVariables false
set_option linter.unusedSimpArgs false

theorem Fit4.five {w : World} (h : Fit4 w) : Fit5 w := ⟨h.f, h.v.max, h.v.syn⟩

end Go.Proofs.YthbldjiibgnfmaaGreatDoor
