/- Contracts of the document's own whole numbers: Text, Small. -/
import Derived.Test.YtglcififcldchaaGreatDoorPWm
import Derived.IntWalk
namespace Go.Proofs.YtglcififcldchaaGreatDoor
open Go.RowKit
attribute [local go_sem ↓] Go.wp_at_zero Go.wp_at_succ
set_option linter.unusedVariables false

theorem cmpI_gt {X Y : Int} (h : Y < X) : cmpI X Y = 1 := by unfold cmpI; rw [if_neg (by omega), if_neg (by omega)]

end Go.Proofs.YtglcififcldchaaGreatDoor
