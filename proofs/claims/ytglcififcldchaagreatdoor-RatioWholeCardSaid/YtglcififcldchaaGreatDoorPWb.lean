/- Contracts of whole: Plain. -/
import Derived.Test.YtglcififcldchaaGreatDoorPWa
import Derived.Deep.RegionHeld3
import Derived.Deep.DrawnRows
namespace Go.Proofs.YtglcififcldchaaGreatDoor
open Go.RowKit
attribute [local go_sem ↓] Go.wp_at_zero Go.wp_at_succ

end Go.Proofs.YtglcififcldchaaGreatDoor
