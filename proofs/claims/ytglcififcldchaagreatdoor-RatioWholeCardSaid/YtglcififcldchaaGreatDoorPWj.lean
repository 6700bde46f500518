/- Contracts of the document's own whole numbers: Add, Sub, Cmp. -/
import Derived.Test.YtglcififcldchaaGreatDoorPWi
namespace Go.Proofs.YtglcififcldchaaGreatDoor
open Go.RowKit
attribute [local go_sem ↓] Go.wp_at_zero Go.wp_at_succ

end Go.Proofs.YtglcififcldchaaGreatDoor
