/- Contracts of the document's own reading: Parse. -/
import Derived.Test.YtglcififcldchaaGreatDoorPNatE
import Derived.Test.YtglcififcldchaaGreatDoorPNatB
import Derived.Deep.RegionWith
import Derived.Deep.DrawnRows
namespace Go.Proofs.YtglcififcldchaaGreatDoor
open Go.RowKit
attribute [local go_sem ↓] Go.wp_at_zero Go.wp_at_succ

end Go.Proofs.YtglcififcldchaaGreatDoor
