/- Merged of Bc,Be,Bf,Bg,Ta,Rt. -/
import Derived.Test.YtglcififcldchaaGreatDoorPNatE
import Derived.Test.YtglcififcldchaaGreatDoorPNatD
import Derived.Test.YtglcififcldchaaGreatDoorPNatB
import Derived.Test.YtglcififcldchaaGreatDoorPNatC
import Derived.Test.YtglcififcldchaaGreatDoorPNatBb

/- Contracts: getLeast. -/
namespace Go.Proofs.YtglcififcldchaaGreatDoor
open Go.RowKit

end Go.Proofs.YtglcififcldchaaGreatDoor

/- Contracts: Read. -/
namespace Go.Proofs.YtglcififcldchaaGreatDoor
open Go.RowKit

end Go.Proofs.YtglcififcldchaaGreatDoor

/- Contracts of the document's own bytes: Rows, Bytes. -/
namespace Go.Proofs.YtglcififcldchaaGreatDoor
open Go.RowKit

end Go.Proofs.YtglcififcldchaaGreatDoor

/- Contracts of the document's own reading: Read. -/
namespace Go.Proofs.YtglcififcldchaaGreatDoor
open Go.RowKit

end Go.Proofs.YtglcififcldchaaGreatDoor

/- The document's own Trim; a digit put behind a text. -/
namespace Go.Proofs.YtglcififcldchaaGreatDoor
open Go.RowKit

end Go.Proofs.YtglcififcldchaaGreatDoor

/- Contracts of the document's own writing: Text. -/
namespace Go.Proofs.YtglcififcldchaaGreatDoor
open Go.RowKit

end Go.Proofs.YtglcififcldchaaGreatDoor
