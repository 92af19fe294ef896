import Derived.Test.YtgaocfhlagbkpaaGreatDoorABunQ30
import Derived.Test.YtgaocfhlagbkpaaGreatDoorRows
import Derived.ProofKit
import Derived.OpenShut
set_option maxRecDepth 100000
set_option maxHeartbeats 4000000
namespace Go.Proofs.YtgaocfhlagbkpaaGreatDoor.MM
open Go.RowKit Go.ChangeShapes Go.WideShapes Go.ChangeAt
end Go.Proofs.YtgaocfhlagbkpaaGreatDoor.MM
