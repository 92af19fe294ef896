import Derived.Test.YtgaocfhlagbkpaaGreatDoorABunQ42
import Derived.Test.YtgaocfhlagbkpaaGreatDoorAHdList
set_option maxRecDepth 100000
set_option maxHeartbeats 4000000
namespace Go.Proofs.YtgaocfhlagbkpaaGreatDoor
open Go.ChangeShapes Go.WideShapes Go.RowKit Go.Deep Mem Sc
section
variable {H : Type} {enc : TypeId × Value → H} {W : World}
end
end Go.Proofs.YtgaocfhlagbkpaaGreatDoor
