import Derived.Test.YtgaocfhlagbkpaaGreatDoorSScEye
import Derived.IntWalk
set_option maxRecDepth 100000
set_option maxHeartbeats 4000000
namespace Go.Proofs.YtgaocfhlagbkpaaGreatDoor
open Go.RowKit Mem Sc
end Go.Proofs.YtgaocfhlagbkpaaGreatDoor
namespace Go.Proofs.YtgaocfhlagbkpaaGreatDoor
open Go.RowKit Mem Sc
end Go.Proofs.YtgaocfhlagbkpaaGreatDoor
