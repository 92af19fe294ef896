import Derived.Test.YtkclahiiijfllaaGreatDoorSBunQ43
import Derived.Test.YtkclahiiijfllaaGreatDoorSHdList
set_option maxRecDepth 100000
set_option maxHeartbeats 4000000
namespace Go.Proofs.YtkclahiiijfllaaGreatDoor
open Go.ChangeShapes Go.WideShapes Go.RowKit Go.Deep Mem Sc
section
variable {H : Type} {enc : TypeId × Value → H} {W : World}
end
end Go.Proofs.YtkclahiiijfllaaGreatDoor
