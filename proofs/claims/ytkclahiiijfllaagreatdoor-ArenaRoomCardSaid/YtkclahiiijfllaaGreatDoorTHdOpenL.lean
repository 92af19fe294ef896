import Derived.Test.YtkclahiiijfllaaGreatDoorTBunQ43
import Derived.Test.YtkclahiiijfllaaGreatDoorTHdList
namespace Go.Proofs.YtkclahiiijfllaaGreatDoor
open Go.ChangeShapes Go.WideShapes Go.RowKit Go.Deep Mem Sc
section
variable {H : Type} {enc : TypeId × Value → H} {W : World}
end
end Go.Proofs.YtkclahiiijfllaaGreatDoor
