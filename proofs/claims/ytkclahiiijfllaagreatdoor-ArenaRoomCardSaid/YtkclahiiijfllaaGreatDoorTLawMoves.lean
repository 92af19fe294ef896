import Derived.Test.YtkclahiiijfllaaGreatDoorTBunQ27
import Derived.Test.YtkclahiiijfllaaGreatDoorTBunQ20
import Derived.OpenShut
namespace Go.Proofs.YtkclahiiijfllaaGreatDoor.NN
open Go.RowKit
end Go.Proofs.YtkclahiiijfllaaGreatDoor.NN
