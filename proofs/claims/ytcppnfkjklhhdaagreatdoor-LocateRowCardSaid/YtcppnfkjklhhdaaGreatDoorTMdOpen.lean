import Derived.Test.YtcppnfkjklhhdaaGreatDoorTBunQ31
import Derived.Test.YtcppnfkjklhhdaaGreatDoorRows
import Derived.ProofKit
import Derived.OpenShut
set_option maxRecDepth 100000
set_option maxHeartbeats 4000000
namespace Go.Proofs.YtcppnfkjklhhdaaGreatDoor.MM
open Go.RowKit Go.ChangeShapes Go.WideShapes Go.ChangeAt
end Go.Proofs.YtcppnfkjklhhdaaGreatDoor.MM
