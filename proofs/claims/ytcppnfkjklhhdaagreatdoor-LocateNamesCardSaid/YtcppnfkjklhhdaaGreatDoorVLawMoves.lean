import Derived.Test.YtcppnfkjklhhdaaGreatDoorVBunQ27
import Derived.OpenShut
set_option maxRecDepth 100000
set_option maxHeartbeats 4000000
namespace Go.Proofs.YtcppnfkjklhhdaaGreatDoor.NN
open Go.RowKit
end Go.Proofs.YtcppnfkjklhhdaaGreatDoor.NN
