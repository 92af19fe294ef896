import Derived.Test.YtkbjaadjnbgfbaaGreatDoorDScEye
set_option maxRecDepth 100000
set_option maxHeartbeats 4000000
namespace Go.Proofs.YtkbjaadjnbgfbaaGreatDoor
open Go.RowKit Mem Sc
theorem Ae{a b:ByteArray}(h:a.data.toList=b.data.toList):a=b:=by apply ByteArray.ext;exact Array.toList_inj.1 h
