import Derived.Test.YtkbjaadjnbgfbaaGreatDoorRows
import Derived.Test.YtkbjaadjnbgfbaaGreatDoorCMem
import Derived.Test.YtkbjaadjnbgfbaaGreatDoorCScMath
import Derived.Deep.RegionHeld3
import Derived.Lib.QuietBelow
set_option maxRecDepth 100000
set_option maxHeartbeats 4000000
namespace Go.Proofs.YtkbjaadjnbgfbaaGreatDoor
open Go.RowKit Mem Sc
theorem Ai(n m:Int)(w:World):Calls Tryz.prog 210 #[i_ n,i_ m] w fun e w'=>e=.returned (i_ (min (max n 1) m))/\w=w':=by
 go_enter Tryz.func210,Tryz.ntmps210;go_wp2_with fail
 all_goals
  go_ret;exact⟨congrArg (fun z=>Ending.returned (i_ z)) (by omega),rfl⟩
theorem AU(n:Int)(gP:Nat)(h:1<=gP)(w:World):Calls Tryz.prog 210 #[i_ n,i_ gP] w fun e w'=>e=.returned (i_ (fK n gP:Nat))/\w=w':=by have:=Ai n gP w;rwa[show min (max n 1) (gP:Int)=((fK n gP:Nat):Int) by unfold fK;omega]at this
end Go.Proofs.YtkbjaadjnbgfbaaGreatDoor
namespace Go.Proofs.YtkbjaadjnbgfbaaGreatDoor
open Go.RowKit Mem Sc
theorem Bz{a b:ByteArray}(h:a.data.toList=b.data.toList):a=b:=by apply ByteArray.ext;exact Array.toList_inj.1 h
