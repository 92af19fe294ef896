import Derived.Test.YtkbjaadjnbgfbaaGreatDoorRows
import Derived.Test.YtkbjaadjnbgfbaaGreatDoorBMem
import Derived.Test.YtkbjaadjnbgfbaaGreatDoorBScMath
import Derived.Deep.RegionHeld3
import Derived.Lib.QuietBelow
set_option maxRecDepth 100000
set_option maxHeartbeats 4000000
namespace Go.Proofs.YtkbjaadjnbgfbaaGreatDoor
open Go.RowKit Mem Sc
theorem C7(n m:Int)(w:World):Calls Tryz.prog 210 #[i_ n,i_ m] w fun e w'=>e=.returned (i_ (min (max n 1) m))/\w=w':=by
 go_enter Tryz.func210,Tryz.ntmps210;go_wp2_with fail
 all_goals
  go_ret;exact⟨congrArg (fun z=>Ending.returned (i_ z)) (by omega),rfl⟩
theorem A8(n:Int)(gT:Nat)(h:1<=gT)(w:World):Calls Tryz.prog 210 #[i_ n,i_ gT] w fun e w'=>e=.returned (i_ (fQ n gT:Nat))/\w=w':=by have:=C7 n gT w;rwa[show min (max n 1) (gT:Int)=((fQ n gT:Nat):Int) by unfold fQ;omega]at this
end Go.Proofs.YtkbjaadjnbgfbaaGreatDoor
namespace Go.Proofs.YtkbjaadjnbgfbaaGreatDoor
open Go.RowKit Mem Sc
theorem Dp{a b:ByteArray}(h:a.data.toList=b.data.toList):a=b:=by apply ByteArray.ext;exact Array.toList_inj.1 h
