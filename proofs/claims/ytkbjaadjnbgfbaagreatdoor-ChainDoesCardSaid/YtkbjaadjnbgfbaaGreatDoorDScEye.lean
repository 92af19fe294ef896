import Derived.Test.YtkbjaadjnbgfbaaGreatDoorRows
import Derived.Test.YtkbjaadjnbgfbaaGreatDoorDMem
import Derived.Test.YtkbjaadjnbgfbaaGreatDoorDScMath
import Derived.Deep.RegionHeld3
import Derived.Lib.QuietBelow
set_option maxRecDepth 100000
set_option maxHeartbeats 4000000
namespace Go.Proofs.YtkbjaadjnbgfbaaGreatDoor
open Go.RowKit Mem Sc
theorem A2(n m:Int)(w:World):Calls Tryz.prog 210 #[i_ n,i_ m] w fun e w'=>e=.returned (i_ (min (max n 1) m))/\w=w':=by
 go_enter Tryz.func210,Tryz.ntmps210;go_wp2_with fail
 all_goals
  go_ret;exact⟨congrArg (fun z=>Ending.returned (i_ z)) (by omega),rfl⟩
theorem zY(n:Int)(ic:Nat)(h:1<=ic)(w:World):Calls Tryz.prog 210 #[i_ n,i_ ic] w fun e w'=>e=.returned (i_ (fO n ic:Nat))/\w=w':=by have:=A2 n ic w;rwa[show min (max n 1) (ic:Int)=((fO n ic:Nat):Int) by unfold fO;omega]at this
