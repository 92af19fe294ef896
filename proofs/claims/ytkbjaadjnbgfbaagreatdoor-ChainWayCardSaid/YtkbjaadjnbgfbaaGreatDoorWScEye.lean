import Derived.Test.YtkbjaadjnbgfbaaGreatDoorRows
import Derived.Test.YtkbjaadjnbgfbaaGreatDoorWMem
import Derived.Test.YtkbjaadjnbgfbaaGreatDoorWScMath
import Derived.Deep.RegionHeld3
import Derived.Lib.QuietBelow
set_option maxRecDepth 100000
set_option maxHeartbeats 4000000
namespace Go.Proofs.YtkbjaadjnbgfbaaGreatDoor
open Go.RowKit Mem Sc
theorem nearer (n m:Int) (w:World):Calls Tryz.prog 210 #[i_ n,i_ m] w fun e w'=>e = .returned (i_ (min (max n 1) m))/\w=w':=by
 go_enter Tryz.func210,Tryz.ntmps210;go_wp2_with fail
 all_goals
  go_ret;exact ⟨congrArg (fun z=>Ending.returned (i_ z)) (by omega),rfl⟩
theorem qsi_ (n:Int) (most:Nat) (h:1<=most) (w:World):Calls Tryz.prog 210 #[i_ n,i_ most] w fun e w'=>e = .returned (i_ (near n most:Nat))/\w=w':=by
 have:=nearer n most w;rwa [show min (max n 1) (most:Int)=((near n most:Nat):Int) by unfold near;omega] at this
end Go.Proofs.YtkbjaadjnbgfbaaGreatDoor
