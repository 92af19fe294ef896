import Derived.Test.YtkbjaadjnbgfbaaGreatDoorRows
import Derived.Test.YtkbjaadjnbgfbaaGreatDoorHMem
import Derived.Test.YtkbjaadjnbgfbaaGreatDoorHScMath
import Derived.Deep.RegionHeld3
import Derived.Lib.QuietBelow
set_option maxRecDepth 100000
set_option maxHeartbeats 4000000
namespace Go.Proofs.YtkbjaadjnbgfbaaGreatDoor
open Go.RowKit Mem Sc
theorem Gs(n m:Int)(w:World):Calls Tryz.prog 210 #[i_ n,i_ m] w fun e w'=>e=.returned (i_ (min (max n 1) m))/\w=w':=by
 go_enter Tryz.func210,Tryz.ntmps210;go_wp2_with fail
 all_goals
  go_ret;exact⟨aJ (fun z=>Ending.returned (i_ z)) (by omega),rfl⟩
theorem Fc(n:Int)(kS:Nat)(h:1<=kS)(w:World):Calls Tryz.prog 210 #[i_ n,i_ kS] w fun e w'=>e=.returned (i_ (jH n kS:Nat))/\w=w':=by have:=Gs n kS w;rwa[show min (max n 1) (kS:Int)=((jH n kS:Nat):Int) by unfold jH;omega]at this
end Go.Proofs.YtkbjaadjnbgfbaaGreatDoor
namespace Go.Proofs.YtkbjaadjnbgfbaaGreatDoor
open Go.RowKit Mem Sc
theorem DH{a b:ByteArray}(h:a.data.toList=b.data.toList):a=b:=by apply ByteArray.ext;exact il.1 h
