import Derived.Test.YtbhjpeadcimchaaGreatDoorRows
import Derived.Test.YtbhjpeadcimchaaGreatDoorVMem
import Derived.Test.YtbhjpeadcimchaaGreatDoorVScMath
import Derived.Deep.RegionHeld3
import Derived.Lib.QuietBelow
set_option maxRecDepth 100000
set_option maxHeartbeats 4000000
namespace Go.Proofs.YtbhjpeadcimchaaGreatDoor
open Go.RowKit Mem Sc
theorem nearer (n m:Int) (w:World):Calls Tryz.prog 170 #[.int .i64 n,.int .i64 m] w fun e w'=>e = .returned (.int .i64 (min (max n 1) m))/\w=w':=by
 go_enter Tryz.func170,Tryz.ntmps170;go_wp2_with fail
 all_goals
  go_ret;exact ⟨congrArg (fun z=>Ending.returned (.int .i64 z)) (by omega),rfl⟩
theorem qsg_ (n:Int) (most:Nat) (h:1<=most) (w:World):Calls Tryz.prog 170 #[.int .i64 n,.int .i64 (most:Int)] w fun e w'=>e = .returned (.int .i64 (near n most:Nat))/\w=w':=by
 have:=nearer n most w;rwa [show min (max n 1) (most:Int)=((near n most:Nat):Int) by unfold near;omega] at this
end Go.Proofs.YtbhjpeadcimchaaGreatDoor
