import Derived.Test.YtbgjiplfaolpjaaGreatDoorRows
import Derived.Test.YtbgjiplfaolpjaaGreatDoorUMem
import Derived.Test.YtbgjiplfaolpjaaGreatDoorUScMath
import Derived.Deep.RegionHeld3
import Derived.Lib.QuietBelow
import Derived.Laws.IdiomStrings
import Derived.Laws.DeepStrings4
set_option maxRecDepth 100000
set_option maxHeartbeats 4000000
namespace Go.Proofs.YtbgjiplfaolpjaaGreatDoor
open Go.RowKit Mem Sc
theorem nearer (n m:Int) (w:World):Calls Tryz.prog 151 #[.int .i64 n,.int .i64 m] w fun e w'=>e = .returned (.int .i64 (min (max n 1) m))/\w=w':=by
 go_enter Tryz.func151,Tryz.ntmps151
 go_wp2_with fail
 all_goals
  go_ret
  exact ⟨congrArg (fun z=>Ending.returned (.int .i64 z)) (by omega),rfl⟩
theorem qqv_ (n:Int) (most:Nat) (h:1<=most) (w:World):Calls Tryz.prog 151 #[.int .i64 n,.int .i64 (most:Int)] w fun e w'=>e = .returned (.int .i64 (near n most:Nat))/\w=w':=by
 have:=nearer n most w
 rwa [show min (max n 1) (most:Int)=((near n most:Nat):Int) by unfold near;omega] at this
end Go.Proofs.YtbgjiplfaolpjaaGreatDoor
