import Derived.Test.YthcebnfdapcllaaGreatDoorRows
import Derived.Test.YthcebnfdapcllaaGreatDoorRMem
import Derived.Test.YthcebnfdapcllaaGreatDoorRScMath
import Derived.Deep.RegionHeld3
import Derived.Lib.QuietBelow
import Derived.Laws.IdiomStrings
import Derived.Laws.DeepStrings4
namespace Go.Proofs.YthcebnfdapcllaaGreatDoor
open Go.RowKit Mem Sc
set_option maxHeartbeats 400000 in
theorem nearer (n m : Int) (w : World) : Calls Tryz.prog 112 #[.int .i64 n, .int .i64 m] w fun e w' => e = .returned (.int .i64 (min (max n 1) m)) ∧ w = w' := by
  go_enter Tryz.func112, Tryz.ntmps112
  go_wp2_with fail
  all_goals
    go_ret
    exact ⟨congrArg (fun z => Ending.returned (.int .i64 z)) (by omega), rfl⟩
theorem near_at (n : Int) (most : Nat) (h : 1 ≤ most) (w : World) : Calls Tryz.prog 112 #[.int .i64 n, .int .i64 (most : Int)] w fun e w' => e = .returned (.int .i64 (near n most : Nat)) ∧ w = w' := by
  have := nearer n most w
  rwa [show min (max n 1) (most : Int) = ((near n most : Nat) : Int) by unfold near; omega] at this
end Go.Proofs.YthcebnfdapcllaaGreatDoor
