import Derived.Test.YtkbjaadjnbgfbaaGreatDoorBOwn
import Derived.Test.YtkbjaadjnbgfbaaGreatDoorBBunQ12
import Derived.LaidMore
import Derived.Stop.Joined
import Derived.Lib.LaidTab
import Derived.Stop.LaidErr
set_option maxRecDepth 100000
set_option maxHeartbeats 4000000
namespace Go.Proofs.YtkbjaadjnbgfbaaGreatDoor
open Go.ChangeShapes Go.WideShapes Go.ChangeAt Go.RowKit
def kG:List (String × DataW Unit):= [("trailhead/digest.start", Rows.laid_trailhead_digest_start), ("trailhead/digest.rounds", Rows.laid_trailhead_digest_rounds)]
theorem EJ(os:Os)(args:Array Value):laidMetH Tryz.prog kG ((World.doorLaid Tryz.prog 2000 os).forCall (fun _ _=>0) ⟨#[],args,[]⟩).memory:=
 laidMetH_of_parts3 (fuel:=8) (laidMet_of_run' 8 (by kernel_rfl) (by kernel_rfl)) (by kernel_rfl) (by kernel_rfl)
def iP:List Int:=(List.range 8).map fun i=>Wd.n (Sh.start.at i)
def qL:List Int:=(List.range 64).map fun i=>Wd.n (Sh.sN i)
theorem NU:(Rows.laid_trailhead_digest_start:DataW Unit)=Lib.tabData .u32 iP:=by kernel_rfl
theorem Aw:(Rows.laid_trailhead_digest_rounds:DataW Unit)=Lib.tabData .u32 qL:=by kernel_rfl
theorem ss : Tryz.prog.globalNamed "trailhead/digest.start" = some 0 := by kernel_rfl
theorem oA : Tryz.prog.globalNamed "trailhead/digest.rounds" = some 1 := by kernel_rfl
theorem wW{W:World}(h:laidMetH Tryz.prog kG W):dQ W:=by rw[MakeChecks.laidMetH_plain _ _ _ (by kernel_rfl)]at h;unfold kG at h;rw[NU,Aw]at h;have h1:=Lib.tabIs_of_head ss (t:=198) (e:=197) (n:=8) (by kernel_rfl) Tryz.underlying198 Tryz.underlying197 (by kernel_rfl) (by kernel_rfl) h;have h2:=Lib.tabIs_of_head oA (t:=200) (e:=197) (n:=64) (by kernel_rfl) Tryz.underlying200 Tryz.underlying197 (by kernel_rfl) (by kernel_rfl) h.tail;refine⟨fun i hi=>?_,fun i hi=>?_⟩;rw[h2.cell oA i (by simp[qL];exact hi)];simp[qL,hi];rw[h1.cell ss i (by simp[iP];exact hi)];simp[iP,hi]
