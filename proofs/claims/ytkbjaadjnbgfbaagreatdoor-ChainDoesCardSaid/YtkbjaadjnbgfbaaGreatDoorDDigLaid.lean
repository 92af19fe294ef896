import Derived.Test.YtkbjaadjnbgfbaaGreatDoorDOwn
import Derived.Test.YtkbjaadjnbgfbaaGreatDoorDBunQ12
import Derived.LaidMore
import Derived.Stop.Joined
import Derived.Lib.LaidTab
import Derived.Stop.LaidErr
set_option maxRecDepth 100000
set_option maxHeartbeats 4000000
namespace Go.Proofs.YtkbjaadjnbgfbaaGreatDoor
open Go.ChangeShapes Go.WideShapes Go.ChangeAt Go.RowKit
def kp:List (String × DataW Unit):= [("trailhead/digest.start", Rows.laid_trailhead_digest_start), ("trailhead/digest.rounds", Rows.laid_trailhead_digest_rounds)]
theorem GO(os:Os)(args:Array Value):laidMetH Tryz.prog kp ((World.doorLaid Tryz.prog 2000 os).forCall (fun _ _=>0) ⟨#[],args,[]⟩).memory:=
 laidMetH_of_parts3 (fuel:=8) (laidMet_of_run' 8 (by kernel_rfl) (by kernel_rfl)) (by kernel_rfl) (by kernel_rfl)
def iK:List Int:=(List.range 8).map fun i=>Wd.n (Q7.start.at i)
def pH:List Int:=(List.range 64).map fun i=>Wd.n (Q7.rT i)
theorem N0:(Rows.laid_trailhead_digest_start:DataW Unit)=Lib.tabData .u32 iK:=by kernel_rfl
theorem A1:(Rows.laid_trailhead_digest_rounds:DataW Unit)=Lib.tabData .u32 pH:=by kernel_rfl
theorem q_ : Tryz.prog.globalNamed "trailhead/digest.start" = some 0 := by kernel_rfl
theorem n8 : Tryz.prog.globalNamed "trailhead/digest.rounds" = some 1 := by kernel_rfl
theorem vn{W:World}(h:laidMetH Tryz.prog kp W):dS W:=by rw[MakeChecks.laidMetH_plain _ _ _ (by kernel_rfl)]at h;unfold kp at h;rw[N0,A1]at h;have h1:=Lib.tabIs_of_head q_ (t:=198) (e:=197) (n:=8) (by kernel_rfl) Tryz.underlying198 Tryz.underlying197 (by kernel_rfl) (by kernel_rfl) h;have h2:=Lib.tabIs_of_head n8 (t:=200) (e:=197) (n:=64) (by kernel_rfl) Tryz.underlying200 Tryz.underlying197 (by kernel_rfl) (by kernel_rfl) h.tail;refine⟨fun i hi=>?_,fun i hi=>?_⟩;rw[h2.cell n8 i (by simp[pH];exact hi)];simp[pH,hi];rw[h1.cell q_ i (by simp[iK];exact hi)];simp[iK,hi]
