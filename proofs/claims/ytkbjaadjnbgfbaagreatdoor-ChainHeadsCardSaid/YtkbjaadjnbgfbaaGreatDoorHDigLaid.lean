import Derived.Test.YtkbjaadjnbgfbaaGreatDoorHOwn
import Derived.Test.YtkbjaadjnbgfbaaGreatDoorHBunQ12
import Derived.LaidMore
import Derived.Stop.Joined
import Derived.Lib.LaidTab
import Derived.Stop.LaidErr
set_option maxRecDepth 100000
set_option maxHeartbeats 4000000
namespace Go.Proofs.YtkbjaadjnbgfbaaGreatDoor
open Go.ChangeShapes Go.WideShapes Go.ChangeAt Go.RowKit
def o7:List (String × DataW Unit):= [("trailhead/digest.start", Rows.laid_trailhead_digest_start), ("trailhead/digest.rounds", Rows.laid_trailhead_digest_rounds)]
theorem Jj(os:Os)(args:Array Value):laidMetH Tryz.prog o7 ((World.doorLaid Tryz.prog 2000 os).forCall (fun _ _=>0) ⟨#[],args,[]⟩).memory:=
 laidMetH_of_parts3 (fuel:=8) (laidMet_of_run' 8 (by kernel_rfl) (by kernel_rfl)) (by kernel_rfl) (by kernel_rfl)
def mo:List Int:=(List.range 8).map fun i=>Wd.n (VH.start.at i)
def u4:List Int:=(List.range 64).map fun i=>Wd.n (VH.xl i)
theorem Q8:(Rows.laid_trailhead_digest_start:DataW Unit)=Lib.tabData .u32 mo:=by kernel_rfl
theorem FX:(Rows.laid_trailhead_digest_rounds:DataW Unit)=Lib.tabData .u32 u4:=by kernel_rfl
theorem xi : Tryz.prog.globalNamed "trailhead/digest.start" = some 0 := by kernel_rfl
theorem tE : Tryz.prog.globalNamed "trailhead/digest.rounds" = some 1 := by kernel_rfl
theorem yQ{W:World}(h:laidMetH Tryz.prog o7 W):gj W:=by rw[MakeChecks.laidMetH_plain _ _ _ (by kernel_rfl)]at h;unfold o7 at h;rw[Q8,FX]at h;have h1:=Lib.tabIs_of_head xi (t:=198) (e:=197) (n:=8) (by kernel_rfl) Tryz.underlying198 Tryz.underlying197 (by kernel_rfl) (by kernel_rfl) h;have h2:=Lib.tabIs_of_head tE (t:=200) (e:=197) (n:=64) (by kernel_rfl) Tryz.underlying200 Tryz.underlying197 (by kernel_rfl) (by kernel_rfl) h.tail;refine⟨fun i hi=>?_,fun i hi=>?_⟩;rw[h2.cell tE i (by simp[u4];exact hi)];simp[u4,hi];rw[h1.cell xi i (by simp[mo];exact hi)];simp[mo,hi]
