import Derived.Test.YtkbjaadjnbgfbaaGreatDoorCOwn
import Derived.Test.YtkbjaadjnbgfbaaGreatDoorCBunQ12
import Derived.LaidMore
import Derived.Stop.Joined
import Derived.Lib.LaidTab
import Derived.Stop.LaidErr
set_option maxRecDepth 100000
set_option maxHeartbeats 4000000
namespace Go.Proofs.YtkbjaadjnbgfbaaGreatDoor
open Go.ChangeShapes Go.WideShapes Go.ChangeAt Go.RowKit
def ky:List (String × DataW Unit):= [("trailhead/digest.start", Rows.laid_trailhead_digest_start), ("trailhead/digest.rounds", Rows.laid_trailhead_digest_rounds)]
theorem Ha(os:Os)(args:Array Value):laidMetH Tryz.prog ky ((World.doorLaid Tryz.prog 2000 os).forCall (fun _ _=>0) ⟨#[],args,[]⟩).memory:=
 laidMetH_of_parts3 (fuel:=8) (laidMet_of_run' 8 (by kernel_rfl) (by kernel_rfl)) (by kernel_rfl) (by kernel_rfl)
def iO:List Int:=(List.range 8).map fun i=>Wd.n (Ry.start.at i)
def pw:List Int:=(List.range 64).map fun i=>Wd.n (Ry.ss i)
theorem QL:(Rows.laid_trailhead_digest_start:DataW Unit)=Lib.tabData .u32 iO:=by kernel_rfl
theorem Al:(Rows.laid_trailhead_digest_rounds:DataW Unit)=Lib.tabData .u32 pw:=by kernel_rfl
theorem sr : Tryz.prog.globalNamed "trailhead/digest.start" = some 0 := by kernel_rfl
theorem om : Tryz.prog.globalNamed "trailhead/digest.rounds" = some 1 := by kernel_rfl
theorem wi{W:World}(h:laidMetH Tryz.prog ky W):dM W:=by rw[MakeChecks.laidMetH_plain _ _ _ (by kernel_rfl)]at h;unfold ky at h;rw[QL,Al]at h;have h1:=Lib.tabIs_of_head sr (t:=198) (e:=197) (n:=8) (by kernel_rfl) Tryz.underlying198 Tryz.underlying197 (by kernel_rfl) (by kernel_rfl) h;have h2:=Lib.tabIs_of_head om (t:=200) (e:=197) (n:=64) (by kernel_rfl) Tryz.underlying200 Tryz.underlying197 (by kernel_rfl) (by kernel_rfl) h.tail;refine⟨fun i hi=>?_,fun i hi=>?_⟩;rw[h2.cell om i (by simp[pw];exact hi)];simp[pw,hi];rw[h1.cell sr i (by simp[iO];exact hi)];simp[iO,hi]
