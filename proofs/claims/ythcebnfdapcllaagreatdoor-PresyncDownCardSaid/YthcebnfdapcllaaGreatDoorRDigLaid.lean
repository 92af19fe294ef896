import Derived.Test.YthcebnfdapcllaaGreatDoorROwn
import Derived.Test.YthcebnfdapcllaaGreatDoorRows
import Derived.Test.YthcebnfdapcllaaGreatDoorRBunQ19
import Derived.ProofKit
import Derived.LaidMore
import Derived.Stop.Joined
import Derived.Lib.LaidTab
import Derived.Stop.LaidErr
namespace Go.Proofs.YthcebnfdapcllaaGreatDoor
open Go.ChangeShapes Go.WideShapes Go.ChangeAt Go.RowKit
def laids : List (String × DataW Unit) := [("trailhead/digest.start", Rows.laid_trailhead_digest_start), ("trailhead/digest.rounds", Rows.laid_trailhead_digest_rounds)]
theorem door_met (os : Os) (args : Array Value) : laidMetH Tryz.prog laids ((World.doorLaid Tryz.prog 2000 os).forCall (fun _ _ => 0) ⟨#[], args, []⟩).memory :=
  laidMetH_of_parts3 (fuel := 8) (laidMet_of_run' 8 (by kernel_rfl) (by kernel_rfl)) (by kernel_rfl) (by kernel_rfl)
def startInts : List Int := (List.range 8).map fun i => Wd.n (Sha.start.at i)
def kInts : List Int := (List.range 64).map fun i => Wd.n (Sha.kAt i)
theorem start_data : (Rows.laid_trailhead_digest_start : DataW Unit) = Lib.tabData .u32 startInts := by kernel_rfl
theorem k_data : (Rows.laid_trailhead_digest_rounds : DataW Unit) = Lib.tabData .u32 kInts := by kernel_rfl
theorem gStart : Tryz.prog.globalNamed "trailhead/digest.start" = some 0 := by kernel_rfl
theorem gRounds : Tryz.prog.globalNamed "trailhead/digest.rounds" = some 1 := by kernel_rfl
theorem of_laid {W : World} (h : laidMetH Tryz.prog laids W) : Tab W := by
  rw [MakeChecks.laidMetH_plain _ _ _ (by kernel_rfl)] at h
  unfold laids at h
  rw [start_data, k_data] at h
  have h1 := Lib.tabIs_of_head gStart (t := 166) (e := 142) (n := 8) (by kernel_rfl) Tryz.underlying166 Tryz.underlying142 (by kernel_rfl) (by kernel_rfl) h
  have h2 := Lib.tabIs_of_head gRounds (t := 188) (e := 142) (n := 64) (by kernel_rfl) Tryz.underlying188 Tryz.underlying142 (by kernel_rfl) (by kernel_rfl) h.tail
  refine ⟨fun i hi => ?_, fun i hi => ?_⟩
  · rw [h2.cell gRounds i (by simp [kInts]; exact hi)]
    simp [kInts, hi]
  · rw [h1.cell gStart i (by simp [startInts]; exact hi)]
    simp [startInts, hi]
end Go.Proofs.YthcebnfdapcllaaGreatDoor
