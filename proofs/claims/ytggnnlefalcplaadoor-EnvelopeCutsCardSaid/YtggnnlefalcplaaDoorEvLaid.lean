/-
  The laid variables of the rows of layer 7: two tables of digest, and two of unicode/utf8 (one of them pinned by name): the program's tables out of the rows' condition; a world in which all are laid.
-/
import Derived.Test.YtggnnlefalcplaaDoorOwn
import Derived.Test.YtggnnlefalcplaaDoorRows
import Derived.Test.YtggnnlefalcplaaDoorDigStir
import Derived.ProofKit
import Derived.LaidMore
import Derived.Lay
import Derived.Stop.Joined
import Derived.Lib.LaidTab
import Derived.Stop.LaidErr
namespace Go.Proofs.YtggnnlefalcplaaDoor
open Go.ChangeShapes Go.WideShapes Go.ChangeAt Go.RowKit

def laids : List (String × DataW Unit) := [("unicode/utf8.acceptRanges", Rows.laid_unicode_utf8_acceptRanges), ("trailhead/digest.start", Rows.laid_trailhead_digest_start), ("trailhead/digest.rounds", Rows.laid_trailhead_digest_rounds), ("unicode/utf8.first", Rows.laid_unicode_utf8_first)]
set_option maxRecDepth 100000 in
theorem laid_met (os : Os) (args : Array Value) : laidMetH Tryd.prog laids ((World.laidAll Tryd.prog os laids).forCall (fun _ _ => 0) ⟨#[], args, []⟩).memory := by
  rw [MakeChecks.laidMetH_plain _ _ _ (by kernel_rfl)]
  exact laidMet_laidAll _ (by kernel_rfl) (by kernel_rfl)
def startInts : List Int := (List.range 8).map fun i => Wd.n (Sha.start.at i)
def kInts : List Int := (List.range 64).map fun i => Wd.n (Sha.kAt i)
theorem start_data : (Rows.laid_trailhead_digest_start : DataW Unit) = Lib.tabData .u32 startInts := by kernel_rfl
theorem k_data : (Rows.laid_trailhead_digest_rounds : DataW Unit) = Lib.tabData .u32 kInts := by kernel_rfl
theorem gStart : Tryd.prog.globalNamed "trailhead/digest.start" = some 1 := by kernel_rfl
theorem gRounds : Tryd.prog.globalNamed "trailhead/digest.rounds" = some 4 := by kernel_rfl
theorem of_laid {W : World} (h : laidMetH Tryd.prog laids W) : Tab W := by
  rw [MakeChecks.laidMetH_plain _ _ _ (by kernel_rfl)] at h
  unfold laids at h
  rw [start_data, k_data] at h
  have h1 := Lib.tabIs_of_head gStart (t := 99) (e := 89) (n := 8) (by kernel_rfl) Tryd.underlying99 Tryd.underlying89 (by kernel_rfl) (by kernel_rfl) h.tail
  have h2 := Lib.tabIs_of_head gRounds (t := 100) (e := 89) (n := 64) (by kernel_rfl) Tryd.underlying100 Tryd.underlying89 (by kernel_rfl) (by kernel_rfl) h.tail.tail
  refine ⟨fun i hi => ?_, fun i hi => ?_⟩
  · rw [h2.cell gRounds i (by simp [kInts]; exact hi)]
    simp [kInts, hi]
  · rw [h1.cell gStart i (by simp [startInts]; exact hi)]
    simp [startInts, hi]
end Go.Proofs.YtggnnlefalcplaaDoor
