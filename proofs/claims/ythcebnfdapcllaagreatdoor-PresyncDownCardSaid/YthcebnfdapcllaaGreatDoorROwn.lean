import Derived.Test.YthcebnfdapcllaaGreatDoorRows
import Derived.ProofKit
namespace Go.Proofs.YthcebnfdapcllaaGreatDoor
open Go.RowKit Go.ChangeShapes Go.WideShapes Go.ChangeAt
theorem own : ownKnob Tryz.prog.godebug = none := by kernel_rfl
theorem laidOut : laidOutB Tryz.prog = true := by kernel_rfl
theorem cellsHash : Tryz.prog.cellsOf 28 = 32 := by kernel_rfl
theorem cellsByte : Tryz.prog.cellsOf 5 = 1 := by kernel_rfl
end Go.Proofs.YthcebnfdapcllaaGreatDoor
