/-
  Facts of the program that rows and cards want.
-/
import Derived.Test.YtomegahohiijcaaDoorRows
import Derived.ProofKit
namespace Go.Proofs.YtomegahohiijcaaDoor
open Go.RowKit Go.ChangeShapes Go.WideShapes Go.ChangeAt
theorem own : ownKnob Tryd.prog.godebug = none := by kernel_rfl
theorem laidOut : laidOutB Tryd.prog = true := by kernel_rfl
theorem cellsHash : Tryd.prog.cellsOf 25 = 32 := by kernel_rfl
theorem cellsByte : Tryd.prog.cellsOf 5 = 1 := by kernel_rfl
end Go.Proofs.YtomegahohiijcaaDoor
