/-
  Facts of the program that rows and cards want.
-/
import Derived.Test.YteblphnpealefaaRows
import Derived.ProofKit
namespace Go.Proofs.Yteblphnpealefaa
open Go.RowKit Go.ChangeShapes Go.WideShapes Go.ChangeAt
theorem own : ownKnob Try.prog.godebug = none := by kernel_rfl
theorem laidOut : laidOutB Try.prog = true := by kernel_rfl
theorem cellsHash : Try.prog.cellsOf 36 = 32 := by kernel_rfl
theorem cellsByte : Try.prog.cellsOf 5 = 1 := by kernel_rfl
end Go.Proofs.Yteblphnpealefaa
