/-
  scroll's Eye: what it holds in memory; its small calls.
-/
import Derived.Test.YteblphnpealefaaRows
import Derived.Test.YteblphnpealefaaZMem
import Derived.Test.YteblphnpealefaaZScMath
import Derived.Deep.RegionHeld3
import Derived.Lib.QuietBelow
import Derived.Laws.IdiomStrings
import Derived.Laws.DeepStrings4
namespace Go.Proofs.Yteblphnpealefaa
open Go.RowKit Mem Sc
end Go.Proofs.Yteblphnpealefaa
