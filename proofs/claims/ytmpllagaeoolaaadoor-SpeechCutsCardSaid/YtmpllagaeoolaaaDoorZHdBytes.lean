/-
  header: Bytes, Id.
-/
import Derived.Test.YtmpllagaeoolaaaDoorZHdWrite
import Derived.Test.YtmpllagaeoolaaaDoorBunC
import Derived.Test.YtmpllagaeoolaaaDoorBunF
namespace Go.Proofs.YtmpllagaeoolaaaDoor
open Go.RowKit Mem Sc Sha
theorem sha_length (l : List UInt8) : (sha l).length = 32 := nameOf_length _
theorem id_length (h : Hd) : h.id.length = 32 := by
  unfold Hd.id
  split
  · exact sha_length _
  · rfl
end Go.Proofs.YtmpllagaeoolaaaDoor
