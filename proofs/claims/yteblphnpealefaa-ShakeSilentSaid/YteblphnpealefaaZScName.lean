/-
  scroll's Eye: Name.
-/
import Derived.Test.YteblphnpealefaaBunQ5
import Derived.Test.YteblphnpealefaaZHashMem
namespace Go.Proofs.Yteblphnpealefaa
open Go.RowKit Mem Sc
theorem raw32 (e : Ey) : (e.raw 32).1.data.toList.length = 32 ∨ (e.raw 32).1 = E0 := by
  unfold Ey.raw
  split
  · exact .inr rfl
  · split
    · exact .inr rfl
    · left
      rw [← Lib.size_eq]
      simp only [ByteArray.size_extract]
      omega
end Go.Proofs.Yteblphnpealefaa
