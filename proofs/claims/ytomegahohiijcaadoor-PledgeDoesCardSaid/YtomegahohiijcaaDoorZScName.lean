/-
  scroll's Eye: Name.
-/
import Derived.Test.YtomegahohiijcaaDoorBunQ8
import Derived.Test.YtomegahohiijcaaDoorZHashMem
namespace Go.Proofs.YtomegahohiijcaaDoor
open Go.RowKit Mem Sc
theorem raw32 (e : Ey) : (e.raw 32).1.data.toList.length = 32 ∨ (e.raw 32).1 = E0 := by
  unfold Ey.raw
  split
  · exact .inr rfl
  · split
    · exact .inr rfl
    · left
      rw [← Lib.size_eq]
      simp only [ByteArray.size_extract]
      omega
end Go.Proofs.YtomegahohiijcaaDoor
