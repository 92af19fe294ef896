/-
  The reference of layer 5: Counted.
-/
import Derived.Test.YtggnnlefalcplaaDoorScRef2
namespace Go.Proofs.YtggnnlefalcplaaDoor
open Go.RowKit Mem Sc
theorem head_byte {s : ByteArray} {b : UInt8} {r : List UInt8} (hs : s.data.toList = b :: r) (h : 0 < s.size) : s[0] = b := by
  have this : s.data.toList[0]? = some b := by rw [hs]; rfl
  have hd : 0 < s.data.size := h
  rw [Array.getElem?_toList, Array.getElem?_eq_getElem hd] at this
  exact Option.some.inj this
theorem ba_eq_list (a b : ByteArray) : (a.toList == b.toList) = decide (a.data.toList = b.data.toList) := by
  rw [ByteArray.toList_eq, ByteArray.toList_eq, Bool.eq_iff_iff]; simp
end Go.Proofs.YtggnnlefalcplaaDoor
