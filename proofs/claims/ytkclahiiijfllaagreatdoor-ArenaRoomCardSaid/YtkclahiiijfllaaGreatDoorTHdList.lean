import Derived.Test.YtkclahiiijfllaaGreatDoorTBunQ16
import Derived.Test.YtkclahiiijfllaaGreatDoorTHdEq
namespace Go.Proofs.YtkclahiiijfllaaGreatDoor
open Go.RowKit Mem Sc
theorem hdC_pos (h : Hd) : 0 < (hdC h).length := by simp [hdC]
theorem range_prev {w : World} {g o : Nat} {h : Hd} (hr : w.rangeAt g o (hdC h)) : w.rangeAt g (o + 1) (Lib.byteCells h.prev) := fun j u hu => by
  have := hr (1 + j) u (hdC_prev j u hu)
  rwa [show o + (1 + j) = o + 1 + j by omega] at this
end Go.Proofs.YtkclahiiijfllaaGreatDoor
