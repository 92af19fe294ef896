import Derived.WalkKit
set_option maxRecDepth 100000
set_option maxHeartbeats 4000000
namespace Go.Proofs.YtgaocfhlagbkpaaGreatDoor.Md
def srt (l : List Int) : List Int := l.mergeSort fun x y => decide (x ≤ y)
def mid (l : List Int) : Int := (srt (l.take 11)).getD ((l.take 11).length / 2) 0
theorem mid_nil : mid [] = 0 := by simp [mid, srt]
def less (x : Int) (l : List Int) : Nat := l.countP fun y => decide (y < x)
def same (x : Int) (l : List Int) : Nat := l.countP fun y => decide (y = x)
def rank (x : Int) (l : List Int) : Prop := less x l ≤ l.length / 2 ∧ l.length / 2 < less x l + same x l
instance (x : Int) (l : List Int) : Decidable (rank x l) := by unfold rank; infer_instance
end Go.Proofs.YtgaocfhlagbkpaaGreatDoor.Md
