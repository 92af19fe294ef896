/-
  Layer 5's laws: alive.
-/
import Derived.Test.YtggnnlefalcplaaDoorScRef3
namespace Go.Proofs.YtggnnlefalcplaaDoor
open Go.RowKit Mem Sc
theorem cnt253 : (⟨(([] : List UInt8) ++ cnt 253).toArray⟩ : ByteArray) = ⟨#[253, 253, 0]⟩ := by decide +kernel
/-- what a pen that the call made writes leaves old memory as it was -/
theorem pen_below {w w' : World} {b : Nat} {v v' : Value} {l : List UInt8} {W : World} (hB : Below W.heap.size W w) (hb : W.heap.size ≤ b) (hp : PenAt w b v l) (h : PenStep w w' b v v') : Below W.heap.size W w' :=
  hB.trans ((h.toBelow hp).mono hb)
theorem text_txt (b : Nat) (v : Value) (l : List UInt8) (w : World) (h : PenAt w b v l) : Calls Tryd.prog 20 #[.pointer (some ⟨b, 0, none⟩)] w fun r w' => r = .returned (.string (txt l)) ∧ w = w' := text_at b v l w h
end Go.Proofs.YtggnnlefalcplaaDoor
