/-
  Layer 5's laws: alive.
-/
import Derived.Test.YtjdhedebkpclmaaScRef3
namespace Go.Proofs.Ytjdhedebkpclmaa
open Go.RowKit Mem Sc
theorem cnt253 : (⟨(([] : List UInt8) ++ cnt 253).toArray⟩ : ByteArray) = ⟨#[253, 253, 0]⟩ := by decide +kernel
/-- what a pen that the call made writes leaves old memory as it was -/
theorem pen_below {w w' : World} {b : Nat} {v v' : Value} {l : List UInt8} {W : World} (hB : Below W.heap.size W w) (hb : W.heap.size ≤ b) (hp : PenAt w b v l) (h : PenStep w w' b v v') : Below W.heap.size W w' :=
  hB.trans ((h.toBelow hp).mono hb)
theorem text_txt (b : Nat) (v : Value) (l : List UInt8) (w : World) (h : PenAt w b v l) : Calls Try.prog 27 #[.pointer (some ⟨b, 0, none⟩)] w fun r w' => r = .returned (.string (txt l)) ∧ w = w' := text_at b v l w h
set_option maxRecDepth 100000 in
set_option maxHeartbeats 1000000 in
theorem salive (w : World) : Calls Try.prog 9 #[] w fun r w' => r = .returned (.bool true) ∧ Below w.heap.size w w' := by
  have hN := pen_new w
  have hB : Below w.heap.size w (w.alloc (.cells #[.slice none 0 0] 48)) := (Below.refl _ _).alloc (Nat.le_refl _) _
  go_enter Try.func9, Try.ntmps9
  go_wp2_with fail
  refine (pcount_at _ _ _ 253 _ hN (by simp)).mono ?_
  rintro r w1 ⟨v1, rfl, hP, hS⟩
  have hB1 := pen_below hB (Nat.le_refl _) hN hS
  clear hB hN hS
  go_wp2_with fail
  refine (text_at _ _ _ _ hP).mono ?_
  rintro r w2 ⟨rfl, rfl⟩
  rw [cnt253]
  clear hP
  go_wp2_with fail
  refine (on_ _ _).mono ?_
  rintro r w3 ⟨rfl, hE3, hb3⟩
  have hB3 := hB1.trans (hb3.mono hB1.size)
  go_wp2_with fail
  refine (done_at _ _ _ hE3 true rfl).mono ?_
  rintro r w4 ⟨rfl, rfl⟩
  clear hE3 hb3
  go_wp2_with fail
  refine (on_ _ _).mono ?_
  rintro r w5 ⟨rfl, hE5, hb5⟩
  have hB5 := hB3.trans (hb5.mono hB3.size)
  go_wp2_with fail
  refine (done_at _ _ _ hE5 false rfl).mono ?_
  rintro r w6 ⟨rfl, rfl⟩
  go_wp2_with fail
  go_ret
  exact ⟨rfl, hB5⟩
end Go.Proofs.Ytjdhedebkpclmaa
