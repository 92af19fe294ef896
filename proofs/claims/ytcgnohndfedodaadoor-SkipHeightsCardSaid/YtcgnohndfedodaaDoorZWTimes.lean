import Derived.Test.YtcgnohndfedodaaDoorBunQ25
import Derived.Test.YtcgnohndfedodaaDoorZShelf
import Derived.Test.YtcgnohndfedodaaDoorBunQ20
namespace Go.Proofs.YtcgnohndfedodaaDoor.NN
open Go.RowKit

theorem mul64 (x y : Nat) (hx : x < 18446744073709551616) (hy : y < 18446744073709551616) (w : World) :
    Calls Tryd.prog 85 #[.int .u64 (x : Int), .int .u64 (y : Int)] w fun e w' => e = .returned (.tuple #[.int .u64 ((x * y / 18446744073709551616 : Nat) : Int), .int .u64 ((x * y % 18446744073709551616 : Nat) : Int)]) ∧ w = w' :=
  (Tryd.bits_Mul64 x y hx hy w).mono fun _ _ ⟨he, hw⟩ => ⟨he, hw.symm⟩
/-- the high word of a product and what the low ones carry: no overflow -/
theorem carry_in (a b c : Nat) (ha : a < 18446744073709551616) (hc : c < b ∨ b = 0 ∧ c = 0) (hb : b < 18446744073709551616) :
    a * b / 18446744073709551616 + (a * b % 18446744073709551616 + c) / 18446744073709551616 = (a * b + c) / 18446744073709551616 ∧ (a * b + c) / 18446744073709551616 < 18446744073709551616 := by
  have h1 : a * b ≤ 18446744073709551615 * b := Nat.mul_le_mul_right b (by omega)
  generalize a * b = p at *
  omega
theorem over_ok (x b k : Nat) : Nm.over x b k < b ∨ b = 0 ∧ Nm.over x b k = 0 := by
  by_cases h : b = 0
  · exact .inr ⟨h, by subst h; simp [Nm.over]⟩
  · exact .inl (Nm.over_lt x b k (by omega))
structure Tm (w wr : World) (A R O x : Nat) (g : Nat → Nat) : Prop where
  below : Below w.heap.size w wr
  a : Has wr A (numC x) 33
  r : Has wr R (numC 0) 33
  o : Has wr O (cells4 g) 33
theorem Tm.set {w wr : World} {A R O x : Nat} {g : Nat → Nat} (h : Tm w wr A R O x g) (i v : Nat) (hi : i < 4) (hA : A ≠ O) (hR : R ≠ O) (hO : w.heap.size ≤ O) : Tm w (wr.setCell ⟨O, i, none⟩ (.int .u64 (v : Nat))) A R O x (upd g i v) :=
  ⟨h.below.setCell hO _, h.a.other _ _ hA, h.r.other _ _ hR, by rw [← cells4_set g i v hi]; exact h.o.set _⟩
theorem Tm.drew {w wr : World} {A R O x : Nat} {g : Nat → Nat} (h : Tm w wr A R O x g) : Tm w wr.drew A R O x g := ⟨h.below.drew, h.a, h.r, h.o⟩
end Go.Proofs.YtcgnohndfedodaaDoor.NN
