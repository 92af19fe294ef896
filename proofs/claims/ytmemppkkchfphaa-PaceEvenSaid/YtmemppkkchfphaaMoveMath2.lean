import Derived.Test.YtmemppkkchfphaaMoveMath
namespace Go.Proofs.Ytmemppkkchfphaa.Nm
theorem wd_up64 (y : Nat) : wd (up y 64) 0 = 0 ∧ wd (up y 64) 1 = wd y 0 ∧ wd (up y 64) 2 = wd y 1 ∧ wd (up y 64) 3 = wd y 2 := by
  refine ⟨wd_up_none y 64 0 (by omega) (by omega), ?_, ?_, ?_⟩
  · rw [wd_up_low y 64 1 (by omega) (by omega)]; simp; exact wd_lt y 0
  · rw [wd_up y 64 2 (by omega) (by omega)]
    have h1 : wd y 0 >>> 64 = 0 := Nat.shiftRight_eq_zero _ _ (wd_lt y 0)
    simp [h1]; exact wd_lt y 1
  · rw [wd_up y 64 3 (by omega) (by omega)]
    have h1 : wd y 1 >>> 64 = 0 := Nat.shiftRight_eq_zero _ _ (wd_lt y 1)
    simp [h1]; exact wd_lt y 2
theorem wd_down64 {y : Nat} (hy : y < big) : wd (down y 64) 0 = wd y 1 ∧ wd (down y 64) 1 = wd y 2 ∧ wd (down y 64) 2 = wd y 3 ∧ wd (down y 64) 3 = 0 := by
  have z : ∀ v : Nat, v <<< 64 % 18446744073709551616 = 0 := fun v => by rw [Nat.shiftLeft_eq]; omega
  refine ⟨?_, ?_, ?_, wd_down_none hy 64 3 (by omega)⟩
  · rw [wd_down y 64 0]; simp [z]
  · rw [wd_down y 64 1]; simp [z]
  · rw [wd_down_top hy 64 2 (by omega)]; simp
/-- sums of parts that don't meet -/
theorem add_up (a b m : Nat) (hm : m ≤ 64) (hb : b < 18446744073709551616) : a <<< m % 18446744073709551616 + b >>> (64 - m) = a <<< m % 18446744073709551616 ||| b >>> (64 - m) := by
  have h1 : b >>> (64 - m) < 2 ^ m := by
    rw [Nat.shiftRight_eq_div_pow, Nat.div_lt_iff_lt_mul (Nat.pow_pos (by decide)), ← Nat.pow_add, show m + (64 - m) = 64 by omega]; exact hb
  have h2 : a <<< m % 18446744073709551616 = 2 ^ m * (a % 2 ^ (64 - m)) := by
    rw [Nat.shiftLeft_eq, Nat.mul_comm, show (18446744073709551616 : Nat) = 2 ^ m * 2 ^ (64 - m) by rw [← Nat.pow_add, show m + (64 - m) = 64 by omega], Nat.mul_mod_mul_left]
  rw [h2, Nat.two_pow_add_eq_or_of_lt h1]
theorem add_down (a b m : Nat) (hm : m ≤ 64) (ha : a < 18446744073709551616) : a >>> m + b <<< (64 - m) % 18446744073709551616 = a >>> m ||| b <<< (64 - m) % 18446744073709551616 := by
  have := add_up b a (64 - m) (by omega) ha
  rw [show 64 - (64 - m) = m by omega] at this
  rw [Nat.add_comm, this, Nat.or_comm]
theorem or_lt64 {a b : Nat} (ha : a < 18446744073709551616) (hb : b < 18446744073709551616) : (a ||| b) < 18446744073709551616 := Nat.or_lt_two_pow (n := 64) ha hb
end Go.Proofs.Ytmemppkkchfphaa.Nm
