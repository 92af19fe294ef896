/-
  Plain mathematics of moved numbers: words of a number moved up or down.
-/
import Derived.Test.YtmemppkkchfphaaNum2
namespace Go.Proofs.Ytmemppkkchfphaa.Nm
/-- moved up, what goes out is lost -/
def up (x n : Nat) : Nat := x <<< n % big
def down (x n : Nat) : Nat := x >>> n
theorem up_lt (x n : Nat) : up x n < big := Nat.mod_lt _ (by decide)
theorem down_lt {x : Nat} (hx : x < big) (n : Nat) : down x n < big := by
  unfold down; rw [Nat.shiftRight_eq_div_pow]; exact Nat.lt_of_le_of_lt (Nat.div_le_self _ _) hx
theorem up_testBit (x n i : Nat) : (up x n).testBit i = (decide (i < 256) && (decide (n ≤ i) && x.testBit (i - n))) := by
  unfold up
  rw [big_eq, Nat.testBit_mod_two_pow, Nat.testBit_shiftLeft]
theorem down_testBit (x n i : Nat) : (down x n).testBit i = x.testBit (n + i) := by
  unfold down; rw [Nat.testBit_shiftRight]
theorem wd_up_testBit (x n k j : Nat) (hk : k < 4) : (wd (up x n) k).testBit j = (decide (j < 64) && (decide (n ≤ 64 * k + j) && x.testBit (64 * k + j - n))) := by
  rw [wd_testBit, up_testBit]
  by_cases hj : j < 64
  · have : 64 * k + j < 256 := by omega
    simp [hj, this]
  · simp [hj]
theorem wd_down_testBit (x n k j : Nat) : (wd (down x n) k).testBit j = (decide (j < 64) && x.testBit (n + (64 * k + j))) := by
  rw [wd_testBit, down_testBit]
theorem mod64_testBit (v j : Nat) : (v % 18446744073709551616).testBit j = (decide (j < 64) && v.testBit j) := by
  rw [show (18446744073709551616 : Nat) = 2 ^ 64 by decide, Nat.testBit_mod_two_pow]
/-- word k of a number moved up by 64 far + near -/
theorem wd_up (x n k : Nat) (hk : k < 4) (h : n / 64 < k) : wd (up x n) k = (wd x (k - n / 64) <<< (n % 64)) % 18446744073709551616 ||| wd x (k - n / 64 - 1) >>> (64 - n % 64) := by
  apply Nat.eq_of_testBit_eq
  intro j
  rw [wd_up_testBit x n k j hk, Nat.testBit_or, mod64_testBit, Nat.testBit_shiftLeft, Nat.testBit_shiftRight, wd_testBit, wd_testBit]
  have hm : n % 64 < 64 := Nat.mod_lt _ (by decide)
  by_cases hj : j < 64
  · by_cases h1 : n % 64 ≤ j
    · have h2 : n ≤ 64 * k + j := by omega
      have h3 : 64 * (k - n / 64) + (j - n % 64) = 64 * k + j - n := by omega
      have h4 : ¬ (64 - n % 64 + j < 64) := by omega
      have h5 : j - n % 64 < 64 := by omega
      simp [hj, h1, h2, h3, h4, h5]
    · have h2 : n ≤ 64 * k + j := by omega
      have h3 : 64 * (k - n / 64 - 1) + (64 - n % 64 + j) = 64 * k + j - n := by omega
      have h4 : 64 - n % 64 + j < 64 := by omega
      simp [hj, h1, h2, h3, h4]
  · have h4 : ¬ (64 - n % 64 + j < 64) := by omega
    simp [hj, h4]
theorem wd_up_low (x n k : Nat) (hk : k < 4) (h : n / 64 = k) : wd (up x n) k = (wd x (k - n / 64) <<< (n % 64)) % 18446744073709551616 := by
  apply Nat.eq_of_testBit_eq
  intro j
  rw [wd_up_testBit x n k j hk, mod64_testBit, Nat.testBit_shiftLeft, wd_testBit]
  have hm : n % 64 < 64 := Nat.mod_lt _ (by decide)
  by_cases hj : j < 64
  · by_cases h1 : n % 64 ≤ j
    · have h2 : n ≤ 64 * k + j := by omega
      have h3 : 64 * (k - n / 64) + (j - n % 64) = 64 * k + j - n := by omega
      have h5 : j - n % 64 < 64 := by omega
      simp [hj, h1, h2, h3, h5]
    · have h2 : ¬ (n ≤ 64 * k + j) := by omega
      simp [h1, h2]
  · simp [hj]
theorem wd_up_none (x n k : Nat) (hk : k < 4) (h : k < n / 64) : wd (up x n) k = 0 := by
  apply Nat.eq_of_testBit_eq
  intro j
  rw [wd_up_testBit x n k j hk, Nat.zero_testBit]
  by_cases hj : j < 64
  · have h2 : ¬ (n ≤ 64 * k + j) := by omega
    simp [h2]
  · simp [hj]
theorem wd_down (x n k : Nat) : wd (down x n) k = wd x (k + n / 64) >>> (n % 64) ||| (wd x (k + n / 64 + 1) <<< (64 - n % 64)) % 18446744073709551616 := by
  apply Nat.eq_of_testBit_eq
  intro j
  rw [wd_down_testBit, Nat.testBit_or, mod64_testBit, Nat.testBit_shiftLeft, Nat.testBit_shiftRight, wd_testBit, wd_testBit]
  have hm : n % 64 < 64 := Nat.mod_lt _ (by decide)
  by_cases hj : j < 64
  · by_cases h1 : n % 64 + j < 64
    · have h3 : 64 * (k + n / 64) + (n % 64 + j) = n + (64 * k + j) := by omega
      have h4 : ¬ (64 - n % 64 ≤ j) := by omega
      simp [hj, h1, h3, h4]
    · have h3 : 64 * (k + n / 64 + 1) + (j - (64 - n % 64)) = n + (64 * k + j) := by omega
      have h4 : 64 - n % 64 ≤ j := by omega
      have h5 : j - (64 - n % 64) < 64 := by omega
      simp [hj, h1, h3, h4, h5]
  · have h1 : ¬ (n % 64 + j < 64) := by omega
    simp [hj, h1]
theorem big_bit {x : Nat} (hx : x < big) {i : Nat} (hi : 256 ≤ i) : x.testBit i = false :=
  Nat.testBit_lt_two_pow (Nat.lt_of_lt_of_le hx (by rw [big_eq]; exact Nat.pow_le_pow_right (by decide) hi))
theorem wd_down_top {x : Nat} (hx : x < big) (n k : Nat) (h : k + n / 64 = 3) : wd (down x n) k = wd x (k + n / 64) >>> (n % 64) := by
  apply Nat.eq_of_testBit_eq
  intro j
  rw [wd_down_testBit, Nat.testBit_shiftRight, wd_testBit]
  have hm : n % 64 < 64 := Nat.mod_lt _ (by decide)
  by_cases hj : j < 64
  · by_cases h1 : n % 64 + j < 64
    · have h3 : 64 * (k + n / 64) + (n % 64 + j) = n + (64 * k + j) := by omega
      simp [hj, h1, h3]
    · have h3 := big_bit hx (show 256 ≤ n + (64 * k + j) by omega)
      simp [h1, h3]
  · have h1 : ¬ (n % 64 + j < 64) := by omega
    simp [hj, h1]
theorem wd_down_none {x : Nat} (hx : x < big) (n k : Nat) (h : 4 ≤ k + n / 64) : wd (down x n) k = 0 := by
  apply Nat.eq_of_testBit_eq
  intro j
  rw [wd_down_testBit, Nat.zero_testBit]
  have h3 := big_bit hx (show 256 ≤ n + (64 * k + j) by omega)
  simp [h3]
theorem up_zero {x : Nat} (hx : x < big) : up x 0 = x := by simp [up, Nat.mod_eq_of_lt hx]
theorem down_zero (x : Nat) : down x 0 = x := by simp [down]
theorem up_add (x n m : Nat) : up (up x n) m = up x (n + m) := by
  apply Nat.eq_of_testBit_eq
  intro i
  rw [up_testBit, up_testBit, up_testBit]
  by_cases hi : i < 256
  · by_cases h1 : m ≤ i
    · have h2 : i - m < 256 := by omega
      have h3 : i - m - n = i - (n + m) := by omega
      have h4 : (n ≤ i - m) ↔ (n + m ≤ i) := by omega
      simp [hi, h1, h2, h3, h4]
    · have h2 : ¬ (n + m ≤ i) := by omega
      simp [h1, h2]
  · simp [hi]
theorem down_add (x n m : Nat) : down (down x n) m = down x (n + m) := by
  unfold down; rw [Nat.shiftRight_add]
theorem up_big (x : Nat) {n : Nat} (h : 256 ≤ n) : up x n = 0 := by
  apply Nat.eq_of_testBit_eq
  intro i
  rw [up_testBit, Nat.zero_testBit]
  by_cases hi : i < 256
  · have h2 : ¬ (n ≤ i) := by omega
    simp [h2]
  · simp [hi]
theorem down_big {x : Nat} (hx : x < big) {n : Nat} (h : 256 ≤ n) : down x n = 0 := by
  apply Nat.eq_of_testBit_eq
  intro i
  rw [down_testBit, Nat.zero_testBit, big_bit hx (by omega)]
end Go.Proofs.Ytmemppkkchfphaa.Nm
