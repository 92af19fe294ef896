/-
  More plain mathematics of numbers of 256 bits: turned bits, order.
-/
import Derived.Test.YtmemppkkchfphaaNum
namespace Go.Proofs.Ytmemppkkchfphaa.Nm
def bnot (x i : Nat) : Nat := 2 ^ i - 1 - x % 2 ^ i
theorem bnot_lt (x i : Nat) : bnot x i < 2 ^ i := by
  have : 0 < 2 ^ i := Nat.pow_pos (by decide)
  unfold bnot; omega
theorem bnot_zero (x : Nat) : bnot x 0 = 0 := by simp [bnot]
theorem bnot_next (x i : Nat) : bnot x (i + 1) = 2 ^ i * (1 - bit x i) + bnot x i := by
  have h := mod_next x i
  have hb := bit_lt x i
  have hl := Nat.mod_lt x (show 0 < 2 ^ i from Nat.pow_pos (by decide))
  unfold bnot
  rw [h, Nat.pow_succ]
  generalize 2 ^ i = P at *
  obtain h0 | h0 : bit x i = 0 ∨ bit x i = 1 := by omega
  · rw [h0]; omega
  · rw [h0]; omega
theorem bnot_none {x i : Nat} (h : bit x i = 0) : bnot x i ||| 2 ^ i = bnot x (i + 1) := by
  rw [bnot_next, h, or_bit (bnot_lt x i)]; omega
theorem bnot_one {x i : Nat} (h : bit x i ≠ 0) : bnot x i = bnot x (i + 1) := by
  have := bit_lt x i
  rw [bnot_next, show bit x i = 1 by omega]; omega
theorem bnot_all {x : Nat} (hx : x < big) : bnot x 256 = big - 1 - x := by
  unfold bnot; rw [← big_eq, Nat.mod_eq_of_lt hx]
theorem div_bit (x i : Nat) : x / 2 ^ i = 2 * (x / 2 ^ (i + 1)) + bit x i := by
  unfold bit
  rw [Nat.pow_succ, ← Nat.div_div_eq_div_mul]; omega
theorem top_same {x y j : Nat} (h : x / 2 ^ (j + 1) = y / 2 ^ (j + 1)) (hb : bit x j = bit y j) : x / 2 ^ j = y / 2 ^ j := by
  rw [div_bit x j, div_bit y j, h, hb]
theorem top_less {x y j : Nat} (h : x / 2 ^ (j + 1) = y / 2 ^ (j + 1)) (hb : bit x j < bit y j) : x < y := by
  rcases Nat.lt_or_ge x y with h' | h'
  · exact h'
  · have := Nat.div_le_div_right (c := 2 ^ j) h'
    rw [div_bit x j, div_bit y j, h] at this
    omega
theorem top_more {x y j : Nat} (h : x / 2 ^ (j + 1) = y / 2 ^ (j + 1)) (hb : bit y j < bit x j) : ¬ x < y := by
  have := top_less h.symm hb
  omega
theorem top_all {x y : Nat} (hx : x < big) (hy : y < big) : x / 2 ^ 256 = y / 2 ^ 256 := by
  rw [← big_eq, Nat.div_eq_of_lt hx, Nat.div_eq_of_lt hy]
/-- the top words are the same, the next differ -/
theorem word_div (x k : Nat) : x / 2 ^ (64 * k) = 18446744073709551616 * (x / 2 ^ (64 * (k + 1))) + wd x k := by
  unfold wd
  rw [pow_next, ← Nat.div_div_eq_div_mul]; omega
theorem word_same {x y k : Nat} (h : x / 2 ^ (64 * (k + 1)) = y / 2 ^ (64 * (k + 1))) (hb : wd x k = wd y k) : x / 2 ^ (64 * k) = y / 2 ^ (64 * k) := by
  rw [word_div x k, word_div y k, h, hb]
theorem word_less {x y k : Nat} (h : x / 2 ^ (64 * (k + 1)) = y / 2 ^ (64 * (k + 1))) (hb : wd x k < wd y k) : x < y := by
  rcases Nat.lt_or_ge x y with h' | h'
  · exact h'
  · have := Nat.div_le_div_right (c := 2 ^ (64 * k)) h'
    rw [word_div x k, word_div y k, h] at this
    omega
/-- -1, 0, 1 -/
def cmp (x y : Nat) : Int := if x < y then -1 else if y < x then 1 else 0
theorem cmp_word {x y k : Nat} (h : x / 2 ^ (64 * (k + 1)) = y / 2 ^ (64 * (k + 1))) (hb : wd x k ≠ wd y k) : cmp (wd x k) (wd y k) = cmp x y := by
  unfold cmp
  rcases Nat.lt_or_ge (wd x k) (wd y k) with h' | h'
  · rw [if_pos h', if_pos (word_less h h')]
  · have h2 := word_less h.symm (show wd y k < wd x k by omega)
    rw [if_neg (by omega), if_pos (by omega), if_neg (by omega), if_pos h2]
theorem cmp_zero {x y : Nat} (h : x / 2 ^ (64 * (0 + 1)) = y / 2 ^ (64 * (0 + 1))) : cmp (wd x 0) (wd y 0) = cmp x y := by
  by_cases hb : wd x 0 = wd y 0
  · have := word_same h hb
    simp at this
    subst this
    simp [cmp]
  · exact cmp_word h hb
end Go.Proofs.Ytmemppkkchfphaa.Nm
