/-
  Plain mathematics: numbers of 256 bits and their words of 64 bits.
-/
import Init
namespace Go.Proofs.Ytmemppkkchfphaa.Nm
/-- word i of a number -/
def wd (x i : Nat) : Nat := x / 2 ^ (64 * i) % 18446744073709551616
def big : Nat := 115792089237316195423570985008687907853269984665640564039457584007913129639936
theorem big_eq : big = 2 ^ 256 := by decide
theorem wd_lt (x i : Nat) : wd x i < 18446744073709551616 := Nat.mod_lt _ (by decide)
theorem wd0 (x : Nat) : wd x 0 = x % 18446744073709551616 := by simp [wd]
theorem wd1 (x : Nat) : wd x 1 = x / 18446744073709551616 % 18446744073709551616 := by simp [wd]
theorem wd2 (x : Nat) : wd x 2 = x / 340282366920938463463374607431768211456 % 18446744073709551616 := by simp [wd]
theorem wd3 (x : Nat) : wd x 3 = x / 6277101735386680763835789423207666416102355444464034512896 % 18446744073709551616 := by simp [wd]
theorem four {k : Nat} (h : k < 4) : k = 0 ∨ k = 1 ∨ k = 2 ∨ k = 3 := by omega
theorem wd_sum (x : Nat) (h : x < big) : x = wd x 0 + 18446744073709551616 * wd x 1 + 340282366920938463463374607431768211456 * wd x 2 + 6277101735386680763835789423207666416102355444464034512896 * wd x 3 := by
  rw [wd0, wd1, wd2, wd3]; unfold big at h; omega
theorem wd_inj {x y : Nat} (hx : x < big) (hy : y < big) (h : ∀ i, i < 4 → wd x i = wd y i) : x = y := by
  rw [wd_sum x hx, wd_sum y hy, h 0 (by omega), h 1 (by omega), h 2 (by omega), h 3 (by omega)]
/-- a number out of its words -/
def mk (f : Nat → Nat) : Nat := f 0 + 18446744073709551616 * f 1 + 340282366920938463463374607431768211456 * f 2 + 6277101735386680763835789423207666416102355444464034512896 * f 3
theorem mk_wd (x : Nat) (h : x < big) : mk (wd x) = x := (wd_sum x h).symm
theorem wd_mk {f : Nat → Nat} (hf : ∀ i, i < 4 → f i < 18446744073709551616) {i : Nat} (hi : i < 4) : wd (mk f) i = f i := by
  have h0 := hf 0 (by omega); have h1 := hf 1 (by omega); have h2 := hf 2 (by omega); have h3 := hf 3 (by omega)
  unfold mk
  rcases four hi with rfl | rfl | rfl | rfl
  · rw [wd0]; omega
  · rw [wd1]; omega
  · rw [wd2]; omega
  · rw [wd3]; omega
theorem mk_lt {f : Nat → Nat} (hf : ∀ i, i < 4 → f i < 18446744073709551616) : mk f < big := by
  have h0 := hf 0 (by omega); have h1 := hf 1 (by omega); have h2 := hf 2 (by omega); have h3 := hf 3 (by omega)
  unfold mk big; omega
theorem wd_mod (x : Nat) {i : Nat} (hi : i < 4) : wd (x % big) i = wd x i := by
  unfold big
  rcases four hi with rfl | rfl | rfl | rfl
  · rw [wd0, wd0]; omega
  · rw [wd1, wd1]; omega
  · rw [wd2, wd2]; omega
  · rw [wd3, wd3]; omega
/-! ### sums: the digit and what is carried -/
def carry (x y k : Nat) : Nat := (x % 2 ^ (64 * k) + y % 2 ^ (64 * k)) / 2 ^ (64 * k)
theorem carry_le (x y k : Nat) : carry x y k ≤ 1 := by
  have hP : 0 < 2 ^ (64 * k) := Nat.pow_pos (by decide)
  have := Nat.mod_lt x hP; have := Nat.mod_lt y hP
  unfold carry
  have : (x % 2 ^ (64 * k) + y % 2 ^ (64 * k)) / 2 ^ (64 * k) < 2 := by rw [Nat.div_lt_iff_lt_mul hP]; omega
  omega
theorem carry_zero (x y : Nat) : carry x y 0 = 0 := by simp [carry, Nat.mod_one]
theorem pow_next (k : Nat) : 2 ^ (64 * (k + 1)) = 2 ^ (64 * k) * 18446744073709551616 := by rw [show 64 * (k + 1) = 64 * k + 64 by omega, Nat.pow_add]
theorem carry_next (x y k : Nat) : carry x y (k + 1) = (wd x k + wd y k + carry x y k) / 18446744073709551616 := by
  unfold carry wd
  rw [pow_next]
  generalize 2 ^ (64 * k) = P
  rw [Nat.mod_mul, Nat.mod_mul, ← Nat.div_div_eq_div_mul]
  by_cases hP : P = 0
  · subst hP; simp
  · have h : (x % P + P * (x / P % 18446744073709551616) + (y % P + P * (y / P % 18446744073709551616))) / P = x / P % 18446744073709551616 + y / P % 18446744073709551616 + (x % P + y % P) / P := by
      rw [show x % P + P * (x / P % 18446744073709551616) + (y % P + P * (y / P % 18446744073709551616)) = P * (x / P % 18446744073709551616 + y / P % 18446744073709551616) + (x % P + y % P) by rw [Nat.mul_add]; omega,
        Nat.mul_add_div (by omega)]
    rw [h]
theorem wd_add (x y k : Nat) : wd (x + y) k = (wd x k + wd y k + carry x y k) % 18446744073709551616 := by
  unfold carry wd
  generalize hP0 : 2 ^ (64 * k) = P
  have hP : 0 < P := by rw [← hP0]; exact Nat.pow_pos (by decide)
  have h : (x + y) / P = x / P + y / P + (x % P + y % P) / P := by
    have e : x + y = P * (x / P + y / P) + (x % P + y % P) := by
      have := Nat.div_add_mod x P; have := Nat.div_add_mod y P; rw [Nat.mul_add]; omega
    conv => lhs; rw [e]
    rw [Nat.mul_add_div hP]
  rw [h]; omega
theorem carry_four {x y : Nat} (hx : x < big) (hy : y < big) : carry x y 4 = (x + y) / big := by
  unfold carry
  rw [show 2 ^ (64 * 4) = big from by decide, Nat.mod_eq_of_lt hx, Nat.mod_eq_of_lt hy]
/-! ### differences -/
def borrow (x y k : Nat) : Nat := if x % 2 ^ (64 * k) < y % 2 ^ (64 * k) then 1 else 0
theorem borrow_le (x y k : Nat) : borrow x y k ≤ 1 := by unfold borrow; split <;> omega
theorem borrow_zero (x y : Nat) : borrow x y 0 = 0 := by simp [borrow, Nat.mod_one]
theorem borrow_next (x y k : Nat) : borrow x y (k + 1) = if wd x k < wd y k + borrow x y k then 1 else 0 := by
  unfold borrow wd
  rw [pow_next]
  generalize hP0 : 2 ^ (64 * k) = P
  have hP : 0 < P := by rw [← hP0]; exact Nat.pow_pos (by decide)
  rw [Nat.mod_mul, Nat.mod_mul]
  have hx := Nat.mod_lt x hP; have hy := Nat.mod_lt y hP
  generalize x / P % 18446744073709551616 = a
  generalize y / P % 18446744073709551616 = b
  generalize x % P = c at *
  generalize y % P = d at *
  congr 1
  apply propext
  rcases Nat.lt_trichotomy a b with h | h | h
  · have : P * (a + 1) ≤ P * b := Nat.mul_le_mul_left P h
    rw [Nat.mul_add] at this
    constructor
    · intro _; split <;> omega
    · intro _; omega
  · subst h; constructor
    · intro _; split <;> omega
    · intro h; split at h <;> omega
  · have : P * (b + 1) ≤ P * a := Nat.mul_le_mul_left P h
    rw [Nat.mul_add] at this
    constructor
    · intro _; omega
    · intro h; split at h <;> omega
theorem wd_sub (x y : Nat) (hx : x < big) (hy : y < big) {k : Nat} (hk : k < 4) : wd (x + big - y) k = (wd x k + 18446744073709551616 - wd y k - borrow x y k) % 18446744073709551616 := by
  unfold borrow big at *
  rcases four hk with rfl | rfl | rfl | rfl
  · rw [wd0, wd0, wd0]; simp only [Nat.mul_zero, Nat.pow_zero, Nat.mod_one]; rw [if_neg (by omega)]; omega
  · rw [wd1, wd1, wd1]; simp only [Nat.mul_one, Nat.reducePow]; split <;> omega
  · rw [wd2, wd2, wd2]; simp only [Nat.reduceMul, Nat.reducePow]; split <;> omega
  · rw [wd3, wd3, wd3]; simp only [Nat.reduceMul, Nat.reducePow]; split <;> omega
theorem borrow_four {x y : Nat} (hx : x < big) (hy : y < big) : borrow x y 4 = if x < y then 1 else 0 := by
  unfold borrow
  rw [show 2 ^ (64 * 4) = big from by decide, Nat.mod_eq_of_lt hx, Nat.mod_eq_of_lt hy]
/-! ### products by a small number -/
def over (x b k : Nat) : Nat := x % 2 ^ (64 * k) * b / 2 ^ (64 * k)
theorem over_zero (x b : Nat) : over x b 0 = 0 := by simp [over, Nat.mod_one]
theorem over_lt (x b k : Nat) (hb : 0 < b) : over x b k < b := by
  have hP : 0 < 2 ^ (64 * k) := Nat.pow_pos (by decide)
  unfold over
  rw [Nat.div_lt_iff_lt_mul hP, Nat.mul_comm b]
  exact Nat.mul_lt_mul_of_pos_right (Nat.mod_lt x hP) hb
theorem over_next (x b k : Nat) : over x b (k + 1) = (wd x k * b + over x b k) / 18446744073709551616 := by
  unfold over wd
  rw [pow_next]
  generalize hP0 : 2 ^ (64 * k) = P
  have hP : 0 < P := by rw [← hP0]; exact Nat.pow_pos (by decide)
  rw [Nat.mod_mul, ← Nat.div_div_eq_div_mul, Nat.add_mul, Nat.add_comm (x % P * b), Nat.mul_assoc, Nat.mul_add_div hP]
theorem wd_mul (x b k : Nat) : wd (x * b) k = (wd x k * b + over x b k) % 18446744073709551616 := by
  unfold over wd
  generalize hP0 : 2 ^ (64 * k) = P
  have hP : 0 < P := by rw [← hP0]; exact Nat.pow_pos (by decide)
  have h : x * b / P = x / P * b + x % P * b / P := by
    conv => lhs; rw [← Nat.div_add_mod x P, Nat.add_mul, Nat.mul_assoc, Nat.mul_add_div hP]
  rw [h, ← Nat.add_mod_mod, ← Nat.mod_add_mod, ← Nat.mod_mul_mod, Nat.mod_add_mod, Nat.add_mod_mod]
theorem over_four {x b : Nat} (hx : x < big) : over x b 4 = x * b / big := by
  unfold over
  rw [show 2 ^ (64 * 4) = big from by decide, Nat.mod_eq_of_lt hx]
/-! ### bits -/
def bit (x i : Nat) : Nat := x / 2 ^ i % 2
theorem bit_testBit (x i : Nat) : bit x i = (x.testBit i).toNat := by unfold bit; rw [Nat.toNat_testBit]
theorem wd_testBit (x i j : Nat) : (wd x i).testBit j = (decide (j < 64) && x.testBit (64 * i + j)) := by
  unfold wd
  rw [show (18446744073709551616 : Nat) = 2 ^ 64 by decide, Nat.testBit_mod_two_pow, Nat.testBit_div_two_pow]
  rw [Nat.add_comm]
theorem bit_wd (x i : Nat) : wd x (i / 64) / 2 ^ (i % 64) % 2 = bit x i := by
  rw [show wd x (i / 64) / 2 ^ (i % 64) % 2 = bit (wd x (i / 64)) (i % 64) from rfl, bit_testBit, bit_testBit, wd_testBit]
  have : i % 64 < 64 := Nat.mod_lt _ (by decide)
  rw [show 64 * (i / 64) + i % 64 = i from Nat.div_add_mod i 64]
  simp [this]
theorem bit_lt (x i : Nat) : bit x i < 2 := Nat.mod_lt _ (by decide)
theorem mod_next (x i : Nat) : x % 2 ^ (i + 1) = 2 ^ i * bit x i + x % 2 ^ i := by
  unfold bit; rw [Nat.pow_succ, Nat.mod_mul]; omega
theorem or_bit {x i : Nat} (h : x < 2 ^ i) : x ||| 2 ^ i = 2 ^ i + x := by
  have := Nat.two_pow_add_eq_or_of_lt h 1
  rw [Nat.mul_one] at this
  rw [this, Nat.or_comm]
theorem or_low {x i : Nat} (h : x % 2 ^ (i + 1) = 0) : x ||| 2 ^ i = x + 2 ^ i := by
  have h2 : 2 ^ i < 2 ^ (i + 1) := Nat.pow_lt_pow_right (by decide) (by omega)
  have := Nat.two_pow_add_eq_or_of_lt h2 (x / 2 ^ (i + 1))
  have e : 2 ^ (i + 1) * (x / 2 ^ (i + 1)) = x := by have := Nat.div_add_mod x (2 ^ (i + 1)); omega
  rw [e] at this
  exact this.symm
theorem wd_or (x i j : Nat) : wd (x ||| 2 ^ i) j = if j = i / 64 then wd x j ||| 2 ^ (i % 64) else wd x j := by
  apply Nat.eq_of_testBit_eq
  intro m
  rw [wd_testBit, Nat.testBit_or, Nat.testBit_two_pow]
  split
  · rename_i h
    rw [Nat.testBit_or, Nat.testBit_two_pow, wd_testBit]
    by_cases hm : m < 64
    · have : (i = 64 * j + m) ↔ (i % 64 = m) := by omega
      simp [hm, this]
    · have : ¬ (i % 64 = m) := by omega
      simp [hm, this]
  · rename_i h
    rw [wd_testBit]
    by_cases hm : m < 64
    · have : ¬ (i = 64 * j + m) := by omega
      simp [hm, this]
    · simp [hm]
theorem or_lt {x i : Nat} (hx : x < big) (hi : i < 256) : x ||| 2 ^ i < big := by
  rw [big_eq] at *
  exact Nat.or_lt_two_pow hx (Nat.pow_lt_pow_right (by decide) hi)
/-! ### sums, bit by bit -/
def bcarry (x y i : Nat) : Nat := (x % 2 ^ i + y % 2 ^ i) / 2 ^ i
def bsum (x y i : Nat) : Nat := (x % 2 ^ i + y % 2 ^ i) % 2 ^ i
theorem bsum_lt (x y i : Nat) : bsum x y i < 2 ^ i := Nat.mod_lt _ (Nat.pow_pos (by decide))
theorem bcarry_le (x y i : Nat) : bcarry x y i ≤ 1 := by
  have hP : 0 < 2 ^ i := Nat.pow_pos (by decide)
  have := Nat.mod_lt x hP; have := Nat.mod_lt y hP
  unfold bcarry
  have : (x % 2 ^ i + y % 2 ^ i) / 2 ^ i < 2 := by rw [Nat.div_lt_iff_lt_mul hP]; omega
  omega
theorem bzero (x y : Nat) : bcarry x y 0 = 0 ∧ bsum x y 0 = 0 := by simp [bcarry, bsum, Nat.mod_one]
theorem bnext (x y i : Nat) : x % 2 ^ (i + 1) + y % 2 ^ (i + 1) = 2 ^ i * (bit x i + bit y i + bcarry x y i) + bsum x y i := by
  rw [mod_next, mod_next]
  have := Nat.div_add_mod (x % 2 ^ i + y % 2 ^ i) (2 ^ i)
  unfold bcarry bsum
  rw [Nat.mul_add, Nat.mul_add]
  omega
theorem bcarry_next (x y i : Nat) : bcarry x y (i + 1) = (bit x i + bit y i + bcarry x y i) / 2 := by
  have h := bnext x y i
  have hl := bsum_lt x y i
  unfold bcarry at *
  rw [h, Nat.pow_succ, ← Nat.div_div_eq_div_mul, Nat.mul_add_div (Nat.pow_pos (by decide)), Nat.div_eq_of_lt hl, Nat.add_zero]
theorem bsum_next (x y i : Nat) : bsum x y (i + 1) = 2 ^ i * ((bit x i + bit y i + bcarry x y i) % 2) + bsum x y i := by
  have h := bnext x y i
  have hl := bsum_lt x y i
  have e : bsum x y (i + 1) = (2 ^ i * (bit x i + bit y i + bcarry x y i) + bsum x y i) % 2 ^ (i + 1) := by rw [← h]; rfl
  rw [e, Nat.pow_succ, Nat.mod_mul, Nat.mul_add_mod, Nat.mod_eq_of_lt hl, Nat.mul_add_div (Nat.pow_pos (by decide)), Nat.div_eq_of_lt hl, Nat.add_zero, Nat.add_comm]
theorem bsum_one {x y i : Nat} (h : (bit x i + bit y i + bcarry x y i) % 2 = 1) : bsum x y i ||| 2 ^ i = bsum x y (i + 1) := by
  rw [bsum_next, h, or_bit (bsum_lt x y i), Nat.mul_one]
theorem bsum_none {x y i : Nat} (h : (bit x i + bit y i + bcarry x y i) % 2 ≠ 1) : bsum x y i = bsum x y (i + 1) := by
  rw [bsum_next, show (bit x i + bit y i + bcarry x y i) % 2 = 0 by omega, Nat.mul_zero, Nat.zero_add]
theorem bsum_all {x y : Nat} (hx : x < big) (hy : y < big) : bsum x y 256 = (x + y) % big := by
  unfold bsum; rw [← big_eq, Nat.mod_eq_of_lt hx, Nat.mod_eq_of_lt hy]
theorem bcarry_all {x y : Nat} (hx : x < big) (hy : y < big) : bcarry x y 256 = (x + y) / big := by
  unfold bcarry; rw [← big_eq, Nat.mod_eq_of_lt hx, Nat.mod_eq_of_lt hy]
/-! ### how many bits -/
/-- x has n bits -/
def isLen (x n : Nat) : Prop := x < 2 ^ n ∧ (n ≠ 0 → 2 ^ (n - 1) ≤ x)
theorem isLen_le {x n m : Nat} (h : isLen x n) (k : x < 2 ^ m) : n ≤ m := by
  by_cases h0 : n = 0
  · omega
  · have := h.2 h0
    have : 2 ^ (n - 1) < 2 ^ m := Nat.lt_of_le_of_lt this k
    have := (Nat.pow_lt_pow_iff_right (show 1 < 2 by decide)).1 this
    omega
theorem isLen_uniq {x n m : Nat} (h : isLen x n) (k : isLen x m) : n = m := Nat.le_antisymm (isLen_le h k.1) (isLen_le k h.1)
def len (x : Nat) : Nat := if x = 0 then 0 else x.log2 + 1
theorem len_isLen (x : Nat) : isLen x (len x) := by
  unfold len isLen
  split
  · rename_i h; subst h; simp
  · rename_i h
    exact ⟨Nat.lt_log2_self, fun _ => by rw [Nat.add_sub_cancel]; exact Nat.log2_self_le h⟩
theorem len_of {x n : Nat} (h : isLen x n) : n = len x := isLen_uniq h (len_isLen x)
theorem len_le {x m : Nat} (k : x < 2 ^ m) : len x ≤ m := isLen_le (len_isLen x) k
theorem lt_len {x n : Nat} (h : len x ≤ n) : x < 2 ^ n := Nat.lt_of_lt_of_le (len_isLen x).1 (Nat.pow_le_pow_right (by decide) h)
theorem isLen_up {x k n : Nat} (h : isLen (x / 2 ^ k) n) (h0 : x / 2 ^ k ≠ 0) : isLen x (k + n) := by
  have hP : 0 < 2 ^ k := Nat.pow_pos (by decide)
  have hn : n ≠ 0 := fun e => by
    have := h.1; rw [e] at this; simp at this; exact h0 (Nat.div_eq_of_lt this)
  constructor
  · rw [Nat.pow_add, Nat.mul_comm]; exact (Nat.div_lt_iff_lt_mul hP).1 h.1
  · intro _
    rw [show k + n - 1 = n - 1 + k by omega, Nat.pow_add]
    exact (Nat.le_div_iff_mul_le hP).1 (h.2 hn)
theorem wd_top {x k : Nat} (h : x < 2 ^ (64 * (k + 1))) : wd x k = x / 2 ^ (64 * k) := by
  unfold wd
  have hP : 0 < 2 ^ (64 * k) := Nat.pow_pos (by decide)
  rw [pow_next] at h
  exact Nat.mod_eq_of_lt ((Nat.div_lt_iff_lt_mul hP).2 (by rw [Nat.mul_comm]; exact h))
theorem top_zero {x k : Nat} (h : x < 2 ^ (64 * (k + 1))) (h0 : wd x k = 0) : x < 2 ^ (64 * k) := by
  rw [wd_top h] at h0
  have hP : 0 < 2 ^ (64 * k) := Nat.pow_pos (by decide)
  rcases Nat.lt_or_ge x (2 ^ (64 * k)) with h | h
  · exact h
  · have := Nat.div_pos h hP; omega
/-! ### bytes -/
def byteAt (x i : Nat) : Nat := x / 2 ^ (8 * i) % 256
theorem byteAt_lt (x i : Nat) : byteAt x i < 256 := Nat.mod_lt _ (by decide)
theorem byteAt_testBit (x i j : Nat) : (byteAt x i).testBit j = (decide (j < 8) && x.testBit (8 * i + j)) := by
  unfold byteAt
  rw [show (256 : Nat) = 2 ^ 8 by decide, Nat.testBit_mod_two_pow, Nat.testBit_div_two_pow, Nat.add_comm]
theorem byteAt_wd (x i : Nat) : wd x (i / 8) / 2 ^ (8 * (i % 8)) % 256 = byteAt x i := by
  rw [show wd x (i / 8) / 2 ^ (8 * (i % 8)) % 256 = byteAt (wd x (i / 8)) (i % 8) from rfl]
  apply Nat.eq_of_testBit_eq
  intro j
  rw [byteAt_testBit, byteAt_testBit, wd_testBit]
  by_cases hj : j < 8
  · have h1 : 8 * (i % 8) + j < 64 := by omega
    have h2 : 64 * (i / 8) + (8 * (i % 8) + j) = 8 * i + j := by omega
    simp [hj, h1, h2]
  · simp [hj]
/-- a number out of the first k bytes -/
def unbytes (f : Nat → Nat) : Nat → Nat
  | 0 => 0
  | k + 1 => unbytes f k ||| f k <<< (8 * k)
theorem byte_high {v t : Nat} (hv : v < 256) (ht : 8 ≤ t) : v.testBit t = false := Nat.testBit_lt_two_pow (Nat.lt_of_lt_of_le hv (Nat.pow_le_pow_right (show 0 < 2 by decide) ht))
theorem unbytes_testBit (f : Nat → Nat) (hf : ∀ i, f i < 256) : ∀ (k m : Nat), (unbytes f k).testBit m = (decide (m < 8 * k) && (f (m / 8)).testBit (m % 8))
  | 0, m => by simp [unbytes]
  | k + 1, m => by
    rw [unbytes, Nat.testBit_or, unbytes_testBit f hf k m, Nat.testBit_shiftLeft]
    by_cases h : m < 8 * k
    · have h1 : m < 8 * (k + 1) := by omega
      have h2 : ¬ (8 * k ≤ m) := by omega
      simp [h, h1, h2]
    · by_cases h1 : m < 8 * (k + 1)
      · have h2 : 8 * k ≤ m := by omega
        have h3 : m / 8 = k := by omega
        have h4 : m - 8 * k = m % 8 := by omega
        simp [h, h1, h2, h3, h4]
      · have h2 : 8 * k ≤ m := by omega
        have h3 : (f k).testBit (m - 8 * k) = false := byte_high (hf k) (by omega)
        simp [h, h1, h3]
theorem unbytes_lt (f : Nat → Nat) (hf : ∀ i, f i < 256) : ∀ k, unbytes f k < 2 ^ (8 * k)
  | 0 => by simp [unbytes]
  | k + 1 => by
    apply Nat.lt_pow_two_of_testBit
    intro i hi
    rw [unbytes_testBit f hf]
    have : ¬ (i < 8 * (k + 1)) := by omega
    simp [this]
theorem byteAt_unbytes (f : Nat → Nat) (hf : ∀ i, f i < 256) {k i : Nat} (hi : i < k) : byteAt (unbytes f k) i = f i := by
  apply Nat.eq_of_testBit_eq
  intro j
  rw [byteAt_testBit, unbytes_testBit f hf]
  by_cases hj : j < 8
  · have h1 : 8 * i + j < 8 * k := by omega
    have h2 : (8 * i + j) / 8 = i := by omega
    have h3 : (8 * i + j) % 8 = j := by omega
    simp [hj, h1, h2, h3]
  · simp [hj, byte_high (hf i) (by omega : 8 ≤ j)]
theorem unbytes_byteAt {x : Nat} (hx : x < big) : unbytes (byteAt x) 32 = x := by
  apply Nat.eq_of_testBit_eq
  intro m
  rw [unbytes_testBit _ (byteAt_lt x), byteAt_testBit]
  by_cases hm : m < 8 * 32
  · have h1 : m % 8 < 8 := by omega
    have h2 : 8 * (m / 8) + m % 8 = m := by omega
    simp [hm, h1, h2]
  · have : x.testBit m = false := Nat.testBit_lt_two_pow (Nat.lt_of_lt_of_le hx (by rw [big_eq]; exact Nat.pow_le_pow_right (by decide) (by omega)))
    simp [hm, this]
theorem wd_orByte (x v i j : Nat) (hv : v < 256) : wd (x ||| v <<< (8 * i)) j = if j = i / 8 then wd x j ||| v <<< (8 * (i % 8)) else wd x j := by
  apply Nat.eq_of_testBit_eq
  intro m
  rw [wd_testBit, Nat.testBit_or, Nat.testBit_shiftLeft]
  split
  · rename_i h
    rw [Nat.testBit_or, Nat.testBit_shiftLeft, wd_testBit]
    by_cases hm : m < 64
    · have h1 : (64 * j + m ≥ 8 * i) ↔ (m ≥ 8 * (i % 8)) := by omega
      have h2 : 64 * j + m - 8 * i = m - 8 * (i % 8) := by omega
      simp [hm, h1, h2]
    · have h3 : v.testBit (m - 8 * (i % 8)) = false := byte_high hv (by omega)
      simp [hm, h3]
  · rename_i h
    rw [wd_testBit]
    by_cases hm : m < 64
    · by_cases hg : 64 * j + m ≥ 8 * i
      · have h3 : v.testBit (64 * j + m - 8 * i) = false := byte_high hv (by omega)
        simp [hm, h3]
      · simp [hm, hg]
    · simp [hm]
end Go.Proofs.Ytmemppkkchfphaa.Nm
