import Init
namespace Go.Proofs.YthcebnfdapcllaaGreatDoor.NN.Nm
def wd (x i : Nat) : Nat := x / 2 ^ (64 * i) % 18446744073709551616
def big : Nat := 115792089237316195423570985008687907853269984665640564039457584007913129639936
theorem big_eq : big = 2 ^ 256 := by decide
theorem wd_lt (x i : Nat) : wd x i < 18446744073709551616 := Nat.mod_lt _ (by decide)
theorem wd0 (x : Nat) : wd x 0 = x % 18446744073709551616 := by simp [wd]
theorem wd1 (x : Nat) : wd x 1 = x / 18446744073709551616 % 18446744073709551616 := by simp [wd]
theorem wd2 (x : Nat) : wd x 2 = x / 340282366920938463463374607431768211456 % 18446744073709551616 := by simp [wd]
theorem wd3 (x : Nat) : wd x 3 = x / 6277101735386680763835789423207666416102355444464034512896 % 18446744073709551616 := by simp [wd]
theorem four {k : Nat} (h : k < 4) : k = 0 ∨ k = 1 ∨ k = 2 ∨ k = 3 := by omega
theorem wd_sum (x : Nat) (h : x < big) : x = wd x 0 + 18446744073709551616 * wd x 1 + 340282366920938463463374607431768211456 * wd x 2 + 6277101735386680763835789423207666416102355444464034512896 * wd x 3 := by
  rw [wd0, wd1, wd2, wd3]; unfold big at h; omega
theorem wd_inj {x y : Nat} (hx : x < big) (hy : y < big) (h : ∀ i, i < 4 → wd x i = wd y i) : x = y := by
  rw [wd_sum x hx, wd_sum y hy, h 0 (by omega), h 1 (by omega), h 2 (by omega), h 3 (by omega)]
def mk (f : Nat → Nat) : Nat := f 0 + 18446744073709551616 * f 1 + 340282366920938463463374607431768211456 * f 2 + 6277101735386680763835789423207666416102355444464034512896 * f 3
theorem wd_mk {f : Nat → Nat} (hf : ∀ i, i < 4 → f i < 18446744073709551616) {i : Nat} (hi : i < 4) : wd (mk f) i = f i := by
  have h0 := hf 0 (by omega); have h1 := hf 1 (by omega); have h2 := hf 2 (by omega); have h3 := hf 3 (by omega)
  unfold mk
  rcases four hi with rfl | rfl | rfl | rfl
  · rw [wd0]; omega
  · rw [wd1]; omega
  · rw [wd2]; omega
  · rw [wd3]; omega
theorem mk_lt {f : Nat → Nat} (hf : ∀ i, i < 4 → f i < 18446744073709551616) : mk f < big := by
  have h0 := hf 0 (by omega); have h1 := hf 1 (by omega); have h2 := hf 2 (by omega); have h3 := hf 3 (by omega)
  unfold mk big; omega
theorem wd_mod (x : Nat) {i : Nat} (hi : i < 4) : wd (x % big) i = wd x i := by
  unfold big
  rcases four hi with rfl | rfl | rfl | rfl
  · rw [wd0, wd0]; omega
  · rw [wd1, wd1]; omega
  · rw [wd2, wd2]; omega
  · rw [wd3, wd3]; omega
def carry (x y k : Nat) : Nat := (x % 2 ^ (64 * k) + y % 2 ^ (64 * k)) / 2 ^ (64 * k)
theorem carry_le (x y k : Nat) : carry x y k ≤ 1 := by
  have hP : 0 < 2 ^ (64 * k) := Nat.pow_pos (by decide)
  have := Nat.mod_lt x hP; have := Nat.mod_lt y hP
  unfold carry
  have : (x % 2 ^ (64 * k) + y % 2 ^ (64 * k)) / 2 ^ (64 * k) < 2 := by rw [Nat.div_lt_iff_lt_mul hP]; omega
  omega
theorem carry_zero (x y : Nat) : carry x y 0 = 0 := by simp [carry, Nat.mod_one]
theorem pow_next (k : Nat) : 2 ^ (64 * (k + 1)) = 2 ^ (64 * k) * 18446744073709551616 := by rw [show 64 * (k + 1) = 64 * k + 64 by omega, Nat.pow_add]
theorem carry_next (x y k : Nat) : carry x y (k + 1) = (wd x k + wd y k + carry x y k) / 18446744073709551616 := by
  unfold carry wd
  rw [pow_next]
  generalize 2 ^ (64 * k) = P
  rw [Nat.mod_mul, Nat.mod_mul, ← Nat.div_div_eq_div_mul]
  by_cases hP : P = 0
  · subst hP; simp
  · have h : (x % P + P * (x / P % 18446744073709551616) + (y % P + P * (y / P % 18446744073709551616))) / P = x / P % 18446744073709551616 + y / P % 18446744073709551616 + (x % P + y % P) / P := by
      rw [show x % P + P * (x / P % 18446744073709551616) + (y % P + P * (y / P % 18446744073709551616)) = P * (x / P % 18446744073709551616 + y / P % 18446744073709551616) + (x % P + y % P) by rw [Nat.mul_add]; omega,
        Nat.mul_add_div (by omega)]
    rw [h]
theorem wd_add (x y k : Nat) : wd (x + y) k = (wd x k + wd y k + carry x y k) % 18446744073709551616 := by
  unfold carry wd
  generalize hP0 : 2 ^ (64 * k) = P
  have hP : 0 < P := by rw [← hP0]; exact Nat.pow_pos (by decide)
  have h : (x + y) / P = x / P + y / P + (x % P + y % P) / P := by
    have e : x + y = P * (x / P + y / P) + (x % P + y % P) := by
      have := Nat.div_add_mod x P; have := Nat.div_add_mod y P; rw [Nat.mul_add]; omega
    conv => lhs; rw [e]
    rw [Nat.mul_add_div hP]
  rw [h]; omega
theorem carry_four {x y : Nat} (hx : x < big) (hy : y < big) : carry x y 4 = (x + y) / big := by
  unfold carry
  rw [show 2 ^ (64 * 4) = big from by decide, Nat.mod_eq_of_lt hx, Nat.mod_eq_of_lt hy]
def borrow (x y k : Nat) : Nat := if x % 2 ^ (64 * k) < y % 2 ^ (64 * k) then 1 else 0
theorem borrow_le (x y k : Nat) : borrow x y k ≤ 1 := by unfold borrow; split <;> omega
theorem borrow_zero (x y : Nat) : borrow x y 0 = 0 := by simp [borrow, Nat.mod_one]
theorem borrow_next (x y k : Nat) : borrow x y (k + 1) = if wd x k < wd y k + borrow x y k then 1 else 0 := by
  unfold borrow wd
  rw [pow_next]
  generalize hP0 : 2 ^ (64 * k) = P
  have hP : 0 < P := by rw [← hP0]; exact Nat.pow_pos (by decide)
  rw [Nat.mod_mul, Nat.mod_mul]
  have hx := Nat.mod_lt x hP; have hy := Nat.mod_lt y hP
  generalize x / P % 18446744073709551616 = a
  generalize y / P % 18446744073709551616 = b
  generalize x % P = c at *
  generalize y % P = d at *
  congr 1
  apply propext
  rcases Nat.lt_trichotomy a b with h | h | h
  · have : P * (a + 1) ≤ P * b := Nat.mul_le_mul_left P h
    rw [Nat.mul_add] at this
    constructor
    · intro _; split <;> omega
    · intro _; omega
  · subst h; constructor
    · intro _; split <;> omega
    · intro h; split at h <;> omega
  · have : P * (b + 1) ≤ P * a := Nat.mul_le_mul_left P h
    rw [Nat.mul_add] at this
    constructor
    · intro _; omega
    · intro h; split at h <;> omega
theorem wd_sub (x y : Nat) (hx : x < big) (hy : y < big) {k : Nat} (hk : k < 4) : wd (x + big - y) k = (wd x k + 18446744073709551616 - wd y k - borrow x y k) % 18446744073709551616 := by
  unfold borrow big at *
  rcases four hk with rfl | rfl | rfl | rfl
  · rw [wd0, wd0, wd0]; simp only [Nat.mul_zero, Nat.pow_zero, Nat.mod_one]; rw [if_neg (by omega)]; omega
  · rw [wd1, wd1, wd1]; simp only [Nat.mul_one, Nat.reducePow]; split <;> omega
  · rw [wd2, wd2, wd2]; simp only [Nat.reduceMul, Nat.reducePow]; split <;> omega
  · rw [wd3, wd3, wd3]; simp only [Nat.reduceMul, Nat.reducePow]; split <;> omega
theorem borrow_four {x y : Nat} (hx : x < big) (hy : y < big) : borrow x y 4 = if x < y then 1 else 0 := by
  unfold borrow
  rw [show 2 ^ (64 * 4) = big from by decide, Nat.mod_eq_of_lt hx, Nat.mod_eq_of_lt hy]
def over (x b k : Nat) : Nat := x % 2 ^ (64 * k) * b / 2 ^ (64 * k)
theorem over_zero (x b : Nat) : over x b 0 = 0 := by simp [over, Nat.mod_one]
theorem over_lt (x b k : Nat) (hb : 0 < b) : over x b k < b := by
  have hP : 0 < 2 ^ (64 * k) := Nat.pow_pos (by decide)
  unfold over
  rw [Nat.div_lt_iff_lt_mul hP, Nat.mul_comm b]
  exact Nat.mul_lt_mul_of_pos_right (Nat.mod_lt x hP) hb
theorem over_next (x b k : Nat) : over x b (k + 1) = (wd x k * b + over x b k) / 18446744073709551616 := by
  unfold over wd
  rw [pow_next]
  generalize hP0 : 2 ^ (64 * k) = P
  have hP : 0 < P := by rw [← hP0]; exact Nat.pow_pos (by decide)
  rw [Nat.mod_mul, ← Nat.div_div_eq_div_mul, Nat.add_mul, Nat.add_comm (x % P * b), Nat.mul_assoc, Nat.mul_add_div hP]
theorem wd_mul (x b k : Nat) : wd (x * b) k = (wd x k * b + over x b k) % 18446744073709551616 := by
  unfold over wd
  generalize hP0 : 2 ^ (64 * k) = P
  have hP : 0 < P := by rw [← hP0]; exact Nat.pow_pos (by decide)
  have h : x * b / P = x / P * b + x % P * b / P := by
    conv => lhs; rw [← Nat.div_add_mod x P, Nat.add_mul, Nat.mul_assoc, Nat.mul_add_div hP]
  rw [h, ← Nat.add_mod_mod, ← Nat.mod_add_mod, ← Nat.mod_mul_mod, Nat.mod_add_mod, Nat.add_mod_mod]
theorem over_four {x b : Nat} (hx : x < big) : over x b 4 = x * b / big := by
  unfold over
  rw [show 2 ^ (64 * 4) = big from by decide, Nat.mod_eq_of_lt hx]
def bit (x i : Nat) : Nat := x / 2 ^ i % 2
theorem bit_testBit (x i : Nat) : bit x i = (x.testBit i).toNat := by unfold bit; rw [Nat.toNat_testBit]
theorem wd_testBit (x i j : Nat) : (wd x i).testBit j = (decide (j < 64) && x.testBit (64 * i + j)) := by
  unfold wd
  rw [show (18446744073709551616 : Nat) = 2 ^ 64 by decide, Nat.testBit_mod_two_pow, Nat.testBit_div_two_pow]
  rw [Nat.add_comm]
theorem bit_wd (x i : Nat) : wd x (i / 64) / 2 ^ (i % 64) % 2 = bit x i := by
  rw [show wd x (i / 64) / 2 ^ (i % 64) % 2 = bit (wd x (i / 64)) (i % 64) from rfl, bit_testBit, bit_testBit, wd_testBit]
  have : i % 64 < 64 := Nat.mod_lt _ (by decide)
  rw [show 64 * (i / 64) + i % 64 = i from Nat.div_add_mod i 64]
  simp [this]
theorem bit_lt (x i : Nat) : bit x i < 2 := Nat.mod_lt _ (by decide)
theorem mod_next (x i : Nat) : x % 2 ^ (i + 1) = 2 ^ i * bit x i + x % 2 ^ i := by
  unfold bit; rw [Nat.pow_succ, Nat.mod_mul]; omega
theorem or_bit {x i : Nat} (h : x < 2 ^ i) : x ||| 2 ^ i = 2 ^ i + x := by
  have := Nat.two_pow_add_eq_or_of_lt h 1
  rw [Nat.mul_one] at this
  rw [this, Nat.or_comm]
theorem or_low {x i : Nat} (h : x % 2 ^ (i + 1) = 0) : x ||| 2 ^ i = x + 2 ^ i := by
  have h2 : 2 ^ i < 2 ^ (i + 1) := Nat.pow_lt_pow_right (by decide) (by omega)
  have := Nat.two_pow_add_eq_or_of_lt h2 (x / 2 ^ (i + 1))
  have e : 2 ^ (i + 1) * (x / 2 ^ (i + 1)) = x := by have := Nat.div_add_mod x (2 ^ (i + 1)); omega
  rw [e] at this
  exact this.symm
theorem wd_or (x i j : Nat) : wd (x ||| 2 ^ i) j = if j = i / 64 then wd x j ||| 2 ^ (i % 64) else wd x j := by
  apply Nat.eq_of_testBit_eq
  intro m
  rw [wd_testBit, Nat.testBit_or, Nat.testBit_two_pow]
  split
  · rename_i h
    rw [Nat.testBit_or, Nat.testBit_two_pow, wd_testBit]
    by_cases hm : m < 64
    · have : (i = 64 * j + m) ↔ (i % 64 = m) := by omega
      simp [hm, this]
    · have : ¬ (i % 64 = m) := by omega
      simp [hm, this]
  · rename_i h
    rw [wd_testBit]
    by_cases hm : m < 64
    · have : ¬ (i = 64 * j + m) := by omega
      simp [hm, this]
    · simp [hm]
def bcarry (x y i : Nat) : Nat := (x % 2 ^ i + y % 2 ^ i) / 2 ^ i
def bsum (x y i : Nat) : Nat := (x % 2 ^ i + y % 2 ^ i) % 2 ^ i
theorem bsum_lt (x y i : Nat) : bsum x y i < 2 ^ i := Nat.mod_lt _ (Nat.pow_pos (by decide))
theorem bcarry_le (x y i : Nat) : bcarry x y i ≤ 1 := by
  have hP : 0 < 2 ^ i := Nat.pow_pos (by decide)
  have := Nat.mod_lt x hP; have := Nat.mod_lt y hP
  unfold bcarry
  have : (x % 2 ^ i + y % 2 ^ i) / 2 ^ i < 2 := by rw [Nat.div_lt_iff_lt_mul hP]; omega
  omega
theorem bzero (x y : Nat) : bcarry x y 0 = 0 ∧ bsum x y 0 = 0 := by simp [bcarry, bsum, Nat.mod_one]
theorem bnext (x y i : Nat) : x % 2 ^ (i + 1) + y % 2 ^ (i + 1) = 2 ^ i * (bit x i + bit y i + bcarry x y i) + bsum x y i := by
  rw [mod_next, mod_next]
  have := Nat.div_add_mod (x % 2 ^ i + y % 2 ^ i) (2 ^ i)
  unfold bcarry bsum
  rw [Nat.mul_add, Nat.mul_add]
  omega
theorem bcarry_next (x y i : Nat) : bcarry x y (i + 1) = (bit x i + bit y i + bcarry x y i) / 2 := by
  have h := bnext x y i
  have hl := bsum_lt x y i
  unfold bcarry at *
  rw [h, Nat.pow_succ, ← Nat.div_div_eq_div_mul, Nat.mul_add_div (Nat.pow_pos (by decide)), Nat.div_eq_of_lt hl, Nat.add_zero]
theorem bsum_next (x y i : Nat) : bsum x y (i + 1) = 2 ^ i * ((bit x i + bit y i + bcarry x y i) % 2) + bsum x y i := by
  have h := bnext x y i
  have hl := bsum_lt x y i
  have e : bsum x y (i + 1) = (2 ^ i * (bit x i + bit y i + bcarry x y i) + bsum x y i) % 2 ^ (i + 1) := by rw [← h]; rfl
  rw [e, Nat.pow_succ, Nat.mod_mul, Nat.mul_add_mod, Nat.mod_eq_of_lt hl, Nat.mul_add_div (Nat.pow_pos (by decide)), Nat.div_eq_of_lt hl, Nat.add_zero, Nat.add_comm]
theorem bsum_one {x y i : Nat} (h : (bit x i + bit y i + bcarry x y i) % 2 = 1) : bsum x y i ||| 2 ^ i = bsum x y (i + 1) := by
  rw [bsum_next, h, or_bit (bsum_lt x y i), Nat.mul_one]
theorem bsum_none {x y i : Nat} (h : (bit x i + bit y i + bcarry x y i) % 2 ≠ 1) : bsum x y i = bsum x y (i + 1) := by
  rw [bsum_next, show (bit x i + bit y i + bcarry x y i) % 2 = 0 by omega, Nat.mul_zero, Nat.zero_add]
theorem bsum_all {x y : Nat} (hx : x < big) (hy : y < big) : bsum x y 256 = (x + y) % big := by
  unfold bsum; rw [← big_eq, Nat.mod_eq_of_lt hx, Nat.mod_eq_of_lt hy]
theorem bcarry_all {x y : Nat} (hx : x < big) (hy : y < big) : bcarry x y 256 = (x + y) / big := by
  unfold bcarry; rw [← big_eq, Nat.mod_eq_of_lt hx, Nat.mod_eq_of_lt hy]
def isLen (x n : Nat) : Prop := x < 2 ^ n ∧ (n ≠ 0 → 2 ^ (n - 1) ≤ x)
theorem isLen_le {x n m : Nat} (h : isLen x n) (k : x < 2 ^ m) : n ≤ m := by
  by_cases h0 : n = 0
  · omega
  · have := h.2 h0
    have : 2 ^ (n - 1) < 2 ^ m := Nat.lt_of_le_of_lt this k
    have := (Nat.pow_lt_pow_iff_right (show 1 < 2 by decide)).1 this
    omega
theorem isLen_uniq {x n m : Nat} (h : isLen x n) (k : isLen x m) : n = m := Nat.le_antisymm (isLen_le h k.1) (isLen_le k h.1)
def len (x : Nat) : Nat := if x = 0 then 0 else x.log2 + 1
theorem len_isLen (x : Nat) : isLen x (len x) := by
  unfold len isLen
  split
  · rename_i h; subst h; simp
  · rename_i h
    exact ⟨Nat.lt_log2_self, fun _ => by rw [Nat.add_sub_cancel]; exact Nat.log2_self_le h⟩
theorem len_of {x n : Nat} (h : isLen x n) : n = len x := isLen_uniq h (len_isLen x)
theorem len_le {x m : Nat} (k : x < 2 ^ m) : len x ≤ m := isLen_le (len_isLen x) k
theorem isLen_up {x k n : Nat} (h : isLen (x / 2 ^ k) n) (h0 : x / 2 ^ k ≠ 0) : isLen x (k + n) := by
  have hP : 0 < 2 ^ k := Nat.pow_pos (by decide)
  have hn : n ≠ 0 := fun e => by
    have := h.1; rw [e] at this; simp at this; exact h0 (Nat.div_eq_of_lt this)
  constructor
  · rw [Nat.pow_add, Nat.mul_comm]; exact (Nat.div_lt_iff_lt_mul hP).1 h.1
  · intro _
    rw [show k + n - 1 = n - 1 + k by omega, Nat.pow_add]
    exact (Nat.le_div_iff_mul_le hP).1 (h.2 hn)
theorem wd_top {x k : Nat} (h : x < 2 ^ (64 * (k + 1))) : wd x k = x / 2 ^ (64 * k) := by
  unfold wd
  have hP : 0 < 2 ^ (64 * k) := Nat.pow_pos (by decide)
  rw [pow_next] at h
  exact Nat.mod_eq_of_lt ((Nat.div_lt_iff_lt_mul hP).2 (by rw [Nat.mul_comm]; exact h))
theorem top_zero {x k : Nat} (h : x < 2 ^ (64 * (k + 1))) (h0 : wd x k = 0) : x < 2 ^ (64 * k) := by
  rw [wd_top h] at h0
  have hP : 0 < 2 ^ (64 * k) := Nat.pow_pos (by decide)
  rcases Nat.lt_or_ge x (2 ^ (64 * k)) with h | h
  · exact h
  · have := Nat.div_pos h hP; omega
def unbytes (f : Nat → Nat) : Nat → Nat
  | 0 => 0
  | k + 1 => unbytes f k ||| f k <<< (8 * k)
theorem byte_high {v t : Nat} (hv : v < 256) (ht : 8 ≤ t) : v.testBit t = false := Nat.testBit_lt_two_pow (Nat.lt_of_lt_of_le hv (Nat.pow_le_pow_right (show 0 < 2 by decide) ht))
theorem unbytes_testBit (f : Nat → Nat) (hf : ∀ i, f i < 256) : ∀ (k m : Nat), (unbytes f k).testBit m = (decide (m < 8 * k) && (f (m / 8)).testBit (m % 8))
  | 0, m => by simp [unbytes]
  | k + 1, m => by
    rw [unbytes, Nat.testBit_or, unbytes_testBit f hf k m, Nat.testBit_shiftLeft]
    by_cases h : m < 8 * k
    · have h1 : m < 8 * (k + 1) := by omega
      have h2 : ¬ (8 * k ≤ m) := by omega
      simp [h, h1, h2]
    · by_cases h1 : m < 8 * (k + 1)
      · have h2 : 8 * k ≤ m := by omega
        have h3 : m / 8 = k := by omega
        have h4 : m - 8 * k = m % 8 := by omega
        simp [h, h1, h2, h3, h4]
      · have h2 : 8 * k ≤ m := by omega
        have h3 : (f k).testBit (m - 8 * k) = false := byte_high (hf k) (by omega)
        simp [h, h1, h3]
theorem unbytes_lt (f : Nat → Nat) (hf : ∀ i, f i < 256) : ∀ k, unbytes f k < 2 ^ (8 * k)
  | 0 => by simp [unbytes]
  | k + 1 => by
    apply Nat.lt_pow_two_of_testBit
    intro i hi
    rw [unbytes_testBit f hf]
    have : ¬ (i < 8 * (k + 1)) := by omega
    simp [this]
theorem wd_orByte (x v i j : Nat) (hv : v < 256) : wd (x ||| v <<< (8 * i)) j = if j = i / 8 then wd x j ||| v <<< (8 * (i % 8)) else wd x j := by
  apply Nat.eq_of_testBit_eq
  intro m
  rw [wd_testBit, Nat.testBit_or, Nat.testBit_shiftLeft]
  split
  · rename_i h
    rw [Nat.testBit_or, Nat.testBit_shiftLeft, wd_testBit]
    by_cases hm : m < 64
    · have h1 : (64 * j + m ≥ 8 * i) ↔ (m ≥ 8 * (i % 8)) := by omega
      have h2 : 64 * j + m - 8 * i = m - 8 * (i % 8) := by omega
      simp [hm, h1, h2]
    · have h3 : v.testBit (m - 8 * (i % 8)) = false := byte_high hv (by omega)
      simp [hm, h3]
  · rename_i h
    rw [wd_testBit]
    by_cases hm : m < 64
    · by_cases hg : 64 * j + m ≥ 8 * i
      · have h3 : v.testBit (64 * j + m - 8 * i) = false := byte_high hv (by omega)
        simp [hm, h3]
      · simp [hm, hg]
    · simp [hm]
end Go.Proofs.YthcebnfdapcllaaGreatDoor.NN.Nm
namespace Go.Proofs.YthcebnfdapcllaaGreatDoor.NN.Nm
def bnot (x i : Nat) : Nat := 2 ^ i - 1 - x % 2 ^ i
theorem bnot_lt (x i : Nat) : bnot x i < 2 ^ i := by
  have : 0 < 2 ^ i := Nat.pow_pos (by decide)
  unfold bnot; omega
theorem bnot_zero (x : Nat) : bnot x 0 = 0 := by simp [bnot]
theorem bnot_next (x i : Nat) : bnot x (i + 1) = 2 ^ i * (1 - bit x i) + bnot x i := by
  have h := mod_next x i
  have hb := bit_lt x i
  have hl := Nat.mod_lt x (show 0 < 2 ^ i from Nat.pow_pos (by decide))
  unfold bnot
  rw [h, Nat.pow_succ]
  generalize 2 ^ i = P at *
  obtain h0 | h0 : bit x i = 0 ∨ bit x i = 1 := by omega
  · rw [h0]; omega
  · rw [h0]; omega
theorem bnot_none {x i : Nat} (h : bit x i = 0) : bnot x i ||| 2 ^ i = bnot x (i + 1) := by
  rw [bnot_next, h, or_bit (bnot_lt x i)]; omega
theorem bnot_one {x i : Nat} (h : bit x i ≠ 0) : bnot x i = bnot x (i + 1) := by
  have := bit_lt x i
  rw [bnot_next, show bit x i = 1 by omega]; omega
theorem bnot_all {x : Nat} (hx : x < big) : bnot x 256 = big - 1 - x := by
  unfold bnot; rw [← big_eq, Nat.mod_eq_of_lt hx]
theorem div_bit (x i : Nat) : x / 2 ^ i = 2 * (x / 2 ^ (i + 1)) + bit x i := by
  unfold bit
  rw [Nat.pow_succ, ← Nat.div_div_eq_div_mul]; omega
theorem top_same {x y j : Nat} (h : x / 2 ^ (j + 1) = y / 2 ^ (j + 1)) (hb : bit x j = bit y j) : x / 2 ^ j = y / 2 ^ j := by
  rw [div_bit x j, div_bit y j, h, hb]
theorem top_less {x y j : Nat} (h : x / 2 ^ (j + 1) = y / 2 ^ (j + 1)) (hb : bit x j < bit y j) : x < y := by
  rcases Nat.lt_or_ge x y with h' | h'
  · exact h'
  · have := Nat.div_le_div_right (c := 2 ^ j) h'
    rw [div_bit x j, div_bit y j, h] at this
    omega
theorem top_more {x y j : Nat} (h : x / 2 ^ (j + 1) = y / 2 ^ (j + 1)) (hb : bit y j < bit x j) : ¬ x < y := by
  have := top_less h.symm hb
  omega
theorem top_all {x y : Nat} (hx : x < big) (hy : y < big) : x / 2 ^ 256 = y / 2 ^ 256 := by
  rw [← big_eq, Nat.div_eq_of_lt hx, Nat.div_eq_of_lt hy]
theorem word_div (x k : Nat) : x / 2 ^ (64 * k) = 18446744073709551616 * (x / 2 ^ (64 * (k + 1))) + wd x k := by
  unfold wd
  rw [pow_next, ← Nat.div_div_eq_div_mul]; omega
theorem word_same {x y k : Nat} (h : x / 2 ^ (64 * (k + 1)) = y / 2 ^ (64 * (k + 1))) (hb : wd x k = wd y k) : x / 2 ^ (64 * k) = y / 2 ^ (64 * k) := by
  rw [word_div x k, word_div y k, h, hb]
theorem word_less {x y k : Nat} (h : x / 2 ^ (64 * (k + 1)) = y / 2 ^ (64 * (k + 1))) (hb : wd x k < wd y k) : x < y := by
  rcases Nat.lt_or_ge x y with h' | h'
  · exact h'
  · have := Nat.div_le_div_right (c := 2 ^ (64 * k)) h'
    rw [word_div x k, word_div y k, h] at this
    omega
def cmp (x y : Nat) : Int := if x < y then -1 else if y < x then 1 else 0
theorem cmp_word {x y k : Nat} (h : x / 2 ^ (64 * (k + 1)) = y / 2 ^ (64 * (k + 1))) (hb : wd x k ≠ wd y k) : cmp (wd x k) (wd y k) = cmp x y := by
  unfold cmp
  rcases Nat.lt_or_ge (wd x k) (wd y k) with h' | h'
  · rw [if_pos h', if_pos (word_less h h')]
  · have h2 := word_less h.symm (show wd y k < wd x k by omega)
    rw [if_neg (by omega), if_pos (by omega), if_neg (by omega), if_pos h2]
theorem cmp_zero {x y : Nat} (h : x / 2 ^ (64 * (0 + 1)) = y / 2 ^ (64 * (0 + 1))) : cmp (wd x 0) (wd y 0) = cmp x y := by
  by_cases hb : wd x 0 = wd y 0
  · have := word_same h hb
    simp at this
    subst this
    simp [cmp]
  · exact cmp_word h hb
end Go.Proofs.YthcebnfdapcllaaGreatDoor.NN.Nm
namespace Go.Proofs.YthcebnfdapcllaaGreatDoor.NN.Nm
def up (x n : Nat) : Nat := x <<< n % big
def down (x n : Nat) : Nat := x >>> n
theorem up_lt (x n : Nat) : up x n < big := Nat.mod_lt _ (by decide)
theorem down_lt {x : Nat} (hx : x < big) (n : Nat) : down x n < big := by
  unfold down; rw [Nat.shiftRight_eq_div_pow]; exact Nat.lt_of_le_of_lt (Nat.div_le_self _ _) hx
theorem up_testBit (x n i : Nat) : (up x n).testBit i = (decide (i < 256) && (decide (n ≤ i) && x.testBit (i - n))) := by
  unfold up
  rw [big_eq, Nat.testBit_mod_two_pow, Nat.testBit_shiftLeft]
theorem down_testBit (x n i : Nat) : (down x n).testBit i = x.testBit (n + i) := by
  unfold down; rw [Nat.testBit_shiftRight]
theorem wd_up_testBit (x n k j : Nat) (hk : k < 4) : (wd (up x n) k).testBit j = (decide (j < 64) && (decide (n ≤ 64 * k + j) && x.testBit (64 * k + j - n))) := by
  rw [wd_testBit, up_testBit]
  by_cases hj : j < 64
  · have : 64 * k + j < 256 := by omega
    simp [hj, this]
  · simp [hj]
theorem wd_down_testBit (x n k j : Nat) : (wd (down x n) k).testBit j = (decide (j < 64) && x.testBit (n + (64 * k + j))) := by
  rw [wd_testBit, down_testBit]
theorem mod64_testBit (v j : Nat) : (v % 18446744073709551616).testBit j = (decide (j < 64) && v.testBit j) := by
  rw [show (18446744073709551616 : Nat) = 2 ^ 64 by decide, Nat.testBit_mod_two_pow]
theorem wd_up (x n k : Nat) (hk : k < 4) (h : n / 64 < k) : wd (up x n) k = (wd x (k - n / 64) <<< (n % 64)) % 18446744073709551616 ||| wd x (k - n / 64 - 1) >>> (64 - n % 64) := by
  apply Nat.eq_of_testBit_eq
  intro j
  rw [wd_up_testBit x n k j hk, Nat.testBit_or, mod64_testBit, Nat.testBit_shiftLeft, Nat.testBit_shiftRight, wd_testBit, wd_testBit]
  have hm : n % 64 < 64 := Nat.mod_lt _ (by decide)
  by_cases hj : j < 64
  · by_cases h1 : n % 64 ≤ j
    · have h2 : n ≤ 64 * k + j := by omega
      have h3 : 64 * (k - n / 64) + (j - n % 64) = 64 * k + j - n := by omega
      have h4 : ¬ (64 - n % 64 + j < 64) := by omega
      have h5 : j - n % 64 < 64 := by omega
      simp [hj, h1, h2, h3, h4, h5]
    · have h2 : n ≤ 64 * k + j := by omega
      have h3 : 64 * (k - n / 64 - 1) + (64 - n % 64 + j) = 64 * k + j - n := by omega
      have h4 : 64 - n % 64 + j < 64 := by omega
      simp [hj, h1, h2, h3, h4]
  · have h4 : ¬ (64 - n % 64 + j < 64) := by omega
    simp [hj, h4]
theorem wd_up_low (x n k : Nat) (hk : k < 4) (h : n / 64 = k) : wd (up x n) k = (wd x (k - n / 64) <<< (n % 64)) % 18446744073709551616 := by
  apply Nat.eq_of_testBit_eq
  intro j
  rw [wd_up_testBit x n k j hk, mod64_testBit, Nat.testBit_shiftLeft, wd_testBit]
  have hm : n % 64 < 64 := Nat.mod_lt _ (by decide)
  by_cases hj : j < 64
  · by_cases h1 : n % 64 ≤ j
    · have h2 : n ≤ 64 * k + j := by omega
      have h3 : 64 * (k - n / 64) + (j - n % 64) = 64 * k + j - n := by omega
      have h5 : j - n % 64 < 64 := by omega
      simp [hj, h1, h2, h3, h5]
    · have h2 : ¬ (n ≤ 64 * k + j) := by omega
      simp [h1, h2]
  · simp [hj]
theorem wd_up_none (x n k : Nat) (hk : k < 4) (h : k < n / 64) : wd (up x n) k = 0 := by
  apply Nat.eq_of_testBit_eq
  intro j
  rw [wd_up_testBit x n k j hk, Nat.zero_testBit]
  by_cases hj : j < 64
  · have h2 : ¬ (n ≤ 64 * k + j) := by omega
    simp [h2]
  · simp [hj]
theorem wd_down (x n k : Nat) : wd (down x n) k = wd x (k + n / 64) >>> (n % 64) ||| (wd x (k + n / 64 + 1) <<< (64 - n % 64)) % 18446744073709551616 := by
  apply Nat.eq_of_testBit_eq
  intro j
  rw [wd_down_testBit, Nat.testBit_or, mod64_testBit, Nat.testBit_shiftLeft, Nat.testBit_shiftRight, wd_testBit, wd_testBit]
  have hm : n % 64 < 64 := Nat.mod_lt _ (by decide)
  by_cases hj : j < 64
  · by_cases h1 : n % 64 + j < 64
    · have h3 : 64 * (k + n / 64) + (n % 64 + j) = n + (64 * k + j) := by omega
      have h4 : ¬ (64 - n % 64 ≤ j) := by omega
      simp [hj, h1, h3, h4]
    · have h3 : 64 * (k + n / 64 + 1) + (j - (64 - n % 64)) = n + (64 * k + j) := by omega
      have h4 : 64 - n % 64 ≤ j := by omega
      have h5 : j - (64 - n % 64) < 64 := by omega
      simp [hj, h1, h3, h4, h5]
  · have h1 : ¬ (n % 64 + j < 64) := by omega
    simp [hj, h1]
theorem big_bit {x : Nat} (hx : x < big) {i : Nat} (hi : 256 ≤ i) : x.testBit i = false :=
  Nat.testBit_lt_two_pow (Nat.lt_of_lt_of_le hx (by rw [big_eq]; exact Nat.pow_le_pow_right (by decide) hi))
theorem wd_down_top {x : Nat} (hx : x < big) (n k : Nat) (h : k + n / 64 = 3) : wd (down x n) k = wd x (k + n / 64) >>> (n % 64) := by
  apply Nat.eq_of_testBit_eq
  intro j
  rw [wd_down_testBit, Nat.testBit_shiftRight, wd_testBit]
  have hm : n % 64 < 64 := Nat.mod_lt _ (by decide)
  by_cases hj : j < 64
  · by_cases h1 : n % 64 + j < 64
    · have h3 : 64 * (k + n / 64) + (n % 64 + j) = n + (64 * k + j) := by omega
      simp [hj, h1, h3]
    · have h3 := big_bit hx (show 256 ≤ n + (64 * k + j) by omega)
      simp [h1, h3]
  · have h1 : ¬ (n % 64 + j < 64) := by omega
    simp [hj, h1]
theorem wd_down_none {x : Nat} (hx : x < big) (n k : Nat) (h : 4 ≤ k + n / 64) : wd (down x n) k = 0 := by
  apply Nat.eq_of_testBit_eq
  intro j
  rw [wd_down_testBit, Nat.zero_testBit]
  have h3 := big_bit hx (show 256 ≤ n + (64 * k + j) by omega)
  simp [h3]
theorem up_zero {x : Nat} (hx : x < big) : up x 0 = x := by simp [up, Nat.mod_eq_of_lt hx]
theorem down_zero (x : Nat) : down x 0 = x := by simp [down]
theorem up_add (x n m : Nat) : up (up x n) m = up x (n + m) := by
  apply Nat.eq_of_testBit_eq
  intro i
  rw [up_testBit, up_testBit, up_testBit]
  by_cases hi : i < 256
  · by_cases h1 : m ≤ i
    · have h2 : i - m < 256 := by omega
      have h3 : i - m - n = i - (n + m) := by omega
      have h4 : (n ≤ i - m) ↔ (n + m ≤ i) := by omega
      simp [hi, h1, h2, h3, h4]
    · have h2 : ¬ (n + m ≤ i) := by omega
      simp [h1, h2]
  · simp [hi]
theorem down_add (x n m : Nat) : down (down x n) m = down x (n + m) := by
  unfold down; rw [Nat.shiftRight_add]
theorem up_big (x : Nat) {n : Nat} (h : 256 ≤ n) : up x n = 0 := by
  apply Nat.eq_of_testBit_eq
  intro i
  rw [up_testBit, Nat.zero_testBit]
  by_cases hi : i < 256
  · have h2 : ¬ (n ≤ i) := by omega
    simp [h2]
  · simp [hi]
theorem down_big {x : Nat} (hx : x < big) {n : Nat} (h : 256 ≤ n) : down x n = 0 := by
  apply Nat.eq_of_testBit_eq
  intro i
  rw [down_testBit, Nat.zero_testBit, big_bit hx (by omega)]
end Go.Proofs.YthcebnfdapcllaaGreatDoor.NN.Nm
namespace Go.Proofs.YthcebnfdapcllaaGreatDoor.NN.Nm
theorem wd_up64 (y : Nat) : wd (up y 64) 0 = 0 ∧ wd (up y 64) 1 = wd y 0 ∧ wd (up y 64) 2 = wd y 1 ∧ wd (up y 64) 3 = wd y 2 := by
  refine ⟨wd_up_none y 64 0 (by omega) (by omega), ?_, ?_, ?_⟩
  · rw [wd_up_low y 64 1 (by omega) (by omega)]; simp; exact wd_lt y 0
  · rw [wd_up y 64 2 (by omega) (by omega)]
    have h1 : wd y 0 >>> 64 = 0 := Nat.shiftRight_eq_zero _ _ (wd_lt y 0)
    simp [h1]; exact wd_lt y 1
  · rw [wd_up y 64 3 (by omega) (by omega)]
    have h1 : wd y 1 >>> 64 = 0 := Nat.shiftRight_eq_zero _ _ (wd_lt y 1)
    simp [h1]; exact wd_lt y 2
theorem wd_down64 {y : Nat} (hy : y < big) : wd (down y 64) 0 = wd y 1 ∧ wd (down y 64) 1 = wd y 2 ∧ wd (down y 64) 2 = wd y 3 ∧ wd (down y 64) 3 = 0 := by
  have z : ∀ v : Nat, v <<< 64 % 18446744073709551616 = 0 := fun v => by rw [Nat.shiftLeft_eq]; omega
  refine ⟨?_, ?_, ?_, wd_down_none hy 64 3 (by omega)⟩
  · rw [wd_down y 64 0]; simp [z]
  · rw [wd_down y 64 1]; simp [z]
  · rw [wd_down_top hy 64 2 (by omega)]; simp
theorem add_up (a b m : Nat) (hm : m ≤ 64) (hb : b < 18446744073709551616) : a <<< m % 18446744073709551616 + b >>> (64 - m) = a <<< m % 18446744073709551616 ||| b >>> (64 - m) := by
  have h1 : b >>> (64 - m) < 2 ^ m := by
    rw [Nat.shiftRight_eq_div_pow, Nat.div_lt_iff_lt_mul (Nat.pow_pos (by decide)), ← Nat.pow_add, show m + (64 - m) = 64 by omega]; exact hb
  have h2 : a <<< m % 18446744073709551616 = 2 ^ m * (a % 2 ^ (64 - m)) := by
    rw [Nat.shiftLeft_eq, Nat.mul_comm, show (18446744073709551616 : Nat) = 2 ^ m * 2 ^ (64 - m) by rw [← Nat.pow_add, show m + (64 - m) = 64 by omega], Nat.mul_mod_mul_left]
  rw [h2, Nat.two_pow_add_eq_or_of_lt h1]
theorem add_down (a b m : Nat) (hm : m ≤ 64) (ha : a < 18446744073709551616) : a >>> m + b <<< (64 - m) % 18446744073709551616 = a >>> m ||| b <<< (64 - m) % 18446744073709551616 := by
  have := add_up b a (64 - m) (by omega) ha
  rw [show 64 - (64 - m) = m by omega] at this
  rw [Nat.add_comm, this, Nat.or_comm]
theorem or_lt64 {a b : Nat} (ha : a < 18446744073709551616) (hb : b < 18446744073709551616) : (a ||| b) < 18446744073709551616 := Nat.or_lt_two_pow (n := 64) ha hb
end Go.Proofs.YthcebnfdapcllaaGreatDoor.NN.Nm
namespace Go.Proofs.YthcebnfdapcllaaGreatDoor.NN.Nm
theorem up_eq (x n : Nat) : up x n = x * 2 ^ n % big := by unfold up; rw [Nat.shiftLeft_eq]
theorem down_eq (x n : Nat) : down x n = x / 2 ^ n := by unfold down; rw [Nat.shiftRight_eq_div_pow]
def mv (x : Nat) (b : Int) : Nat := if b < 0 then down x (8 * (-b).toNat) else up x (8 * b.toNat)
theorem mv_lt {x : Nat} (hx : x < big) (b : Int) : mv x b < big := by
  unfold mv; split
  · exact down_lt hx _
  · exact up_lt _ _
def decN (bits : Nat) : Nat := mv (bits % 8388608) ((bits / 16777216 : Nat) - 3)
def decLow (bits : Nat) : Bool := decide (0 < bits % 8388608) && decide (bits / 8388608 % 2 = 1)
def decOver (bits : Nat) : Bool := decide (0 < bits % 8388608 ∧ 34 < bits / 16777216 ∨ 255 < bits % 8388608 ∧ 33 < bits / 16777216 ∨ 65535 < bits % 8388608 ∧ 32 < bits / 16777216)
def bl (x : Nat) : Nat := (len x + 7) / 8
def top3 (x : Nat) : Nat := mv x (3 - (bl x : Nat)) % 18446744073709551616
def enc (x : Nat) : Nat := if top3 x < 8388608 then bl x * 16777216 + top3 x else (bl x + 1) * 16777216 + top3 x / 256
theorem len_hi (x : Nat) : x < 2 ^ len x := (len_isLen x).1
theorem len_big {x : Nat} (hx : x < big) : len x ≤ 256 := len_le (by rw [← big_eq]; exact hx)
theorem pow_le {a b : Nat} (h : a ≤ b) : 2 ^ a ≤ 2 ^ b := Nat.pow_le_pow_right (by decide) h
theorem top3_eq {x : Nat} : top3 x = if bl x ≤ 3 then x * 2 ^ (8 * (3 - bl x)) else x / 2 ^ (8 * (bl x - 3)) := by
  have hi := len_hi x
  have hb : 8 * bl x ≥ len x := by unfold bl; omega
  unfold top3 mv
  by_cases h : bl x ≤ 3
  · have h1 : x * 2 ^ (8 * (3 - bl x)) < 2 ^ 24 := by
      have h1 : x * 2 ^ (8 * (3 - bl x)) < 2 ^ len x * 2 ^ (8 * (3 - bl x)) := Nat.mul_lt_mul_of_pos_right hi (Nat.pow_pos (by decide))
      rw [← Nat.pow_add] at h1
      have h2 : 2 ^ (len x + 8 * (3 - bl x)) ≤ 2 ^ 24 := pow_le (by omega)
      omega
    rw [if_neg (by omega), if_pos h, show (3 - (bl x : Nat) : Int).toNat = 3 - bl x by omega, up_eq, Nat.mod_eq_of_lt (a := x * _) (by unfold big; omega), Nat.mod_eq_of_lt (by omega)]
  · rw [if_pos (by omega), if_neg h, show (-(3 - (bl x : Nat)) : Int).toNat = bl x - 3 by omega, down_eq, Nat.mod_eq_of_lt]
    rw [Nat.div_lt_iff_lt_mul (Nat.pow_pos (by decide))]
    have h2 : 2 ^ len x ≤ 2 ^ (24 + 8 * (bl x - 3)) := pow_le (by omega)
    rw [Nat.pow_add] at h2
    omega
theorem top3_small {x : Nat} : top3 x < 16777216 := by
  have hi := len_hi x
  have hb : 8 * bl x ≥ len x := by unfold bl; omega
  rw [top3_eq]
  by_cases h : bl x ≤ 3
  · rw [if_pos h]
    have h1 : x * 2 ^ (8 * (3 - bl x)) < 2 ^ len x * 2 ^ (8 * (3 - bl x)) := Nat.mul_lt_mul_of_pos_right hi (Nat.pow_pos (by decide))
    rw [← Nat.pow_add] at h1
    have h2 : 2 ^ (len x + 8 * (3 - bl x)) ≤ 2 ^ 24 := pow_le (by omega)
    omega
  · rw [if_neg h, Nat.div_lt_iff_lt_mul (Nat.pow_pos (by decide))]
    have h2 : 2 ^ len x ≤ 2 ^ (24 + 8 * (bl x - 3)) := pow_le (by omega)
    rw [Nat.pow_add] at h2
    omega
theorem bl_le {x : Nat} (hx : x < big) : bl x ≤ 32 := by have := len_big hx; unfold bl; omega
end Go.Proofs.YthcebnfdapcllaaGreatDoor.NN.Nm
namespace Go.Proofs.YthcebnfdapcllaaGreatDoor.NN.Nm
structure QI (a b t out rest : Nat) : Prop where
  sum : a = out * b + rest
  low : out % 2 ^ t = 0
  rest : rest < b * 2 ^ t
theorem QI.take {a b i out rest : Nat} (h : QI a b (i + 1) out rest) (hd : b * 2 ^ i ≤ rest) : QI a b i (out ||| 2 ^ i) (rest - b * 2 ^ i) := by
  have hlow := h.low
  have hrest := h.rest
  rw [or_low h.low]
  have hp : 2 ^ (i + 1) = 2 ^ i * 2 := Nat.pow_succ 2 i
  refine ⟨?_, ?_, ?_⟩
  · rw [Nat.add_mul, Nat.mul_comm (2 ^ i)]; have := h.sum; omega
  · have h1 : out % 2 ^ i = 0 := by
      rw [hp] at hlow
      have := Nat.mod_mul_right_mod out (2 ^ i) 2
      rw [hlow] at this
      simpa using this.symm
    rw [Nat.add_mod_right, h1]
  · rw [hp, ← Nat.mul_assoc] at hrest; omega
theorem QI.skip {a b i out rest : Nat} (h : QI a b (i + 1) out rest) (hd : rest < b * 2 ^ i) : QI a b i out rest := by
  have hlow := h.low
  refine ⟨h.sum, ?_, hd⟩
  rw [Nat.pow_succ] at hlow
  have := Nat.mod_mul_right_mod out (2 ^ i) 2
  rw [hlow] at this
  simpa using this.symm
theorem QI.done {a b out rest : Nat} (h : QI a b 0 out rest) : out = a / b ∧ rest = a % b := by
  have hr := h.rest
  rw [Nat.pow_zero, Nat.mul_one] at hr
  have hb : 0 < b := by omega
  constructor
  · rw [h.sum, Nat.mul_comm, Nat.mul_add_div hb, Nat.div_eq_of_lt hr, Nat.add_zero]
  · rw [h.sum, Nat.mul_comm, Nat.mul_add_mod, Nat.mod_eq_of_lt hr]
theorem QI.rest_le {a b t out rest : Nat} (h : QI a b t out rest) : rest ≤ a := by have := h.sum; omega
theorem QI.start {a b : Nat} (t : Nat) (h : a < b * 2 ^ t) : QI a b t 0 a := ⟨by omega, Nat.zero_mod _, h⟩
theorem up_small {x n : Nat} (h : x * 2 ^ n < big) : up x n = x * 2 ^ n := by
  unfold up; rw [Nat.shiftLeft_eq, Nat.mod_eq_of_lt h]
theorem quo_start {a b : Nat} (hl : len b ≤ len a) : a < b * 2 ^ (len a - len b + 1) ∨ b = 0 := by
  by_cases hb : b = 0
  · exact .inr hb
  · left
    have h1 := (len_isLen a).1
    have hlb : len b ≠ 0 := fun e => by have := (len_isLen b).1; rw [e] at this; simp at this; exact hb this
    have h2 := (len_isLen b).2 hlb
    have h3 : 2 ^ (len b - 1) * 2 ^ (len a - len b + 1) = 2 ^ len a := by rw [← Nat.pow_add]; congr 1; omega
    have h4 : 2 ^ (len b - 1) * 2 ^ (len a - len b + 1) ≤ b * 2 ^ (len a - len b + 1) := Nat.mul_le_mul_right _ h2
    omega
theorem quo_small {a b : Nat} (ha : a < big) (hl : len b ≤ len a) {k : Nat} (hk : k ≤ len a - len b) : b * 2 ^ k < big := by
  have h1 := (len_isLen b).1
  have h2 : len a ≤ 256 := len_le (by rw [← big_eq]; exact ha)
  have h3 : b * 2 ^ k < 2 ^ len b * 2 ^ k := Nat.mul_lt_mul_of_pos_right h1 (Nat.pow_pos (by decide))
  rw [← Nat.pow_add] at h3
  rw [big_eq]
  exact Nat.lt_of_lt_of_le h3 (Nat.pow_le_pow_right (by decide) (by omega))
theorem quo_less {a b : Nat} (hl : len a < len b) : a < b := by
  have h1 := (len_isLen a).1
  have h2 := (len_isLen b).2 (by omega)
  have h3 : 2 ^ len a ≤ 2 ^ (len b - 1) := Nat.pow_le_pow_right (by decide) (by omega)
  omega
end Go.Proofs.YthcebnfdapcllaaGreatDoor.NN.Nm
