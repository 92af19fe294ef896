/-
  Plain mathematics of targets in short.
-/
import Derived.Test.YtmemppkkchfphaaMoveMath2
namespace Go.Proofs.Ytmemppkkchfphaa.Nm
theorem up_eq (x n : Nat) : up x n = x * 2 ^ n % big := by unfold up; rw [Nat.shiftLeft_eq]
theorem down_eq (x n : Nat) : down x n = x / 2 ^ n := by unfold down; rw [Nat.shiftRight_eq_div_pow]
/-- moved up by so many bytes; down, if they are below 0 -/
def mv (x : Nat) (b : Int) : Nat := if b < 0 then down x (8 * (-b).toNat) else up x (8 * b.toNat)
theorem mv_lt {x : Nat} (hx : x < big) (b : Int) : mv x b < big := by
  unfold mv; split
  · exact down_lt hx _
  · exact up_lt _ _
/-- what is read out of a target in short -/
def decN (bits : Nat) : Nat := mv (bits % 8388608) ((bits / 16777216 : Nat) - 3)
def decLow (bits : Nat) : Bool := decide (0 < bits % 8388608) && decide (bits / 8388608 % 2 = 1)
def decOver (bits : Nat) : Bool := decide (0 < bits % 8388608 ∧ 34 < bits / 16777216 ∨ 255 < bits % 8388608 ∧ 33 < bits / 16777216 ∨ 65535 < bits % 8388608 ∧ 32 < bits / 16777216)
/-- how many bytes a number has -/
def bl (x : Nat) : Nat := (len x + 7) / 8
/-- its three highest bytes -/
def top3 (x : Nat) : Nat := mv x (3 - (bl x : Nat)) % 18446744073709551616
def enc (x : Nat) : Nat := if top3 x < 8388608 then bl x * 16777216 + top3 x else (bl x + 1) * 16777216 + top3 x / 256
theorem len_pos {x : Nat} (h : x ≠ 0) : 0 < len x := by unfold len; rw [if_neg h]; omega
theorem len_zero : len 0 = 0 := rfl
theorem len_lo {x : Nat} (h : x ≠ 0) : 2 ^ (len x - 1) ≤ x := (len_isLen x).2 (by have := len_pos h; omega)
theorem len_hi (x : Nat) : x < 2 ^ len x := (len_isLen x).1
theorem len_mono {x y : Nat} (h : x ≤ y) : len x ≤ len y := len_le (Nat.lt_of_le_of_lt h (len_hi y))
theorem len_big {x : Nat} (hx : x < big) : len x ≤ 256 := len_le (by rw [← big_eq]; exact hx)
/-- how far the word of a target in short stands up -/
def far (x : Nat) : Nat := 8 * (len x / 8 - 2)
def word (x : Nat) : Nat := if len x / 8 ≤ 2 then x * 2 ^ (8 * (2 - len x / 8)) else x / 2 ^ far x
theorem pow_split {a b : Nat} (h : b ≤ a) : 2 ^ a = 2 ^ b * 2 ^ (a - b) := by rw [← Nat.pow_add]; congr 1; omega
theorem pow_le {a b : Nat} (h : a ≤ b) : 2 ^ a ≤ 2 ^ b := Nat.pow_le_pow_right (by decide) h
theorem word_lt {x : Nat} : word x < 8388608 := by
  have hi := len_hi x
  unfold word far
  split
  · rename_i h
    have h1 : x * 2 ^ (8 * (2 - len x / 8)) < 2 ^ len x * 2 ^ (8 * (2 - len x / 8)) := Nat.mul_lt_mul_of_pos_right hi (Nat.pow_pos (by decide))
    rw [← Nat.pow_add] at h1
    have h2 : 2 ^ (len x + 8 * (2 - len x / 8)) ≤ 2 ^ 23 := pow_le (by omega)
    omega
  · rename_i h
    rw [Nat.div_lt_iff_lt_mul (Nat.pow_pos (by decide))]
    have h2 : 2 ^ len x ≤ 2 ^ (23 + 8 * (len x / 8 - 2)) := pow_le (by omega)
    rw [Nat.pow_add] at h2
    omega
theorem word_ge {x : Nat} (h0 : x ≠ 0) : 32768 ≤ word x := by
  have lo := len_lo h0
  have hp := len_pos h0
  unfold word far
  split
  · rename_i h
    have h1 : 2 ^ (len x - 1) * 2 ^ (8 * (2 - len x / 8)) ≤ x * 2 ^ (8 * (2 - len x / 8)) := Nat.mul_le_mul_right _ lo
    rw [← Nat.pow_add] at h1
    have h2 : 2 ^ 15 ≤ 2 ^ (len x - 1 + 8 * (2 - len x / 8)) := pow_le (by omega)
    omega
  · rename_i h
    rw [Nat.le_div_iff_mul_le (Nat.pow_pos (by decide))]
    have h2 : 2 ^ (15 + 8 * (len x / 8 - 2)) ≤ 2 ^ (len x - 1) := pow_le (by omega)
    rw [Nat.pow_add] at h2
    omega
theorem div_pow (x a b : Nat) : x / 2 ^ a / 2 ^ b = x / 2 ^ (a + b) := by rw [Nat.div_div_eq_div_mul, ← Nat.pow_add]
theorem mul_pow (x a b : Nat) : x * 2 ^ a * 2 ^ b = x * 2 ^ (a + b) := by rw [Nat.mul_assoc, ← Nat.pow_add]
theorem mul_div_pow (x : Nat) {a b : Nat} (h : b ≤ a) : x * 2 ^ a / 2 ^ b = x * 2 ^ (a - b) := by
  rw [pow_split h, Nat.mul_comm (2 ^ b), ← Nat.mul_assoc, Nat.mul_div_cancel _ (Nat.pow_pos (by decide))]
/-- the three highest bytes, without wrapping -/
theorem top3_eq {x : Nat} : top3 x = if bl x ≤ 3 then x * 2 ^ (8 * (3 - bl x)) else x / 2 ^ (8 * (bl x - 3)) := by
  have hi := len_hi x
  have hb : 8 * bl x ≥ len x := by unfold bl; omega
  unfold top3 mv
  by_cases h : bl x ≤ 3
  · have h1 : x * 2 ^ (8 * (3 - bl x)) < 2 ^ 24 := by
      have h1 : x * 2 ^ (8 * (3 - bl x)) < 2 ^ len x * 2 ^ (8 * (3 - bl x)) := Nat.mul_lt_mul_of_pos_right hi (Nat.pow_pos (by decide))
      rw [← Nat.pow_add] at h1
      have h2 : 2 ^ (len x + 8 * (3 - bl x)) ≤ 2 ^ 24 := pow_le (by omega)
      omega
    rw [if_neg (by omega), if_pos h, show (3 - (bl x : Nat) : Int).toNat = 3 - bl x by omega, up_eq, Nat.mod_eq_of_lt (a := x * _) (by unfold big; omega), Nat.mod_eq_of_lt (by omega)]
  · rw [if_pos (by omega), if_neg h, show (-(3 - (bl x : Nat)) : Int).toNat = bl x - 3 by omega, down_eq, Nat.mod_eq_of_lt]
    rw [Nat.div_lt_iff_lt_mul (Nat.pow_pos (by decide))]
    have h2 : 2 ^ len x ≤ 2 ^ (24 + 8 * (bl x - 3)) := pow_le (by omega)
    rw [Nat.pow_add] at h2
    omega
theorem top3_small {x : Nat} : top3 x < 16777216 := by
  have hi := len_hi x
  have hb : 8 * bl x ≥ len x := by unfold bl; omega
  rw [top3_eq]
  by_cases h : bl x ≤ 3
  · rw [if_pos h]
    have h1 : x * 2 ^ (8 * (3 - bl x)) < 2 ^ len x * 2 ^ (8 * (3 - bl x)) := Nat.mul_lt_mul_of_pos_right hi (Nat.pow_pos (by decide))
    rw [← Nat.pow_add] at h1
    have h2 : 2 ^ (len x + 8 * (3 - bl x)) ≤ 2 ^ 24 := pow_le (by omega)
    omega
  · rw [if_neg h, Nat.div_lt_iff_lt_mul (Nat.pow_pos (by decide))]
    have h2 : 2 ^ len x ≤ 2 ^ (24 + 8 * (bl x - 3)) := pow_le (by omega)
    rw [Nat.pow_add] at h2
    omega
theorem enc_zero : enc 0 = 0 := by decide
theorem enc_eq {x : Nat} (h0 : x ≠ 0) : enc x = (len x / 8 + 1) * 16777216 + word x := by
  have lo := len_lo h0
  have hp := len_pos h0
  have hi := len_hi x
  have ht := top3_eq (x := x)
  by_cases h8 : len x % 8 = 0
  · -- the word's highest bit is set
    have hb : bl x = len x / 8 := by unfold bl; omega
    have hge : 8388608 ≤ top3 x := by
      rw [ht, hb]
      by_cases h : len x / 8 ≤ 3
      · rw [if_pos h]
        have h1 : 2 ^ (len x - 1) * 2 ^ (8 * (3 - len x / 8)) ≤ x * 2 ^ (8 * (3 - len x / 8)) := Nat.mul_le_mul_right _ lo
        rw [← Nat.pow_add] at h1
        have h2 : 2 ^ 23 ≤ 2 ^ (len x - 1 + 8 * (3 - len x / 8)) := pow_le (by omega)
        omega
      · rw [if_neg h, Nat.le_div_iff_mul_le (Nat.pow_pos (by decide))]
        have h2 : 2 ^ (23 + 8 * (len x / 8 - 3)) ≤ 2 ^ (len x - 1) := pow_le (by omega)
        rw [Nat.pow_add] at h2
        omega
    unfold enc
    rw [if_neg (by omega), hb]
    congr 1
    rw [ht, hb]
    unfold word far
    have e256 : (256 : Nat) = 2 ^ 8 := by decide
    by_cases h : len x / 8 ≤ 2
    · rw [if_pos (by omega), if_pos h, e256, mul_div_pow x (by omega)]; congr 2; omega
    · rw [if_neg h]
      by_cases h3 : len x / 8 = 3
      · rw [if_pos (by omega), h3, e256]; simp
      · rw [if_neg (by omega), e256, div_pow]; congr 2; omega
  · have hb : bl x = len x / 8 + 1 := by unfold bl; omega
    have hw : top3 x = word x := by
      rw [ht, hb]
      unfold word far
      by_cases h : len x / 8 ≤ 2
      · rw [if_pos (by omega), if_pos h]; congr 2; omega
      · rw [if_neg (by omega), if_neg h]; congr 2; try omega
    unfold enc
    rw [hw, if_pos word_lt, hb]
/-- rounded down to what is told in short -/
def rd (x : Nat) : Nat := x / 2 ^ far x * 2 ^ far x
theorem rd_le (x : Nat) : rd x ≤ x := Nat.div_mul_le_self _ _
theorem rd_lost (x : Nat) : x - rd x < 2 ^ far x := by
  have h := Nat.div_add_mod x (2 ^ far x)
  have := Nat.mod_lt x (show 0 < 2 ^ far x from Nat.pow_pos (by decide))
  unfold rd
  rw [Nat.mul_comm] at h
  omega
theorem rd_zero : rd 0 = 0 := by decide
theorem far_le {x : Nat} (hx : x < big) : far x ≤ 240 := by have := len_big hx; unfold far; omega
theorem far_lo {x : Nat} (h : far x ≠ 0) : 2 ^ (15 + far x) ≤ x := by
  have h0 : x ≠ 0 := fun e => by subst e; exact h rfl
  refine Nat.le_trans (pow_le ?_) (len_lo h0)
  unfold far at *; omega
theorem lost_small {x : Nat} (hx : x < big) : (x - rd x) * 2 ^ 15 < big ∧ (x ≠ rd x → (x - rd x) * 2 ^ 15 < x) := by
  have h := rd_lost x
  have h2 : (x - rd x) * 2 ^ 15 < 2 ^ far x * 2 ^ 15 := Nat.mul_lt_mul_of_pos_right h (by decide)
  rw [← Nat.pow_add] at h2
  by_cases hf : far x = 0
  · have e : rd x = x := by unfold rd; rw [hf]; simp
    rw [e, Nat.sub_self]
    exact ⟨by decide, fun h => absurd rfl h⟩
  · have h3 := far_lo hf
    rw [Nat.add_comm] at h3
    have := pow_le (far_le hx)
    exact ⟨by omega, fun _ => by omega⟩
/-- the bits that are told are kept: as long as the number -/
theorem rd_len {x : Nat} : len (rd x) = len x := by
  by_cases h0 : x = 0
  · subst h0; rfl
  refine (len_of ⟨Nat.lt_of_le_of_lt (rd_le x) (len_hi x), fun _ => ?_⟩).symm
  have lo := len_lo h0
  have hp := len_pos h0
  unfold rd
  have e : 2 ^ (len x - 1) = 2 ^ (len x - 1 - far x) * 2 ^ far x := by rw [← Nat.pow_add]; congr 1; unfold far; omega
  rw [e]
  refine Nat.mul_le_mul_right _ ?_
  rw [Nat.le_div_iff_mul_le (Nat.pow_pos (by decide)), ← e]
  exact lo
theorem rd_far {x : Nat} : far (rd x) = far x := by unfold far; rw [rd_len]
theorem rd_rd (x : Nat) : rd (rd x) = rd x := by
  show rd x / 2 ^ far (rd x) * 2 ^ far (rd x) = rd x
  rw [rd_far]; unfold rd
  rw [Nat.mul_div_cancel _ (Nat.pow_pos (by decide))]
theorem rd_word (x : Nat) : word (rd x) = word x := by
  unfold word
  rw [rd_len, rd_far]
  by_cases h : len x / 8 ≤ 2
  · rw [if_pos h, if_pos h]
    unfold rd far
    rw [show 8 * (len x / 8 - 2) = 0 by omega]; simp
  · rw [if_neg h, if_neg h]; unfold rd; rw [Nat.mul_div_cancel _ (Nat.pow_pos (by decide))]
theorem rd_ne {x : Nat} (h : x ≠ 0) : rd x ≠ 0 := by
  intro e
  have h1 := rd_len (x := x)
  rw [e, len_zero] at h1
  have := len_pos h
  omega
theorem enc_rd (x : Nat) : enc (rd x) = enc x := by
  by_cases h0 : x = 0
  · subst h0; rfl
  · rw [enc_eq h0, enc_eq (rd_ne h0), rd_len, rd_word]
theorem enc_parts {x : Nat} (h0 : x ≠ 0) : enc x / 16777216 = len x / 8 + 1 ∧ enc x % 8388608 = word x ∧ enc x / 8388608 % 2 = 0 := by
  have := word_lt (x := x)
  rw [enc_eq h0]
  omega
theorem dec_enc {x : Nat} (hx : x < big) : decN (enc x) = rd x := by
  by_cases h0 : x = 0
  · subst h0; decide
  obtain ⟨h1, h2, _⟩ := enc_parts h0
  unfold decN
  rw [h1, h2]
  unfold mv
  by_cases h : len x / 8 < 2
  · rw [if_pos (by omega), show (-(((len x / 8 + 1 : Nat) : Int) - 3)).toNat = 2 - len x / 8 by omega, down_eq]
    unfold word
    rw [if_pos (by omega), Nat.mul_div_cancel _ (Nat.pow_pos (by decide))]
    unfold rd far
    rw [show 8 * (len x / 8 - 2) = 0 by omega]; simp
  · rw [if_neg (by omega), show ((((len x / 8 + 1 : Nat) : Int) - 3)).toNat = len x / 8 - 2 by omega, up_eq]
    have hw : word x = x / 2 ^ far x := by
      unfold word
      by_cases h2 : len x / 8 ≤ 2
      · rw [if_pos h2]; unfold far; rw [show len x / 8 = 2 by omega]; simp
      · rw [if_neg h2]
    rw [hw]
    show rd x % big = rd x
    exact Nat.mod_eq_of_lt (Nat.lt_of_le_of_lt (rd_le x) hx)
theorem enc_low (x : Nat) : decLow (enc x) = false := by
  unfold decLow
  by_cases h0 : x = 0
  · subst h0; decide
  rw [(enc_parts h0).2.2]; simp
theorem enc_over {x : Nat} (hx : x < big) : decOver (enc x) = false := by
  unfold decOver
  by_cases h0 : x = 0
  · subst h0; decide
  obtain ⟨h1, h2, _⟩ := enc_parts h0
  rw [h1, h2]
  have hl := len_big hx
  refine decide_eq_false fun h => ?_
  obtain ⟨hw, h3⟩ : 65535 < word x ∧ 32 ≤ len x / 8 := by omega
  have : len x = 256 := by omega
  unfold word far at hw
  rw [this, if_neg (by decide)] at hw
  unfold big at hx
  omega
theorem enc_lt {x : Nat} (hx : x < big) : enc x < 4294967296 := by
  by_cases h0 : x = 0
  · subst h0; decide
  rw [enc_eq h0]
  have := word_lt (x := x)
  have := len_big hx
  omega
theorem rd_mono {x y : Nat} (h : x ≤ y) : rd x ≤ rd y := by
  have hl := len_mono h
  by_cases he : len x = len y
  · unfold rd far
    rw [he]
    exact Nat.mul_le_mul_right _ (Nat.div_le_div_right h)
  · have h1 := rd_le x
    have h2 := len_hi x
    have h0 : y ≠ 0 := fun e => by subst e; rw [len_zero] at *; omega
    have h3 := len_lo (rd_ne h0)
    rw [rd_len] at h3
    have h4 : 2 ^ len x ≤ 2 ^ (len y - 1) := pow_le (by omega)
    omega
theorem small_lt {v s : Nat} (hv : v < 8388608) (hs : s ≤ 28) : v * 2 ^ (8 * s) < big := by
  have h1 : v * 2 ^ (8 * s) < 2 ^ 23 * 2 ^ (8 * s) := Nat.mul_lt_mul_of_pos_right hv (Nat.pow_pos (by decide))
  rw [← Nat.pow_add] at h1
  have h2 : 2 ^ (23 + 8 * s) ≤ 2 ^ 256 := pow_le (by omega)
  rw [← big_eq] at h2
  omega
theorem rd_small {v s : Nat} (hv : v < 8388608) : rd (v * 2 ^ (8 * s)) = v * 2 ^ (8 * s) := by
  have h1 : len (v * 2 ^ (8 * s)) ≤ 23 + 8 * s := len_le (by
    rw [Nat.pow_add]; exact Nat.mul_lt_mul_of_pos_right hv (Nat.pow_pos (by decide)))
  have h2 : far (v * 2 ^ (8 * s)) ≤ 8 * s := by unfold far; omega
  unfold rd
  generalize far (v * 2 ^ (8 * s)) = k at *
  rw [mul_div_pow v h2, Nat.mul_assoc, ← Nat.pow_add, Nat.sub_add_cancel h2]
/-! ### the bytes, one by one -/
theorem bl_zero : bl 0 = 0 := rfl
theorem byte_part (x i : Nat) : down x (8 * i) % 256 = x / 2 ^ (8 * i) % 256 := by rw [down_eq]
theorem bl_step (x i : Nat) : bl (x % 2 ^ (8 * (i + 1))) = if 0 < x / 2 ^ (8 * i) % 256 then i + 1 else bl (x % 2 ^ (8 * i)) := by
  have e : x % 2 ^ (8 * (i + 1)) = x % 2 ^ (8 * i) + 2 ^ (8 * i) * (x / 2 ^ (8 * i) % 256) := by
    rw [show 8 * (i + 1) = 8 * i + 8 by omega, Nat.pow_add, Nat.mod_mul]
  have hm := Nat.mod_lt x (show 0 < 2 ^ (8 * i) from Nat.pow_pos (by decide))
  have hb := Nat.mod_lt (x / 2 ^ (8 * i)) (show 0 < 256 by decide)
  split
  · rename_i h
    have h1 : len (x % 2 ^ (8 * (i + 1))) ≤ 8 * (i + 1) := len_le (Nat.mod_lt _ (Nat.pow_pos (by decide)))
    have h2 : 8 * i < len (x % 2 ^ (8 * (i + 1))) := by
      rcases Nat.lt_or_ge (8 * i) (len (x % 2 ^ (8 * (i + 1)))) with h' | h'
      · exact h'
      · have h3 := lt_len h'
        rw [e] at h3
        have : 2 ^ (8 * i) * 1 ≤ 2 ^ (8 * i) * (x / 2 ^ (8 * i) % 256) := Nat.mul_le_mul_left _ h
        omega
    unfold bl; omega
  · rename_i h
    rw [e, show x / 2 ^ (8 * i) % 256 = 0 by omega]; simp
theorem bl_none (x : Nat) : bl (x % 2 ^ (8 * 0)) = 0 := by simp [Nat.mod_one, bl_zero]
theorem bl_all {x : Nat} (hx : x < big) : bl (x % 2 ^ (8 * 32)) = bl x := by rw [Nat.mod_eq_of_lt (by rw [show 2 ^ (8 * 32) = big by decide]; exact hx)]
theorem bl_le {x : Nat} (hx : x < big) : bl x ≤ 32 := by have := len_big hx; unfold bl; omega
end Go.Proofs.Ytmemppkkchfphaa.Nm
