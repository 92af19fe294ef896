/-
  Plain mathematics of a division of two words by one, digit by digit (digits of 32 bits).
-/
import Derived.Test.YtmemppkkchfphaaQuoMath
import Derived.Test.YtmemppkkchfphaaWLen
namespace Go.Proofs.Ytmemppkkchfphaa.Nm
open Go
/-- one digit is sought: u·2^32 + d divided by y1·2^32 + y0; q is not below it, and r is what is left -/
structure KI (u d y1 y0 q r : Nat) : Prop where
  sum : q * y1 + r = u
  ge : (u * 4294967296 + d) / (y1 * 4294967296 + y0) ≤ q
  le : q ≤ 4294967297
structure KY (u d y1 y0 : Nat) : Prop where
  h1 : 2147483648 ≤ y1
  h2 : y1 < 4294967296
  h0 : y0 < 4294967296
  hd : d < 4294967296
  hu : u < y1 * 4294967296 + y0
theorem KI.below {u d y1 y0 q r : Nat} (k : KY u d y1 y0) (h : KI u d y1 y0 q r) : q ≤ (u * 4294967296 + d) / (y1 * 4294967296 + y0) ↔ q * y0 ≤ 4294967296 * r + d := by
  have h1 := k.h1
  rw [Nat.le_div_iff_mul_le (by omega), Nat.mul_add, ← Nat.mul_assoc, ← h.sum, Nat.add_mul]
  generalize q * y1 = z
  generalize q * y0 = z0
  omega
theorem KY.lt {u d y1 y0 : Nat} (k : KY u d y1 y0) : (u * 4294967296 + d) / (y1 * 4294967296 + y0) < 4294967296 := by
  have h1 := k.h1
  have hd := k.hd
  have hu := k.hu
  rw [Nat.div_lt_iff_lt_mul (by omega)]
  omega
theorem KI.more {u d y1 y0 q r : Nat} (k : KY u d y1 y0) (h : KI u d y1 y0 q r) (hc : 4294967296 ≤ q ∨ 4294967296 * r + d < q * y0) : (u * 4294967296 + d) / (y1 * 4294967296 + y0) < q := by
  rcases hc with hc | hc
  · have := k.lt; omega
  · exact Nat.lt_of_not_le fun hh => by have := (h.below k).1 hh; omega
theorem KI.next {u d y1 y0 q r : Nat} (k : KY u d y1 y0) (h : KI u d y1 y0 q r) (hc : 4294967296 ≤ q ∨ 4294967296 * r + d < q * y0) : KI u d y1 y0 (q - 1) (r + y1) := by
  have hm := h.more k hc
  have hq : 0 < q := Nat.lt_of_le_of_lt (Nat.zero_le _) hm
  obtain ⟨p, rfl⟩ : ∃ p, q = p + 1 := ⟨q - 1, by omega⟩
  refine ⟨?_, Nat.le_of_lt_succ hm, by have := h.le; omega⟩
  have := h.sum
  rw [Nat.succ_mul] at this
  simp only [Nat.add_sub_cancel]
  omega
theorem KI.stop {u d y1 y0 q r : Nat} (k : KY u d y1 y0) (h : KI u d y1 y0 q r) (hc : q * y0 ≤ 4294967296 * r + d) : q = (u * 4294967296 + d) / (y1 * 4294967296 + y0) := by
  have := (h.below k).2 hc
  have := h.ge
  omega
theorem KI.leave {u d y1 y0 q r : Nat} (k : KY u d y1 y0) (h : KI u d y1 y0 q r) (hr : 4294967296 ≤ r) (hq : q ≤ 4294967296) : q = (u * 4294967296 + d) / (y1 * 4294967296 + y0) := by
  refine h.stop k ?_
  have h0 := k.h0
  have : q * y0 ≤ 4294967296 * 4294967296 := Nat.mul_le_mul hq (by omega)
  omega
theorem KY.start {u d y1 y0 : Nat} (k : KY u d y1 y0) : KI u d y1 y0 (u / y1) (u % y1) := by
  have h1 := k.h1
  have h0 := k.h0
  have hu := k.hu
  have hd := k.hd
  refine ⟨Nat.div_add_mod' _ _, ?_, ?_⟩
  · have e1 : (u * 4294967296 + d) / (y1 * 4294967296 + y0) ≤ (u * 4294967296 + d) / (4294967296 * y1) := Nat.div_le_div_left (by omega) (by omega)
    rw [← Nat.div_div_eq_div_mul, show (u * 4294967296 + d) / 4294967296 = u by omega] at e1
    exact e1
  · have : u / y1 < 4294967298 := (Nat.div_lt_iff_lt_mul (by omega)).2 (by omega)
    omega
/-- what one digit leaves, in arithmetic of 64 bits -/
theorem digit_left {u d y q : Nat} (hy : 0 < y) (hy2 : y < 18446744073709551616) (hq : q = (u * 4294967296 + d) / y) :
    IntKind.u64.wrap (IntKind.u64.wrap (IntKind.u64.wrap ((u : Int) * 4294967296) + (d : Int)) - IntKind.u64.wrap ((q : Int) * (y : Int))) = (((u * 4294967296 + d) % y : Nat) : Int) := by
  have e := Nat.div_add_mod' (u * 4294967296 + d) y
  rw [← hq] at e
  have hl := Nat.mod_lt (u * 4294967296 + d) hy
  generalize (u * 4294967296 + d) % y = r at *
  rw [IntKind.wrap_u64, IntKind.wrap_u64, IntKind.wrap_u64, IntKind.wrap_u64]
  rw [← Int.natCast_mul q y]
  generalize q * y = z at *
  omega
/-- the two digits together -/
theorem two_digits {u d1 d0 y : Nat} (hy : 0 < y) :
    (u * 18446744073709551616 + d1 * 4294967296 + d0) / y = (u * 4294967296 + d1) / y * 4294967296 + ((u * 4294967296 + d1) % y * 4294967296 + d0) / y ∧
    (u * 18446744073709551616 + d1 * 4294967296 + d0) % y = ((u * 4294967296 + d1) % y * 4294967296 + d0) % y := by
  have e : u * 18446744073709551616 + d1 * 4294967296 + d0 = y * ((u * 4294967296 + d1) / y * 4294967296) + ((u * 4294967296 + d1) % y * 4294967296 + d0) := by
    have h := Nat.div_add_mod (u * 4294967296 + d1) y
    rw [← Nat.mul_assoc]
    generalize y * ((u * 4294967296 + d1) / y) = z at *
    omega
  rw [e]
  exact ⟨Nat.mul_add_div hy _ _, Nat.mul_add_mod _ _ _⟩
/-- a division whose both sides are moved alike -/
theorem moved_div {h y p : Nat} (hp : 0 < p) : h * p / (y * p) = h / y ∧ h * p % (y * p) / p = h % y := by
  rw [Nat.mul_div_mul_right _ _ hp, Nat.mul_mod_mul_right, Nat.mul_div_cancel _ hp]
  exact ⟨rfl, rfl⟩
/-- how far a divisor is moved -/
theorem lead {y : Nat} (h0 : y ≠ 0) (hl : y < 18446744073709551616) : ∃ s, s < 64 ∧ (64 - (Lib.bitLen y : Int)) = (s : Nat) ∧ 9223372036854775808 ≤ y * 2 ^ s ∧ y * 2 ^ s < 18446744073709551616 := by
  rw [bitLen_len 64 y (by exact hl) (by omega)]
  have h1 := (len_isLen y).1
  have h2 := len_le (show y < 2 ^ 64 from hl)
  have h3 : len y ≠ 0 := fun e => by rw [e] at h1; simp at h1; exact h0 h1
  have h4 := (len_isLen y).2 h3
  refine ⟨64 - len y, by omega, by omega, ?_, ?_⟩
  · have e : 2 ^ (len y - 1) * 2 ^ (64 - len y) = 9223372036854775808 := by rw [← Nat.pow_add, show len y - 1 + (64 - len y) = 63 by omega]
    rw [← e]; exact Nat.mul_le_mul_right _ h4
  · have e : 2 ^ len y * 2 ^ (64 - len y) = 18446744073709551616 := by rw [← Nat.pow_add, show len y + (64 - len y) = 64 by omega]
    rw [← e]; exact Nat.mul_lt_mul_of_pos_right h1 (Nat.pow_pos (by decide))
end Go.Proofs.Ytmemppkkchfphaa.Nm
