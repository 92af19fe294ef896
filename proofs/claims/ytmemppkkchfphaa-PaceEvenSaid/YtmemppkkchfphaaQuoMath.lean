/-
  Plain mathematics of long division, bit by bit.
-/
import Derived.Test.YtmemppkkchfphaaMoveMath
namespace Go.Proofs.Ytmemppkkchfphaa.Nm
/-- a quotient's bits from t on are known, and what is left -/
structure QI (a b t out rest : Nat) : Prop where
  sum : a = out * b + rest
  low : out % 2 ^ t = 0
  rest : rest < b * 2 ^ t
theorem QI.take {a b i out rest : Nat} (h : QI a b (i + 1) out rest) (hd : b * 2 ^ i ≤ rest) : QI a b i (out ||| 2 ^ i) (rest - b * 2 ^ i) := by
  have hlow := h.low
  have hrest := h.rest
  rw [or_low h.low]
  have hp : 2 ^ (i + 1) = 2 ^ i * 2 := Nat.pow_succ 2 i
  refine ⟨?_, ?_, ?_⟩
  · rw [Nat.add_mul, Nat.mul_comm (2 ^ i)]; have := h.sum; omega
  · have h1 : out % 2 ^ i = 0 := by
      rw [hp] at hlow
      have := Nat.mod_mul_right_mod out (2 ^ i) 2
      rw [hlow] at this
      simpa using this.symm
    rw [Nat.add_mod_right, h1]
  · rw [hp, ← Nat.mul_assoc] at hrest; omega
theorem QI.skip {a b i out rest : Nat} (h : QI a b (i + 1) out rest) (hd : rest < b * 2 ^ i) : QI a b i out rest := by
  have hlow := h.low
  refine ⟨h.sum, ?_, hd⟩
  rw [Nat.pow_succ] at hlow
  have := Nat.mod_mul_right_mod out (2 ^ i) 2
  rw [hlow] at this
  simpa using this.symm
theorem QI.done {a b out rest : Nat} (h : QI a b 0 out rest) : out = a / b ∧ rest = a % b := by
  have hr := h.rest
  rw [Nat.pow_zero, Nat.mul_one] at hr
  have hb : 0 < b := by omega
  constructor
  · rw [h.sum, Nat.mul_comm, Nat.mul_add_div hb, Nat.div_eq_of_lt hr, Nat.add_zero]
  · rw [h.sum, Nat.mul_comm, Nat.mul_add_mod, Nat.mod_eq_of_lt hr]
theorem QI.out_le {a b t out rest : Nat} (hb : 0 < b) (h : QI a b t out rest) : out ≤ a := by
  have := h.sum
  have : out ≤ out * b := Nat.le_mul_of_pos_right _ hb
  omega
theorem QI.rest_le {a b t out rest : Nat} (h : QI a b t out rest) : rest ≤ a := by have := h.sum; omega
theorem QI.start {a b : Nat} (t : Nat) (h : a < b * 2 ^ t) : QI a b t 0 a := ⟨by omega, Nat.zero_mod _, h⟩
theorem up_small {x n : Nat} (h : x * 2 ^ n < big) : up x n = x * 2 ^ n := by
  unfold up; rw [Nat.shiftLeft_eq, Nat.mod_eq_of_lt h]
theorem back_small {x n : Nat} (h : x * 2 ^ n < big) : down (up x n) n = x := by
  rw [up_small h]; unfold down; rw [Nat.shiftRight_eq_div_pow, Nat.mul_div_cancel _ (Nat.pow_pos (by decide))]
theorem back_great {x n : Nat} (h : big ≤ x * 2 ^ n) : down (up x n) n ≠ x := fun e => by
  have h1 := up_lt x n
  unfold down at e
  rw [Nat.shiftRight_eq_div_pow] at e
  have : up x n / 2 ^ n < x := (Nat.div_lt_iff_lt_mul (Nat.pow_pos (by decide))).2 (by omega)
  omega
theorem quo_start {a b : Nat} (hl : len b ≤ len a) : a < b * 2 ^ (len a - len b + 1) ∨ b = 0 := by
  by_cases hb : b = 0
  · exact .inr hb
  · left
    have h1 := (len_isLen a).1
    have hlb : len b ≠ 0 := fun e => by have := (len_isLen b).1; rw [e] at this; simp at this; exact hb this
    have h2 := (len_isLen b).2 hlb
    have h3 : 2 ^ (len b - 1) * 2 ^ (len a - len b + 1) = 2 ^ len a := by rw [← Nat.pow_add]; congr 1; omega
    have h4 : 2 ^ (len b - 1) * 2 ^ (len a - len b + 1) ≤ b * 2 ^ (len a - len b + 1) := Nat.mul_le_mul_right _ h2
    omega
theorem quo_small {a b : Nat} (ha : a < big) (hl : len b ≤ len a) {k : Nat} (hk : k ≤ len a - len b) : b * 2 ^ k < big := by
  have h1 := (len_isLen b).1
  have h2 : len a ≤ 256 := len_le (by rw [← big_eq]; exact ha)
  have h3 : b * 2 ^ k < 2 ^ len b * 2 ^ k := Nat.mul_lt_mul_of_pos_right h1 (Nat.pow_pos (by decide))
  rw [← Nat.pow_add] at h3
  rw [big_eq]
  exact Nat.lt_of_lt_of_le h3 (Nat.pow_le_pow_right (by decide) (by omega))
theorem quo_less {a b : Nat} (hl : len a < len b) : a < b := by
  have h1 := (len_isLen a).1
  have h2 := (len_isLen b).2 (by omega)
  have h3 : 2 ^ len a ≤ 2 ^ (len b - 1) := Nat.pow_le_pow_right (by decide) (by omega)
  omega
end Go.Proofs.Ytmemppkkchfphaa.Nm
