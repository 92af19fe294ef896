import Derived.Test.YtlljemggalmcdaaNum2
namespace Go.Proofs.Ytlljemggalmcdaa.Nm
theorem len_mod (x i : Nat) : len (x % 2 ^ (i + 1)) = if bit x i = 1 then i + 1 else len (x % 2 ^ i) := by
  have h := mod_next x i
  have hl := Nat.mod_lt x (show 0 < 2 ^ i from Nat.pow_pos (by decide))
  have hb := bit_lt x i
  split
  · rename_i h1
    rw [h1, Nat.mul_one] at h
    refine (len_of ⟨?_, fun _ => ?_⟩).symm
    · exact Nat.mod_lt _ (Nat.pow_pos (by decide))
    · rw [Nat.add_sub_cancel, h]; omega
  · rename_i h1
    rw [show bit x i = 0 by omega, Nat.mul_zero, Nat.zero_add] at h
    rw [h]
theorem len_all {x : Nat} (hx : x < big) : len (x % 2 ^ 256) = len x := by rw [← big_eq, Nat.mod_eq_of_lt hx]
theorem len_none (x : Nat) : len (x % 2 ^ 0) = 0 := by rw [Nat.pow_zero, Nat.mod_one]; rfl
end Go.Proofs.Ytlljemggalmcdaa.Nm
