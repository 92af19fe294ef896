import Derived.Lib.IndexBytes
namespace Go.Proofs.YthcebnfdapcllaaGreatDoor.Sc
def byteU (u i : Nat) : UInt8 := UInt8.ofNat (u / 256 ^ i % 256)
def le (k u : Nat) : List UInt8 := (List.range k).map (byteU u)
def u64 (n : Int) : Nat := (n % 18446744073709551616).toNat
def near (size : Int) (most : Nat) : Nat := (min (max size 1) (most : Int)).toNat
def num (k : Nat) (n : Int) : List UInt8 := le k (u64 n)
def val : List UInt8 → Nat
  | [] => 0
  | b :: l => b.toNat + 256 * val l
theorem byteU_toNat (u i : Nat) : (byteU u i).toNat = u / 256 ^ i % 256 := by rw [byteU, UInt8.toNat_ofNat']; omega
theorem le_length (k u : Nat) : (le k u).length = k := by simp [le]
theorem le_succ (k u : Nat) : le (k + 1) u = le k u ++ [byteU u k] := by simp [le, List.range_succ]
theorem num_length (k : Nat) (n : Int) : (num k n).length = k := le_length _ _
theorem num_succ (k : Nat) (n : Int) : num (k + 1) n = num k n ++ [byteU (u64 n) k] := le_succ _ _
theorem num_zero (n : Int) : num 0 n = [] := rfl
theorem near_le (size : Int) (most : Nat) (h : 1 ≤ most) : 1 ≤ near size most ∧ near size most ≤ most := by unfold near; omega
theorem byte_cut (n : Int) (i : Nat) (hi : i < 8) : n / 2 ^ (8 * i) % 256 = ((byteU (u64 n) i).toNat : Int) := by
  rw [byteU_toNat]
  unfold u64
  obtain rfl | rfl | rfl | rfl | rfl | rfl | rfl | rfl : i = 0 ∨ i = 1 ∨ i = 2 ∨ i = 3 ∨ i = 4 ∨ i = 5 ∨ i = 6 ∨ i = 7 := by omega
  all_goals
    simp only [Nat.reduceMul, Nat.reducePow, Int.reducePow]
    omega
def E0 : ByteArray := ⟨#[]⟩
end Go.Proofs.YthcebnfdapcllaaGreatDoor.Sc
