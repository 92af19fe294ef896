import Derived.WalkKit
import Derived.WalkSpells
import Derived.WalkLawsBesides
namespace Go.Proofs.Ytehineieklpgoaa.Wd
open Go.RowKit

/-- a word as a number (closed to the walk) -/
def n (x : BitVec 32) : Int := (x.toNat : Int)
theorem n_nonneg (x : BitVec 32) : 0 ≤ n x := Int.natCast_nonneg _
theorem n_lt (x : BitVec 32) : n x < 4294967296 := by have := x.isLt; unfold n; omega
theorem n_inj {x y : BitVec 32} (h : n x = n y) : x = y := BitVec.eq_of_toNat_eq (by unfold n at h; omega)
theorem wrap_toNat (k : Nat) : IntKind.u32.wrap (k : Int) = n (BitVec.ofNat 32 k) := by
  unfold n; rw [IntKind.wrap_u32', BitVec.toNat_ofNat]; omega
theorem add (x y : BitVec 32) : IntKind.u32.wrap (n x + n y) = n (x + y) := by
  unfold n; rw [IntKind.wrap_u32', BitVec.toNat_add]; omega
theorem sub (x y : BitVec 32) : IntKind.u32.wrap (n x - n y) = n (x - y) := by
  unfold n; rw [IntKind.wrap_u32', BitVec.toNat_sub]; have := x.isLt; have := y.isLt; omega
theorem ofInt_n (x : BitVec 32) : BitVec.ofInt 32 (n x) = x := by unfold n; simp
theorem wrap_bv (x : BitVec 32) : IntKind.u32.wrap (x.toNat : Int) = n x := by
  unfold n; rw [IntKind.wrap_u32']; have := x.isLt; omega
theorem and (x y : BitVec 32) : bits .and .u32 (n x) (n y) = n (x &&& y) := by
  show IntKind.u32.wrap ((BitVec.ofInt 32 (n x) &&& BitVec.ofInt 32 (n y)).toNat : Int) = _
  rw [ofInt_n, ofInt_n, wrap_bv]
theorem or (x y : BitVec 32) : bits .or .u32 (n x) (n y) = n (x ||| y) := by
  show IntKind.u32.wrap ((BitVec.ofInt 32 (n x) ||| BitVec.ofInt 32 (n y)).toNat : Int) = _
  rw [ofInt_n, ofInt_n, wrap_bv]
theorem xor (x y : BitVec 32) : bits .xor .u32 (n x) (n y) = n (x ^^^ y) := by
  show IntKind.u32.wrap ((BitVec.ofInt 32 (n x) ^^^ BitVec.ofInt 32 (n y)).toNat : Int) = _
  rw [ofInt_n, ofInt_n, wrap_bv]
theorem shl (x : BitVec 32) (m : Nat) : n x * (2 : Int) ^ m % (4294967296 : Int) = n (x <<< m) := by
  unfold n
  rw [show (x.toNat : Int) * 2 ^ m = ((x.toNat * 2 ^ m : Nat) : Int) by simp, BitVec.toNat_shiftLeft, Nat.shiftLeft_eq]
  omega
theorem shr (x : BitVec 32) (m : Nat) : n x / (2 : Int) ^ m = n (x >>> m) := by
  unfold n
  simp [BitVec.toNat_ushiftRight, Nat.shiftRight_eq_div_pow]
theorem shl8 (x : BitVec 32) : n x * (256 : Int) % (4294967296 : Int) = n (x <<< 8) := by have := shl x 8; simpa using this
theorem shr3 (x : BitVec 32) : n x / (8 : Int) = n (x >>> 3) := by have := shr x 3; simpa using this
theorem shr10 (x : BitVec 32) : n x / (1024 : Int) = n (x >>> 10) := by have := shr x 10; simpa using this
theorem not (x : BitVec 32) : bits .xor .u32 (if IntKind.u32.signed = true then -1 else IntKind.u32.max) (n x) = n (~~~x) := by
  have e : (if IntKind.u32.signed = true then (-1 : Int) else IntKind.u32.max) = n (BitVec.allOnes 32) := by decide
  rw [e, xor, BitVec.allOnes_xor]
theorem not' (x : BitVec 32) : bits .xor .u32 4294967295 (n x) = n (~~~x) := by
  have e : (4294967295 : Int) = n (BitVec.allOnes 32) := by decide
  rw [e, xor, BitVec.allOnes_xor]
theorem notSub (x : BitVec 32) : IntKind.u32.wrap (4294967295 - n x) = n (~~~x) := by
  unfold n; rw [IntKind.wrap_u32', BitVec.toNat_not]; have := x.isLt; omega
/-- a byte as a word -/
def ofByte (b : UInt8) : BitVec 32 := BitVec.ofNat 32 b.toNat
theorem n_ofByte (b : UInt8) : n (ofByte b) = (b.toNat : Int) := by
  unfold n ofByte; rw [BitVec.toNat_ofNat]; have := b.toNat_lt; omega
theorem byte (b : UInt8) : IntKind.u32.wrap (b.toNat : Int) = n (ofByte b) := by
  unfold ofByte; rw [wrap_toNat]
theorem orByte (x : BitVec 32) (b : UInt8) : bits .or .u32 (n x) (b.toNat : Int) = n (x ||| ofByte b) := by
  rw [← or, n_ofByte]
theorem neg31 (k : Int) (h1 : 0 < k) (h2 : k < 32) : bits .and .u64 (IntKind.u64.wrap (-k)) 31 = ((32 - k.toNat : Nat) : Int) := by
  have h : ∀ j : Fin 32, 0 < j.val → bits .and .u64 (IntKind.u64.wrap (-(j.val : Int))) 31 = ((32 - j.val : Nat) : Int) := by decide +kernel
  have := h ⟨k.toNat, by omega⟩ (by show 0 < k.toNat; omega)
  rw [show (((⟨k.toNat, by omega⟩ : Fin 32).val : Nat) : Int) = k from by show (k.toNat : Int) = k; omega] at this
  exact this
theorem left_right (x : BitVec 32) (k : Int) (h1 : 0 < k) (h2 : k < 32) : x.rotateLeft (32 - k.toNat) = x.rotateRight k.toNat := by
  rw [BitVec.rotateLeft_def, BitVec.rotateRight_def, Nat.mod_eq_of_lt (by omega), Nat.mod_eq_of_lt (by omega), BitVec.or_comm, show 32 - (32 - k.toNat) = k.toNat by omega]
theorem rot_add (x : BitVec 32) (k : Nat) (h1 : 0 < k) (h2 : k < 32) : x >>> k + x <<< (32 - k) = x.rotateRight k := by
  rw [BitVec.rotateRight_def, Nat.mod_eq_of_lt h2]
  apply BitVec.add_eq_or_of_and_eq_zero
  apply BitVec.eq_of_getLsbD_eq
  intro i hi
  rw [BitVec.getLsbD_and, BitVec.getLsbD_ushiftRight, BitVec.getLsbD_shiftLeft, BitVec.getLsbD_zero]
  by_cases h : i < 32 - k
  · simp [h]
  · rw [BitVec.getLsbD_of_ge x (k + i) (by omega)]; simp
end Go.Proofs.Ytehineieklpgoaa.Wd
