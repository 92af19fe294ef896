import Derived.Test.YtmpllagaeoolaaaDoorRows
import Derived.Test.YtmpllagaeoolaaaDoorZRefTurn
namespace Go.Proofs.YtmpllagaeoolaaaDoor
open Go.RowKit Mem Sha
theorem mul256_byte (x : BitVec 32) (b : UInt8) : IntKind.u32.wrap (IntKind.u32.wrap (Wd.n x * (256 : Int)) + (b.toNat : Int)) = Wd.n (x <<< 8 ||| ofByte b) := by
  have h : x <<< 8 ||| ofByte b = x <<< 8 + ofByte b := by
    symm
    apply BitVec.add_eq_or_of_and_eq_zero
    apply BitVec.eq_of_getLsbD_eq
    intro i hi
    rw [BitVec.getLsbD_and, BitVec.getLsbD_shiftLeft, BitVec.getLsbD_zero]
    by_cases h : i < 8
    · simp [h]
    · have : (ofByte b).getLsbD i = false := by
        show (BitVec.ofNat 32 b.toNat).getLsbD i = false
        rw [BitVec.getLsbD_ofNat, Nat.testBit_lt_two_pow (Nat.lt_of_lt_of_le b.toNat_lt (Nat.pow_le_pow_right (by omega) (by omega)))]
        simp
      rw [this]; simp
  rw [h, ← Wd.add, Wd.n_ofByte, IntKind.wrap_u32' (Wd.n x * 256), Wd.shl8]
theorem wrap_mul256 (x : BitVec 32) : IntKind.u32.wrap (Wd.n x * (256 : Int)) = Wd.n (x <<< 8) := by rw [IntKind.wrap_u32', Wd.shl8]
theorem add_byte (x : BitVec 32) (b : UInt8) : IntKind.u32.wrap (Wd.n (x <<< 8) + (b.toNat : Int)) = Wd.n (x <<< 8 ||| ofByte b) := by
  rw [← mul256_byte, wrap_mul256]
theorem add_byte' (x : BitVec 32) (b : UInt8) : IntKind.u32.wrap (Wd.n (x <<< 8) + Wd.n (ofByte b)) = Wd.n (x <<< 8 ||| ofByte b) := by
  rw [Wd.n_ofByte]; exact add_byte x b
end Go.Proofs.YtmpllagaeoolaaaDoor
