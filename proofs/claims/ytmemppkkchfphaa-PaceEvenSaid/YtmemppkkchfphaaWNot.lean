import Derived.Test.YtmemppkkchfphaaRefBit
import Derived.Test.YtmemppkkchfphaaNumMem2
namespace Go.Proofs.Ytmemppkkchfphaa
open Go.RowKit

theorem wd_not {x k : Nat} (hx : x < Nm.big) (hk : k < 4) : Nm.wd (Nm.big - 1 - x) k = 18446744073709551615 - Nm.wd x k := by
  unfold Nm.big at *
  rcases Nm.four hk with rfl | rfl | rfl | rfl
  · rw [Nm.wd0, Nm.wd0]; omega
  · rw [Nm.wd1, Nm.wd1]; omega
  · rw [Nm.wd2, Nm.wd2]; omega
  · rw [Nm.wd3, Nm.wd3]; omega
theorem xor64 (v : Nat) (hv : v < 18446744073709551616) : bits .xor .u64 (if IntKind.u64.signed = true then -1 else IntKind.u64.max) (v : Int) = ((18446744073709551615 - v : Nat) : Int) := by
  show IntKind.u64.wrap ((BitVec.ofInt 64 (if IntKind.u64.signed = true then -1 else IntKind.u64.max) ^^^ BitVec.ofInt 64 (v : Int)).toNat : Int) = _
  rw [show BitVec.ofInt 64 (if IntKind.u64.signed = true then -1 else IntKind.u64.max) = BitVec.allOnes 64 by decide, BitVec.allOnes_xor, BitVec.ofInt_natCast, BitVec.toNat_not, BitVec.toNat_ofNat, Nat.mod_eq_of_lt hv, IntKind.wrap_u64]
  omega
theorem idx_num (x : Nat) {k : Nat} (hk : k < 4) (w : World) : (Instr.index 26 (.agg (numC x)) (.int .i64 (k : Int))).run Try.prog w = .ok (.int .u64 (Nm.wd x k : Nat)) w := by
  rcases Nm.four hk with rfl | rfl | rfl | rfl <;> rfl
end Go.Proofs.Ytmemppkkchfphaa
