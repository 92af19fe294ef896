import Derived.Test.YtmemppkkchfphaaRows
import Derived.Test.YtmemppkkchfphaaNumMem
namespace Go.Proofs.Ytmemppkkchfphaa
open Go.RowKit

theorem bitI (x i : Nat) : wrap64 ((((Nm.wd x (i / 64) : Nat) : Int) / 2 ^ (i % 64)).tmod 2) = (Nm.bit x i : Nat) := by
  have e : ((Nm.wd x (i / 64) : Nat) : Int) / 2 ^ (i % 64) = ((Nm.wd x (i / 64) / 2 ^ (i % 64) : Nat) : Int) := by simp
  rw [e, ← Nm.bit_wd]
  generalize Nm.wd x (i / 64) / 2 ^ (i % 64) = k
  rw [Int.tmod_eq_emod_of_nonneg (by omega)]
  unfold wrap64
  omega
set_option maxRecDepth 100000 in
set_option maxHeartbeats 400000 in
theorem ref_bit (x i : Nat) (hi : i < 256) (w : World) :
    Calls Try.prog 25 #[.agg (numC x), .int .i64 (i : Int)] w fun e w' => e = .returned (.int .i64 (Nm.bit x i : Nat)) ∧ Below w.heap.size w w' := by
  have hH : Has (w.alloc (.cells (numC x) 26)) w.heap.size (numC x) 26 := Has.new _ _
  have hc := hH.num (j := i / 64) (by omega)
  have HB := Lib.hid (bitI x i)
  go_enter Try.func25, Try.ntmps25
  go_wp2_with fail
  go_ret
  exact ⟨congrArg Ending.returned (by rw [HB.out]; rfl), (Below.refl _ _).alloc (Nat.le_refl _) _⟩

theorem wrap_pow (m : Nat) (hm : m < 64) : IntKind.u64.wrap (2 ^ m) = ((2 ^ m : Nat) : Int) := by
  have h : ((2 : Int) ^ m) = ((2 ^ m : Nat) : Int) := by simp
  have h2 : 2 ^ m < 2 ^ 64 := Nat.pow_lt_pow_right (by decide) hm
  rw [h, IntKind.wrap_u64]
  generalize 2 ^ m = k at h2
  omega
theorem or64 (x y : Nat) (hx : x < 18446744073709551616) (hy : y < 18446744073709551616) : bits .or .u64 (x : Int) (y : Int) = ((x ||| y : Nat) : Int) := by
  have h : x ||| y < 2 ^ 64 := Nat.or_lt_two_pow hx hy
  show IntKind.u64.wrap ((BitVec.ofInt 64 (x : Int) ||| BitVec.ofInt 64 (y : Int)).toNat : Int) = _
  rw [BitVec.ofInt_natCast, BitVec.ofInt_natCast, BitVec.toNat_or, BitVec.toNat_ofNat, BitVec.toNat_ofNat, Nat.mod_eq_of_lt hx, Nat.mod_eq_of_lt hy, IntKind.wrap_u64]
  omega
theorem numC_or (x i : Nat) (hi : i < 256) : (numC x).setIfInBounds (i / 64) (.int .u64 (bits .or .u64 ((Nm.wd x (i / 64) : Nat) : Int) (IntKind.u64.wrap (2 ^ (i % 64))))) = numC (x ||| 2 ^ i) := by
  have hm : i % 64 < 64 := Nat.mod_lt _ (by decide)
  have h2 : 2 ^ (i % 64) < 2 ^ 64 := Nat.pow_lt_pow_right (by decide) hm
  rw [wrap_pow _ hm, or64 _ _ (Nm.wd_lt _ _) (by simpa using h2)]
  unfold numC
  rw [cells4_set _ _ _ (by omega)]
  apply cells4_congr
  intro j hj
  rw [Nm.wd_or x i j]
  unfold upd
  split
  · rename_i h; rw [h]
  · rfl
end Go.Proofs.Ytmemppkkchfphaa
