import Derived.Test.YtlednkbnhnjgcaaRows
import Derived.Test.YtlednkbnhnjgcaaNumMem
namespace Go.Proofs.Ytlednkbnhnjgcaa
open Go.RowKit

theorem bitI (x i : Nat) : wrap64 ((((Nm.wd x (i / 64) : Nat) : Int) / 2 ^ (i % 64)).tmod 2) = (Nm.bit x i : Nat) := by
  have e : ((Nm.wd x (i / 64) : Nat) : Int) / 2 ^ (i % 64) = ((Nm.wd x (i / 64) / 2 ^ (i % 64) : Nat) : Int) := by simp
  rw [e, ← Nm.bit_wd]
  generalize Nm.wd x (i / 64) / 2 ^ (i % 64) = k
  rw [Int.tmod_eq_emod_of_nonneg (by omega)]
  unfold wrap64
  omega
set_option maxRecDepth 100000 in
set_option maxHeartbeats 400000 in
theorem ref_bit (x i : Nat) (hi : i < 256) (w : World) :
    Calls Try.prog 12 #[.agg (numC x), .int .i64 (i : Int)] w fun e w' => e = .returned (.int .i64 (Nm.bit x i : Nat)) ∧ Below w.heap.size w w' := by
  have hH : Has (w.alloc (.cells (numC x) 24)) w.heap.size (numC x) 24 := Has.new _ _
  have hc := hH.num (j := i / 64) (by omega)
  have HB := Lib.hid (bitI x i)
  go_enter Try.func12, Try.ntmps12
  go_wp2_with fail
  go_ret
  exact ⟨congrArg Ending.returned (by rw [HB.out]; rfl), (Below.refl _ _).alloc (Nat.le_refl _) _⟩

theorem wrap_pow (m : Nat) (hm : m < 64) : IntKind.u64.wrap (2 ^ m) = ((2 ^ m : Nat) : Int) := by
  have h : ((2 : Int) ^ m) = ((2 ^ m : Nat) : Int) := by simp
  have h2 : 2 ^ m < 2 ^ 64 := Nat.pow_lt_pow_right (by decide) hm
  rw [h, IntKind.wrap_u64]
  generalize 2 ^ m = k at h2
  omega
theorem or64 (x y : Nat) (hx : x < 18446744073709551616) (hy : y < 18446744073709551616) : bits .or .u64 (x : Int) (y : Int) = ((x ||| y : Nat) : Int) := by
  have h : x ||| y < 2 ^ 64 := Nat.or_lt_two_pow hx hy
  show IntKind.u64.wrap ((BitVec.ofInt 64 (x : Int) ||| BitVec.ofInt 64 (y : Int)).toNat : Int) = _
  rw [BitVec.ofInt_natCast, BitVec.ofInt_natCast, BitVec.toNat_or, BitVec.toNat_ofNat, BitVec.toNat_ofNat, Nat.mod_eq_of_lt hx, Nat.mod_eq_of_lt hy, IntKind.wrap_u64]
  omega
theorem numC_or (x i : Nat) (hi : i < 256) : (numC x).setIfInBounds (i / 64) (.int .u64 (bits .or .u64 ((Nm.wd x (i / 64) : Nat) : Int) (IntKind.u64.wrap (2 ^ (i % 64))))) = numC (x ||| 2 ^ i) := by
  have hm : i % 64 < 64 := Nat.mod_lt _ (by decide)
  have h2 : 2 ^ (i % 64) < 2 ^ 64 := Nat.pow_lt_pow_right (by decide) hm
  rw [wrap_pow _ hm, or64 _ _ (Nm.wd_lt _ _) (by simpa using h2)]
  unfold numC
  rw [cells4_set _ _ _ (by omega)]
  apply cells4_congr
  intro j hj
  rw [Nm.wd_or x i j]
  unfold upd
  split
  · rename_i h; rw [h]
  · rfl
set_option maxRecDepth 100000 in
set_option maxHeartbeats 400000 in
theorem ref_set (x i : Nat) (hi : i < 256) (w : World) :
    Calls Try.prog 13 #[.agg (numC x), .int .i64 (i : Int)] w fun e w' => e = .returned (.agg (numC (x ||| 2 ^ i))) ∧ Below w.heap.size w w' := by
  go_enter Try.func13, Try.ntmps13
  go_upto_region 1 with fail
  generalize hw1 : World.alloc _ _ = w1
  have hb : Below w.heap.size w w1 := by rw [← hw1]; exact ((Below.refl _ _).alloc (Nat.le_refl _) _).alloc (by simp) _
  have hA : Has w1 w.heap.size (numC x) 24 := by rw [← hw1]; exact (Has.new _ _).alloc _
  have hR : Has w1 (w.heap.size + 1) (numC 0) 24 := by rw [← hw1]; exact Has.new1 _ _ _
  clear hw1
  have c1 := hA.num (j := i / 64) (by omega)
  have f1 := hA.free (i / 64)
  have hA2 : Has (w1.setCell ⟨w.heap.size, i / 64, none⟩ (.int .u64 (bits .or .u64 ((Nm.wd x (i / 64) : Nat) : Int) (IntKind.u64.wrap (2 ^ (i % 64)))))) w.heap.size (numC (x ||| 2 ^ i)) 24 := by
    rw [← numC_or x i hi]; exact hA.set _
  have hR2 := hR.other ⟨w.heap.size, i / 64, none⟩ (.int .u64 (bits .or .u64 ((Nm.wd x (i / 64) : Nat) : Int) (IntKind.u64.wrap (2 ^ (i % 64))))) (by simp)
  go_wp2_with (first
    | (with_reducible refine num_load rfl _ rfl _ rfl _ hA2 rfl ?_)
    | (with_reducible refine num_store rfl _ _ rfl _ _ rfl rfl _ hR2 rfl ?_))
  exact bodyPost_ret (v := .agg (numC (x ||| 2 ^ i))) (num_results Try.results13 _ _ _ rfl (hR2.row _)) rfl ⟨rfl, below_setRow (hb.setCell (by simp) _) (by omega) _⟩
end Go.Proofs.Ytlednkbnhnjgcaa
