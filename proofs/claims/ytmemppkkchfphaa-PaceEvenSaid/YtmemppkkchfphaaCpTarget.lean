import Derived.Test.YtmemppkkchfphaaLawCpOrd
import Derived.Test.YtmemppkkchfphaaCpMeets
namespace Go.Proofs.Ytmemppkkchfphaa
open Go.RowKit
theorem eql_zero (z : Nat) (hz : z < Nm.big) (g : Bool) (hg : decide (z = 0) = g) (w : World) : (binOp .eql 26 (.agg (numC z)) (.agg #[.int .u64 0, .int .u64 0, .int .u64 0, .int .u64 0])).run Try.prog w = .ok (.bool g) w := by
  rw [← hg]; exact eql_num hz (show 0 < Nm.big by decide) w
theorem less_is (x y : Nat) (hx : x < Nm.big) (hy : y < Nm.big) (g : Bool) (hg : decide (x < y) = g) (w : World) : Calls Try.prog 21 #[.agg (numC x), .agg (numC y)] w fun e w' => e = .returned (.bool g) ∧ Below w.heap.size w w' := by
  rw [← hg]; exact less x y hx hy w
theorem zero_is (x : Nat) (hx : x < Nm.big) (g : Bool) (hg : decide (x = 0) = g) (w : World) : Calls Try.prog 22 #[.agg (numC x)] w fun e w' => e = .returned (.bool g) ∧ Below w.heap.size w w' := by
  rw [← hg]; exact zero x hx w
theorem inRange_is (b : Int) (z : Nat) (low over g : Bool) (hg : (!low && !over) = g) (KD : Hid (∀ w, Calls Try.prog 33 #[.int .i64 b] w fun e w' => e = .returned (.tuple #[.agg (numC z), .bool low, .bool over]) ∧ Below w.heap.size w w')) (w : World) :
    Calls Try.prog 26 #[.int .i64 b] w fun e w' => e = .returned (.tuple #[.agg (numC z), .bool g]) ∧ Below w.heap.size w w' := by
  rw [← hg]; exact inRange_of b z low over KD w
set_option maxRecDepth 100000 in
set_option maxHeartbeats 2000000 in
theorem target_c1 (b c : Int) (ok2 : Bool) (z y : Nat) (KI : Hid (∀ w, Calls Try.prog 26 #[.int .i64 b] w fun e w' => e = .returned (.tuple #[.agg (numC z), .bool false]) ∧ Below w.heap.size w w')) (KI2 : Hid (∀ w, Calls Try.prog 26 #[.int .i64 c] w fun e w' => e = .returned (.tuple #[.agg (numC y), .bool ok2]) ∧ Below w.heap.size w w')) (w : World) :
    Calls Try.prog 19 #[.int .i64 b, .int .i64 c] w fun e w' => e = .returned (.tuple #[.agg (numC 0), .bool false]) ∧ Below w.heap.size w w' := by
  go_enter Try.func19, Try.ntmps19
  go_upto_region 1 with fail
  generalize hw0 : World.alloc _ _ = v0
  have hN : Has v0 w.heap.size (numC 0) 26 := by rw [← hw0]; exact Has.newz _
  have hbel : Below w.heap.size w v0 := by rw [← hw0]; exact (Below.refl _ _).alloc (Nat.le_refl _) _
  clear hw0
  go_wp2_with (first | fail | (with_reducible refine num_load rfl _ rfl _ rfl _ hN rfl ?_) | (with_reducible refine num_load_g (by with_unfolding_all rfl) _ rfl _ rfl _ hN rfl ?_))
  refine (KI.out _).mono ?_
  rintro e v1 ⟨rfl, hb1⟩
  replace hN := hN.on hb1
  replace hbel := hbel.trans (hb1.mono hbel.size)
  clear hb1
  go_upto_region 2 with (with_reducible refine num_store rfl _ _ rfl _ _ rfl rfl _ (Has.newz _) rfl ?_)
  generalize hw2 : World.setRow _ _ _ = v2
  have hb2 : Below v1.heap.size v1 v2 := by rw [← hw2]; exact below_setRow ((Below.refl _ _).alloc (Nat.le_refl _) _) (Nat.le_refl _) _
  have hX : Has v2 v1.heap.size (numC z) 26 := by rw [← hw2]; exact (Has.newz _).row _
  replace hN := hN.on hb2
  replace hbel := hbel.trans (hb2.mono hbel.size)
  clear hw2 hb2
  generalize v1.heap.size = b_hX at hX ⊢
  go_wp2_with (first | fail | (with_reducible refine num_load rfl _ rfl _ rfl _ hN rfl ?_) | (with_reducible refine num_load rfl _ rfl _ rfl _ hX rfl ?_) | (with_reducible refine num_load_g (by with_unfolding_all rfl) _ rfl _ rfl _ hN rfl ?_) | (with_reducible refine num_load_g (by with_unfolding_all rfl) _ rfl _ rfl _ hX rfl ?_))
  refine (KI2.out _).mono ?_
  rintro e v3 ⟨rfl, hb3⟩
  replace hN := hN.on hb3
  replace hX := hX.on hb3
  replace hbel := hbel.trans (hb3.mono hbel.size)
  clear hb3
  go_upto_region 3 with (with_reducible refine num_store rfl _ _ rfl _ _ rfl rfl _ (Has.newz _) rfl ?_)
  generalize hw4 : World.setRow _ _ _ = v4
  have hb4 : Below v3.heap.size v3 v4 := by rw [← hw4]; exact below_setRow ((Below.refl _ _).alloc (Nat.le_refl _) _) (Nat.le_refl _) _
  have hY : Has v4 v3.heap.size (numC y) 26 := by rw [← hw4]; exact (Has.newz _).row _
  replace hN := hN.on hb4
  replace hX := hX.on hb4
  replace hbel := hbel.trans (hb4.mono hbel.size)
  clear hw4 hb4
  generalize v3.heap.size = b_hY at hY ⊢
  go_wp2_with (first | (with_reducible refine num_load rfl _ rfl _ rfl _ hN rfl ?_) | (with_reducible refine num_load rfl _ rfl _ rfl _ hX rfl ?_) | (with_reducible refine num_load rfl _ rfl _ rfl _ hY rfl ?_) | (with_reducible refine num_load_g (by with_unfolding_all rfl) _ rfl _ rfl _ hN rfl ?_) | (with_reducible refine num_load_g (by with_unfolding_all rfl) _ rfl _ rfl _ hX rfl ?_) | (with_reducible refine num_load_g (by with_unfolding_all rfl) _ rfl _ rfl _ hY rfl ?_) | (with_reducible refine num_store_eq rfl _ _ rfl _ 0 _ rfl rfl zero4 _ hN rfl ?_))
  exact bodyPost_ret (num_results2 Try.results19 _ _ _ _ rfl rfl (hN.row _)) rfl ⟨rfl, below_setRow hbel (Nat.le_refl _) _⟩
set_option maxRecDepth 100000 in
set_option maxHeartbeats 2000000 in
theorem target_c2 (b c : Int) (z y : Nat) (KI : Hid (∀ w, Calls Try.prog 26 #[.int .i64 b] w fun e w' => e = .returned (.tuple #[.agg (numC z), .bool true]) ∧ Below w.heap.size w w')) (KI2 : Hid (∀ w, Calls Try.prog 26 #[.int .i64 c] w fun e w' => e = .returned (.tuple #[.agg (numC y), .bool false]) ∧ Below w.heap.size w w')) (w : World) :
    Calls Try.prog 19 #[.int .i64 b, .int .i64 c] w fun e w' => e = .returned (.tuple #[.agg (numC 0), .bool false]) ∧ Below w.heap.size w w' := by
  go_enter Try.func19, Try.ntmps19
  go_upto_region 1 with fail
  generalize hw0 : World.alloc _ _ = v0
  have hN : Has v0 w.heap.size (numC 0) 26 := by rw [← hw0]; exact Has.newz _
  have hbel : Below w.heap.size w v0 := by rw [← hw0]; exact (Below.refl _ _).alloc (Nat.le_refl _) _
  clear hw0
  go_wp2_with (first | fail | (with_reducible refine num_load rfl _ rfl _ rfl _ hN rfl ?_) | (with_reducible refine num_load_g (by with_unfolding_all rfl) _ rfl _ rfl _ hN rfl ?_))
  refine (KI.out _).mono ?_
  rintro e v1 ⟨rfl, hb1⟩
  replace hN := hN.on hb1
  replace hbel := hbel.trans (hb1.mono hbel.size)
  clear hb1
  go_upto_region 2 with (with_reducible refine num_store rfl _ _ rfl _ _ rfl rfl _ (Has.newz _) rfl ?_)
  generalize hw2 : World.setRow _ _ _ = v2
  have hb2 : Below v1.heap.size v1 v2 := by rw [← hw2]; exact below_setRow ((Below.refl _ _).alloc (Nat.le_refl _) _) (Nat.le_refl _) _
  have hX : Has v2 v1.heap.size (numC z) 26 := by rw [← hw2]; exact (Has.newz _).row _
  replace hN := hN.on hb2
  replace hbel := hbel.trans (hb2.mono hbel.size)
  clear hw2 hb2
  generalize v1.heap.size = b_hX at hX ⊢
  go_wp2_with (first | fail | (with_reducible refine num_load rfl _ rfl _ rfl _ hN rfl ?_) | (with_reducible refine num_load rfl _ rfl _ rfl _ hX rfl ?_) | (with_reducible refine num_load_g (by with_unfolding_all rfl) _ rfl _ rfl _ hN rfl ?_) | (with_reducible refine num_load_g (by with_unfolding_all rfl) _ rfl _ rfl _ hX rfl ?_))
  refine (KI2.out _).mono ?_
  rintro e v3 ⟨rfl, hb3⟩
  replace hN := hN.on hb3
  replace hX := hX.on hb3
  replace hbel := hbel.trans (hb3.mono hbel.size)
  clear hb3
  go_upto_region 3 with (with_reducible refine num_store rfl _ _ rfl _ _ rfl rfl _ (Has.newz _) rfl ?_)
  generalize hw4 : World.setRow _ _ _ = v4
  have hb4 : Below v3.heap.size v3 v4 := by rw [← hw4]; exact below_setRow ((Below.refl _ _).alloc (Nat.le_refl _) _) (Nat.le_refl _) _
  have hY : Has v4 v3.heap.size (numC y) 26 := by rw [← hw4]; exact (Has.newz _).row _
  replace hN := hN.on hb4
  replace hX := hX.on hb4
  replace hbel := hbel.trans (hb4.mono hbel.size)
  clear hw4 hb4
  generalize v3.heap.size = b_hY at hY ⊢
  go_wp2_with (first | (with_reducible refine num_load rfl _ rfl _ rfl _ hN rfl ?_) | (with_reducible refine num_load rfl _ rfl _ rfl _ hX rfl ?_) | (with_reducible refine num_load rfl _ rfl _ rfl _ hY rfl ?_) | (with_reducible refine num_load_g (by with_unfolding_all rfl) _ rfl _ rfl _ hN rfl ?_) | (with_reducible refine num_load_g (by with_unfolding_all rfl) _ rfl _ rfl _ hX rfl ?_) | (with_reducible refine num_load_g (by with_unfolding_all rfl) _ rfl _ rfl _ hY rfl ?_) | (with_reducible refine num_store_eq rfl _ _ rfl _ 0 _ rfl rfl zero4 _ hN rfl ?_))
  exact bodyPost_ret (num_results2 Try.results19 _ _ _ _ rfl rfl (hN.row _)) rfl ⟨rfl, below_setRow hbel (Nat.le_refl _) _⟩
set_option maxRecDepth 100000 in
set_option maxHeartbeats 2000000 in
theorem target_c3 (b c : Int) (z y : Nat) (KI : Hid (∀ w, Calls Try.prog 26 #[.int .i64 b] w fun e w' => e = .returned (.tuple #[.agg (numC z), .bool true]) ∧ Below w.heap.size w w')) (KI2 : Hid (∀ w, Calls Try.prog 26 #[.int .i64 c] w fun e w' => e = .returned (.tuple #[.agg (numC y), .bool true]) ∧ Below w.heap.size w w'))
    (KZ : Hid (∀ w, Calls Try.prog 22 #[.agg (numC z)] w fun e w' => e = .returned (.bool true) ∧ Below w.heap.size w w')) (w : World) :
    Calls Try.prog 19 #[.int .i64 b, .int .i64 c] w fun e w' => e = .returned (.tuple #[.agg (numC 0), .bool false]) ∧ Below w.heap.size w w' := by
  go_enter Try.func19, Try.ntmps19
  go_upto_region 1 with fail
  generalize hw0 : World.alloc _ _ = v0
  have hN : Has v0 w.heap.size (numC 0) 26 := by rw [← hw0]; exact Has.newz _
  have hbel : Below w.heap.size w v0 := by rw [← hw0]; exact (Below.refl _ _).alloc (Nat.le_refl _) _
  clear hw0
  go_wp2_with (first | fail | (with_reducible refine num_load rfl _ rfl _ rfl _ hN rfl ?_) | (with_reducible refine num_load_g (by with_unfolding_all rfl) _ rfl _ rfl _ hN rfl ?_))
  refine (KI.out _).mono ?_
  rintro e v1 ⟨rfl, hb1⟩
  replace hN := hN.on hb1
  replace hbel := hbel.trans (hb1.mono hbel.size)
  clear hb1
  go_upto_region 2 with (with_reducible refine num_store rfl _ _ rfl _ _ rfl rfl _ (Has.newz _) rfl ?_)
  generalize hw2 : World.setRow _ _ _ = v2
  have hb2 : Below v1.heap.size v1 v2 := by rw [← hw2]; exact below_setRow ((Below.refl _ _).alloc (Nat.le_refl _) _) (Nat.le_refl _) _
  have hX : Has v2 v1.heap.size (numC z) 26 := by rw [← hw2]; exact (Has.newz _).row _
  replace hN := hN.on hb2
  replace hbel := hbel.trans (hb2.mono hbel.size)
  clear hw2 hb2
  generalize v1.heap.size = b_hX at hX ⊢
  go_wp2_with (first | fail | (with_reducible refine num_load rfl _ rfl _ rfl _ hN rfl ?_) | (with_reducible refine num_load rfl _ rfl _ rfl _ hX rfl ?_) | (with_reducible refine num_load_g (by with_unfolding_all rfl) _ rfl _ rfl _ hN rfl ?_) | (with_reducible refine num_load_g (by with_unfolding_all rfl) _ rfl _ rfl _ hX rfl ?_))
  refine (KI2.out _).mono ?_
  rintro e v3 ⟨rfl, hb3⟩
  replace hN := hN.on hb3
  replace hX := hX.on hb3
  replace hbel := hbel.trans (hb3.mono hbel.size)
  clear hb3
  go_upto_region 3 with (with_reducible refine num_store rfl _ _ rfl _ _ rfl rfl _ (Has.newz _) rfl ?_)
  generalize hw4 : World.setRow _ _ _ = v4
  have hb4 : Below v3.heap.size v3 v4 := by rw [← hw4]; exact below_setRow ((Below.refl _ _).alloc (Nat.le_refl _) _) (Nat.le_refl _) _
  have hY : Has v4 v3.heap.size (numC y) 26 := by rw [← hw4]; exact (Has.newz _).row _
  replace hN := hN.on hb4
  replace hX := hX.on hb4
  replace hbel := hbel.trans (hb4.mono hbel.size)
  clear hw4 hb4
  generalize v3.heap.size = b_hY at hY ⊢
  go_wp2_with (first | fail | (with_reducible refine num_load rfl _ rfl _ rfl _ hN rfl ?_) | (with_reducible refine num_load rfl _ rfl _ rfl _ hX rfl ?_) | (with_reducible refine num_load rfl _ rfl _ rfl _ hY rfl ?_) | (with_reducible refine num_load_g (by with_unfolding_all rfl) _ rfl _ rfl _ hN rfl ?_) | (with_reducible refine num_load_g (by with_unfolding_all rfl) _ rfl _ rfl _ hX rfl ?_) | (with_reducible refine num_load_g (by with_unfolding_all rfl) _ rfl _ rfl _ hY rfl ?_))
  refine (KZ.out _).mono ?_
  rintro e v5 ⟨rfl, hb5⟩
  replace hN := hN.on hb5
  replace hX := hX.on hb5
  replace hY := hY.on hb5
  replace hbel := hbel.trans (hb5.mono hbel.size)
  clear hb5
  go_wp2_with (first | (with_reducible refine num_load rfl _ rfl _ rfl _ hN rfl ?_) | (with_reducible refine num_load rfl _ rfl _ rfl _ hX rfl ?_) | (with_reducible refine num_load rfl _ rfl _ rfl _ hY rfl ?_) | (with_reducible refine num_load_g (by with_unfolding_all rfl) _ rfl _ rfl _ hN rfl ?_) | (with_reducible refine num_load_g (by with_unfolding_all rfl) _ rfl _ rfl _ hX rfl ?_) | (with_reducible refine num_load_g (by with_unfolding_all rfl) _ rfl _ rfl _ hY rfl ?_) | (with_reducible refine num_store_eq rfl _ _ rfl _ 0 _ rfl rfl zero4 _ hN rfl ?_))
  exact bodyPost_ret (num_results2 Try.results19 _ _ _ _ rfl rfl (hN.row _)) rfl ⟨rfl, below_setRow hbel (Nat.le_refl _) _⟩
set_option maxRecDepth 100000 in
set_option maxHeartbeats 2000000 in
theorem target_c4 (b c : Int) (z y : Nat) (KI : Hid (∀ w, Calls Try.prog 26 #[.int .i64 b] w fun e w' => e = .returned (.tuple #[.agg (numC z), .bool true]) ∧ Below w.heap.size w w')) (KI2 : Hid (∀ w, Calls Try.prog 26 #[.int .i64 c] w fun e w' => e = .returned (.tuple #[.agg (numC y), .bool true]) ∧ Below w.heap.size w w'))
    (KZ : Hid (∀ w, Calls Try.prog 22 #[.agg (numC z)] w fun e w' => e = .returned (.bool false) ∧ Below w.heap.size w w')) (KL : Hid (∀ w, Calls Try.prog 21 #[.agg (numC y), .agg (numC z)] w fun e w' => e = .returned (.bool true) ∧ Below w.heap.size w w')) (w : World) :
    Calls Try.prog 19 #[.int .i64 b, .int .i64 c] w fun e w' => e = .returned (.tuple #[.agg (numC 0), .bool false]) ∧ Below w.heap.size w w' := by
  go_enter Try.func19, Try.ntmps19
  go_upto_region 1 with fail
  generalize hw0 : World.alloc _ _ = v0
  have hN : Has v0 w.heap.size (numC 0) 26 := by rw [← hw0]; exact Has.newz _
  have hbel : Below w.heap.size w v0 := by rw [← hw0]; exact (Below.refl _ _).alloc (Nat.le_refl _) _
  clear hw0
  go_wp2_with (first | fail | (with_reducible refine num_load rfl _ rfl _ rfl _ hN rfl ?_) | (with_reducible refine num_load_g (by with_unfolding_all rfl) _ rfl _ rfl _ hN rfl ?_))
  refine (KI.out _).mono ?_
  rintro e v1 ⟨rfl, hb1⟩
  replace hN := hN.on hb1
  replace hbel := hbel.trans (hb1.mono hbel.size)
  clear hb1
  go_upto_region 2 with (with_reducible refine num_store rfl _ _ rfl _ _ rfl rfl _ (Has.newz _) rfl ?_)
  generalize hw2 : World.setRow _ _ _ = v2
  have hb2 : Below v1.heap.size v1 v2 := by rw [← hw2]; exact below_setRow ((Below.refl _ _).alloc (Nat.le_refl _) _) (Nat.le_refl _) _
  have hX : Has v2 v1.heap.size (numC z) 26 := by rw [← hw2]; exact (Has.newz _).row _
  replace hN := hN.on hb2
  replace hbel := hbel.trans (hb2.mono hbel.size)
  clear hw2 hb2
  generalize v1.heap.size = b_hX at hX ⊢
  go_wp2_with (first | fail | (with_reducible refine num_load rfl _ rfl _ rfl _ hN rfl ?_) | (with_reducible refine num_load rfl _ rfl _ rfl _ hX rfl ?_) | (with_reducible refine num_load_g (by with_unfolding_all rfl) _ rfl _ rfl _ hN rfl ?_) | (with_reducible refine num_load_g (by with_unfolding_all rfl) _ rfl _ rfl _ hX rfl ?_))
  refine (KI2.out _).mono ?_
  rintro e v3 ⟨rfl, hb3⟩
  replace hN := hN.on hb3
  replace hX := hX.on hb3
  replace hbel := hbel.trans (hb3.mono hbel.size)
  clear hb3
  go_upto_region 3 with (with_reducible refine num_store rfl _ _ rfl _ _ rfl rfl _ (Has.newz _) rfl ?_)
  generalize hw4 : World.setRow _ _ _ = v4
  have hb4 : Below v3.heap.size v3 v4 := by rw [← hw4]; exact below_setRow ((Below.refl _ _).alloc (Nat.le_refl _) _) (Nat.le_refl _) _
  have hY : Has v4 v3.heap.size (numC y) 26 := by rw [← hw4]; exact (Has.newz _).row _
  replace hN := hN.on hb4
  replace hX := hX.on hb4
  replace hbel := hbel.trans (hb4.mono hbel.size)
  clear hw4 hb4
  generalize v3.heap.size = b_hY at hY ⊢
  go_wp2_with (first | fail | (with_reducible refine num_load rfl _ rfl _ rfl _ hN rfl ?_) | (with_reducible refine num_load rfl _ rfl _ rfl _ hX rfl ?_) | (with_reducible refine num_load rfl _ rfl _ rfl _ hY rfl ?_) | (with_reducible refine num_load_g (by with_unfolding_all rfl) _ rfl _ rfl _ hN rfl ?_) | (with_reducible refine num_load_g (by with_unfolding_all rfl) _ rfl _ rfl _ hX rfl ?_) | (with_reducible refine num_load_g (by with_unfolding_all rfl) _ rfl _ rfl _ hY rfl ?_))
  refine (KZ.out _).mono ?_
  rintro e v5 ⟨rfl, hb5⟩
  replace hN := hN.on hb5
  replace hX := hX.on hb5
  replace hY := hY.on hb5
  replace hbel := hbel.trans (hb5.mono hbel.size)
  clear hb5
  go_wp2_with (first | fail | (with_reducible refine num_load rfl _ rfl _ rfl _ hN rfl ?_) | (with_reducible refine num_load rfl _ rfl _ rfl _ hX rfl ?_) | (with_reducible refine num_load rfl _ rfl _ rfl _ hY rfl ?_) | (with_reducible refine num_load_g (by with_unfolding_all rfl) _ rfl _ rfl _ hN rfl ?_) | (with_reducible refine num_load_g (by with_unfolding_all rfl) _ rfl _ rfl _ hX rfl ?_) | (with_reducible refine num_load_g (by with_unfolding_all rfl) _ rfl _ rfl _ hY rfl ?_))
  refine (KL.out _).mono ?_
  rintro e v6 ⟨rfl, hb6⟩
  replace hN := hN.on hb6
  replace hX := hX.on hb6
  replace hY := hY.on hb6
  replace hbel := hbel.trans (hb6.mono hbel.size)
  clear hb6
  go_wp2_with (first | (with_reducible refine num_load rfl _ rfl _ rfl _ hN rfl ?_) | (with_reducible refine num_load rfl _ rfl _ rfl _ hX rfl ?_) | (with_reducible refine num_load rfl _ rfl _ rfl _ hY rfl ?_) | (with_reducible refine num_load_g (by with_unfolding_all rfl) _ rfl _ rfl _ hN rfl ?_) | (with_reducible refine num_load_g (by with_unfolding_all rfl) _ rfl _ rfl _ hX rfl ?_) | (with_reducible refine num_load_g (by with_unfolding_all rfl) _ rfl _ rfl _ hY rfl ?_) | (with_reducible refine num_store_eq rfl _ _ rfl _ 0 _ rfl rfl zero4 _ hN rfl ?_))
  exact bodyPost_ret (num_results2 Try.results19 _ _ _ _ rfl rfl (hN.row _)) rfl ⟨rfl, below_setRow hbel (Nat.le_refl _) _⟩
set_option maxRecDepth 100000 in
set_option maxHeartbeats 2000000 in
theorem target_c5 (b c : Int) (z y : Nat) (KI : Hid (∀ w, Calls Try.prog 26 #[.int .i64 b] w fun e w' => e = .returned (.tuple #[.agg (numC z), .bool true]) ∧ Below w.heap.size w w')) (KI2 : Hid (∀ w, Calls Try.prog 26 #[.int .i64 c] w fun e w' => e = .returned (.tuple #[.agg (numC y), .bool true]) ∧ Below w.heap.size w w'))
    (KZ : Hid (∀ w, Calls Try.prog 22 #[.agg (numC z)] w fun e w' => e = .returned (.bool false) ∧ Below w.heap.size w w')) (KL : Hid (∀ w, Calls Try.prog 21 #[.agg (numC y), .agg (numC z)] w fun e w' => e = .returned (.bool false) ∧ Below w.heap.size w w')) (w : World) :
    Calls Try.prog 19 #[.int .i64 b, .int .i64 c] w fun e w' => e = .returned (.tuple #[.agg (numC z), .bool true]) ∧ Below w.heap.size w w' := by
  go_enter Try.func19, Try.ntmps19
  go_upto_region 1 with fail
  generalize hw0 : World.alloc _ _ = v0
  have hN : Has v0 w.heap.size (numC 0) 26 := by rw [← hw0]; exact Has.newz _
  have hbel : Below w.heap.size w v0 := by rw [← hw0]; exact (Below.refl _ _).alloc (Nat.le_refl _) _
  clear hw0
  go_wp2_with (first | fail | (with_reducible refine num_load rfl _ rfl _ rfl _ hN rfl ?_) | (with_reducible refine num_load_g (by with_unfolding_all rfl) _ rfl _ rfl _ hN rfl ?_))
  refine (KI.out _).mono ?_
  rintro e v1 ⟨rfl, hb1⟩
  replace hN := hN.on hb1
  replace hbel := hbel.trans (hb1.mono hbel.size)
  clear hb1
  go_upto_region 2 with (with_reducible refine num_store rfl _ _ rfl _ _ rfl rfl _ (Has.newz _) rfl ?_)
  generalize hw2 : World.setRow _ _ _ = v2
  have hb2 : Below v1.heap.size v1 v2 := by rw [← hw2]; exact below_setRow ((Below.refl _ _).alloc (Nat.le_refl _) _) (Nat.le_refl _) _
  have hX : Has v2 v1.heap.size (numC z) 26 := by rw [← hw2]; exact (Has.newz _).row _
  replace hN := hN.on hb2
  replace hbel := hbel.trans (hb2.mono hbel.size)
  clear hw2 hb2
  generalize v1.heap.size = b_hX at hX ⊢
  go_wp2_with (first | fail | (with_reducible refine num_load rfl _ rfl _ rfl _ hN rfl ?_) | (with_reducible refine num_load rfl _ rfl _ rfl _ hX rfl ?_) | (with_reducible refine num_load_g (by with_unfolding_all rfl) _ rfl _ rfl _ hN rfl ?_) | (with_reducible refine num_load_g (by with_unfolding_all rfl) _ rfl _ rfl _ hX rfl ?_))
  refine (KI2.out _).mono ?_
  rintro e v3 ⟨rfl, hb3⟩
  replace hN := hN.on hb3
  replace hX := hX.on hb3
  replace hbel := hbel.trans (hb3.mono hbel.size)
  clear hb3
  go_upto_region 3 with (with_reducible refine num_store rfl _ _ rfl _ _ rfl rfl _ (Has.newz _) rfl ?_)
  generalize hw4 : World.setRow _ _ _ = v4
  have hb4 : Below v3.heap.size v3 v4 := by rw [← hw4]; exact below_setRow ((Below.refl _ _).alloc (Nat.le_refl _) _) (Nat.le_refl _) _
  have hY : Has v4 v3.heap.size (numC y) 26 := by rw [← hw4]; exact (Has.newz _).row _
  replace hN := hN.on hb4
  replace hX := hX.on hb4
  replace hbel := hbel.trans (hb4.mono hbel.size)
  clear hw4 hb4
  generalize v3.heap.size = b_hY at hY ⊢
  go_wp2_with (first | fail | (with_reducible refine num_load rfl _ rfl _ rfl _ hN rfl ?_) | (with_reducible refine num_load rfl _ rfl _ rfl _ hX rfl ?_) | (with_reducible refine num_load rfl _ rfl _ rfl _ hY rfl ?_) | (with_reducible refine num_load_g (by with_unfolding_all rfl) _ rfl _ rfl _ hN rfl ?_) | (with_reducible refine num_load_g (by with_unfolding_all rfl) _ rfl _ rfl _ hX rfl ?_) | (with_reducible refine num_load_g (by with_unfolding_all rfl) _ rfl _ rfl _ hY rfl ?_))
  refine (KZ.out _).mono ?_
  rintro e v5 ⟨rfl, hb5⟩
  replace hN := hN.on hb5
  replace hX := hX.on hb5
  replace hY := hY.on hb5
  replace hbel := hbel.trans (hb5.mono hbel.size)
  clear hb5
  go_wp2_with (first | fail | (with_reducible refine num_load rfl _ rfl _ rfl _ hN rfl ?_) | (with_reducible refine num_load rfl _ rfl _ rfl _ hX rfl ?_) | (with_reducible refine num_load rfl _ rfl _ rfl _ hY rfl ?_) | (with_reducible refine num_load_g (by with_unfolding_all rfl) _ rfl _ rfl _ hN rfl ?_) | (with_reducible refine num_load_g (by with_unfolding_all rfl) _ rfl _ rfl _ hX rfl ?_) | (with_reducible refine num_load_g (by with_unfolding_all rfl) _ rfl _ rfl _ hY rfl ?_))
  refine (KL.out _).mono ?_
  rintro e v6 ⟨rfl, hb6⟩
  replace hN := hN.on hb6
  replace hX := hX.on hb6
  replace hY := hY.on hb6
  replace hbel := hbel.trans (hb6.mono hbel.size)
  clear hb6
  go_wp2_with (first | (with_reducible refine num_load rfl _ rfl _ rfl _ hN rfl ?_) | (with_reducible refine num_load rfl _ rfl _ rfl _ hX rfl ?_) | (with_reducible refine num_load rfl _ rfl _ rfl _ hY rfl ?_) | (with_reducible refine num_load_g (by with_unfolding_all rfl) _ rfl _ rfl _ hN rfl ?_) | (with_reducible refine num_load_g (by with_unfolding_all rfl) _ rfl _ rfl _ hX rfl ?_) | (with_reducible refine num_load_g (by with_unfolding_all rfl) _ rfl _ rfl _ hY rfl ?_) | (with_reducible refine num_store rfl _ _ rfl _ _ rfl rfl _ hN rfl ?_))
  exact bodyPost_ret (num_results2 Try.results19 _ _ _ _ rfl rfl (hN.row _)) rfl ⟨rfl, below_setRow hbel (Nat.le_refl _) _⟩
set_option maxRecDepth 100000 in
set_option maxHeartbeats 2000000 in
theorem rtarget_c1 (b c : Int) (z y : Nat) (p q r : Bool) (KD : Hid (∀ w, Calls Try.prog 18 #[.int .i64 b] w fun e w' => e = .returned (.tuple #[.agg (numC z), .bool true, .bool p]) ∧ Below w.heap.size w w'))
    (KD2 : Hid (∀ w, Calls Try.prog 18 #[.int .i64 c] w fun e w' => e = .returned (.tuple #[.agg (numC y), .bool q, .bool r]) ∧ Below w.heap.size w w')) (w : World) :
    Calls Try.prog 10 #[.int .i64 b, .int .i64 c] w fun e w' => e = .returned (.tuple #[.agg (numC 0), .bool false]) ∧ Below w.heap.size w w' := by
  go_enter Try.func10, Try.ntmps10
  go_upto_region 1 with fail
  generalize hw0 : World.alloc _ _ = v0
  have hN : Has v0 w.heap.size (numC 0) 26 := by rw [← hw0]; exact Has.newz _
  have hbel : Below w.heap.size w v0 := by rw [← hw0]; exact (Below.refl _ _).alloc (Nat.le_refl _) _
  clear hw0
  go_wp2_with (first | fail | (with_reducible refine num_load rfl _ rfl _ rfl _ hN rfl ?_) | (with_reducible refine num_load_g (by with_unfolding_all rfl) _ rfl _ rfl _ hN rfl ?_))
  refine (KD.out _).mono ?_
  rintro e v1 ⟨rfl, hb1⟩
  replace hN := hN.on hb1
  replace hbel := hbel.trans (hb1.mono hbel.size)
  clear hb1
  go_upto_region 2 with (with_reducible refine num_store rfl _ _ rfl _ _ rfl rfl _ (Has.newz _) rfl ?_)
  generalize hw2 : World.setRow _ _ _ = v2
  have hb2 : Below v1.heap.size v1 v2 := by rw [← hw2]; exact below_setRow ((Below.refl _ _).alloc (Nat.le_refl _) _) (Nat.le_refl _) _
  have hX : Has v2 v1.heap.size (numC z) 26 := by rw [← hw2]; exact (Has.newz _).row _
  replace hN := hN.on hb2
  replace hbel := hbel.trans (hb2.mono hbel.size)
  clear hw2 hb2
  generalize v1.heap.size = b_hX at hX ⊢
  go_wp2_with (first | fail | (with_reducible refine num_load rfl _ rfl _ rfl _ hN rfl ?_) | (with_reducible refine num_load rfl _ rfl _ rfl _ hX rfl ?_) | (with_reducible refine num_load_g (by with_unfolding_all rfl) _ rfl _ rfl _ hN rfl ?_) | (with_reducible refine num_load_g (by with_unfolding_all rfl) _ rfl _ rfl _ hX rfl ?_))
  refine (KD2.out _).mono ?_
  rintro e v3 ⟨rfl, hb3⟩
  replace hN := hN.on hb3
  replace hX := hX.on hb3
  replace hbel := hbel.trans (hb3.mono hbel.size)
  clear hb3
  go_upto_region 3 with (with_reducible refine num_store rfl _ _ rfl _ _ rfl rfl _ (Has.newz _) rfl ?_)
  generalize hw4 : World.setRow _ _ _ = v4
  have hb4 : Below v3.heap.size v3 v4 := by rw [← hw4]; exact below_setRow ((Below.refl _ _).alloc (Nat.le_refl _) _) (Nat.le_refl _) _
  have hY : Has v4 v3.heap.size (numC y) 26 := by rw [← hw4]; exact (Has.newz _).row _
  replace hN := hN.on hb4
  replace hX := hX.on hb4
  replace hbel := hbel.trans (hb4.mono hbel.size)
  clear hw4 hb4
  generalize v3.heap.size = b_hY at hY ⊢
  go_wp2_with (first | (with_reducible refine num_load rfl _ rfl _ rfl _ hN rfl ?_) | (with_reducible refine num_load rfl _ rfl _ rfl _ hX rfl ?_) | (with_reducible refine num_load rfl _ rfl _ rfl _ hY rfl ?_) | (with_reducible refine num_load_g (by with_unfolding_all rfl) _ rfl _ rfl _ hN rfl ?_) | (with_reducible refine num_load_g (by with_unfolding_all rfl) _ rfl _ rfl _ hX rfl ?_) | (with_reducible refine num_load_g (by with_unfolding_all rfl) _ rfl _ rfl _ hY rfl ?_) | (with_reducible refine num_store_eq rfl _ _ rfl _ 0 _ rfl rfl zero4 _ hN rfl ?_))
  exact bodyPost_ret (num_results2 Try.results10 _ _ _ _ rfl rfl (hN.row _)) rfl ⟨rfl, below_setRow hbel (Nat.le_refl _) _⟩
set_option maxRecDepth 100000 in
set_option maxHeartbeats 2000000 in
theorem rtarget_c2 (b c : Int) (z y : Nat) (q r : Bool) (KD : Hid (∀ w, Calls Try.prog 18 #[.int .i64 b] w fun e w' => e = .returned (.tuple #[.agg (numC z), .bool false, .bool true]) ∧ Below w.heap.size w w'))
    (KD2 : Hid (∀ w, Calls Try.prog 18 #[.int .i64 c] w fun e w' => e = .returned (.tuple #[.agg (numC y), .bool q, .bool r]) ∧ Below w.heap.size w w')) (w : World) :
    Calls Try.prog 10 #[.int .i64 b, .int .i64 c] w fun e w' => e = .returned (.tuple #[.agg (numC 0), .bool false]) ∧ Below w.heap.size w w' := by
  go_enter Try.func10, Try.ntmps10
  go_upto_region 1 with fail
  generalize hw0 : World.alloc _ _ = v0
  have hN : Has v0 w.heap.size (numC 0) 26 := by rw [← hw0]; exact Has.newz _
  have hbel : Below w.heap.size w v0 := by rw [← hw0]; exact (Below.refl _ _).alloc (Nat.le_refl _) _
  clear hw0
  go_wp2_with (first | fail | (with_reducible refine num_load rfl _ rfl _ rfl _ hN rfl ?_) | (with_reducible refine num_load_g (by with_unfolding_all rfl) _ rfl _ rfl _ hN rfl ?_))
  refine (KD.out _).mono ?_
  rintro e v1 ⟨rfl, hb1⟩
  replace hN := hN.on hb1
  replace hbel := hbel.trans (hb1.mono hbel.size)
  clear hb1
  go_upto_region 2 with (with_reducible refine num_store rfl _ _ rfl _ _ rfl rfl _ (Has.newz _) rfl ?_)
  generalize hw2 : World.setRow _ _ _ = v2
  have hb2 : Below v1.heap.size v1 v2 := by rw [← hw2]; exact below_setRow ((Below.refl _ _).alloc (Nat.le_refl _) _) (Nat.le_refl _) _
  have hX : Has v2 v1.heap.size (numC z) 26 := by rw [← hw2]; exact (Has.newz _).row _
  replace hN := hN.on hb2
  replace hbel := hbel.trans (hb2.mono hbel.size)
  clear hw2 hb2
  generalize v1.heap.size = b_hX at hX ⊢
  go_wp2_with (first | fail | (with_reducible refine num_load rfl _ rfl _ rfl _ hN rfl ?_) | (with_reducible refine num_load rfl _ rfl _ rfl _ hX rfl ?_) | (with_reducible refine num_load_g (by with_unfolding_all rfl) _ rfl _ rfl _ hN rfl ?_) | (with_reducible refine num_load_g (by with_unfolding_all rfl) _ rfl _ rfl _ hX rfl ?_))
  refine (KD2.out _).mono ?_
  rintro e v3 ⟨rfl, hb3⟩
  replace hN := hN.on hb3
  replace hX := hX.on hb3
  replace hbel := hbel.trans (hb3.mono hbel.size)
  clear hb3
  go_upto_region 3 with (with_reducible refine num_store rfl _ _ rfl _ _ rfl rfl _ (Has.newz _) rfl ?_)
  generalize hw4 : World.setRow _ _ _ = v4
  have hb4 : Below v3.heap.size v3 v4 := by rw [← hw4]; exact below_setRow ((Below.refl _ _).alloc (Nat.le_refl _) _) (Nat.le_refl _) _
  have hY : Has v4 v3.heap.size (numC y) 26 := by rw [← hw4]; exact (Has.newz _).row _
  replace hN := hN.on hb4
  replace hX := hX.on hb4
  replace hbel := hbel.trans (hb4.mono hbel.size)
  clear hw4 hb4
  generalize v3.heap.size = b_hY at hY ⊢
  go_wp2_with (first | (with_reducible refine num_load rfl _ rfl _ rfl _ hN rfl ?_) | (with_reducible refine num_load rfl _ rfl _ rfl _ hX rfl ?_) | (with_reducible refine num_load rfl _ rfl _ rfl _ hY rfl ?_) | (with_reducible refine num_load_g (by with_unfolding_all rfl) _ rfl _ rfl _ hN rfl ?_) | (with_reducible refine num_load_g (by with_unfolding_all rfl) _ rfl _ rfl _ hX rfl ?_) | (with_reducible refine num_load_g (by with_unfolding_all rfl) _ rfl _ rfl _ hY rfl ?_) | (with_reducible refine num_store_eq rfl _ _ rfl _ 0 _ rfl rfl zero4 _ hN rfl ?_))
  exact bodyPost_ret (num_results2 Try.results10 _ _ _ _ rfl rfl (hN.row _)) rfl ⟨rfl, below_setRow hbel (Nat.le_refl _) _⟩
set_option maxRecDepth 100000 in
set_option maxHeartbeats 2000000 in
theorem rtarget_c3 (b c : Int) (z y : Nat) (r : Bool) (KD : Hid (∀ w, Calls Try.prog 18 #[.int .i64 b] w fun e w' => e = .returned (.tuple #[.agg (numC z), .bool false, .bool false]) ∧ Below w.heap.size w w'))
    (KD2 : Hid (∀ w, Calls Try.prog 18 #[.int .i64 c] w fun e w' => e = .returned (.tuple #[.agg (numC y), .bool true, .bool r]) ∧ Below w.heap.size w w')) (w : World) :
    Calls Try.prog 10 #[.int .i64 b, .int .i64 c] w fun e w' => e = .returned (.tuple #[.agg (numC 0), .bool false]) ∧ Below w.heap.size w w' := by
  go_enter Try.func10, Try.ntmps10
  go_upto_region 1 with fail
  generalize hw0 : World.alloc _ _ = v0
  have hN : Has v0 w.heap.size (numC 0) 26 := by rw [← hw0]; exact Has.newz _
  have hbel : Below w.heap.size w v0 := by rw [← hw0]; exact (Below.refl _ _).alloc (Nat.le_refl _) _
  clear hw0
  go_wp2_with (first | fail | (with_reducible refine num_load rfl _ rfl _ rfl _ hN rfl ?_) | (with_reducible refine num_load_g (by with_unfolding_all rfl) _ rfl _ rfl _ hN rfl ?_))
  refine (KD.out _).mono ?_
  rintro e v1 ⟨rfl, hb1⟩
  replace hN := hN.on hb1
  replace hbel := hbel.trans (hb1.mono hbel.size)
  clear hb1
  go_upto_region 2 with (with_reducible refine num_store rfl _ _ rfl _ _ rfl rfl _ (Has.newz _) rfl ?_)
  generalize hw2 : World.setRow _ _ _ = v2
  have hb2 : Below v1.heap.size v1 v2 := by rw [← hw2]; exact below_setRow ((Below.refl _ _).alloc (Nat.le_refl _) _) (Nat.le_refl _) _
  have hX : Has v2 v1.heap.size (numC z) 26 := by rw [← hw2]; exact (Has.newz _).row _
  replace hN := hN.on hb2
  replace hbel := hbel.trans (hb2.mono hbel.size)
  clear hw2 hb2
  generalize v1.heap.size = b_hX at hX ⊢
  go_wp2_with (first | fail | (with_reducible refine num_load rfl _ rfl _ rfl _ hN rfl ?_) | (with_reducible refine num_load rfl _ rfl _ rfl _ hX rfl ?_) | (with_reducible refine num_load_g (by with_unfolding_all rfl) _ rfl _ rfl _ hN rfl ?_) | (with_reducible refine num_load_g (by with_unfolding_all rfl) _ rfl _ rfl _ hX rfl ?_))
  refine (KD2.out _).mono ?_
  rintro e v3 ⟨rfl, hb3⟩
  replace hN := hN.on hb3
  replace hX := hX.on hb3
  replace hbel := hbel.trans (hb3.mono hbel.size)
  clear hb3
  go_upto_region 3 with (with_reducible refine num_store rfl _ _ rfl _ _ rfl rfl _ (Has.newz _) rfl ?_)
  generalize hw4 : World.setRow _ _ _ = v4
  have hb4 : Below v3.heap.size v3 v4 := by rw [← hw4]; exact below_setRow ((Below.refl _ _).alloc (Nat.le_refl _) _) (Nat.le_refl _) _
  have hY : Has v4 v3.heap.size (numC y) 26 := by rw [← hw4]; exact (Has.newz _).row _
  replace hN := hN.on hb4
  replace hX := hX.on hb4
  replace hbel := hbel.trans (hb4.mono hbel.size)
  clear hw4 hb4
  generalize v3.heap.size = b_hY at hY ⊢
  go_wp2_with (first | (with_reducible refine num_load rfl _ rfl _ rfl _ hN rfl ?_) | (with_reducible refine num_load rfl _ rfl _ rfl _ hX rfl ?_) | (with_reducible refine num_load rfl _ rfl _ rfl _ hY rfl ?_) | (with_reducible refine num_load_g (by with_unfolding_all rfl) _ rfl _ rfl _ hN rfl ?_) | (with_reducible refine num_load_g (by with_unfolding_all rfl) _ rfl _ rfl _ hX rfl ?_) | (with_reducible refine num_load_g (by with_unfolding_all rfl) _ rfl _ rfl _ hY rfl ?_) | (with_reducible refine num_store_eq rfl _ _ rfl _ 0 _ rfl rfl zero4 _ hN rfl ?_))
  exact bodyPost_ret (num_results2 Try.results10 _ _ _ _ rfl rfl (hN.row _)) rfl ⟨rfl, below_setRow hbel (Nat.le_refl _) _⟩
set_option maxRecDepth 100000 in
set_option maxHeartbeats 2000000 in
theorem rtarget_c4 (b c : Int) (z y : Nat) (KD : Hid (∀ w, Calls Try.prog 18 #[.int .i64 b] w fun e w' => e = .returned (.tuple #[.agg (numC z), .bool false, .bool false]) ∧ Below w.heap.size w w'))
    (KD2 : Hid (∀ w, Calls Try.prog 18 #[.int .i64 c] w fun e w' => e = .returned (.tuple #[.agg (numC y), .bool false, .bool true]) ∧ Below w.heap.size w w')) (w : World) :
    Calls Try.prog 10 #[.int .i64 b, .int .i64 c] w fun e w' => e = .returned (.tuple #[.agg (numC 0), .bool false]) ∧ Below w.heap.size w w' := by
  go_enter Try.func10, Try.ntmps10
  go_upto_region 1 with fail
  generalize hw0 : World.alloc _ _ = v0
  have hN : Has v0 w.heap.size (numC 0) 26 := by rw [← hw0]; exact Has.newz _
  have hbel : Below w.heap.size w v0 := by rw [← hw0]; exact (Below.refl _ _).alloc (Nat.le_refl _) _
  clear hw0
  go_wp2_with (first | fail | (with_reducible refine num_load rfl _ rfl _ rfl _ hN rfl ?_) | (with_reducible refine num_load_g (by with_unfolding_all rfl) _ rfl _ rfl _ hN rfl ?_))
  refine (KD.out _).mono ?_
  rintro e v1 ⟨rfl, hb1⟩
  replace hN := hN.on hb1
  replace hbel := hbel.trans (hb1.mono hbel.size)
  clear hb1
  go_upto_region 2 with (with_reducible refine num_store rfl _ _ rfl _ _ rfl rfl _ (Has.newz _) rfl ?_)
  generalize hw2 : World.setRow _ _ _ = v2
  have hb2 : Below v1.heap.size v1 v2 := by rw [← hw2]; exact below_setRow ((Below.refl _ _).alloc (Nat.le_refl _) _) (Nat.le_refl _) _
  have hX : Has v2 v1.heap.size (numC z) 26 := by rw [← hw2]; exact (Has.newz _).row _
  replace hN := hN.on hb2
  replace hbel := hbel.trans (hb2.mono hbel.size)
  clear hw2 hb2
  generalize v1.heap.size = b_hX at hX ⊢
  go_wp2_with (first | fail | (with_reducible refine num_load rfl _ rfl _ rfl _ hN rfl ?_) | (with_reducible refine num_load rfl _ rfl _ rfl _ hX rfl ?_) | (with_reducible refine num_load_g (by with_unfolding_all rfl) _ rfl _ rfl _ hN rfl ?_) | (with_reducible refine num_load_g (by with_unfolding_all rfl) _ rfl _ rfl _ hX rfl ?_))
  refine (KD2.out _).mono ?_
  rintro e v3 ⟨rfl, hb3⟩
  replace hN := hN.on hb3
  replace hX := hX.on hb3
  replace hbel := hbel.trans (hb3.mono hbel.size)
  clear hb3
  go_upto_region 3 with (with_reducible refine num_store rfl _ _ rfl _ _ rfl rfl _ (Has.newz _) rfl ?_)
  generalize hw4 : World.setRow _ _ _ = v4
  have hb4 : Below v3.heap.size v3 v4 := by rw [← hw4]; exact below_setRow ((Below.refl _ _).alloc (Nat.le_refl _) _) (Nat.le_refl _) _
  have hY : Has v4 v3.heap.size (numC y) 26 := by rw [← hw4]; exact (Has.newz _).row _
  replace hN := hN.on hb4
  replace hX := hX.on hb4
  replace hbel := hbel.trans (hb4.mono hbel.size)
  clear hw4 hb4
  generalize v3.heap.size = b_hY at hY ⊢
  go_wp2_with (first | (with_reducible refine num_load rfl _ rfl _ rfl _ hN rfl ?_) | (with_reducible refine num_load rfl _ rfl _ rfl _ hX rfl ?_) | (with_reducible refine num_load rfl _ rfl _ rfl _ hY rfl ?_) | (with_reducible refine num_load_g (by with_unfolding_all rfl) _ rfl _ rfl _ hN rfl ?_) | (with_reducible refine num_load_g (by with_unfolding_all rfl) _ rfl _ rfl _ hX rfl ?_) | (with_reducible refine num_load_g (by with_unfolding_all rfl) _ rfl _ rfl _ hY rfl ?_) | (with_reducible refine num_store_eq rfl _ _ rfl _ 0 _ rfl rfl zero4 _ hN rfl ?_))
  exact bodyPost_ret (num_results2 Try.results10 _ _ _ _ rfl rfl (hN.row _)) rfl ⟨rfl, below_setRow hbel (Nat.le_refl _) _⟩
set_option maxRecDepth 100000 in
set_option maxHeartbeats 2000000 in
theorem rtarget_c5 (b c : Int) (z y : Nat) (KD : Hid (∀ w, Calls Try.prog 18 #[.int .i64 b] w fun e w' => e = .returned (.tuple #[.agg (numC z), .bool false, .bool false]) ∧ Below w.heap.size w w'))
    (KD2 : Hid (∀ w, Calls Try.prog 18 #[.int .i64 c] w fun e w' => e = .returned (.tuple #[.agg (numC y), .bool false, .bool false]) ∧ Below w.heap.size w w'))
    (hq : ∀ w, (binOp .eql 26 (.agg (numC z)) (.agg #[.int .u64 0, .int .u64 0, .int .u64 0, .int .u64 0])).run Try.prog w = .ok (.bool true) w) (w : World) :
    Calls Try.prog 10 #[.int .i64 b, .int .i64 c] w fun e w' => e = .returned (.tuple #[.agg (numC 0), .bool false]) ∧ Below w.heap.size w w' := by
  go_enter Try.func10, Try.ntmps10
  go_upto_region 1 with fail
  generalize hw0 : World.alloc _ _ = v0
  have hN : Has v0 w.heap.size (numC 0) 26 := by rw [← hw0]; exact Has.newz _
  have hbel : Below w.heap.size w v0 := by rw [← hw0]; exact (Below.refl _ _).alloc (Nat.le_refl _) _
  clear hw0
  go_wp2_with (first | fail | (with_reducible refine num_load rfl _ rfl _ rfl _ hN rfl ?_) | (with_reducible refine num_load_g (by with_unfolding_all rfl) _ rfl _ rfl _ hN rfl ?_))
  refine (KD.out _).mono ?_
  rintro e v1 ⟨rfl, hb1⟩
  replace hN := hN.on hb1
  replace hbel := hbel.trans (hb1.mono hbel.size)
  clear hb1
  go_upto_region 2 with (with_reducible refine num_store rfl _ _ rfl _ _ rfl rfl _ (Has.newz _) rfl ?_)
  generalize hw2 : World.setRow _ _ _ = v2
  have hb2 : Below v1.heap.size v1 v2 := by rw [← hw2]; exact below_setRow ((Below.refl _ _).alloc (Nat.le_refl _) _) (Nat.le_refl _) _
  have hX : Has v2 v1.heap.size (numC z) 26 := by rw [← hw2]; exact (Has.newz _).row _
  replace hN := hN.on hb2
  replace hbel := hbel.trans (hb2.mono hbel.size)
  clear hw2 hb2
  generalize v1.heap.size = b_hX at hX ⊢
  go_wp2_with (first | fail | (with_reducible refine num_load rfl _ rfl _ rfl _ hN rfl ?_) | (with_reducible refine num_load rfl _ rfl _ rfl _ hX rfl ?_) | (with_reducible refine num_load_g (by with_unfolding_all rfl) _ rfl _ rfl _ hN rfl ?_) | (with_reducible refine num_load_g (by with_unfolding_all rfl) _ rfl _ rfl _ hX rfl ?_))
  refine (KD2.out _).mono ?_
  rintro e v3 ⟨rfl, hb3⟩
  replace hN := hN.on hb3
  replace hX := hX.on hb3
  replace hbel := hbel.trans (hb3.mono hbel.size)
  clear hb3
  go_upto_region 3 with (with_reducible refine num_store rfl _ _ rfl _ _ rfl rfl _ (Has.newz _) rfl ?_)
  generalize hw4 : World.setRow _ _ _ = v4
  have hb4 : Below v3.heap.size v3 v4 := by rw [← hw4]; exact below_setRow ((Below.refl _ _).alloc (Nat.le_refl _) _) (Nat.le_refl _) _
  have hY : Has v4 v3.heap.size (numC y) 26 := by rw [← hw4]; exact (Has.newz _).row _
  replace hN := hN.on hb4
  replace hX := hX.on hb4
  replace hbel := hbel.trans (hb4.mono hbel.size)
  clear hw4 hb4
  generalize v3.heap.size = b_hY at hY ⊢
  go_wp2_with (first | (with_reducible refine num_load rfl _ rfl _ rfl _ hN rfl ?_) | (with_reducible refine num_load rfl _ rfl _ rfl _ hX rfl ?_) | (with_reducible refine num_load rfl _ rfl _ rfl _ hY rfl ?_) | (with_reducible refine num_load_g (by with_unfolding_all rfl) _ rfl _ rfl _ hN rfl ?_) | (with_reducible refine num_load_g (by with_unfolding_all rfl) _ rfl _ rfl _ hX rfl ?_) | (with_reducible refine num_load_g (by with_unfolding_all rfl) _ rfl _ rfl _ hY rfl ?_) | (with_reducible refine num_store_eq rfl _ _ rfl _ 0 _ rfl rfl zero4 _ hN rfl ?_))
  exact bodyPost_ret (num_results2 Try.results10 _ _ _ _ rfl rfl (hN.row _)) rfl ⟨rfl, below_setRow hbel (Nat.le_refl _) _⟩
set_option maxRecDepth 100000 in
set_option maxHeartbeats 2000000 in
theorem rtarget_c6 (b c : Int) (z y : Nat) (KD : Hid (∀ w, Calls Try.prog 18 #[.int .i64 b] w fun e w' => e = .returned (.tuple #[.agg (numC z), .bool false, .bool false]) ∧ Below w.heap.size w w'))
    (KD2 : Hid (∀ w, Calls Try.prog 18 #[.int .i64 c] w fun e w' => e = .returned (.tuple #[.agg (numC y), .bool false, .bool false]) ∧ Below w.heap.size w w'))
    (hq : ∀ w, (binOp .eql 26 (.agg (numC z)) (.agg #[.int .u64 0, .int .u64 0, .int .u64 0, .int .u64 0])).run Try.prog w = .ok (.bool false) w) (KL : Hid (∀ w, Calls Try.prog 12 #[.agg (numC y), .agg (numC z)] w fun e w' => e = .returned (.bool true) ∧ Below w.heap.size w w')) (w : World) :
    Calls Try.prog 10 #[.int .i64 b, .int .i64 c] w fun e w' => e = .returned (.tuple #[.agg (numC 0), .bool false]) ∧ Below w.heap.size w w' := by
  go_enter Try.func10, Try.ntmps10
  go_upto_region 1 with fail
  generalize hw0 : World.alloc _ _ = v0
  have hN : Has v0 w.heap.size (numC 0) 26 := by rw [← hw0]; exact Has.newz _
  have hbel : Below w.heap.size w v0 := by rw [← hw0]; exact (Below.refl _ _).alloc (Nat.le_refl _) _
  clear hw0
  go_wp2_with (first | fail | (with_reducible refine num_load rfl _ rfl _ rfl _ hN rfl ?_) | (with_reducible refine num_load_g (by with_unfolding_all rfl) _ rfl _ rfl _ hN rfl ?_))
  refine (KD.out _).mono ?_
  rintro e v1 ⟨rfl, hb1⟩
  replace hN := hN.on hb1
  replace hbel := hbel.trans (hb1.mono hbel.size)
  clear hb1
  go_upto_region 2 with (with_reducible refine num_store rfl _ _ rfl _ _ rfl rfl _ (Has.newz _) rfl ?_)
  generalize hw2 : World.setRow _ _ _ = v2
  have hb2 : Below v1.heap.size v1 v2 := by rw [← hw2]; exact below_setRow ((Below.refl _ _).alloc (Nat.le_refl _) _) (Nat.le_refl _) _
  have hX : Has v2 v1.heap.size (numC z) 26 := by rw [← hw2]; exact (Has.newz _).row _
  replace hN := hN.on hb2
  replace hbel := hbel.trans (hb2.mono hbel.size)
  clear hw2 hb2
  generalize v1.heap.size = b_hX at hX ⊢
  go_wp2_with (first | fail | (with_reducible refine num_load rfl _ rfl _ rfl _ hN rfl ?_) | (with_reducible refine num_load rfl _ rfl _ rfl _ hX rfl ?_) | (with_reducible refine num_load_g (by with_unfolding_all rfl) _ rfl _ rfl _ hN rfl ?_) | (with_reducible refine num_load_g (by with_unfolding_all rfl) _ rfl _ rfl _ hX rfl ?_))
  refine (KD2.out _).mono ?_
  rintro e v3 ⟨rfl, hb3⟩
  replace hN := hN.on hb3
  replace hX := hX.on hb3
  replace hbel := hbel.trans (hb3.mono hbel.size)
  clear hb3
  go_upto_region 3 with (with_reducible refine num_store rfl _ _ rfl _ _ rfl rfl _ (Has.newz _) rfl ?_)
  generalize hw4 : World.setRow _ _ _ = v4
  have hb4 : Below v3.heap.size v3 v4 := by rw [← hw4]; exact below_setRow ((Below.refl _ _).alloc (Nat.le_refl _) _) (Nat.le_refl _) _
  have hY : Has v4 v3.heap.size (numC y) 26 := by rw [← hw4]; exact (Has.newz _).row _
  replace hN := hN.on hb4
  replace hX := hX.on hb4
  replace hbel := hbel.trans (hb4.mono hbel.size)
  clear hw4 hb4
  generalize v3.heap.size = b_hY at hY ⊢
  go_wp2_with (first | fail | (with_reducible refine num_load rfl _ rfl _ rfl _ hN rfl ?_) | (with_reducible refine num_load rfl _ rfl _ rfl _ hX rfl ?_) | (with_reducible refine num_load rfl _ rfl _ rfl _ hY rfl ?_) | (with_reducible refine num_load_g (by with_unfolding_all rfl) _ rfl _ rfl _ hN rfl ?_) | (with_reducible refine num_load_g (by with_unfolding_all rfl) _ rfl _ rfl _ hX rfl ?_) | (with_reducible refine num_load_g (by with_unfolding_all rfl) _ rfl _ rfl _ hY rfl ?_))
  refine (KL.out _).mono ?_
  rintro e v5 ⟨rfl, hb5⟩
  replace hN := hN.on hb5
  replace hX := hX.on hb5
  replace hY := hY.on hb5
  replace hbel := hbel.trans (hb5.mono hbel.size)
  clear hb5
  go_wp2_with (first | (with_reducible refine num_load rfl _ rfl _ rfl _ hN rfl ?_) | (with_reducible refine num_load rfl _ rfl _ rfl _ hX rfl ?_) | (with_reducible refine num_load rfl _ rfl _ rfl _ hY rfl ?_) | (with_reducible refine num_load_g (by with_unfolding_all rfl) _ rfl _ rfl _ hN rfl ?_) | (with_reducible refine num_load_g (by with_unfolding_all rfl) _ rfl _ rfl _ hX rfl ?_) | (with_reducible refine num_load_g (by with_unfolding_all rfl) _ rfl _ rfl _ hY rfl ?_) | (with_reducible refine num_store_eq rfl _ _ rfl _ 0 _ rfl rfl zero4 _ hN rfl ?_))
  exact bodyPost_ret (num_results2 Try.results10 _ _ _ _ rfl rfl (hN.row _)) rfl ⟨rfl, below_setRow hbel (Nat.le_refl _) _⟩
set_option maxRecDepth 100000 in
set_option maxHeartbeats 2000000 in
theorem rtarget_c7 (b c : Int) (z y : Nat) (KD : Hid (∀ w, Calls Try.prog 18 #[.int .i64 b] w fun e w' => e = .returned (.tuple #[.agg (numC z), .bool false, .bool false]) ∧ Below w.heap.size w w'))
    (KD2 : Hid (∀ w, Calls Try.prog 18 #[.int .i64 c] w fun e w' => e = .returned (.tuple #[.agg (numC y), .bool false, .bool false]) ∧ Below w.heap.size w w'))
    (hq : ∀ w, (binOp .eql 26 (.agg (numC z)) (.agg #[.int .u64 0, .int .u64 0, .int .u64 0, .int .u64 0])).run Try.prog w = .ok (.bool false) w) (KL : Hid (∀ w, Calls Try.prog 12 #[.agg (numC y), .agg (numC z)] w fun e w' => e = .returned (.bool false) ∧ Below w.heap.size w w')) (w : World) :
    Calls Try.prog 10 #[.int .i64 b, .int .i64 c] w fun e w' => e = .returned (.tuple #[.agg (numC z), .bool true]) ∧ Below w.heap.size w w' := by
  go_enter Try.func10, Try.ntmps10
  go_upto_region 1 with fail
  generalize hw0 : World.alloc _ _ = v0
  have hN : Has v0 w.heap.size (numC 0) 26 := by rw [← hw0]; exact Has.newz _
  have hbel : Below w.heap.size w v0 := by rw [← hw0]; exact (Below.refl _ _).alloc (Nat.le_refl _) _
  clear hw0
  go_wp2_with (first | fail | (with_reducible refine num_load rfl _ rfl _ rfl _ hN rfl ?_) | (with_reducible refine num_load_g (by with_unfolding_all rfl) _ rfl _ rfl _ hN rfl ?_))
  refine (KD.out _).mono ?_
  rintro e v1 ⟨rfl, hb1⟩
  replace hN := hN.on hb1
  replace hbel := hbel.trans (hb1.mono hbel.size)
  clear hb1
  go_upto_region 2 with (with_reducible refine num_store rfl _ _ rfl _ _ rfl rfl _ (Has.newz _) rfl ?_)
  generalize hw2 : World.setRow _ _ _ = v2
  have hb2 : Below v1.heap.size v1 v2 := by rw [← hw2]; exact below_setRow ((Below.refl _ _).alloc (Nat.le_refl _) _) (Nat.le_refl _) _
  have hX : Has v2 v1.heap.size (numC z) 26 := by rw [← hw2]; exact (Has.newz _).row _
  replace hN := hN.on hb2
  replace hbel := hbel.trans (hb2.mono hbel.size)
  clear hw2 hb2
  generalize v1.heap.size = b_hX at hX ⊢
  go_wp2_with (first | fail | (with_reducible refine num_load rfl _ rfl _ rfl _ hN rfl ?_) | (with_reducible refine num_load rfl _ rfl _ rfl _ hX rfl ?_) | (with_reducible refine num_load_g (by with_unfolding_all rfl) _ rfl _ rfl _ hN rfl ?_) | (with_reducible refine num_load_g (by with_unfolding_all rfl) _ rfl _ rfl _ hX rfl ?_))
  refine (KD2.out _).mono ?_
  rintro e v3 ⟨rfl, hb3⟩
  replace hN := hN.on hb3
  replace hX := hX.on hb3
  replace hbel := hbel.trans (hb3.mono hbel.size)
  clear hb3
  go_upto_region 3 with (with_reducible refine num_store rfl _ _ rfl _ _ rfl rfl _ (Has.newz _) rfl ?_)
  generalize hw4 : World.setRow _ _ _ = v4
  have hb4 : Below v3.heap.size v3 v4 := by rw [← hw4]; exact below_setRow ((Below.refl _ _).alloc (Nat.le_refl _) _) (Nat.le_refl _) _
  have hY : Has v4 v3.heap.size (numC y) 26 := by rw [← hw4]; exact (Has.newz _).row _
  replace hN := hN.on hb4
  replace hX := hX.on hb4
  replace hbel := hbel.trans (hb4.mono hbel.size)
  clear hw4 hb4
  generalize v3.heap.size = b_hY at hY ⊢
  go_wp2_with (first | fail | (with_reducible refine num_load rfl _ rfl _ rfl _ hN rfl ?_) | (with_reducible refine num_load rfl _ rfl _ rfl _ hX rfl ?_) | (with_reducible refine num_load rfl _ rfl _ rfl _ hY rfl ?_) | (with_reducible refine num_load_g (by with_unfolding_all rfl) _ rfl _ rfl _ hN rfl ?_) | (with_reducible refine num_load_g (by with_unfolding_all rfl) _ rfl _ rfl _ hX rfl ?_) | (with_reducible refine num_load_g (by with_unfolding_all rfl) _ rfl _ rfl _ hY rfl ?_))
  refine (KL.out _).mono ?_
  rintro e v5 ⟨rfl, hb5⟩
  replace hN := hN.on hb5
  replace hX := hX.on hb5
  replace hY := hY.on hb5
  replace hbel := hbel.trans (hb5.mono hbel.size)
  clear hb5
  go_wp2_with (first | (with_reducible refine num_load rfl _ rfl _ rfl _ hN rfl ?_) | (with_reducible refine num_load rfl _ rfl _ rfl _ hX rfl ?_) | (with_reducible refine num_load rfl _ rfl _ rfl _ hY rfl ?_) | (with_reducible refine num_load_g (by with_unfolding_all rfl) _ rfl _ rfl _ hN rfl ?_) | (with_reducible refine num_load_g (by with_unfolding_all rfl) _ rfl _ rfl _ hX rfl ?_) | (with_reducible refine num_load_g (by with_unfolding_all rfl) _ rfl _ rfl _ hY rfl ?_) | (with_reducible refine num_store rfl _ _ rfl _ _ rfl rfl _ hN rfl ?_))
  exact bodyPost_ret (num_results2 Try.results10 _ _ _ _ rfl rfl (hN.row _)) rfl ⟨rfl, below_setRow hbel (Nat.le_refl _) _⟩
end Go.Proofs.Ytmemppkkchfphaa
