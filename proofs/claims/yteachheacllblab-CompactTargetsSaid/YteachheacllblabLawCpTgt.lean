import Derived.Test.YteachheacllblabCpTarget
namespace Go.Proofs.Yteachheacllblab
open Go.RowKit
theorem eql_bool_same (b : Bool) (w : World) : (binOp .eql 4 (.bool b) (.bool b)).run Try.prog w = .ok (.bool true) w := by
  cases b <;> kernel_rfl
theorem decode_both (b : Int) : ∃ (z : Nat) (low over : Bool), z < Nm.big ∧ (∀ w, Calls Try.prog 10 #[.int .i64 b] w fun e w' => e = .returned (.tuple #[.agg (numC z), .bool low, .bool over]) ∧ Below w.heap.size w w') ∧ (∀ w, Calls Try.prog 17 #[.int .i64 b] w fun e w' => e = .returned (.tuple #[.agg (numC z), .bool low, .bool over]) ∧ Below w.heap.size w w') := by
  by_cases h : 0 ≤ b ∧ b ≤ 4294967295
  · obtain ⟨n, rfl⟩ := Int.eq_ofNat_of_zero_le h.1
    exact ⟨_, _, _, Nm.mv_lt (by unfold Nm.big; omega) _, fun w => decode_yes n (by omega) w, fun w => ref_decode_yes n (by omega) w⟩
  · exact ⟨0, false, false, by decide, fun w => decode_no b h w, fun w => ref_decode_no b h w⟩
def tgt (z y : Nat) (low over low2 over2 : Bool) : Bool := !low && !over && !low2 && !over2 && !decide (z = 0) && !decide (y < z)
theorem target_any (b c : Int) (z y : Nat) (low over low2 over2 : Bool) (hz : z < Nm.big) (hy : y < Nm.big)
    (KD : Hid (∀ w, Calls Try.prog 10 #[.int .i64 b] w fun e w' => e = .returned (.tuple #[.agg (numC z), .bool low, .bool over]) ∧ Below w.heap.size w w'))
    (KD2 : Hid (∀ w, Calls Try.prog 10 #[.int .i64 c] w fun e w' => e = .returned (.tuple #[.agg (numC y), .bool low2, .bool over2]) ∧ Below w.heap.size w w')) (w : World) :
    Calls Try.prog 15 #[.int .i64 b, .int .i64 c] w fun e w' => e = .returned (.tuple #[.agg (numC (if tgt z y low over low2 over2 then z else 0)), .bool (tgt z y low over low2 over2)]) ∧ Below w.heap.size w w' := by
  have i1 := fun g hg => Lib.hid (inRange_is b z low over g hg KD)
  have i2 := fun g hg => Lib.hid (inRange_is c y low2 over2 g hg KD2)
  by_cases h1 : (!low && !over) = false
  · have e : tgt z y low over low2 over2 = false := by unfold tgt; rw [h1]; simp
    rw [e, if_neg (by simp)]
    exact target_c1 b c _ z y (i1 false h1) (i2 _ rfl) w
  have h1' : (!low && !over) = true := by simpa using h1
  by_cases h2 : (!low2 && !over2) = false
  · have e : tgt z y low over low2 over2 = false := by unfold tgt; rw [h1']; revert h2; cases low2 <;> cases over2 <;> simp
    rw [e, if_neg (by simp)]
    exact target_c2 b c z y (i1 true h1') (i2 false h2) w
  have h2' : (!low2 && !over2) = true := by simpa using h2
  have ht : tgt z y low over low2 over2 = (!decide (z = 0) && !decide (y < z)) := by
    revert h1' h2'; unfold tgt; cases low <;> cases over <;> cases low2 <;> cases over2 <;> simp
  by_cases h3 : z = 0
  · have e : tgt z y low over low2 over2 = false := by rw [ht, decide_eq_true h3]; simp
    rw [e, if_neg (by simp)]
    exact target_c3 b c z y (i1 true h1') (i2 true h2') (Lib.hid (zero_is z hz true (decide_eq_true h3))) w
  by_cases h4 : y < z
  · have e : tgt z y low over low2 over2 = false := by rw [ht, decide_eq_true h4]; simp
    rw [e, if_neg (by simp)]
    exact target_c4 b c z y (i1 true h1') (i2 true h2') (Lib.hid (zero_is z hz false (decide_eq_false h3))) (Lib.hid (less_is y z hy hz true (decide_eq_true h4))) w
  · have e : tgt z y low over low2 over2 = true := by rw [ht, decide_eq_false h4, decide_eq_false h3]; rfl
    rw [e, if_pos rfl]
    exact target_c5 b c z y (i1 true h1') (i2 true h2') (Lib.hid (zero_is z hz false (decide_eq_false h3))) (Lib.hid (less_is y z hy hz false (decide_eq_false h4))) w
theorem rtarget_any (b c : Int) (z y : Nat) (low over low2 over2 : Bool) (hz : z < Nm.big) (hy : y < Nm.big)
    (KD : Hid (∀ w, Calls Try.prog 17 #[.int .i64 b] w fun e w' => e = .returned (.tuple #[.agg (numC z), .bool low, .bool over]) ∧ Below w.heap.size w w'))
    (KD2 : Hid (∀ w, Calls Try.prog 17 #[.int .i64 c] w fun e w' => e = .returned (.tuple #[.agg (numC y), .bool low2, .bool over2]) ∧ Below w.heap.size w w')) (w : World) :
    Calls Try.prog 16 #[.int .i64 b, .int .i64 c] w fun e w' => e = .returned (.tuple #[.agg (numC (if tgt z y low over low2 over2 then z else 0)), .bool (tgt z y low over low2 over2)]) ∧ Below w.heap.size w w' := by
  cases low
  case true => exact rtarget_c1 b c z y _ _ _ KD KD2 w
  cases over
  case true => exact rtarget_c2 b c z y _ _ KD KD2 w
  cases low2
  case true => exact rtarget_c3 b c z y _ KD KD2 w
  cases over2
  case true => exact rtarget_c4 b c z y KD KD2 w
  have ht : tgt z y false false false false = (!decide (z = 0) && !decide (y < z)) := rfl
  by_cases h3 : z = 0
  · have e : tgt z y false false false false = false := by rw [ht, decide_eq_true h3]; simp
    rw [e, if_neg (by simp)]
    exact rtarget_c5 b c z y KD KD2 (eql_zero z hz true (decide_eq_true h3)) w
  by_cases h4 : y < z
  · have e : tgt z y false false false false = false := by rw [ht, decide_eq_true h4]; simp
    rw [e, if_neg (by simp)]
    exact rtarget_c6 b c z y KD KD2 (eql_zero z hz false (decide_eq_false h3)) (Lib.hid (ref_less_is y z hy hz true (decide_eq_true h4))) w
  · have e : tgt z y false false false false = true := by rw [ht, decide_eq_false h4, decide_eq_false h3]; rfl
    rw [e, if_pos rfl]
    exact rtarget_c7 b c z y KD KD2 (eql_zero z hz false (decide_eq_false h3)) (Lib.hid (ref_less_is y z hy hz false (decide_eq_false h4))) w
theorem neq_zero (z : Nat) (hz : z < Nm.big) (g : Bool) (hg : (!decide (z = 0)) = g) (w : World) : (binOp .neq 24 (.agg (numC z)) (.agg #[.int .u64 0, .int .u64 0, .int .u64 0, .int .u64 0])).run Try.prog w = .ok (.bool g) w := by
  rw [← hg]; exact neq_num hz (show 0 < Nm.big by decide) w
set_option maxRecDepth 100000 in
set_option maxHeartbeats 2000000 in
theorem targets_c1 (b c : Int) (r x y : Nat) (g q : Bool) (KT : Hid (∀ w, Calls Try.prog 15 #[.int .i64 b, .int .i64 c] w fun e w' => e = .returned (.tuple #[.agg (numC r), .bool g]) ∧ Below w.heap.size w w'))
    (KR : Hid (∀ w, Calls Try.prog 16 #[.int .i64 b, .int .i64 c] w fun e w' => e = .returned (.tuple #[.agg (numC r), .bool g]) ∧ Below w.heap.size w w'))
    (KS : Hid (∀ w, Calls Try.prog 15 #[.int .i64 c, .int .i64 c] w fun e w' => e = .returned (.tuple #[.agg (numC x), .bool false]) ∧ Below w.heap.size w w'))
    (KD : Hid (∀ w, Calls Try.prog 17 #[.int .i64 c] w fun e w' => e = .returned (.tuple #[.agg (numC y), .bool true, .bool q]) ∧ Below w.heap.size w w')) (w : World) :
    Calls Try.prog 4 #[.int .i64 b, .int .i64 c] w fun e w' => e = .returned (.bool true) ∧ Below w.heap.size w w' := by
  go_enter Try.func4, Try.ntmps4
  have hbel := Below.refl w.heap.size w
  go_wp2_with fail
  refine (alive _).mono ?_
  rintro e v1 ⟨rfl, hb1⟩
  replace hbel := hbel.trans (hb1.mono hbel.size)
  clear hb1
  go_wp2_with fail
  refine (KT.out _).mono ?_
  rintro e v2 ⟨rfl, hb2⟩
  replace hbel := hbel.trans (hb2.mono hbel.size)
  clear hb2
  go_upto_region 4 with (with_reducible refine num_store rfl _ _ rfl _ _ rfl rfl _ (Has.newz _) rfl ?_)
  generalize hw3 : World.setRow _ _ _ = v3
  have hb3 : Below v2.heap.size v2 v3 := by rw [← hw3]; exact below_setRow ((Below.refl _ _).alloc (Nat.le_refl _) _) (Nat.le_refl _) _
  have hN1 : Has v3 v2.heap.size (numC r) 24 := by rw [← hw3]; exact (Has.newz _).row _
  replace hbel := hbel.trans (hb3.mono hbel.size)
  clear hw3 hb3
  generalize v2.heap.size = b_hN1 at hN1 ⊢
  go_wp2_with (first | fail | (with_reducible refine num_load rfl _ rfl _ rfl _ hN1 rfl ?_) | (with_reducible refine num_load_g (by with_unfolding_all rfl) _ rfl _ rfl _ hN1 rfl ?_))
  refine (KR.out _).mono ?_
  rintro e v4 ⟨rfl, hb4⟩
  replace hN1 := hN1.on hb4
  replace hbel := hbel.trans (hb4.mono hbel.size)
  clear hb4
  go_upto_region 5 with (with_reducible refine num_store rfl _ _ rfl _ _ rfl rfl _ (Has.newz _) rfl ?_)
  generalize hw5 : World.setRow _ _ _ = v5
  have hb5 : Below v4.heap.size v4 v5 := by rw [← hw5]; exact below_setRow ((Below.refl _ _).alloc (Nat.le_refl _) _) (Nat.le_refl _) _
  have hN2 : Has v5 v4.heap.size (numC r) 24 := by rw [← hw5]; exact (Has.newz _).row _
  replace hN1 := hN1.on hb5
  replace hbel := hbel.trans (hb5.mono hbel.size)
  clear hw5 hb5
  generalize v4.heap.size = b_hN2 at hN2 ⊢
  go_wp2_with (first | fail | (with_reducible refine num_load rfl _ rfl _ rfl _ hN1 rfl ?_) | (with_reducible refine num_load rfl _ rfl _ rfl _ hN2 rfl ?_) | (with_reducible refine num_load_g (by with_unfolding_all rfl) _ rfl _ rfl _ hN1 rfl ?_) | (with_reducible refine num_load_g (by with_unfolding_all rfl) _ rfl _ rfl _ hN2 rfl ?_))
  refine (KS.out _).mono ?_
  rintro e v6 ⟨rfl, hb6⟩
  replace hN1 := hN1.on hb6
  replace hN2 := hN2.on hb6
  replace hbel := hbel.trans (hb6.mono hbel.size)
  clear hb6
  go_upto_region 6 with (with_reducible refine num_store rfl _ _ rfl _ _ rfl rfl _ (Has.newz _) rfl ?_)
  generalize hw7 : World.setRow _ _ _ = v7
  have hb7 : Below v6.heap.size v6 v7 := by rw [← hw7]; exact below_setRow ((Below.refl _ _).alloc (Nat.le_refl _) _) (Nat.le_refl _) _
  have hN3 : Has v7 v6.heap.size (numC x) 24 := by rw [← hw7]; exact (Has.newz _).row _
  replace hN1 := hN1.on hb7
  replace hN2 := hN2.on hb7
  replace hbel := hbel.trans (hb7.mono hbel.size)
  clear hw7 hb7
  generalize v6.heap.size = b_hN3 at hN3 ⊢
  go_wp2_with (first | fail | (with_reducible refine num_load rfl _ rfl _ rfl _ hN1 rfl ?_) | (with_reducible refine num_load rfl _ rfl _ rfl _ hN2 rfl ?_) | (with_reducible refine num_load rfl _ rfl _ rfl _ hN3 rfl ?_) | (with_reducible refine num_load_g (by with_unfolding_all rfl) _ rfl _ rfl _ hN1 rfl ?_) | (with_reducible refine num_load_g (by with_unfolding_all rfl) _ rfl _ rfl _ hN2 rfl ?_) | (with_reducible refine num_load_g (by with_unfolding_all rfl) _ rfl _ rfl _ hN3 rfl ?_))
  refine (KD.out _).mono ?_
  rintro e v8 ⟨rfl, hb8⟩
  replace hN1 := hN1.on hb8
  replace hN2 := hN2.on hb8
  replace hN3 := hN3.on hb8
  replace hbel := hbel.trans (hb8.mono hbel.size)
  clear hb8
  go_upto_region 7 with (with_reducible refine num_store rfl _ _ rfl _ _ rfl rfl _ (Has.newz _) rfl ?_)
  generalize hw9 : World.setRow _ _ _ = v9
  have hb9 : Below v8.heap.size v8 v9 := by rw [← hw9]; exact below_setRow ((Below.refl _ _).alloc (Nat.le_refl _) _) (Nat.le_refl _) _
  have hN4 : Has v9 v8.heap.size (numC y) 24 := by rw [← hw9]; exact (Has.newz _).row _
  replace hN1 := hN1.on hb9
  replace hN2 := hN2.on hb9
  replace hN3 := hN3.on hb9
  replace hbel := hbel.trans (hb9.mono hbel.size)
  clear hw9 hb9
  generalize v8.heap.size = b_hN4 at hN4 ⊢
  have hq := eql_same''
  have hqb := eql_bool_same
  go_wp2_with (first | fail | (with_reducible refine num_load rfl _ rfl _ rfl _ hN1 rfl ?_) | (with_reducible refine num_load rfl _ rfl _ rfl _ hN2 rfl ?_) | (with_reducible refine num_load rfl _ rfl _ rfl _ hN3 rfl ?_) | (with_reducible refine num_load rfl _ rfl _ rfl _ hN4 rfl ?_) | (with_reducible refine num_load_g (by with_unfolding_all rfl) _ rfl _ rfl _ hN1 rfl ?_) | (with_reducible refine num_load_g (by with_unfolding_all rfl) _ rfl _ rfl _ hN2 rfl ?_) | (with_reducible refine num_load_g (by with_unfolding_all rfl) _ rfl _ rfl _ hN3 rfl ?_) | (with_reducible refine num_load_g (by with_unfolding_all rfl) _ rfl _ rfl _ hN4 rfl ?_))
  go_ret
  exact ⟨rfl, hbel⟩
set_option maxRecDepth 100000 in
set_option maxHeartbeats 2000000 in
theorem targets_c2 (b c : Int) (r x y : Nat) (g : Bool) (KT : Hid (∀ w, Calls Try.prog 15 #[.int .i64 b, .int .i64 c] w fun e w' => e = .returned (.tuple #[.agg (numC r), .bool g]) ∧ Below w.heap.size w w'))
    (KR : Hid (∀ w, Calls Try.prog 16 #[.int .i64 b, .int .i64 c] w fun e w' => e = .returned (.tuple #[.agg (numC r), .bool g]) ∧ Below w.heap.size w w'))
    (KS : Hid (∀ w, Calls Try.prog 15 #[.int .i64 c, .int .i64 c] w fun e w' => e = .returned (.tuple #[.agg (numC x), .bool false]) ∧ Below w.heap.size w w'))
    (KD : Hid (∀ w, Calls Try.prog 17 #[.int .i64 c] w fun e w' => e = .returned (.tuple #[.agg (numC y), .bool false, .bool true]) ∧ Below w.heap.size w w')) (w : World) :
    Calls Try.prog 4 #[.int .i64 b, .int .i64 c] w fun e w' => e = .returned (.bool true) ∧ Below w.heap.size w w' := by
  go_enter Try.func4, Try.ntmps4
  have hbel := Below.refl w.heap.size w
  go_wp2_with fail
  refine (alive _).mono ?_
  rintro e v1 ⟨rfl, hb1⟩
  replace hbel := hbel.trans (hb1.mono hbel.size)
  clear hb1
  go_wp2_with fail
  refine (KT.out _).mono ?_
  rintro e v2 ⟨rfl, hb2⟩
  replace hbel := hbel.trans (hb2.mono hbel.size)
  clear hb2
  go_upto_region 4 with (with_reducible refine num_store rfl _ _ rfl _ _ rfl rfl _ (Has.newz _) rfl ?_)
  generalize hw3 : World.setRow _ _ _ = v3
  have hb3 : Below v2.heap.size v2 v3 := by rw [← hw3]; exact below_setRow ((Below.refl _ _).alloc (Nat.le_refl _) _) (Nat.le_refl _) _
  have hN1 : Has v3 v2.heap.size (numC r) 24 := by rw [← hw3]; exact (Has.newz _).row _
  replace hbel := hbel.trans (hb3.mono hbel.size)
  clear hw3 hb3
  generalize v2.heap.size = b_hN1 at hN1 ⊢
  go_wp2_with (first | fail | (with_reducible refine num_load rfl _ rfl _ rfl _ hN1 rfl ?_) | (with_reducible refine num_load_g (by with_unfolding_all rfl) _ rfl _ rfl _ hN1 rfl ?_))
  refine (KR.out _).mono ?_
  rintro e v4 ⟨rfl, hb4⟩
  replace hN1 := hN1.on hb4
  replace hbel := hbel.trans (hb4.mono hbel.size)
  clear hb4
  go_upto_region 5 with (with_reducible refine num_store rfl _ _ rfl _ _ rfl rfl _ (Has.newz _) rfl ?_)
  generalize hw5 : World.setRow _ _ _ = v5
  have hb5 : Below v4.heap.size v4 v5 := by rw [← hw5]; exact below_setRow ((Below.refl _ _).alloc (Nat.le_refl _) _) (Nat.le_refl _) _
  have hN2 : Has v5 v4.heap.size (numC r) 24 := by rw [← hw5]; exact (Has.newz _).row _
  replace hN1 := hN1.on hb5
  replace hbel := hbel.trans (hb5.mono hbel.size)
  clear hw5 hb5
  generalize v4.heap.size = b_hN2 at hN2 ⊢
  go_wp2_with (first | fail | (with_reducible refine num_load rfl _ rfl _ rfl _ hN1 rfl ?_) | (with_reducible refine num_load rfl _ rfl _ rfl _ hN2 rfl ?_) | (with_reducible refine num_load_g (by with_unfolding_all rfl) _ rfl _ rfl _ hN1 rfl ?_) | (with_reducible refine num_load_g (by with_unfolding_all rfl) _ rfl _ rfl _ hN2 rfl ?_))
  refine (KS.out _).mono ?_
  rintro e v6 ⟨rfl, hb6⟩
  replace hN1 := hN1.on hb6
  replace hN2 := hN2.on hb6
  replace hbel := hbel.trans (hb6.mono hbel.size)
  clear hb6
  go_upto_region 6 with (with_reducible refine num_store rfl _ _ rfl _ _ rfl rfl _ (Has.newz _) rfl ?_)
  generalize hw7 : World.setRow _ _ _ = v7
  have hb7 : Below v6.heap.size v6 v7 := by rw [← hw7]; exact below_setRow ((Below.refl _ _).alloc (Nat.le_refl _) _) (Nat.le_refl _) _
  have hN3 : Has v7 v6.heap.size (numC x) 24 := by rw [← hw7]; exact (Has.newz _).row _
  replace hN1 := hN1.on hb7
  replace hN2 := hN2.on hb7
  replace hbel := hbel.trans (hb7.mono hbel.size)
  clear hw7 hb7
  generalize v6.heap.size = b_hN3 at hN3 ⊢
  go_wp2_with (first | fail | (with_reducible refine num_load rfl _ rfl _ rfl _ hN1 rfl ?_) | (with_reducible refine num_load rfl _ rfl _ rfl _ hN2 rfl ?_) | (with_reducible refine num_load rfl _ rfl _ rfl _ hN3 rfl ?_) | (with_reducible refine num_load_g (by with_unfolding_all rfl) _ rfl _ rfl _ hN1 rfl ?_) | (with_reducible refine num_load_g (by with_unfolding_all rfl) _ rfl _ rfl _ hN2 rfl ?_) | (with_reducible refine num_load_g (by with_unfolding_all rfl) _ rfl _ rfl _ hN3 rfl ?_))
  refine (KD.out _).mono ?_
  rintro e v8 ⟨rfl, hb8⟩
  replace hN1 := hN1.on hb8
  replace hN2 := hN2.on hb8
  replace hN3 := hN3.on hb8
  replace hbel := hbel.trans (hb8.mono hbel.size)
  clear hb8
  go_upto_region 7 with (with_reducible refine num_store rfl _ _ rfl _ _ rfl rfl _ (Has.newz _) rfl ?_)
  generalize hw9 : World.setRow _ _ _ = v9
  have hb9 : Below v8.heap.size v8 v9 := by rw [← hw9]; exact below_setRow ((Below.refl _ _).alloc (Nat.le_refl _) _) (Nat.le_refl _) _
  have hN4 : Has v9 v8.heap.size (numC y) 24 := by rw [← hw9]; exact (Has.newz _).row _
  replace hN1 := hN1.on hb9
  replace hN2 := hN2.on hb9
  replace hN3 := hN3.on hb9
  replace hbel := hbel.trans (hb9.mono hbel.size)
  clear hw9 hb9
  generalize v8.heap.size = b_hN4 at hN4 ⊢
  have hq := eql_same''
  have hqb := eql_bool_same
  go_wp2_with (first | fail | (with_reducible refine num_load rfl _ rfl _ rfl _ hN1 rfl ?_) | (with_reducible refine num_load rfl _ rfl _ rfl _ hN2 rfl ?_) | (with_reducible refine num_load rfl _ rfl _ rfl _ hN3 rfl ?_) | (with_reducible refine num_load rfl _ rfl _ rfl _ hN4 rfl ?_) | (with_reducible refine num_load_g (by with_unfolding_all rfl) _ rfl _ rfl _ hN1 rfl ?_) | (with_reducible refine num_load_g (by with_unfolding_all rfl) _ rfl _ rfl _ hN2 rfl ?_) | (with_reducible refine num_load_g (by with_unfolding_all rfl) _ rfl _ rfl _ hN3 rfl ?_) | (with_reducible refine num_load_g (by with_unfolding_all rfl) _ rfl _ rfl _ hN4 rfl ?_))
  go_ret
  exact ⟨rfl, hbel⟩
set_option maxRecDepth 100000 in
set_option maxHeartbeats 2000000 in
theorem targets_c3 (b c : Int) (r x y : Nat) (g : Bool) (KT : Hid (∀ w, Calls Try.prog 15 #[.int .i64 b, .int .i64 c] w fun e w' => e = .returned (.tuple #[.agg (numC r), .bool g]) ∧ Below w.heap.size w w'))
    (KR : Hid (∀ w, Calls Try.prog 16 #[.int .i64 b, .int .i64 c] w fun e w' => e = .returned (.tuple #[.agg (numC r), .bool g]) ∧ Below w.heap.size w w'))
    (KS : Hid (∀ w, Calls Try.prog 15 #[.int .i64 c, .int .i64 c] w fun e w' => e = .returned (.tuple #[.agg (numC x), .bool false]) ∧ Below w.heap.size w w'))
    (KD : Hid (∀ w, Calls Try.prog 17 #[.int .i64 c] w fun e w' => e = .returned (.tuple #[.agg (numC y), .bool false, .bool false]) ∧ Below w.heap.size w w'))
    (hn : ∀ w, (binOp .neq 24 (.agg (numC y)) (.agg #[.int .u64 0, .int .u64 0, .int .u64 0, .int .u64 0])).run Try.prog w = .ok (.bool false) w) (w : World) :
    Calls Try.prog 4 #[.int .i64 b, .int .i64 c] w fun e w' => e = .returned (.bool true) ∧ Below w.heap.size w w' := by
  go_enter Try.func4, Try.ntmps4
  have hbel := Below.refl w.heap.size w
  go_wp2_with fail
  refine (alive _).mono ?_
  rintro e v1 ⟨rfl, hb1⟩
  replace hbel := hbel.trans (hb1.mono hbel.size)
  clear hb1
  go_wp2_with fail
  refine (KT.out _).mono ?_
  rintro e v2 ⟨rfl, hb2⟩
  replace hbel := hbel.trans (hb2.mono hbel.size)
  clear hb2
  go_upto_region 4 with (with_reducible refine num_store rfl _ _ rfl _ _ rfl rfl _ (Has.newz _) rfl ?_)
  generalize hw3 : World.setRow _ _ _ = v3
  have hb3 : Below v2.heap.size v2 v3 := by rw [← hw3]; exact below_setRow ((Below.refl _ _).alloc (Nat.le_refl _) _) (Nat.le_refl _) _
  have hN1 : Has v3 v2.heap.size (numC r) 24 := by rw [← hw3]; exact (Has.newz _).row _
  replace hbel := hbel.trans (hb3.mono hbel.size)
  clear hw3 hb3
  generalize v2.heap.size = b_hN1 at hN1 ⊢
  go_wp2_with (first | fail | (with_reducible refine num_load rfl _ rfl _ rfl _ hN1 rfl ?_) | (with_reducible refine num_load_g (by with_unfolding_all rfl) _ rfl _ rfl _ hN1 rfl ?_))
  refine (KR.out _).mono ?_
  rintro e v4 ⟨rfl, hb4⟩
  replace hN1 := hN1.on hb4
  replace hbel := hbel.trans (hb4.mono hbel.size)
  clear hb4
  go_upto_region 5 with (with_reducible refine num_store rfl _ _ rfl _ _ rfl rfl _ (Has.newz _) rfl ?_)
  generalize hw5 : World.setRow _ _ _ = v5
  have hb5 : Below v4.heap.size v4 v5 := by rw [← hw5]; exact below_setRow ((Below.refl _ _).alloc (Nat.le_refl _) _) (Nat.le_refl _) _
  have hN2 : Has v5 v4.heap.size (numC r) 24 := by rw [← hw5]; exact (Has.newz _).row _
  replace hN1 := hN1.on hb5
  replace hbel := hbel.trans (hb5.mono hbel.size)
  clear hw5 hb5
  generalize v4.heap.size = b_hN2 at hN2 ⊢
  go_wp2_with (first | fail | (with_reducible refine num_load rfl _ rfl _ rfl _ hN1 rfl ?_) | (with_reducible refine num_load rfl _ rfl _ rfl _ hN2 rfl ?_) | (with_reducible refine num_load_g (by with_unfolding_all rfl) _ rfl _ rfl _ hN1 rfl ?_) | (with_reducible refine num_load_g (by with_unfolding_all rfl) _ rfl _ rfl _ hN2 rfl ?_))
  refine (KS.out _).mono ?_
  rintro e v6 ⟨rfl, hb6⟩
  replace hN1 := hN1.on hb6
  replace hN2 := hN2.on hb6
  replace hbel := hbel.trans (hb6.mono hbel.size)
  clear hb6
  go_upto_region 6 with (with_reducible refine num_store rfl _ _ rfl _ _ rfl rfl _ (Has.newz _) rfl ?_)
  generalize hw7 : World.setRow _ _ _ = v7
  have hb7 : Below v6.heap.size v6 v7 := by rw [← hw7]; exact below_setRow ((Below.refl _ _).alloc (Nat.le_refl _) _) (Nat.le_refl _) _
  have hN3 : Has v7 v6.heap.size (numC x) 24 := by rw [← hw7]; exact (Has.newz _).row _
  replace hN1 := hN1.on hb7
  replace hN2 := hN2.on hb7
  replace hbel := hbel.trans (hb7.mono hbel.size)
  clear hw7 hb7
  generalize v6.heap.size = b_hN3 at hN3 ⊢
  go_wp2_with (first | fail | (with_reducible refine num_load rfl _ rfl _ rfl _ hN1 rfl ?_) | (with_reducible refine num_load rfl _ rfl _ rfl _ hN2 rfl ?_) | (with_reducible refine num_load rfl _ rfl _ rfl _ hN3 rfl ?_) | (with_reducible refine num_load_g (by with_unfolding_all rfl) _ rfl _ rfl _ hN1 rfl ?_) | (with_reducible refine num_load_g (by with_unfolding_all rfl) _ rfl _ rfl _ hN2 rfl ?_) | (with_reducible refine num_load_g (by with_unfolding_all rfl) _ rfl _ rfl _ hN3 rfl ?_))
  refine (KD.out _).mono ?_
  rintro e v8 ⟨rfl, hb8⟩
  replace hN1 := hN1.on hb8
  replace hN2 := hN2.on hb8
  replace hN3 := hN3.on hb8
  replace hbel := hbel.trans (hb8.mono hbel.size)
  clear hb8
  go_upto_region 7 with (with_reducible refine num_store rfl _ _ rfl _ _ rfl rfl _ (Has.newz _) rfl ?_)
  generalize hw9 : World.setRow _ _ _ = v9
  have hb9 : Below v8.heap.size v8 v9 := by rw [← hw9]; exact below_setRow ((Below.refl _ _).alloc (Nat.le_refl _) _) (Nat.le_refl _) _
  have hN4 : Has v9 v8.heap.size (numC y) 24 := by rw [← hw9]; exact (Has.newz _).row _
  replace hN1 := hN1.on hb9
  replace hN2 := hN2.on hb9
  replace hN3 := hN3.on hb9
  replace hbel := hbel.trans (hb9.mono hbel.size)
  clear hw9 hb9
  generalize v8.heap.size = b_hN4 at hN4 ⊢
  have hq := eql_same''
  have hqb := eql_bool_same
  go_wp2_with (first | fail | (with_reducible refine num_load rfl _ rfl _ rfl _ hN1 rfl ?_) | (with_reducible refine num_load rfl _ rfl _ rfl _ hN2 rfl ?_) | (with_reducible refine num_load rfl _ rfl _ rfl _ hN3 rfl ?_) | (with_reducible refine num_load rfl _ rfl _ rfl _ hN4 rfl ?_) | (with_reducible refine num_load_g (by with_unfolding_all rfl) _ rfl _ rfl _ hN1 rfl ?_) | (with_reducible refine num_load_g (by with_unfolding_all rfl) _ rfl _ rfl _ hN2 rfl ?_) | (with_reducible refine num_load_g (by with_unfolding_all rfl) _ rfl _ rfl _ hN3 rfl ?_) | (with_reducible refine num_load_g (by with_unfolding_all rfl) _ rfl _ rfl _ hN4 rfl ?_))
  go_ret
  exact ⟨rfl, hbel⟩
set_option maxRecDepth 100000 in
set_option maxHeartbeats 2000000 in
theorem targets_c4 (b c : Int) (r x : Nat) (g : Bool) (KT : Hid (∀ w, Calls Try.prog 15 #[.int .i64 b, .int .i64 c] w fun e w' => e = .returned (.tuple #[.agg (numC r), .bool g]) ∧ Below w.heap.size w w'))
    (KR : Hid (∀ w, Calls Try.prog 16 #[.int .i64 b, .int .i64 c] w fun e w' => e = .returned (.tuple #[.agg (numC r), .bool g]) ∧ Below w.heap.size w w'))
    (KS : Hid (∀ w, Calls Try.prog 15 #[.int .i64 c, .int .i64 c] w fun e w' => e = .returned (.tuple #[.agg (numC x), .bool true]) ∧ Below w.heap.size w w'))
    (KD : Hid (∀ w, Calls Try.prog 17 #[.int .i64 c] w fun e w' => e = .returned (.tuple #[.agg (numC x), .bool false, .bool false]) ∧ Below w.heap.size w w'))
    (hn : ∀ w, (binOp .neq 24 (.agg (numC x)) (.agg #[.int .u64 0, .int .u64 0, .int .u64 0, .int .u64 0])).run Try.prog w = .ok (.bool true) w) (w : World) :
    Calls Try.prog 4 #[.int .i64 b, .int .i64 c] w fun e w' => e = .returned (.bool true) ∧ Below w.heap.size w w' := by
  go_enter Try.func4, Try.ntmps4
  have hbel := Below.refl w.heap.size w
  go_wp2_with fail
  refine (alive _).mono ?_
  rintro e v1 ⟨rfl, hb1⟩
  replace hbel := hbel.trans (hb1.mono hbel.size)
  clear hb1
  go_wp2_with fail
  refine (KT.out _).mono ?_
  rintro e v2 ⟨rfl, hb2⟩
  replace hbel := hbel.trans (hb2.mono hbel.size)
  clear hb2
  go_upto_region 4 with (with_reducible refine num_store rfl _ _ rfl _ _ rfl rfl _ (Has.newz _) rfl ?_)
  generalize hw3 : World.setRow _ _ _ = v3
  have hb3 : Below v2.heap.size v2 v3 := by rw [← hw3]; exact below_setRow ((Below.refl _ _).alloc (Nat.le_refl _) _) (Nat.le_refl _) _
  have hN1 : Has v3 v2.heap.size (numC r) 24 := by rw [← hw3]; exact (Has.newz _).row _
  replace hbel := hbel.trans (hb3.mono hbel.size)
  clear hw3 hb3
  generalize v2.heap.size = b_hN1 at hN1 ⊢
  go_wp2_with (first | fail | (with_reducible refine num_load rfl _ rfl _ rfl _ hN1 rfl ?_) | (with_reducible refine num_load_g (by with_unfolding_all rfl) _ rfl _ rfl _ hN1 rfl ?_))
  refine (KR.out _).mono ?_
  rintro e v4 ⟨rfl, hb4⟩
  replace hN1 := hN1.on hb4
  replace hbel := hbel.trans (hb4.mono hbel.size)
  clear hb4
  go_upto_region 5 with (with_reducible refine num_store rfl _ _ rfl _ _ rfl rfl _ (Has.newz _) rfl ?_)
  generalize hw5 : World.setRow _ _ _ = v5
  have hb5 : Below v4.heap.size v4 v5 := by rw [← hw5]; exact below_setRow ((Below.refl _ _).alloc (Nat.le_refl _) _) (Nat.le_refl _) _
  have hN2 : Has v5 v4.heap.size (numC r) 24 := by rw [← hw5]; exact (Has.newz _).row _
  replace hN1 := hN1.on hb5
  replace hbel := hbel.trans (hb5.mono hbel.size)
  clear hw5 hb5
  generalize v4.heap.size = b_hN2 at hN2 ⊢
  go_wp2_with (first | fail | (with_reducible refine num_load rfl _ rfl _ rfl _ hN1 rfl ?_) | (with_reducible refine num_load rfl _ rfl _ rfl _ hN2 rfl ?_) | (with_reducible refine num_load_g (by with_unfolding_all rfl) _ rfl _ rfl _ hN1 rfl ?_) | (with_reducible refine num_load_g (by with_unfolding_all rfl) _ rfl _ rfl _ hN2 rfl ?_))
  refine (KS.out _).mono ?_
  rintro e v6 ⟨rfl, hb6⟩
  replace hN1 := hN1.on hb6
  replace hN2 := hN2.on hb6
  replace hbel := hbel.trans (hb6.mono hbel.size)
  clear hb6
  go_upto_region 6 with (with_reducible refine num_store rfl _ _ rfl _ _ rfl rfl _ (Has.newz _) rfl ?_)
  generalize hw7 : World.setRow _ _ _ = v7
  have hb7 : Below v6.heap.size v6 v7 := by rw [← hw7]; exact below_setRow ((Below.refl _ _).alloc (Nat.le_refl _) _) (Nat.le_refl _) _
  have hN3 : Has v7 v6.heap.size (numC x) 24 := by rw [← hw7]; exact (Has.newz _).row _
  replace hN1 := hN1.on hb7
  replace hN2 := hN2.on hb7
  replace hbel := hbel.trans (hb7.mono hbel.size)
  clear hw7 hb7
  generalize v6.heap.size = b_hN3 at hN3 ⊢
  go_wp2_with (first | fail | (with_reducible refine num_load rfl _ rfl _ rfl _ hN1 rfl ?_) | (with_reducible refine num_load rfl _ rfl _ rfl _ hN2 rfl ?_) | (with_reducible refine num_load rfl _ rfl _ rfl _ hN3 rfl ?_) | (with_reducible refine num_load_g (by with_unfolding_all rfl) _ rfl _ rfl _ hN1 rfl ?_) | (with_reducible refine num_load_g (by with_unfolding_all rfl) _ rfl _ rfl _ hN2 rfl ?_) | (with_reducible refine num_load_g (by with_unfolding_all rfl) _ rfl _ rfl _ hN3 rfl ?_))
  refine (KD.out _).mono ?_
  rintro e v8 ⟨rfl, hb8⟩
  replace hN1 := hN1.on hb8
  replace hN2 := hN2.on hb8
  replace hN3 := hN3.on hb8
  replace hbel := hbel.trans (hb8.mono hbel.size)
  clear hb8
  go_upto_region 7 with (with_reducible refine num_store rfl _ _ rfl _ _ rfl rfl _ (Has.newz _) rfl ?_)
  generalize hw9 : World.setRow _ _ _ = v9
  have hb9 : Below v8.heap.size v8 v9 := by rw [← hw9]; exact below_setRow ((Below.refl _ _).alloc (Nat.le_refl _) _) (Nat.le_refl _) _
  have hN4 : Has v9 v8.heap.size (numC x) 24 := by rw [← hw9]; exact (Has.newz _).row _
  replace hN1 := hN1.on hb9
  replace hN2 := hN2.on hb9
  replace hN3 := hN3.on hb9
  replace hbel := hbel.trans (hb9.mono hbel.size)
  clear hw9 hb9
  generalize v8.heap.size = b_hN4 at hN4 ⊢
  have hq := eql_same''
  have hqb := eql_bool_same
  go_wp2_with (first | fail | (with_reducible refine num_load rfl _ rfl _ rfl _ hN1 rfl ?_) | (with_reducible refine num_load rfl _ rfl _ rfl _ hN2 rfl ?_) | (with_reducible refine num_load rfl _ rfl _ rfl _ hN3 rfl ?_) | (with_reducible refine num_load rfl _ rfl _ rfl _ hN4 rfl ?_) | (with_reducible refine num_load_g (by with_unfolding_all rfl) _ rfl _ rfl _ hN1 rfl ?_) | (with_reducible refine num_load_g (by with_unfolding_all rfl) _ rfl _ rfl _ hN2 rfl ?_) | (with_reducible refine num_load_g (by with_unfolding_all rfl) _ rfl _ rfl _ hN3 rfl ?_) | (with_reducible refine num_load_g (by with_unfolding_all rfl) _ rfl _ rfl _ hN4 rfl ?_))
  go_ret
  exact ⟨rfl, hbel⟩
theorem targets_walk (b c : Int) (_hb : (Lit.int .i64 b).wf = true) (_hc : (Lit.int .i64 c).wf = true) (w : World) :
    Calls Try.prog 4 #[.int .i64 b, .int .i64 c] w fun e w' => e = .returned (.bool true) ∧ Below w.heap.size w w' := by
  obtain ⟨z, low, over, hz, kd, kr⟩ := decode_both b
  obtain ⟨y, low2, over2, hy, kd2, kr2⟩ := decode_both c
  have KT := Lib.hid (target_any b c z y low over low2 over2 hz hy (Lib.hid kd) (Lib.hid kd2))
  have KR := Lib.hid (rtarget_any b c z y low over low2 over2 hz hy (Lib.hid kr) (Lib.hid kr2))
  have ks := target_any c c y y low2 over2 low2 over2 hy hy (Lib.hid kd2) (Lib.hid kd2)
  have hs : tgt y y low2 over2 low2 over2 = (!low2 && !over2 && !decide (y = 0)) := by
    unfold tgt
    rw [decide_eq_false (show ¬ y < y by omega)]
    cases low2 <;> cases over2 <;> simp
  rw [hs] at ks
  clear hs kd kr kd2
  cases low2
  case true => exact targets_c1 b c _ _ y _ over2 KT KR (Lib.hid ks) (Lib.hid kr2) w
  cases over2
  case true => exact targets_c2 b c _ _ y _ KT KR (Lib.hid ks) (Lib.hid kr2) w
  by_cases h : y = 0
  · rw [decide_eq_true h] at ks
    exact targets_c3 b c _ _ y _ KT KR (Lib.hid ks) (Lib.hid kr2) (neq_zero y hy false (by rw [decide_eq_true h]; rfl)) w
  · rw [decide_eq_false h] at ks
    exact targets_c4 b c _ y _ KT KR (Lib.hid ks) (Lib.hid kr2) (neq_zero y hy true (by rw [decide_eq_false h]; rfl)) w
end Go.Proofs.Yteachheacllblab
