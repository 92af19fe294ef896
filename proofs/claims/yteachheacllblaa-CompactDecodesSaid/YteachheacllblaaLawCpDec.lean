import Derived.Test.YteachheacllblaaCpAlive
namespace Go.Proofs.Yteachheacllblaa
open Go.RowKit
theorem eql_bool_same (b : Bool) (w : World) : (binOp .eql 4 (.bool b) (.bool b)).run Try.prog w = .ok (.bool true) w := by
  cases b <;> kernel_rfl
theorem decode_any (b : Int) : ∃ (z : Nat) (low over : Bool), (∀ w, Calls Try.prog 5 #[.int .i64 b] w fun e w' => e = .returned (.tuple #[.agg (numC z), .bool low, .bool over]) ∧ Below w.heap.size w w') ∧ (∀ w, Calls Try.prog 6 #[.int .i64 b] w fun e w' => e = .returned (.tuple #[.agg (numC z), .bool low, .bool over]) ∧ Below w.heap.size w w') := by
  by_cases h : 0 ≤ b ∧ b ≤ 4294967295
  · obtain ⟨n, rfl⟩ := Int.eq_ofNat_of_zero_le h.1
    exact ⟨_, _, _, fun w => decode_yes n (by omega) w, fun w => ref_decode_yes n (by omega) w⟩
  · exact ⟨0, false, false, fun w => decode_no b h w, fun w => ref_decode_no b h w⟩
theorem good_below (b : Int) (g : Bool) (h : decide (0 ≤ b ∧ b ≤ 4294967295) = g) (w : World) : Calls Try.prog 7 #[.int .i64 b] w fun e w' => e = .returned (.bool g) ∧ Below w.heap.size w w' :=
  (good b w).mono fun _ _ ⟨he, hw⟩ => ⟨by rw [he, h], by rw [← hw]; exact Below.refl _ _⟩
set_option maxRecDepth 100000 in
set_option maxHeartbeats 2000000 in
theorem decodes_in (b : Int) (z : Nat) (low over : Bool) (f0 : decide (0 ≤ b) = true) (f1 : decide (b < 4294967296) = true)
    (KD : Hid (∀ w, Calls Try.prog 5 #[.int .i64 b] w fun e w' => e = .returned (.tuple #[.agg (numC z), .bool low, .bool over]) ∧ Below w.heap.size w w'))
    (KR : Hid (∀ w, Calls Try.prog 6 #[.int .i64 b] w fun e w' => e = .returned (.tuple #[.agg (numC z), .bool low, .bool over]) ∧ Below w.heap.size w w'))
    (KG : Hid (∀ w, Calls Try.prog 7 #[.int .i64 b] w fun e w' => e = .returned (.bool true) ∧ Below w.heap.size w w')) (w : World) :
    Calls Try.prog 3 #[.int .i64 b] w fun e w' => e = .returned (.bool true) ∧ Below w.heap.size w w' := by
  go_enter Try.func3, Try.ntmps3
  have hbel := Below.refl w.heap.size w
  go_wp2_with fail
  refine (alive _).mono ?_
  rintro e v1 ⟨rfl, hb1⟩
  replace hbel := hbel.trans (hb1.mono hbel.size)
  clear hb1
  go_wp2_with fail
  refine (KD.out _).mono ?_
  rintro e v2 ⟨rfl, hb2⟩
  replace hbel := hbel.trans (hb2.mono hbel.size)
  clear hb2
  go_upto_region 4 with (with_reducible refine num_store rfl _ _ rfl _ _ rfl rfl _ (Has.newz _) rfl ?_)
  generalize hw3 : World.setRow _ _ _ = v3
  have hb3 : Below v2.heap.size v2 v3 := by rw [← hw3]; exact below_setRow ((Below.refl _ _).alloc (Nat.le_refl _) _) (Nat.le_refl _) _
  have hX : Has v3 v2.heap.size (numC z) 25 := by rw [← hw3]; exact (Has.newz _).row _
  replace hbel := hbel.trans (hb3.mono hbel.size)
  clear hw3 hb3
  generalize v2.heap.size = b_hX at hX ⊢
  go_wp2_with (first | fail | (with_reducible refine num_load rfl _ rfl _ rfl _ hX rfl ?_))
  refine (KR.out _).mono ?_
  rintro e v4 ⟨rfl, hb4⟩
  replace hX := hX.on hb4
  replace hbel := hbel.trans (hb4.mono hbel.size)
  clear hb4
  go_upto_region 5 with (with_reducible refine num_store rfl _ _ rfl _ _ rfl rfl _ (Has.newz _) rfl ?_)
  generalize hw5 : World.setRow _ _ _ = v5
  have hb5 : Below v4.heap.size v4 v5 := by rw [← hw5]; exact below_setRow ((Below.refl _ _).alloc (Nat.le_refl _) _) (Nat.le_refl _) _
  have hY : Has v5 v4.heap.size (numC z) 25 := by rw [← hw5]; exact (Has.newz _).row _
  replace hX := hX.on hb5
  replace hbel := hbel.trans (hb5.mono hbel.size)
  clear hw5 hb5
  generalize v4.heap.size = b_hY at hY ⊢
  have hq := eql_same''
  have hqb := eql_bool_same
  go_wp2_with (first | fail | (with_reducible refine num_load rfl _ rfl _ rfl _ hX rfl ?_) | (with_reducible refine num_load rfl _ rfl _ rfl _ hY rfl ?_))
  refine (KG.out _).mono ?_
  rintro e v6 ⟨rfl, hb6⟩
  replace hX := hX.on hb6
  replace hY := hY.on hb6
  replace hbel := hbel.trans (hb6.mono hbel.size)
  clear hb6
  go_wp2_with fail
  go_ret
  exact ⟨rfl, hbel⟩
set_option maxRecDepth 100000 in
set_option maxHeartbeats 2000000 in
theorem decodes_low (b : Int) (z : Nat) (low over : Bool) (f0 : decide (0 ≤ b) = false)
    (KD : Hid (∀ w, Calls Try.prog 5 #[.int .i64 b] w fun e w' => e = .returned (.tuple #[.agg (numC z), .bool low, .bool over]) ∧ Below w.heap.size w w'))
    (KR : Hid (∀ w, Calls Try.prog 6 #[.int .i64 b] w fun e w' => e = .returned (.tuple #[.agg (numC z), .bool low, .bool over]) ∧ Below w.heap.size w w'))
    (KG : Hid (∀ w, Calls Try.prog 7 #[.int .i64 b] w fun e w' => e = .returned (.bool false) ∧ Below w.heap.size w w')) (w : World) :
    Calls Try.prog 3 #[.int .i64 b] w fun e w' => e = .returned (.bool true) ∧ Below w.heap.size w w' := by
  go_enter Try.func3, Try.ntmps3
  have hbel := Below.refl w.heap.size w
  go_wp2_with fail
  refine (alive _).mono ?_
  rintro e v1 ⟨rfl, hb1⟩
  replace hbel := hbel.trans (hb1.mono hbel.size)
  clear hb1
  go_wp2_with fail
  refine (KD.out _).mono ?_
  rintro e v2 ⟨rfl, hb2⟩
  replace hbel := hbel.trans (hb2.mono hbel.size)
  clear hb2
  go_upto_region 4 with (with_reducible refine num_store rfl _ _ rfl _ _ rfl rfl _ (Has.newz _) rfl ?_)
  generalize hw3 : World.setRow _ _ _ = v3
  have hb3 : Below v2.heap.size v2 v3 := by rw [← hw3]; exact below_setRow ((Below.refl _ _).alloc (Nat.le_refl _) _) (Nat.le_refl _) _
  have hX : Has v3 v2.heap.size (numC z) 25 := by rw [← hw3]; exact (Has.newz _).row _
  replace hbel := hbel.trans (hb3.mono hbel.size)
  clear hw3 hb3
  generalize v2.heap.size = b_hX at hX ⊢
  go_wp2_with (first | fail | (with_reducible refine num_load rfl _ rfl _ rfl _ hX rfl ?_))
  refine (KR.out _).mono ?_
  rintro e v4 ⟨rfl, hb4⟩
  replace hX := hX.on hb4
  replace hbel := hbel.trans (hb4.mono hbel.size)
  clear hb4
  go_upto_region 5 with (with_reducible refine num_store rfl _ _ rfl _ _ rfl rfl _ (Has.newz _) rfl ?_)
  generalize hw5 : World.setRow _ _ _ = v5
  have hb5 : Below v4.heap.size v4 v5 := by rw [← hw5]; exact below_setRow ((Below.refl _ _).alloc (Nat.le_refl _) _) (Nat.le_refl _) _
  have hY : Has v5 v4.heap.size (numC z) 25 := by rw [← hw5]; exact (Has.newz _).row _
  replace hX := hX.on hb5
  replace hbel := hbel.trans (hb5.mono hbel.size)
  clear hw5 hb5
  generalize v4.heap.size = b_hY at hY ⊢
  have hq := eql_same''
  have hqb := eql_bool_same
  go_wp2_with (first | fail | (with_reducible refine num_load rfl _ rfl _ rfl _ hX rfl ?_) | (with_reducible refine num_load rfl _ rfl _ rfl _ hY rfl ?_))
  refine (KG.out _).mono ?_
  rintro e v6 ⟨rfl, hb6⟩
  replace hX := hX.on hb6
  replace hY := hY.on hb6
  replace hbel := hbel.trans (hb6.mono hbel.size)
  clear hb6
  go_wp2_with fail
  go_ret
  exact ⟨rfl, hbel⟩
set_option maxRecDepth 100000 in
set_option maxHeartbeats 2000000 in
theorem decodes_high (b : Int) (z : Nat) (low over : Bool) (f0 : decide (0 ≤ b) = true) (f1 : decide (b < 4294967296) = false)
    (KD : Hid (∀ w, Calls Try.prog 5 #[.int .i64 b] w fun e w' => e = .returned (.tuple #[.agg (numC z), .bool low, .bool over]) ∧ Below w.heap.size w w'))
    (KR : Hid (∀ w, Calls Try.prog 6 #[.int .i64 b] w fun e w' => e = .returned (.tuple #[.agg (numC z), .bool low, .bool over]) ∧ Below w.heap.size w w'))
    (KG : Hid (∀ w, Calls Try.prog 7 #[.int .i64 b] w fun e w' => e = .returned (.bool false) ∧ Below w.heap.size w w')) (w : World) :
    Calls Try.prog 3 #[.int .i64 b] w fun e w' => e = .returned (.bool true) ∧ Below w.heap.size w w' := by
  go_enter Try.func3, Try.ntmps3
  have hbel := Below.refl w.heap.size w
  go_wp2_with fail
  refine (alive _).mono ?_
  rintro e v1 ⟨rfl, hb1⟩
  replace hbel := hbel.trans (hb1.mono hbel.size)
  clear hb1
  go_wp2_with fail
  refine (KD.out _).mono ?_
  rintro e v2 ⟨rfl, hb2⟩
  replace hbel := hbel.trans (hb2.mono hbel.size)
  clear hb2
  go_upto_region 4 with (with_reducible refine num_store rfl _ _ rfl _ _ rfl rfl _ (Has.newz _) rfl ?_)
  generalize hw3 : World.setRow _ _ _ = v3
  have hb3 : Below v2.heap.size v2 v3 := by rw [← hw3]; exact below_setRow ((Below.refl _ _).alloc (Nat.le_refl _) _) (Nat.le_refl _) _
  have hX : Has v3 v2.heap.size (numC z) 25 := by rw [← hw3]; exact (Has.newz _).row _
  replace hbel := hbel.trans (hb3.mono hbel.size)
  clear hw3 hb3
  generalize v2.heap.size = b_hX at hX ⊢
  go_wp2_with (first | fail | (with_reducible refine num_load rfl _ rfl _ rfl _ hX rfl ?_))
  refine (KR.out _).mono ?_
  rintro e v4 ⟨rfl, hb4⟩
  replace hX := hX.on hb4
  replace hbel := hbel.trans (hb4.mono hbel.size)
  clear hb4
  go_upto_region 5 with (with_reducible refine num_store rfl _ _ rfl _ _ rfl rfl _ (Has.newz _) rfl ?_)
  generalize hw5 : World.setRow _ _ _ = v5
  have hb5 : Below v4.heap.size v4 v5 := by rw [← hw5]; exact below_setRow ((Below.refl _ _).alloc (Nat.le_refl _) _) (Nat.le_refl _) _
  have hY : Has v5 v4.heap.size (numC z) 25 := by rw [← hw5]; exact (Has.newz _).row _
  replace hX := hX.on hb5
  replace hbel := hbel.trans (hb5.mono hbel.size)
  clear hw5 hb5
  generalize v4.heap.size = b_hY at hY ⊢
  have hq := eql_same''
  have hqb := eql_bool_same
  go_wp2_with (first | fail | (with_reducible refine num_load rfl _ rfl _ rfl _ hX rfl ?_) | (with_reducible refine num_load rfl _ rfl _ rfl _ hY rfl ?_))
  refine (KG.out _).mono ?_
  rintro e v6 ⟨rfl, hb6⟩
  replace hX := hX.on hb6
  replace hY := hY.on hb6
  replace hbel := hbel.trans (hb6.mono hbel.size)
  clear hb6
  go_wp2_with fail
  go_ret
  exact ⟨rfl, hbel⟩
theorem decodes_walk (b : Int) (_hw : (Lit.int .i64 b).wf = true) (w : World) :
    Calls Try.prog 3 #[.int .i64 b] w fun e w' => e = .returned (.bool true) ∧ Below w.heap.size w w' := by
  obtain ⟨z, low, over, kd, kr⟩ := decode_any b
  have h : b < 0 ∨ (0 ≤ b ∧ b < 4294967296) ∨ (0 ≤ b ∧ 4294967296 ≤ b) := by omega
  rcases h with h | h | h
  · exact decodes_low b z low over (decide_eq_false (by omega)) (Lib.hid kd) (Lib.hid kr) (Lib.hid fun w => good_below b false (decide_eq_false (by omega)) w) w
  · exact decodes_in b z low over (decide_eq_true h.1) (decide_eq_true h.2) (Lib.hid kd) (Lib.hid kr) (Lib.hid fun w => good_below b true (decide_eq_true (by omega)) w) w
  · exact decodes_high b z low over (decide_eq_true h.1) (decide_eq_false (by omega)) (Lib.hid kd) (Lib.hid kr) (Lib.hid fun w => good_below b false (decide_eq_false (by omega)) w) w
end Go.Proofs.Yteachheacllblaa
