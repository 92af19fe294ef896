import Derived.Test.YtlednkbnhnjgcaaWkNear
namespace Go.Proofs.Ytlednkbnhnjgcaa
open Go.RowKit Rg2
set_option maxRecDepth 100000 in
set_option maxHeartbeats 2000000 in
theorem lnear_over (a b m s : Nat) (KA : Hid (∀ w, Calls Try.prog 6 #[.agg (numC a), .agg (numC m)] w fun e w' => e = .returned (.tuple #[.agg (numC s), .bool true]) ∧ Below w.heap.size w w')) (KN : Hid (∀ w, Calls Try.prog 7 #[.agg (numC a), .agg (numC b), .agg (numC m)] w fun e w' => e = .returned (.bool true) ∧ Below w.heap.size w w')) (w : World) :
    Calls Try.prog 3 #[.agg (numC a), .agg (numC b), .agg (numC m)] w fun e w' => e = .returned (.bool true) ∧ Below w.heap.size w w' := by
  go_enter Try.func3, Try.ntmps3
  go_upto_region 1 with fail
  generalize hw0 : World.alloc _ _ = v0
  have hbel : Below w.heap.size w v0 := by rw [← hw0]; exact (((Below.refl _ _).alloc (by first | exact Nat.le_refl _ | (simp; done) | (simp; omega)) _).alloc (by first | exact Nat.le_refl _ | (simp; done) | (simp; omega)) _).alloc (by first | exact Nat.le_refl _ | (simp; done) | (simp; omega)) _
  have hA : Has v0 (w.heap.size) (numC a) 24 := by rw [← hw0]; exact ((Has.new _ _).alloc _).alloc _
  have hB : Has v0 (w.heap.size + 1) (numC b) 24 := by rw [← hw0]; exact (Has.new1 _ _ _).alloc _
  have hM : Has v0 (w.heap.size + 1 + 1) (numC m) 24 := by rw [← hw0]; exact Has.new2 _ _ _ _
  clear hw0
  generalize hg2 : w.heap.size + 1 + 1 = b_hM at hM ⊢
  clear hg2
  generalize hg1 : w.heap.size + 1 = b_hB at hB ⊢
  clear hg1
  
  go_wp2_with (first | fail | (with_reducible refine num_load rfl _ rfl _ rfl _ hA rfl ?_) | (with_reducible refine num_load rfl _ rfl _ rfl _ hB rfl ?_) | (with_reducible refine num_load rfl _ rfl _ rfl _ hM rfl ?_) | (with_reducible refine num_load_g (by with_unfolding_all rfl) _ rfl _ rfl _ hA rfl ?_) | (with_reducible refine num_load_g (by with_unfolding_all rfl) _ rfl _ rfl _ hB rfl ?_) | (with_reducible refine num_load_g (by with_unfolding_all rfl) _ rfl _ rfl _ hM rfl ?_))
  refine (alive _).mono ?_
  rintro e v1 ⟨rfl, hb1⟩
  replace hA := hA.on hb1
  replace hB := hB.on hb1
  replace hM := hM.on hb1
  replace hbel := hbel.trans (hb1.mono hbel.size)
  clear hb1
  go_wp2_with (first | fail | (with_reducible refine num_load rfl _ rfl _ rfl _ hA rfl ?_) | (with_reducible refine num_load rfl _ rfl _ rfl _ hB rfl ?_) | (with_reducible refine num_load rfl _ rfl _ rfl _ hM rfl ?_) | (with_reducible refine num_load_g (by with_unfolding_all rfl) _ rfl _ rfl _ hA rfl ?_) | (with_reducible refine num_load_g (by with_unfolding_all rfl) _ rfl _ rfl _ hB rfl ?_) | (with_reducible refine num_load_g (by with_unfolding_all rfl) _ rfl _ rfl _ hM rfl ?_))
  refine (KA.out _).mono ?_
  rintro e v2 ⟨rfl, hb2⟩
  replace hA := hA.on hb2
  replace hB := hB.on hb2
  replace hM := hM.on hb2
  replace hbel := hbel.trans (hb2.mono hbel.size)
  clear hb2
  go_upto_region 4 with (with_reducible refine num_store rfl _ _ rfl _ _ rfl rfl _ (Has.newz _) rfl ?_)
  generalize hw3 : World.setRow _ _ _ = v3
  have hb3 : Below v2.heap.size v2 v3 := by rw [← hw3]; exact below_setRow ((Below.refl _ _).alloc (Nat.le_refl _) _) (Nat.le_refl _) _
  have hS : Has v3 v2.heap.size (numC s) 24 := by rw [← hw3]; exact (Has.newz _).row _
  replace hA := hA.on hb3
  replace hB := hB.on hb3
  replace hM := hM.on hb3
  replace hbel := hbel.trans (hb3.mono hbel.size)
  clear hw3 hb3
  generalize v2.heap.size = b_hS at hS ⊢
  go_wp2_with (first | fail | (with_reducible refine num_load rfl _ rfl _ rfl _ hA rfl ?_) | (with_reducible refine num_load rfl _ rfl _ rfl _ hB rfl ?_) | (with_reducible refine num_load rfl _ rfl _ rfl _ hM rfl ?_) | (with_reducible refine num_load rfl _ rfl _ rfl _ hS rfl ?_) | (with_reducible refine num_load_g (by with_unfolding_all rfl) _ rfl _ rfl _ hA rfl ?_) | (with_reducible refine num_load_g (by with_unfolding_all rfl) _ rfl _ rfl _ hB rfl ?_) | (with_reducible refine num_load_g (by with_unfolding_all rfl) _ rfl _ rfl _ hM rfl ?_) | (with_reducible refine num_load_g (by with_unfolding_all rfl) _ rfl _ rfl _ hS rfl ?_))
  refine (KN.out _).mono ?_
  rintro e v4 ⟨rfl, hb4⟩
  replace hA := hA.on hb4
  replace hB := hB.on hb4
  replace hM := hM.on hb4
  replace hS := hS.on hb4
  replace hbel := hbel.trans (hb4.mono hbel.size)
  clear hb4
  have hqb := eql_bool_same
  go_wp2_with (first | fail | (with_reducible refine num_load rfl _ rfl _ rfl _ hA rfl ?_) | (with_reducible refine num_load rfl _ rfl _ rfl _ hB rfl ?_) | (with_reducible refine num_load rfl _ rfl _ rfl _ hM rfl ?_) | (with_reducible refine num_load rfl _ rfl _ rfl _ hS rfl ?_) | (with_reducible refine num_load_g (by with_unfolding_all rfl) _ rfl _ rfl _ hA rfl ?_) | (with_reducible refine num_load_g (by with_unfolding_all rfl) _ rfl _ rfl _ hB rfl ?_) | (with_reducible refine num_load_g (by with_unfolding_all rfl) _ rfl _ rfl _ hM rfl ?_) | (with_reducible refine num_load_g (by with_unfolding_all rfl) _ rfl _ rfl _ hS rfl ?_))
  go_ret
  exact ⟨rfl, hbel⟩
set_option maxRecDepth 100000 in
set_option maxHeartbeats 2000000 in
theorem lnear_less (a b m s : Nat) (KA : Hid (∀ w, Calls Try.prog 6 #[.agg (numC a), .agg (numC m)] w fun e w' => e = .returned (.tuple #[.agg (numC s), .bool false]) ∧ Below w.heap.size w w')) (KN : Hid (∀ w, Calls Try.prog 7 #[.agg (numC a), .agg (numC b), .agg (numC m)] w fun e w' => e = .returned (.bool false) ∧ Below w.heap.size w w'))
    (KL : Hid (∀ w, Calls Try.prog 8 #[.agg (numC s), .agg (numC b)] w fun e w' => e = .returned (.bool true) ∧ Below w.heap.size w w')) (w : World) :
    Calls Try.prog 3 #[.agg (numC a), .agg (numC b), .agg (numC m)] w fun e w' => e = .returned (.bool true) ∧ Below w.heap.size w w' := by
  go_enter Try.func3, Try.ntmps3
  go_upto_region 1 with fail
  generalize hw0 : World.alloc _ _ = v0
  have hbel : Below w.heap.size w v0 := by rw [← hw0]; exact (((Below.refl _ _).alloc (by first | exact Nat.le_refl _ | (simp; done) | (simp; omega)) _).alloc (by first | exact Nat.le_refl _ | (simp; done) | (simp; omega)) _).alloc (by first | exact Nat.le_refl _ | (simp; done) | (simp; omega)) _
  have hA : Has v0 (w.heap.size) (numC a) 24 := by rw [← hw0]; exact ((Has.new _ _).alloc _).alloc _
  have hB : Has v0 (w.heap.size + 1) (numC b) 24 := by rw [← hw0]; exact (Has.new1 _ _ _).alloc _
  have hM : Has v0 (w.heap.size + 1 + 1) (numC m) 24 := by rw [← hw0]; exact Has.new2 _ _ _ _
  clear hw0
  generalize hg2 : w.heap.size + 1 + 1 = b_hM at hM ⊢
  clear hg2
  generalize hg1 : w.heap.size + 1 = b_hB at hB ⊢
  clear hg1
  
  go_wp2_with (first | fail | (with_reducible refine num_load rfl _ rfl _ rfl _ hA rfl ?_) | (with_reducible refine num_load rfl _ rfl _ rfl _ hB rfl ?_) | (with_reducible refine num_load rfl _ rfl _ rfl _ hM rfl ?_) | (with_reducible refine num_load_g (by with_unfolding_all rfl) _ rfl _ rfl _ hA rfl ?_) | (with_reducible refine num_load_g (by with_unfolding_all rfl) _ rfl _ rfl _ hB rfl ?_) | (with_reducible refine num_load_g (by with_unfolding_all rfl) _ rfl _ rfl _ hM rfl ?_))
  refine (alive _).mono ?_
  rintro e v1 ⟨rfl, hb1⟩
  replace hA := hA.on hb1
  replace hB := hB.on hb1
  replace hM := hM.on hb1
  replace hbel := hbel.trans (hb1.mono hbel.size)
  clear hb1
  go_wp2_with (first | fail | (with_reducible refine num_load rfl _ rfl _ rfl _ hA rfl ?_) | (with_reducible refine num_load rfl _ rfl _ rfl _ hB rfl ?_) | (with_reducible refine num_load rfl _ rfl _ rfl _ hM rfl ?_) | (with_reducible refine num_load_g (by with_unfolding_all rfl) _ rfl _ rfl _ hA rfl ?_) | (with_reducible refine num_load_g (by with_unfolding_all rfl) _ rfl _ rfl _ hB rfl ?_) | (with_reducible refine num_load_g (by with_unfolding_all rfl) _ rfl _ rfl _ hM rfl ?_))
  refine (KA.out _).mono ?_
  rintro e v2 ⟨rfl, hb2⟩
  replace hA := hA.on hb2
  replace hB := hB.on hb2
  replace hM := hM.on hb2
  replace hbel := hbel.trans (hb2.mono hbel.size)
  clear hb2
  go_upto_region 4 with (with_reducible refine num_store rfl _ _ rfl _ _ rfl rfl _ (Has.newz _) rfl ?_)
  generalize hw3 : World.setRow _ _ _ = v3
  have hb3 : Below v2.heap.size v2 v3 := by rw [← hw3]; exact below_setRow ((Below.refl _ _).alloc (Nat.le_refl _) _) (Nat.le_refl _) _
  have hS : Has v3 v2.heap.size (numC s) 24 := by rw [← hw3]; exact (Has.newz _).row _
  replace hA := hA.on hb3
  replace hB := hB.on hb3
  replace hM := hM.on hb3
  replace hbel := hbel.trans (hb3.mono hbel.size)
  clear hw3 hb3
  generalize v2.heap.size = b_hS at hS ⊢
  go_wp2_with (first | fail | (with_reducible refine num_load rfl _ rfl _ rfl _ hA rfl ?_) | (with_reducible refine num_load rfl _ rfl _ rfl _ hB rfl ?_) | (with_reducible refine num_load rfl _ rfl _ rfl _ hM rfl ?_) | (with_reducible refine num_load rfl _ rfl _ rfl _ hS rfl ?_) | (with_reducible refine num_load_g (by with_unfolding_all rfl) _ rfl _ rfl _ hA rfl ?_) | (with_reducible refine num_load_g (by with_unfolding_all rfl) _ rfl _ rfl _ hB rfl ?_) | (with_reducible refine num_load_g (by with_unfolding_all rfl) _ rfl _ rfl _ hM rfl ?_) | (with_reducible refine num_load_g (by with_unfolding_all rfl) _ rfl _ rfl _ hS rfl ?_))
  refine (KN.out _).mono ?_
  rintro e v4 ⟨rfl, hb4⟩
  replace hA := hA.on hb4
  replace hB := hB.on hb4
  replace hM := hM.on hb4
  replace hS := hS.on hb4
  replace hbel := hbel.trans (hb4.mono hbel.size)
  clear hb4
  have hqb := eql_bool_same
  go_wp2_with (first | fail | (with_reducible refine num_load rfl _ rfl _ rfl _ hA rfl ?_) | (with_reducible refine num_load rfl _ rfl _ rfl _ hB rfl ?_) | (with_reducible refine num_load rfl _ rfl _ rfl _ hM rfl ?_) | (with_reducible refine num_load rfl _ rfl _ rfl _ hS rfl ?_) | (with_reducible refine num_load_g (by with_unfolding_all rfl) _ rfl _ rfl _ hA rfl ?_) | (with_reducible refine num_load_g (by with_unfolding_all rfl) _ rfl _ rfl _ hB rfl ?_) | (with_reducible refine num_load_g (by with_unfolding_all rfl) _ rfl _ rfl _ hM rfl ?_) | (with_reducible refine num_load_g (by with_unfolding_all rfl) _ rfl _ rfl _ hS rfl ?_))
  refine (KL.out _).mono ?_
  rintro e v5 ⟨rfl, hb5⟩
  replace hA := hA.on hb5
  replace hB := hB.on hb5
  replace hM := hM.on hb5
  replace hS := hS.on hb5
  replace hbel := hbel.trans (hb5.mono hbel.size)
  clear hb5
  go_wp2_with (first | fail | (with_reducible refine num_load rfl _ rfl _ rfl _ hA rfl ?_) | (with_reducible refine num_load rfl _ rfl _ rfl _ hB rfl ?_) | (with_reducible refine num_load rfl _ rfl _ rfl _ hM rfl ?_) | (with_reducible refine num_load rfl _ rfl _ rfl _ hS rfl ?_) | (with_reducible refine num_load_g (by with_unfolding_all rfl) _ rfl _ rfl _ hA rfl ?_) | (with_reducible refine num_load_g (by with_unfolding_all rfl) _ rfl _ rfl _ hB rfl ?_) | (with_reducible refine num_load_g (by with_unfolding_all rfl) _ rfl _ rfl _ hM rfl ?_) | (with_reducible refine num_load_g (by with_unfolding_all rfl) _ rfl _ rfl _ hS rfl ?_))
  go_ret
  exact ⟨rfl, hbel⟩
set_option maxRecDepth 100000 in
set_option maxHeartbeats 2000000 in
theorem lnear_more (a b m s : Nat) (KA : Hid (∀ w, Calls Try.prog 6 #[.agg (numC a), .agg (numC m)] w fun e w' => e = .returned (.tuple #[.agg (numC s), .bool false]) ∧ Below w.heap.size w w')) (KN : Hid (∀ w, Calls Try.prog 7 #[.agg (numC a), .agg (numC b), .agg (numC m)] w fun e w' => e = .returned (.bool true) ∧ Below w.heap.size w w'))
    (KL : Hid (∀ w, Calls Try.prog 8 #[.agg (numC s), .agg (numC b)] w fun e w' => e = .returned (.bool false) ∧ Below w.heap.size w w')) (w : World) :
    Calls Try.prog 3 #[.agg (numC a), .agg (numC b), .agg (numC m)] w fun e w' => e = .returned (.bool true) ∧ Below w.heap.size w w' := by
  go_enter Try.func3, Try.ntmps3
  go_upto_region 1 with fail
  generalize hw0 : World.alloc _ _ = v0
  have hbel : Below w.heap.size w v0 := by rw [← hw0]; exact (((Below.refl _ _).alloc (by first | exact Nat.le_refl _ | (simp; done) | (simp; omega)) _).alloc (by first | exact Nat.le_refl _ | (simp; done) | (simp; omega)) _).alloc (by first | exact Nat.le_refl _ | (simp; done) | (simp; omega)) _
  have hA : Has v0 (w.heap.size) (numC a) 24 := by rw [← hw0]; exact ((Has.new _ _).alloc _).alloc _
  have hB : Has v0 (w.heap.size + 1) (numC b) 24 := by rw [← hw0]; exact (Has.new1 _ _ _).alloc _
  have hM : Has v0 (w.heap.size + 1 + 1) (numC m) 24 := by rw [← hw0]; exact Has.new2 _ _ _ _
  clear hw0
  generalize hg2 : w.heap.size + 1 + 1 = b_hM at hM ⊢
  clear hg2
  generalize hg1 : w.heap.size + 1 = b_hB at hB ⊢
  clear hg1
  
  go_wp2_with (first | fail | (with_reducible refine num_load rfl _ rfl _ rfl _ hA rfl ?_) | (with_reducible refine num_load rfl _ rfl _ rfl _ hB rfl ?_) | (with_reducible refine num_load rfl _ rfl _ rfl _ hM rfl ?_) | (with_reducible refine num_load_g (by with_unfolding_all rfl) _ rfl _ rfl _ hA rfl ?_) | (with_reducible refine num_load_g (by with_unfolding_all rfl) _ rfl _ rfl _ hB rfl ?_) | (with_reducible refine num_load_g (by with_unfolding_all rfl) _ rfl _ rfl _ hM rfl ?_))
  refine (alive _).mono ?_
  rintro e v1 ⟨rfl, hb1⟩
  replace hA := hA.on hb1
  replace hB := hB.on hb1
  replace hM := hM.on hb1
  replace hbel := hbel.trans (hb1.mono hbel.size)
  clear hb1
  go_wp2_with (first | fail | (with_reducible refine num_load rfl _ rfl _ rfl _ hA rfl ?_) | (with_reducible refine num_load rfl _ rfl _ rfl _ hB rfl ?_) | (with_reducible refine num_load rfl _ rfl _ rfl _ hM rfl ?_) | (with_reducible refine num_load_g (by with_unfolding_all rfl) _ rfl _ rfl _ hA rfl ?_) | (with_reducible refine num_load_g (by with_unfolding_all rfl) _ rfl _ rfl _ hB rfl ?_) | (with_reducible refine num_load_g (by with_unfolding_all rfl) _ rfl _ rfl _ hM rfl ?_))
  refine (KA.out _).mono ?_
  rintro e v2 ⟨rfl, hb2⟩
  replace hA := hA.on hb2
  replace hB := hB.on hb2
  replace hM := hM.on hb2
  replace hbel := hbel.trans (hb2.mono hbel.size)
  clear hb2
  go_upto_region 4 with (with_reducible refine num_store rfl _ _ rfl _ _ rfl rfl _ (Has.newz _) rfl ?_)
  generalize hw3 : World.setRow _ _ _ = v3
  have hb3 : Below v2.heap.size v2 v3 := by rw [← hw3]; exact below_setRow ((Below.refl _ _).alloc (Nat.le_refl _) _) (Nat.le_refl _) _
  have hS : Has v3 v2.heap.size (numC s) 24 := by rw [← hw3]; exact (Has.newz _).row _
  replace hA := hA.on hb3
  replace hB := hB.on hb3
  replace hM := hM.on hb3
  replace hbel := hbel.trans (hb3.mono hbel.size)
  clear hw3 hb3
  generalize v2.heap.size = b_hS at hS ⊢
  go_wp2_with (first | fail | (with_reducible refine num_load rfl _ rfl _ rfl _ hA rfl ?_) | (with_reducible refine num_load rfl _ rfl _ rfl _ hB rfl ?_) | (with_reducible refine num_load rfl _ rfl _ rfl _ hM rfl ?_) | (with_reducible refine num_load rfl _ rfl _ rfl _ hS rfl ?_) | (with_reducible refine num_load_g (by with_unfolding_all rfl) _ rfl _ rfl _ hA rfl ?_) | (with_reducible refine num_load_g (by with_unfolding_all rfl) _ rfl _ rfl _ hB rfl ?_) | (with_reducible refine num_load_g (by with_unfolding_all rfl) _ rfl _ rfl _ hM rfl ?_) | (with_reducible refine num_load_g (by with_unfolding_all rfl) _ rfl _ rfl _ hS rfl ?_))
  refine (KN.out _).mono ?_
  rintro e v4 ⟨rfl, hb4⟩
  replace hA := hA.on hb4
  replace hB := hB.on hb4
  replace hM := hM.on hb4
  replace hS := hS.on hb4
  replace hbel := hbel.trans (hb4.mono hbel.size)
  clear hb4
  have hqb := eql_bool_same
  go_wp2_with (first | fail | (with_reducible refine num_load rfl _ rfl _ rfl _ hA rfl ?_) | (with_reducible refine num_load rfl _ rfl _ rfl _ hB rfl ?_) | (with_reducible refine num_load rfl _ rfl _ rfl _ hM rfl ?_) | (with_reducible refine num_load rfl _ rfl _ rfl _ hS rfl ?_) | (with_reducible refine num_load_g (by with_unfolding_all rfl) _ rfl _ rfl _ hA rfl ?_) | (with_reducible refine num_load_g (by with_unfolding_all rfl) _ rfl _ rfl _ hB rfl ?_) | (with_reducible refine num_load_g (by with_unfolding_all rfl) _ rfl _ rfl _ hM rfl ?_) | (with_reducible refine num_load_g (by with_unfolding_all rfl) _ rfl _ rfl _ hS rfl ?_))
  refine (KL.out _).mono ?_
  rintro e v5 ⟨rfl, hb5⟩
  replace hA := hA.on hb5
  replace hB := hB.on hb5
  replace hM := hM.on hb5
  replace hS := hS.on hb5
  replace hbel := hbel.trans (hb5.mono hbel.size)
  clear hb5
  go_wp2_with (first | fail | (with_reducible refine num_load rfl _ rfl _ rfl _ hA rfl ?_) | (with_reducible refine num_load rfl _ rfl _ rfl _ hB rfl ?_) | (with_reducible refine num_load rfl _ rfl _ rfl _ hM rfl ?_) | (with_reducible refine num_load rfl _ rfl _ rfl _ hS rfl ?_) | (with_reducible refine num_load_g (by with_unfolding_all rfl) _ rfl _ rfl _ hA rfl ?_) | (with_reducible refine num_load_g (by with_unfolding_all rfl) _ rfl _ rfl _ hB rfl ?_) | (with_reducible refine num_load_g (by with_unfolding_all rfl) _ rfl _ rfl _ hM rfl ?_) | (with_reducible refine num_load_g (by with_unfolding_all rfl) _ rfl _ rfl _ hS rfl ?_))
  go_ret
  exact ⟨rfl, hbel⟩
theorem near_walk (a b m : Nat) (ha : a < Nm.big) (hb : b < Nm.big) (hm : m < Nm.big) (w : World) : Calls Try.prog 3 #[.agg (numC a), .agg (numC b), .agg (numC m)] w fun e w' => e = .returned (.bool true) ∧ Below w.heap.size w w' := by
  by_cases h : a + m < Nm.big
  · have ka := ref_add_is a m ha hm (a + m) false (Nat.mod_eq_of_lt h) (decide_eq_false (by omega))
    by_cases hl : a + m < b
    · exact lnear_less a b m _ (Lib.hid ka) (Lib.hid (near a b m ha hb hm false (decide_eq_false (by omega)))) (Lib.hid (ref_less_is _ b h hb true (decide_eq_true hl))) w
    · exact lnear_more a b m _ (Lib.hid ka) (Lib.hid (near a b m ha hb hm true (decide_eq_true (by omega)))) (Lib.hid (ref_less_is _ b h hb false (decide_eq_false hl))) w
  · exact lnear_over a b m _ (Lib.hid (ref_add_is a m ha hm _ true rfl (decide_eq_true (by omega)))) (Lib.hid (near a b m ha hb hm true (decide_eq_true (by omega)))) w
end Go.Proofs.Ytlednkbnhnjgcaa
