import Derived.Test.YtlednkbnhnjgcaaWkChain
namespace Go.Proofs.Ytlednkbnhnjgcaa
open Go.RowKit Rg2
set_option maxRecDepth 100000 in
set_option maxHeartbeats 2000000 in
theorem near_over (a b m s : Nat) (KA : Hid (∀ w, Calls Try.prog 14 #[.agg (numC a), .agg (numC m)] w fun e w' => e = .returned (.tuple #[.agg (numC s), .bool true]) ∧ Below w.heap.size w w')) (w : World) :
    Calls Try.prog 7 #[.agg (numC a), .agg (numC b), .agg (numC m)] w fun e w' => e = .returned (.bool true) ∧ Below w.heap.size w w' := by
  go_enter Try.func7, Try.ntmps7
  go_upto_region 1 with fail
  generalize hw0 : World.alloc _ _ = v0
  have hbel : Below w.heap.size w v0 := by rw [← hw0]; exact (((Below.refl _ _).alloc (by first | exact Nat.le_refl _ | (simp; done) | (simp; omega)) _).alloc (by first | exact Nat.le_refl _ | (simp; done) | (simp; omega)) _).alloc (by first | exact Nat.le_refl _ | (simp; done) | (simp; omega)) _
  have hA : Has v0 (w.heap.size) (numC a) 24 := by rw [← hw0]; exact ((Has.new _ _).alloc _).alloc _
  have hB : Has v0 (w.heap.size + 1) (numC b) 24 := by rw [← hw0]; exact (Has.new1 _ _ _).alloc _
  have hM : Has v0 (w.heap.size + 1 + 1) (numC m) 24 := by rw [← hw0]; exact Has.new2 _ _ _ _
  clear hw0
  generalize hg2 : w.heap.size + 1 + 1 = b_hM at hM ⊢
  clear hg2
  generalize hg1 : w.heap.size + 1 = b_hB at hB ⊢
  clear hg1
  
  go_wp2_with (first | fail | (with_reducible refine num_load rfl _ rfl _ rfl _ hA rfl ?_) | (with_reducible refine num_load rfl _ rfl _ rfl _ hB rfl ?_) | (with_reducible refine num_load rfl _ rfl _ rfl _ hM rfl ?_) | (with_reducible refine num_load_g (by with_unfolding_all rfl) _ rfl _ rfl _ hA rfl ?_) | (with_reducible refine num_load_g (by with_unfolding_all rfl) _ rfl _ rfl _ hB rfl ?_) | (with_reducible refine num_load_g (by with_unfolding_all rfl) _ rfl _ rfl _ hM rfl ?_))
  refine (KA.out _).mono ?_
  rintro e v1 ⟨rfl, hb1⟩
  replace hA := hA.on hb1
  replace hB := hB.on hb1
  replace hM := hM.on hb1
  replace hbel := hbel.trans (hb1.mono hbel.size)
  clear hb1
  go_upto_region 2 with (with_reducible refine num_store rfl _ _ rfl _ _ rfl rfl _ (Has.newz _) rfl ?_)
  generalize hw2 : World.setRow _ _ _ = v2
  have hb2 : Below v1.heap.size v1 v2 := by rw [← hw2]; exact below_setRow ((Below.refl _ _).alloc (Nat.le_refl _) _) (Nat.le_refl _) _
  have hS : Has v2 v1.heap.size (numC s) 24 := by rw [← hw2]; exact (Has.newz _).row _
  replace hA := hA.on hb2
  replace hB := hB.on hb2
  replace hM := hM.on hb2
  replace hbel := hbel.trans (hb2.mono hbel.size)
  clear hw2 hb2
  generalize v1.heap.size = b_hS at hS ⊢
  go_wp2_with (first | fail | (with_reducible refine num_load rfl _ rfl _ rfl _ hA rfl ?_) | (with_reducible refine num_load rfl _ rfl _ rfl _ hB rfl ?_) | (with_reducible refine num_load rfl _ rfl _ rfl _ hM rfl ?_) | (with_reducible refine num_load rfl _ rfl _ rfl _ hS rfl ?_) | (with_reducible refine num_load_g (by with_unfolding_all rfl) _ rfl _ rfl _ hA rfl ?_) | (with_reducible refine num_load_g (by with_unfolding_all rfl) _ rfl _ rfl _ hB rfl ?_) | (with_reducible refine num_load_g (by with_unfolding_all rfl) _ rfl _ rfl _ hM rfl ?_) | (with_reducible refine num_load_g (by with_unfolding_all rfl) _ rfl _ rfl _ hS rfl ?_))
  go_ret
  exact ⟨rfl, hbel⟩
set_option maxRecDepth 100000 in
set_option maxHeartbeats 2000000 in
theorem near_less (a b m s : Nat) (KA : Hid (∀ w, Calls Try.prog 14 #[.agg (numC a), .agg (numC m)] w fun e w' => e = .returned (.tuple #[.agg (numC s), .bool false]) ∧ Below w.heap.size w w'))
    (KL : Hid (∀ w, Calls Try.prog 15 #[.agg (numC s), .agg (numC b)] w fun e w' => e = .returned (.bool true) ∧ Below w.heap.size w w')) (w : World) :
    Calls Try.prog 7 #[.agg (numC a), .agg (numC b), .agg (numC m)] w fun e w' => e = .returned (.bool false) ∧ Below w.heap.size w w' := by
  go_enter Try.func7, Try.ntmps7
  go_upto_region 1 with fail
  generalize hw0 : World.alloc _ _ = v0
  have hbel : Below w.heap.size w v0 := by rw [← hw0]; exact (((Below.refl _ _).alloc (by first | exact Nat.le_refl _ | (simp; done) | (simp; omega)) _).alloc (by first | exact Nat.le_refl _ | (simp; done) | (simp; omega)) _).alloc (by first | exact Nat.le_refl _ | (simp; done) | (simp; omega)) _
  have hA : Has v0 (w.heap.size) (numC a) 24 := by rw [← hw0]; exact ((Has.new _ _).alloc _).alloc _
  have hB : Has v0 (w.heap.size + 1) (numC b) 24 := by rw [← hw0]; exact (Has.new1 _ _ _).alloc _
  have hM : Has v0 (w.heap.size + 1 + 1) (numC m) 24 := by rw [← hw0]; exact Has.new2 _ _ _ _
  clear hw0
  generalize hg2 : w.heap.size + 1 + 1 = b_hM at hM ⊢
  clear hg2
  generalize hg1 : w.heap.size + 1 = b_hB at hB ⊢
  clear hg1
  
  go_wp2_with (first | fail | (with_reducible refine num_load rfl _ rfl _ rfl _ hA rfl ?_) | (with_reducible refine num_load rfl _ rfl _ rfl _ hB rfl ?_) | (with_reducible refine num_load rfl _ rfl _ rfl _ hM rfl ?_) | (with_reducible refine num_load_g (by with_unfolding_all rfl) _ rfl _ rfl _ hA rfl ?_) | (with_reducible refine num_load_g (by with_unfolding_all rfl) _ rfl _ rfl _ hB rfl ?_) | (with_reducible refine num_load_g (by with_unfolding_all rfl) _ rfl _ rfl _ hM rfl ?_))
  refine (KA.out _).mono ?_
  rintro e v1 ⟨rfl, hb1⟩
  replace hA := hA.on hb1
  replace hB := hB.on hb1
  replace hM := hM.on hb1
  replace hbel := hbel.trans (hb1.mono hbel.size)
  clear hb1
  go_upto_region 2 with (with_reducible refine num_store rfl _ _ rfl _ _ rfl rfl _ (Has.newz _) rfl ?_)
  generalize hw2 : World.setRow _ _ _ = v2
  have hb2 : Below v1.heap.size v1 v2 := by rw [← hw2]; exact below_setRow ((Below.refl _ _).alloc (Nat.le_refl _) _) (Nat.le_refl _) _
  have hS : Has v2 v1.heap.size (numC s) 24 := by rw [← hw2]; exact (Has.newz _).row _
  replace hA := hA.on hb2
  replace hB := hB.on hb2
  replace hM := hM.on hb2
  replace hbel := hbel.trans (hb2.mono hbel.size)
  clear hw2 hb2
  generalize v1.heap.size = b_hS at hS ⊢
  go_wp2_with (first | fail | (with_reducible refine num_load rfl _ rfl _ rfl _ hA rfl ?_) | (with_reducible refine num_load rfl _ rfl _ rfl _ hB rfl ?_) | (with_reducible refine num_load rfl _ rfl _ rfl _ hM rfl ?_) | (with_reducible refine num_load rfl _ rfl _ rfl _ hS rfl ?_) | (with_reducible refine num_load_g (by with_unfolding_all rfl) _ rfl _ rfl _ hA rfl ?_) | (with_reducible refine num_load_g (by with_unfolding_all rfl) _ rfl _ rfl _ hB rfl ?_) | (with_reducible refine num_load_g (by with_unfolding_all rfl) _ rfl _ rfl _ hM rfl ?_) | (with_reducible refine num_load_g (by with_unfolding_all rfl) _ rfl _ rfl _ hS rfl ?_))
  refine (KL.out _).mono ?_
  rintro e v3 ⟨rfl, hb3⟩
  replace hA := hA.on hb3
  replace hB := hB.on hb3
  replace hM := hM.on hb3
  replace hS := hS.on hb3
  replace hbel := hbel.trans (hb3.mono hbel.size)
  clear hb3
  go_wp2_with (first | fail | (with_reducible refine num_load rfl _ rfl _ rfl _ hA rfl ?_) | (with_reducible refine num_load rfl _ rfl _ rfl _ hB rfl ?_) | (with_reducible refine num_load rfl _ rfl _ rfl _ hM rfl ?_) | (with_reducible refine num_load rfl _ rfl _ rfl _ hS rfl ?_) | (with_reducible refine num_load_g (by with_unfolding_all rfl) _ rfl _ rfl _ hA rfl ?_) | (with_reducible refine num_load_g (by with_unfolding_all rfl) _ rfl _ rfl _ hB rfl ?_) | (with_reducible refine num_load_g (by with_unfolding_all rfl) _ rfl _ rfl _ hM rfl ?_) | (with_reducible refine num_load_g (by with_unfolding_all rfl) _ rfl _ rfl _ hS rfl ?_))
  go_ret
  exact ⟨rfl, hbel⟩
set_option maxRecDepth 100000 in
set_option maxHeartbeats 2000000 in
theorem near_more (a b m s : Nat) (KA : Hid (∀ w, Calls Try.prog 14 #[.agg (numC a), .agg (numC m)] w fun e w' => e = .returned (.tuple #[.agg (numC s), .bool false]) ∧ Below w.heap.size w w'))
    (KL : Hid (∀ w, Calls Try.prog 15 #[.agg (numC s), .agg (numC b)] w fun e w' => e = .returned (.bool false) ∧ Below w.heap.size w w')) (w : World) :
    Calls Try.prog 7 #[.agg (numC a), .agg (numC b), .agg (numC m)] w fun e w' => e = .returned (.bool true) ∧ Below w.heap.size w w' := by
  go_enter Try.func7, Try.ntmps7
  go_upto_region 1 with fail
  generalize hw0 : World.alloc _ _ = v0
  have hbel : Below w.heap.size w v0 := by rw [← hw0]; exact (((Below.refl _ _).alloc (by first | exact Nat.le_refl _ | (simp; done) | (simp; omega)) _).alloc (by first | exact Nat.le_refl _ | (simp; done) | (simp; omega)) _).alloc (by first | exact Nat.le_refl _ | (simp; done) | (simp; omega)) _
  have hA : Has v0 (w.heap.size) (numC a) 24 := by rw [← hw0]; exact ((Has.new _ _).alloc _).alloc _
  have hB : Has v0 (w.heap.size + 1) (numC b) 24 := by rw [← hw0]; exact (Has.new1 _ _ _).alloc _
  have hM : Has v0 (w.heap.size + 1 + 1) (numC m) 24 := by rw [← hw0]; exact Has.new2 _ _ _ _
  clear hw0
  generalize hg2 : w.heap.size + 1 + 1 = b_hM at hM ⊢
  clear hg2
  generalize hg1 : w.heap.size + 1 = b_hB at hB ⊢
  clear hg1
  
  go_wp2_with (first | fail | (with_reducible refine num_load rfl _ rfl _ rfl _ hA rfl ?_) | (with_reducible refine num_load rfl _ rfl _ rfl _ hB rfl ?_) | (with_reducible refine num_load rfl _ rfl _ rfl _ hM rfl ?_) | (with_reducible refine num_load_g (by with_unfolding_all rfl) _ rfl _ rfl _ hA rfl ?_) | (with_reducible refine num_load_g (by with_unfolding_all rfl) _ rfl _ rfl _ hB rfl ?_) | (with_reducible refine num_load_g (by with_unfolding_all rfl) _ rfl _ rfl _ hM rfl ?_))
  refine (KA.out _).mono ?_
  rintro e v1 ⟨rfl, hb1⟩
  replace hA := hA.on hb1
  replace hB := hB.on hb1
  replace hM := hM.on hb1
  replace hbel := hbel.trans (hb1.mono hbel.size)
  clear hb1
  go_upto_region 2 with (with_reducible refine num_store rfl _ _ rfl _ _ rfl rfl _ (Has.newz _) rfl ?_)
  generalize hw2 : World.setRow _ _ _ = v2
  have hb2 : Below v1.heap.size v1 v2 := by rw [← hw2]; exact below_setRow ((Below.refl _ _).alloc (Nat.le_refl _) _) (Nat.le_refl _) _
  have hS : Has v2 v1.heap.size (numC s) 24 := by rw [← hw2]; exact (Has.newz _).row _
  replace hA := hA.on hb2
  replace hB := hB.on hb2
  replace hM := hM.on hb2
  replace hbel := hbel.trans (hb2.mono hbel.size)
  clear hw2 hb2
  generalize v1.heap.size = b_hS at hS ⊢
  go_wp2_with (first | fail | (with_reducible refine num_load rfl _ rfl _ rfl _ hA rfl ?_) | (with_reducible refine num_load rfl _ rfl _ rfl _ hB rfl ?_) | (with_reducible refine num_load rfl _ rfl _ rfl _ hM rfl ?_) | (with_reducible refine num_load rfl _ rfl _ rfl _ hS rfl ?_) | (with_reducible refine num_load_g (by with_unfolding_all rfl) _ rfl _ rfl _ hA rfl ?_) | (with_reducible refine num_load_g (by with_unfolding_all rfl) _ rfl _ rfl _ hB rfl ?_) | (with_reducible refine num_load_g (by with_unfolding_all rfl) _ rfl _ rfl _ hM rfl ?_) | (with_reducible refine num_load_g (by with_unfolding_all rfl) _ rfl _ rfl _ hS rfl ?_))
  refine (KL.out _).mono ?_
  rintro e v3 ⟨rfl, hb3⟩
  replace hA := hA.on hb3
  replace hB := hB.on hb3
  replace hM := hM.on hb3
  replace hS := hS.on hb3
  replace hbel := hbel.trans (hb3.mono hbel.size)
  clear hb3
  go_wp2_with (first | fail | (with_reducible refine num_load rfl _ rfl _ rfl _ hA rfl ?_) | (with_reducible refine num_load rfl _ rfl _ rfl _ hB rfl ?_) | (with_reducible refine num_load rfl _ rfl _ rfl _ hM rfl ?_) | (with_reducible refine num_load rfl _ rfl _ rfl _ hS rfl ?_) | (with_reducible refine num_load_g (by with_unfolding_all rfl) _ rfl _ rfl _ hA rfl ?_) | (with_reducible refine num_load_g (by with_unfolding_all rfl) _ rfl _ rfl _ hB rfl ?_) | (with_reducible refine num_load_g (by with_unfolding_all rfl) _ rfl _ rfl _ hM rfl ?_) | (with_reducible refine num_load_g (by with_unfolding_all rfl) _ rfl _ rfl _ hS rfl ?_))
  go_ret
  exact ⟨rfl, hbel⟩
theorem near (a b m : Nat) (ha : a < Nm.big) (hb : b < Nm.big) (hm : m < Nm.big) (g : Bool) (hg : decide (b ≤ a + m) = g) (w : World) : Calls Try.prog 7 #[.agg (numC a), .agg (numC b), .agg (numC m)] w fun e w' => e = .returned (.bool g) ∧ Below w.heap.size w w' := by
  rw [← hg]
  by_cases h : a + m < Nm.big
  · have ka := add_is a m ha hm (a + m) false (Nat.mod_eq_of_lt h) (decide_eq_false (by omega))
    by_cases hl : a + m < b
    · rw [decide_eq_false (by omega)]
      exact near_less a b m _ (Lib.hid ka) (Lib.hid (less_is _ b h hb true (decide_eq_true hl))) w
    · rw [decide_eq_true (by omega)]
      exact near_more a b m _ (Lib.hid ka) (Lib.hid (less_is _ b h hb false (decide_eq_false hl))) w
  · rw [decide_eq_true (by omega)]
    exact near_over a b m _ (Lib.hid (add_is a m ha hm _ true rfl (decide_eq_true (by omega)))) w
set_option maxRecDepth 100000 in
set_option maxHeartbeats 2000000 in
theorem alive_of (KB : Hid (∀ w, Calls Try.prog 10 #[.int .i64 545259519] w fun e w' => e = .returned (.agg (numC 2)) ∧ Below w.heap.size w w'))
    (KC : Hid (∀ b w, Has w b #[.int .i64 545259519, .int .i64 545259519] 3 → Calls Try.prog 11 #[.slice (some ⟨b, 0, none⟩) 2 2] w fun e w' => e = .returned (.agg (numC 4)) ∧ Below w.heap.size w w')) (w : World) :
    Calls Try.prog 5 #[] w fun e w' => e = .returned (.bool true) ∧ Below w.heap.size w w' := by
  go_enter Try.func5, Try.ntmps5
  have hbel := Below.refl w.heap.size w
  have q2 : ∀ w, (binOp .eql 24 (.agg (numC 2)) (.agg #[.int .u64 2, .int .u64 0, .int .u64 0, .int .u64 0])).run Try.prog w = .ok (.bool true) w := fun w => eql_same'' 2 w
  have q4 : ∀ w, (binOp .eql 24 (.agg (numC 4)) (.agg #[.int .u64 4, .int .u64 0, .int .u64 0, .int .u64 0])).run Try.prog w = .ok (.bool true) w := fun w => eql_same'' 4 w
  go_wp2_with fail
  refine (KB.out _).mono ?_
  rintro e v1 ⟨rfl, hb1⟩
  replace hbel := hbel.trans (hb1.mono hbel.size)
  clear hb1
  go_wp2_with fail
  refine (KC.out _ _ (Has.new _ _)).mono ?_
  rintro e v_s ⟨rfl, hbs⟩
  replace hbel := hbel.trans (((Below.refl _ _).alloc (Nat.le_refl _) _ |>.trans (hbs.mono (by simp))).mono hbel.size)
  clear hbs
  go_wp2_with (first | fail)
  go_ret
  exact ⟨rfl, hbel⟩
theorem bits_alive : ofBits 545259519 = 2 := by decide +kernel
theorem alive (w : World) : Calls Try.prog 5 #[] w fun e w' => e = .returned (.bool true) ∧ Below w.heap.size w w' := by
  refine alive_of (Lib.hid fun w => ?_) (Lib.hid fun b w hL => ?_) w
  · have h := wbits 545259519 w
    rwa [bits_alive] at h
  · have h := chain b [545259519, 545259519] 2 rfl (by omega) w hL
    have e : chainTo [545259519, 545259519] 2 = 4 := by
      have h1 : ∀ k, k < 2 → ([545259519, 545259519] : List Int)[k]?.getD 0 = 545259519 := by decide
      simp only [chainTo, h1 0 (by omega), h1 1 (by omega), bits_alive]
      decide
    rwa [e] at h
end Go.Proofs.Ytlednkbnhnjgcaa
