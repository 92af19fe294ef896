import Derived.Test.YteachheacllblabLawCpOrd
import Derived.Test.YteachheacllblabCpMeets
namespace Go.Proofs.Yteachheacllblab
open Go.RowKit
theorem eql_bool_same (b : Bool) (w : World) : (binOp .eql 4 (.bool b) (.bool b)).run Try.prog w = .ok (.bool true) w := by
  cases b <;> kernel_rfl
theorem meets_is (f : Nat → Nat) (a : Nat) (hf : ∀ i, f i < 256) (ha : a < Nm.big) (g : Bool) (hg : (!decide (a < Nm.unbytes f 32)) = g) (w : World) : Calls Try.prog 19 #[.agg (hashC f), .agg (numC a)] w fun e w' => e = .returned (.bool g) ∧ Below w.heap.size w w' := by
  rw [← hg]; exact meets f a hf ha w
set_option maxRecDepth 100000 in
set_option maxHeartbeats 2000000 in
theorem meets_not (f : Nat → Nat) (a b U : Nat) (KN : Hid (∀ w, Calls Try.prog 18 #[.agg (hashC f)] w fun e w' => e = .returned (.agg (numC U)) ∧ Below w.heap.size w w'))
    (KM : Hid (∀ w, Calls Try.prog 19 #[.agg (hashC f), .agg (numC a)] w fun e w' => e = .returned (.bool false) ∧ Below w.heap.size w w')) (KL : Hid (∀ w, Calls Try.prog 12 #[.agg (numC a), .agg (numC U)] w fun e w' => e = .returned (.bool true) ∧ Below w.heap.size w w')) (w : World) :
    Calls Try.prog 5 #[.agg (hashC f), .agg (numC a), .agg (numC b)] w fun e w' => e = .returned (.bool true) ∧ Below w.heap.size w w' := by
  go_enter Try.func5, Try.ntmps5
  go_upto_region 1 with fail
  generalize hw0 : World.alloc _ _ = v0
  have hbel : Below w.heap.size w v0 := by rw [← hw0]; exact (((Below.refl _ _).alloc (by first | exact Nat.le_refl _ | (simp; done) | (simp; omega)) _).alloc (by first | exact Nat.le_refl _ | (simp; done) | (simp; omega)) _).alloc (by first | exact Nat.le_refl _ | (simp; done) | (simp; omega)) _
  have hF : Has v0 (w.heap.size) (hashC f) 37 := by rw [← hw0]; exact ((Has.new _ _).alloc _).alloc _
  have hA : Has v0 (w.heap.size + 1) (numC a) 24 := by rw [← hw0]; exact (Has.new1 _ _ _).alloc _
  have hB : Has v0 (w.heap.size + 1 + 1) (numC b) 24 := by rw [← hw0]; exact Has.new2 _ _ _ _
  clear hw0
  generalize hg2 : w.heap.size + 1 + 1 = b_hB at hB ⊢
  clear hg2
  generalize hg1 : w.heap.size + 1 = b_hA at hA ⊢
  clear hg1
  
  go_wp2_with (first | fail | (with_reducible refine hash_load rfl _ rfl _ rfl _ hF ?_) | (with_reducible refine num_load rfl _ rfl _ rfl _ hA rfl ?_) | (with_reducible refine num_load rfl _ rfl _ rfl _ hB rfl ?_) | (with_reducible refine hash_load_g (by with_unfolding_all rfl) _ rfl _ rfl _ hF ?_) | (with_reducible refine num_load_g (by with_unfolding_all rfl) _ rfl _ rfl _ hA rfl ?_) | (with_reducible refine num_load_g (by with_unfolding_all rfl) _ rfl _ rfl _ hB rfl ?_))
  refine (alive _).mono ?_
  rintro e v1 ⟨rfl, hb1⟩
  replace hF := hF.on hb1
  replace hA := hA.on hb1
  replace hB := hB.on hb1
  replace hbel := hbel.trans (hb1.mono hbel.size)
  clear hb1
  go_wp2_with (first | fail | (with_reducible refine hash_load rfl _ rfl _ rfl _ hF ?_) | (with_reducible refine num_load rfl _ rfl _ rfl _ hA rfl ?_) | (with_reducible refine num_load rfl _ rfl _ rfl _ hB rfl ?_) | (with_reducible refine hash_load_g (by with_unfolding_all rfl) _ rfl _ rfl _ hF ?_) | (with_reducible refine num_load_g (by with_unfolding_all rfl) _ rfl _ rfl _ hA rfl ?_) | (with_reducible refine num_load_g (by with_unfolding_all rfl) _ rfl _ rfl _ hB rfl ?_))
  refine (KN.out _).mono ?_
  rintro e v2 ⟨rfl, hb2⟩
  replace hF := hF.on hb2
  replace hA := hA.on hb2
  replace hB := hB.on hb2
  replace hbel := hbel.trans (hb2.mono hbel.size)
  clear hb2
  go_upto_region 4 with (with_reducible refine num_store rfl _ _ rfl _ _ rfl rfl _ (Has.newz _) rfl ?_)
  generalize hw3 : World.setRow _ _ _ = v3
  have hb3 : Below v2.heap.size v2 v3 := by rw [← hw3]; exact below_setRow ((Below.refl _ _).alloc (Nat.le_refl _) _) (Nat.le_refl _) _
  have hX : Has v3 v2.heap.size (numC U) 24 := by rw [← hw3]; exact (Has.newz _).row _
  replace hF := hF.on hb3
  replace hA := hA.on hb3
  replace hB := hB.on hb3
  replace hbel := hbel.trans (hb3.mono hbel.size)
  clear hw3 hb3
  generalize v2.heap.size = b_hX at hX ⊢
  go_wp2_with (first | fail | (with_reducible refine hash_load rfl _ rfl _ rfl _ hF ?_) | (with_reducible refine num_load rfl _ rfl _ rfl _ hA rfl ?_) | (with_reducible refine num_load rfl _ rfl _ rfl _ hB rfl ?_) | (with_reducible refine num_load rfl _ rfl _ rfl _ hX rfl ?_) | (with_reducible refine hash_load_g (by with_unfolding_all rfl) _ rfl _ rfl _ hF ?_) | (with_reducible refine num_load_g (by with_unfolding_all rfl) _ rfl _ rfl _ hA rfl ?_) | (with_reducible refine num_load_g (by with_unfolding_all rfl) _ rfl _ rfl _ hB rfl ?_) | (with_reducible refine num_load_g (by with_unfolding_all rfl) _ rfl _ rfl _ hX rfl ?_))
  refine (KM.out _).mono ?_
  rintro e v4 ⟨rfl, hb4⟩
  replace hF := hF.on hb4
  replace hA := hA.on hb4
  replace hB := hB.on hb4
  replace hX := hX.on hb4
  replace hbel := hbel.trans (hb4.mono hbel.size)
  clear hb4
  have hqb := eql_bool_same
  go_wp2_with (first | fail | (with_reducible refine hash_load rfl _ rfl _ rfl _ hF ?_) | (with_reducible refine num_load rfl _ rfl _ rfl _ hA rfl ?_) | (with_reducible refine num_load rfl _ rfl _ rfl _ hB rfl ?_) | (with_reducible refine num_load rfl _ rfl _ rfl _ hX rfl ?_) | (with_reducible refine hash_load_g (by with_unfolding_all rfl) _ rfl _ rfl _ hF ?_) | (with_reducible refine num_load_g (by with_unfolding_all rfl) _ rfl _ rfl _ hA rfl ?_) | (with_reducible refine num_load_g (by with_unfolding_all rfl) _ rfl _ rfl _ hB rfl ?_) | (with_reducible refine num_load_g (by with_unfolding_all rfl) _ rfl _ rfl _ hX rfl ?_))
  refine (KL.out _).mono ?_
  rintro e v5 ⟨rfl, hb5⟩
  replace hF := hF.on hb5
  replace hA := hA.on hb5
  replace hB := hB.on hb5
  replace hX := hX.on hb5
  replace hbel := hbel.trans (hb5.mono hbel.size)
  clear hb5
  go_wp2_with (first | fail | (with_reducible refine hash_load rfl _ rfl _ rfl _ hF ?_) | (with_reducible refine num_load rfl _ rfl _ rfl _ hA rfl ?_) | (with_reducible refine num_load rfl _ rfl _ rfl _ hB rfl ?_) | (with_reducible refine num_load rfl _ rfl _ rfl _ hX rfl ?_) | (with_reducible refine hash_load_g (by with_unfolding_all rfl) _ rfl _ rfl _ hF ?_) | (with_reducible refine num_load_g (by with_unfolding_all rfl) _ rfl _ rfl _ hA rfl ?_) | (with_reducible refine num_load_g (by with_unfolding_all rfl) _ rfl _ rfl _ hB rfl ?_) | (with_reducible refine num_load_g (by with_unfolding_all rfl) _ rfl _ rfl _ hX rfl ?_))
  go_ret
  exact ⟨rfl, hbel⟩
set_option maxRecDepth 100000 in
set_option maxHeartbeats 2000000 in
theorem meets_less (f : Nat → Nat) (a b U : Nat) (KN : Hid (∀ w, Calls Try.prog 18 #[.agg (hashC f)] w fun e w' => e = .returned (.agg (numC U)) ∧ Below w.heap.size w w'))
    (KM : Hid (∀ w, Calls Try.prog 19 #[.agg (hashC f), .agg (numC a)] w fun e w' => e = .returned (.bool true) ∧ Below w.heap.size w w')) (KL : Hid (∀ w, Calls Try.prog 12 #[.agg (numC a), .agg (numC U)] w fun e w' => e = .returned (.bool false) ∧ Below w.heap.size w w'))
    (KB : Hid (∀ w, Calls Try.prog 12 #[.agg (numC b), .agg (numC a)] w fun e w' => e = .returned (.bool true) ∧ Below w.heap.size w w')) (w : World) :
    Calls Try.prog 5 #[.agg (hashC f), .agg (numC a), .agg (numC b)] w fun e w' => e = .returned (.bool true) ∧ Below w.heap.size w w' := by
  go_enter Try.func5, Try.ntmps5
  go_upto_region 1 with fail
  generalize hw0 : World.alloc _ _ = v0
  have hbel : Below w.heap.size w v0 := by rw [← hw0]; exact (((Below.refl _ _).alloc (by first | exact Nat.le_refl _ | (simp; done) | (simp; omega)) _).alloc (by first | exact Nat.le_refl _ | (simp; done) | (simp; omega)) _).alloc (by first | exact Nat.le_refl _ | (simp; done) | (simp; omega)) _
  have hF : Has v0 (w.heap.size) (hashC f) 37 := by rw [← hw0]; exact ((Has.new _ _).alloc _).alloc _
  have hA : Has v0 (w.heap.size + 1) (numC a) 24 := by rw [← hw0]; exact (Has.new1 _ _ _).alloc _
  have hB : Has v0 (w.heap.size + 1 + 1) (numC b) 24 := by rw [← hw0]; exact Has.new2 _ _ _ _
  clear hw0
  generalize hg2 : w.heap.size + 1 + 1 = b_hB at hB ⊢
  clear hg2
  generalize hg1 : w.heap.size + 1 = b_hA at hA ⊢
  clear hg1
  
  go_wp2_with (first | fail | (with_reducible refine hash_load rfl _ rfl _ rfl _ hF ?_) | (with_reducible refine num_load rfl _ rfl _ rfl _ hA rfl ?_) | (with_reducible refine num_load rfl _ rfl _ rfl _ hB rfl ?_) | (with_reducible refine hash_load_g (by with_unfolding_all rfl) _ rfl _ rfl _ hF ?_) | (with_reducible refine num_load_g (by with_unfolding_all rfl) _ rfl _ rfl _ hA rfl ?_) | (with_reducible refine num_load_g (by with_unfolding_all rfl) _ rfl _ rfl _ hB rfl ?_))
  refine (alive _).mono ?_
  rintro e v1 ⟨rfl, hb1⟩
  replace hF := hF.on hb1
  replace hA := hA.on hb1
  replace hB := hB.on hb1
  replace hbel := hbel.trans (hb1.mono hbel.size)
  clear hb1
  go_wp2_with (first | fail | (with_reducible refine hash_load rfl _ rfl _ rfl _ hF ?_) | (with_reducible refine num_load rfl _ rfl _ rfl _ hA rfl ?_) | (with_reducible refine num_load rfl _ rfl _ rfl _ hB rfl ?_) | (with_reducible refine hash_load_g (by with_unfolding_all rfl) _ rfl _ rfl _ hF ?_) | (with_reducible refine num_load_g (by with_unfolding_all rfl) _ rfl _ rfl _ hA rfl ?_) | (with_reducible refine num_load_g (by with_unfolding_all rfl) _ rfl _ rfl _ hB rfl ?_))
  refine (KN.out _).mono ?_
  rintro e v2 ⟨rfl, hb2⟩
  replace hF := hF.on hb2
  replace hA := hA.on hb2
  replace hB := hB.on hb2
  replace hbel := hbel.trans (hb2.mono hbel.size)
  clear hb2
  go_upto_region 4 with (with_reducible refine num_store rfl _ _ rfl _ _ rfl rfl _ (Has.newz _) rfl ?_)
  generalize hw3 : World.setRow _ _ _ = v3
  have hb3 : Below v2.heap.size v2 v3 := by rw [← hw3]; exact below_setRow ((Below.refl _ _).alloc (Nat.le_refl _) _) (Nat.le_refl _) _
  have hX : Has v3 v2.heap.size (numC U) 24 := by rw [← hw3]; exact (Has.newz _).row _
  replace hF := hF.on hb3
  replace hA := hA.on hb3
  replace hB := hB.on hb3
  replace hbel := hbel.trans (hb3.mono hbel.size)
  clear hw3 hb3
  generalize v2.heap.size = b_hX at hX ⊢
  go_wp2_with (first | fail | (with_reducible refine hash_load rfl _ rfl _ rfl _ hF ?_) | (with_reducible refine num_load rfl _ rfl _ rfl _ hA rfl ?_) | (with_reducible refine num_load rfl _ rfl _ rfl _ hB rfl ?_) | (with_reducible refine num_load rfl _ rfl _ rfl _ hX rfl ?_) | (with_reducible refine hash_load_g (by with_unfolding_all rfl) _ rfl _ rfl _ hF ?_) | (with_reducible refine num_load_g (by with_unfolding_all rfl) _ rfl _ rfl _ hA rfl ?_) | (with_reducible refine num_load_g (by with_unfolding_all rfl) _ rfl _ rfl _ hB rfl ?_) | (with_reducible refine num_load_g (by with_unfolding_all rfl) _ rfl _ rfl _ hX rfl ?_))
  refine (KM.out _).mono ?_
  rintro e v4 ⟨rfl, hb4⟩
  replace hF := hF.on hb4
  replace hA := hA.on hb4
  replace hB := hB.on hb4
  replace hX := hX.on hb4
  replace hbel := hbel.trans (hb4.mono hbel.size)
  clear hb4
  have hqb := eql_bool_same
  go_wp2_with (first | fail | (with_reducible refine hash_load rfl _ rfl _ rfl _ hF ?_) | (with_reducible refine num_load rfl _ rfl _ rfl _ hA rfl ?_) | (with_reducible refine num_load rfl _ rfl _ rfl _ hB rfl ?_) | (with_reducible refine num_load rfl _ rfl _ rfl _ hX rfl ?_) | (with_reducible refine hash_load_g (by with_unfolding_all rfl) _ rfl _ rfl _ hF ?_) | (with_reducible refine num_load_g (by with_unfolding_all rfl) _ rfl _ rfl _ hA rfl ?_) | (with_reducible refine num_load_g (by with_unfolding_all rfl) _ rfl _ rfl _ hB rfl ?_) | (with_reducible refine num_load_g (by with_unfolding_all rfl) _ rfl _ rfl _ hX rfl ?_))
  refine (KL.out _).mono ?_
  rintro e v5 ⟨rfl, hb5⟩
  replace hF := hF.on hb5
  replace hA := hA.on hb5
  replace hB := hB.on hb5
  replace hX := hX.on hb5
  replace hbel := hbel.trans (hb5.mono hbel.size)
  clear hb5
  go_wp2_with (first | fail | (with_reducible refine hash_load rfl _ rfl _ rfl _ hF ?_) | (with_reducible refine num_load rfl _ rfl _ rfl _ hA rfl ?_) | (with_reducible refine num_load rfl _ rfl _ rfl _ hB rfl ?_) | (with_reducible refine num_load rfl _ rfl _ rfl _ hX rfl ?_) | (with_reducible refine hash_load_g (by with_unfolding_all rfl) _ rfl _ rfl _ hF ?_) | (with_reducible refine num_load_g (by with_unfolding_all rfl) _ rfl _ rfl _ hA rfl ?_) | (with_reducible refine num_load_g (by with_unfolding_all rfl) _ rfl _ rfl _ hB rfl ?_) | (with_reducible refine num_load_g (by with_unfolding_all rfl) _ rfl _ rfl _ hX rfl ?_))
  refine (KB.out _).mono ?_
  rintro e v6 ⟨rfl, hb6⟩
  replace hF := hF.on hb6
  replace hA := hA.on hb6
  replace hB := hB.on hb6
  replace hX := hX.on hb6
  replace hbel := hbel.trans (hb6.mono hbel.size)
  clear hb6
  go_wp2_with (first | fail | (with_reducible refine hash_load rfl _ rfl _ rfl _ hF ?_) | (with_reducible refine num_load rfl _ rfl _ rfl _ hA rfl ?_) | (with_reducible refine num_load rfl _ rfl _ rfl _ hB rfl ?_) | (with_reducible refine num_load rfl _ rfl _ rfl _ hX rfl ?_) | (with_reducible refine hash_load_g (by with_unfolding_all rfl) _ rfl _ rfl _ hF ?_) | (with_reducible refine num_load_g (by with_unfolding_all rfl) _ rfl _ rfl _ hA rfl ?_) | (with_reducible refine num_load_g (by with_unfolding_all rfl) _ rfl _ rfl _ hB rfl ?_) | (with_reducible refine num_load_g (by with_unfolding_all rfl) _ rfl _ rfl _ hX rfl ?_))
  go_ret
  exact ⟨rfl, hbel⟩
set_option maxRecDepth 100000 in
set_option maxHeartbeats 2000000 in
theorem meets_more (f : Nat → Nat) (a b U : Nat) (KN : Hid (∀ w, Calls Try.prog 18 #[.agg (hashC f)] w fun e w' => e = .returned (.agg (numC U)) ∧ Below w.heap.size w w'))
    (KM : Hid (∀ w, Calls Try.prog 19 #[.agg (hashC f), .agg (numC a)] w fun e w' => e = .returned (.bool true) ∧ Below w.heap.size w w')) (KL : Hid (∀ w, Calls Try.prog 12 #[.agg (numC a), .agg (numC U)] w fun e w' => e = .returned (.bool false) ∧ Below w.heap.size w w'))
    (KB : Hid (∀ w, Calls Try.prog 12 #[.agg (numC b), .agg (numC a)] w fun e w' => e = .returned (.bool false) ∧ Below w.heap.size w w')) (KM2 : Hid (∀ w, Calls Try.prog 19 #[.agg (hashC f), .agg (numC b)] w fun e w' => e = .returned (.bool true) ∧ Below w.heap.size w w')) (w : World) :
    Calls Try.prog 5 #[.agg (hashC f), .agg (numC a), .agg (numC b)] w fun e w' => e = .returned (.bool true) ∧ Below w.heap.size w w' := by
  go_enter Try.func5, Try.ntmps5
  go_upto_region 1 with fail
  generalize hw0 : World.alloc _ _ = v0
  have hbel : Below w.heap.size w v0 := by rw [← hw0]; exact (((Below.refl _ _).alloc (by first | exact Nat.le_refl _ | (simp; done) | (simp; omega)) _).alloc (by first | exact Nat.le_refl _ | (simp; done) | (simp; omega)) _).alloc (by first | exact Nat.le_refl _ | (simp; done) | (simp; omega)) _
  have hF : Has v0 (w.heap.size) (hashC f) 37 := by rw [← hw0]; exact ((Has.new _ _).alloc _).alloc _
  have hA : Has v0 (w.heap.size + 1) (numC a) 24 := by rw [← hw0]; exact (Has.new1 _ _ _).alloc _
  have hB : Has v0 (w.heap.size + 1 + 1) (numC b) 24 := by rw [← hw0]; exact Has.new2 _ _ _ _
  clear hw0
  generalize hg2 : w.heap.size + 1 + 1 = b_hB at hB ⊢
  clear hg2
  generalize hg1 : w.heap.size + 1 = b_hA at hA ⊢
  clear hg1
  
  go_wp2_with (first | fail | (with_reducible refine hash_load rfl _ rfl _ rfl _ hF ?_) | (with_reducible refine num_load rfl _ rfl _ rfl _ hA rfl ?_) | (with_reducible refine num_load rfl _ rfl _ rfl _ hB rfl ?_) | (with_reducible refine hash_load_g (by with_unfolding_all rfl) _ rfl _ rfl _ hF ?_) | (with_reducible refine num_load_g (by with_unfolding_all rfl) _ rfl _ rfl _ hA rfl ?_) | (with_reducible refine num_load_g (by with_unfolding_all rfl) _ rfl _ rfl _ hB rfl ?_))
  refine (alive _).mono ?_
  rintro e v1 ⟨rfl, hb1⟩
  replace hF := hF.on hb1
  replace hA := hA.on hb1
  replace hB := hB.on hb1
  replace hbel := hbel.trans (hb1.mono hbel.size)
  clear hb1
  go_wp2_with (first | fail | (with_reducible refine hash_load rfl _ rfl _ rfl _ hF ?_) | (with_reducible refine num_load rfl _ rfl _ rfl _ hA rfl ?_) | (with_reducible refine num_load rfl _ rfl _ rfl _ hB rfl ?_) | (with_reducible refine hash_load_g (by with_unfolding_all rfl) _ rfl _ rfl _ hF ?_) | (with_reducible refine num_load_g (by with_unfolding_all rfl) _ rfl _ rfl _ hA rfl ?_) | (with_reducible refine num_load_g (by with_unfolding_all rfl) _ rfl _ rfl _ hB rfl ?_))
  refine (KN.out _).mono ?_
  rintro e v2 ⟨rfl, hb2⟩
  replace hF := hF.on hb2
  replace hA := hA.on hb2
  replace hB := hB.on hb2
  replace hbel := hbel.trans (hb2.mono hbel.size)
  clear hb2
  go_upto_region 4 with (with_reducible refine num_store rfl _ _ rfl _ _ rfl rfl _ (Has.newz _) rfl ?_)
  generalize hw3 : World.setRow _ _ _ = v3
  have hb3 : Below v2.heap.size v2 v3 := by rw [← hw3]; exact below_setRow ((Below.refl _ _).alloc (Nat.le_refl _) _) (Nat.le_refl _) _
  have hX : Has v3 v2.heap.size (numC U) 24 := by rw [← hw3]; exact (Has.newz _).row _
  replace hF := hF.on hb3
  replace hA := hA.on hb3
  replace hB := hB.on hb3
  replace hbel := hbel.trans (hb3.mono hbel.size)
  clear hw3 hb3
  generalize v2.heap.size = b_hX at hX ⊢
  go_wp2_with (first | fail | (with_reducible refine hash_load rfl _ rfl _ rfl _ hF ?_) | (with_reducible refine num_load rfl _ rfl _ rfl _ hA rfl ?_) | (with_reducible refine num_load rfl _ rfl _ rfl _ hB rfl ?_) | (with_reducible refine num_load rfl _ rfl _ rfl _ hX rfl ?_) | (with_reducible refine hash_load_g (by with_unfolding_all rfl) _ rfl _ rfl _ hF ?_) | (with_reducible refine num_load_g (by with_unfolding_all rfl) _ rfl _ rfl _ hA rfl ?_) | (with_reducible refine num_load_g (by with_unfolding_all rfl) _ rfl _ rfl _ hB rfl ?_) | (with_reducible refine num_load_g (by with_unfolding_all rfl) _ rfl _ rfl _ hX rfl ?_))
  refine (KM.out _).mono ?_
  rintro e v4 ⟨rfl, hb4⟩
  replace hF := hF.on hb4
  replace hA := hA.on hb4
  replace hB := hB.on hb4
  replace hX := hX.on hb4
  replace hbel := hbel.trans (hb4.mono hbel.size)
  clear hb4
  have hqb := eql_bool_same
  go_wp2_with (first | fail | (with_reducible refine hash_load rfl _ rfl _ rfl _ hF ?_) | (with_reducible refine num_load rfl _ rfl _ rfl _ hA rfl ?_) | (with_reducible refine num_load rfl _ rfl _ rfl _ hB rfl ?_) | (with_reducible refine num_load rfl _ rfl _ rfl _ hX rfl ?_) | (with_reducible refine hash_load_g (by with_unfolding_all rfl) _ rfl _ rfl _ hF ?_) | (with_reducible refine num_load_g (by with_unfolding_all rfl) _ rfl _ rfl _ hA rfl ?_) | (with_reducible refine num_load_g (by with_unfolding_all rfl) _ rfl _ rfl _ hB rfl ?_) | (with_reducible refine num_load_g (by with_unfolding_all rfl) _ rfl _ rfl _ hX rfl ?_))
  refine (KL.out _).mono ?_
  rintro e v5 ⟨rfl, hb5⟩
  replace hF := hF.on hb5
  replace hA := hA.on hb5
  replace hB := hB.on hb5
  replace hX := hX.on hb5
  replace hbel := hbel.trans (hb5.mono hbel.size)
  clear hb5
  go_wp2_with (first | fail | (with_reducible refine hash_load rfl _ rfl _ rfl _ hF ?_) | (with_reducible refine num_load rfl _ rfl _ rfl _ hA rfl ?_) | (with_reducible refine num_load rfl _ rfl _ rfl _ hB rfl ?_) | (with_reducible refine num_load rfl _ rfl _ rfl _ hX rfl ?_) | (with_reducible refine hash_load_g (by with_unfolding_all rfl) _ rfl _ rfl _ hF ?_) | (with_reducible refine num_load_g (by with_unfolding_all rfl) _ rfl _ rfl _ hA rfl ?_) | (with_reducible refine num_load_g (by with_unfolding_all rfl) _ rfl _ rfl _ hB rfl ?_) | (with_reducible refine num_load_g (by with_unfolding_all rfl) _ rfl _ rfl _ hX rfl ?_))
  refine (KB.out _).mono ?_
  rintro e v6 ⟨rfl, hb6⟩
  replace hF := hF.on hb6
  replace hA := hA.on hb6
  replace hB := hB.on hb6
  replace hX := hX.on hb6
  replace hbel := hbel.trans (hb6.mono hbel.size)
  clear hb6
  go_wp2_with (first | fail | (with_reducible refine hash_load rfl _ rfl _ rfl _ hF ?_) | (with_reducible refine num_load rfl _ rfl _ rfl _ hA rfl ?_) | (with_reducible refine num_load rfl _ rfl _ rfl _ hB rfl ?_) | (with_reducible refine num_load rfl _ rfl _ rfl _ hX rfl ?_) | (with_reducible refine hash_load_g (by with_unfolding_all rfl) _ rfl _ rfl _ hF ?_) | (with_reducible refine num_load_g (by with_unfolding_all rfl) _ rfl _ rfl _ hA rfl ?_) | (with_reducible refine num_load_g (by with_unfolding_all rfl) _ rfl _ rfl _ hB rfl ?_) | (with_reducible refine num_load_g (by with_unfolding_all rfl) _ rfl _ rfl _ hX rfl ?_))
  refine (KM2.out _).mono ?_
  rintro e v7 ⟨rfl, hb7⟩
  replace hF := hF.on hb7
  replace hA := hA.on hb7
  replace hB := hB.on hb7
  replace hX := hX.on hb7
  replace hbel := hbel.trans (hb7.mono hbel.size)
  clear hb7
  go_wp2_with (first | fail | (with_reducible refine hash_load rfl _ rfl _ rfl _ hF ?_) | (with_reducible refine num_load rfl _ rfl _ rfl _ hA rfl ?_) | (with_reducible refine num_load rfl _ rfl _ rfl _ hB rfl ?_) | (with_reducible refine num_load rfl _ rfl _ rfl _ hX rfl ?_) | (with_reducible refine hash_load_g (by with_unfolding_all rfl) _ rfl _ rfl _ hF ?_) | (with_reducible refine num_load_g (by with_unfolding_all rfl) _ rfl _ rfl _ hA rfl ?_) | (with_reducible refine num_load_g (by with_unfolding_all rfl) _ rfl _ rfl _ hB rfl ?_) | (with_reducible refine num_load_g (by with_unfolding_all rfl) _ rfl _ rfl _ hX rfl ?_))
  go_ret
  exact ⟨rfl, hbel⟩
theorem meets_walk (f : Nat → Nat) (a b : Nat) (hf : ∀ i, f i < 256) (ha : a < Nm.big) (hb : b < Nm.big) (w : World) :
    Calls Try.prog 5 #[.agg (hashC f), .agg (numC a), .agg (numC b)] w fun e w' => e = .returned (.bool true) ∧ Below w.heap.size w w' := by
  have hU : Nm.unbytes f 32 < Nm.big := Nm.unbytes_lt f hf 32
  by_cases h : a < Nm.unbytes f 32
  · exact meets_not f a b _ (Lib.hid (ref_number f hf)) (Lib.hid (meets_is f a hf ha false (by simp [h]))) (Lib.hid (ref_less_is _ _ ha hU true (decide_eq_true h))) w
  by_cases h2 : b < a
  · exact meets_less f a b _ (Lib.hid (ref_number f hf)) (Lib.hid (meets_is f a hf ha true (by simp; omega))) (Lib.hid (ref_less_is _ _ ha hU false (decide_eq_false h))) (Lib.hid (ref_less_is _ _ hb ha true (decide_eq_true h2))) w
  · exact meets_more f a b _ (Lib.hid (ref_number f hf)) (Lib.hid (meets_is f a hf ha true (by simp; omega))) (Lib.hid (ref_less_is _ _ ha hU false (decide_eq_false h))) (Lib.hid (ref_less_is _ _ hb ha false (decide_eq_false h2))) (Lib.hid (meets_is f b hf hb true (by simp; omega))) w
end Go.Proofs.Yteachheacllblab
