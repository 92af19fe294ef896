/-
  PaceEven: the walk.
-/
import Derived.Test.YtmemppkkchfphaaPcAlive
import Derived.Test.YtmemppkkchfphaaLawPcBounds
namespace Go.Proofs.Ytmemppkkchfphaa
open Go.RowKit Rg2
set_option maxRecDepth 100000 in
set_option maxHeartbeats 2000000 in
theorem eve_bad (p : Pr) (hz : (prA p).size = 83) (n : Nat) (z2 z3 : Int) (KG : Hid (∀ w, Calls Try.prog 9 #[.agg (prA p)] w fun e w' => e = .returned (.bool false) ∧ Below w.heap.size w w'))
     (w : World) :
    Calls Try.prog 4 #[.agg (prA p), .agg (numC n), .int .i64 z2, .int .i64 z3] w fun e w' => e = .returned (.bool true) ∧ Below w.heap.size w w' := by
  have KA := Lib.hid alive10
  have hP_z := hz
  go_enter Try.func4, Try.ntmps4
  go_upto_region 1 with fail
  generalize hw0 : World.alloc _ _ = v0
  have hbel : Below w.heap.size w v0 := by rw [← hw0]; exact ((Below.refl _ _).alloc (by first | exact Nat.le_refl _ | (simp; done) | (simp; omega)) _).alloc (by first | exact Nat.le_refl _ | (simp; done) | (simp; omega)) _
  have hP : PrAt v0 (w.heap.size) p := by rw [← hw0]; exact (Has.new _ _).alloc _
  have hN : Has v0 (w.heap.size + 1) (numC n) 26 := by rw [← hw0]; exact Has.new1 _ _ _
  clear hw0
  generalize hg1 : w.heap.size + 1 = b_hN at hN ⊢
  clear hg1
  go_wp2_with (first | fail | (with_reducible refine pr_load rfl _ rfl _ rfl hP hP_z ?_) | (with_reducible refine pr_load_g (by with_unfolding_all rfl) _ rfl _ rfl hP hP_z ?_) | (with_reducible refine num_load rfl _ rfl _ rfl _ hN rfl ?_) | (with_reducible refine num_load_g (by with_unfolding_all rfl) _ rfl _ rfl _ hN rfl ?_))
  refine (KA.out _).mono ?_
  rintro e v1 ⟨rfl, hb1⟩
  replace hP := hP.on hb1
  replace hN := hN.on hb1
  replace hbel := hbel.trans (hb1.mono hbel.size)
  clear hb1
  go_wp2_with (first | fail | (with_reducible refine pr_load rfl _ rfl _ rfl hP hP_z ?_) | (with_reducible refine pr_load_g (by with_unfolding_all rfl) _ rfl _ rfl hP hP_z ?_) | (with_reducible refine num_load rfl _ rfl _ rfl _ hN rfl ?_) | (with_reducible refine num_load_g (by with_unfolding_all rfl) _ rfl _ rfl _ hN rfl ?_))
  refine (KG.out _).mono ?_
  rintro e v2 ⟨rfl, hb2⟩
  replace hP := hP.on hb2
  replace hN := hN.on hb2
  replace hbel := hbel.trans (hb2.mono hbel.size)
  clear hb2
  go_wp2_with (first | fail | (with_reducible refine pr_load rfl _ rfl _ rfl hP hP_z ?_) | (with_reducible refine pr_load_g (by with_unfolding_all rfl) _ rfl _ rfl hP hP_z ?_) | (with_reducible refine num_load rfl _ rfl _ rfl _ hN rfl ?_) | (with_reducible refine num_load_g (by with_unfolding_all rfl) _ rfl _ rfl _ hN rfl ?_))
  go_ret
  exact ⟨rfl, hbel⟩
set_option maxRecDepth 100000 in
set_option maxHeartbeats 2000000 in
theorem eve_0 (p : Pr) (hz : (prA p).size = 83) (n : Nat) (z2 z3 : Int) (t1 : decide (z2 < 0) = true) (KG : Hid (∀ w, Calls Try.prog 9 #[.agg (prA p)] w fun e w' => e = .returned (.bool true) ∧ Below w.heap.size w w'))
     (w : World) :
    Calls Try.prog 4 #[.agg (prA p), .agg (numC n), .int .i64 z2, .int .i64 z3] w fun e w' => e = .returned (.bool true) ∧ Below w.heap.size w w' := by
  have KA := Lib.hid alive10
  have hP_z := hz
  go_enter Try.func4, Try.ntmps4
  go_upto_region 1 with fail
  generalize hw0 : World.alloc _ _ = v0
  have hbel : Below w.heap.size w v0 := by rw [← hw0]; exact ((Below.refl _ _).alloc (by first | exact Nat.le_refl _ | (simp; done) | (simp; omega)) _).alloc (by first | exact Nat.le_refl _ | (simp; done) | (simp; omega)) _
  have hP : PrAt v0 (w.heap.size) p := by rw [← hw0]; exact (Has.new _ _).alloc _
  have hN : Has v0 (w.heap.size + 1) (numC n) 26 := by rw [← hw0]; exact Has.new1 _ _ _
  clear hw0
  generalize hg1 : w.heap.size + 1 = b_hN at hN ⊢
  clear hg1
  go_wp2_with (first | fail | (with_reducible refine pr_load rfl _ rfl _ rfl hP hP_z ?_) | (with_reducible refine pr_load_g (by with_unfolding_all rfl) _ rfl _ rfl hP hP_z ?_) | (with_reducible refine num_load rfl _ rfl _ rfl _ hN rfl ?_) | (with_reducible refine num_load_g (by with_unfolding_all rfl) _ rfl _ rfl _ hN rfl ?_))
  refine (KA.out _).mono ?_
  rintro e v1 ⟨rfl, hb1⟩
  replace hP := hP.on hb1
  replace hN := hN.on hb1
  replace hbel := hbel.trans (hb1.mono hbel.size)
  clear hb1
  go_wp2_with (first | fail | (with_reducible refine pr_load rfl _ rfl _ rfl hP hP_z ?_) | (with_reducible refine pr_load_g (by with_unfolding_all rfl) _ rfl _ rfl hP hP_z ?_) | (with_reducible refine num_load rfl _ rfl _ rfl _ hN rfl ?_) | (with_reducible refine num_load_g (by with_unfolding_all rfl) _ rfl _ rfl _ hN rfl ?_))
  refine (KG.out _).mono ?_
  rintro e v2 ⟨rfl, hb2⟩
  replace hP := hP.on hb2
  replace hN := hN.on hb2
  replace hbel := hbel.trans (hb2.mono hbel.size)
  clear hb2
  go_wp2_with (first | fail | (with_reducible refine pr_load rfl _ rfl _ rfl hP hP_z ?_) | (with_reducible refine pr_load_g (by with_unfolding_all rfl) _ rfl _ rfl hP hP_z ?_) | (with_reducible refine num_load rfl _ rfl _ rfl _ hN rfl ?_) | (with_reducible refine num_load_g (by with_unfolding_all rfl) _ rfl _ rfl _ hN rfl ?_))
  go_ret
  exact ⟨rfl, hbel⟩
set_option maxRecDepth 100000 in
set_option maxHeartbeats 2000000 in
theorem eve_1 (p : Pr) (hz : (prA p).size = 83) (n : Nat) (z2 z3 : Int) (t1 : decide (z2 < 0) = false) (t2 : decide ((1099511627776 : Int) < z2) = true) (KG : Hid (∀ w, Calls Try.prog 9 #[.agg (prA p)] w fun e w' => e = .returned (.bool true) ∧ Below w.heap.size w w'))
     (w : World) :
    Calls Try.prog 4 #[.agg (prA p), .agg (numC n), .int .i64 z2, .int .i64 z3] w fun e w' => e = .returned (.bool true) ∧ Below w.heap.size w w' := by
  have KA := Lib.hid alive10
  have hP_z := hz
  go_enter Try.func4, Try.ntmps4
  go_upto_region 1 with fail
  generalize hw0 : World.alloc _ _ = v0
  have hbel : Below w.heap.size w v0 := by rw [← hw0]; exact ((Below.refl _ _).alloc (by first | exact Nat.le_refl _ | (simp; done) | (simp; omega)) _).alloc (by first | exact Nat.le_refl _ | (simp; done) | (simp; omega)) _
  have hP : PrAt v0 (w.heap.size) p := by rw [← hw0]; exact (Has.new _ _).alloc _
  have hN : Has v0 (w.heap.size + 1) (numC n) 26 := by rw [← hw0]; exact Has.new1 _ _ _
  clear hw0
  generalize hg1 : w.heap.size + 1 = b_hN at hN ⊢
  clear hg1
  go_wp2_with (first | fail | (with_reducible refine pr_load rfl _ rfl _ rfl hP hP_z ?_) | (with_reducible refine pr_load_g (by with_unfolding_all rfl) _ rfl _ rfl hP hP_z ?_) | (with_reducible refine num_load rfl _ rfl _ rfl _ hN rfl ?_) | (with_reducible refine num_load_g (by with_unfolding_all rfl) _ rfl _ rfl _ hN rfl ?_))
  refine (KA.out _).mono ?_
  rintro e v1 ⟨rfl, hb1⟩
  replace hP := hP.on hb1
  replace hN := hN.on hb1
  replace hbel := hbel.trans (hb1.mono hbel.size)
  clear hb1
  go_wp2_with (first | fail | (with_reducible refine pr_load rfl _ rfl _ rfl hP hP_z ?_) | (with_reducible refine pr_load_g (by with_unfolding_all rfl) _ rfl _ rfl hP hP_z ?_) | (with_reducible refine num_load rfl _ rfl _ rfl _ hN rfl ?_) | (with_reducible refine num_load_g (by with_unfolding_all rfl) _ rfl _ rfl _ hN rfl ?_))
  refine (KG.out _).mono ?_
  rintro e v2 ⟨rfl, hb2⟩
  replace hP := hP.on hb2
  replace hN := hN.on hb2
  replace hbel := hbel.trans (hb2.mono hbel.size)
  clear hb2
  go_wp2_with (first | fail | (with_reducible refine pr_load rfl _ rfl _ rfl hP hP_z ?_) | (with_reducible refine pr_load_g (by with_unfolding_all rfl) _ rfl _ rfl hP hP_z ?_) | (with_reducible refine num_load rfl _ rfl _ rfl _ hN rfl ?_) | (with_reducible refine num_load_g (by with_unfolding_all rfl) _ rfl _ rfl _ hN rfl ?_))
  go_ret
  exact ⟨rfl, hbel⟩
set_option maxRecDepth 100000 in
set_option maxHeartbeats 2000000 in
theorem eve_2 (p : Pr) (hz : (prA p).size = 83) (n : Nat) (z2 z3 : Int) (t1 : decide (z2 < 0) = false) (t2 : decide ((1099511627776 : Int) < z2) = false) (t3 : decide (z3 < 0) = true) (KG : Hid (∀ w, Calls Try.prog 9 #[.agg (prA p)] w fun e w' => e = .returned (.bool true) ∧ Below w.heap.size w w'))
     (w : World) :
    Calls Try.prog 4 #[.agg (prA p), .agg (numC n), .int .i64 z2, .int .i64 z3] w fun e w' => e = .returned (.bool true) ∧ Below w.heap.size w w' := by
  have KA := Lib.hid alive10
  have hP_z := hz
  go_enter Try.func4, Try.ntmps4
  go_upto_region 1 with fail
  generalize hw0 : World.alloc _ _ = v0
  have hbel : Below w.heap.size w v0 := by rw [← hw0]; exact ((Below.refl _ _).alloc (by first | exact Nat.le_refl _ | (simp; done) | (simp; omega)) _).alloc (by first | exact Nat.le_refl _ | (simp; done) | (simp; omega)) _
  have hP : PrAt v0 (w.heap.size) p := by rw [← hw0]; exact (Has.new _ _).alloc _
  have hN : Has v0 (w.heap.size + 1) (numC n) 26 := by rw [← hw0]; exact Has.new1 _ _ _
  clear hw0
  generalize hg1 : w.heap.size + 1 = b_hN at hN ⊢
  clear hg1
  go_wp2_with (first | fail | (with_reducible refine pr_load rfl _ rfl _ rfl hP hP_z ?_) | (with_reducible refine pr_load_g (by with_unfolding_all rfl) _ rfl _ rfl hP hP_z ?_) | (with_reducible refine num_load rfl _ rfl _ rfl _ hN rfl ?_) | (with_reducible refine num_load_g (by with_unfolding_all rfl) _ rfl _ rfl _ hN rfl ?_))
  refine (KA.out _).mono ?_
  rintro e v1 ⟨rfl, hb1⟩
  replace hP := hP.on hb1
  replace hN := hN.on hb1
  replace hbel := hbel.trans (hb1.mono hbel.size)
  clear hb1
  go_wp2_with (first | fail | (with_reducible refine pr_load rfl _ rfl _ rfl hP hP_z ?_) | (with_reducible refine pr_load_g (by with_unfolding_all rfl) _ rfl _ rfl hP hP_z ?_) | (with_reducible refine num_load rfl _ rfl _ rfl _ hN rfl ?_) | (with_reducible refine num_load_g (by with_unfolding_all rfl) _ rfl _ rfl _ hN rfl ?_))
  refine (KG.out _).mono ?_
  rintro e v2 ⟨rfl, hb2⟩
  replace hP := hP.on hb2
  replace hN := hN.on hb2
  replace hbel := hbel.trans (hb2.mono hbel.size)
  clear hb2
  go_wp2_with (first | fail | (with_reducible refine pr_load rfl _ rfl _ rfl hP hP_z ?_) | (with_reducible refine pr_load_g (by with_unfolding_all rfl) _ rfl _ rfl hP hP_z ?_) | (with_reducible refine num_load rfl _ rfl _ rfl _ hN rfl ?_) | (with_reducible refine num_load_g (by with_unfolding_all rfl) _ rfl _ rfl _ hN rfl ?_))
  go_ret
  exact ⟨rfl, hbel⟩
set_option maxRecDepth 100000 in
set_option maxHeartbeats 2000000 in
theorem eve_3 (p : Pr) (hz : (prA p).size = 83) (n : Nat) (z2 z3 : Int) (t1 : decide (z2 < 0) = false) (t2 : decide ((1099511627776 : Int) < z2) = false) (t3 : decide (z3 < 0) = false) (t4 : decide ((1099511627776 : Int) < z3) = true) (KG : Hid (∀ w, Calls Try.prog 9 #[.agg (prA p)] w fun e w' => e = .returned (.bool true) ∧ Below w.heap.size w w'))
     (w : World) :
    Calls Try.prog 4 #[.agg (prA p), .agg (numC n), .int .i64 z2, .int .i64 z3] w fun e w' => e = .returned (.bool true) ∧ Below w.heap.size w w' := by
  have KA := Lib.hid alive10
  have hP_z := hz
  go_enter Try.func4, Try.ntmps4
  go_upto_region 1 with fail
  generalize hw0 : World.alloc _ _ = v0
  have hbel : Below w.heap.size w v0 := by rw [← hw0]; exact ((Below.refl _ _).alloc (by first | exact Nat.le_refl _ | (simp; done) | (simp; omega)) _).alloc (by first | exact Nat.le_refl _ | (simp; done) | (simp; omega)) _
  have hP : PrAt v0 (w.heap.size) p := by rw [← hw0]; exact (Has.new _ _).alloc _
  have hN : Has v0 (w.heap.size + 1) (numC n) 26 := by rw [← hw0]; exact Has.new1 _ _ _
  clear hw0
  generalize hg1 : w.heap.size + 1 = b_hN at hN ⊢
  clear hg1
  go_wp2_with (first | fail | (with_reducible refine pr_load rfl _ rfl _ rfl hP hP_z ?_) | (with_reducible refine pr_load_g (by with_unfolding_all rfl) _ rfl _ rfl hP hP_z ?_) | (with_reducible refine num_load rfl _ rfl _ rfl _ hN rfl ?_) | (with_reducible refine num_load_g (by with_unfolding_all rfl) _ rfl _ rfl _ hN rfl ?_))
  refine (KA.out _).mono ?_
  rintro e v1 ⟨rfl, hb1⟩
  replace hP := hP.on hb1
  replace hN := hN.on hb1
  replace hbel := hbel.trans (hb1.mono hbel.size)
  clear hb1
  go_wp2_with (first | fail | (with_reducible refine pr_load rfl _ rfl _ rfl hP hP_z ?_) | (with_reducible refine pr_load_g (by with_unfolding_all rfl) _ rfl _ rfl hP hP_z ?_) | (with_reducible refine num_load rfl _ rfl _ rfl _ hN rfl ?_) | (with_reducible refine num_load_g (by with_unfolding_all rfl) _ rfl _ rfl _ hN rfl ?_))
  refine (KG.out _).mono ?_
  rintro e v2 ⟨rfl, hb2⟩
  replace hP := hP.on hb2
  replace hN := hN.on hb2
  replace hbel := hbel.trans (hb2.mono hbel.size)
  clear hb2
  go_wp2_with (first | fail | (with_reducible refine pr_load rfl _ rfl _ rfl hP hP_z ?_) | (with_reducible refine pr_load_g (by with_unfolding_all rfl) _ rfl _ rfl hP hP_z ?_) | (with_reducible refine num_load rfl _ rfl _ rfl _ hN rfl ?_) | (with_reducible refine num_load_g (by with_unfolding_all rfl) _ rfl _ rfl _ hN rfl ?_))
  go_ret
  exact ⟨rfl, hbel⟩
set_option maxRecDepth 100000 in
set_option maxHeartbeats 2000000 in
theorem eve_none (p : Pr) (hz : (prA p).size = 83) (n : Nat) (z2 z3 : Int) (t1 : decide (z2 < 0) = false) (t2 : decide ((1099511627776 : Int) < z2) = false) (t3 : decide (z3 < 0) = false) (t4 : decide ((1099511627776 : Int) < z3) = false) (lim : Int) (e0 : Hid (p.lim = lim)) (en : Int) (o : Nat) (KG : Hid (∀ w, Calls Try.prog 9 #[.agg (prA p)] w fun e w' => e = .returned (.bool true) ∧ Below w.heap.size w w'))
    (KE : Hid (∀ w, Calls Try.prog 13 #[.agg (numC n)] w fun e w' => e = .returned (.int .i64 en) ∧ Below w.heap.size w w'))
    (KT : Hid (∀ w, Calls Try.prog 10 #[.int .i64 en, .int .i64 lim] w fun e w' => e = .returned (.tuple #[.agg (numC o), .bool false]) ∧ Below w.heap.size w w'))
     (w : World) :
    Calls Try.prog 4 #[.agg (prA p), .agg (numC n), .int .i64 z2, .int .i64 z3] w fun e w' => e = .returned (.bool true) ∧ Below w.heap.size w w' := by
  have KA := Lib.hid alive10
  have hP_z := hz
  go_enter Try.func4, Try.ntmps4
  go_upto_region 1 with fail
  generalize hw0 : World.alloc _ _ = v0
  have hbel : Below w.heap.size w v0 := by rw [← hw0]; exact ((Below.refl _ _).alloc (by first | exact Nat.le_refl _ | (simp; done) | (simp; omega)) _).alloc (by first | exact Nat.le_refl _ | (simp; done) | (simp; omega)) _
  have hP : PrAt v0 (w.heap.size) p := by rw [← hw0]; exact (Has.new _ _).alloc _
  have hN : Has v0 (w.heap.size + 1) (numC n) 26 := by rw [← hw0]; exact Has.new1 _ _ _
  clear hw0
  generalize hg1 : w.heap.size + 1 = b_hN at hN ⊢
  clear hg1
  have c0 := hP.c0 e0
  go_wp2_with (first | fail | (with_reducible refine pr_load rfl _ rfl _ rfl hP hP_z ?_) | (with_reducible refine pr_load_g (by with_unfolding_all rfl) _ rfl _ rfl hP hP_z ?_) | (with_reducible refine num_load rfl _ rfl _ rfl _ hN rfl ?_) | (with_reducible refine num_load_g (by with_unfolding_all rfl) _ rfl _ rfl _ hN rfl ?_))
  refine (KA.out _).mono ?_
  rintro e v1 ⟨rfl, hb1⟩
  replace hP := hP.on hb1
  replace hN := hN.on hb1
  replace c0 := hP.c0 e0
  replace hbel := hbel.trans (hb1.mono hbel.size)
  clear hb1
  go_wp2_with (first | fail | (with_reducible refine pr_load rfl _ rfl _ rfl hP hP_z ?_) | (with_reducible refine pr_load_g (by with_unfolding_all rfl) _ rfl _ rfl hP hP_z ?_) | (with_reducible refine num_load rfl _ rfl _ rfl _ hN rfl ?_) | (with_reducible refine num_load_g (by with_unfolding_all rfl) _ rfl _ rfl _ hN rfl ?_))
  refine (KG.out _).mono ?_
  rintro e v2 ⟨rfl, hb2⟩
  replace hP := hP.on hb2
  replace hN := hN.on hb2
  replace c0 := hP.c0 e0
  replace hbel := hbel.trans (hb2.mono hbel.size)
  clear hb2
  go_wp2_with (first | fail | (with_reducible refine pr_load rfl _ rfl _ rfl hP hP_z ?_) | (with_reducible refine pr_load_g (by with_unfolding_all rfl) _ rfl _ rfl hP hP_z ?_) | (with_reducible refine num_load rfl _ rfl _ rfl _ hN rfl ?_) | (with_reducible refine num_load_g (by with_unfolding_all rfl) _ rfl _ rfl _ hN rfl ?_))
  refine (KE.out _).mono ?_
  rintro e v3 ⟨rfl, hb3⟩
  replace hP := hP.on hb3
  replace hN := hN.on hb3
  replace c0 := hP.c0 e0
  replace hbel := hbel.trans (hb3.mono hbel.size)
  clear hb3
  go_wp2_with (first | fail | (with_reducible refine pr_load rfl _ rfl _ rfl hP hP_z ?_) | (with_reducible refine pr_load_g (by with_unfolding_all rfl) _ rfl _ rfl hP hP_z ?_) | (with_reducible refine num_load rfl _ rfl _ rfl _ hN rfl ?_) | (with_reducible refine num_load_g (by with_unfolding_all rfl) _ rfl _ rfl _ hN rfl ?_))
  refine (KT.out _).mono ?_
  rintro e v4 ⟨rfl, hb4⟩
  replace hP := hP.on hb4
  replace hN := hN.on hb4
  replace c0 := hP.c0 e0
  replace hbel := hbel.trans (hb4.mono hbel.size)
  clear hb4
  go_upto_region 7 with (with_reducible refine num_store rfl _ _ rfl _ _ rfl rfl _ (Has.newz _) rfl ?_)
  generalize hw5 : World.setRow _ _ _ = v5
  have hb5 : Below v4.heap.size v4 v5 := by rw [← hw5]; exact below_setRow ((Below.refl _ _).alloc (Nat.le_refl _) _) (Nat.le_refl _) _
  have hO : Has v5 v4.heap.size (numC o) 26 := by rw [← hw5]; exact (Has.newz _).row _
  replace hP := hP.on hb5
  replace hN := hN.on hb5
  replace c0 := hP.c0 e0
  replace hbel := hbel.trans (hb5.mono hbel.size)
  clear hw5 hb5
  generalize v4.heap.size = b_hO at hO ⊢
  go_wp2_with (first | fail | (with_reducible refine pr_load rfl _ rfl _ rfl hP hP_z ?_) | (with_reducible refine pr_load_g (by with_unfolding_all rfl) _ rfl _ rfl hP hP_z ?_) | (with_reducible refine num_load rfl _ rfl _ rfl _ hN rfl ?_) | (with_reducible refine num_load_g (by with_unfolding_all rfl) _ rfl _ rfl _ hN rfl ?_) | (with_reducible refine num_load rfl _ rfl _ rfl _ hO rfl ?_) | (with_reducible refine num_load_g (by with_unfolding_all rfl) _ rfl _ rfl _ hO rfl ?_))
  go_ret
  exact ⟨rfl, hbel⟩
set_option maxRecDepth 100000 in
set_option maxHeartbeats 2000000 in
theorem eve_lost (p : Pr) (hz : (prA p).size = 83) (n : Nat) (z2 z3 : Int) (t1 : decide (z2 < 0) = false) (t2 : decide ((1099511627776 : Int) < z2) = false) (t3 : decide (z3 < 0) = false) (t4 : decide ((1099511627776 : Int) < z3) = false) (lim : Int) (e0 : Hid (p.lim = lim)) (en : Int) (o : Nat) (ivl spc : Int) (e1 : Hid (p.ivl = ivl)) (e2 : Hid (p.spc = spc)) (sn s1 s4 s5 s6 ex : Int) (f1 : IntKind.i64.wrap (ivl * spc) = sn) (f2 : IntKind.i64.wrap (z2 + sn) = s1) (f3 : IntKind.i64.wrap (4 * sn) = s4) (f4 : IntKind.i64.wrap (z2 + s4) = s5) (f5 : IntKind.i64.wrap (s5 + z3) = s6) (m4 m1 L : Nat) (lb : Bool)
    (KG : Hid (∀ w, Calls Try.prog 9 #[.agg (prA p)] w fun e w' => e = .returned (.bool true) ∧ Below w.heap.size w w'))
    (KE : Hid (∀ w, Calls Try.prog 13 #[.agg (numC n)] w fun e w' => e = .returned (.int .i64 en) ∧ Below w.heap.size w w'))
    (KT : Hid (∀ w, Calls Try.prog 10 #[.int .i64 en, .int .i64 lim] w fun e w' => e = .returned (.tuple #[.agg (numC o), .bool true]) ∧ Below w.heap.size w w'))
    (KR : Hid (∀ w, Calls Try.prog 11 #[.agg (prA p), .int .i64 en, .int .i64 z2, .int .i64 s1] w fun e w' => e = .returned (.int .i64 en) ∧ Below w.heap.size w w')) (KM : Hid (∀ w, Calls Try.prog 14 #[.agg (numC o), .int .i64 2] w fun e w' => e = .returned (.agg (numC m4)) ∧ Below w.heap.size w w'))
    (KL : Hid (∀ w, Calls Try.prog 10 #[.int .i64 lim, .int .i64 lim] w fun e w' => e = .returned (.tuple #[.agg (numC L), .bool lb]) ∧ Below w.heap.size w w')) (KX : Hid (∀ w, Calls Try.prog 13 #[.agg (numC m4)] w fun e w' => e = .returned (.int .i64 ex) ∧ Below w.heap.size w w'))
    (KM2 : Hid (∀ w, Calls Try.prog 14 #[.agg (numC m4), .int .i64 (-2)] w fun e w' => e = .returned (.agg (numC m1)) ∧ Below w.heap.size w w')) (HQ : Hid (∀ w, (binOp .neq 26 (.agg (numC m1)) (.agg (numC o))).run Try.prog w = .ok (.bool true) w))
    (KS : Hid (∀ w, Calls Try.prog 11 #[.agg (prA p), .int .i64 en, .int .i64 z2, .int .i64 s6] w fun e w' => e = .returned (.int .i64 lim) ∧ Below w.heap.size w w')) (w : World) :
    Calls Try.prog 4 #[.agg (prA p), .agg (numC n), .int .i64 z2, .int .i64 z3] w fun e w' => e = .returned (.bool true) ∧ Below w.heap.size w w' := by
  have KA := Lib.hid alive10
  have hP_z := hz
  go_enter Try.func4, Try.ntmps4
  go_upto_region 1 with fail
  generalize hw0 : World.alloc _ _ = v0
  have hbel : Below w.heap.size w v0 := by rw [← hw0]; exact ((Below.refl _ _).alloc (by first | exact Nat.le_refl _ | (simp; done) | (simp; omega)) _).alloc (by first | exact Nat.le_refl _ | (simp; done) | (simp; omega)) _
  have hP : PrAt v0 (w.heap.size) p := by rw [← hw0]; exact (Has.new _ _).alloc _
  have hN : Has v0 (w.heap.size + 1) (numC n) 26 := by rw [← hw0]; exact Has.new1 _ _ _
  clear hw0
  generalize hg1 : w.heap.size + 1 = b_hN at hN ⊢
  clear hg1
  have c0 := hP.c0 e0
  have c1 := hP.c1 e1
  have c2 := hP.c2 e2
  go_wp2_with (first | fail | (with_reducible refine pr_load rfl _ rfl _ rfl hP hP_z ?_) | (with_reducible refine pr_load_g (by with_unfolding_all rfl) _ rfl _ rfl hP hP_z ?_) | (with_reducible refine num_load rfl _ rfl _ rfl _ hN rfl ?_) | (with_reducible refine num_load_g (by with_unfolding_all rfl) _ rfl _ rfl _ hN rfl ?_))
  refine (KA.out _).mono ?_
  rintro e v1 ⟨rfl, hb1⟩
  replace hP := hP.on hb1
  replace hN := hN.on hb1
  replace c0 := hP.c0 e0
  replace c1 := hP.c1 e1
  replace c2 := hP.c2 e2
  replace hbel := hbel.trans (hb1.mono hbel.size)
  clear hb1
  go_wp2_with (first | fail | (with_reducible refine pr_load rfl _ rfl _ rfl hP hP_z ?_) | (with_reducible refine pr_load_g (by with_unfolding_all rfl) _ rfl _ rfl hP hP_z ?_) | (with_reducible refine num_load rfl _ rfl _ rfl _ hN rfl ?_) | (with_reducible refine num_load_g (by with_unfolding_all rfl) _ rfl _ rfl _ hN rfl ?_))
  refine (KG.out _).mono ?_
  rintro e v2 ⟨rfl, hb2⟩
  replace hP := hP.on hb2
  replace hN := hN.on hb2
  replace c0 := hP.c0 e0
  replace c1 := hP.c1 e1
  replace c2 := hP.c2 e2
  replace hbel := hbel.trans (hb2.mono hbel.size)
  clear hb2
  go_wp2_with (first | fail | (with_reducible refine pr_load rfl _ rfl _ rfl hP hP_z ?_) | (with_reducible refine pr_load_g (by with_unfolding_all rfl) _ rfl _ rfl hP hP_z ?_) | (with_reducible refine num_load rfl _ rfl _ rfl _ hN rfl ?_) | (with_reducible refine num_load_g (by with_unfolding_all rfl) _ rfl _ rfl _ hN rfl ?_))
  refine (KE.out _).mono ?_
  rintro e v3 ⟨rfl, hb3⟩
  replace hP := hP.on hb3
  replace hN := hN.on hb3
  replace c0 := hP.c0 e0
  replace c1 := hP.c1 e1
  replace c2 := hP.c2 e2
  replace hbel := hbel.trans (hb3.mono hbel.size)
  clear hb3
  go_wp2_with (first | fail | (with_reducible refine pr_load rfl _ rfl _ rfl hP hP_z ?_) | (with_reducible refine pr_load_g (by with_unfolding_all rfl) _ rfl _ rfl hP hP_z ?_) | (with_reducible refine num_load rfl _ rfl _ rfl _ hN rfl ?_) | (with_reducible refine num_load_g (by with_unfolding_all rfl) _ rfl _ rfl _ hN rfl ?_))
  refine (KT.out _).mono ?_
  rintro e v4 ⟨rfl, hb4⟩
  replace hP := hP.on hb4
  replace hN := hN.on hb4
  replace c0 := hP.c0 e0
  replace c1 := hP.c1 e1
  replace c2 := hP.c2 e2
  replace hbel := hbel.trans (hb4.mono hbel.size)
  clear hb4
  go_upto_region 7 with (with_reducible refine num_store rfl _ _ rfl _ _ rfl rfl _ (Has.newz _) rfl ?_)
  generalize hw5 : World.setRow _ _ _ = v5
  have hb5 : Below v4.heap.size v4 v5 := by rw [← hw5]; exact below_setRow ((Below.refl _ _).alloc (Nat.le_refl _) _) (Nat.le_refl _) _
  have hO : Has v5 v4.heap.size (numC o) 26 := by rw [← hw5]; exact (Has.newz _).row _
  replace hP := hP.on hb5
  replace hN := hN.on hb5
  replace c0 := hP.c0 e0
  replace c1 := hP.c1 e1
  replace c2 := hP.c2 e2
  replace hbel := hbel.trans (hb5.mono hbel.size)
  clear hw5 hb5
  generalize v4.heap.size = b_hO at hO ⊢
  have hself : (en != en) = false := by simp
  go_wp2_with (first | fail | (with_reducible refine pr_load rfl _ rfl _ rfl hP hP_z ?_) | (with_reducible refine pr_load_g (by with_unfolding_all rfl) _ rfl _ rfl hP hP_z ?_) | (with_reducible refine num_load rfl _ rfl _ rfl _ hN rfl ?_) | (with_reducible refine num_load_g (by with_unfolding_all rfl) _ rfl _ rfl _ hN rfl ?_) | (with_reducible refine num_load rfl _ rfl _ rfl _ hO rfl ?_) | (with_reducible refine num_load_g (by with_unfolding_all rfl) _ rfl _ rfl _ hO rfl ?_))
  refine (KR.out _).mono ?_
  rintro e v6 ⟨rfl, hb6⟩
  replace hP := hP.on hb6
  replace hN := hN.on hb6
  replace hO := hO.on hb6
  replace c0 := hP.c0 e0
  replace c1 := hP.c1 e1
  replace c2 := hP.c2 e2
  replace hbel := hbel.trans (hb6.mono hbel.size)
  clear hb6
  go_wp2_with (first | fail | (with_reducible refine pr_load rfl _ rfl _ rfl hP hP_z ?_) | (with_reducible refine pr_load_g (by with_unfolding_all rfl) _ rfl _ rfl hP hP_z ?_) | (with_reducible refine num_load rfl _ rfl _ rfl _ hN rfl ?_) | (with_reducible refine num_load_g (by with_unfolding_all rfl) _ rfl _ rfl _ hN rfl ?_) | (with_reducible refine num_load rfl _ rfl _ rfl _ hO rfl ?_) | (with_reducible refine num_load_g (by with_unfolding_all rfl) _ rfl _ rfl _ hO rfl ?_))
  refine (KM.out _).mono ?_
  rintro e v7 ⟨rfl, hb7⟩
  replace hP := hP.on hb7
  replace hN := hN.on hb7
  replace hO := hO.on hb7
  replace c0 := hP.c0 e0
  replace c1 := hP.c1 e1
  replace c2 := hP.c2 e2
  replace hbel := hbel.trans (hb7.mono hbel.size)
  clear hb7
  go_upto_region 13 with (with_reducible refine num_store rfl _ _ rfl _ _ rfl rfl _ (Has.newz _) rfl ?_)
  generalize hw8 : World.setRow _ _ _ = v8
  have hb8 : Below v7.heap.size v7 v8 := by rw [← hw8]; exact below_setRow ((Below.refl _ _).alloc (Nat.le_refl _) _) (Nat.le_refl _) _
  have hM : Has v8 v7.heap.size (numC m4) 26 := by rw [← hw8]; exact (Has.newz _).row _
  replace hP := hP.on hb8
  replace hN := hN.on hb8
  replace hO := hO.on hb8
  replace c0 := hP.c0 e0
  replace c1 := hP.c1 e1
  replace c2 := hP.c2 e2
  replace hbel := hbel.trans (hb8.mono hbel.size)
  clear hw8 hb8
  generalize v7.heap.size = b_hM at hM ⊢
  go_wp2_with (first | fail | (with_reducible refine pr_load rfl _ rfl _ rfl hP hP_z ?_) | (with_reducible refine pr_load_g (by with_unfolding_all rfl) _ rfl _ rfl hP hP_z ?_) | (with_reducible refine num_load rfl _ rfl _ rfl _ hN rfl ?_) | (with_reducible refine num_load_g (by with_unfolding_all rfl) _ rfl _ rfl _ hN rfl ?_) | (with_reducible refine num_load rfl _ rfl _ rfl _ hO rfl ?_) | (with_reducible refine num_load_g (by with_unfolding_all rfl) _ rfl _ rfl _ hO rfl ?_) | (with_reducible refine num_load rfl _ rfl _ rfl _ hM rfl ?_) | (with_reducible refine num_load_g (by with_unfolding_all rfl) _ rfl _ rfl _ hM rfl ?_))
  refine (KL.out _).mono ?_
  rintro e v9 ⟨rfl, hb9⟩
  replace hP := hP.on hb9
  replace hN := hN.on hb9
  replace hO := hO.on hb9
  replace hM := hM.on hb9
  replace c0 := hP.c0 e0
  replace c1 := hP.c1 e1
  replace c2 := hP.c2 e2
  replace hbel := hbel.trans (hb9.mono hbel.size)
  clear hb9
  go_upto_region 14 with (with_reducible refine num_store rfl _ _ rfl _ _ rfl rfl _ (Has.newz _) rfl ?_)
  generalize hw10 : World.setRow _ _ _ = v10
  have hb10 : Below v9.heap.size v9 v10 := by rw [← hw10]; exact below_setRow ((Below.refl _ _).alloc (Nat.le_refl _) _) (Nat.le_refl _) _
  have hL : Has v10 v9.heap.size (numC L) 26 := by rw [← hw10]; exact (Has.newz _).row _
  replace hP := hP.on hb10
  replace hN := hN.on hb10
  replace hO := hO.on hb10
  replace hM := hM.on hb10
  replace c0 := hP.c0 e0
  replace c1 := hP.c1 e1
  replace c2 := hP.c2 e2
  replace hbel := hbel.trans (hb10.mono hbel.size)
  clear hw10 hb10
  generalize v9.heap.size = b_hL at hL ⊢
  go_wp2_with (first | fail | (with_reducible refine pr_load rfl _ rfl _ rfl hP hP_z ?_) | (with_reducible refine pr_load_g (by with_unfolding_all rfl) _ rfl _ rfl hP hP_z ?_) | (with_reducible refine num_load rfl _ rfl _ rfl _ hN rfl ?_) | (with_reducible refine num_load_g (by with_unfolding_all rfl) _ rfl _ rfl _ hN rfl ?_) | (with_reducible refine num_load rfl _ rfl _ rfl _ hO rfl ?_) | (with_reducible refine num_load_g (by with_unfolding_all rfl) _ rfl _ rfl _ hO rfl ?_) | (with_reducible refine num_load rfl _ rfl _ rfl _ hM rfl ?_) | (with_reducible refine num_load_g (by with_unfolding_all rfl) _ rfl _ rfl _ hM rfl ?_) | (with_reducible refine num_load rfl _ rfl _ rfl _ hL rfl ?_) | (with_reducible refine num_load_g (by with_unfolding_all rfl) _ rfl _ rfl _ hL rfl ?_))
  refine (KX.out _).mono ?_
  rintro e v11 ⟨rfl, hb11⟩
  replace hP := hP.on hb11
  replace hN := hN.on hb11
  replace hO := hO.on hb11
  replace hM := hM.on hb11
  replace hL := hL.on hb11
  replace c0 := hP.c0 e0
  replace c1 := hP.c1 e1
  replace c2 := hP.c2 e2
  replace hbel := hbel.trans (hb11.mono hbel.size)
  clear hb11
  have hq := HQ.out
  go_wp2_with fail
  refine wp_region_quiet_below (by kernel_rfl) (by kernel_rfl) ?_
  repeat (first
    | (go_big_quiet_want; (with_reducible refine quiet_load_pr _ rfl _ rfl hP_z hP.cls ?_); (simp only [Act.put, List.setIfInBounds_toArray, List.set_cons_zero, List.set_cons_succ]); go_big_quiet_on)
    | (go_big_quiet_want; (with_reducible refine quiet_load_num _ rfl _ rfl _ hN.cls ?_); (simp only [Act.put, List.setIfInBounds_toArray, List.set_cons_zero, List.set_cons_succ]); go_big_quiet_on)
    | (go_big_quiet_want; (with_reducible refine quiet_load_num _ rfl _ rfl _ hO.cls ?_); (simp only [Act.put, List.setIfInBounds_toArray, List.set_cons_zero, List.set_cons_succ]); go_big_quiet_on)
    | (go_big_quiet_want; (with_reducible refine quiet_load_num _ rfl _ rfl _ hM.cls ?_); (simp only [Act.put, List.setIfInBounds_toArray, List.set_cons_zero, List.set_cons_succ]); go_big_quiet_on)
    | (go_big_quiet_want; (with_reducible refine quiet_load_num _ rfl _ rfl _ hL.cls ?_); (simp only [Act.put, List.setIfInBounds_toArray, List.set_cons_zero, List.set_cons_succ]); go_big_quiet_on)
    | go_big_quiet_step ((go_at_call 14; exact Calls.regrown_of (KM2.out _))))
  refine wpQuiet_nil ?_
  intro v12 hw'
  obtain ⟨rg, hw''⟩ := hw'
  have hb12 : Below v11.heap.size v11 v12 := by rw [hw'']; exact below_regrown v11 rg.d rg.os
  clear hw''
  replace hP := hP.on hb12
  replace hN := hN.on hb12
  replace hO := hO.on hb12
  replace hM := hM.on hb12
  replace hL := hL.on hb12
  replace c0 := hP.c0 e0
  replace c1 := hP.c1 e1
  replace c2 := hP.c2 e2
  replace hbel := hbel.trans (hb12.mono hbel.size)
  clear hb12
  clear hq
  go_wp2_with (first | fail | (with_reducible refine pr_load rfl _ rfl _ rfl hP hP_z ?_) | (with_reducible refine pr_load_g (by with_unfolding_all rfl) _ rfl _ rfl hP hP_z ?_) | (with_reducible refine num_load rfl _ rfl _ rfl _ hN rfl ?_) | (with_reducible refine num_load_g (by with_unfolding_all rfl) _ rfl _ rfl _ hN rfl ?_) | (with_reducible refine num_load rfl _ rfl _ rfl _ hO rfl ?_) | (with_reducible refine num_load_g (by with_unfolding_all rfl) _ rfl _ rfl _ hO rfl ?_) | (with_reducible refine num_load rfl _ rfl _ rfl _ hM rfl ?_) | (with_reducible refine num_load_g (by with_unfolding_all rfl) _ rfl _ rfl _ hM rfl ?_) | (with_reducible refine num_load rfl _ rfl _ rfl _ hL rfl ?_) | (with_reducible refine num_load_g (by with_unfolding_all rfl) _ rfl _ rfl _ hL rfl ?_))
  refine (KS.out _).mono ?_
  rintro e v13 ⟨rfl, hb13⟩
  replace hP := hP.on hb13
  replace hN := hN.on hb13
  replace hO := hO.on hb13
  replace hM := hM.on hb13
  replace hL := hL.on hb13
  replace c0 := hP.c0 e0
  replace c1 := hP.c1 e1
  replace c2 := hP.c2 e2
  replace hbel := hbel.trans (hb13.mono hbel.size)
  clear hb13
  go_wp2_with (first | fail | (with_reducible refine pr_load rfl _ rfl _ rfl hP hP_z ?_) | (with_reducible refine pr_load_g (by with_unfolding_all rfl) _ rfl _ rfl hP hP_z ?_) | (with_reducible refine num_load rfl _ rfl _ rfl _ hN rfl ?_) | (with_reducible refine num_load_g (by with_unfolding_all rfl) _ rfl _ rfl _ hN rfl ?_) | (with_reducible refine num_load rfl _ rfl _ rfl _ hO rfl ?_) | (with_reducible refine num_load_g (by with_unfolding_all rfl) _ rfl _ rfl _ hO rfl ?_) | (with_reducible refine num_load rfl _ rfl _ rfl _ hM rfl ?_) | (with_reducible refine num_load_g (by with_unfolding_all rfl) _ rfl _ rfl _ hM rfl ?_) | (with_reducible refine num_load rfl _ rfl _ rfl _ hL rfl ?_) | (with_reducible refine num_load_g (by with_unfolding_all rfl) _ rfl _ rfl _ hL rfl ?_))
  go_ret
  exact ⟨rfl, hbel⟩
set_option maxRecDepth 100000 in
set_option maxHeartbeats 2000000 in
theorem eve_over (p : Pr) (hz : (prA p).size = 83) (n : Nat) (z2 z3 : Int) (t1 : decide (z2 < 0) = false) (t2 : decide ((1099511627776 : Int) < z2) = false) (t3 : decide (z3 < 0) = false) (t4 : decide ((1099511627776 : Int) < z3) = false) (lim : Int) (e0 : Hid (p.lim = lim)) (en : Int) (o : Nat) (ivl spc : Int) (e1 : Hid (p.ivl = ivl)) (e2 : Hid (p.spc = spc)) (sn s1 s4 s5 s6 ex : Int) (f1 : IntKind.i64.wrap (ivl * spc) = sn) (f2 : IntKind.i64.wrap (z2 + sn) = s1) (f3 : IntKind.i64.wrap (4 * sn) = s4) (f4 : IntKind.i64.wrap (z2 + s4) = s5) (f5 : IntKind.i64.wrap (s5 + z3) = s6) (m4 m1 L : Nat) (lb : Bool)
    (KG : Hid (∀ w, Calls Try.prog 9 #[.agg (prA p)] w fun e w' => e = .returned (.bool true) ∧ Below w.heap.size w w'))
    (KE : Hid (∀ w, Calls Try.prog 13 #[.agg (numC n)] w fun e w' => e = .returned (.int .i64 en) ∧ Below w.heap.size w w'))
    (KT : Hid (∀ w, Calls Try.prog 10 #[.int .i64 en, .int .i64 lim] w fun e w' => e = .returned (.tuple #[.agg (numC o), .bool true]) ∧ Below w.heap.size w w'))
    (KR : Hid (∀ w, Calls Try.prog 11 #[.agg (prA p), .int .i64 en, .int .i64 z2, .int .i64 s1] w fun e w' => e = .returned (.int .i64 en) ∧ Below w.heap.size w w')) (KM : Hid (∀ w, Calls Try.prog 14 #[.agg (numC o), .int .i64 2] w fun e w' => e = .returned (.agg (numC m4)) ∧ Below w.heap.size w w'))
    (KL : Hid (∀ w, Calls Try.prog 10 #[.int .i64 lim, .int .i64 lim] w fun e w' => e = .returned (.tuple #[.agg (numC L), .bool lb]) ∧ Below w.heap.size w w')) (KX : Hid (∀ w, Calls Try.prog 13 #[.agg (numC m4)] w fun e w' => e = .returned (.int .i64 ex) ∧ Below w.heap.size w w'))
    (KM2 : Hid (∀ w, Calls Try.prog 14 #[.agg (numC m4), .int .i64 (-2)] w fun e w' => e = .returned (.agg (numC m1)) ∧ Below w.heap.size w w')) (HQ : Hid (∀ w, (binOp .neq 26 (.agg (numC m1)) (.agg (numC o))).run Try.prog w = .ok (.bool false) w))
    (KLess : Hid (∀ w, Calls Try.prog 12 #[.agg (numC L), .agg (numC m4)] w fun e w' => e = .returned (.bool true) ∧ Below w.heap.size w w')) (KS : Hid (∀ w, Calls Try.prog 11 #[.agg (prA p), .int .i64 en, .int .i64 z2, .int .i64 s6] w fun e w' => e = .returned (.int .i64 lim) ∧ Below w.heap.size w w')) (w : World) :
    Calls Try.prog 4 #[.agg (prA p), .agg (numC n), .int .i64 z2, .int .i64 z3] w fun e w' => e = .returned (.bool true) ∧ Below w.heap.size w w' := by
  have KA := Lib.hid alive10
  have hP_z := hz
  go_enter Try.func4, Try.ntmps4
  go_upto_region 1 with fail
  generalize hw0 : World.alloc _ _ = v0
  have hbel : Below w.heap.size w v0 := by rw [← hw0]; exact ((Below.refl _ _).alloc (by first | exact Nat.le_refl _ | (simp; done) | (simp; omega)) _).alloc (by first | exact Nat.le_refl _ | (simp; done) | (simp; omega)) _
  have hP : PrAt v0 (w.heap.size) p := by rw [← hw0]; exact (Has.new _ _).alloc _
  have hN : Has v0 (w.heap.size + 1) (numC n) 26 := by rw [← hw0]; exact Has.new1 _ _ _
  clear hw0
  generalize hg1 : w.heap.size + 1 = b_hN at hN ⊢
  clear hg1
  have c0 := hP.c0 e0
  have c1 := hP.c1 e1
  have c2 := hP.c2 e2
  go_wp2_with (first | fail | (with_reducible refine pr_load rfl _ rfl _ rfl hP hP_z ?_) | (with_reducible refine pr_load_g (by with_unfolding_all rfl) _ rfl _ rfl hP hP_z ?_) | (with_reducible refine num_load rfl _ rfl _ rfl _ hN rfl ?_) | (with_reducible refine num_load_g (by with_unfolding_all rfl) _ rfl _ rfl _ hN rfl ?_))
  refine (KA.out _).mono ?_
  rintro e v1 ⟨rfl, hb1⟩
  replace hP := hP.on hb1
  replace hN := hN.on hb1
  replace c0 := hP.c0 e0
  replace c1 := hP.c1 e1
  replace c2 := hP.c2 e2
  replace hbel := hbel.trans (hb1.mono hbel.size)
  clear hb1
  go_wp2_with (first | fail | (with_reducible refine pr_load rfl _ rfl _ rfl hP hP_z ?_) | (with_reducible refine pr_load_g (by with_unfolding_all rfl) _ rfl _ rfl hP hP_z ?_) | (with_reducible refine num_load rfl _ rfl _ rfl _ hN rfl ?_) | (with_reducible refine num_load_g (by with_unfolding_all rfl) _ rfl _ rfl _ hN rfl ?_))
  refine (KG.out _).mono ?_
  rintro e v2 ⟨rfl, hb2⟩
  replace hP := hP.on hb2
  replace hN := hN.on hb2
  replace c0 := hP.c0 e0
  replace c1 := hP.c1 e1
  replace c2 := hP.c2 e2
  replace hbel := hbel.trans (hb2.mono hbel.size)
  clear hb2
  go_wp2_with (first | fail | (with_reducible refine pr_load rfl _ rfl _ rfl hP hP_z ?_) | (with_reducible refine pr_load_g (by with_unfolding_all rfl) _ rfl _ rfl hP hP_z ?_) | (with_reducible refine num_load rfl _ rfl _ rfl _ hN rfl ?_) | (with_reducible refine num_load_g (by with_unfolding_all rfl) _ rfl _ rfl _ hN rfl ?_))
  refine (KE.out _).mono ?_
  rintro e v3 ⟨rfl, hb3⟩
  replace hP := hP.on hb3
  replace hN := hN.on hb3
  replace c0 := hP.c0 e0
  replace c1 := hP.c1 e1
  replace c2 := hP.c2 e2
  replace hbel := hbel.trans (hb3.mono hbel.size)
  clear hb3
  go_wp2_with (first | fail | (with_reducible refine pr_load rfl _ rfl _ rfl hP hP_z ?_) | (with_reducible refine pr_load_g (by with_unfolding_all rfl) _ rfl _ rfl hP hP_z ?_) | (with_reducible refine num_load rfl _ rfl _ rfl _ hN rfl ?_) | (with_reducible refine num_load_g (by with_unfolding_all rfl) _ rfl _ rfl _ hN rfl ?_))
  refine (KT.out _).mono ?_
  rintro e v4 ⟨rfl, hb4⟩
  replace hP := hP.on hb4
  replace hN := hN.on hb4
  replace c0 := hP.c0 e0
  replace c1 := hP.c1 e1
  replace c2 := hP.c2 e2
  replace hbel := hbel.trans (hb4.mono hbel.size)
  clear hb4
  go_upto_region 7 with (with_reducible refine num_store rfl _ _ rfl _ _ rfl rfl _ (Has.newz _) rfl ?_)
  generalize hw5 : World.setRow _ _ _ = v5
  have hb5 : Below v4.heap.size v4 v5 := by rw [← hw5]; exact below_setRow ((Below.refl _ _).alloc (Nat.le_refl _) _) (Nat.le_refl _) _
  have hO : Has v5 v4.heap.size (numC o) 26 := by rw [← hw5]; exact (Has.newz _).row _
  replace hP := hP.on hb5
  replace hN := hN.on hb5
  replace c0 := hP.c0 e0
  replace c1 := hP.c1 e1
  replace c2 := hP.c2 e2
  replace hbel := hbel.trans (hb5.mono hbel.size)
  clear hw5 hb5
  generalize v4.heap.size = b_hO at hO ⊢
  have hself : (en != en) = false := by simp
  go_wp2_with (first | fail | (with_reducible refine pr_load rfl _ rfl _ rfl hP hP_z ?_) | (with_reducible refine pr_load_g (by with_unfolding_all rfl) _ rfl _ rfl hP hP_z ?_) | (with_reducible refine num_load rfl _ rfl _ rfl _ hN rfl ?_) | (with_reducible refine num_load_g (by with_unfolding_all rfl) _ rfl _ rfl _ hN rfl ?_) | (with_reducible refine num_load rfl _ rfl _ rfl _ hO rfl ?_) | (with_reducible refine num_load_g (by with_unfolding_all rfl) _ rfl _ rfl _ hO rfl ?_))
  refine (KR.out _).mono ?_
  rintro e v6 ⟨rfl, hb6⟩
  replace hP := hP.on hb6
  replace hN := hN.on hb6
  replace hO := hO.on hb6
  replace c0 := hP.c0 e0
  replace c1 := hP.c1 e1
  replace c2 := hP.c2 e2
  replace hbel := hbel.trans (hb6.mono hbel.size)
  clear hb6
  go_wp2_with (first | fail | (with_reducible refine pr_load rfl _ rfl _ rfl hP hP_z ?_) | (with_reducible refine pr_load_g (by with_unfolding_all rfl) _ rfl _ rfl hP hP_z ?_) | (with_reducible refine num_load rfl _ rfl _ rfl _ hN rfl ?_) | (with_reducible refine num_load_g (by with_unfolding_all rfl) _ rfl _ rfl _ hN rfl ?_) | (with_reducible refine num_load rfl _ rfl _ rfl _ hO rfl ?_) | (with_reducible refine num_load_g (by with_unfolding_all rfl) _ rfl _ rfl _ hO rfl ?_))
  refine (KM.out _).mono ?_
  rintro e v7 ⟨rfl, hb7⟩
  replace hP := hP.on hb7
  replace hN := hN.on hb7
  replace hO := hO.on hb7
  replace c0 := hP.c0 e0
  replace c1 := hP.c1 e1
  replace c2 := hP.c2 e2
  replace hbel := hbel.trans (hb7.mono hbel.size)
  clear hb7
  go_upto_region 13 with (with_reducible refine num_store rfl _ _ rfl _ _ rfl rfl _ (Has.newz _) rfl ?_)
  generalize hw8 : World.setRow _ _ _ = v8
  have hb8 : Below v7.heap.size v7 v8 := by rw [← hw8]; exact below_setRow ((Below.refl _ _).alloc (Nat.le_refl _) _) (Nat.le_refl _) _
  have hM : Has v8 v7.heap.size (numC m4) 26 := by rw [← hw8]; exact (Has.newz _).row _
  replace hP := hP.on hb8
  replace hN := hN.on hb8
  replace hO := hO.on hb8
  replace c0 := hP.c0 e0
  replace c1 := hP.c1 e1
  replace c2 := hP.c2 e2
  replace hbel := hbel.trans (hb8.mono hbel.size)
  clear hw8 hb8
  generalize v7.heap.size = b_hM at hM ⊢
  go_wp2_with (first | fail | (with_reducible refine pr_load rfl _ rfl _ rfl hP hP_z ?_) | (with_reducible refine pr_load_g (by with_unfolding_all rfl) _ rfl _ rfl hP hP_z ?_) | (with_reducible refine num_load rfl _ rfl _ rfl _ hN rfl ?_) | (with_reducible refine num_load_g (by with_unfolding_all rfl) _ rfl _ rfl _ hN rfl ?_) | (with_reducible refine num_load rfl _ rfl _ rfl _ hO rfl ?_) | (with_reducible refine num_load_g (by with_unfolding_all rfl) _ rfl _ rfl _ hO rfl ?_) | (with_reducible refine num_load rfl _ rfl _ rfl _ hM rfl ?_) | (with_reducible refine num_load_g (by with_unfolding_all rfl) _ rfl _ rfl _ hM rfl ?_))
  refine (KL.out _).mono ?_
  rintro e v9 ⟨rfl, hb9⟩
  replace hP := hP.on hb9
  replace hN := hN.on hb9
  replace hO := hO.on hb9
  replace hM := hM.on hb9
  replace c0 := hP.c0 e0
  replace c1 := hP.c1 e1
  replace c2 := hP.c2 e2
  replace hbel := hbel.trans (hb9.mono hbel.size)
  clear hb9
  go_upto_region 14 with (with_reducible refine num_store rfl _ _ rfl _ _ rfl rfl _ (Has.newz _) rfl ?_)
  generalize hw10 : World.setRow _ _ _ = v10
  have hb10 : Below v9.heap.size v9 v10 := by rw [← hw10]; exact below_setRow ((Below.refl _ _).alloc (Nat.le_refl _) _) (Nat.le_refl _) _
  have hL : Has v10 v9.heap.size (numC L) 26 := by rw [← hw10]; exact (Has.newz _).row _
  replace hP := hP.on hb10
  replace hN := hN.on hb10
  replace hO := hO.on hb10
  replace hM := hM.on hb10
  replace c0 := hP.c0 e0
  replace c1 := hP.c1 e1
  replace c2 := hP.c2 e2
  replace hbel := hbel.trans (hb10.mono hbel.size)
  clear hw10 hb10
  generalize v9.heap.size = b_hL at hL ⊢
  go_wp2_with (first | fail | (with_reducible refine pr_load rfl _ rfl _ rfl hP hP_z ?_) | (with_reducible refine pr_load_g (by with_unfolding_all rfl) _ rfl _ rfl hP hP_z ?_) | (with_reducible refine num_load rfl _ rfl _ rfl _ hN rfl ?_) | (with_reducible refine num_load_g (by with_unfolding_all rfl) _ rfl _ rfl _ hN rfl ?_) | (with_reducible refine num_load rfl _ rfl _ rfl _ hO rfl ?_) | (with_reducible refine num_load_g (by with_unfolding_all rfl) _ rfl _ rfl _ hO rfl ?_) | (with_reducible refine num_load rfl _ rfl _ rfl _ hM rfl ?_) | (with_reducible refine num_load_g (by with_unfolding_all rfl) _ rfl _ rfl _ hM rfl ?_) | (with_reducible refine num_load rfl _ rfl _ rfl _ hL rfl ?_) | (with_reducible refine num_load_g (by with_unfolding_all rfl) _ rfl _ rfl _ hL rfl ?_))
  refine (KX.out _).mono ?_
  rintro e v11 ⟨rfl, hb11⟩
  replace hP := hP.on hb11
  replace hN := hN.on hb11
  replace hO := hO.on hb11
  replace hM := hM.on hb11
  replace hL := hL.on hb11
  replace c0 := hP.c0 e0
  replace c1 := hP.c1 e1
  replace c2 := hP.c2 e2
  replace hbel := hbel.trans (hb11.mono hbel.size)
  clear hb11
  have hq := HQ.out
  go_wp2_with fail
  refine wp_region_quiet_below (by kernel_rfl) (by kernel_rfl) ?_
  repeat (first
    | (go_big_quiet_want; (with_reducible refine quiet_load_pr _ rfl _ rfl hP_z hP.cls ?_); (simp only [Act.put, List.setIfInBounds_toArray, List.set_cons_zero, List.set_cons_succ]); go_big_quiet_on)
    | (go_big_quiet_want; (with_reducible refine quiet_load_num _ rfl _ rfl _ hN.cls ?_); (simp only [Act.put, List.setIfInBounds_toArray, List.set_cons_zero, List.set_cons_succ]); go_big_quiet_on)
    | (go_big_quiet_want; (with_reducible refine quiet_load_num _ rfl _ rfl _ hO.cls ?_); (simp only [Act.put, List.setIfInBounds_toArray, List.set_cons_zero, List.set_cons_succ]); go_big_quiet_on)
    | (go_big_quiet_want; (with_reducible refine quiet_load_num _ rfl _ rfl _ hM.cls ?_); (simp only [Act.put, List.setIfInBounds_toArray, List.set_cons_zero, List.set_cons_succ]); go_big_quiet_on)
    | (go_big_quiet_want; (with_reducible refine quiet_load_num _ rfl _ rfl _ hL.cls ?_); (simp only [Act.put, List.setIfInBounds_toArray, List.set_cons_zero, List.set_cons_succ]); go_big_quiet_on)
    | go_big_quiet_step (first | (go_at_call 14; exact Calls.regrown_of (KM2.out _)) | (go_at_call 12; exact Calls.regrown_of (KLess.out _))))
  refine wpQuiet_nil ?_
  intro v12 hw'
  obtain ⟨rg, hw''⟩ := hw'
  have hb12 : Below v11.heap.size v11 v12 := by rw [hw'']; exact below_regrown v11 rg.d rg.os
  clear hw''
  replace hP := hP.on hb12
  replace hN := hN.on hb12
  replace hO := hO.on hb12
  replace hM := hM.on hb12
  replace hL := hL.on hb12
  replace c0 := hP.c0 e0
  replace c1 := hP.c1 e1
  replace c2 := hP.c2 e2
  replace hbel := hbel.trans (hb12.mono hbel.size)
  clear hb12
  clear hq
  go_wp2_with (first | fail | (with_reducible refine pr_load rfl _ rfl _ rfl hP hP_z ?_) | (with_reducible refine pr_load_g (by with_unfolding_all rfl) _ rfl _ rfl hP hP_z ?_) | (with_reducible refine num_load rfl _ rfl _ rfl _ hN rfl ?_) | (with_reducible refine num_load_g (by with_unfolding_all rfl) _ rfl _ rfl _ hN rfl ?_) | (with_reducible refine num_load rfl _ rfl _ rfl _ hO rfl ?_) | (with_reducible refine num_load_g (by with_unfolding_all rfl) _ rfl _ rfl _ hO rfl ?_) | (with_reducible refine num_load rfl _ rfl _ rfl _ hM rfl ?_) | (with_reducible refine num_load_g (by with_unfolding_all rfl) _ rfl _ rfl _ hM rfl ?_) | (with_reducible refine num_load rfl _ rfl _ rfl _ hL rfl ?_) | (with_reducible refine num_load_g (by with_unfolding_all rfl) _ rfl _ rfl _ hL rfl ?_))
  refine (KS.out _).mono ?_
  rintro e v13 ⟨rfl, hb13⟩
  replace hP := hP.on hb13
  replace hN := hN.on hb13
  replace hO := hO.on hb13
  replace hM := hM.on hb13
  replace hL := hL.on hb13
  replace c0 := hP.c0 e0
  replace c1 := hP.c1 e1
  replace c2 := hP.c2 e2
  replace hbel := hbel.trans (hb13.mono hbel.size)
  clear hb13
  go_wp2_with (first | fail | (with_reducible refine pr_load rfl _ rfl _ rfl hP hP_z ?_) | (with_reducible refine pr_load_g (by with_unfolding_all rfl) _ rfl _ rfl hP hP_z ?_) | (with_reducible refine num_load rfl _ rfl _ rfl _ hN rfl ?_) | (with_reducible refine num_load_g (by with_unfolding_all rfl) _ rfl _ rfl _ hN rfl ?_) | (with_reducible refine num_load rfl _ rfl _ rfl _ hO rfl ?_) | (with_reducible refine num_load_g (by with_unfolding_all rfl) _ rfl _ rfl _ hO rfl ?_) | (with_reducible refine num_load rfl _ rfl _ rfl _ hM rfl ?_) | (with_reducible refine num_load_g (by with_unfolding_all rfl) _ rfl _ rfl _ hM rfl ?_) | (with_reducible refine num_load rfl _ rfl _ rfl _ hL rfl ?_) | (with_reducible refine num_load_g (by with_unfolding_all rfl) _ rfl _ rfl _ hL rfl ?_))
  go_ret
  exact ⟨rfl, hbel⟩
set_option maxRecDepth 100000 in
set_option maxHeartbeats 2000000 in
theorem eve_in (p : Pr) (hz : (prA p).size = 83) (n : Nat) (z2 z3 : Int) (t1 : decide (z2 < 0) = false) (t2 : decide ((1099511627776 : Int) < z2) = false) (t3 : decide (z3 < 0) = false) (t4 : decide ((1099511627776 : Int) < z3) = false) (lim : Int) (e0 : Hid (p.lim = lim)) (en : Int) (o : Nat) (ivl spc : Int) (e1 : Hid (p.ivl = ivl)) (e2 : Hid (p.spc = spc)) (sn s1 s4 s5 s6 ex : Int) (f1 : IntKind.i64.wrap (ivl * spc) = sn) (f2 : IntKind.i64.wrap (z2 + sn) = s1) (f3 : IntKind.i64.wrap (4 * sn) = s4) (f4 : IntKind.i64.wrap (z2 + s4) = s5) (f5 : IntKind.i64.wrap (s5 + z3) = s6) (m4 m1 L : Nat) (lb : Bool)
    (KG : Hid (∀ w, Calls Try.prog 9 #[.agg (prA p)] w fun e w' => e = .returned (.bool true) ∧ Below w.heap.size w w'))
    (KE : Hid (∀ w, Calls Try.prog 13 #[.agg (numC n)] w fun e w' => e = .returned (.int .i64 en) ∧ Below w.heap.size w w'))
    (KT : Hid (∀ w, Calls Try.prog 10 #[.int .i64 en, .int .i64 lim] w fun e w' => e = .returned (.tuple #[.agg (numC o), .bool true]) ∧ Below w.heap.size w w'))
    (KR : Hid (∀ w, Calls Try.prog 11 #[.agg (prA p), .int .i64 en, .int .i64 z2, .int .i64 s1] w fun e w' => e = .returned (.int .i64 en) ∧ Below w.heap.size w w')) (KM : Hid (∀ w, Calls Try.prog 14 #[.agg (numC o), .int .i64 2] w fun e w' => e = .returned (.agg (numC m4)) ∧ Below w.heap.size w w'))
    (KL : Hid (∀ w, Calls Try.prog 10 #[.int .i64 lim, .int .i64 lim] w fun e w' => e = .returned (.tuple #[.agg (numC L), .bool lb]) ∧ Below w.heap.size w w')) (KX : Hid (∀ w, Calls Try.prog 13 #[.agg (numC m4)] w fun e w' => e = .returned (.int .i64 ex) ∧ Below w.heap.size w w'))
    (KM2 : Hid (∀ w, Calls Try.prog 14 #[.agg (numC m4), .int .i64 (-2)] w fun e w' => e = .returned (.agg (numC m1)) ∧ Below w.heap.size w w')) (HQ : Hid (∀ w, (binOp .neq 26 (.agg (numC m1)) (.agg (numC o))).run Try.prog w = .ok (.bool false) w))
    (KLess : Hid (∀ w, Calls Try.prog 12 #[.agg (numC L), .agg (numC m4)] w fun e w' => e = .returned (.bool false) ∧ Below w.heap.size w w')) (KS : Hid (∀ w, Calls Try.prog 11 #[.agg (prA p), .int .i64 en, .int .i64 z2, .int .i64 s6] w fun e w' => e = .returned (.int .i64 ex) ∧ Below w.heap.size w w')) (w : World) :
    Calls Try.prog 4 #[.agg (prA p), .agg (numC n), .int .i64 z2, .int .i64 z3] w fun e w' => e = .returned (.bool true) ∧ Below w.heap.size w w' := by
  have KA := Lib.hid alive10
  have hP_z := hz
  go_enter Try.func4, Try.ntmps4
  go_upto_region 1 with fail
  generalize hw0 : World.alloc _ _ = v0
  have hbel : Below w.heap.size w v0 := by rw [← hw0]; exact ((Below.refl _ _).alloc (by first | exact Nat.le_refl _ | (simp; done) | (simp; omega)) _).alloc (by first | exact Nat.le_refl _ | (simp; done) | (simp; omega)) _
  have hP : PrAt v0 (w.heap.size) p := by rw [← hw0]; exact (Has.new _ _).alloc _
  have hN : Has v0 (w.heap.size + 1) (numC n) 26 := by rw [← hw0]; exact Has.new1 _ _ _
  clear hw0
  generalize hg1 : w.heap.size + 1 = b_hN at hN ⊢
  clear hg1
  have c0 := hP.c0 e0
  have c1 := hP.c1 e1
  have c2 := hP.c2 e2
  go_wp2_with (first | fail | (with_reducible refine pr_load rfl _ rfl _ rfl hP hP_z ?_) | (with_reducible refine pr_load_g (by with_unfolding_all rfl) _ rfl _ rfl hP hP_z ?_) | (with_reducible refine num_load rfl _ rfl _ rfl _ hN rfl ?_) | (with_reducible refine num_load_g (by with_unfolding_all rfl) _ rfl _ rfl _ hN rfl ?_))
  refine (KA.out _).mono ?_
  rintro e v1 ⟨rfl, hb1⟩
  replace hP := hP.on hb1
  replace hN := hN.on hb1
  replace c0 := hP.c0 e0
  replace c1 := hP.c1 e1
  replace c2 := hP.c2 e2
  replace hbel := hbel.trans (hb1.mono hbel.size)
  clear hb1
  go_wp2_with (first | fail | (with_reducible refine pr_load rfl _ rfl _ rfl hP hP_z ?_) | (with_reducible refine pr_load_g (by with_unfolding_all rfl) _ rfl _ rfl hP hP_z ?_) | (with_reducible refine num_load rfl _ rfl _ rfl _ hN rfl ?_) | (with_reducible refine num_load_g (by with_unfolding_all rfl) _ rfl _ rfl _ hN rfl ?_))
  refine (KG.out _).mono ?_
  rintro e v2 ⟨rfl, hb2⟩
  replace hP := hP.on hb2
  replace hN := hN.on hb2
  replace c0 := hP.c0 e0
  replace c1 := hP.c1 e1
  replace c2 := hP.c2 e2
  replace hbel := hbel.trans (hb2.mono hbel.size)
  clear hb2
  go_wp2_with (first | fail | (with_reducible refine pr_load rfl _ rfl _ rfl hP hP_z ?_) | (with_reducible refine pr_load_g (by with_unfolding_all rfl) _ rfl _ rfl hP hP_z ?_) | (with_reducible refine num_load rfl _ rfl _ rfl _ hN rfl ?_) | (with_reducible refine num_load_g (by with_unfolding_all rfl) _ rfl _ rfl _ hN rfl ?_))
  refine (KE.out _).mono ?_
  rintro e v3 ⟨rfl, hb3⟩
  replace hP := hP.on hb3
  replace hN := hN.on hb3
  replace c0 := hP.c0 e0
  replace c1 := hP.c1 e1
  replace c2 := hP.c2 e2
  replace hbel := hbel.trans (hb3.mono hbel.size)
  clear hb3
  go_wp2_with (first | fail | (with_reducible refine pr_load rfl _ rfl _ rfl hP hP_z ?_) | (with_reducible refine pr_load_g (by with_unfolding_all rfl) _ rfl _ rfl hP hP_z ?_) | (with_reducible refine num_load rfl _ rfl _ rfl _ hN rfl ?_) | (with_reducible refine num_load_g (by with_unfolding_all rfl) _ rfl _ rfl _ hN rfl ?_))
  refine (KT.out _).mono ?_
  rintro e v4 ⟨rfl, hb4⟩
  replace hP := hP.on hb4
  replace hN := hN.on hb4
  replace c0 := hP.c0 e0
  replace c1 := hP.c1 e1
  replace c2 := hP.c2 e2
  replace hbel := hbel.trans (hb4.mono hbel.size)
  clear hb4
  go_upto_region 7 with (with_reducible refine num_store rfl _ _ rfl _ _ rfl rfl _ (Has.newz _) rfl ?_)
  generalize hw5 : World.setRow _ _ _ = v5
  have hb5 : Below v4.heap.size v4 v5 := by rw [← hw5]; exact below_setRow ((Below.refl _ _).alloc (Nat.le_refl _) _) (Nat.le_refl _) _
  have hO : Has v5 v4.heap.size (numC o) 26 := by rw [← hw5]; exact (Has.newz _).row _
  replace hP := hP.on hb5
  replace hN := hN.on hb5
  replace c0 := hP.c0 e0
  replace c1 := hP.c1 e1
  replace c2 := hP.c2 e2
  replace hbel := hbel.trans (hb5.mono hbel.size)
  clear hw5 hb5
  generalize v4.heap.size = b_hO at hO ⊢
  have hself : (en != en) = false := by simp
  go_wp2_with (first | fail | (with_reducible refine pr_load rfl _ rfl _ rfl hP hP_z ?_) | (with_reducible refine pr_load_g (by with_unfolding_all rfl) _ rfl _ rfl hP hP_z ?_) | (with_reducible refine num_load rfl _ rfl _ rfl _ hN rfl ?_) | (with_reducible refine num_load_g (by with_unfolding_all rfl) _ rfl _ rfl _ hN rfl ?_) | (with_reducible refine num_load rfl _ rfl _ rfl _ hO rfl ?_) | (with_reducible refine num_load_g (by with_unfolding_all rfl) _ rfl _ rfl _ hO rfl ?_))
  refine (KR.out _).mono ?_
  rintro e v6 ⟨rfl, hb6⟩
  replace hP := hP.on hb6
  replace hN := hN.on hb6
  replace hO := hO.on hb6
  replace c0 := hP.c0 e0
  replace c1 := hP.c1 e1
  replace c2 := hP.c2 e2
  replace hbel := hbel.trans (hb6.mono hbel.size)
  clear hb6
  go_wp2_with (first | fail | (with_reducible refine pr_load rfl _ rfl _ rfl hP hP_z ?_) | (with_reducible refine pr_load_g (by with_unfolding_all rfl) _ rfl _ rfl hP hP_z ?_) | (with_reducible refine num_load rfl _ rfl _ rfl _ hN rfl ?_) | (with_reducible refine num_load_g (by with_unfolding_all rfl) _ rfl _ rfl _ hN rfl ?_) | (with_reducible refine num_load rfl _ rfl _ rfl _ hO rfl ?_) | (with_reducible refine num_load_g (by with_unfolding_all rfl) _ rfl _ rfl _ hO rfl ?_))
  refine (KM.out _).mono ?_
  rintro e v7 ⟨rfl, hb7⟩
  replace hP := hP.on hb7
  replace hN := hN.on hb7
  replace hO := hO.on hb7
  replace c0 := hP.c0 e0
  replace c1 := hP.c1 e1
  replace c2 := hP.c2 e2
  replace hbel := hbel.trans (hb7.mono hbel.size)
  clear hb7
  go_upto_region 13 with (with_reducible refine num_store rfl _ _ rfl _ _ rfl rfl _ (Has.newz _) rfl ?_)
  generalize hw8 : World.setRow _ _ _ = v8
  have hb8 : Below v7.heap.size v7 v8 := by rw [← hw8]; exact below_setRow ((Below.refl _ _).alloc (Nat.le_refl _) _) (Nat.le_refl _) _
  have hM : Has v8 v7.heap.size (numC m4) 26 := by rw [← hw8]; exact (Has.newz _).row _
  replace hP := hP.on hb8
  replace hN := hN.on hb8
  replace hO := hO.on hb8
  replace c0 := hP.c0 e0
  replace c1 := hP.c1 e1
  replace c2 := hP.c2 e2
  replace hbel := hbel.trans (hb8.mono hbel.size)
  clear hw8 hb8
  generalize v7.heap.size = b_hM at hM ⊢
  go_wp2_with (first | fail | (with_reducible refine pr_load rfl _ rfl _ rfl hP hP_z ?_) | (with_reducible refine pr_load_g (by with_unfolding_all rfl) _ rfl _ rfl hP hP_z ?_) | (with_reducible refine num_load rfl _ rfl _ rfl _ hN rfl ?_) | (with_reducible refine num_load_g (by with_unfolding_all rfl) _ rfl _ rfl _ hN rfl ?_) | (with_reducible refine num_load rfl _ rfl _ rfl _ hO rfl ?_) | (with_reducible refine num_load_g (by with_unfolding_all rfl) _ rfl _ rfl _ hO rfl ?_) | (with_reducible refine num_load rfl _ rfl _ rfl _ hM rfl ?_) | (with_reducible refine num_load_g (by with_unfolding_all rfl) _ rfl _ rfl _ hM rfl ?_))
  refine (KL.out _).mono ?_
  rintro e v9 ⟨rfl, hb9⟩
  replace hP := hP.on hb9
  replace hN := hN.on hb9
  replace hO := hO.on hb9
  replace hM := hM.on hb9
  replace c0 := hP.c0 e0
  replace c1 := hP.c1 e1
  replace c2 := hP.c2 e2
  replace hbel := hbel.trans (hb9.mono hbel.size)
  clear hb9
  go_upto_region 14 with (with_reducible refine num_store rfl _ _ rfl _ _ rfl rfl _ (Has.newz _) rfl ?_)
  generalize hw10 : World.setRow _ _ _ = v10
  have hb10 : Below v9.heap.size v9 v10 := by rw [← hw10]; exact below_setRow ((Below.refl _ _).alloc (Nat.le_refl _) _) (Nat.le_refl _) _
  have hL : Has v10 v9.heap.size (numC L) 26 := by rw [← hw10]; exact (Has.newz _).row _
  replace hP := hP.on hb10
  replace hN := hN.on hb10
  replace hO := hO.on hb10
  replace hM := hM.on hb10
  replace c0 := hP.c0 e0
  replace c1 := hP.c1 e1
  replace c2 := hP.c2 e2
  replace hbel := hbel.trans (hb10.mono hbel.size)
  clear hw10 hb10
  generalize v9.heap.size = b_hL at hL ⊢
  go_wp2_with (first | fail | (with_reducible refine pr_load rfl _ rfl _ rfl hP hP_z ?_) | (with_reducible refine pr_load_g (by with_unfolding_all rfl) _ rfl _ rfl hP hP_z ?_) | (with_reducible refine num_load rfl _ rfl _ rfl _ hN rfl ?_) | (with_reducible refine num_load_g (by with_unfolding_all rfl) _ rfl _ rfl _ hN rfl ?_) | (with_reducible refine num_load rfl _ rfl _ rfl _ hO rfl ?_) | (with_reducible refine num_load_g (by with_unfolding_all rfl) _ rfl _ rfl _ hO rfl ?_) | (with_reducible refine num_load rfl _ rfl _ rfl _ hM rfl ?_) | (with_reducible refine num_load_g (by with_unfolding_all rfl) _ rfl _ rfl _ hM rfl ?_) | (with_reducible refine num_load rfl _ rfl _ rfl _ hL rfl ?_) | (with_reducible refine num_load_g (by with_unfolding_all rfl) _ rfl _ rfl _ hL rfl ?_))
  refine (KX.out _).mono ?_
  rintro e v11 ⟨rfl, hb11⟩
  replace hP := hP.on hb11
  replace hN := hN.on hb11
  replace hO := hO.on hb11
  replace hM := hM.on hb11
  replace hL := hL.on hb11
  replace c0 := hP.c0 e0
  replace c1 := hP.c1 e1
  replace c2 := hP.c2 e2
  replace hbel := hbel.trans (hb11.mono hbel.size)
  clear hb11
  have hq := HQ.out
  go_wp2_with fail
  refine wp_region_quiet_below (by kernel_rfl) (by kernel_rfl) ?_
  repeat (first
    | (go_big_quiet_want; (with_reducible refine quiet_load_pr _ rfl _ rfl hP_z hP.cls ?_); (simp only [Act.put, List.setIfInBounds_toArray, List.set_cons_zero, List.set_cons_succ]); go_big_quiet_on)
    | (go_big_quiet_want; (with_reducible refine quiet_load_num _ rfl _ rfl _ hN.cls ?_); (simp only [Act.put, List.setIfInBounds_toArray, List.set_cons_zero, List.set_cons_succ]); go_big_quiet_on)
    | (go_big_quiet_want; (with_reducible refine quiet_load_num _ rfl _ rfl _ hO.cls ?_); (simp only [Act.put, List.setIfInBounds_toArray, List.set_cons_zero, List.set_cons_succ]); go_big_quiet_on)
    | (go_big_quiet_want; (with_reducible refine quiet_load_num _ rfl _ rfl _ hM.cls ?_); (simp only [Act.put, List.setIfInBounds_toArray, List.set_cons_zero, List.set_cons_succ]); go_big_quiet_on)
    | (go_big_quiet_want; (with_reducible refine quiet_load_num _ rfl _ rfl _ hL.cls ?_); (simp only [Act.put, List.setIfInBounds_toArray, List.set_cons_zero, List.set_cons_succ]); go_big_quiet_on)
    | go_big_quiet_step (first | (go_at_call 14; exact Calls.regrown_of (KM2.out _)) | (go_at_call 12; exact Calls.regrown_of (KLess.out _))))
  refine wpQuiet_nil ?_
  intro v12 hw'
  obtain ⟨rg, hw''⟩ := hw'
  have hb12 : Below v11.heap.size v11 v12 := by rw [hw'']; exact below_regrown v11 rg.d rg.os
  clear hw''
  replace hP := hP.on hb12
  replace hN := hN.on hb12
  replace hO := hO.on hb12
  replace hM := hM.on hb12
  replace hL := hL.on hb12
  replace c0 := hP.c0 e0
  replace c1 := hP.c1 e1
  replace c2 := hP.c2 e2
  replace hbel := hbel.trans (hb12.mono hbel.size)
  clear hb12
  clear hq
  go_wp2_with (first | fail | (with_reducible refine pr_load rfl _ rfl _ rfl hP hP_z ?_) | (with_reducible refine pr_load_g (by with_unfolding_all rfl) _ rfl _ rfl hP hP_z ?_) | (with_reducible refine num_load rfl _ rfl _ rfl _ hN rfl ?_) | (with_reducible refine num_load_g (by with_unfolding_all rfl) _ rfl _ rfl _ hN rfl ?_) | (with_reducible refine num_load rfl _ rfl _ rfl _ hO rfl ?_) | (with_reducible refine num_load_g (by with_unfolding_all rfl) _ rfl _ rfl _ hO rfl ?_) | (with_reducible refine num_load rfl _ rfl _ rfl _ hM rfl ?_) | (with_reducible refine num_load_g (by with_unfolding_all rfl) _ rfl _ rfl _ hM rfl ?_) | (with_reducible refine num_load rfl _ rfl _ rfl _ hL rfl ?_) | (with_reducible refine num_load_g (by with_unfolding_all rfl) _ rfl _ rfl _ hL rfl ?_))
  refine (KS.out _).mono ?_
  rintro e v13 ⟨rfl, hb13⟩
  replace hP := hP.on hb13
  replace hN := hN.on hb13
  replace hO := hO.on hb13
  replace hM := hM.on hb13
  replace hL := hL.on hb13
  replace c0 := hP.c0 e0
  replace c1 := hP.c1 e1
  replace c2 := hP.c2 e2
  replace hbel := hbel.trans (hb13.mono hbel.size)
  clear hb13
  go_wp2_with (first | fail | (with_reducible refine pr_load rfl _ rfl _ rfl hP hP_z ?_) | (with_reducible refine pr_load_g (by with_unfolding_all rfl) _ rfl _ rfl hP hP_z ?_) | (with_reducible refine num_load rfl _ rfl _ rfl _ hN rfl ?_) | (with_reducible refine num_load_g (by with_unfolding_all rfl) _ rfl _ rfl _ hN rfl ?_) | (with_reducible refine num_load rfl _ rfl _ rfl _ hO rfl ?_) | (with_reducible refine num_load_g (by with_unfolding_all rfl) _ rfl _ rfl _ hO rfl ?_) | (with_reducible refine num_load rfl _ rfl _ rfl _ hM rfl ?_) | (with_reducible refine num_load_g (by with_unfolding_all rfl) _ rfl _ rfl _ hM rfl ?_) | (with_reducible refine num_load rfl _ rfl _ rfl _ hL rfl ?_) | (with_reducible refine num_load_g (by with_unfolding_all rfl) _ rfl _ rfl _ hL rfl ?_))
  go_ret
  exact ⟨rfl, hbel⟩
theorem even_walk (p : Pr) (ho : p.ok) (n : Nat) (hn : n < Nm.big) (z2 z3 : Int) (w : World) : Calls Try.prog 4 #[.agg (prA p), .agg (numC n), .int .i64 z2, .int .i64 z3] w fun e w' => e = .returned (.bool true) ∧ Below w.heap.size w w' := by
  have hz := prA_size ho
  have KG := fun w => rgood_at p w
  by_cases h0 : p.good = false
  · rw [h0] at KG
    exact eve_bad p hz n z2 z3 (Lib.hid KG) w
  rw [Bool.not_eq_false] at h0
  rw [h0] at KG
  by_cases h1 : z2 < 0
  · exact eve_0 p hz n z2 z3 (decide_eq_true h1) (Lib.hid KG) w
  by_cases h2 : (1099511627776 : Int) < z2
  · exact eve_1 p hz n z2 z3 (decide_eq_false h1) (decide_eq_true h2) (Lib.hid KG) w
  by_cases h3 : z3 < 0
  · exact eve_2 p hz n z2 z3 (decide_eq_false h1) (decide_eq_false h2) (decide_eq_true h3) (Lib.hid KG) w
  by_cases h4 : (1099511627776 : Int) < z3
  · exact eve_3 p hz n z2 z3 (decide_eq_false h1) (decide_eq_false h2) (decide_eq_false h3) (decide_eq_true h4) (Lib.hid KG) w
  have KE := fun w => ref_encode n hn w
  have KT := fun w => rtgt_at (Nm.enc n : Nat) p.lim w
  by_cases h5 : tok (Nm.enc n : Nat) p.lim = false
  · rw [h5] at KT
    exact eve_none p hz n z2 z3 (decide_eq_false h1) (decide_eq_false h2) (decide_eq_false h3) (decide_eq_false h4) _ (Lib.hid rfl) _ _ (Lib.hid KG) (Lib.hid KE) (Lib.hid KT) w
  rw [Bool.not_eq_false] at h5
  rw [h5, tg_yes h5] at KT
  obtain ⟨s0, s1, s2⟩ := should_le h0
  have hi := tok_self h5
  have hk := tok_iff.1 h5
  have hde := dN_enc hn
  have hee : Nm.enc (dN (Nm.enc n : Nat)) = Nm.enc n := by rw [hde, Nm.enc_rd]
  obtain ⟨en, hen⟩ : ∃ en : Int, en = (Nm.enc n : Nat) := ⟨_, rfl⟩
  rw [← hen] at KE KT hi hk hde hee
  obtain ⟨o, hoe⟩ : ∃ o, o = dN en := ⟨_, rfl⟩
  have holt : o < Nm.big := by rw [hoe]; exact dN_lt en
  have han : ∀ d, p.anew en d = anew o p.should d := fun d => by rw [hoe, ← tg_yes hi]; rfl
  rw [← hoe] at KT hk hee
  have hlim := (good_parts h0).1
  have hL := dN_lt p.lim
  have KL := fun w => rtgt_at p.lim p.lim w
  rw [tg_yes hlim] at KL
  obtain ⟨sn, hsn⟩ : ∃ sn, sn = p.should := ⟨_, rfl⟩
  rw [← hsn] at s0 s1 s2 han
  have f1 : IntKind.i64.wrap (p.ivl * p.spc) = (sn : Int) := by rw [← s2, IntKind.wrap_i64]; omega
  have f2 : IntKind.i64.wrap (z2 + (sn : Int)) = z2 + sn := by rw [IntKind.wrap_i64]; omega
  have f3 : IntKind.i64.wrap (4 * (sn : Int)) = 4 * sn := by rw [IntKind.wrap_i64]; omega
  have f4 : IntKind.i64.wrap (z2 + 4 * (sn : Int)) = z2 + 4 * sn := by rw [IntKind.wrap_i64]; omega
  have f5 : IntKind.i64.wrap (z2 + 4 * (sn : Int) + z3) = z2 + 4 * sn + z3 := by rw [IntKind.wrap_i64]; omega
  have KR := fun w => retarget_at p ho en z2 (z2 + sn) (sn : Int) (by rw [IntKind.wrap_i64]; omega) w
  have r1 : rt p en (sn : Int) = en := by
    unfold rt
    rw [hi, h0, han, anew_same s0, tg_yes hlim, show max 1 o = o by omega, hee, if_pos (show (true && true) = true from rfl), if_neg (by omega), hen]
  rw [r1] at KR
  have KS := fun w => retarget_at p ho en z2 (z2 + 4 * sn + z3) (4 * sn + z3) (by rw [IntKind.wrap_i64]; omega) w
  have r2 : rt p en (4 * (sn : Int) + z3) = if dN p.lim < 4 * o then p.lim else (Nm.enc (4 * o) : Nat) := by
    unfold rt
    rw [hi, h0, han, anew_long s0 (by omega), tg_yes hlim, show max 1 (4 * o) = 4 * o by omega, if_pos (show (true && true) = true from rfl)]
  rw [r2] at KS
  have hup := Nm.up_lt o 2
  have hdn := Nm.down_lt hup 2
  have KM := fun w => ref_move_up o 2 holt (by omega) w
  have KM2 := fun w => ref_move_down (Nm.up o 2) 2 hup (by omega) (by omega) w
  have KX := fun w => ref_encode (Nm.up o 2) hup w
  by_cases h6 : 4 * o < Nm.big
  · have HQ := neq_is (Nm.down (Nm.up o 2) 2) o hdn holt false (by rw [back_two h6]; simp)
    by_cases h7 : dN p.lim < 4 * o
    · rw [if_pos h7] at KS
      exact eve_over p hz n z2 z3 (decide_eq_false h1) (decide_eq_false h2) (decide_eq_false h3) (decide_eq_false h4) _ (Lib.hid rfl) _ _ _ _ (Lib.hid rfl) (Lib.hid rfl) _ _ _ _ _ _ f1 f2 f3 f4 f5 _ _ _ _ (Lib.hid KG) (Lib.hid KE) (Lib.hid KT) (Lib.hid KR) (Lib.hid KM) (Lib.hid KL) (Lib.hid KX) (Lib.hid KM2) (Lib.hid HQ)
        (Lib.hid (ref_less_is _ _ hL hup true (decide_eq_true (by rw [up_two h6]; exact h7)))) (Lib.hid KS) w
    · rw [if_neg h7, ← up_two h6] at KS
      exact eve_in p hz n z2 z3 (decide_eq_false h1) (decide_eq_false h2) (decide_eq_false h3) (decide_eq_false h4) _ (Lib.hid rfl) _ _ _ _ (Lib.hid rfl) (Lib.hid rfl) _ _ _ _ _ _ f1 f2 f3 f4 f5 _ _ _ _ (Lib.hid KG) (Lib.hid KE) (Lib.hid KT) (Lib.hid KR) (Lib.hid KM) (Lib.hid KL) (Lib.hid KX) (Lib.hid KM2) (Lib.hid HQ)
        (Lib.hid (ref_less_is _ _ hL hup false (decide_eq_false (by rw [up_two h6]; exact h7)))) (Lib.hid KS) w
  · rw [if_pos (by omega)] at KS
    exact eve_lost p hz n z2 z3 (decide_eq_false h1) (decide_eq_false h2) (decide_eq_false h3) (decide_eq_false h4) _ (Lib.hid rfl) _ _ _ _ (Lib.hid rfl) (Lib.hid rfl) _ _ _ _ _ _ f1 f2 f3 f4 f5 _ _ _ _ (Lib.hid KG) (Lib.hid KE) (Lib.hid KT) (Lib.hid KR) (Lib.hid KM) (Lib.hid KL) (Lib.hid KX) (Lib.hid KM2) (Lib.hid (neq_is _ _ hdn holt true (by rw [decide_eq_false (back_lost h6)]; rfl))) (Lib.hid KS) w
end Go.Proofs.Ytmemppkkchfphaa
