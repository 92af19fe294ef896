/-
  pace: Retarget.
-/
import Derived.Test.YtmemppkkchfphaaPcScaled
import Derived.Test.YtmemppkkchfphaaCpRefEnc
namespace Go.Proofs.Ytmemppkkchfphaa
open Go.RowKit
set_option maxRecDepth 100000 in
set_option maxHeartbeats 2000000 in
theorem ret_none (p : Pr) (hz : (prA p).size = 83) (b fr to' lim : Int) (e0 : Hid (p.lim = lim)) (t : Nat)
    (KT : Hid (∀ w, Calls Try.prog 19 #[.int .i64 b, .int .i64 b] w fun e w' => e = .returned (.tuple #[.agg (numC t), .bool false]) ∧ Below w.heap.size w w'))
     (w : World) :
    Calls Try.prog 11 #[.agg (prA p), .int .i64 b, .int .i64 fr, .int .i64 to'] w fun e w' => e = .returned (.int .i64 lim) ∧ Below w.heap.size w w' := by
  have hP_z := hz
  go_enter Try.func11, Try.ntmps11
  go_upto_region 1 with fail
  generalize hw0 : World.alloc _ _ = v0
  have hbel : Below w.heap.size w v0 := by rw [← hw0]; exact (Below.refl _ _).alloc (by first | exact Nat.le_refl _ | (simp; done) | (simp; omega)) _
  have hP : PrAt v0 (w.heap.size) p := by rw [← hw0]; exact Has.new _ _
  clear hw0
  have c0 := hP.c0 e0
  go_wp2_with (first | fail | (with_reducible refine pr_load rfl _ rfl _ rfl hP hP_z ?_) | (with_reducible refine pr_load_g (by with_unfolding_all rfl) _ rfl _ rfl hP hP_z ?_))
  refine (KT.out _).mono ?_
  rintro e v1 ⟨rfl, hb1⟩
  replace hP := hP.on hb1
  replace c0 := hP.c0 e0
  replace hbel := hbel.trans (hb1.mono hbel.size)
  clear hb1
  go_upto_region 2 with (with_reducible refine num_store rfl _ _ rfl _ _ rfl rfl _ (Has.newz _) rfl ?_)
  generalize hw2 : World.setRow _ _ _ = v2
  have hb2 : Below v1.heap.size v1 v2 := by rw [← hw2]; exact below_setRow ((Below.refl _ _).alloc (Nat.le_refl _) _) (Nat.le_refl _) _
  have hT : Has v2 v1.heap.size (numC t) 26 := by rw [← hw2]; exact (Has.newz _).row _
  replace hP := hP.on hb2
  replace c0 := hP.c0 e0
  replace hbel := hbel.trans (hb2.mono hbel.size)
  clear hw2 hb2
  generalize v1.heap.size = b_hT at hT ⊢
  go_wp2_with (first | fail | (with_reducible refine pr_load rfl _ rfl _ rfl hP hP_z ?_) | (with_reducible refine pr_load_g (by with_unfolding_all rfl) _ rfl _ rfl hP hP_z ?_) | (with_reducible refine num_load rfl _ rfl _ rfl _ hT rfl ?_) | (with_reducible refine num_load_g (by with_unfolding_all rfl) _ rfl _ rfl _ hT rfl ?_))
  go_ret
  exact ⟨rfl, hbel⟩
set_option maxRecDepth 100000 in
set_option maxHeartbeats 2000000 in
theorem ret_bad (p : Pr) (hz : (prA p).size = 83) (b fr to' lim : Int) (e0 : Hid (p.lim = lim)) (t : Nat)
    (KT : Hid (∀ w, Calls Try.prog 19 #[.int .i64 b, .int .i64 b] w fun e w' => e = .returned (.tuple #[.agg (numC t), .bool true]) ∧ Below w.heap.size w w'))
    (KG : Hid (∀ w, Calls Try.prog 17 #[.agg (prA p)] w fun e w' => e = .returned (.bool false) ∧ Below w.heap.size w w'))
     (w : World) :
    Calls Try.prog 11 #[.agg (prA p), .int .i64 b, .int .i64 fr, .int .i64 to'] w fun e w' => e = .returned (.int .i64 lim) ∧ Below w.heap.size w w' := by
  have hP_z := hz
  go_enter Try.func11, Try.ntmps11
  go_upto_region 1 with fail
  generalize hw0 : World.alloc _ _ = v0
  have hbel : Below w.heap.size w v0 := by rw [← hw0]; exact (Below.refl _ _).alloc (by first | exact Nat.le_refl _ | (simp; done) | (simp; omega)) _
  have hP : PrAt v0 (w.heap.size) p := by rw [← hw0]; exact Has.new _ _
  clear hw0
  have c0 := hP.c0 e0
  go_wp2_with (first | fail | (with_reducible refine pr_load rfl _ rfl _ rfl hP hP_z ?_) | (with_reducible refine pr_load_g (by with_unfolding_all rfl) _ rfl _ rfl hP hP_z ?_))
  refine (KT.out _).mono ?_
  rintro e v1 ⟨rfl, hb1⟩
  replace hP := hP.on hb1
  replace c0 := hP.c0 e0
  replace hbel := hbel.trans (hb1.mono hbel.size)
  clear hb1
  go_upto_region 2 with (with_reducible refine num_store rfl _ _ rfl _ _ rfl rfl _ (Has.newz _) rfl ?_)
  generalize hw2 : World.setRow _ _ _ = v2
  have hb2 : Below v1.heap.size v1 v2 := by rw [← hw2]; exact below_setRow ((Below.refl _ _).alloc (Nat.le_refl _) _) (Nat.le_refl _) _
  have hT : Has v2 v1.heap.size (numC t) 26 := by rw [← hw2]; exact (Has.newz _).row _
  replace hP := hP.on hb2
  replace c0 := hP.c0 e0
  replace hbel := hbel.trans (hb2.mono hbel.size)
  clear hw2 hb2
  generalize v1.heap.size = b_hT at hT ⊢
  go_wp2_with (first | fail | (with_reducible refine pr_load rfl _ rfl _ rfl hP hP_z ?_) | (with_reducible refine pr_load_g (by with_unfolding_all rfl) _ rfl _ rfl hP hP_z ?_) | (with_reducible refine num_load rfl _ rfl _ rfl _ hT rfl ?_) | (with_reducible refine num_load_g (by with_unfolding_all rfl) _ rfl _ rfl _ hT rfl ?_))
  refine (KG.out _).mono ?_
  rintro e v3 ⟨rfl, hb3⟩
  replace hP := hP.on hb3
  replace hT := hT.on hb3
  replace c0 := hP.c0 e0
  replace hbel := hbel.trans (hb3.mono hbel.size)
  clear hb3
  go_wp2_with (first | fail | (with_reducible refine pr_load rfl _ rfl _ rfl hP hP_z ?_) | (with_reducible refine pr_load_g (by with_unfolding_all rfl) _ rfl _ rfl hP hP_z ?_) | (with_reducible refine num_load rfl _ rfl _ rfl _ hT rfl ?_) | (with_reducible refine num_load_g (by with_unfolding_all rfl) _ rfl _ rfl _ hT rfl ?_))
  go_ret
  exact ⟨rfl, hbel⟩
set_option maxRecDepth 100000 in
set_option maxHeartbeats 2000000 in
theorem ret_above (p : Pr) (hz : (prA p).size = 83) (b fr to' lim ivl spc : Int) (e0 : Hid (p.lim = lim)) (e1 : Hid (p.ivl = ivl)) (e2 : Hid (p.spc = spc)) (t z L : Nat) (oL : Bool)
    (sn s4 s16 tk : Nat) (d mx : Int) (f1 : IntKind.i64.wrap (ivl * spc) = (sn : Int)) (f2 : IntKind.i64.wrap (to' - fr) = d) (f3 : (sn : Int) / 4 = (s4 : Int)) (f4 : IntKind.i64.wrap ((sn : Int) * 4) = (s16 : Int)) (f5 : IntKind.i64.wrap (s4 : Int) = (s4 : Int))
    (f6 : mx = max d (s4 : Int)) (f7 : (tk : Int) = min mx (s16 : Int)) (f8 : IntKind.u64.wrap (tk : Int) = (tk : Int)) (f9 : IntKind.u64.wrap (sn : Int) = (sn : Int))
    (KT : Hid (∀ w, Calls Try.prog 19 #[.int .i64 b, .int .i64 b] w fun e w' => e = .returned (.tuple #[.agg (numC t), .bool true]) ∧ Below w.heap.size w w'))
    (KG : Hid (∀ w, Calls Try.prog 17 #[.agg (prA p)] w fun e w' => e = .returned (.bool true) ∧ Below w.heap.size w w'))
    (KS : Hid (∀ w, Calls Try.prog 20 #[.agg (numC t), .int .u64 (tk : Int), .int .u64 (sn : Int)] w fun e w' => e = .returned (.tuple #[.agg (numC z), .bool true]) ∧ Below w.heap.size w w'))
    (KL : Hid (∀ w, Calls Try.prog 19 #[.int .i64 lim, .int .i64 lim] w fun e w' => e = .returned (.tuple #[.agg (numC L), .bool oL]) ∧ Below w.heap.size w w'))
     (w : World) :
    Calls Try.prog 11 #[.agg (prA p), .int .i64 b, .int .i64 fr, .int .i64 to'] w fun e w' => e = .returned (.int .i64 lim) ∧ Below w.heap.size w w' := by
  have hP_z := hz
  go_enter Try.func11, Try.ntmps11
  go_upto_region 1 with fail
  generalize hw0 : World.alloc _ _ = v0
  have hbel : Below w.heap.size w v0 := by rw [← hw0]; exact (Below.refl _ _).alloc (by first | exact Nat.le_refl _ | (simp; done) | (simp; omega)) _
  have hP : PrAt v0 (w.heap.size) p := by rw [← hw0]; exact Has.new _ _
  clear hw0
  have c0 := hP.c0 e0
  have c1 := hP.c1 e1
  have c2 := hP.c2 e2
  go_wp2_with (first | fail | (with_reducible refine pr_load rfl _ rfl _ rfl hP hP_z ?_) | (with_reducible refine pr_load_g (by with_unfolding_all rfl) _ rfl _ rfl hP hP_z ?_))
  refine (KT.out _).mono ?_
  rintro e v1 ⟨rfl, hb1⟩
  replace hP := hP.on hb1
  replace c0 := hP.c0 e0
  replace c1 := hP.c1 e1
  replace c2 := hP.c2 e2
  replace hbel := hbel.trans (hb1.mono hbel.size)
  clear hb1
  go_upto_region 2 with (with_reducible refine num_store rfl _ _ rfl _ _ rfl rfl _ (Has.newz _) rfl ?_)
  generalize hw2 : World.setRow _ _ _ = v2
  have hb2 : Below v1.heap.size v1 v2 := by rw [← hw2]; exact below_setRow ((Below.refl _ _).alloc (Nat.le_refl _) _) (Nat.le_refl _) _
  have hT : Has v2 v1.heap.size (numC t) 26 := by rw [← hw2]; exact (Has.newz _).row _
  replace hP := hP.on hb2
  replace c0 := hP.c0 e0
  replace c1 := hP.c1 e1
  replace c2 := hP.c2 e2
  replace hbel := hbel.trans (hb2.mono hbel.size)
  clear hw2 hb2
  generalize v1.heap.size = b_hT at hT ⊢
  go_wp2_with (first | fail | (with_reducible refine pr_load rfl _ rfl _ rfl hP hP_z ?_) | (with_reducible refine pr_load_g (by with_unfolding_all rfl) _ rfl _ rfl hP hP_z ?_) | (with_reducible refine num_load rfl _ rfl _ rfl _ hT rfl ?_) | (with_reducible refine num_load_g (by with_unfolding_all rfl) _ rfl _ rfl _ hT rfl ?_))
  refine (KG.out _).mono ?_
  rintro e v3 ⟨rfl, hb3⟩
  replace hP := hP.on hb3
  replace hT := hT.on hb3
  replace c0 := hP.c0 e0
  replace c1 := hP.c1 e1
  replace c2 := hP.c2 e2
  replace hbel := hbel.trans (hb3.mono hbel.size)
  clear hb3
  have M1 := max_is (P := Try.prog) d (s4 : Int) mx f6
  have M2 := min_is (P := Try.prog) mx (s16 : Int) (tk : Int) f7
  clear f6 f7
  go_wp2_with (first | fail | (with_reducible refine pr_load rfl _ rfl _ rfl hP hP_z ?_) | (with_reducible refine pr_load_g (by with_unfolding_all rfl) _ rfl _ rfl hP hP_z ?_) | (with_reducible refine num_load rfl _ rfl _ rfl _ hT rfl ?_) | (with_reducible refine num_load_g (by with_unfolding_all rfl) _ rfl _ rfl _ hT rfl ?_))
  refine (KS.out _).mono ?_
  rintro e v4 ⟨rfl, hb4⟩
  replace hP := hP.on hb4
  replace hT := hT.on hb4
  replace c0 := hP.c0 e0
  replace c1 := hP.c1 e1
  replace c2 := hP.c2 e2
  replace hbel := hbel.trans (hb4.mono hbel.size)
  clear hb4
  go_upto_region 7 with (with_reducible refine num_store rfl _ _ rfl _ _ rfl rfl _ (Has.newz _) rfl ?_)
  generalize hw5 : World.setRow _ _ _ = v5
  have hb5 : Below v4.heap.size v4 v5 := by rw [← hw5]; exact below_setRow ((Below.refl _ _).alloc (Nat.le_refl _) _) (Nat.le_refl _) _
  have hZ : Has v5 v4.heap.size (numC z) 26 := by rw [← hw5]; exact (Has.newz _).row _
  replace hP := hP.on hb5
  replace hT := hT.on hb5
  replace c0 := hP.c0 e0
  replace c1 := hP.c1 e1
  replace c2 := hP.c2 e2
  replace hbel := hbel.trans (hb5.mono hbel.size)
  clear hw5 hb5
  generalize v4.heap.size = b_hZ at hZ ⊢
  clear M1 M2
  go_wp2_with (first | fail | (with_reducible refine pr_load rfl _ rfl _ rfl hP hP_z ?_) | (with_reducible refine pr_load_g (by with_unfolding_all rfl) _ rfl _ rfl hP hP_z ?_) | (with_reducible refine num_load rfl _ rfl _ rfl _ hT rfl ?_) | (with_reducible refine num_load_g (by with_unfolding_all rfl) _ rfl _ rfl _ hT rfl ?_) | (with_reducible refine num_load rfl _ rfl _ rfl _ hZ rfl ?_) | (with_reducible refine num_load_g (by with_unfolding_all rfl) _ rfl _ rfl _ hZ rfl ?_))
  refine (KL.out _).mono ?_
  rintro e v6 ⟨rfl, hb6⟩
  replace hP := hP.on hb6
  replace hT := hT.on hb6
  replace hZ := hZ.on hb6
  replace c0 := hP.c0 e0
  replace c1 := hP.c1 e1
  replace c2 := hP.c2 e2
  replace hbel := hbel.trans (hb6.mono hbel.size)
  clear hb6
  go_upto_region 8 with (with_reducible refine num_store rfl _ _ rfl _ _ rfl rfl _ (Has.newz _) rfl ?_)
  generalize hw7 : World.setRow _ _ _ = v7
  have hb7 : Below v6.heap.size v6 v7 := by rw [← hw7]; exact below_setRow ((Below.refl _ _).alloc (Nat.le_refl _) _) (Nat.le_refl _) _
  have hL : Has v7 v6.heap.size (numC L) 26 := by rw [← hw7]; exact (Has.newz _).row _
  replace hP := hP.on hb7
  replace hT := hT.on hb7
  replace hZ := hZ.on hb7
  replace c0 := hP.c0 e0
  replace c1 := hP.c1 e1
  replace c2 := hP.c2 e2
  replace hbel := hbel.trans (hb7.mono hbel.size)
  clear hw7 hb7
  generalize v6.heap.size = b_hL at hL ⊢
  go_wp2_with (first | fail | (with_reducible refine pr_load rfl _ rfl _ rfl hP hP_z ?_) | (with_reducible refine pr_load_g (by with_unfolding_all rfl) _ rfl _ rfl hP hP_z ?_) | (with_reducible refine num_load rfl _ rfl _ rfl _ hT rfl ?_) | (with_reducible refine num_load_g (by with_unfolding_all rfl) _ rfl _ rfl _ hT rfl ?_) | (with_reducible refine num_load rfl _ rfl _ rfl _ hZ rfl ?_) | (with_reducible refine num_load_g (by with_unfolding_all rfl) _ rfl _ rfl _ hZ rfl ?_) | (with_reducible refine num_load rfl _ rfl _ rfl _ hL rfl ?_) | (with_reducible refine num_load_g (by with_unfolding_all rfl) _ rfl _ rfl _ hL rfl ?_))
  go_ret
  exact ⟨rfl, hbel⟩
set_option maxRecDepth 100000 in
set_option maxHeartbeats 2000000 in
theorem ret_less (p : Pr) (hz : (prA p).size = 83) (b fr to' lim ivl spc : Int) (e0 : Hid (p.lim = lim)) (e1 : Hid (p.ivl = ivl)) (e2 : Hid (p.spc = spc)) (t z L : Nat) (oL : Bool)
    (sn s4 s16 tk : Nat) (d mx : Int) (f1 : IntKind.i64.wrap (ivl * spc) = (sn : Int)) (f2 : IntKind.i64.wrap (to' - fr) = d) (f3 : (sn : Int) / 4 = (s4 : Int)) (f4 : IntKind.i64.wrap ((sn : Int) * 4) = (s16 : Int)) (f5 : IntKind.i64.wrap (s4 : Int) = (s4 : Int))
    (f6 : mx = max d (s4 : Int)) (f7 : (tk : Int) = min mx (s16 : Int)) (f8 : IntKind.u64.wrap (tk : Int) = (tk : Int)) (f9 : IntKind.u64.wrap (sn : Int) = (sn : Int))
    (KT : Hid (∀ w, Calls Try.prog 19 #[.int .i64 b, .int .i64 b] w fun e w' => e = .returned (.tuple #[.agg (numC t), .bool true]) ∧ Below w.heap.size w w'))
    (KG : Hid (∀ w, Calls Try.prog 17 #[.agg (prA p)] w fun e w' => e = .returned (.bool true) ∧ Below w.heap.size w w'))
    (KS : Hid (∀ w, Calls Try.prog 20 #[.agg (numC t), .int .u64 (tk : Int), .int .u64 (sn : Int)] w fun e w' => e = .returned (.tuple #[.agg (numC z), .bool false]) ∧ Below w.heap.size w w'))
    (KL : Hid (∀ w, Calls Try.prog 19 #[.int .i64 lim, .int .i64 lim] w fun e w' => e = .returned (.tuple #[.agg (numC L), .bool oL]) ∧ Below w.heap.size w w'))
    (KLess : Hid (∀ w, Calls Try.prog 21 #[.agg (numC L), .agg (numC z)] w fun e w' => e = .returned (.bool true) ∧ Below w.heap.size w w'))
     (w : World) :
    Calls Try.prog 11 #[.agg (prA p), .int .i64 b, .int .i64 fr, .int .i64 to'] w fun e w' => e = .returned (.int .i64 lim) ∧ Below w.heap.size w w' := by
  have hP_z := hz
  go_enter Try.func11, Try.ntmps11
  go_upto_region 1 with fail
  generalize hw0 : World.alloc _ _ = v0
  have hbel : Below w.heap.size w v0 := by rw [← hw0]; exact (Below.refl _ _).alloc (by first | exact Nat.le_refl _ | (simp; done) | (simp; omega)) _
  have hP : PrAt v0 (w.heap.size) p := by rw [← hw0]; exact Has.new _ _
  clear hw0
  have c0 := hP.c0 e0
  have c1 := hP.c1 e1
  have c2 := hP.c2 e2
  go_wp2_with (first | fail | (with_reducible refine pr_load rfl _ rfl _ rfl hP hP_z ?_) | (with_reducible refine pr_load_g (by with_unfolding_all rfl) _ rfl _ rfl hP hP_z ?_))
  refine (KT.out _).mono ?_
  rintro e v1 ⟨rfl, hb1⟩
  replace hP := hP.on hb1
  replace c0 := hP.c0 e0
  replace c1 := hP.c1 e1
  replace c2 := hP.c2 e2
  replace hbel := hbel.trans (hb1.mono hbel.size)
  clear hb1
  go_upto_region 2 with (with_reducible refine num_store rfl _ _ rfl _ _ rfl rfl _ (Has.newz _) rfl ?_)
  generalize hw2 : World.setRow _ _ _ = v2
  have hb2 : Below v1.heap.size v1 v2 := by rw [← hw2]; exact below_setRow ((Below.refl _ _).alloc (Nat.le_refl _) _) (Nat.le_refl _) _
  have hT : Has v2 v1.heap.size (numC t) 26 := by rw [← hw2]; exact (Has.newz _).row _
  replace hP := hP.on hb2
  replace c0 := hP.c0 e0
  replace c1 := hP.c1 e1
  replace c2 := hP.c2 e2
  replace hbel := hbel.trans (hb2.mono hbel.size)
  clear hw2 hb2
  generalize v1.heap.size = b_hT at hT ⊢
  go_wp2_with (first | fail | (with_reducible refine pr_load rfl _ rfl _ rfl hP hP_z ?_) | (with_reducible refine pr_load_g (by with_unfolding_all rfl) _ rfl _ rfl hP hP_z ?_) | (with_reducible refine num_load rfl _ rfl _ rfl _ hT rfl ?_) | (with_reducible refine num_load_g (by with_unfolding_all rfl) _ rfl _ rfl _ hT rfl ?_))
  refine (KG.out _).mono ?_
  rintro e v3 ⟨rfl, hb3⟩
  replace hP := hP.on hb3
  replace hT := hT.on hb3
  replace c0 := hP.c0 e0
  replace c1 := hP.c1 e1
  replace c2 := hP.c2 e2
  replace hbel := hbel.trans (hb3.mono hbel.size)
  clear hb3
  have M1 := max_is (P := Try.prog) d (s4 : Int) mx f6
  have M2 := min_is (P := Try.prog) mx (s16 : Int) (tk : Int) f7
  clear f6 f7
  go_wp2_with (first | fail | (with_reducible refine pr_load rfl _ rfl _ rfl hP hP_z ?_) | (with_reducible refine pr_load_g (by with_unfolding_all rfl) _ rfl _ rfl hP hP_z ?_) | (with_reducible refine num_load rfl _ rfl _ rfl _ hT rfl ?_) | (with_reducible refine num_load_g (by with_unfolding_all rfl) _ rfl _ rfl _ hT rfl ?_))
  refine (KS.out _).mono ?_
  rintro e v4 ⟨rfl, hb4⟩
  replace hP := hP.on hb4
  replace hT := hT.on hb4
  replace c0 := hP.c0 e0
  replace c1 := hP.c1 e1
  replace c2 := hP.c2 e2
  replace hbel := hbel.trans (hb4.mono hbel.size)
  clear hb4
  go_upto_region 7 with (with_reducible refine num_store rfl _ _ rfl _ _ rfl rfl _ (Has.newz _) rfl ?_)
  generalize hw5 : World.setRow _ _ _ = v5
  have hb5 : Below v4.heap.size v4 v5 := by rw [← hw5]; exact below_setRow ((Below.refl _ _).alloc (Nat.le_refl _) _) (Nat.le_refl _) _
  have hZ : Has v5 v4.heap.size (numC z) 26 := by rw [← hw5]; exact (Has.newz _).row _
  replace hP := hP.on hb5
  replace hT := hT.on hb5
  replace c0 := hP.c0 e0
  replace c1 := hP.c1 e1
  replace c2 := hP.c2 e2
  replace hbel := hbel.trans (hb5.mono hbel.size)
  clear hw5 hb5
  generalize v4.heap.size = b_hZ at hZ ⊢
  clear M1 M2
  go_wp2_with (first | fail | (with_reducible refine pr_load rfl _ rfl _ rfl hP hP_z ?_) | (with_reducible refine pr_load_g (by with_unfolding_all rfl) _ rfl _ rfl hP hP_z ?_) | (with_reducible refine num_load rfl _ rfl _ rfl _ hT rfl ?_) | (with_reducible refine num_load_g (by with_unfolding_all rfl) _ rfl _ rfl _ hT rfl ?_) | (with_reducible refine num_load rfl _ rfl _ rfl _ hZ rfl ?_) | (with_reducible refine num_load_g (by with_unfolding_all rfl) _ rfl _ rfl _ hZ rfl ?_))
  refine (KL.out _).mono ?_
  rintro e v6 ⟨rfl, hb6⟩
  replace hP := hP.on hb6
  replace hT := hT.on hb6
  replace hZ := hZ.on hb6
  replace c0 := hP.c0 e0
  replace c1 := hP.c1 e1
  replace c2 := hP.c2 e2
  replace hbel := hbel.trans (hb6.mono hbel.size)
  clear hb6
  go_upto_region 8 with (with_reducible refine num_store rfl _ _ rfl _ _ rfl rfl _ (Has.newz _) rfl ?_)
  generalize hw7 : World.setRow _ _ _ = v7
  have hb7 : Below v6.heap.size v6 v7 := by rw [← hw7]; exact below_setRow ((Below.refl _ _).alloc (Nat.le_refl _) _) (Nat.le_refl _) _
  have hL : Has v7 v6.heap.size (numC L) 26 := by rw [← hw7]; exact (Has.newz _).row _
  replace hP := hP.on hb7
  replace hT := hT.on hb7
  replace hZ := hZ.on hb7
  replace c0 := hP.c0 e0
  replace c1 := hP.c1 e1
  replace c2 := hP.c2 e2
  replace hbel := hbel.trans (hb7.mono hbel.size)
  clear hw7 hb7
  generalize v6.heap.size = b_hL at hL ⊢
  go_wp2_with (first | fail | (with_reducible refine pr_load rfl _ rfl _ rfl hP hP_z ?_) | (with_reducible refine pr_load_g (by with_unfolding_all rfl) _ rfl _ rfl hP hP_z ?_) | (with_reducible refine num_load rfl _ rfl _ rfl _ hT rfl ?_) | (with_reducible refine num_load_g (by with_unfolding_all rfl) _ rfl _ rfl _ hT rfl ?_) | (with_reducible refine num_load rfl _ rfl _ rfl _ hZ rfl ?_) | (with_reducible refine num_load_g (by with_unfolding_all rfl) _ rfl _ rfl _ hZ rfl ?_) | (with_reducible refine num_load rfl _ rfl _ rfl _ hL rfl ?_) | (with_reducible refine num_load_g (by with_unfolding_all rfl) _ rfl _ rfl _ hL rfl ?_))
  refine (KLess.out _).mono ?_
  rintro e v8 ⟨rfl, hb8⟩
  replace hP := hP.on hb8
  replace hT := hT.on hb8
  replace hZ := hZ.on hb8
  replace hL := hL.on hb8
  replace c0 := hP.c0 e0
  replace c1 := hP.c1 e1
  replace c2 := hP.c2 e2
  replace hbel := hbel.trans (hb8.mono hbel.size)
  clear hb8
  go_wp2_with (first | fail | (with_reducible refine pr_load rfl _ rfl _ rfl hP hP_z ?_) | (with_reducible refine pr_load_g (by with_unfolding_all rfl) _ rfl _ rfl hP hP_z ?_) | (with_reducible refine num_load rfl _ rfl _ rfl _ hT rfl ?_) | (with_reducible refine num_load_g (by with_unfolding_all rfl) _ rfl _ rfl _ hT rfl ?_) | (with_reducible refine num_load rfl _ rfl _ rfl _ hZ rfl ?_) | (with_reducible refine num_load_g (by with_unfolding_all rfl) _ rfl _ rfl _ hZ rfl ?_) | (with_reducible refine num_load rfl _ rfl _ rfl _ hL rfl ?_) | (with_reducible refine num_load_g (by with_unfolding_all rfl) _ rfl _ rfl _ hL rfl ?_))
  go_ret
  exact ⟨rfl, hbel⟩
set_option maxRecDepth 100000 in
set_option maxHeartbeats 2000000 in
theorem ret_in (p : Pr) (hz : (prA p).size = 83) (b fr to' lim ivl spc : Int) (e0 : Hid (p.lim = lim)) (e1 : Hid (p.ivl = ivl)) (e2 : Hid (p.spc = spc)) (t z L : Nat) (oL : Bool)
    (en : Int) (sn s4 s16 tk : Nat) (d mx : Int) (f1 : IntKind.i64.wrap (ivl * spc) = (sn : Int)) (f2 : IntKind.i64.wrap (to' - fr) = d) (f3 : (sn : Int) / 4 = (s4 : Int)) (f4 : IntKind.i64.wrap ((sn : Int) * 4) = (s16 : Int)) (f5 : IntKind.i64.wrap (s4 : Int) = (s4 : Int))
    (f6 : mx = max d (s4 : Int)) (f7 : (tk : Int) = min mx (s16 : Int)) (f8 : IntKind.u64.wrap (tk : Int) = (tk : Int)) (f9 : IntKind.u64.wrap (sn : Int) = (sn : Int))
    (KT : Hid (∀ w, Calls Try.prog 19 #[.int .i64 b, .int .i64 b] w fun e w' => e = .returned (.tuple #[.agg (numC t), .bool true]) ∧ Below w.heap.size w w'))
    (KG : Hid (∀ w, Calls Try.prog 17 #[.agg (prA p)] w fun e w' => e = .returned (.bool true) ∧ Below w.heap.size w w'))
    (KS : Hid (∀ w, Calls Try.prog 20 #[.agg (numC t), .int .u64 (tk : Int), .int .u64 (sn : Int)] w fun e w' => e = .returned (.tuple #[.agg (numC z), .bool false]) ∧ Below w.heap.size w w'))
    (KL : Hid (∀ w, Calls Try.prog 19 #[.int .i64 lim, .int .i64 lim] w fun e w' => e = .returned (.tuple #[.agg (numC L), .bool oL]) ∧ Below w.heap.size w w'))
    (KLess : Hid (∀ w, Calls Try.prog 21 #[.agg (numC L), .agg (numC z)] w fun e w' => e = .returned (.bool false) ∧ Below w.heap.size w w'))
    (KZ : Hid (∀ w, Calls Try.prog 22 #[.agg (numC z)] w fun e w' => e = .returned (.bool false) ∧ Below w.heap.size w w'))
    (KE : Hid (∀ w, Calls Try.prog 24 #[.agg (numC z)] w fun e w' => e = .returned (.int .i64 en) ∧ Below w.heap.size w w')) (w : World) :
    Calls Try.prog 11 #[.agg (prA p), .int .i64 b, .int .i64 fr, .int .i64 to'] w fun e w' => e = .returned (.int .i64 en) ∧ Below w.heap.size w w' := by
  have hP_z := hz
  go_enter Try.func11, Try.ntmps11
  go_upto_region 1 with fail
  generalize hw0 : World.alloc _ _ = v0
  have hbel : Below w.heap.size w v0 := by rw [← hw0]; exact (Below.refl _ _).alloc (by first | exact Nat.le_refl _ | (simp; done) | (simp; omega)) _
  have hP : PrAt v0 (w.heap.size) p := by rw [← hw0]; exact Has.new _ _
  clear hw0
  have c0 := hP.c0 e0
  have c1 := hP.c1 e1
  have c2 := hP.c2 e2
  go_wp2_with (first | fail | (with_reducible refine pr_load rfl _ rfl _ rfl hP hP_z ?_) | (with_reducible refine pr_load_g (by with_unfolding_all rfl) _ rfl _ rfl hP hP_z ?_))
  refine (KT.out _).mono ?_
  rintro e v1 ⟨rfl, hb1⟩
  replace hP := hP.on hb1
  replace c0 := hP.c0 e0
  replace c1 := hP.c1 e1
  replace c2 := hP.c2 e2
  replace hbel := hbel.trans (hb1.mono hbel.size)
  clear hb1
  go_upto_region 2 with (with_reducible refine num_store rfl _ _ rfl _ _ rfl rfl _ (Has.newz _) rfl ?_)
  generalize hw2 : World.setRow _ _ _ = v2
  have hb2 : Below v1.heap.size v1 v2 := by rw [← hw2]; exact below_setRow ((Below.refl _ _).alloc (Nat.le_refl _) _) (Nat.le_refl _) _
  have hT : Has v2 v1.heap.size (numC t) 26 := by rw [← hw2]; exact (Has.newz _).row _
  replace hP := hP.on hb2
  replace c0 := hP.c0 e0
  replace c1 := hP.c1 e1
  replace c2 := hP.c2 e2
  replace hbel := hbel.trans (hb2.mono hbel.size)
  clear hw2 hb2
  generalize v1.heap.size = b_hT at hT ⊢
  go_wp2_with (first | fail | (with_reducible refine pr_load rfl _ rfl _ rfl hP hP_z ?_) | (with_reducible refine pr_load_g (by with_unfolding_all rfl) _ rfl _ rfl hP hP_z ?_) | (with_reducible refine num_load rfl _ rfl _ rfl _ hT rfl ?_) | (with_reducible refine num_load_g (by with_unfolding_all rfl) _ rfl _ rfl _ hT rfl ?_))
  refine (KG.out _).mono ?_
  rintro e v3 ⟨rfl, hb3⟩
  replace hP := hP.on hb3
  replace hT := hT.on hb3
  replace c0 := hP.c0 e0
  replace c1 := hP.c1 e1
  replace c2 := hP.c2 e2
  replace hbel := hbel.trans (hb3.mono hbel.size)
  clear hb3
  have M1 := max_is (P := Try.prog) d (s4 : Int) mx f6
  have M2 := min_is (P := Try.prog) mx (s16 : Int) (tk : Int) f7
  clear f6 f7
  go_wp2_with (first | fail | (with_reducible refine pr_load rfl _ rfl _ rfl hP hP_z ?_) | (with_reducible refine pr_load_g (by with_unfolding_all rfl) _ rfl _ rfl hP hP_z ?_) | (with_reducible refine num_load rfl _ rfl _ rfl _ hT rfl ?_) | (with_reducible refine num_load_g (by with_unfolding_all rfl) _ rfl _ rfl _ hT rfl ?_))
  refine (KS.out _).mono ?_
  rintro e v4 ⟨rfl, hb4⟩
  replace hP := hP.on hb4
  replace hT := hT.on hb4
  replace c0 := hP.c0 e0
  replace c1 := hP.c1 e1
  replace c2 := hP.c2 e2
  replace hbel := hbel.trans (hb4.mono hbel.size)
  clear hb4
  go_upto_region 7 with (with_reducible refine num_store rfl _ _ rfl _ _ rfl rfl _ (Has.newz _) rfl ?_)
  generalize hw5 : World.setRow _ _ _ = v5
  have hb5 : Below v4.heap.size v4 v5 := by rw [← hw5]; exact below_setRow ((Below.refl _ _).alloc (Nat.le_refl _) _) (Nat.le_refl _) _
  have hZ : Has v5 v4.heap.size (numC z) 26 := by rw [← hw5]; exact (Has.newz _).row _
  replace hP := hP.on hb5
  replace hT := hT.on hb5
  replace c0 := hP.c0 e0
  replace c1 := hP.c1 e1
  replace c2 := hP.c2 e2
  replace hbel := hbel.trans (hb5.mono hbel.size)
  clear hw5 hb5
  generalize v4.heap.size = b_hZ at hZ ⊢
  clear M1 M2
  go_wp2_with (first | fail | (with_reducible refine pr_load rfl _ rfl _ rfl hP hP_z ?_) | (with_reducible refine pr_load_g (by with_unfolding_all rfl) _ rfl _ rfl hP hP_z ?_) | (with_reducible refine num_load rfl _ rfl _ rfl _ hT rfl ?_) | (with_reducible refine num_load_g (by with_unfolding_all rfl) _ rfl _ rfl _ hT rfl ?_) | (with_reducible refine num_load rfl _ rfl _ rfl _ hZ rfl ?_) | (with_reducible refine num_load_g (by with_unfolding_all rfl) _ rfl _ rfl _ hZ rfl ?_))
  refine (KL.out _).mono ?_
  rintro e v6 ⟨rfl, hb6⟩
  replace hP := hP.on hb6
  replace hT := hT.on hb6
  replace hZ := hZ.on hb6
  replace c0 := hP.c0 e0
  replace c1 := hP.c1 e1
  replace c2 := hP.c2 e2
  replace hbel := hbel.trans (hb6.mono hbel.size)
  clear hb6
  go_upto_region 8 with (with_reducible refine num_store rfl _ _ rfl _ _ rfl rfl _ (Has.newz _) rfl ?_)
  generalize hw7 : World.setRow _ _ _ = v7
  have hb7 : Below v6.heap.size v6 v7 := by rw [← hw7]; exact below_setRow ((Below.refl _ _).alloc (Nat.le_refl _) _) (Nat.le_refl _) _
  have hL : Has v7 v6.heap.size (numC L) 26 := by rw [← hw7]; exact (Has.newz _).row _
  replace hP := hP.on hb7
  replace hT := hT.on hb7
  replace hZ := hZ.on hb7
  replace c0 := hP.c0 e0
  replace c1 := hP.c1 e1
  replace c2 := hP.c2 e2
  replace hbel := hbel.trans (hb7.mono hbel.size)
  clear hw7 hb7
  generalize v6.heap.size = b_hL at hL ⊢
  go_wp2_with (first | fail | (with_reducible refine pr_load rfl _ rfl _ rfl hP hP_z ?_) | (with_reducible refine pr_load_g (by with_unfolding_all rfl) _ rfl _ rfl hP hP_z ?_) | (with_reducible refine num_load rfl _ rfl _ rfl _ hT rfl ?_) | (with_reducible refine num_load_g (by with_unfolding_all rfl) _ rfl _ rfl _ hT rfl ?_) | (with_reducible refine num_load rfl _ rfl _ rfl _ hZ rfl ?_) | (with_reducible refine num_load_g (by with_unfolding_all rfl) _ rfl _ rfl _ hZ rfl ?_) | (with_reducible refine num_load rfl _ rfl _ rfl _ hL rfl ?_) | (with_reducible refine num_load_g (by with_unfolding_all rfl) _ rfl _ rfl _ hL rfl ?_))
  refine (KLess.out _).mono ?_
  rintro e v8 ⟨rfl, hb8⟩
  replace hP := hP.on hb8
  replace hT := hT.on hb8
  replace hZ := hZ.on hb8
  replace hL := hL.on hb8
  replace c0 := hP.c0 e0
  replace c1 := hP.c1 e1
  replace c2 := hP.c2 e2
  replace hbel := hbel.trans (hb8.mono hbel.size)
  clear hb8
  go_wp2_with (first | fail | (with_reducible refine pr_load rfl _ rfl _ rfl hP hP_z ?_) | (with_reducible refine pr_load_g (by with_unfolding_all rfl) _ rfl _ rfl hP hP_z ?_) | (with_reducible refine num_load rfl _ rfl _ rfl _ hT rfl ?_) | (with_reducible refine num_load_g (by with_unfolding_all rfl) _ rfl _ rfl _ hT rfl ?_) | (with_reducible refine num_load rfl _ rfl _ rfl _ hZ rfl ?_) | (with_reducible refine num_load_g (by with_unfolding_all rfl) _ rfl _ rfl _ hZ rfl ?_) | (with_reducible refine num_load rfl _ rfl _ rfl _ hL rfl ?_) | (with_reducible refine num_load_g (by with_unfolding_all rfl) _ rfl _ rfl _ hL rfl ?_))
  refine (KZ.out _).mono ?_
  rintro e v9 ⟨rfl, hb9⟩
  replace hP := hP.on hb9
  replace hT := hT.on hb9
  replace hZ := hZ.on hb9
  replace hL := hL.on hb9
  replace c0 := hP.c0 e0
  replace c1 := hP.c1 e1
  replace c2 := hP.c2 e2
  replace hbel := hbel.trans (hb9.mono hbel.size)
  clear hb9
  go_wp2_with (first | fail | (with_reducible refine pr_load rfl _ rfl _ rfl hP hP_z ?_) | (with_reducible refine pr_load_g (by with_unfolding_all rfl) _ rfl _ rfl hP hP_z ?_) | (with_reducible refine num_load rfl _ rfl _ rfl _ hT rfl ?_) | (with_reducible refine num_load_g (by with_unfolding_all rfl) _ rfl _ rfl _ hT rfl ?_) | (with_reducible refine num_load rfl _ rfl _ rfl _ hZ rfl ?_) | (with_reducible refine num_load_g (by with_unfolding_all rfl) _ rfl _ rfl _ hZ rfl ?_) | (with_reducible refine num_load rfl _ rfl _ rfl _ hL rfl ?_) | (with_reducible refine num_load_g (by with_unfolding_all rfl) _ rfl _ rfl _ hL rfl ?_))
  refine (KE.out _).mono ?_
  rintro e v10 ⟨rfl, hb10⟩
  replace hP := hP.on hb10
  replace hT := hT.on hb10
  replace hZ := hZ.on hb10
  replace hL := hL.on hb10
  replace c0 := hP.c0 e0
  replace c1 := hP.c1 e1
  replace c2 := hP.c2 e2
  replace hbel := hbel.trans (hb10.mono hbel.size)
  clear hb10
  go_wp2_with (first | fail | (with_reducible refine pr_load rfl _ rfl _ rfl hP hP_z ?_) | (with_reducible refine pr_load_g (by with_unfolding_all rfl) _ rfl _ rfl hP hP_z ?_) | (with_reducible refine num_load rfl _ rfl _ rfl _ hT rfl ?_) | (with_reducible refine num_load_g (by with_unfolding_all rfl) _ rfl _ rfl _ hT rfl ?_) | (with_reducible refine num_load rfl _ rfl _ rfl _ hZ rfl ?_) | (with_reducible refine num_load_g (by with_unfolding_all rfl) _ rfl _ rfl _ hZ rfl ?_) | (with_reducible refine num_load rfl _ rfl _ rfl _ hL rfl ?_) | (with_reducible refine num_load_g (by with_unfolding_all rfl) _ rfl _ rfl _ hL rfl ?_))
  go_ret
  exact ⟨rfl, hbel⟩
set_option maxRecDepth 100000 in
set_option maxHeartbeats 2000000 in
theorem ret_zero (p : Pr) (hz : (prA p).size = 83) (b fr to' lim ivl spc : Int) (e0 : Hid (p.lim = lim)) (e1 : Hid (p.ivl = ivl)) (e2 : Hid (p.spc = spc)) (t z L : Nat) (oL : Bool)
    (en : Int) (sn s4 s16 tk : Nat) (d mx : Int) (f1 : IntKind.i64.wrap (ivl * spc) = (sn : Int)) (f2 : IntKind.i64.wrap (to' - fr) = d) (f3 : (sn : Int) / 4 = (s4 : Int)) (f4 : IntKind.i64.wrap ((sn : Int) * 4) = (s16 : Int)) (f5 : IntKind.i64.wrap (s4 : Int) = (s4 : Int))
    (f6 : mx = max d (s4 : Int)) (f7 : (tk : Int) = min mx (s16 : Int)) (f8 : IntKind.u64.wrap (tk : Int) = (tk : Int)) (f9 : IntKind.u64.wrap (sn : Int) = (sn : Int))
    (KT : Hid (∀ w, Calls Try.prog 19 #[.int .i64 b, .int .i64 b] w fun e w' => e = .returned (.tuple #[.agg (numC t), .bool true]) ∧ Below w.heap.size w w'))
    (KG : Hid (∀ w, Calls Try.prog 17 #[.agg (prA p)] w fun e w' => e = .returned (.bool true) ∧ Below w.heap.size w w'))
    (KS : Hid (∀ w, Calls Try.prog 20 #[.agg (numC t), .int .u64 (tk : Int), .int .u64 (sn : Int)] w fun e w' => e = .returned (.tuple #[.agg (numC z), .bool false]) ∧ Below w.heap.size w w'))
    (KL : Hid (∀ w, Calls Try.prog 19 #[.int .i64 lim, .int .i64 lim] w fun e w' => e = .returned (.tuple #[.agg (numC L), .bool oL]) ∧ Below w.heap.size w w'))
    (KLess : Hid (∀ w, Calls Try.prog 21 #[.agg (numC L), .agg (numC z)] w fun e w' => e = .returned (.bool false) ∧ Below w.heap.size w w'))
    (KZ : Hid (∀ w, Calls Try.prog 22 #[.agg (numC z)] w fun e w' => e = .returned (.bool true) ∧ Below w.heap.size w w'))
    (KO : Hid (∀ w, Calls Try.prog 23 #[.int .u64 1] w fun e w' => e = .returned (.agg (numC 1)) ∧ Below w.heap.size w w'))
    (KE : Hid (∀ w, Calls Try.prog 24 #[.agg (numC 1)] w fun e w' => e = .returned (.int .i64 en) ∧ Below w.heap.size w w')) (w : World) :
    Calls Try.prog 11 #[.agg (prA p), .int .i64 b, .int .i64 fr, .int .i64 to'] w fun e w' => e = .returned (.int .i64 en) ∧ Below w.heap.size w w' := by
  have hP_z := hz
  go_enter Try.func11, Try.ntmps11
  go_upto_region 1 with fail
  generalize hw0 : World.alloc _ _ = v0
  have hbel : Below w.heap.size w v0 := by rw [← hw0]; exact (Below.refl _ _).alloc (by first | exact Nat.le_refl _ | (simp; done) | (simp; omega)) _
  have hP : PrAt v0 (w.heap.size) p := by rw [← hw0]; exact Has.new _ _
  clear hw0
  have c0 := hP.c0 e0
  have c1 := hP.c1 e1
  have c2 := hP.c2 e2
  go_wp2_with (first | fail | (with_reducible refine pr_load rfl _ rfl _ rfl hP hP_z ?_) | (with_reducible refine pr_load_g (by with_unfolding_all rfl) _ rfl _ rfl hP hP_z ?_))
  refine (KT.out _).mono ?_
  rintro e v1 ⟨rfl, hb1⟩
  replace hP := hP.on hb1
  replace c0 := hP.c0 e0
  replace c1 := hP.c1 e1
  replace c2 := hP.c2 e2
  replace hbel := hbel.trans (hb1.mono hbel.size)
  clear hb1
  go_upto_region 2 with (with_reducible refine num_store rfl _ _ rfl _ _ rfl rfl _ (Has.newz _) rfl ?_)
  generalize hw2 : World.setRow _ _ _ = v2
  have hb2 : Below v1.heap.size v1 v2 := by rw [← hw2]; exact below_setRow ((Below.refl _ _).alloc (Nat.le_refl _) _) (Nat.le_refl _) _
  have hT : Has v2 v1.heap.size (numC t) 26 := by rw [← hw2]; exact (Has.newz _).row _
  replace hP := hP.on hb2
  replace c0 := hP.c0 e0
  replace c1 := hP.c1 e1
  replace c2 := hP.c2 e2
  replace hbel := hbel.trans (hb2.mono hbel.size)
  clear hw2 hb2
  generalize v1.heap.size = b_hT at hT ⊢
  go_wp2_with (first | fail | (with_reducible refine pr_load rfl _ rfl _ rfl hP hP_z ?_) | (with_reducible refine pr_load_g (by with_unfolding_all rfl) _ rfl _ rfl hP hP_z ?_) | (with_reducible refine num_load rfl _ rfl _ rfl _ hT rfl ?_) | (with_reducible refine num_load_g (by with_unfolding_all rfl) _ rfl _ rfl _ hT rfl ?_))
  refine (KG.out _).mono ?_
  rintro e v3 ⟨rfl, hb3⟩
  replace hP := hP.on hb3
  replace hT := hT.on hb3
  replace c0 := hP.c0 e0
  replace c1 := hP.c1 e1
  replace c2 := hP.c2 e2
  replace hbel := hbel.trans (hb3.mono hbel.size)
  clear hb3
  have M1 := max_is (P := Try.prog) d (s4 : Int) mx f6
  have M2 := min_is (P := Try.prog) mx (s16 : Int) (tk : Int) f7
  clear f6 f7
  go_wp2_with (first | fail | (with_reducible refine pr_load rfl _ rfl _ rfl hP hP_z ?_) | (with_reducible refine pr_load_g (by with_unfolding_all rfl) _ rfl _ rfl hP hP_z ?_) | (with_reducible refine num_load rfl _ rfl _ rfl _ hT rfl ?_) | (with_reducible refine num_load_g (by with_unfolding_all rfl) _ rfl _ rfl _ hT rfl ?_))
  refine (KS.out _).mono ?_
  rintro e v4 ⟨rfl, hb4⟩
  replace hP := hP.on hb4
  replace hT := hT.on hb4
  replace c0 := hP.c0 e0
  replace c1 := hP.c1 e1
  replace c2 := hP.c2 e2
  replace hbel := hbel.trans (hb4.mono hbel.size)
  clear hb4
  have hbel0 := hbel
  go_upto_region 7 with (with_reducible refine num_store rfl _ _ rfl _ _ rfl rfl _ (Has.newz _) rfl ?_)
  generalize hw5 : World.setRow _ _ _ = v5
  have hb5 : Below v4.heap.size v4 v5 := by rw [← hw5]; exact below_setRow ((Below.refl _ _).alloc (Nat.le_refl _) _) (Nat.le_refl _) _
  have hZ : Has v5 v4.heap.size (numC z) 26 := by rw [← hw5]; exact (Has.newz _).row _
  replace hP := hP.on hb5
  replace hT := hT.on hb5
  replace c0 := hP.c0 e0
  replace c1 := hP.c1 e1
  replace c2 := hP.c2 e2
  replace hbel := hbel.trans (hb5.mono hbel.size)
  clear hw5 hb5
  have HZ : Hid (w.heap.size ≤ v4.heap.size) := Lib.hid hbel0.size
  clear hbel0
  generalize v4.heap.size = b_hZ at hZ HZ ⊢
  clear M1 M2
  go_wp2_with (first | fail | (with_reducible refine pr_load rfl _ rfl _ rfl hP hP_z ?_) | (with_reducible refine pr_load_g (by with_unfolding_all rfl) _ rfl _ rfl hP hP_z ?_) | (with_reducible refine num_load rfl _ rfl _ rfl _ hT rfl ?_) | (with_reducible refine num_load_g (by with_unfolding_all rfl) _ rfl _ rfl _ hT rfl ?_) | (with_reducible refine num_load rfl _ rfl _ rfl _ hZ rfl ?_) | (with_reducible refine num_load_g (by with_unfolding_all rfl) _ rfl _ rfl _ hZ rfl ?_))
  refine (KL.out _).mono ?_
  rintro e v6 ⟨rfl, hb6⟩
  replace hP := hP.on hb6
  replace hT := hT.on hb6
  replace hZ := hZ.on hb6
  replace c0 := hP.c0 e0
  replace c1 := hP.c1 e1
  replace c2 := hP.c2 e2
  replace hbel := hbel.trans (hb6.mono hbel.size)
  clear hb6
  go_upto_region 8 with (with_reducible refine num_store rfl _ _ rfl _ _ rfl rfl _ (Has.newz _) rfl ?_)
  generalize hw7 : World.setRow _ _ _ = v7
  have hb7 : Below v6.heap.size v6 v7 := by rw [← hw7]; exact below_setRow ((Below.refl _ _).alloc (Nat.le_refl _) _) (Nat.le_refl _) _
  have hL : Has v7 v6.heap.size (numC L) 26 := by rw [← hw7]; exact (Has.newz _).row _
  replace hP := hP.on hb7
  replace hT := hT.on hb7
  replace hZ := hZ.on hb7
  replace c0 := hP.c0 e0
  replace c1 := hP.c1 e1
  replace c2 := hP.c2 e2
  replace hbel := hbel.trans (hb7.mono hbel.size)
  clear hw7 hb7
  generalize v6.heap.size = b_hL at hL ⊢
  go_wp2_with (first | fail | (with_reducible refine pr_load rfl _ rfl _ rfl hP hP_z ?_) | (with_reducible refine pr_load_g (by with_unfolding_all rfl) _ rfl _ rfl hP hP_z ?_) | (with_reducible refine num_load rfl _ rfl _ rfl _ hT rfl ?_) | (with_reducible refine num_load_g (by with_unfolding_all rfl) _ rfl _ rfl _ hT rfl ?_) | (with_reducible refine num_load rfl _ rfl _ rfl _ hZ rfl ?_) | (with_reducible refine num_load_g (by with_unfolding_all rfl) _ rfl _ rfl _ hZ rfl ?_) | (with_reducible refine num_load rfl _ rfl _ rfl _ hL rfl ?_) | (with_reducible refine num_load_g (by with_unfolding_all rfl) _ rfl _ rfl _ hL rfl ?_))
  refine (KLess.out _).mono ?_
  rintro e v8 ⟨rfl, hb8⟩
  replace hP := hP.on hb8
  replace hT := hT.on hb8
  replace hZ := hZ.on hb8
  replace hL := hL.on hb8
  replace c0 := hP.c0 e0
  replace c1 := hP.c1 e1
  replace c2 := hP.c2 e2
  replace hbel := hbel.trans (hb8.mono hbel.size)
  clear hb8
  go_wp2_with (first | fail | (with_reducible refine pr_load rfl _ rfl _ rfl hP hP_z ?_) | (with_reducible refine pr_load_g (by with_unfolding_all rfl) _ rfl _ rfl hP hP_z ?_) | (with_reducible refine num_load rfl _ rfl _ rfl _ hT rfl ?_) | (with_reducible refine num_load_g (by with_unfolding_all rfl) _ rfl _ rfl _ hT rfl ?_) | (with_reducible refine num_load rfl _ rfl _ rfl _ hZ rfl ?_) | (with_reducible refine num_load_g (by with_unfolding_all rfl) _ rfl _ rfl _ hZ rfl ?_) | (with_reducible refine num_load rfl _ rfl _ rfl _ hL rfl ?_) | (with_reducible refine num_load_g (by with_unfolding_all rfl) _ rfl _ rfl _ hL rfl ?_))
  refine (KZ.out _).mono ?_
  rintro e v9 ⟨rfl, hb9⟩
  replace hP := hP.on hb9
  replace hT := hT.on hb9
  replace hZ := hZ.on hb9
  replace hL := hL.on hb9
  replace c0 := hP.c0 e0
  replace c1 := hP.c1 e1
  replace c2 := hP.c2 e2
  replace hbel := hbel.trans (hb9.mono hbel.size)
  clear hb9
  go_wp2_with (first | fail | (with_reducible refine pr_load rfl _ rfl _ rfl hP hP_z ?_) | (with_reducible refine pr_load_g (by with_unfolding_all rfl) _ rfl _ rfl hP hP_z ?_) | (with_reducible refine num_load rfl _ rfl _ rfl _ hT rfl ?_) | (with_reducible refine num_load_g (by with_unfolding_all rfl) _ rfl _ rfl _ hT rfl ?_) | (with_reducible refine num_load rfl _ rfl _ rfl _ hZ rfl ?_) | (with_reducible refine num_load_g (by with_unfolding_all rfl) _ rfl _ rfl _ hZ rfl ?_) | (with_reducible refine num_load rfl _ rfl _ rfl _ hL rfl ?_) | (with_reducible refine num_load_g (by with_unfolding_all rfl) _ rfl _ rfl _ hL rfl ?_))
  refine (KO.out _).mono ?_
  rintro e v10 ⟨rfl, hb10⟩
  replace hP := hP.on hb10
  replace hT := hT.on hb10
  replace hZ := hZ.on hb10
  replace hL := hL.on hb10
  replace c0 := hP.c0 e0
  replace c1 := hP.c1 e1
  replace c2 := hP.c2 e2
  replace hbel := hbel.trans (hb10.mono hbel.size)
  clear hb10
  go_upto_region 12 with (with_reducible refine num_store rfl _ _ rfl _ _ rfl rfl _ hZ rfl ?_)
  generalize hw : World.setRow _ _ _ = v_s
  replace hZ : Has v_s b_hZ (numC 1) 26 := by rw [← hw]; exact hZ.row _
  replace hbel : Below w.heap.size w v_s := by rw [← hw]; exact below_setRow hbel HZ.out _
  clear hw
  go_wp2_with (first | fail | (with_reducible refine num_load rfl _ rfl _ rfl _ hZ rfl ?_) | (with_reducible refine num_load_g (by with_unfolding_all rfl) _ rfl _ rfl _ hZ rfl ?_))
  refine (KE.out _).mono ?_
  rintro e v11 ⟨rfl, hb11⟩
  replace hZ := hZ.on hb11
  replace hbel := hbel.trans (hb11.mono hbel.size)
  clear hb11
  go_wp2_with fail
  go_ret
  exact ⟨rfl, hbel⟩
/-- what is set anew -/
def Pr.should (p : Pr) : Nat := (p.ivl * p.spc).toNat
def Pr.anew (p : Pr) (b d : Int) : Nat := Go.Proofs.Ytmemppkkchfphaa.anew (tg b b) p.should d
def rt (p : Pr) (b d : Int) : Int := if (tok b b && p.good) = true then (if tg p.lim p.lim < p.anew b d then p.lim else (Nm.enc (max 1 (p.anew b d)) : Nat)) else p.lim
theorem good_parts {p : Pr} (h : p.good = true) : tok p.lim p.lim = true ∧ 2 ≤ p.ivl ∧ p.ivl ≤ 64 ∧ 1 ≤ p.spc ∧ p.spc ≤ 10000 ∧ 0 ≤ p.fut ∧ p.fut < 4294967296 := by
  unfold Pr.good at h
  simp only [Bool.and_eq_true, decide_eq_true_eq] at h
  obtain ⟨⟨⟨⟨⟨⟨h0, h1⟩, h2⟩, h3⟩, h4⟩, h5⟩, h6⟩ := h
  exact ⟨h0, h1, h2, h3, h4, h5, h6⟩
theorem should_le {p : Pr} (h : p.good = true) : 0 < p.should ∧ p.should ≤ 640000 ∧ (p.should : Int) = p.ivl * p.spc := by
  obtain ⟨_, h1, h2, h3, h4, _, _⟩ := good_parts h
  obtain ⟨i, hi⟩ := Int.eq_ofNat_of_zero_le (show 0 ≤ p.ivl by omega)
  obtain ⟨s, hs⟩ := Int.eq_ofNat_of_zero_le (show 0 ≤ p.spc by omega)
  have e : p.should = i * s := by unfold Pr.should; rw [hi, hs, ← Int.natCast_mul, Int.toNat_natCast]
  have hp : 0 < i * s := Nat.mul_pos (by omega) (by omega)
  have hle : i * s ≤ 64 * 10000 := Nat.mul_le_mul (by omega) (by omega)
  rw [e, hi, hs, ← Int.natCast_mul]
  exact ⟨hp, by omega, rfl⟩
theorem retarget_at (p : Pr) (ho : p.ok) (b fr to' d : Int) (hd : IntKind.i64.wrap (to' - fr) = d) (w : World) :
    Calls Try.prog 11 #[.agg (prA p), .int .i64 b, .int .i64 fr, .int .i64 to'] w fun e w' => e = .returned (.int .i64 (rt p b d)) ∧ Below w.heap.size w w' := by
  have hz := prA_size ho
  have KT := fun w => tgt_at b b w
  by_cases h1 : tok b b = false
  · rw [h1] at KT
    have e : rt p b d = p.lim := by unfold rt; rw [h1]; rfl
    rw [e]
    exact ret_none p hz b fr to' _ (Lib.hid rfl) _ (Lib.hid KT) w
  rw [Bool.not_eq_false] at h1
  rw [h1] at KT
  have KG := fun w => pgood_at p w
  by_cases h2 : p.good = false
  · rw [h2] at KG
    have e : rt p b d = p.lim := by unfold rt; rw [h2, Bool.and_false]; rfl
    rw [e]
    exact ret_bad p hz b fr to' _ (Lib.hid rfl) _ (Lib.hid KT) (Lib.hid KG) w
  rw [Bool.not_eq_false] at h2
  rw [h2] at KG
  obtain ⟨s0, s1, s2⟩ := should_le h2
  have e : rt p b d = if tg p.lim p.lim < p.anew b d then p.lim else (Nm.enc (max 1 (p.anew b d)) : Nat) := by unfold rt; rw [h1, h2]; rfl
  rw [e]
  have ha : p.anew b d = tg b b * tk p.should d / p.should := rfl
  obtain ⟨sn, hsn⟩ : ∃ sn, sn = p.should := ⟨_, rfl⟩
  rw [← hsn] at s0 s1 s2 ha
  have htk := tk_le sn d
  have hti := tk_int sn d
  have KS := fun w => scaled_at (tg b b) (tk sn d) sn (tg_lt b b) (by omega) (by omega) (by omega) w
  rw [← ha] at KS
  have KL := fun w => tgt_at p.lim p.lim w
  have hL := tg_lt p.lim p.lim
  have f1 : IntKind.i64.wrap (p.ivl * p.spc) = (sn : Int) := by rw [← s2, IntKind.wrap_i64]; omega
  have f4 : IntKind.i64.wrap ((sn : Int) * 4) = ((sn * 4 : Nat) : Int) := by rw [IntKind.wrap_i64]; omega
  have f5 : IntKind.i64.wrap ((sn / 4 : Nat) : Int) = ((sn / 4 : Nat) : Int) := by rw [IntKind.wrap_i64]; omega
  have f3 : (sn : Int) / 4 = ((sn / 4 : Nat) : Int) := by omega
  have f8 : IntKind.u64.wrap (tk sn d : Int) = (tk sn d : Int) := by rw [IntKind.wrap_u64]; omega
  have f9 : IntKind.u64.wrap (sn : Int) = (sn : Int) := by rw [IntKind.wrap_u64]; omega
  generalize p.anew b d = q at *
  by_cases h3 : Nm.big ≤ q
  · rw [decide_eq_true h3] at KS
    rw [if_pos (by omega)]
    exact ret_above p hz b fr to' _ _ _ (Lib.hid rfl) (Lib.hid rfl) (Lib.hid rfl) _ _ _ _ sn _ _ _ d _ f1 hd f3 f4 f5 rfl hti f8 f9 (Lib.hid KT) (Lib.hid KG) (Lib.hid KS) (Lib.hid KL) w
  rw [decide_eq_false h3, Nat.mod_eq_of_lt (by omega)] at KS
  by_cases h4 : tg p.lim p.lim < q
  · rw [if_pos h4]
    exact ret_less p hz b fr to' _ _ _ (Lib.hid rfl) (Lib.hid rfl) (Lib.hid rfl) _ _ _ _ sn _ _ _ d _ f1 hd f3 f4 f5 rfl hti f8 f9 (Lib.hid KT) (Lib.hid KG) (Lib.hid KS) (Lib.hid KL) (Lib.hid (less_is _ _ hL (by omega) true (decide_eq_true h4))) w
  rw [if_neg h4]
  have KLess := less_is _ q hL (by omega) false (decide_eq_false h4)
  by_cases h5 : q = 0
  · subst h5
    exact ret_zero p hz b fr to' _ _ _ (Lib.hid rfl) (Lib.hid rfl) (Lib.hid rfl) _ _ _ _ _ sn _ _ _ d _ f1 hd f3 f4 f5 rfl hti f8 f9 (Lib.hid KT) (Lib.hid KG) (Lib.hid KS) (Lib.hid KL) (Lib.hid KLess) (Lib.hid (zero_is _ (by decide) true rfl)) (Lib.hid (of 1 (by decide))) (Lib.hid (encode 1 (by decide))) w
  · rw [show max 1 q = q by omega]
    exact ret_in p hz b fr to' _ _ _ (Lib.hid rfl) (Lib.hid rfl) (Lib.hid rfl) _ _ _ _ _ sn _ _ _ d _ f1 hd f3 f4 f5 rfl hti f8 f9 (Lib.hid KT) (Lib.hid KG) (Lib.hid KS) (Lib.hid KL) (Lib.hid KLess) (Lib.hid (zero_is _ (by omega) false (decide_eq_false h5))) (Lib.hid (encode q (by omega))) w
end Go.Proofs.Ytmemppkkchfphaa
