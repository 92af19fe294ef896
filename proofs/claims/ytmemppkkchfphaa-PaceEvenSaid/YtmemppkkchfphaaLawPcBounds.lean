/-
  PaceBounds: the walk.
-/
import Derived.Test.YtmemppkkchfphaaPcAlive
import Derived.Test.YtmemppkkchfphaaLawPcSlower
import Derived.Test.YtmemppkkchfphaaRefMove
import Derived.Test.YtmemppkkchfphaaRefMoveD
namespace Go.Proofs.Ytmemppkkchfphaa
open Go.RowKit Rg2
theorem up_eq2 (x : Nat) : Nm.up x 2 = 4 * x % Nm.big := by unfold Nm.up; rw [Nat.shiftLeft_eq, Nat.mul_comm]
theorem down_eq2 (x : Nat) : Nm.down x 2 = x / 4 := by unfold Nm.down; rw [Nat.shiftRight_eq_div_pow]
theorem up_two {x : Nat} (h : 4 * x < Nm.big) : Nm.up x 2 = 4 * x := by rw [up_eq2, Nat.mod_eq_of_lt h]
theorem back_two {x : Nat} (h : 4 * x < Nm.big) : Nm.down (Nm.up x 2) 2 = x := by rw [up_two h, down_eq2]; omega
theorem back_lost {x : Nat} (h : ¬ 4 * x < Nm.big) : Nm.down (Nm.up x 2) 2 ≠ x := by
  rw [up_eq2, down_eq2]
  have : 4 * x % Nm.big < Nm.big := Nat.mod_lt _ (by decide)
  omega
set_option maxRecDepth 100000 in
set_option maxHeartbeats 2000000 in
theorem bou_none (p : Pr) (hz : (prA p).size = 83) (bi z2 z3 lim : Int) (e0 : Hid (p.lim = lim)) (o : Nat) (KT : Hid (∀ w, Calls Try.prog 10 #[.int .i64 bi, .int .i64 lim] w fun e w' => e = .returned (.tuple #[.agg (numC o), .bool false]) ∧ Below w.heap.size w w'))
     (w : World) :
    Calls Try.prog 5 #[.agg (prA p), .int .i64 bi, .int .i64 z2, .int .i64 z3] w fun e w' => e = .returned (.bool true) ∧ Below w.heap.size w w' := by
  have KA := Lib.hid alive10
  have hP_z := hz
  go_enter Try.func5, Try.ntmps5
  go_upto_region 1 with fail
  generalize hw0 : World.alloc _ _ = v0
  have hbel : Below w.heap.size w v0 := by rw [← hw0]; exact (Below.refl _ _).alloc (by first | exact Nat.le_refl _ | (simp; done) | (simp; omega)) _
  have hP : PrAt v0 (w.heap.size) p := by rw [← hw0]; exact Has.new _ _
  clear hw0
  have c0 := hP.c0 e0
  go_wp2_with (first | fail | (with_reducible refine pr_load rfl _ rfl _ rfl hP hP_z ?_) | (with_reducible refine pr_load_g (by with_unfolding_all rfl) _ rfl _ rfl hP hP_z ?_))
  refine (KA.out _).mono ?_
  rintro e v1 ⟨rfl, hb1⟩
  replace hP := hP.on hb1
  replace c0 := hP.c0 e0
  replace hbel := hbel.trans (hb1.mono hbel.size)
  clear hb1
  go_wp2_with (first | fail | (with_reducible refine pr_load rfl _ rfl _ rfl hP hP_z ?_) | (with_reducible refine pr_load_g (by with_unfolding_all rfl) _ rfl _ rfl hP hP_z ?_))
  refine (KT.out _).mono ?_
  rintro e v2 ⟨rfl, hb2⟩
  replace hP := hP.on hb2
  replace c0 := hP.c0 e0
  replace hbel := hbel.trans (hb2.mono hbel.size)
  clear hb2
  go_upto_region 4 with (with_reducible refine num_store rfl _ _ rfl _ _ rfl rfl _ (Has.newz _) rfl ?_)
  generalize hw3 : World.setRow _ _ _ = v3
  have hb3 : Below v2.heap.size v2 v3 := by rw [← hw3]; exact below_setRow ((Below.refl _ _).alloc (Nat.le_refl _) _) (Nat.le_refl _) _
  have hO : Has v3 v2.heap.size (numC o) 26 := by rw [← hw3]; exact (Has.newz _).row _
  replace hP := hP.on hb3
  replace c0 := hP.c0 e0
  replace hbel := hbel.trans (hb3.mono hbel.size)
  clear hw3 hb3
  generalize v2.heap.size = b_hO at hO ⊢
  refine wp_region_quiet_below (by kernel_rfl) (by kernel_rfl) ?_
  repeat (first
    | (go_big_quiet_want; (with_reducible refine quiet_load_pr _ rfl _ rfl hP_z hP.cls ?_); (simp only [Act.put, List.setIfInBounds_toArray, List.set_cons_zero, List.set_cons_succ]); go_big_quiet_on)
    | (go_big_quiet_want; (with_reducible refine quiet_load_num _ rfl _ rfl _ hO.cls ?_); (simp only [Act.put, List.setIfInBounds_toArray, List.set_cons_zero, List.set_cons_succ]); go_big_quiet_on)
    | go_big_quiet_step (fail))
  refine wpQuiet_nil ?_
  intro v4 hw'
  obtain ⟨rg, hw''⟩ := hw'
  have hb4 : Below v3.heap.size v3 v4 := by rw [hw'']; exact below_regrown v3 rg.d rg.os
  clear hw''
  replace hP := hP.on hb4
  replace hO := hO.on hb4
  replace c0 := hP.c0 e0
  replace hbel := hbel.trans (hb4.mono hbel.size)
  clear hb4
  go_wp2_with (first | fail | (with_reducible refine pr_load rfl _ rfl _ rfl hP hP_z ?_) | (with_reducible refine pr_load_g (by with_unfolding_all rfl) _ rfl _ rfl hP hP_z ?_) | (with_reducible refine num_load rfl _ rfl _ rfl _ hO rfl ?_) | (with_reducible refine num_load_g (by with_unfolding_all rfl) _ rfl _ rfl _ hO rfl ?_))
  go_ret
  exact ⟨rfl, hbel⟩
set_option maxRecDepth 100000 in
set_option maxHeartbeats 2000000 in
theorem bou_bad (p : Pr) (hz : (prA p).size = 83) (bi z2 z3 lim : Int) (e0 : Hid (p.lim = lim)) (o : Nat) (KT : Hid (∀ w, Calls Try.prog 10 #[.int .i64 bi, .int .i64 lim] w fun e w' => e = .returned (.tuple #[.agg (numC o), .bool true]) ∧ Below w.heap.size w w'))
    (KG : Hid (∀ w, Calls Try.prog 9 #[.agg (prA p)] w fun e w' => e = .returned (.bool false) ∧ Below w.heap.size w w'))
     (w : World) :
    Calls Try.prog 5 #[.agg (prA p), .int .i64 bi, .int .i64 z2, .int .i64 z3] w fun e w' => e = .returned (.bool true) ∧ Below w.heap.size w w' := by
  have KA := Lib.hid alive10
  have hP_z := hz
  go_enter Try.func5, Try.ntmps5
  go_upto_region 1 with fail
  generalize hw0 : World.alloc _ _ = v0
  have hbel : Below w.heap.size w v0 := by rw [← hw0]; exact (Below.refl _ _).alloc (by first | exact Nat.le_refl _ | (simp; done) | (simp; omega)) _
  have hP : PrAt v0 (w.heap.size) p := by rw [← hw0]; exact Has.new _ _
  clear hw0
  have c0 := hP.c0 e0
  go_wp2_with (first | fail | (with_reducible refine pr_load rfl _ rfl _ rfl hP hP_z ?_) | (with_reducible refine pr_load_g (by with_unfolding_all rfl) _ rfl _ rfl hP hP_z ?_))
  refine (KA.out _).mono ?_
  rintro e v1 ⟨rfl, hb1⟩
  replace hP := hP.on hb1
  replace c0 := hP.c0 e0
  replace hbel := hbel.trans (hb1.mono hbel.size)
  clear hb1
  go_wp2_with (first | fail | (with_reducible refine pr_load rfl _ rfl _ rfl hP hP_z ?_) | (with_reducible refine pr_load_g (by with_unfolding_all rfl) _ rfl _ rfl hP hP_z ?_))
  refine (KT.out _).mono ?_
  rintro e v2 ⟨rfl, hb2⟩
  replace hP := hP.on hb2
  replace c0 := hP.c0 e0
  replace hbel := hbel.trans (hb2.mono hbel.size)
  clear hb2
  go_upto_region 4 with (with_reducible refine num_store rfl _ _ rfl _ _ rfl rfl _ (Has.newz _) rfl ?_)
  generalize hw3 : World.setRow _ _ _ = v3
  have hb3 : Below v2.heap.size v2 v3 := by rw [← hw3]; exact below_setRow ((Below.refl _ _).alloc (Nat.le_refl _) _) (Nat.le_refl _) _
  have hO : Has v3 v2.heap.size (numC o) 26 := by rw [← hw3]; exact (Has.newz _).row _
  replace hP := hP.on hb3
  replace c0 := hP.c0 e0
  replace hbel := hbel.trans (hb3.mono hbel.size)
  clear hw3 hb3
  generalize v2.heap.size = b_hO at hO ⊢
  refine wp_region_quiet_below (by kernel_rfl) (by kernel_rfl) ?_
  repeat (first
    | (go_big_quiet_want; (with_reducible refine quiet_load_pr _ rfl _ rfl hP_z hP.cls ?_); (simp only [Act.put, List.setIfInBounds_toArray, List.set_cons_zero, List.set_cons_succ]); go_big_quiet_on)
    | (go_big_quiet_want; (with_reducible refine quiet_load_num _ rfl _ rfl _ hO.cls ?_); (simp only [Act.put, List.setIfInBounds_toArray, List.set_cons_zero, List.set_cons_succ]); go_big_quiet_on)
    | go_big_quiet_step ((go_at_call 9; exact Calls.regrown_of (KG.out _))))
  refine wpQuiet_nil ?_
  intro v4 hw'
  obtain ⟨rg, hw''⟩ := hw'
  have hb4 : Below v3.heap.size v3 v4 := by rw [hw'']; exact below_regrown v3 rg.d rg.os
  clear hw''
  replace hP := hP.on hb4
  replace hO := hO.on hb4
  replace c0 := hP.c0 e0
  replace hbel := hbel.trans (hb4.mono hbel.size)
  clear hb4
  go_wp2_with (first | fail | (with_reducible refine pr_load rfl _ rfl _ rfl hP hP_z ?_) | (with_reducible refine pr_load_g (by with_unfolding_all rfl) _ rfl _ rfl hP hP_z ?_) | (with_reducible refine num_load rfl _ rfl _ rfl _ hO rfl ?_) | (with_reducible refine num_load_g (by with_unfolding_all rfl) _ rfl _ rfl _ hO rfl ?_))
  go_ret
  exact ⟨rfl, hbel⟩
set_option maxRecDepth 100000 in
set_option maxHeartbeats 2000000 in
theorem bou_lost (p : Pr) (hz : (prA p).size = 83) (bi z2 z3 lim : Int) (e0 : Hid (p.lim = lim)) (o : Nat) (m4 m1 : Nat) (KT : Hid (∀ w, Calls Try.prog 10 #[.int .i64 bi, .int .i64 lim] w fun e w' => e = .returned (.tuple #[.agg (numC o), .bool true]) ∧ Below w.heap.size w w'))
    (KG : Hid (∀ w, Calls Try.prog 9 #[.agg (prA p)] w fun e w' => e = .returned (.bool true) ∧ Below w.heap.size w w'))
    (KM : Hid (∀ w, Calls Try.prog 14 #[.agg (numC o), .int .i64 2] w fun e w' => e = .returned (.agg (numC m4)) ∧ Below w.heap.size w w')) (KM2 : Hid (∀ w, Calls Try.prog 14 #[.agg (numC m4), .int .i64 (-2)] w fun e w' => e = .returned (.agg (numC m1)) ∧ Below w.heap.size w w'))
    (HQ : Hid (∀ w, (binOp .neq 26 (.agg (numC m1)) (.agg (numC o))).run Try.prog w = .ok (.bool true) w)) (w : World) :
    Calls Try.prog 5 #[.agg (prA p), .int .i64 bi, .int .i64 z2, .int .i64 z3] w fun e w' => e = .returned (.bool true) ∧ Below w.heap.size w w' := by
  have KA := Lib.hid alive10
  have hP_z := hz
  go_enter Try.func5, Try.ntmps5
  go_upto_region 1 with fail
  generalize hw0 : World.alloc _ _ = v0
  have hbel : Below w.heap.size w v0 := by rw [← hw0]; exact (Below.refl _ _).alloc (by first | exact Nat.le_refl _ | (simp; done) | (simp; omega)) _
  have hP : PrAt v0 (w.heap.size) p := by rw [← hw0]; exact Has.new _ _
  clear hw0
  have c0 := hP.c0 e0
  go_wp2_with (first | fail | (with_reducible refine pr_load rfl _ rfl _ rfl hP hP_z ?_) | (with_reducible refine pr_load_g (by with_unfolding_all rfl) _ rfl _ rfl hP hP_z ?_))
  refine (KA.out _).mono ?_
  rintro e v1 ⟨rfl, hb1⟩
  replace hP := hP.on hb1
  replace c0 := hP.c0 e0
  replace hbel := hbel.trans (hb1.mono hbel.size)
  clear hb1
  go_wp2_with (first | fail | (with_reducible refine pr_load rfl _ rfl _ rfl hP hP_z ?_) | (with_reducible refine pr_load_g (by with_unfolding_all rfl) _ rfl _ rfl hP hP_z ?_))
  refine (KT.out _).mono ?_
  rintro e v2 ⟨rfl, hb2⟩
  replace hP := hP.on hb2
  replace c0 := hP.c0 e0
  replace hbel := hbel.trans (hb2.mono hbel.size)
  clear hb2
  go_upto_region 4 with (with_reducible refine num_store rfl _ _ rfl _ _ rfl rfl _ (Has.newz _) rfl ?_)
  generalize hw3 : World.setRow _ _ _ = v3
  have hb3 : Below v2.heap.size v2 v3 := by rw [← hw3]; exact below_setRow ((Below.refl _ _).alloc (Nat.le_refl _) _) (Nat.le_refl _) _
  have hO : Has v3 v2.heap.size (numC o) 26 := by rw [← hw3]; exact (Has.newz _).row _
  replace hP := hP.on hb3
  replace c0 := hP.c0 e0
  replace hbel := hbel.trans (hb3.mono hbel.size)
  clear hw3 hb3
  generalize v2.heap.size = b_hO at hO ⊢
  have hq := HQ.out
  refine wp_region_quiet_below (by kernel_rfl) (by kernel_rfl) ?_
  repeat (first
    | (go_big_quiet_want; (with_reducible refine quiet_load_pr _ rfl _ rfl hP_z hP.cls ?_); (simp only [Act.put, List.setIfInBounds_toArray, List.set_cons_zero, List.set_cons_succ]); go_big_quiet_on)
    | (go_big_quiet_want; (with_reducible refine quiet_load_num _ rfl _ rfl _ hO.cls ?_); (simp only [Act.put, List.setIfInBounds_toArray, List.set_cons_zero, List.set_cons_succ]); go_big_quiet_on)
    | go_big_quiet_step (first | (go_at_call 9; exact Calls.regrown_of (KG.out _)) | (go_at_call 14; first | (with_reducible exact Calls.regrown_of (KM.out _)) | (with_reducible exact Calls.regrown_of (KM2.out _)))))
  refine wpQuiet_nil ?_
  intro v4 hw'
  obtain ⟨rg, hw''⟩ := hw'
  have hb4 : Below v3.heap.size v3 v4 := by rw [hw'']; exact below_regrown v3 rg.d rg.os
  clear hw''
  replace hP := hP.on hb4
  replace hO := hO.on hb4
  replace c0 := hP.c0 e0
  replace hbel := hbel.trans (hb4.mono hbel.size)
  clear hb4
  clear hq
  go_wp2_with (first | fail | (with_reducible refine pr_load rfl _ rfl _ rfl hP hP_z ?_) | (with_reducible refine pr_load_g (by with_unfolding_all rfl) _ rfl _ rfl hP hP_z ?_) | (with_reducible refine num_load rfl _ rfl _ rfl _ hO rfl ?_) | (with_reducible refine num_load_g (by with_unfolding_all rfl) _ rfl _ rfl _ hO rfl ?_))
  go_ret
  exact ⟨rfl, hbel⟩
def bouTab (p : Pr) (bi z2 z3 rx lim : Int) (x : Nat) (ok : Bool) (B : Nat) : Nat → Slot
  | 0 => .val (.agg (prA p))
  | 1 => .val (.int .i64 bi)
  | 2 => .val (.int .i64 z2)
  | 3 => .val (.int .i64 z3)
  | 4 => .val (.int .i64 rx)
  | 5 => .val (.pointer (some ⟨B, 0, none⟩))
  | 6 => .val (.int .i64 lim)
  | 7 => .val (.tuple #[.agg (numC x), .bool ok])
  | 8 => .val (.tuple #[.agg (numC x), .bool ok])
  | 9 => .val (.agg (numC x))
  | 10 => .val (.bool ok)
  | 11 => .ptr
  | 13 => .val (.bool ok)
  | _ => .any
set_option maxRecDepth 100000 in
set_option maxHeartbeats 2000000 in
theorem bou_in (p : Pr) (hz : (prA p).size = 83) (bi z2 z3 lim : Int) (e0 : Hid (p.lim = lim)) (o : Nat) (m4 m1 x : Nat) (KRv : Int) (KT : Hid (∀ w, Calls Try.prog 10 #[.int .i64 bi, .int .i64 lim] w fun e w' => e = .returned (.tuple #[.agg (numC o), .bool true]) ∧ Below w.heap.size w w'))
    (KG : Hid (∀ w, Calls Try.prog 9 #[.agg (prA p)] w fun e w' => e = .returned (.bool true) ∧ Below w.heap.size w w'))
    (KM : Hid (∀ w, Calls Try.prog 14 #[.agg (numC o), .int .i64 2] w fun e w' => e = .returned (.agg (numC m4)) ∧ Below w.heap.size w w')) (KM2 : Hid (∀ w, Calls Try.prog 14 #[.agg (numC m4), .int .i64 (-2)] w fun e w' => e = .returned (.agg (numC m1)) ∧ Below w.heap.size w w'))
    (HQ : Hid (∀ w, (binOp .neq 26 (.agg (numC m1)) (.agg (numC o))).run Try.prog w = .ok (.bool false) w))
    (KR : Hid (∀ w, Calls Try.prog 11 #[.agg (prA p), .int .i64 bi, .int .i64 z2, .int .i64 z3] w fun e w' => e = .returned (.int .i64 KRv) ∧ Below w.heap.size w w')) (KX : Hid (∀ w, Calls Try.prog 10 #[.int .i64 KRv, .int .i64 lim] w fun e w' => e = .returned (.tuple #[.agg (numC x), .bool true]) ∧ Below w.heap.size w w'))
    (KL : Hid (∀ w, Calls Try.prog 12 #[.agg (numC m4), .agg (numC x)] w fun e w' => e = .returned (.bool false) ∧ Below w.heap.size w w')) (w : World) :
    Calls Try.prog 5 #[.agg (prA p), .int .i64 bi, .int .i64 z2, .int .i64 z3] w fun e w' => e = .returned (.bool true) ∧ Below w.heap.size w w' := by
  have KA := Lib.hid alive10
  have hP_z := hz
  go_enter Try.func5, Try.ntmps5
  go_upto_region 1 with fail
  generalize hw0 : World.alloc _ _ = v0
  have hbel : Below w.heap.size w v0 := by rw [← hw0]; exact (Below.refl _ _).alloc (by first | exact Nat.le_refl _ | (simp; done) | (simp; omega)) _
  have hP : PrAt v0 (w.heap.size) p := by rw [← hw0]; exact Has.new _ _
  clear hw0
  have c0 := hP.c0 e0
  go_wp2_with (first | fail | (with_reducible refine pr_load rfl _ rfl _ rfl hP hP_z ?_) | (with_reducible refine pr_load_g (by with_unfolding_all rfl) _ rfl _ rfl hP hP_z ?_))
  refine (KA.out _).mono ?_
  rintro e v1 ⟨rfl, hb1⟩
  replace hP := hP.on hb1
  replace c0 := hP.c0 e0
  replace hbel := hbel.trans (hb1.mono hbel.size)
  clear hb1
  go_wp2_with (first | fail | (with_reducible refine pr_load rfl _ rfl _ rfl hP hP_z ?_) | (with_reducible refine pr_load_g (by with_unfolding_all rfl) _ rfl _ rfl hP hP_z ?_))
  refine (KT.out _).mono ?_
  rintro e v2 ⟨rfl, hb2⟩
  replace hP := hP.on hb2
  replace c0 := hP.c0 e0
  replace hbel := hbel.trans (hb2.mono hbel.size)
  clear hb2
  go_upto_region 4 with (with_reducible refine num_store rfl _ _ rfl _ _ rfl rfl _ (Has.newz _) rfl ?_)
  generalize hw3 : World.setRow _ _ _ = v3
  have hb3 : Below v2.heap.size v2 v3 := by rw [← hw3]; exact below_setRow ((Below.refl _ _).alloc (Nat.le_refl _) _) (Nat.le_refl _) _
  have hO : Has v3 v2.heap.size (numC o) 26 := by rw [← hw3]; exact (Has.newz _).row _
  replace hP := hP.on hb3
  replace c0 := hP.c0 e0
  replace hbel := hbel.trans (hb3.mono hbel.size)
  clear hw3 hb3
  generalize v2.heap.size = b_hO at hO ⊢
  have hq := HQ.out
  refine wp_region_quiet_below (by kernel_rfl) (by kernel_rfl) ?_
  repeat (first
    | (go_big_quiet_want; (with_reducible refine quiet_load_pr _ rfl _ rfl hP_z hP.cls ?_); (simp only [Act.put, List.setIfInBounds_toArray, List.set_cons_zero, List.set_cons_succ]); go_big_quiet_on)
    | (go_big_quiet_want; (with_reducible refine quiet_load_num _ rfl _ rfl _ hO.cls ?_); (simp only [Act.put, List.setIfInBounds_toArray, List.set_cons_zero, List.set_cons_succ]); go_big_quiet_on)
    | go_big_quiet_step (first | (go_at_call 9; exact Calls.regrown_of (KG.out _)) | (go_at_call 14; first | (with_reducible exact Calls.regrown_of (KM.out _)) | (with_reducible exact Calls.regrown_of (KM2.out _)))))
  refine wpQuiet_nil ?_
  intro v4 hw'
  obtain ⟨rg, hw''⟩ := hw'
  have hb4 : Below v3.heap.size v3 v4 := by rw [hw'']; exact below_regrown v3 rg.d rg.os
  clear hw''
  replace hP := hP.on hb4
  replace hO := hO.on hb4
  replace c0 := hP.c0 e0
  replace hbel := hbel.trans (hb4.mono hbel.size)
  clear hb4
  clear hq
  clear c0
  go_wp2_with fail
  refine Rg2.wp_region_inv (by kernel_rfl) (fun w' => Below v4.heap.size v4 w') (fun i v' w' => (bouTab p bi z2 z3 KRv lim x true w.heap.size i).holds v4.heap.size v' w') (fun l a w' => Done 12 11 v4.heap.size x l a w') (NumStep v4.heap.size) (fun _ _ => NumStep.refl _ _) (fun _ _ _ _ _ hs h => Slot.stays _ _ _ _ hs h) (by kernel_rfl) (Below.refl _ _).drew ?_ ?_ ?_
  · exact fun l hl => fun hk => (by rw [hl] at hk; cases hk)
  · intro i o listed a wx ho hn hdep hinv
    have hC := hinv.c
    have hI := hinv.i
    have hi : i < 14 := (Array.getElem?_eq_some_iff.1 ho).1
    obtain rfl | rfl | rfl | rfl | rfl | rfl | rfl | rfl | rfl | rfl | rfl | rfl | rfl | rfl : i = 0 ∨ i = 1 ∨ i = 2 ∨ i = 3 ∨ i = 4 ∨ i = 5 ∨ i = 6 ∨ i = 7 ∨ i = 8 ∨ i = 9 ∨ i = 10 ∨ i = 11 ∨ i = 12 ∨ i = 13 := by omega
    all_goals obtain rfl := Option.some.inj ho
    · exact duty_value ((fun _ _ => NumStep.refl _ _)) hC (wanted_free rfl) (ex_load_pr rfl (hinv.old' 4 (by kernel_rfl)) (hP.on hC) hP_z) rfl (Done.pre (hinv.aheadT 8 (by kernel_rfl) hn (by decide) (by decide)))
    · exact duty_value ((fun _ _ => NumStep.refl _ _)) hC (wanted_free rfl) (ex_move rfl) (hinv.old' 1 (by kernel_rfl)) (Done.pre (hinv.aheadT 8 (by kernel_rfl) hn (by decide) (by decide)))
    · exact duty_value ((fun _ _ => NumStep.refl _ _)) hC (wanted_free rfl) (ex_move rfl) (hinv.old' 2 (by kernel_rfl)) (Done.pre (hinv.aheadT 8 (by kernel_rfl) hn (by decide) (by decide)))
    · exact duty_value ((fun _ _ => NumStep.refl _ _)) hC (wanted_free rfl) (ex_move rfl) (hinv.old' 3 (by kernel_rfl)) (Done.pre (hinv.aheadT 8 (by kernel_rfl) hn (by decide) (by decide)))
    · have e37 := hinv.got 0 _ 37 rfl (hdep ⟨0, .data⟩ (by simp) rfl) rfl; have e38 := hinv.got 1 _ 38 rfl (hdep ⟨1, .data⟩ (by simp) rfl) rfl; have e39 := hinv.got 2 _ 39 rfl (hdep ⟨2, .data⟩ (by simp) rfl) rfl; have e40 := hinv.got 3 _ 40 rfl (hdep ⟨3, .data⟩ (by simp) rfl) rfl
      exact duty_call (wanted_free rfl) (f := 11) (args := #[a.eval (.tmp 37), a.eval (.tmp 38), a.eval (.tmp 39), a.eval (.tmp 40)]) (by kernel_rfl) (by rw [show a.eval (.tmp 37) = _ from e37]; rw [show a.eval (.tmp 38) = _ from e38]; rw [show a.eval (.tmp 39) = _ from e39]; rw [show a.eval (.tmp 40) = _ from e40];  exact KR.out wx) (fun w' hb => ⟨hC.trans (hb.mono hC.size), NumStep.below hb, rfl, Done.pre (hinv.aheadT 8 (by kernel_rfl) hn (by decide) (by decide))⟩)
    · exact duty_value ((fun _ _ => NumStep.refl _ _)) hC (wanted_free rfl) (ex_field0 rfl (hinv.old' 4 (by kernel_rfl))) rfl (Done.pre (hinv.aheadT 8 (by kernel_rfl) hn (by decide) (by decide)))
    · exact duty_value ((fun _ _ => NumStep.refl _ _)) hC (wanted_free rfl) (ex_load_int rfl (hinv.got 5 _ 42 rfl (hdep ⟨5, .data⟩ (by simp) rfl) rfl) ((hP.on hC).c0 e0)) rfl (Done.pre (hinv.aheadT 8 (by kernel_rfl) hn (by decide) (by decide)))
    · have e41 := hinv.got 4 _ 41 rfl (hdep ⟨4, .data⟩ (by simp) rfl) rfl; have e43 := hinv.got 6 _ 43 rfl (hdep ⟨6, .data⟩ (by simp) rfl) rfl
      exact duty_call (wanted_free rfl) (f := 10) (args := #[a.eval (.tmp 41), a.eval (.tmp 43)]) (by kernel_rfl) (by rw [show a.eval (.tmp 41) = _ from e41]; rw [show a.eval (.tmp 43) = _ from e43];  exact KX.out wx) (fun w' hb => ⟨hC.trans (hb.mono hC.size), NumStep.below hb, rfl, Done.pre (hinv.aheadT 8 (by kernel_rfl) hn (by decide) (by decide))⟩)
    · exact duty_value ((fun _ _ => NumStep.refl _ _)) hC (wanted_free rfl) (ex_move rfl) (hinv.got 7 _ 44 rfl (hdep ⟨7, .data⟩ (by simp) rfl) rfl) (Done.pre (hinv.aheadT 8 (by kernel_rfl) hn (by decide) (by decide)))
    · exact duty_value ((fun _ _ => NumStep.refl _ _)) hC (wanted_free rfl) (ex_extract rfl (hinv.got 8 _ 36 rfl (hdep ⟨8, .data⟩ (by simp) rfl) rfl) rfl) rfl (Done.pre (hinv.aheadT 8 (by kernel_rfl) hn (by decide) (by decide)))
    · exact duty_value ((fun _ _ => NumStep.refl _ _)) hC (wanted_free rfl) (ex_extract rfl (hinv.got 8 _ 36 rfl (hdep ⟨8, .data⟩ (by simp) rfl) rfl) rfl) rfl (Done.keep hI (by rw [hinv.size]; decide) (by decide) (by decide) (fun _ h => h))
    · have hbel' : Below wx.heap.size wx (wx.alloc (.cells (numC 0) 26)) := (Below.refl _ _).alloc (Nat.le_refl _) _
      exact duty_made (wanted_free rfl) (ex_alloc_num rfl) (hC.trans (hbel'.mono hC.size)) (NumStep.below hbel') ⟨wx.heap.size, numC 0, hC.size, rfl, Has.new _ _, rfl⟩ (Done.pre (hinv.aheadT 8 (by kernel_rfl) hn (by decide) (by decide)))
    · obtain ⟨b, cs, hb, he, hh, hsz⟩ : Slot.ptr.holds v4.heap.size (a.eval (.tmp 11)) wx := hinv.got 11 _ 11 rfl (hdep ⟨11, .data⟩ (by simp) rfl) rfl
      exact duty_store (wanted_free rfl) (ex_store_num rfl he (hinv.got 9 _ 45 rfl (hdep ⟨9, .data⟩ (by simp) rfl) rfl) hh hsz) (below_setRow hC hb _) (NumStep.row hh) trivial (fun _ => ⟨b, hb, he, hh.row _⟩)
    · exact duty_value ((fun _ _ => NumStep.refl _ _)) hC (wanted_free rfl) (ex_assign rfl) (hinv.got 10 _ 46 rfl (hdep ⟨10, .data⟩ (by simp) rfl) rfl) (Done.keep hI (by rw [hinv.size]; decide) (by decide) (by decide) (fun _ h => h))
  · intro listed a wx hall hinv
    have hC := hinv.c
    obtain ⟨b_hX, hb_hX, e11, hX⟩ := hinv.i (hall 12 (by decide))
    have e1 : a.eval (.tmp 1) = .int .i64 bi := hinv.old' 1 (by kernel_rfl)
    have e2 : a.eval (.tmp 2) = .int .i64 z2 := hinv.old' 2 (by kernel_rfl)
    have e3 : a.eval (.tmp 3) = .int .i64 z3 := hinv.old' 3 (by kernel_rfl)
    have e4 : a.eval (.tmp 4) = .pointer (some ⟨w.heap.size, 0, none⟩) := hinv.old' 4 (by kernel_rfl)
    have e8 : a.eval (.tmp 8) = .bool false := hinv.old' 8 (by kernel_rfl)
    have e9 : a.eval (.tmp 9) = .pointer (some ⟨b_hO, 0, none⟩) := hinv.old' 9 (by kernel_rfl)
    have e12 : a.eval (.tmp 12) = .bool true := hinv.got 13 _ 12 rfl (hall 13 (by decide)) rfl
    replace hP := hP.on hC
    replace hO := hO.on hC
    replace hbel := hbel.trans (hC.mono hbel.size)
    obtain ⟨u, hu⟩ : ∃ u : Nat → Value, ∀ t, u t = a.eval (.tmp t) := ⟨_, fun _ => rfl⟩
    rw [frame_back a 55 u hinv.tsize hinv.defers hu]
    rw [← hu] at e1 e2 e3 e4 e8 e9 e11 e12
    clear hu hinv hall hC hb_hX
    show Exit.then _ _ _ (⟨#[u 0, u 1, u 2, u 3, u 4, u 5, u 6, u 7, u 8, u 9, u 10, u 11, u 12, u 13, u 14, u 15, u 16, u 17, u 18, u 19, u 20, u 21, u 22, u 23, u 24, u 25, u 26, u 27, u 28, u 29, u 30, u 31, u 32, u 33, u 34, u 35, u 36, u 37, u 38, u 39, u 40, u 41, u 42, u 43, u 44, u 45, u 46, u 47, u 48, u 49, u 50, u 51, u 52, u 53, u 54], []⟩ : Act) _
    rw [e1, e2, e3, e4, e8, e9, e11, e12]
    clear e1 e2 e3 e4 e8 e9 e11 e12
    rename World => v9
    go_wp2_with fail
    refine wp_region_quiet_below (by kernel_rfl) (by kernel_rfl) ?_
    repeat (first
      | (go_big_quiet_want; (with_reducible refine quiet_load_pr _ rfl _ rfl hP_z hP.cls ?_); (simp only [Act.put, List.setIfInBounds_toArray, List.set_cons_zero, List.set_cons_succ]); go_big_quiet_on)
      | (go_big_quiet_want; (with_reducible refine quiet_load_num _ rfl _ rfl _ hO.cls ?_); (simp only [Act.put, List.setIfInBounds_toArray, List.set_cons_zero, List.set_cons_succ]); go_big_quiet_on)
      | (go_big_quiet_want; (with_reducible refine quiet_load_num _ rfl _ rfl _ hX.cls ?_); (simp only [Act.put, List.setIfInBounds_toArray, List.set_cons_zero, List.set_cons_succ]); go_big_quiet_on)
      | go_big_quiet_step (first | (go_at_call 14; exact Calls.regrown_of (KM.out _)) | (go_at_call 12; exact Calls.regrown_of (KL.out _))))
    refine wpQuiet_nil ?_
    intro v5 hw'
    obtain ⟨rg, hw''⟩ := hw'
    have hb5 : Below v9.heap.size v9 v5 := by rw [hw'']; exact below_regrown v9 rg.d rg.os
    clear hw''
    replace hP := hP.on hb5
    replace hO := hO.on hb5
    replace hX := hX.on hb5
    replace hbel := hbel.trans (hb5.mono hbel.size)
    clear hb5
    go_wp2_with (first | fail | (with_reducible refine pr_load rfl _ rfl _ rfl hP hP_z ?_) | (with_reducible refine pr_load_g (by with_unfolding_all rfl) _ rfl _ rfl hP hP_z ?_) | (with_reducible refine num_load rfl _ rfl _ rfl _ hO rfl ?_) | (with_reducible refine num_load_g (by with_unfolding_all rfl) _ rfl _ rfl _ hO rfl ?_) | (with_reducible refine num_load rfl _ rfl _ rfl _ hX rfl ?_) | (with_reducible refine num_load_g (by with_unfolding_all rfl) _ rfl _ rfl _ hX rfl ?_))
    go_ret
    exact ⟨rfl, hbel⟩
theorem neq_is (x y : Nat) (hx : x < Nm.big) (hy : y < Nm.big) (g : Bool) (hg : (!decide (x = y)) = g) (w : World) : (binOp .neq 26 (.agg (numC x)) (.agg (numC y))).run Try.prog w = .ok (.bool g) w := by
  rw [← hg]; exact neq_num hx hy w
theorem bounds_walk (p : Pr) (ho : p.ok) (bi z2 z3 : Int) (w : World) : Calls Try.prog 5 #[.agg (prA p), .int .i64 bi, .int .i64 z2, .int .i64 z3] w fun e w' => e = .returned (.bool true) ∧ Below w.heap.size w w' := by
  have hz := prA_size ho
  have KT := fun w => rtgt_at bi p.lim w
  by_cases h0 : tok bi p.lim = false
  · rw [h0] at KT
    exact bou_none p hz bi z2 z3 _ (Lib.hid rfl) _ (Lib.hid KT) w
  rw [Bool.not_eq_false] at h0
  rw [h0, tg_yes h0] at KT
  have KG := fun w => rgood_at p w
  by_cases h1 : p.good = false
  · rw [h1] at KG
    exact bou_bad p hz bi z2 z3 _ (Lib.hid rfl) _ (Lib.hid KT) (Lib.hid KG) w
  rw [Bool.not_eq_false] at h1
  rw [h1] at KG
  have hlt := dN_lt bi
  have hup := Nm.up_lt (dN bi) 2
  have hdn := Nm.down_lt hup 2
  have KM := fun w => ref_move_up (dN bi) 2 hlt (by omega) w
  have KM2 := fun w => ref_move_down (Nm.up (dN bi) 2) 2 hup (by omega) (by omega) w
  by_cases h2 : 4 * dN bi < Nm.big
  · have e1 := tok_iff.1 h0
    have hi := tok_self h0
    refine bou_in p hz bi z2 z3 _ (Lib.hid rfl) _ _ _ _ _ (Lib.hid KT) (Lib.hid KG) (Lib.hid KM) (Lib.hid KM2) (Lib.hid (neq_is _ _ hdn hlt false (by rw [back_two h2]; simp)))
      (Lib.hid (retarget_at p ho bi z2 z3 _ rfl)) (Lib.hid (tg_rt h1 bi _)) (Lib.hid (ref_less_is _ _ hup (rv_lt _ _ _) false (decide_eq_false ?_))) w
    rw [up_two h2]
    have ha : p.anew bi (IntKind.i64.wrap (z3 - z2)) ≤ 4 * dN bi := by
      have := anew_le (t := tg bi bi) (s := p.should) (IntKind.i64.wrap (z3 - z2))
      have e : p.anew bi (IntKind.i64.wrap (z3 - z2)) = anew (tg bi bi) p.should (IntKind.i64.wrap (z3 - z2)) := rfl
      rw [e]
      rwa [tg_yes hi] at this ⊢
    unfold rv
    rw [if_pos hi]
    split
    · omega
    · have := Nm.rd_le (max 1 (p.anew bi (IntKind.i64.wrap (z3 - z2)))); omega
  · exact bou_lost p hz bi z2 z3 _ (Lib.hid rfl) _ _ _ (Lib.hid KT) (Lib.hid KG) (Lib.hid KM) (Lib.hid KM2) (Lib.hid (neq_is _ _ hdn hlt true (by rw [decide_eq_false (back_lost h2)]; rfl))) w
end Go.Proofs.Ytmemppkkchfphaa
