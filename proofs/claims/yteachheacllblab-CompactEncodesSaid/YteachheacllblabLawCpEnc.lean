import Derived.Test.YteachheacllblabCpTarget
import Derived.Test.YteachheacllblabRefSub
namespace Go.Proofs.Yteachheacllblab
open Go.RowKit
theorem eql_bool_same (b : Bool) (w : World) : (binOp .eql 4 (.bool b) (.bool b)).run Try.prog w = .ok (.bool true) w := by
  cases b <;> kernel_rfl
set_option maxRecDepth 100000 in
set_option maxHeartbeats 2000000 in
theorem encodes_same (n m en q : Nat) (c : Bool)
    (KE : Hid (∀ w, Calls Try.prog 9 #[.agg (numC n)] w fun e w' => e = .returned (.int .i64 (en : Nat)) ∧ Below w.heap.size w w')) (KD : Hid (∀ w, Calls Try.prog 10 #[.int .i64 (en : Nat)] w fun e w' => e = .returned (.tuple #[.agg (numC m), .bool false, .bool false]) ∧ Below w.heap.size w w'))
    (KR : Hid (∀ w, Calls Try.prog 11 #[.agg (numC n)] w fun e w' => e = .returned (.int .i64 (en : Nat)) ∧ Below w.heap.size w w')) (KE2 : Hid (∀ w, Calls Try.prog 9 #[.agg (numC m)] w fun e w' => e = .returned (.int .i64 (en : Nat)) ∧ Below w.heap.size w w'))
    (KL : Hid (∀ w, Calls Try.prog 12 #[.agg (numC n), .agg (numC m)] w fun e w' => e = .returned (.bool false) ∧ Below w.heap.size w w')) (KS : Hid (∀ w, Calls Try.prog 13 #[.agg (numC n), .agg (numC m)] w fun e w' => e = .returned (.tuple #[.agg (numC q), .bool c]) ∧ Below w.heap.size w w'))
    (hnm : ∀ w, (binOp .eql 24 (.agg (numC n)) (.agg (numC m))).run Try.prog w = .ok (.bool true) w) (w : World) :
    Calls Try.prog 3 #[.agg (numC n)] w fun e w' => e = .returned (.bool true) ∧ Below w.heap.size w w' := by
  go_enter Try.func3, Try.ntmps3
  go_upto_region 1 with fail
  generalize hw0 : World.alloc _ _ = v0
  have hbel : Below w.heap.size w v0 := by rw [← hw0]; exact (Below.refl _ _).alloc (by first | exact Nat.le_refl _ | (simp; done) | (simp; omega)) _
  have hA : Has v0 (w.heap.size) (numC n) 24 := by rw [← hw0]; exact Has.new _ _
  clear hw0
  
  go_wp2_with (first | fail | (with_reducible refine num_load rfl _ rfl _ rfl _ hA rfl ?_) | (with_reducible refine num_load_g (by with_unfolding_all rfl) _ rfl _ rfl _ hA rfl ?_))
  refine (alive _).mono ?_
  rintro e v1 ⟨rfl, hb1⟩
  replace hA := hA.on hb1
  replace hbel := hbel.trans (hb1.mono hbel.size)
  clear hb1
  go_wp2_with (first | fail | (with_reducible refine num_load rfl _ rfl _ rfl _ hA rfl ?_) | (with_reducible refine num_load_g (by with_unfolding_all rfl) _ rfl _ rfl _ hA rfl ?_))
  refine (KE.out _).mono ?_
  rintro e v2 ⟨rfl, hb2⟩
  replace hA := hA.on hb2
  replace hbel := hbel.trans (hb2.mono hbel.size)
  clear hb2
  go_wp2_with (first | fail | (with_reducible refine num_load rfl _ rfl _ rfl _ hA rfl ?_) | (with_reducible refine num_load_g (by with_unfolding_all rfl) _ rfl _ rfl _ hA rfl ?_))
  refine (KD.out _).mono ?_
  rintro e v3 ⟨rfl, hb3⟩
  replace hA := hA.on hb3
  replace hbel := hbel.trans (hb3.mono hbel.size)
  clear hb3
  go_upto_region 5 with (with_reducible refine num_store rfl _ _ rfl _ _ rfl rfl _ (Has.newz _) rfl ?_)
  generalize hw4 : World.setRow _ _ _ = v4
  have hb4 : Below v3.heap.size v3 v4 := by rw [← hw4]; exact below_setRow ((Below.refl _ _).alloc (Nat.le_refl _) _) (Nat.le_refl _) _
  have hM : Has v4 v3.heap.size (numC m) 24 := by rw [← hw4]; exact (Has.newz _).row _
  replace hA := hA.on hb4
  replace hbel := hbel.trans (hb4.mono hbel.size)
  clear hw4 hb4
  generalize v3.heap.size = b_hM at hM ⊢
  go_wp2_with (first | fail | (with_reducible refine num_load rfl _ rfl _ rfl _ hA rfl ?_) | (with_reducible refine num_load rfl _ rfl _ rfl _ hM rfl ?_) | (with_reducible refine num_load_g (by with_unfolding_all rfl) _ rfl _ rfl _ hA rfl ?_) | (with_reducible refine num_load_g (by with_unfolding_all rfl) _ rfl _ rfl _ hM rfl ?_))
  refine (KR.out _).mono ?_
  rintro e v5 ⟨rfl, hb5⟩
  replace hA := hA.on hb5
  replace hM := hM.on hb5
  replace hbel := hbel.trans (hb5.mono hbel.size)
  clear hb5
  go_wp2_with (first | fail | (with_reducible refine num_load rfl _ rfl _ rfl _ hA rfl ?_) | (with_reducible refine num_load rfl _ rfl _ rfl _ hM rfl ?_) | (with_reducible refine num_load_g (by with_unfolding_all rfl) _ rfl _ rfl _ hA rfl ?_) | (with_reducible refine num_load_g (by with_unfolding_all rfl) _ rfl _ rfl _ hM rfl ?_))
  refine (KE2.out _).mono ?_
  rintro e v6 ⟨rfl, hb6⟩
  replace hA := hA.on hb6
  replace hM := hM.on hb6
  replace hbel := hbel.trans (hb6.mono hbel.size)
  clear hb6
  go_wp2_with (first | fail | (with_reducible refine num_load rfl _ rfl _ rfl _ hA rfl ?_) | (with_reducible refine num_load rfl _ rfl _ rfl _ hM rfl ?_) | (with_reducible refine num_load_g (by with_unfolding_all rfl) _ rfl _ rfl _ hA rfl ?_) | (with_reducible refine num_load_g (by with_unfolding_all rfl) _ rfl _ rfl _ hM rfl ?_))
  refine (KL.out _).mono ?_
  rintro e v7 ⟨rfl, hb7⟩
  replace hA := hA.on hb7
  replace hM := hM.on hb7
  replace hbel := hbel.trans (hb7.mono hbel.size)
  clear hb7
  go_wp2_with (first | fail | (with_reducible refine num_load rfl _ rfl _ rfl _ hA rfl ?_) | (with_reducible refine num_load rfl _ rfl _ rfl _ hM rfl ?_) | (with_reducible refine num_load_g (by with_unfolding_all rfl) _ rfl _ rfl _ hA rfl ?_) | (with_reducible refine num_load_g (by with_unfolding_all rfl) _ rfl _ rfl _ hM rfl ?_))
  refine (KS.out _).mono ?_
  rintro e v8 ⟨rfl, hb8⟩
  replace hA := hA.on hb8
  replace hM := hM.on hb8
  replace hbel := hbel.trans (hb8.mono hbel.size)
  clear hb8
  go_upto_region 8 with (with_reducible refine num_store rfl _ _ rfl _ _ rfl rfl _ (Has.newz _) rfl ?_)
  generalize hw9 : World.setRow _ _ _ = v9
  have hb9 : Below v8.heap.size v8 v9 := by rw [← hw9]; exact below_setRow ((Below.refl _ _).alloc (Nat.le_refl _) _) (Nat.le_refl _) _
  have hL : Has v9 v8.heap.size (numC q) 24 := by rw [← hw9]; exact (Has.newz _).row _
  replace hA := hA.on hb9
  replace hM := hM.on hb9
  replace hbel := hbel.trans (hb9.mono hbel.size)
  clear hw9 hb9
  generalize v8.heap.size = b_hL at hL ⊢
  have hq := eql_same''
  have hqb := eql_bool_same
  refine wp_region_quiet_below (by kernel_rfl) (by kernel_rfl) ?_
  repeat (first
    | (go_big_quiet_want; (with_reducible refine quiet_load_num _ rfl _ rfl _ hA.cls ?_); (simp only [Act.put, List.setIfInBounds_toArray, List.set_cons_zero, List.set_cons_succ]); go_big_quiet_on)
    | (go_big_quiet_want; (with_reducible refine quiet_load_num _ rfl _ rfl _ hM.cls ?_); (simp only [Act.put, List.setIfInBounds_toArray, List.set_cons_zero, List.set_cons_succ]); go_big_quiet_on)
    | (go_big_quiet_want; (with_reducible refine quiet_load_num _ rfl _ rfl _ hL.cls ?_); (simp only [Act.put, List.setIfInBounds_toArray, List.set_cons_zero, List.set_cons_succ]); go_big_quiet_on)
    | go_big_quiet_step (fail))
  refine wpQuiet_nil ?_
  intro _ hw'
  obtain ⟨p, hw''⟩ := hw'
  subst hw''
  replace hbel := hbel.trans ((below_regrown v9 p.d p.os).mono hbel.size)
  clear hq hqb
  go_wp2_with fail
  go_ret
  exact ⟨rfl, hbel⟩
set_option maxRecDepth 100000 in
set_option maxHeartbeats 2000000 in
theorem encodes_else (n m en q u : Nat) (c : Bool)
    (KE : Hid (∀ w, Calls Try.prog 9 #[.agg (numC n)] w fun e w' => e = .returned (.int .i64 (en : Nat)) ∧ Below w.heap.size w w')) (KD : Hid (∀ w, Calls Try.prog 10 #[.int .i64 (en : Nat)] w fun e w' => e = .returned (.tuple #[.agg (numC m), .bool false, .bool false]) ∧ Below w.heap.size w w'))
    (KR : Hid (∀ w, Calls Try.prog 11 #[.agg (numC n)] w fun e w' => e = .returned (.int .i64 (en : Nat)) ∧ Below w.heap.size w w')) (KE2 : Hid (∀ w, Calls Try.prog 9 #[.agg (numC m)] w fun e w' => e = .returned (.int .i64 (en : Nat)) ∧ Below w.heap.size w w'))
    (KL : Hid (∀ w, Calls Try.prog 12 #[.agg (numC n), .agg (numC m)] w fun e w' => e = .returned (.bool false) ∧ Below w.heap.size w w')) (KS : Hid (∀ w, Calls Try.prog 13 #[.agg (numC n), .agg (numC m)] w fun e w' => e = .returned (.tuple #[.agg (numC q), .bool c]) ∧ Below w.heap.size w w'))
    (hnm : ∀ w, (binOp .eql 24 (.agg (numC n)) (.agg (numC m))).run Try.prog w = .ok (.bool false) w)
    (KM : Hid (∀ w, Calls Try.prog 14 #[.agg (numC q), .int .i64 15] w fun e w' => e = .returned (.agg (numC u)) ∧ Below w.heap.size w w')) (KM2 : Hid (∀ w, Calls Try.prog 14 #[.agg (numC u), .int .i64 (-15)] w fun e w' => e = .returned (.agg (numC q)) ∧ Below w.heap.size w w'))
    (KL2 : Hid (∀ w, Calls Try.prog 12 #[.agg (numC u), .agg (numC n)] w fun e w' => e = .returned (.bool true) ∧ Below w.heap.size w w')) (w : World) :
    Calls Try.prog 3 #[.agg (numC n)] w fun e w' => e = .returned (.bool true) ∧ Below w.heap.size w w' := by
  go_enter Try.func3, Try.ntmps3
  go_upto_region 1 with fail
  generalize hw0 : World.alloc _ _ = v0
  have hbel : Below w.heap.size w v0 := by rw [← hw0]; exact (Below.refl _ _).alloc (by first | exact Nat.le_refl _ | (simp; done) | (simp; omega)) _
  have hA : Has v0 (w.heap.size) (numC n) 24 := by rw [← hw0]; exact Has.new _ _
  clear hw0
  
  go_wp2_with (first | fail | (with_reducible refine num_load rfl _ rfl _ rfl _ hA rfl ?_) | (with_reducible refine num_load_g (by with_unfolding_all rfl) _ rfl _ rfl _ hA rfl ?_))
  refine (alive _).mono ?_
  rintro e v1 ⟨rfl, hb1⟩
  replace hA := hA.on hb1
  replace hbel := hbel.trans (hb1.mono hbel.size)
  clear hb1
  go_wp2_with (first | fail | (with_reducible refine num_load rfl _ rfl _ rfl _ hA rfl ?_) | (with_reducible refine num_load_g (by with_unfolding_all rfl) _ rfl _ rfl _ hA rfl ?_))
  refine (KE.out _).mono ?_
  rintro e v2 ⟨rfl, hb2⟩
  replace hA := hA.on hb2
  replace hbel := hbel.trans (hb2.mono hbel.size)
  clear hb2
  go_wp2_with (first | fail | (with_reducible refine num_load rfl _ rfl _ rfl _ hA rfl ?_) | (with_reducible refine num_load_g (by with_unfolding_all rfl) _ rfl _ rfl _ hA rfl ?_))
  refine (KD.out _).mono ?_
  rintro e v3 ⟨rfl, hb3⟩
  replace hA := hA.on hb3
  replace hbel := hbel.trans (hb3.mono hbel.size)
  clear hb3
  go_upto_region 5 with (with_reducible refine num_store rfl _ _ rfl _ _ rfl rfl _ (Has.newz _) rfl ?_)
  generalize hw4 : World.setRow _ _ _ = v4
  have hb4 : Below v3.heap.size v3 v4 := by rw [← hw4]; exact below_setRow ((Below.refl _ _).alloc (Nat.le_refl _) _) (Nat.le_refl _) _
  have hM : Has v4 v3.heap.size (numC m) 24 := by rw [← hw4]; exact (Has.newz _).row _
  replace hA := hA.on hb4
  replace hbel := hbel.trans (hb4.mono hbel.size)
  clear hw4 hb4
  generalize v3.heap.size = b_hM at hM ⊢
  go_wp2_with (first | fail | (with_reducible refine num_load rfl _ rfl _ rfl _ hA rfl ?_) | (with_reducible refine num_load rfl _ rfl _ rfl _ hM rfl ?_) | (with_reducible refine num_load_g (by with_unfolding_all rfl) _ rfl _ rfl _ hA rfl ?_) | (with_reducible refine num_load_g (by with_unfolding_all rfl) _ rfl _ rfl _ hM rfl ?_))
  refine (KR.out _).mono ?_
  rintro e v5 ⟨rfl, hb5⟩
  replace hA := hA.on hb5
  replace hM := hM.on hb5
  replace hbel := hbel.trans (hb5.mono hbel.size)
  clear hb5
  go_wp2_with (first | fail | (with_reducible refine num_load rfl _ rfl _ rfl _ hA rfl ?_) | (with_reducible refine num_load rfl _ rfl _ rfl _ hM rfl ?_) | (with_reducible refine num_load_g (by with_unfolding_all rfl) _ rfl _ rfl _ hA rfl ?_) | (with_reducible refine num_load_g (by with_unfolding_all rfl) _ rfl _ rfl _ hM rfl ?_))
  refine (KE2.out _).mono ?_
  rintro e v6 ⟨rfl, hb6⟩
  replace hA := hA.on hb6
  replace hM := hM.on hb6
  replace hbel := hbel.trans (hb6.mono hbel.size)
  clear hb6
  go_wp2_with (first | fail | (with_reducible refine num_load rfl _ rfl _ rfl _ hA rfl ?_) | (with_reducible refine num_load rfl _ rfl _ rfl _ hM rfl ?_) | (with_reducible refine num_load_g (by with_unfolding_all rfl) _ rfl _ rfl _ hA rfl ?_) | (with_reducible refine num_load_g (by with_unfolding_all rfl) _ rfl _ rfl _ hM rfl ?_))
  refine (KL.out _).mono ?_
  rintro e v7 ⟨rfl, hb7⟩
  replace hA := hA.on hb7
  replace hM := hM.on hb7
  replace hbel := hbel.trans (hb7.mono hbel.size)
  clear hb7
  go_wp2_with (first | fail | (with_reducible refine num_load rfl _ rfl _ rfl _ hA rfl ?_) | (with_reducible refine num_load rfl _ rfl _ rfl _ hM rfl ?_) | (with_reducible refine num_load_g (by with_unfolding_all rfl) _ rfl _ rfl _ hA rfl ?_) | (with_reducible refine num_load_g (by with_unfolding_all rfl) _ rfl _ rfl _ hM rfl ?_))
  refine (KS.out _).mono ?_
  rintro e v8 ⟨rfl, hb8⟩
  replace hA := hA.on hb8
  replace hM := hM.on hb8
  replace hbel := hbel.trans (hb8.mono hbel.size)
  clear hb8
  go_upto_region 8 with (with_reducible refine num_store rfl _ _ rfl _ _ rfl rfl _ (Has.newz _) rfl ?_)
  generalize hw9 : World.setRow _ _ _ = v9
  have hb9 : Below v8.heap.size v8 v9 := by rw [← hw9]; exact below_setRow ((Below.refl _ _).alloc (Nat.le_refl _) _) (Nat.le_refl _) _
  have hL : Has v9 v8.heap.size (numC q) 24 := by rw [← hw9]; exact (Has.newz _).row _
  replace hA := hA.on hb9
  replace hM := hM.on hb9
  replace hbel := hbel.trans (hb9.mono hbel.size)
  clear hw9 hb9
  generalize v8.heap.size = b_hL at hL ⊢
  have hq := eql_same''
  have hqb := eql_bool_same
  refine wp_region_quiet_below (by kernel_rfl) (by kernel_rfl) ?_
  repeat (first
    | (go_big_quiet_want; (with_reducible refine quiet_load_num _ rfl _ rfl _ hA.cls ?_); (simp only [Act.put, List.setIfInBounds_toArray, List.set_cons_zero, List.set_cons_succ]); go_big_quiet_on)
    | (go_big_quiet_want; (with_reducible refine quiet_load_num _ rfl _ rfl _ hM.cls ?_); (simp only [Act.put, List.setIfInBounds_toArray, List.set_cons_zero, List.set_cons_succ]); go_big_quiet_on)
    | (go_big_quiet_want; (with_reducible refine quiet_load_num _ rfl _ rfl _ hL.cls ?_); (simp only [Act.put, List.setIfInBounds_toArray, List.set_cons_zero, List.set_cons_succ]); go_big_quiet_on)
    | go_big_quiet_step (first | (go_at_call 14; (with_reducible exact Calls.regrown_of (KM.out _))) | (go_at_call 14; (with_reducible exact Calls.regrown_of (KM2.out _))) | (go_at_call 12; exact Calls.regrown_of (KL2.out _))))
  refine wpQuiet_nil ?_
  intro _ hw'
  obtain ⟨p, hw''⟩ := hw'
  subst hw''
  replace hbel := hbel.trans ((below_regrown v9 p.d p.os).mono hbel.size)
  clear hq hqb
  go_wp2_with fail
  go_ret
  exact ⟨rfl, hbel⟩
theorem encodes_walk (n : Nat) (hn : n < Nm.big) (w : World) :
    Calls Try.prog 3 #[.agg (numC n)] w fun e w' => e = .returned (.bool true) ∧ Below w.heap.size w w' := by
  have hm := Nat.lt_of_le_of_lt (Nm.rd_le n) hn
  have hle := Nm.rd_le n
  have e2 := encode (Nm.rd n) hm
  rw [Nm.enc_rd] at e2
  have ks := ref_sub n (Nm.rd n) hn hm
  rw [show (n + Nm.big - Nm.rd n) % Nm.big = n - Nm.rd n from by
    rw [show n + Nm.big - Nm.rd n = n - Nm.rd n + Nm.big by omega, Nat.add_mod_right, Nat.mod_eq_of_lt (by omega)]] at ks
  have KE := Lib.hid (encode n hn)
  have KD := Lib.hid (dec_enc_call n hn)
  have KR := Lib.hid (ref_encode n hn)
  have KL := Lib.hid (ref_less_is n (Nm.rd n) hn hm false (decide_eq_false (by omega)))
  have hl := Nm.lost_small hn
  by_cases h : n = Nm.rd n
  · exact encodes_same n _ _ _ _ KE KD KR (Lib.hid e2) KL (Lib.hid ks) (fun w => by have := eql_num hn hm w; rwa [decide_eq_true h] at this) w
  · have hq : n - Nm.rd n < Nm.big := by omega
    have h15 : Nm.up (n - Nm.rd n) 15 = (n - Nm.rd n) * 2 ^ 15 := by rw [Nm.up_eq, Nat.mod_eq_of_lt hl.1]
    have km := ref_move_up (n - Nm.rd n) 15 hq (by omega)
    rw [h15] at km
    have km2 := ref_move_down ((n - Nm.rd n) * 2 ^ 15) 15 hl.1 (by omega) (by omega)
    rw [Nm.down_eq, Nat.mul_div_cancel _ (by decide)] at km2
    exact encodes_else n _ _ _ _ _ KE KD KR (Lib.hid e2) KL (Lib.hid ks) (fun w => by have := eql_num hn hm w; rwa [decide_eq_false h] at this) (Lib.hid km) (Lib.hid km2) (Lib.hid (ref_less_is _ n hl.1 hn true (decide_eq_true (hl.2 h)))) w
end Go.Proofs.Yteachheacllblab
