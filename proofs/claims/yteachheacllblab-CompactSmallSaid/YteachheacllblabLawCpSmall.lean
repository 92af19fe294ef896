import Derived.Test.YteachheacllblabLawCpOrd
namespace Go.Proofs.Yteachheacllblab
open Go.RowKit
theorem eql_bool_same (b : Bool) (w : World) : (binOp .eql 4 (.bool b) (.bool b)).run Try.prog w = .ok (.bool true) w := by
  cases b <;> kernel_rfl
theorem small_move (v s n : Nat) (hv : v < 8388608) (hs : s ≤ 28) (hn : n = v * 2 ^ (8 * s)) (m : Int) (hm : m = 8 * (s : Int)) (w : World) :
    Calls Try.prog 14 #[.agg #[.int .u64 (v : Int), .int .u64 0, .int .u64 0, .int .u64 0], .int .i64 m] w fun e w' => e = .returned (.agg (numC n)) ∧ Below w.heap.size w w' := by
  have h := ref_mv_small v (s : Int) (by omega) (by omega) (by omega) m hm w
  have e : Nm.mv v (s : Int) = n := by
    unfold Nm.mv
    rw [if_neg (by omega), Int.toNat_natCast, Nm.up_eq, Nat.mod_eq_of_lt (Nm.small_lt hv hs), hn]
  rwa [e] at h
set_option maxRecDepth 100000 in
set_option maxHeartbeats 2000000 in
theorem small_low (a b : Int) (f0 : decide (a < 0) = true) (w : World) :
    Calls Try.prog 7 #[.int .i64 a, .int .i64 b] w fun e w' => e = .returned (.bool true) ∧ Below w.heap.size w w' := by
  go_enter Try.func7, Try.ntmps7
  have hbel := Below.refl w.heap.size w
  go_wp2_with fail
  refine (alive _).mono ?_
  rintro e v1 ⟨rfl, hb1⟩
  replace hbel := hbel.trans (hb1.mono hbel.size)
  clear hb1
  go_wp2_with (first | fail)
  go_ret
  exact ⟨rfl, hbel⟩
set_option maxRecDepth 100000 in
set_option maxHeartbeats 2000000 in
theorem small_high (a b : Int) (f0 : decide (a < 0) = false) (f1 : decide ((8388607 : Int) < a) = true) (w : World) :
    Calls Try.prog 7 #[.int .i64 a, .int .i64 b] w fun e w' => e = .returned (.bool true) ∧ Below w.heap.size w w' := by
  go_enter Try.func7, Try.ntmps7
  have hbel := Below.refl w.heap.size w
  go_wp2_with fail
  refine (alive _).mono ?_
  rintro e v1 ⟨rfl, hb1⟩
  replace hbel := hbel.trans (hb1.mono hbel.size)
  clear hb1
  go_wp2_with (first | fail)
  go_ret
  exact ⟨rfl, hbel⟩
set_option maxRecDepth 100000 in
set_option maxHeartbeats 2000000 in
theorem small_slow (a b : Int) (f0 : decide (a < 0) = false) (f1 : decide ((8388607 : Int) < a) = false) (f2 : decide (b < 0) = true) (w : World) :
    Calls Try.prog 7 #[.int .i64 a, .int .i64 b] w fun e w' => e = .returned (.bool true) ∧ Below w.heap.size w w' := by
  go_enter Try.func7, Try.ntmps7
  have hbel := Below.refl w.heap.size w
  go_wp2_with fail
  refine (alive _).mono ?_
  rintro e v1 ⟨rfl, hb1⟩
  replace hbel := hbel.trans (hb1.mono hbel.size)
  clear hb1
  go_wp2_with (first | fail)
  go_ret
  exact ⟨rfl, hbel⟩
set_option maxRecDepth 100000 in
set_option maxHeartbeats 2000000 in
theorem small_shigh (a b : Int) (f0 : decide (a < 0) = false) (f1 : decide ((8388607 : Int) < a) = false) (f2 : decide (b < 0) = false) (f3 : decide ((28 : Int) < b) = true) (w : World) :
    Calls Try.prog 7 #[.int .i64 a, .int .i64 b] w fun e w' => e = .returned (.bool true) ∧ Below w.heap.size w w' := by
  go_enter Try.func7, Try.ntmps7
  have hbel := Below.refl w.heap.size w
  go_wp2_with fail
  refine (alive _).mono ?_
  rintro e v1 ⟨rfl, hb1⟩
  replace hbel := hbel.trans (hb1.mono hbel.size)
  clear hb1
  go_wp2_with (first | fail)
  go_ret
  exact ⟨rfl, hbel⟩
set_option maxRecDepth 100000 in
set_option maxHeartbeats 2000000 in
theorem small_in (v s n en : Nat) (f0 : decide ((v : Int) < 0) = false) (f1 : decide ((8388607 : Int) < (v : Int)) = false) (f2 : decide ((s : Int) < 0) = false) (f3 : decide ((28 : Int) < (s : Int)) = false) (hv : v < 8388608) (hs : s ≤ 28)
    (KM : Hid (∀ (m : Int), m = 8 * (s : Int) → ∀ w, Calls Try.prog 14 #[.agg #[.int .u64 (v : Int), .int .u64 0, .int .u64 0, .int .u64 0], .int .i64 m] w fun e w' => e = .returned (.agg (numC n)) ∧ Below w.heap.size w w'))
    (KE : Hid (∀ w, Calls Try.prog 9 #[.agg (numC n)] w fun e w' => e = .returned (.int .i64 (en : Nat)) ∧ Below w.heap.size w w')) (KD : Hid (∀ w, Calls Try.prog 10 #[.int .i64 (en : Nat)] w fun e w' => e = .returned (.tuple #[.agg (numC n), .bool false, .bool false]) ∧ Below w.heap.size w w')) (w : World) :
    Calls Try.prog 7 #[.int .i64 (v : Int), .int .i64 (s : Int)] w fun e w' => e = .returned (.bool true) ∧ Below w.heap.size w w' := by
  go_enter Try.func7, Try.ntmps7
  have hbel := Below.refl w.heap.size w
  go_wp2_with fail
  refine (alive _).mono ?_
  rintro e v1 ⟨rfl, hb1⟩
  replace hbel := hbel.trans (hb1.mono hbel.size)
  clear hb1
  go_wp2_with fail
  refine (KM.out _ (by first | rfl | omega) _).mono ?_
  rintro e v2 ⟨rfl, hb2⟩
  replace hbel := hbel.trans (hb2.mono hbel.size)
  clear hb2
  go_upto_region 6 with (with_reducible refine num_store rfl _ _ rfl _ _ rfl rfl _ (Has.newz _) rfl ?_)
  generalize hw3 : World.setRow _ _ _ = v3
  have hb3 : Below v2.heap.size v2 v3 := by rw [← hw3]; exact below_setRow ((Below.refl _ _).alloc (Nat.le_refl _) _) (Nat.le_refl _) _
  have hX : Has v3 v2.heap.size (numC n) 24 := by rw [← hw3]; exact (Has.newz _).row _
  replace hbel := hbel.trans (hb3.mono hbel.size)
  clear hw3 hb3
  generalize v2.heap.size = b_hX at hX ⊢
  go_wp2_with (first | fail | (with_reducible refine num_load rfl _ rfl _ rfl _ hX rfl ?_))
  refine (KE.out _).mono ?_
  rintro e v4 ⟨rfl, hb4⟩
  replace hX := hX.on hb4
  replace hbel := hbel.trans (hb4.mono hbel.size)
  clear hb4
  go_wp2_with (first | fail | (with_reducible refine num_load rfl _ rfl _ rfl _ hX rfl ?_))
  refine (KD.out _).mono ?_
  rintro e v5 ⟨rfl, hb5⟩
  replace hX := hX.on hb5
  replace hbel := hbel.trans (hb5.mono hbel.size)
  clear hb5
  go_upto_region 7 with (with_reducible refine num_store rfl _ _ rfl _ _ rfl rfl _ (Has.newz _) rfl ?_)
  generalize hw6 : World.setRow _ _ _ = v6
  have hb6 : Below v5.heap.size v5 v6 := by rw [← hw6]; exact below_setRow ((Below.refl _ _).alloc (Nat.le_refl _) _) (Nat.le_refl _) _
  have hY : Has v6 v5.heap.size (numC n) 24 := by rw [← hw6]; exact (Has.newz _).row _
  replace hX := hX.on hb6
  replace hbel := hbel.trans (hb6.mono hbel.size)
  clear hw6 hb6
  generalize v5.heap.size = b_hY at hY ⊢
  have hq := eql_same''
  have hqb := eql_bool_same
  go_wp2_with (first | fail | (with_reducible refine num_load rfl _ rfl _ rfl _ hX rfl ?_) | (with_reducible refine num_load rfl _ rfl _ rfl _ hY rfl ?_))
  go_ret
  exact ⟨rfl, hbel⟩
theorem small_walk (a b : Int) (_ha : (Lit.int .i64 a).wf = true) (_hb : (Lit.int .i64 b).wf = true) (w : World) :
    Calls Try.prog 7 #[.int .i64 a, .int .i64 b] w fun e w' => e = .returned (.bool true) ∧ Below w.heap.size w w' := by
  by_cases h0 : a < 0
  · exact small_low a b (decide_eq_true h0) w
  by_cases h1 : (8388607 : Int) < a
  · exact small_high a b (decide_eq_false h0) (decide_eq_true h1) w
  by_cases h2 : b < 0
  · exact small_slow a b (decide_eq_false h0) (decide_eq_false h1) (decide_eq_true h2) w
  by_cases h3 : (28 : Int) < b
  · exact small_shigh a b (decide_eq_false h0) (decide_eq_false h1) (decide_eq_false h2) (decide_eq_true h3) w
  obtain ⟨v, rfl⟩ := Int.eq_ofNat_of_zero_le (show 0 ≤ a by omega)
  obtain ⟨s, rfl⟩ := Int.eq_ofNat_of_zero_le (show 0 ≤ b by omega)
  have hv : v < 8388608 := by omega
  have hs : s ≤ 28 := by omega
  have hn := Nm.small_lt hv hs
  have hd := dec_enc_call (v * 2 ^ (8 * s)) hn
  rw [Nm.rd_small hv] at hd
  exact small_in v s _ _ (decide_eq_false h0) (decide_eq_false h1) (decide_eq_false h2) (decide_eq_false h3) hv hs (Lib.hid fun m hm => small_move v s _ hv hs rfl m hm) (Lib.hid (encode _ hn)) (Lib.hid hd) w
end Go.Proofs.Yteachheacllblab
