/-
  pace: Good; the reference's Good.
-/
import Derived.Test.YtmemppkkchfphaaPcMem
namespace Go.Proofs.Ytmemppkkchfphaa
open Go.RowKit
/-- the rules can be, as far as the pace goes -/
def Pr.good (p : Pr) : Bool := tok p.lim p.lim && decide (2 ≤ p.ivl) && decide (p.ivl ≤ 64) && decide (1 ≤ p.spc) && decide (p.spc ≤ 10000) && decide (0 ≤ p.fut) && decide (p.fut < 4294967296)
set_option maxRecDepth 100000 in
set_option maxHeartbeats 1000000 in
theorem pgood_0 (p : Pr) (z : Nat) (lim ivl spc fut : Int) (e0 : Hid (p.lim = lim)) (e1 : Hid (p.ivl = ivl)) (e2 : Hid (p.spc = spc)) (e3 : Hid (p.fut = fut))
    (KT : Hid (∀ w, Calls Try.prog 19 #[.int .i64 lim, .int .i64 lim] w fun e w' => e = .returned (.tuple #[.agg (numC z), .bool false]) ∧ Below w.heap.size w w')) (w : World) :
    Calls Try.prog 17 #[.agg (prA p)] w fun e w' => e = .returned (.bool false) ∧ Below w.heap.size w w' := by
  have hP := pr_new w p
  have hbel : Below w.heap.size w (w.alloc (.cells (prA p) 32)) := (Below.refl _ _).alloc (Nat.le_refl _) _
  have c0 := hP.c0 e0
  go_enter Try.func17, Try.ntmps17
  go_upto_region 1 with fail
  generalize World.alloc _ _ = v0 at *
  generalize w.heap.size = b_hP at hP c0 ⊢
  go_wp2_with fail
  refine (KT.out _).mono ?_
  rintro e v1 ⟨rfl, hb1⟩
  replace hP := hP.on hb1
  replace hbel := hbel.trans (hb1.mono hbel.size)
  clear c0 hb1
  go_upto_region 2 with (with_reducible refine num_store rfl _ _ rfl _ _ rfl rfl _ (Has.newz _) rfl ?_)
  generalize hw2 : World.setRow _ _ _ = v2
  have hb2 : Below v1.heap.size v1 v2 := by rw [← hw2]; exact below_setRow ((Below.refl _ _).alloc (Nat.le_refl _) _) (Nat.le_refl _) _
  replace hP := hP.on hb2
  replace hbel := hbel.trans (hb2.mono hbel.size)
  clear hw2 hb2
  have c1 := hP.c1 e1
  have c2 := hP.c2 e2
  have c3 := hP.c3 e3
  go_wp2_with fail
  go_ret
  exact ⟨rfl, hbel⟩
set_option maxRecDepth 100000 in
set_option maxHeartbeats 1000000 in
theorem pgood_1 (p : Pr) (z : Nat) (lim ivl spc fut : Int) (e0 : Hid (p.lim = lim)) (e1 : Hid (p.ivl = ivl)) (e2 : Hid (p.spc = spc)) (e3 : Hid (p.fut = fut)) (t1 : decide ((2 : Int) ≤ ivl) = false)
    (KT : Hid (∀ w, Calls Try.prog 19 #[.int .i64 lim, .int .i64 lim] w fun e w' => e = .returned (.tuple #[.agg (numC z), .bool true]) ∧ Below w.heap.size w w')) (w : World) :
    Calls Try.prog 17 #[.agg (prA p)] w fun e w' => e = .returned (.bool false) ∧ Below w.heap.size w w' := by
  have hP := pr_new w p
  have hbel : Below w.heap.size w (w.alloc (.cells (prA p) 32)) := (Below.refl _ _).alloc (Nat.le_refl _) _
  have c0 := hP.c0 e0
  go_enter Try.func17, Try.ntmps17
  go_upto_region 1 with fail
  generalize World.alloc _ _ = v0 at *
  generalize w.heap.size = b_hP at hP c0 ⊢
  go_wp2_with fail
  refine (KT.out _).mono ?_
  rintro e v1 ⟨rfl, hb1⟩
  replace hP := hP.on hb1
  replace hbel := hbel.trans (hb1.mono hbel.size)
  clear c0 hb1
  go_upto_region 2 with (with_reducible refine num_store rfl _ _ rfl _ _ rfl rfl _ (Has.newz _) rfl ?_)
  generalize hw2 : World.setRow _ _ _ = v2
  have hb2 : Below v1.heap.size v1 v2 := by rw [← hw2]; exact below_setRow ((Below.refl _ _).alloc (Nat.le_refl _) _) (Nat.le_refl _) _
  replace hP := hP.on hb2
  replace hbel := hbel.trans (hb2.mono hbel.size)
  clear hw2 hb2
  have c1 := hP.c1 e1
  have c2 := hP.c2 e2
  have c3 := hP.c3 e3
  go_wp2_with fail
  go_ret
  exact ⟨rfl, hbel⟩
set_option maxRecDepth 100000 in
set_option maxHeartbeats 1000000 in
theorem pgood_2 (p : Pr) (z : Nat) (lim ivl spc fut : Int) (e0 : Hid (p.lim = lim)) (e1 : Hid (p.ivl = ivl)) (e2 : Hid (p.spc = spc)) (e3 : Hid (p.fut = fut)) (t1 : decide ((2 : Int) ≤ ivl) = true) (t2 : decide (ivl ≤ (64 : Int)) = false)
    (KT : Hid (∀ w, Calls Try.prog 19 #[.int .i64 lim, .int .i64 lim] w fun e w' => e = .returned (.tuple #[.agg (numC z), .bool true]) ∧ Below w.heap.size w w')) (w : World) :
    Calls Try.prog 17 #[.agg (prA p)] w fun e w' => e = .returned (.bool false) ∧ Below w.heap.size w w' := by
  have hP := pr_new w p
  have hbel : Below w.heap.size w (w.alloc (.cells (prA p) 32)) := (Below.refl _ _).alloc (Nat.le_refl _) _
  have c0 := hP.c0 e0
  go_enter Try.func17, Try.ntmps17
  go_upto_region 1 with fail
  generalize World.alloc _ _ = v0 at *
  generalize w.heap.size = b_hP at hP c0 ⊢
  go_wp2_with fail
  refine (KT.out _).mono ?_
  rintro e v1 ⟨rfl, hb1⟩
  replace hP := hP.on hb1
  replace hbel := hbel.trans (hb1.mono hbel.size)
  clear c0 hb1
  go_upto_region 2 with (with_reducible refine num_store rfl _ _ rfl _ _ rfl rfl _ (Has.newz _) rfl ?_)
  generalize hw2 : World.setRow _ _ _ = v2
  have hb2 : Below v1.heap.size v1 v2 := by rw [← hw2]; exact below_setRow ((Below.refl _ _).alloc (Nat.le_refl _) _) (Nat.le_refl _) _
  replace hP := hP.on hb2
  replace hbel := hbel.trans (hb2.mono hbel.size)
  clear hw2 hb2
  have c1 := hP.c1 e1
  have c2 := hP.c2 e2
  have c3 := hP.c3 e3
  go_wp2_with fail
  go_ret
  exact ⟨rfl, hbel⟩
set_option maxRecDepth 100000 in
set_option maxHeartbeats 1000000 in
theorem pgood_3 (p : Pr) (z : Nat) (lim ivl spc fut : Int) (e0 : Hid (p.lim = lim)) (e1 : Hid (p.ivl = ivl)) (e2 : Hid (p.spc = spc)) (e3 : Hid (p.fut = fut)) (t1 : decide ((2 : Int) ≤ ivl) = true) (t2 : decide (ivl ≤ (64 : Int)) = true) (t3 : decide ((1 : Int) ≤ spc) = false)
    (KT : Hid (∀ w, Calls Try.prog 19 #[.int .i64 lim, .int .i64 lim] w fun e w' => e = .returned (.tuple #[.agg (numC z), .bool true]) ∧ Below w.heap.size w w')) (w : World) :
    Calls Try.prog 17 #[.agg (prA p)] w fun e w' => e = .returned (.bool false) ∧ Below w.heap.size w w' := by
  have hP := pr_new w p
  have hbel : Below w.heap.size w (w.alloc (.cells (prA p) 32)) := (Below.refl _ _).alloc (Nat.le_refl _) _
  have c0 := hP.c0 e0
  go_enter Try.func17, Try.ntmps17
  go_upto_region 1 with fail
  generalize World.alloc _ _ = v0 at *
  generalize w.heap.size = b_hP at hP c0 ⊢
  go_wp2_with fail
  refine (KT.out _).mono ?_
  rintro e v1 ⟨rfl, hb1⟩
  replace hP := hP.on hb1
  replace hbel := hbel.trans (hb1.mono hbel.size)
  clear c0 hb1
  go_upto_region 2 with (with_reducible refine num_store rfl _ _ rfl _ _ rfl rfl _ (Has.newz _) rfl ?_)
  generalize hw2 : World.setRow _ _ _ = v2
  have hb2 : Below v1.heap.size v1 v2 := by rw [← hw2]; exact below_setRow ((Below.refl _ _).alloc (Nat.le_refl _) _) (Nat.le_refl _) _
  replace hP := hP.on hb2
  replace hbel := hbel.trans (hb2.mono hbel.size)
  clear hw2 hb2
  have c1 := hP.c1 e1
  have c2 := hP.c2 e2
  have c3 := hP.c3 e3
  go_wp2_with fail
  go_ret
  exact ⟨rfl, hbel⟩
set_option maxRecDepth 100000 in
set_option maxHeartbeats 1000000 in
theorem pgood_4 (p : Pr) (z : Nat) (lim ivl spc fut : Int) (e0 : Hid (p.lim = lim)) (e1 : Hid (p.ivl = ivl)) (e2 : Hid (p.spc = spc)) (e3 : Hid (p.fut = fut)) (t1 : decide ((2 : Int) ≤ ivl) = true) (t2 : decide (ivl ≤ (64 : Int)) = true) (t3 : decide ((1 : Int) ≤ spc) = true) (t4 : decide (spc ≤ (10000 : Int)) = false)
    (KT : Hid (∀ w, Calls Try.prog 19 #[.int .i64 lim, .int .i64 lim] w fun e w' => e = .returned (.tuple #[.agg (numC z), .bool true]) ∧ Below w.heap.size w w')) (w : World) :
    Calls Try.prog 17 #[.agg (prA p)] w fun e w' => e = .returned (.bool false) ∧ Below w.heap.size w w' := by
  have hP := pr_new w p
  have hbel : Below w.heap.size w (w.alloc (.cells (prA p) 32)) := (Below.refl _ _).alloc (Nat.le_refl _) _
  have c0 := hP.c0 e0
  go_enter Try.func17, Try.ntmps17
  go_upto_region 1 with fail
  generalize World.alloc _ _ = v0 at *
  generalize w.heap.size = b_hP at hP c0 ⊢
  go_wp2_with fail
  refine (KT.out _).mono ?_
  rintro e v1 ⟨rfl, hb1⟩
  replace hP := hP.on hb1
  replace hbel := hbel.trans (hb1.mono hbel.size)
  clear c0 hb1
  go_upto_region 2 with (with_reducible refine num_store rfl _ _ rfl _ _ rfl rfl _ (Has.newz _) rfl ?_)
  generalize hw2 : World.setRow _ _ _ = v2
  have hb2 : Below v1.heap.size v1 v2 := by rw [← hw2]; exact below_setRow ((Below.refl _ _).alloc (Nat.le_refl _) _) (Nat.le_refl _) _
  replace hP := hP.on hb2
  replace hbel := hbel.trans (hb2.mono hbel.size)
  clear hw2 hb2
  have c1 := hP.c1 e1
  have c2 := hP.c2 e2
  have c3 := hP.c3 e3
  go_wp2_with fail
  go_ret
  exact ⟨rfl, hbel⟩
set_option maxRecDepth 100000 in
set_option maxHeartbeats 1000000 in
theorem pgood_5 (p : Pr) (z : Nat) (lim ivl spc fut : Int) (e0 : Hid (p.lim = lim)) (e1 : Hid (p.ivl = ivl)) (e2 : Hid (p.spc = spc)) (e3 : Hid (p.fut = fut)) (t1 : decide ((2 : Int) ≤ ivl) = true) (t2 : decide (ivl ≤ (64 : Int)) = true) (t3 : decide ((1 : Int) ≤ spc) = true) (t4 : decide (spc ≤ (10000 : Int)) = true) (t5 : decide ((0 : Int) ≤ fut) = false)
    (KT : Hid (∀ w, Calls Try.prog 19 #[.int .i64 lim, .int .i64 lim] w fun e w' => e = .returned (.tuple #[.agg (numC z), .bool true]) ∧ Below w.heap.size w w')) (w : World) :
    Calls Try.prog 17 #[.agg (prA p)] w fun e w' => e = .returned (.bool false) ∧ Below w.heap.size w w' := by
  have hP := pr_new w p
  have hbel : Below w.heap.size w (w.alloc (.cells (prA p) 32)) := (Below.refl _ _).alloc (Nat.le_refl _) _
  have c0 := hP.c0 e0
  go_enter Try.func17, Try.ntmps17
  go_upto_region 1 with fail
  generalize World.alloc _ _ = v0 at *
  generalize w.heap.size = b_hP at hP c0 ⊢
  go_wp2_with fail
  refine (KT.out _).mono ?_
  rintro e v1 ⟨rfl, hb1⟩
  replace hP := hP.on hb1
  replace hbel := hbel.trans (hb1.mono hbel.size)
  clear c0 hb1
  go_upto_region 2 with (with_reducible refine num_store rfl _ _ rfl _ _ rfl rfl _ (Has.newz _) rfl ?_)
  generalize hw2 : World.setRow _ _ _ = v2
  have hb2 : Below v1.heap.size v1 v2 := by rw [← hw2]; exact below_setRow ((Below.refl _ _).alloc (Nat.le_refl _) _) (Nat.le_refl _) _
  replace hP := hP.on hb2
  replace hbel := hbel.trans (hb2.mono hbel.size)
  clear hw2 hb2
  have c1 := hP.c1 e1
  have c2 := hP.c2 e2
  have c3 := hP.c3 e3
  go_wp2_with fail
  go_ret
  exact ⟨rfl, hbel⟩
set_option maxRecDepth 100000 in
set_option maxHeartbeats 1000000 in
theorem pgood_6 (p : Pr) (z : Nat) (lim ivl spc fut : Int) (e0 : Hid (p.lim = lim)) (e1 : Hid (p.ivl = ivl)) (e2 : Hid (p.spc = spc)) (e3 : Hid (p.fut = fut)) (t1 : decide ((2 : Int) ≤ ivl) = true) (t2 : decide (ivl ≤ (64 : Int)) = true) (t3 : decide ((1 : Int) ≤ spc) = true) (t4 : decide (spc ≤ (10000 : Int)) = true) (t5 : decide ((0 : Int) ≤ fut) = true) (t6 : decide (fut < (4294967296 : Int)) = false)
    (KT : Hid (∀ w, Calls Try.prog 19 #[.int .i64 lim, .int .i64 lim] w fun e w' => e = .returned (.tuple #[.agg (numC z), .bool true]) ∧ Below w.heap.size w w')) (w : World) :
    Calls Try.prog 17 #[.agg (prA p)] w fun e w' => e = .returned (.bool false) ∧ Below w.heap.size w w' := by
  have hP := pr_new w p
  have hbel : Below w.heap.size w (w.alloc (.cells (prA p) 32)) := (Below.refl _ _).alloc (Nat.le_refl _) _
  have c0 := hP.c0 e0
  go_enter Try.func17, Try.ntmps17
  go_upto_region 1 with fail
  generalize World.alloc _ _ = v0 at *
  generalize w.heap.size = b_hP at hP c0 ⊢
  go_wp2_with fail
  refine (KT.out _).mono ?_
  rintro e v1 ⟨rfl, hb1⟩
  replace hP := hP.on hb1
  replace hbel := hbel.trans (hb1.mono hbel.size)
  clear c0 hb1
  go_upto_region 2 with (with_reducible refine num_store rfl _ _ rfl _ _ rfl rfl _ (Has.newz _) rfl ?_)
  generalize hw2 : World.setRow _ _ _ = v2
  have hb2 : Below v1.heap.size v1 v2 := by rw [← hw2]; exact below_setRow ((Below.refl _ _).alloc (Nat.le_refl _) _) (Nat.le_refl _) _
  replace hP := hP.on hb2
  replace hbel := hbel.trans (hb2.mono hbel.size)
  clear hw2 hb2
  have c1 := hP.c1 e1
  have c2 := hP.c2 e2
  have c3 := hP.c3 e3
  go_wp2_with fail
  go_ret
  exact ⟨rfl, hbel⟩
set_option maxRecDepth 100000 in
set_option maxHeartbeats 1000000 in
theorem pgood_7 (p : Pr) (z : Nat) (lim ivl spc fut : Int) (e0 : Hid (p.lim = lim)) (e1 : Hid (p.ivl = ivl)) (e2 : Hid (p.spc = spc)) (e3 : Hid (p.fut = fut)) (t1 : decide ((2 : Int) ≤ ivl) = true) (t2 : decide (ivl ≤ (64 : Int)) = true) (t3 : decide ((1 : Int) ≤ spc) = true) (t4 : decide (spc ≤ (10000 : Int)) = true) (t5 : decide ((0 : Int) ≤ fut) = true) (t6 : decide (fut < (4294967296 : Int)) = true)
    (KT : Hid (∀ w, Calls Try.prog 19 #[.int .i64 lim, .int .i64 lim] w fun e w' => e = .returned (.tuple #[.agg (numC z), .bool true]) ∧ Below w.heap.size w w')) (w : World) :
    Calls Try.prog 17 #[.agg (prA p)] w fun e w' => e = .returned (.bool true) ∧ Below w.heap.size w w' := by
  have hP := pr_new w p
  have hbel : Below w.heap.size w (w.alloc (.cells (prA p) 32)) := (Below.refl _ _).alloc (Nat.le_refl _) _
  have c0 := hP.c0 e0
  go_enter Try.func17, Try.ntmps17
  go_upto_region 1 with fail
  generalize World.alloc _ _ = v0 at *
  generalize w.heap.size = b_hP at hP c0 ⊢
  go_wp2_with fail
  refine (KT.out _).mono ?_
  rintro e v1 ⟨rfl, hb1⟩
  replace hP := hP.on hb1
  replace hbel := hbel.trans (hb1.mono hbel.size)
  clear c0 hb1
  go_upto_region 2 with (with_reducible refine num_store rfl _ _ rfl _ _ rfl rfl _ (Has.newz _) rfl ?_)
  generalize hw2 : World.setRow _ _ _ = v2
  have hb2 : Below v1.heap.size v1 v2 := by rw [← hw2]; exact below_setRow ((Below.refl _ _).alloc (Nat.le_refl _) _) (Nat.le_refl _) _
  replace hP := hP.on hb2
  replace hbel := hbel.trans (hb2.mono hbel.size)
  clear hw2 hb2
  have c1 := hP.c1 e1
  have c2 := hP.c2 e2
  have c3 := hP.c3 e3
  go_wp2_with fail
  go_ret
  exact ⟨rfl, hbel⟩
theorem pgood_at (p : Pr) (w : World) : Calls Try.prog 17 #[.agg (prA p)] w fun e w' => e = .returned (.bool p.good) ∧ Below w.heap.size w w' := by
  have K := fun w => tgt_at p.lim p.lim w
  by_cases h0 : ¬ (tok p.lim p.lim = true)
  · rw [Bool.not_eq_true] at h0
    rw [h0] at K
    have e : p.good = false := by unfold Pr.good; rw [h0]; rfl
    rw [e]
    exact pgood_0 p _ _ _ _ _ (Lib.hid rfl) (Lib.hid rfl) (Lib.hid rfl) (Lib.hid rfl) (Lib.hid K) w
  replace h0 := Decidable.not_not.1 h0
  rw [h0] at K
  by_cases h1 : ¬ (2 ≤ p.ivl)
  · have e : p.good = false := by unfold Pr.good; rw [decide_eq_false h1]; simp
    rw [e]
    exact pgood_1 p _ _ _ _ _ (Lib.hid rfl) (Lib.hid rfl) (Lib.hid rfl) (Lib.hid rfl) (decide_eq_false h1) (Lib.hid K) w
  replace h1 := Decidable.not_not.1 h1
  by_cases h2 : ¬ (p.ivl ≤ 64)
  · have e : p.good = false := by unfold Pr.good; rw [decide_eq_false h2]; simp
    rw [e]
    exact pgood_2 p _ _ _ _ _ (Lib.hid rfl) (Lib.hid rfl) (Lib.hid rfl) (Lib.hid rfl) (decide_eq_true h1) (decide_eq_false h2) (Lib.hid K) w
  replace h2 := Decidable.not_not.1 h2
  by_cases h3 : ¬ (1 ≤ p.spc)
  · have e : p.good = false := by unfold Pr.good; rw [decide_eq_false h3]; simp
    rw [e]
    exact pgood_3 p _ _ _ _ _ (Lib.hid rfl) (Lib.hid rfl) (Lib.hid rfl) (Lib.hid rfl) (decide_eq_true h1) (decide_eq_true h2) (decide_eq_false h3) (Lib.hid K) w
  replace h3 := Decidable.not_not.1 h3
  by_cases h4 : ¬ (p.spc ≤ 10000)
  · have e : p.good = false := by unfold Pr.good; rw [decide_eq_false h4]; simp
    rw [e]
    exact pgood_4 p _ _ _ _ _ (Lib.hid rfl) (Lib.hid rfl) (Lib.hid rfl) (Lib.hid rfl) (decide_eq_true h1) (decide_eq_true h2) (decide_eq_true h3) (decide_eq_false h4) (Lib.hid K) w
  replace h4 := Decidable.not_not.1 h4
  by_cases h5 : ¬ (0 ≤ p.fut)
  · have e : p.good = false := by unfold Pr.good; rw [decide_eq_false h5]; simp
    rw [e]
    exact pgood_5 p _ _ _ _ _ (Lib.hid rfl) (Lib.hid rfl) (Lib.hid rfl) (Lib.hid rfl) (decide_eq_true h1) (decide_eq_true h2) (decide_eq_true h3) (decide_eq_true h4) (decide_eq_false h5) (Lib.hid K) w
  replace h5 := Decidable.not_not.1 h5
  by_cases h6 : ¬ (p.fut < 4294967296)
  · have e : p.good = false := by unfold Pr.good; rw [decide_eq_false h6]; simp
    rw [e]
    exact pgood_6 p _ _ _ _ _ (Lib.hid rfl) (Lib.hid rfl) (Lib.hid rfl) (Lib.hid rfl) (decide_eq_true h1) (decide_eq_true h2) (decide_eq_true h3) (decide_eq_true h4) (decide_eq_true h5) (decide_eq_false h6) (Lib.hid K) w
  replace h6 := Decidable.not_not.1 h6
  have e : p.good = true := by unfold Pr.good; rw [h0, decide_eq_true h1, decide_eq_true h2, decide_eq_true h3, decide_eq_true h4, decide_eq_true h5, decide_eq_true h6]; rfl
  rw [e]
  exact pgood_7 p _ _ _ _ _ (Lib.hid rfl) (Lib.hid rfl) (Lib.hid rfl) (Lib.hid rfl) (decide_eq_true h1) (decide_eq_true h2) (decide_eq_true h3) (decide_eq_true h4) (decide_eq_true h5) (decide_eq_true h6) (Lib.hid K) w
set_option maxRecDepth 100000 in
set_option maxHeartbeats 1000000 in
theorem rgood_0 (p : Pr) (z : Nat) (lim ivl spc fut : Int) (e0 : Hid (p.lim = lim)) (e1 : Hid (p.ivl = ivl)) (e2 : Hid (p.spc = spc)) (e3 : Hid (p.fut = fut))
    (KT : Hid (∀ w, Calls Try.prog 10 #[.int .i64 lim, .int .i64 lim] w fun e w' => e = .returned (.tuple #[.agg (numC z), .bool false]) ∧ Below w.heap.size w w')) (w : World) :
    Calls Try.prog 9 #[.agg (prA p)] w fun e w' => e = .returned (.bool false) ∧ Below w.heap.size w w' := by
  have hP := pr_new w p
  have hbel : Below w.heap.size w (w.alloc (.cells (prA p) 32)) := (Below.refl _ _).alloc (Nat.le_refl _) _
  have c0 := hP.c0 e0
  go_enter Try.func9, Try.ntmps9
  go_upto_region 1 with fail
  generalize World.alloc _ _ = v0 at *
  generalize w.heap.size = b_hP at hP c0 ⊢
  go_wp2_with fail
  refine (KT.out _).mono ?_
  rintro e v1 ⟨rfl, hb1⟩
  replace hP := hP.on hb1
  replace hbel := hbel.trans (hb1.mono hbel.size)
  clear c0 hb1
  go_upto_region 2 with (with_reducible refine num_store rfl _ _ rfl _ _ rfl rfl _ (Has.newz _) rfl ?_)
  generalize hw2 : World.setRow _ _ _ = v2
  have hb2 : Below v1.heap.size v1 v2 := by rw [← hw2]; exact below_setRow ((Below.refl _ _).alloc (Nat.le_refl _) _) (Nat.le_refl _) _
  replace hP := hP.on hb2
  replace hbel := hbel.trans (hb2.mono hbel.size)
  clear hw2 hb2
  have c1 := hP.c1 e1
  have c2 := hP.c2 e2
  have c3 := hP.c3 e3
  go_wp2_with fail
  go_ret
  exact ⟨rfl, hbel⟩
set_option maxRecDepth 100000 in
set_option maxHeartbeats 1000000 in
theorem rgood_1 (p : Pr) (z : Nat) (lim ivl spc fut : Int) (e0 : Hid (p.lim = lim)) (e1 : Hid (p.ivl = ivl)) (e2 : Hid (p.spc = spc)) (e3 : Hid (p.fut = fut)) (t1 : decide ((2 : Int) ≤ ivl) = false)
    (KT : Hid (∀ w, Calls Try.prog 10 #[.int .i64 lim, .int .i64 lim] w fun e w' => e = .returned (.tuple #[.agg (numC z), .bool true]) ∧ Below w.heap.size w w')) (w : World) :
    Calls Try.prog 9 #[.agg (prA p)] w fun e w' => e = .returned (.bool false) ∧ Below w.heap.size w w' := by
  have hP := pr_new w p
  have hbel : Below w.heap.size w (w.alloc (.cells (prA p) 32)) := (Below.refl _ _).alloc (Nat.le_refl _) _
  have c0 := hP.c0 e0
  go_enter Try.func9, Try.ntmps9
  go_upto_region 1 with fail
  generalize World.alloc _ _ = v0 at *
  generalize w.heap.size = b_hP at hP c0 ⊢
  go_wp2_with fail
  refine (KT.out _).mono ?_
  rintro e v1 ⟨rfl, hb1⟩
  replace hP := hP.on hb1
  replace hbel := hbel.trans (hb1.mono hbel.size)
  clear c0 hb1
  go_upto_region 2 with (with_reducible refine num_store rfl _ _ rfl _ _ rfl rfl _ (Has.newz _) rfl ?_)
  generalize hw2 : World.setRow _ _ _ = v2
  have hb2 : Below v1.heap.size v1 v2 := by rw [← hw2]; exact below_setRow ((Below.refl _ _).alloc (Nat.le_refl _) _) (Nat.le_refl _) _
  replace hP := hP.on hb2
  replace hbel := hbel.trans (hb2.mono hbel.size)
  clear hw2 hb2
  have c1 := hP.c1 e1
  have c2 := hP.c2 e2
  have c3 := hP.c3 e3
  go_wp2_with fail
  go_ret
  exact ⟨rfl, hbel⟩
set_option maxRecDepth 100000 in
set_option maxHeartbeats 1000000 in
theorem rgood_2 (p : Pr) (z : Nat) (lim ivl spc fut : Int) (e0 : Hid (p.lim = lim)) (e1 : Hid (p.ivl = ivl)) (e2 : Hid (p.spc = spc)) (e3 : Hid (p.fut = fut)) (t1 : decide ((2 : Int) ≤ ivl) = true) (t2 : decide (ivl ≤ (64 : Int)) = false)
    (KT : Hid (∀ w, Calls Try.prog 10 #[.int .i64 lim, .int .i64 lim] w fun e w' => e = .returned (.tuple #[.agg (numC z), .bool true]) ∧ Below w.heap.size w w')) (w : World) :
    Calls Try.prog 9 #[.agg (prA p)] w fun e w' => e = .returned (.bool false) ∧ Below w.heap.size w w' := by
  have hP := pr_new w p
  have hbel : Below w.heap.size w (w.alloc (.cells (prA p) 32)) := (Below.refl _ _).alloc (Nat.le_refl _) _
  have c0 := hP.c0 e0
  go_enter Try.func9, Try.ntmps9
  go_upto_region 1 with fail
  generalize World.alloc _ _ = v0 at *
  generalize w.heap.size = b_hP at hP c0 ⊢
  go_wp2_with fail
  refine (KT.out _).mono ?_
  rintro e v1 ⟨rfl, hb1⟩
  replace hP := hP.on hb1
  replace hbel := hbel.trans (hb1.mono hbel.size)
  clear c0 hb1
  go_upto_region 2 with (with_reducible refine num_store rfl _ _ rfl _ _ rfl rfl _ (Has.newz _) rfl ?_)
  generalize hw2 : World.setRow _ _ _ = v2
  have hb2 : Below v1.heap.size v1 v2 := by rw [← hw2]; exact below_setRow ((Below.refl _ _).alloc (Nat.le_refl _) _) (Nat.le_refl _) _
  replace hP := hP.on hb2
  replace hbel := hbel.trans (hb2.mono hbel.size)
  clear hw2 hb2
  have c1 := hP.c1 e1
  have c2 := hP.c2 e2
  have c3 := hP.c3 e3
  go_wp2_with fail
  go_ret
  exact ⟨rfl, hbel⟩
set_option maxRecDepth 100000 in
set_option maxHeartbeats 1000000 in
theorem rgood_3 (p : Pr) (z : Nat) (lim ivl spc fut : Int) (e0 : Hid (p.lim = lim)) (e1 : Hid (p.ivl = ivl)) (e2 : Hid (p.spc = spc)) (e3 : Hid (p.fut = fut)) (t1 : decide ((2 : Int) ≤ ivl) = true) (t2 : decide (ivl ≤ (64 : Int)) = true) (t3 : decide ((1 : Int) ≤ spc) = false)
    (KT : Hid (∀ w, Calls Try.prog 10 #[.int .i64 lim, .int .i64 lim] w fun e w' => e = .returned (.tuple #[.agg (numC z), .bool true]) ∧ Below w.heap.size w w')) (w : World) :
    Calls Try.prog 9 #[.agg (prA p)] w fun e w' => e = .returned (.bool false) ∧ Below w.heap.size w w' := by
  have hP := pr_new w p
  have hbel : Below w.heap.size w (w.alloc (.cells (prA p) 32)) := (Below.refl _ _).alloc (Nat.le_refl _) _
  have c0 := hP.c0 e0
  go_enter Try.func9, Try.ntmps9
  go_upto_region 1 with fail
  generalize World.alloc _ _ = v0 at *
  generalize w.heap.size = b_hP at hP c0 ⊢
  go_wp2_with fail
  refine (KT.out _).mono ?_
  rintro e v1 ⟨rfl, hb1⟩
  replace hP := hP.on hb1
  replace hbel := hbel.trans (hb1.mono hbel.size)
  clear c0 hb1
  go_upto_region 2 with (with_reducible refine num_store rfl _ _ rfl _ _ rfl rfl _ (Has.newz _) rfl ?_)
  generalize hw2 : World.setRow _ _ _ = v2
  have hb2 : Below v1.heap.size v1 v2 := by rw [← hw2]; exact below_setRow ((Below.refl _ _).alloc (Nat.le_refl _) _) (Nat.le_refl _) _
  replace hP := hP.on hb2
  replace hbel := hbel.trans (hb2.mono hbel.size)
  clear hw2 hb2
  have c1 := hP.c1 e1
  have c2 := hP.c2 e2
  have c3 := hP.c3 e3
  go_wp2_with fail
  go_ret
  exact ⟨rfl, hbel⟩
set_option maxRecDepth 100000 in
set_option maxHeartbeats 1000000 in
theorem rgood_4 (p : Pr) (z : Nat) (lim ivl spc fut : Int) (e0 : Hid (p.lim = lim)) (e1 : Hid (p.ivl = ivl)) (e2 : Hid (p.spc = spc)) (e3 : Hid (p.fut = fut)) (t1 : decide ((2 : Int) ≤ ivl) = true) (t2 : decide (ivl ≤ (64 : Int)) = true) (t3 : decide ((1 : Int) ≤ spc) = true) (t4 : decide (spc ≤ (10000 : Int)) = false)
    (KT : Hid (∀ w, Calls Try.prog 10 #[.int .i64 lim, .int .i64 lim] w fun e w' => e = .returned (.tuple #[.agg (numC z), .bool true]) ∧ Below w.heap.size w w')) (w : World) :
    Calls Try.prog 9 #[.agg (prA p)] w fun e w' => e = .returned (.bool false) ∧ Below w.heap.size w w' := by
  have hP := pr_new w p
  have hbel : Below w.heap.size w (w.alloc (.cells (prA p) 32)) := (Below.refl _ _).alloc (Nat.le_refl _) _
  have c0 := hP.c0 e0
  go_enter Try.func9, Try.ntmps9
  go_upto_region 1 with fail
  generalize World.alloc _ _ = v0 at *
  generalize w.heap.size = b_hP at hP c0 ⊢
  go_wp2_with fail
  refine (KT.out _).mono ?_
  rintro e v1 ⟨rfl, hb1⟩
  replace hP := hP.on hb1
  replace hbel := hbel.trans (hb1.mono hbel.size)
  clear c0 hb1
  go_upto_region 2 with (with_reducible refine num_store rfl _ _ rfl _ _ rfl rfl _ (Has.newz _) rfl ?_)
  generalize hw2 : World.setRow _ _ _ = v2
  have hb2 : Below v1.heap.size v1 v2 := by rw [← hw2]; exact below_setRow ((Below.refl _ _).alloc (Nat.le_refl _) _) (Nat.le_refl _) _
  replace hP := hP.on hb2
  replace hbel := hbel.trans (hb2.mono hbel.size)
  clear hw2 hb2
  have c1 := hP.c1 e1
  have c2 := hP.c2 e2
  have c3 := hP.c3 e3
  go_wp2_with fail
  go_ret
  exact ⟨rfl, hbel⟩
set_option maxRecDepth 100000 in
set_option maxHeartbeats 1000000 in
theorem rgood_5 (p : Pr) (z : Nat) (lim ivl spc fut : Int) (e0 : Hid (p.lim = lim)) (e1 : Hid (p.ivl = ivl)) (e2 : Hid (p.spc = spc)) (e3 : Hid (p.fut = fut)) (t1 : decide ((2 : Int) ≤ ivl) = true) (t2 : decide (ivl ≤ (64 : Int)) = true) (t3 : decide ((1 : Int) ≤ spc) = true) (t4 : decide (spc ≤ (10000 : Int)) = true) (t5 : decide ((0 : Int) ≤ fut) = false)
    (KT : Hid (∀ w, Calls Try.prog 10 #[.int .i64 lim, .int .i64 lim] w fun e w' => e = .returned (.tuple #[.agg (numC z), .bool true]) ∧ Below w.heap.size w w')) (w : World) :
    Calls Try.prog 9 #[.agg (prA p)] w fun e w' => e = .returned (.bool false) ∧ Below w.heap.size w w' := by
  have hP := pr_new w p
  have hbel : Below w.heap.size w (w.alloc (.cells (prA p) 32)) := (Below.refl _ _).alloc (Nat.le_refl _) _
  have c0 := hP.c0 e0
  go_enter Try.func9, Try.ntmps9
  go_upto_region 1 with fail
  generalize World.alloc _ _ = v0 at *
  generalize w.heap.size = b_hP at hP c0 ⊢
  go_wp2_with fail
  refine (KT.out _).mono ?_
  rintro e v1 ⟨rfl, hb1⟩
  replace hP := hP.on hb1
  replace hbel := hbel.trans (hb1.mono hbel.size)
  clear c0 hb1
  go_upto_region 2 with (with_reducible refine num_store rfl _ _ rfl _ _ rfl rfl _ (Has.newz _) rfl ?_)
  generalize hw2 : World.setRow _ _ _ = v2
  have hb2 : Below v1.heap.size v1 v2 := by rw [← hw2]; exact below_setRow ((Below.refl _ _).alloc (Nat.le_refl _) _) (Nat.le_refl _) _
  replace hP := hP.on hb2
  replace hbel := hbel.trans (hb2.mono hbel.size)
  clear hw2 hb2
  have c1 := hP.c1 e1
  have c2 := hP.c2 e2
  have c3 := hP.c3 e3
  go_wp2_with fail
  go_ret
  exact ⟨rfl, hbel⟩
set_option maxRecDepth 100000 in
set_option maxHeartbeats 1000000 in
theorem rgood_6 (p : Pr) (z : Nat) (lim ivl spc fut : Int) (e0 : Hid (p.lim = lim)) (e1 : Hid (p.ivl = ivl)) (e2 : Hid (p.spc = spc)) (e3 : Hid (p.fut = fut)) (t1 : decide ((2 : Int) ≤ ivl) = true) (t2 : decide (ivl ≤ (64 : Int)) = true) (t3 : decide ((1 : Int) ≤ spc) = true) (t4 : decide (spc ≤ (10000 : Int)) = true) (t5 : decide ((0 : Int) ≤ fut) = true) (t6 : decide (fut < (4294967296 : Int)) = false)
    (KT : Hid (∀ w, Calls Try.prog 10 #[.int .i64 lim, .int .i64 lim] w fun e w' => e = .returned (.tuple #[.agg (numC z), .bool true]) ∧ Below w.heap.size w w')) (w : World) :
    Calls Try.prog 9 #[.agg (prA p)] w fun e w' => e = .returned (.bool false) ∧ Below w.heap.size w w' := by
  have hP := pr_new w p
  have hbel : Below w.heap.size w (w.alloc (.cells (prA p) 32)) := (Below.refl _ _).alloc (Nat.le_refl _) _
  have c0 := hP.c0 e0
  go_enter Try.func9, Try.ntmps9
  go_upto_region 1 with fail
  generalize World.alloc _ _ = v0 at *
  generalize w.heap.size = b_hP at hP c0 ⊢
  go_wp2_with fail
  refine (KT.out _).mono ?_
  rintro e v1 ⟨rfl, hb1⟩
  replace hP := hP.on hb1
  replace hbel := hbel.trans (hb1.mono hbel.size)
  clear c0 hb1
  go_upto_region 2 with (with_reducible refine num_store rfl _ _ rfl _ _ rfl rfl _ (Has.newz _) rfl ?_)
  generalize hw2 : World.setRow _ _ _ = v2
  have hb2 : Below v1.heap.size v1 v2 := by rw [← hw2]; exact below_setRow ((Below.refl _ _).alloc (Nat.le_refl _) _) (Nat.le_refl _) _
  replace hP := hP.on hb2
  replace hbel := hbel.trans (hb2.mono hbel.size)
  clear hw2 hb2
  have c1 := hP.c1 e1
  have c2 := hP.c2 e2
  have c3 := hP.c3 e3
  go_wp2_with fail
  go_ret
  exact ⟨rfl, hbel⟩
set_option maxRecDepth 100000 in
set_option maxHeartbeats 1000000 in
theorem rgood_7 (p : Pr) (z : Nat) (lim ivl spc fut : Int) (e0 : Hid (p.lim = lim)) (e1 : Hid (p.ivl = ivl)) (e2 : Hid (p.spc = spc)) (e3 : Hid (p.fut = fut)) (t1 : decide ((2 : Int) ≤ ivl) = true) (t2 : decide (ivl ≤ (64 : Int)) = true) (t3 : decide ((1 : Int) ≤ spc) = true) (t4 : decide (spc ≤ (10000 : Int)) = true) (t5 : decide ((0 : Int) ≤ fut) = true) (t6 : decide (fut < (4294967296 : Int)) = true)
    (KT : Hid (∀ w, Calls Try.prog 10 #[.int .i64 lim, .int .i64 lim] w fun e w' => e = .returned (.tuple #[.agg (numC z), .bool true]) ∧ Below w.heap.size w w')) (w : World) :
    Calls Try.prog 9 #[.agg (prA p)] w fun e w' => e = .returned (.bool true) ∧ Below w.heap.size w w' := by
  have hP := pr_new w p
  have hbel : Below w.heap.size w (w.alloc (.cells (prA p) 32)) := (Below.refl _ _).alloc (Nat.le_refl _) _
  have c0 := hP.c0 e0
  go_enter Try.func9, Try.ntmps9
  go_upto_region 1 with fail
  generalize World.alloc _ _ = v0 at *
  generalize w.heap.size = b_hP at hP c0 ⊢
  go_wp2_with fail
  refine (KT.out _).mono ?_
  rintro e v1 ⟨rfl, hb1⟩
  replace hP := hP.on hb1
  replace hbel := hbel.trans (hb1.mono hbel.size)
  clear c0 hb1
  go_upto_region 2 with (with_reducible refine num_store rfl _ _ rfl _ _ rfl rfl _ (Has.newz _) rfl ?_)
  generalize hw2 : World.setRow _ _ _ = v2
  have hb2 : Below v1.heap.size v1 v2 := by rw [← hw2]; exact below_setRow ((Below.refl _ _).alloc (Nat.le_refl _) _) (Nat.le_refl _) _
  replace hP := hP.on hb2
  replace hbel := hbel.trans (hb2.mono hbel.size)
  clear hw2 hb2
  have c1 := hP.c1 e1
  have c2 := hP.c2 e2
  have c3 := hP.c3 e3
  go_wp2_with fail
  go_ret
  exact ⟨rfl, hbel⟩
theorem rgood_at (p : Pr) (w : World) : Calls Try.prog 9 #[.agg (prA p)] w fun e w' => e = .returned (.bool p.good) ∧ Below w.heap.size w w' := by
  have K := fun w => rtgt_at p.lim p.lim w
  by_cases h0 : ¬ (tok p.lim p.lim = true)
  · rw [Bool.not_eq_true] at h0
    rw [h0] at K
    have e : p.good = false := by unfold Pr.good; rw [h0]; rfl
    rw [e]
    exact rgood_0 p _ _ _ _ _ (Lib.hid rfl) (Lib.hid rfl) (Lib.hid rfl) (Lib.hid rfl) (Lib.hid K) w
  replace h0 := Decidable.not_not.1 h0
  rw [h0] at K
  by_cases h1 : ¬ (2 ≤ p.ivl)
  · have e : p.good = false := by unfold Pr.good; rw [decide_eq_false h1]; simp
    rw [e]
    exact rgood_1 p _ _ _ _ _ (Lib.hid rfl) (Lib.hid rfl) (Lib.hid rfl) (Lib.hid rfl) (decide_eq_false h1) (Lib.hid K) w
  replace h1 := Decidable.not_not.1 h1
  by_cases h2 : ¬ (p.ivl ≤ 64)
  · have e : p.good = false := by unfold Pr.good; rw [decide_eq_false h2]; simp
    rw [e]
    exact rgood_2 p _ _ _ _ _ (Lib.hid rfl) (Lib.hid rfl) (Lib.hid rfl) (Lib.hid rfl) (decide_eq_true h1) (decide_eq_false h2) (Lib.hid K) w
  replace h2 := Decidable.not_not.1 h2
  by_cases h3 : ¬ (1 ≤ p.spc)
  · have e : p.good = false := by unfold Pr.good; rw [decide_eq_false h3]; simp
    rw [e]
    exact rgood_3 p _ _ _ _ _ (Lib.hid rfl) (Lib.hid rfl) (Lib.hid rfl) (Lib.hid rfl) (decide_eq_true h1) (decide_eq_true h2) (decide_eq_false h3) (Lib.hid K) w
  replace h3 := Decidable.not_not.1 h3
  by_cases h4 : ¬ (p.spc ≤ 10000)
  · have e : p.good = false := by unfold Pr.good; rw [decide_eq_false h4]; simp
    rw [e]
    exact rgood_4 p _ _ _ _ _ (Lib.hid rfl) (Lib.hid rfl) (Lib.hid rfl) (Lib.hid rfl) (decide_eq_true h1) (decide_eq_true h2) (decide_eq_true h3) (decide_eq_false h4) (Lib.hid K) w
  replace h4 := Decidable.not_not.1 h4
  by_cases h5 : ¬ (0 ≤ p.fut)
  · have e : p.good = false := by unfold Pr.good; rw [decide_eq_false h5]; simp
    rw [e]
    exact rgood_5 p _ _ _ _ _ (Lib.hid rfl) (Lib.hid rfl) (Lib.hid rfl) (Lib.hid rfl) (decide_eq_true h1) (decide_eq_true h2) (decide_eq_true h3) (decide_eq_true h4) (decide_eq_false h5) (Lib.hid K) w
  replace h5 := Decidable.not_not.1 h5
  by_cases h6 : ¬ (p.fut < 4294967296)
  · have e : p.good = false := by unfold Pr.good; rw [decide_eq_false h6]; simp
    rw [e]
    exact rgood_6 p _ _ _ _ _ (Lib.hid rfl) (Lib.hid rfl) (Lib.hid rfl) (Lib.hid rfl) (decide_eq_true h1) (decide_eq_true h2) (decide_eq_true h3) (decide_eq_true h4) (decide_eq_true h5) (decide_eq_false h6) (Lib.hid K) w
  replace h6 := Decidable.not_not.1 h6
  have e : p.good = true := by unfold Pr.good; rw [h0, decide_eq_true h1, decide_eq_true h2, decide_eq_true h3, decide_eq_true h4, decide_eq_true h5, decide_eq_true h6]; rfl
  rw [e]
  exact rgood_7 p _ _ _ _ _ (Lib.hid rfl) (Lib.hid rfl) (Lib.hid rfl) (Lib.hid rfl) (decide_eq_true h1) (decide_eq_true h2) (decide_eq_true h3) (decide_eq_true h4) (decide_eq_true h5) (decide_eq_true h6) (Lib.hid K) w
end Go.Proofs.Ytmemppkkchfphaa
