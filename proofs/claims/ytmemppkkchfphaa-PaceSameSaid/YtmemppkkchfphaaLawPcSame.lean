/-
  PaceSame: the walk.
-/
import Derived.Test.YtmemppkkchfphaaPcAlive
namespace Go.Proofs.Ytmemppkkchfphaa
open Go.RowKit
set_option maxRecDepth 100000 in
set_option maxHeartbeats 2000000 in
theorem same_low (p : Pr) (hz : (prA p).size = 83) (x : Pt) (own : Int) (xh : Int) (g0 : Hid (x.h = xh)) 
    (t1 : decide (xh < 1) = true) (w : World) :
    Calls Try.prog 7 #[.agg (prA p), .agg (ptA x), .int .i64 own] w fun e w' => e = .returned (.bool true) ∧ Below w.heap.size w w' := by
  have KA := Lib.hid alive10
  have hP_z := hz
  go_enter Try.func7, Try.ntmps7
  go_upto_region 1 with fail
  generalize hw0 : World.alloc _ _ = v0
  have hbel : Below w.heap.size w v0 := by rw [← hw0]; exact ((Below.refl _ _).alloc (by first | exact Nat.le_refl _ | (simp; done) | (simp; omega)) _).alloc (by first | exact Nat.le_refl _ | (simp; done) | (simp; omega)) _
  have hP : PrAt v0 (w.heap.size) p := by rw [← hw0]; exact (Has.new _ _).alloc _
  have hX : PtAt v0 (w.heap.size + 1) x := by rw [← hw0]; exact Has.new1 _ _ _
  clear hw0
  generalize hg1 : w.heap.size + 1 = b_hX at hX ⊢
  clear hg1
  have d0 := hX.c0 g0
  go_wp2_with (first | fail | (with_reducible refine pr_load rfl _ rfl _ rfl hP hP_z ?_) | (with_reducible refine pr_load_g (by with_unfolding_all rfl) _ rfl _ rfl hP hP_z ?_) | (with_reducible refine pt_load rfl _ rfl _ rfl hX ?_) | (with_reducible refine pt_load_g (by with_unfolding_all rfl) _ rfl _ rfl hX ?_))
  refine (KA.out _).mono ?_
  rintro e v1 ⟨rfl, hb1⟩
  replace hP := hP.on hb1
  replace hX := hX.on hb1
  replace d0 := hX.c0 g0
  replace hbel := hbel.trans (hb1.mono hbel.size)
  clear hb1
  go_wp2_with (first | fail | (with_reducible refine pr_load rfl _ rfl _ rfl hP hP_z ?_) | (with_reducible refine pr_load_g (by with_unfolding_all rfl) _ rfl _ rfl hP hP_z ?_) | (with_reducible refine pt_load rfl _ rfl _ rfl hX ?_) | (with_reducible refine pt_load_g (by with_unfolding_all rfl) _ rfl _ rfl hX ?_))
  go_ret
  exact ⟨rfl, hbel⟩
set_option maxRecDepth 100000 in
set_option maxHeartbeats 2000000 in
theorem same_few (p : Pr) (hz : (prA p).size = 83) (x : Pt) (own : Int) (xh ivl : Int) (g0 : Hid (x.h = xh)) (e1 : Hid (p.ivl = ivl)) 
    (t1 : decide (xh < 1) = false) (t2 : decide (ivl < 1) = true) (w : World) :
    Calls Try.prog 7 #[.agg (prA p), .agg (ptA x), .int .i64 own] w fun e w' => e = .returned (.bool true) ∧ Below w.heap.size w w' := by
  have KA := Lib.hid alive10
  have hP_z := hz
  go_enter Try.func7, Try.ntmps7
  go_upto_region 1 with fail
  generalize hw0 : World.alloc _ _ = v0
  have hbel : Below w.heap.size w v0 := by rw [← hw0]; exact ((Below.refl _ _).alloc (by first | exact Nat.le_refl _ | (simp; done) | (simp; omega)) _).alloc (by first | exact Nat.le_refl _ | (simp; done) | (simp; omega)) _
  have hP : PrAt v0 (w.heap.size) p := by rw [← hw0]; exact (Has.new _ _).alloc _
  have hX : PtAt v0 (w.heap.size + 1) x := by rw [← hw0]; exact Has.new1 _ _ _
  clear hw0
  generalize hg1 : w.heap.size + 1 = b_hX at hX ⊢
  clear hg1
  have c1 := hP.c1 e1
  have d0 := hX.c0 g0
  go_wp2_with (first | fail | (with_reducible refine pr_load rfl _ rfl _ rfl hP hP_z ?_) | (with_reducible refine pr_load_g (by with_unfolding_all rfl) _ rfl _ rfl hP hP_z ?_) | (with_reducible refine pt_load rfl _ rfl _ rfl hX ?_) | (with_reducible refine pt_load_g (by with_unfolding_all rfl) _ rfl _ rfl hX ?_))
  refine (KA.out _).mono ?_
  rintro e v1 ⟨rfl, hb1⟩
  replace hP := hP.on hb1
  replace hX := hX.on hb1
  replace c1 := hP.c1 e1
  replace d0 := hX.c0 g0
  replace hbel := hbel.trans (hb1.mono hbel.size)
  clear hb1
  go_wp2_with (first | fail | (with_reducible refine pr_load rfl _ rfl _ rfl hP hP_z ?_) | (with_reducible refine pr_load_g (by with_unfolding_all rfl) _ rfl _ rfl hP hP_z ?_) | (with_reducible refine pt_load rfl _ rfl _ rfl hX ?_) | (with_reducible refine pt_load_g (by with_unfolding_all rfl) _ rfl _ rfl hX ?_))
  go_ret
  exact ⟨rfl, hbel⟩
set_option maxRecDepth 100000 in
set_option maxHeartbeats 2000000 in
theorem same_first (p : Pr) (hz : (prA p).size = 83) (x : Pt) (own : Int) (xh ivl : Int) (g0 : Hid (x.h = xh)) (e1 : Hid (p.ivl = ivl)) 
    (t1 : decide (xh < 1) = false) (t2 : decide (ivl < 1) = false) (hne : ¬ ivl = 0) (m : Int) (hm : xh.tmod ivl = m) (hmb : (m == 0) = true)  (w : World) :
    Calls Try.prog 7 #[.agg (prA p), .agg (ptA x), .int .i64 own] w fun e w' => e = .returned (.bool true) ∧ Below w.heap.size w w' := by
  have KA := Lib.hid alive10
  have hP_z := hz
  go_enter Try.func7, Try.ntmps7
  go_upto_region 1 with fail
  generalize hw0 : World.alloc _ _ = v0
  have hbel : Below w.heap.size w v0 := by rw [← hw0]; exact ((Below.refl _ _).alloc (by first | exact Nat.le_refl _ | (simp; done) | (simp; omega)) _).alloc (by first | exact Nat.le_refl _ | (simp; done) | (simp; omega)) _
  have hP : PrAt v0 (w.heap.size) p := by rw [← hw0]; exact (Has.new _ _).alloc _
  have hX : PtAt v0 (w.heap.size + 1) x := by rw [← hw0]; exact Has.new1 _ _ _
  clear hw0
  generalize hg1 : w.heap.size + 1 = b_hX at hX ⊢
  clear hg1
  have c1 := hP.c1 e1
  have d0 := hX.c0 g0
  go_wp2_with (first | fail | (with_reducible refine pr_load rfl _ rfl _ rfl hP hP_z ?_) | (with_reducible refine pr_load_g (by with_unfolding_all rfl) _ rfl _ rfl hP hP_z ?_) | (with_reducible refine pt_load rfl _ rfl _ rfl hX ?_) | (with_reducible refine pt_load_g (by with_unfolding_all rfl) _ rfl _ rfl hX ?_))
  refine (KA.out _).mono ?_
  rintro e v1 ⟨rfl, hb1⟩
  replace hP := hP.on hb1
  replace hX := hX.on hb1
  replace c1 := hP.c1 e1
  replace d0 := hX.c0 g0
  replace hbel := hbel.trans (hb1.mono hbel.size)
  clear hb1
  go_wp2_with (first | fail | (with_reducible refine pr_load rfl _ rfl _ rfl hP hP_z ?_) | (with_reducible refine pr_load_g (by with_unfolding_all rfl) _ rfl _ rfl hP hP_z ?_) | (with_reducible refine pt_load rfl _ rfl _ rfl hX ?_) | (with_reducible refine pt_load_g (by with_unfolding_all rfl) _ rfl _ rfl hX ?_))
  go_ret
  exact ⟨rfl, hbel⟩
set_option maxRecDepth 100000 in
set_option maxHeartbeats 2000000 in
theorem same_bits (p : Pr) (hz : (prA p).size = 83) (x : Pt) (own : Int) (xh ivl : Int) (g0 : Hid (x.h = xh)) (e1 : Hid (p.ivl = ivl)) (xb : Int) (g1 : Hid (x.b = xb)) (e4 : Hid (p.easy = false)) 
    (t1 : decide (xh < 1) = false) (t2 : decide (ivl < 1) = false) (hne : ¬ ivl = 0) (m : Int) (hm : xh.tmod ivl = m) (hmb : (m == 0) = false) 
    (KN : Hid (∀ w, Calls Try.prog 16 #[.agg (prA p), .agg (ptA x), .int .i64 own] w fun e w' => e = .returned (.int .i64 xb) ∧ Below w.heap.size w w')) (w : World) :
    Calls Try.prog 7 #[.agg (prA p), .agg (ptA x), .int .i64 own] w fun e w' => e = .returned (.bool true) ∧ Below w.heap.size w w' := by
  have KA := Lib.hid alive10
  have hP_z := hz
  go_enter Try.func7, Try.ntmps7
  go_upto_region 1 with fail
  generalize hw0 : World.alloc _ _ = v0
  have hbel : Below w.heap.size w v0 := by rw [← hw0]; exact ((Below.refl _ _).alloc (by first | exact Nat.le_refl _ | (simp; done) | (simp; omega)) _).alloc (by first | exact Nat.le_refl _ | (simp; done) | (simp; omega)) _
  have hP : PrAt v0 (w.heap.size) p := by rw [← hw0]; exact (Has.new _ _).alloc _
  have hX : PtAt v0 (w.heap.size + 1) x := by rw [← hw0]; exact Has.new1 _ _ _
  clear hw0
  generalize hg1 : w.heap.size + 1 = b_hX at hX ⊢
  clear hg1
  have c1 := hP.c1 e1
  have c4 := hP.c4 e4
  have d0 := hX.c0 g0
  have d1 := hX.c1 g1
  go_wp2_with (first | fail | (with_reducible refine pr_load rfl _ rfl _ rfl hP hP_z ?_) | (with_reducible refine pr_load_g (by with_unfolding_all rfl) _ rfl _ rfl hP hP_z ?_) | (with_reducible refine pt_load rfl _ rfl _ rfl hX ?_) | (with_reducible refine pt_load_g (by with_unfolding_all rfl) _ rfl _ rfl hX ?_))
  refine (KA.out _).mono ?_
  rintro e v1 ⟨rfl, hb1⟩
  replace hP := hP.on hb1
  replace hX := hX.on hb1
  replace c1 := hP.c1 e1
  replace c4 := hP.c4 e4
  replace d0 := hX.c0 g0
  replace d1 := hX.c1 g1
  replace hbel := hbel.trans (hb1.mono hbel.size)
  clear hb1
  go_wp2_with (first | fail | (with_reducible refine pr_load rfl _ rfl _ rfl hP hP_z ?_) | (with_reducible refine pr_load_g (by with_unfolding_all rfl) _ rfl _ rfl hP hP_z ?_) | (with_reducible refine pt_load rfl _ rfl _ rfl hX ?_) | (with_reducible refine pt_load_g (by with_unfolding_all rfl) _ rfl _ rfl hX ?_))
  refine (KN.out _).mono ?_
  rintro e v2 ⟨rfl, hb2⟩
  replace hP := hP.on hb2
  replace hX := hX.on hb2
  replace c1 := hP.c1 e1
  replace c4 := hP.c4 e4
  replace d0 := hX.c0 g0
  replace d1 := hX.c1 g1
  replace hbel := hbel.trans (hb2.mono hbel.size)
  clear hb2
  go_wp2_with (first | fail | (with_reducible refine pr_load rfl _ rfl _ rfl hP hP_z ?_) | (with_reducible refine pr_load_g (by with_unfolding_all rfl) _ rfl _ rfl hP hP_z ?_) | (with_reducible refine pt_load rfl _ rfl _ rfl hX ?_) | (with_reducible refine pt_load_g (by with_unfolding_all rfl) _ rfl _ rfl hX ?_))
  go_ret
  exact ⟨rfl, hbel⟩
set_option maxRecDepth 100000 in
set_option maxHeartbeats 2000000 in
theorem same_lim (p : Pr) (hz : (prA p).size = 83) (x : Pt) (own : Int) (xh ivl : Int) (g0 : Hid (x.h = xh)) (e1 : Hid (p.ivl = ivl)) (lim : Int) (e0 : Hid (p.lim = lim)) (e4 : Hid (p.easy = true)) 
    (t1 : decide (xh < 1) = false) (t2 : decide (ivl < 1) = false) (hne : ¬ ivl = 0) (m : Int) (hm : xh.tmod ivl = m) (hmb : (m == 0) = false) 
    (KN : Hid (∀ w, Calls Try.prog 16 #[.agg (prA p), .agg (ptA x), .int .i64 own] w fun e w' => e = .returned (.int .i64 lim) ∧ Below w.heap.size w w')) (w : World) :
    Calls Try.prog 7 #[.agg (prA p), .agg (ptA x), .int .i64 own] w fun e w' => e = .returned (.bool true) ∧ Below w.heap.size w w' := by
  have KA := Lib.hid alive10
  have hP_z := hz
  go_enter Try.func7, Try.ntmps7
  go_upto_region 1 with fail
  generalize hw0 : World.alloc _ _ = v0
  have hbel : Below w.heap.size w v0 := by rw [← hw0]; exact ((Below.refl _ _).alloc (by first | exact Nat.le_refl _ | (simp; done) | (simp; omega)) _).alloc (by first | exact Nat.le_refl _ | (simp; done) | (simp; omega)) _
  have hP : PrAt v0 (w.heap.size) p := by rw [← hw0]; exact (Has.new _ _).alloc _
  have hX : PtAt v0 (w.heap.size + 1) x := by rw [← hw0]; exact Has.new1 _ _ _
  clear hw0
  generalize hg1 : w.heap.size + 1 = b_hX at hX ⊢
  clear hg1
  have c0 := hP.c0 e0
  have c1 := hP.c1 e1
  have c4 := hP.c4 e4
  have d0 := hX.c0 g0
  go_wp2_with (first | fail | (with_reducible refine pr_load rfl _ rfl _ rfl hP hP_z ?_) | (with_reducible refine pr_load_g (by with_unfolding_all rfl) _ rfl _ rfl hP hP_z ?_) | (with_reducible refine pt_load rfl _ rfl _ rfl hX ?_) | (with_reducible refine pt_load_g (by with_unfolding_all rfl) _ rfl _ rfl hX ?_))
  refine (KA.out _).mono ?_
  rintro e v1 ⟨rfl, hb1⟩
  replace hP := hP.on hb1
  replace hX := hX.on hb1
  replace c0 := hP.c0 e0
  replace c1 := hP.c1 e1
  replace c4 := hP.c4 e4
  replace d0 := hX.c0 g0
  replace hbel := hbel.trans (hb1.mono hbel.size)
  clear hb1
  go_wp2_with (first | fail | (with_reducible refine pr_load rfl _ rfl _ rfl hP hP_z ?_) | (with_reducible refine pr_load_g (by with_unfolding_all rfl) _ rfl _ rfl hP hP_z ?_) | (with_reducible refine pt_load rfl _ rfl _ rfl hX ?_) | (with_reducible refine pt_load_g (by with_unfolding_all rfl) _ rfl _ rfl hX ?_))
  refine (KN.out _).mono ?_
  rintro e v2 ⟨rfl, hb2⟩
  replace hP := hP.on hb2
  replace hX := hX.on hb2
  replace c0 := hP.c0 e0
  replace c1 := hP.c1 e1
  replace c4 := hP.c4 e4
  replace d0 := hX.c0 g0
  replace hbel := hbel.trans (hb2.mono hbel.size)
  clear hb2
  go_wp2_with (first | fail | (with_reducible refine pr_load rfl _ rfl _ rfl hP hP_z ?_) | (with_reducible refine pr_load_g (by with_unfolding_all rfl) _ rfl _ rfl hP hP_z ?_) | (with_reducible refine pt_load rfl _ rfl _ rfl hX ?_) | (with_reducible refine pt_load_g (by with_unfolding_all rfl) _ rfl _ rfl hX ?_))
  go_ret
  exact ⟨rfl, hbel⟩
set_option maxRecDepth 100000 in
set_option maxHeartbeats 2000000 in
theorem same_hard (p : Pr) (hz : (prA p).size = 83) (x : Pt) (own : Int) (xh ivl : Int) (g0 : Hid (x.h = xh)) (e1 : Hid (p.ivl = ivl)) (lim xr : Int) (e0 : Hid (p.lim = lim)) (g4 : Hid (x.r = xr)) (e4 : Hid (p.easy = true)) (hlr : (xr == lim) = false) 
    (t1 : decide (xh < 1) = false) (t2 : decide (ivl < 1) = false) (hne : ¬ ivl = 0) (m : Int) (hm : xh.tmod ivl = m) (hmb : (m == 0) = false) 
    (KN : Hid (∀ w, Calls Try.prog 16 #[.agg (prA p), .agg (ptA x), .int .i64 own] w fun e w' => e = .returned (.int .i64 xr) ∧ Below w.heap.size w w')) (w : World) :
    Calls Try.prog 7 #[.agg (prA p), .agg (ptA x), .int .i64 own] w fun e w' => e = .returned (.bool true) ∧ Below w.heap.size w w' := by
  have KA := Lib.hid alive10
  have hP_z := hz
  go_enter Try.func7, Try.ntmps7
  go_upto_region 1 with fail
  generalize hw0 : World.alloc _ _ = v0
  have hbel : Below w.heap.size w v0 := by rw [← hw0]; exact ((Below.refl _ _).alloc (by first | exact Nat.le_refl _ | (simp; done) | (simp; omega)) _).alloc (by first | exact Nat.le_refl _ | (simp; done) | (simp; omega)) _
  have hP : PrAt v0 (w.heap.size) p := by rw [← hw0]; exact (Has.new _ _).alloc _
  have hX : PtAt v0 (w.heap.size + 1) x := by rw [← hw0]; exact Has.new1 _ _ _
  clear hw0
  generalize hg1 : w.heap.size + 1 = b_hX at hX ⊢
  clear hg1
  have c0 := hP.c0 e0
  have c1 := hP.c1 e1
  have c4 := hP.c4 e4
  have d0 := hX.c0 g0
  have d4 := hX.c4 g4
  go_wp2_with (first | fail | (with_reducible refine pr_load rfl _ rfl _ rfl hP hP_z ?_) | (with_reducible refine pr_load_g (by with_unfolding_all rfl) _ rfl _ rfl hP hP_z ?_) | (with_reducible refine pt_load rfl _ rfl _ rfl hX ?_) | (with_reducible refine pt_load_g (by with_unfolding_all rfl) _ rfl _ rfl hX ?_))
  refine (KA.out _).mono ?_
  rintro e v1 ⟨rfl, hb1⟩
  replace hP := hP.on hb1
  replace hX := hX.on hb1
  replace c0 := hP.c0 e0
  replace c1 := hP.c1 e1
  replace c4 := hP.c4 e4
  replace d0 := hX.c0 g0
  replace d4 := hX.c4 g4
  replace hbel := hbel.trans (hb1.mono hbel.size)
  clear hb1
  go_wp2_with (first | fail | (with_reducible refine pr_load rfl _ rfl _ rfl hP hP_z ?_) | (with_reducible refine pr_load_g (by with_unfolding_all rfl) _ rfl _ rfl hP hP_z ?_) | (with_reducible refine pt_load rfl _ rfl _ rfl hX ?_) | (with_reducible refine pt_load_g (by with_unfolding_all rfl) _ rfl _ rfl hX ?_))
  refine (KN.out _).mono ?_
  rintro e v2 ⟨rfl, hb2⟩
  replace hP := hP.on hb2
  replace hX := hX.on hb2
  replace c0 := hP.c0 e0
  replace c1 := hP.c1 e1
  replace c4 := hP.c4 e4
  replace d0 := hX.c0 g0
  replace d4 := hX.c4 g4
  replace hbel := hbel.trans (hb2.mono hbel.size)
  clear hb2
  go_wp2_with (first | fail | (with_reducible refine pr_load rfl _ rfl _ rfl hP hP_z ?_) | (with_reducible refine pr_load_g (by with_unfolding_all rfl) _ rfl _ rfl hP hP_z ?_) | (with_reducible refine pt_load rfl _ rfl _ rfl hX ?_) | (with_reducible refine pt_load_g (by with_unfolding_all rfl) _ rfl _ rfl hX ?_))
  go_ret
  exact ⟨rfl, hbel⟩
theorem same_walk (p : Pr) (ho : p.ok) (x : Pt) (own : Int) (w : World) : Calls Try.prog 7 #[.agg (prA p), .agg (ptA x), .int .i64 own] w fun e w' => e = .returned (.bool true) ∧ Below w.heap.size w w' := by
  have hz := prA_size ho
  by_cases h1 : x.h < 1
  · exact same_low p hz x own _ (Lib.hid rfl) (decide_eq_true h1) w
  by_cases h2 : p.ivl < 1
  · exact same_few p hz x own _ _ (Lib.hid rfl) (Lib.hid rfl) (decide_eq_false h1) (decide_eq_true h2) w
  by_cases h3 : (x.h.tmod p.ivl == 0) = true
  · exact same_first p hz x own _ _ (Lib.hid rfl) (Lib.hid rfl) (decide_eq_false h1) (decide_eq_false h2) (by omega) _ rfl h3 w
  rw [Bool.not_eq_true] at h3
  have KN := fun w => next_at p ho x own w
  have hs : starts p.ivl x.h = false := by unfold starts; rw [h3, Bool.and_false]
  have hn : nx p x own = if p.easy = false then x.b else if IntKind.i64.wrap (2 * p.spc) < IntKind.i64.wrap (own - x.t) then p.lim else x.r := by
    unfold nx
    rw [if_neg (by omega), if_neg (by rw [hs]; decide)]
  rw [hn] at KN
  by_cases h4 : p.easy = false
  · rw [if_pos h4] at KN
    exact same_bits p hz x own _ _ (Lib.hid rfl) (Lib.hid rfl) _ (Lib.hid rfl) (Lib.hid h4) (decide_eq_false h1) (decide_eq_false h2) (by omega) _ rfl h3 (Lib.hid KN) w
  rw [if_neg h4] at KN
  have h4' : p.easy = true := by simpa using h4
  by_cases h5 : IntKind.i64.wrap (2 * p.spc) < IntKind.i64.wrap (own - x.t)
  · rw [if_pos h5] at KN
    exact same_lim p hz x own _ _ (Lib.hid rfl) (Lib.hid rfl) _ (Lib.hid rfl) (Lib.hid h4') (decide_eq_false h1) (decide_eq_false h2) (by omega) _ rfl h3 (Lib.hid KN) w
  rw [if_neg h5] at KN
  by_cases h6 : x.r = p.lim
  · rw [h6] at KN
    exact same_lim p hz x own _ _ (Lib.hid rfl) (Lib.hid rfl) _ (Lib.hid rfl) (Lib.hid h4') (decide_eq_false h1) (decide_eq_false h2) (by omega) _ rfl h3 (Lib.hid KN) w
  · exact same_hard p hz x own _ _ (Lib.hid rfl) (Lib.hid rfl) _ _ (Lib.hid rfl) (Lib.hid rfl) (Lib.hid h4') (beq_eq_false_iff_ne.2 h6) (decide_eq_false h1) (decide_eq_false h2) (by omega) _ rfl h3 (Lib.hid KN) w
end Go.Proofs.Ytmemppkkchfphaa
