/-
  pace: Starts, Next; a point in memory.
-/
import Derived.Test.YtmemppkkchfphaaPcRetarget
namespace Go.Proofs.Ytmemppkkchfphaa
open Go.RowKit
/-- is a height the first one of a period? -/
def starts (i h : Int) : Bool := decide (0 < i) && (h.tmod i == 0)
theorem starts_yes (p : Pr) (h i m : Int) (e1 : Hid (p.ivl = i)) (t1 : decide (0 < i) = true) (hne : ¬ i = 0) (hm : h.tmod i = m) (w : World) :
    Calls Try.prog 15 #[.agg (prA p), .int .i64 h] w fun e w' => e = .returned (.bool (m == 0)) ∧ Below w.heap.size w w' := by
  have hP := pr_new w p
  have hbel : Below w.heap.size w (w.alloc (.cells (prA p) 32)) := (Below.refl _ _).alloc (Nat.le_refl _) _
  have c1 := hP.c1 e1
  go_enter Try.func15, Try.ntmps15
  go_wp2_with fail
  go_ret
  exact ⟨rfl, hbel⟩
theorem starts_no (p : Pr) (h i : Int) (e1 : Hid (p.ivl = i)) (t1 : decide (0 < i) = false) (w : World) :
    Calls Try.prog 15 #[.agg (prA p), .int .i64 h] w fun e w' => e = .returned (.bool false) ∧ Below w.heap.size w w' := by
  have hP := pr_new w p
  have hbel : Below w.heap.size w (w.alloc (.cells (prA p) 32)) := (Below.refl _ _).alloc (Nat.le_refl _) _
  have c1 := hP.c1 e1
  go_enter Try.func15, Try.ntmps15
  go_wp2_with fail
  go_ret
  exact ⟨rfl, hbel⟩
theorem starts_at (p : Pr) (h : Int) (g : Bool) (hg : starts p.ivl h = g) (w : World) :
    Calls Try.prog 15 #[.agg (prA p), .int .i64 h] w fun e w' => e = .returned (.bool g) ∧ Below w.heap.size w w' := by
  by_cases h0 : 0 < p.ivl
  · rw [← hg, starts, decide_eq_true h0, Bool.true_and]
    exact starts_yes p h _ _ (Lib.hid rfl) (decide_eq_true h0) (by omega) rfl w
  · rw [← hg, starts, decide_eq_false h0, Bool.false_and]
    exact starts_no p h _ (Lib.hid rfl) (decide_eq_false h0) w
/-- where the next block stands -/
structure Pt where
  h : Int
  b : Int
  t : Int
  f : Int
  r : Int
def ptA (x : Pt) : Array Value := #[.int .i64 x.h, .int .i64 x.b, .int .i64 x.t, .int .i64 x.f, .int .i64 x.r]
theorem ptinfo : (Try.prog.info? 45).map (·.size) = some 5 := by kernel_rfl
def PtAt (w : World) (k : Nat) (x : Pt) : Prop := Has w k (ptA x) 45
section
variable {w w' : World} {k : Nat} {x : Pt}
theorem PtAt.on (h : PtAt w k x) (hb : Below w.heap.size w w') : PtAt w' k x := Has.on h hb
theorem PtAt.c0 (h : PtAt w k x) {z : Int} (e : Hid (x.h = z)) : w.cell? ⟨k, 0, none⟩ = some (.int .i64 z) := (Has.cell h 0).trans (by rw [← e.out]; rfl)
theorem PtAt.c1 (h : PtAt w k x) {z : Int} (e : Hid (x.b = z)) : w.cell? ⟨k, 1, none⟩ = some (.int .i64 z) := (Has.cell h 1).trans (by rw [← e.out]; rfl)
theorem PtAt.c2 (h : PtAt w k x) {z : Int} (e : Hid (x.t = z)) : w.cell? ⟨k, 2, none⟩ = some (.int .i64 z) := (Has.cell h 2).trans (by rw [← e.out]; rfl)
theorem PtAt.c3 (h : PtAt w k x) {z : Int} (e : Hid (x.f = z)) : w.cell? ⟨k, 3, none⟩ = some (.int .i64 z) := (Has.cell h 3).trans (by rw [← e.out]; rfl)
theorem PtAt.c4 (h : PtAt w k x) {z : Int} (e : Hid (x.r = z)) : w.cell? ⟨k, 4, none⟩ = some (.int .i64 z) := (Has.cell h 4).trans (by rw [← e.out]; rfl)
variable {ops : Array Oper} {rest : List Oper} {o : Oper} {a : Act} {Q : Exit → Act → World → Prop}
theorem pt_load (hgd : o.guard = none) (y : Operand) (ho : o.op = .load 45 y) (g : Nat) (hx : a.eval y = .pointer (some ⟨g, 0, none⟩)) (hg : PtAt w g x)
    (hk : wpList Try.prog ops Q rest (a.put o.dst (.agg (ptA x))) w) : wpList Try.prog ops Q (o :: rest) a w :=
  wpList_load_row hgd 45 y ho g hx 45 (ptA x) (0, 0) _ (Has.out hg) Try.underlying45 rfl ptinfo hk
end
set_option maxRecDepth 100000 in
set_option maxHeartbeats 2000000 in
theorem next_low (p : Pr) (x : Pt) (own : Int) (lim : Int) (e0 : Hid (p.lim = lim)) (xh : Int) (g0 : Hid (x.h = xh)) 
    (t0 : decide (xh ≤ 0) = true)  (w : World) :
    Calls Try.prog 16 #[.agg (prA p), .agg (ptA x), .int .i64 own] w fun e w' => e = .returned (.int .i64 lim) ∧ Below w.heap.size w w' := by
  go_enter Try.func16, Try.ntmps16
  go_upto_region 1 with fail
  generalize hw0 : World.alloc _ _ = v0
  have hbel : Below w.heap.size w v0 := by rw [← hw0]; exact ((Below.refl _ _).alloc (by first | exact Nat.le_refl _ | (simp; done) | (simp; omega)) _).alloc (by first | exact Nat.le_refl _ | (simp; done) | (simp; omega)) _
  have hP : PrAt v0 (w.heap.size) p := by rw [← hw0]; exact (Has.new _ _).alloc _
  have hX : PtAt v0 (w.heap.size + 1) x := by rw [← hw0]; exact Has.new1 _ _ _
  clear hw0
  generalize hg1 : w.heap.size + 1 = b_hX at hX ⊢
  clear hg1
  have c0 := hP.c0 e0
  have d0 := hX.c0 g0
  go_wp2_with (first | fail | (with_reducible refine pr_load rfl _ rfl _ rfl hP hP_z ?_) | (with_reducible refine pr_load_g (by with_unfolding_all rfl) _ rfl _ rfl hP hP_z ?_) | (with_reducible refine pt_load rfl _ rfl _ rfl hX ?_) | (with_reducible refine pt_load_g (by with_unfolding_all rfl) _ rfl _ rfl hX ?_))
  go_ret
  exact ⟨rfl, hbel⟩
set_option maxRecDepth 100000 in
set_option maxHeartbeats 2000000 in
theorem next_first (p : Pr) (x : Pt) (own : Int) (hz : (prA p).size = 83) (xh : Int) (g0 : Hid (x.h = xh)) (xb : Int) (g1 : Hid (x.b = xb)) (xt : Int) (g2 : Hid (x.t = xt)) (xf : Int) (g3 : Hid (x.f = xf)) 
    (rb : Int) (t0 : decide (xh ≤ 0) = false) (KS : Hid (∀ w, Calls Try.prog 15 #[.agg (prA p), .int .i64 xh] w fun e w' => e = .returned (.bool true) ∧ Below w.heap.size w w')) 
    (KR : Hid (∀ w, Calls Try.prog 11 #[.agg (prA p), .int .i64 xb, .int .i64 xf, .int .i64 xt] w fun e w' => e = .returned (.int .i64 rb) ∧ Below w.heap.size w w'))  (w : World) :
    Calls Try.prog 16 #[.agg (prA p), .agg (ptA x), .int .i64 own] w fun e w' => e = .returned (.int .i64 rb) ∧ Below w.heap.size w w' := by
  have hP_z := hz
  go_enter Try.func16, Try.ntmps16
  go_upto_region 1 with fail
  generalize hw0 : World.alloc _ _ = v0
  have hbel : Below w.heap.size w v0 := by rw [← hw0]; exact ((Below.refl _ _).alloc (by first | exact Nat.le_refl _ | (simp; done) | (simp; omega)) _).alloc (by first | exact Nat.le_refl _ | (simp; done) | (simp; omega)) _
  have hP : PrAt v0 (w.heap.size) p := by rw [← hw0]; exact (Has.new _ _).alloc _
  have hX : PtAt v0 (w.heap.size + 1) x := by rw [← hw0]; exact Has.new1 _ _ _
  clear hw0
  generalize hg1 : w.heap.size + 1 = b_hX at hX ⊢
  clear hg1
  have d0 := hX.c0 g0
  have d1 := hX.c1 g1
  have d2 := hX.c2 g2
  have d3 := hX.c3 g3
  go_wp2_with (first | fail | (with_reducible refine pr_load rfl _ rfl _ rfl hP hP_z ?_) | (with_reducible refine pr_load_g (by with_unfolding_all rfl) _ rfl _ rfl hP hP_z ?_) | (with_reducible refine pt_load rfl _ rfl _ rfl hX ?_) | (with_reducible refine pt_load_g (by with_unfolding_all rfl) _ rfl _ rfl hX ?_))
  refine (KS.out _).mono ?_
  rintro e v1 ⟨rfl, hb1⟩
  replace hP := hP.on hb1
  replace hX := hX.on hb1
  replace d0 := hX.c0 g0
  replace d1 := hX.c1 g1
  replace d2 := hX.c2 g2
  replace d3 := hX.c3 g3
  replace hbel := hbel.trans (hb1.mono hbel.size)
  clear hb1
  go_wp2_with (first | fail | (with_reducible refine pr_load rfl _ rfl _ rfl hP hP_z ?_) | (with_reducible refine pr_load_g (by with_unfolding_all rfl) _ rfl _ rfl hP hP_z ?_) | (with_reducible refine pt_load rfl _ rfl _ rfl hX ?_) | (with_reducible refine pt_load_g (by with_unfolding_all rfl) _ rfl _ rfl hX ?_))
  refine (KR.out _).mono ?_
  rintro e v2 ⟨rfl, hb2⟩
  replace hP := hP.on hb2
  replace hX := hX.on hb2
  replace d0 := hX.c0 g0
  replace d1 := hX.c1 g1
  replace d2 := hX.c2 g2
  replace d3 := hX.c3 g3
  replace hbel := hbel.trans (hb2.mono hbel.size)
  clear hb2
  go_wp2_with (first | fail | (with_reducible refine pr_load rfl _ rfl _ rfl hP hP_z ?_) | (with_reducible refine pr_load_g (by with_unfolding_all rfl) _ rfl _ rfl hP hP_z ?_) | (with_reducible refine pt_load rfl _ rfl _ rfl hX ?_) | (with_reducible refine pt_load_g (by with_unfolding_all rfl) _ rfl _ rfl hX ?_))
  go_ret
  exact ⟨rfl, hbel⟩
set_option maxRecDepth 100000 in
set_option maxHeartbeats 2000000 in
theorem next_same (p : Pr) (x : Pt) (own : Int) (hz : (prA p).size = 83) (e4 : Hid (p.easy = false)) (xh : Int) (g0 : Hid (x.h = xh)) (xb : Int) (g1 : Hid (x.b = xb)) 
    (t0 : decide (xh ≤ 0) = false) (KS : Hid (∀ w, Calls Try.prog 15 #[.agg (prA p), .int .i64 xh] w fun e w' => e = .returned (.bool false) ∧ Below w.heap.size w w'))  (w : World) :
    Calls Try.prog 16 #[.agg (prA p), .agg (ptA x), .int .i64 own] w fun e w' => e = .returned (.int .i64 xb) ∧ Below w.heap.size w w' := by
  have hP_z := hz
  go_enter Try.func16, Try.ntmps16
  go_upto_region 1 with fail
  generalize hw0 : World.alloc _ _ = v0
  have hbel : Below w.heap.size w v0 := by rw [← hw0]; exact ((Below.refl _ _).alloc (by first | exact Nat.le_refl _ | (simp; done) | (simp; omega)) _).alloc (by first | exact Nat.le_refl _ | (simp; done) | (simp; omega)) _
  have hP : PrAt v0 (w.heap.size) p := by rw [← hw0]; exact (Has.new _ _).alloc _
  have hX : PtAt v0 (w.heap.size + 1) x := by rw [← hw0]; exact Has.new1 _ _ _
  clear hw0
  generalize hg1 : w.heap.size + 1 = b_hX at hX ⊢
  clear hg1
  have c4 := hP.c4 e4
  have d0 := hX.c0 g0
  have d1 := hX.c1 g1
  go_wp2_with (first | fail | (with_reducible refine pr_load rfl _ rfl _ rfl hP hP_z ?_) | (with_reducible refine pr_load_g (by with_unfolding_all rfl) _ rfl _ rfl hP hP_z ?_) | (with_reducible refine pt_load rfl _ rfl _ rfl hX ?_) | (with_reducible refine pt_load_g (by with_unfolding_all rfl) _ rfl _ rfl hX ?_))
  refine (KS.out _).mono ?_
  rintro e v1 ⟨rfl, hb1⟩
  replace hP := hP.on hb1
  replace hX := hX.on hb1
  replace c4 := hP.c4 e4
  replace d0 := hX.c0 g0
  replace d1 := hX.c1 g1
  replace hbel := hbel.trans (hb1.mono hbel.size)
  clear hb1
  go_wp2_with (first | fail | (with_reducible refine pr_load rfl _ rfl _ rfl hP hP_z ?_) | (with_reducible refine pr_load_g (by with_unfolding_all rfl) _ rfl _ rfl hP hP_z ?_) | (with_reducible refine pt_load rfl _ rfl _ rfl hX ?_) | (with_reducible refine pt_load_g (by with_unfolding_all rfl) _ rfl _ rfl hX ?_))
  go_ret
  exact ⟨rfl, hbel⟩
set_option maxRecDepth 100000 in
set_option maxHeartbeats 2000000 in
theorem next_late (p : Pr) (x : Pt) (own : Int) (hz : (prA p).size = 83) (lim : Int) (e0 : Hid (p.lim = lim)) (spc : Int) (e2 : Hid (p.spc = spc)) (e4 : Hid (p.easy = true)) (xh : Int) (g0 : Hid (x.h = xh)) (xt : Int) (g2 : Hid (x.t = xt)) 
    (t0 : decide (xh ≤ 0) = false) (d s2 : Int) (f1 : IntKind.i64.wrap (own - xt) = d) (f2 : IntKind.i64.wrap (2 * spc) = s2) (f3 : decide (s2 < d) = true) (KS : Hid (∀ w, Calls Try.prog 15 #[.agg (prA p), .int .i64 xh] w fun e w' => e = .returned (.bool false) ∧ Below w.heap.size w w'))  (w : World) :
    Calls Try.prog 16 #[.agg (prA p), .agg (ptA x), .int .i64 own] w fun e w' => e = .returned (.int .i64 lim) ∧ Below w.heap.size w w' := by
  have hP_z := hz
  go_enter Try.func16, Try.ntmps16
  go_upto_region 1 with fail
  generalize hw0 : World.alloc _ _ = v0
  have hbel : Below w.heap.size w v0 := by rw [← hw0]; exact ((Below.refl _ _).alloc (by first | exact Nat.le_refl _ | (simp; done) | (simp; omega)) _).alloc (by first | exact Nat.le_refl _ | (simp; done) | (simp; omega)) _
  have hP : PrAt v0 (w.heap.size) p := by rw [← hw0]; exact (Has.new _ _).alloc _
  have hX : PtAt v0 (w.heap.size + 1) x := by rw [← hw0]; exact Has.new1 _ _ _
  clear hw0
  generalize hg1 : w.heap.size + 1 = b_hX at hX ⊢
  clear hg1
  have c0 := hP.c0 e0
  have c2 := hP.c2 e2
  have c4 := hP.c4 e4
  have d0 := hX.c0 g0
  have d2 := hX.c2 g2
  go_wp2_with (first | fail | (with_reducible refine pr_load rfl _ rfl _ rfl hP hP_z ?_) | (with_reducible refine pr_load_g (by with_unfolding_all rfl) _ rfl _ rfl hP hP_z ?_) | (with_reducible refine pt_load rfl _ rfl _ rfl hX ?_) | (with_reducible refine pt_load_g (by with_unfolding_all rfl) _ rfl _ rfl hX ?_))
  refine (KS.out _).mono ?_
  rintro e v1 ⟨rfl, hb1⟩
  replace hP := hP.on hb1
  replace hX := hX.on hb1
  replace c0 := hP.c0 e0
  replace c2 := hP.c2 e2
  replace c4 := hP.c4 e4
  replace d0 := hX.c0 g0
  replace d2 := hX.c2 g2
  replace hbel := hbel.trans (hb1.mono hbel.size)
  clear hb1
  go_wp2_with (first | fail | (with_reducible refine pr_load rfl _ rfl _ rfl hP hP_z ?_) | (with_reducible refine pr_load_g (by with_unfolding_all rfl) _ rfl _ rfl hP hP_z ?_) | (with_reducible refine pt_load rfl _ rfl _ rfl hX ?_) | (with_reducible refine pt_load_g (by with_unfolding_all rfl) _ rfl _ rfl hX ?_))
  go_ret
  exact ⟨rfl, hbel⟩
set_option maxRecDepth 100000 in
set_option maxHeartbeats 2000000 in
theorem next_hard (p : Pr) (x : Pt) (own : Int) (hz : (prA p).size = 83) (spc : Int) (e2 : Hid (p.spc = spc)) (e4 : Hid (p.easy = true)) (xh : Int) (g0 : Hid (x.h = xh)) (xt : Int) (g2 : Hid (x.t = xt)) (xr : Int) (g4 : Hid (x.r = xr)) 
    (t0 : decide (xh ≤ 0) = false) (d s2 : Int) (f1 : IntKind.i64.wrap (own - xt) = d) (f2 : IntKind.i64.wrap (2 * spc) = s2) (f3 : decide (s2 < d) = false) (KS : Hid (∀ w, Calls Try.prog 15 #[.agg (prA p), .int .i64 xh] w fun e w' => e = .returned (.bool false) ∧ Below w.heap.size w w'))  (w : World) :
    Calls Try.prog 16 #[.agg (prA p), .agg (ptA x), .int .i64 own] w fun e w' => e = .returned (.int .i64 xr) ∧ Below w.heap.size w w' := by
  have hP_z := hz
  go_enter Try.func16, Try.ntmps16
  go_upto_region 1 with fail
  generalize hw0 : World.alloc _ _ = v0
  have hbel : Below w.heap.size w v0 := by rw [← hw0]; exact ((Below.refl _ _).alloc (by first | exact Nat.le_refl _ | (simp; done) | (simp; omega)) _).alloc (by first | exact Nat.le_refl _ | (simp; done) | (simp; omega)) _
  have hP : PrAt v0 (w.heap.size) p := by rw [← hw0]; exact (Has.new _ _).alloc _
  have hX : PtAt v0 (w.heap.size + 1) x := by rw [← hw0]; exact Has.new1 _ _ _
  clear hw0
  generalize hg1 : w.heap.size + 1 = b_hX at hX ⊢
  clear hg1
  have c2 := hP.c2 e2
  have c4 := hP.c4 e4
  have d0 := hX.c0 g0
  have d2 := hX.c2 g2
  have d4 := hX.c4 g4
  go_wp2_with (first | fail | (with_reducible refine pr_load rfl _ rfl _ rfl hP hP_z ?_) | (with_reducible refine pr_load_g (by with_unfolding_all rfl) _ rfl _ rfl hP hP_z ?_) | (with_reducible refine pt_load rfl _ rfl _ rfl hX ?_) | (with_reducible refine pt_load_g (by with_unfolding_all rfl) _ rfl _ rfl hX ?_))
  refine (KS.out _).mono ?_
  rintro e v1 ⟨rfl, hb1⟩
  replace hP := hP.on hb1
  replace hX := hX.on hb1
  replace c2 := hP.c2 e2
  replace c4 := hP.c4 e4
  replace d0 := hX.c0 g0
  replace d2 := hX.c2 g2
  replace d4 := hX.c4 g4
  replace hbel := hbel.trans (hb1.mono hbel.size)
  clear hb1
  go_wp2_with (first | fail | (with_reducible refine pr_load rfl _ rfl _ rfl hP hP_z ?_) | (with_reducible refine pr_load_g (by with_unfolding_all rfl) _ rfl _ rfl hP hP_z ?_) | (with_reducible refine pt_load rfl _ rfl _ rfl hX ?_) | (with_reducible refine pt_load_g (by with_unfolding_all rfl) _ rfl _ rfl hX ?_))
  go_ret
  exact ⟨rfl, hbel⟩
/-- the bits that the next block must have -/
def nx (p : Pr) (x : Pt) (own : Int) : Int :=
  if x.h ≤ 0 then p.lim else if starts p.ivl x.h = true then rt p x.b (IntKind.i64.wrap (x.t - x.f)) else if p.easy = false then x.b else if IntKind.i64.wrap (2 * p.spc) < IntKind.i64.wrap (own - x.t) then p.lim else x.r
theorem next_at (p : Pr) (ho : p.ok) (x : Pt) (own : Int) (w : World) : Calls Try.prog 16 #[.agg (prA p), .agg (ptA x), .int .i64 own] w fun e w' => e = .returned (.int .i64 (nx p x own)) ∧ Below w.heap.size w w' := by
  have hz := prA_size ho
  unfold nx
  by_cases h0 : x.h ≤ 0
  · rw [if_pos h0]
    exact next_low p x own _ (Lib.hid rfl) _ (Lib.hid rfl) (decide_eq_true h0) w
  rw [if_neg h0]
  by_cases h1 : starts p.ivl x.h = true
  · rw [if_pos h1]
    exact next_first p x own hz _ (Lib.hid rfl) _ (Lib.hid rfl) _ (Lib.hid rfl) _ (Lib.hid rfl) _ (decide_eq_false h0) (Lib.hid (starts_at p x.h true h1)) (Lib.hid (retarget_at p ho x.b x.f x.t _ rfl)) w
  rw [if_neg h1]
  have KS := starts_at p x.h false (by simpa using h1)
  by_cases h2 : p.easy = false
  · rw [if_pos h2]
    exact next_same p x own hz (Lib.hid h2) _ (Lib.hid rfl) _ (Lib.hid rfl) (decide_eq_false h0) (Lib.hid KS) w
  rw [if_neg h2]
  have h2' : p.easy = true := by simpa using h2
  by_cases h3 : IntKind.i64.wrap (2 * p.spc) < IntKind.i64.wrap (own - x.t)
  · rw [if_pos h3]
    exact next_late p x own hz _ (Lib.hid rfl) _ (Lib.hid rfl) (Lib.hid h2') _ (Lib.hid rfl) _ (Lib.hid rfl) (decide_eq_false h0) _ _ rfl rfl (decide_eq_true h3) (Lib.hid KS) w
  · rw [if_neg h3]
    exact next_hard p x own hz _ (Lib.hid rfl) (Lib.hid h2') _ (Lib.hid rfl) _ (Lib.hid rfl) _ (Lib.hid rfl) (decide_eq_false h0) _ _ rfl rfl (decide_eq_false h3) (Lib.hid KS) w
end Go.Proofs.Ytmemppkkchfphaa
