/-
  PaceSlower: the walk.
-/
import Derived.Test.YtmemppkkchfphaaPcAlive
import Derived.Test.YtmemppkkchfphaaRefLess
namespace Go.Proofs.Ytmemppkkchfphaa
open Go.RowKit Rg2
/-- the target that is set anew, as a number -/
def rv (p : Pr) (b d : Int) : Nat := if tok b b = true then (if dN p.lim < p.anew b d then dN p.lim else Nm.rd (max 1 (p.anew b d))) else dN p.lim
theorem rt_tg {p : Pr} (hg : p.good = true) (b d : Int) : tok (rt p b d) p.lim = true ∧ dN (rt p b d) = rv p b d := by
  have hl := (good_parts hg).1
  unfold rt rv
  rw [hg, Bool.and_true, tg_yes hl]
  have hlt := dN_lt p.lim
  have h0 := (tok_iff.1 hl).2.2.2.2.1
  by_cases h1 : tok b b = true
  · rw [if_pos h1, if_pos h1]
    by_cases h2 : dN p.lim < p.anew b d
    · rw [if_pos h2, if_pos h2]; exact ⟨hl, rfl⟩
    · rw [if_neg h2, if_neg h2]
      exact ⟨tok_enc (by omega) (by omega) hl (by omega), dN_enc (by omega)⟩
  · rw [if_neg h1, if_neg h1]; exact ⟨hl, rfl⟩
theorem rv_mono {p : Pr} (hg : p.good = true) (b : Int) {d e : Int} (h : d ≤ e) : rv p b d ≤ rv p b e := by
  have h0 := (tok_iff.1 (good_parts hg).1).2.2.2.2.1
  have hm : p.anew b d ≤ p.anew b e := anew_mono h
  unfold rv
  by_cases h1 : tok b b = true
  · rw [if_pos h1, if_pos h1]
    by_cases h2 : dN p.lim < p.anew b d
    · rw [if_pos h2, if_pos (by omega)]; exact Nat.le_refl _
    · rw [if_neg h2]
      by_cases h3 : dN p.lim < p.anew b e
      · rw [if_pos h3]; exact Nat.le_trans (Nm.rd_le _) (by omega)
      · rw [if_neg h3]; exact Nm.rd_mono (by omega)
  · rw [if_neg h1, if_neg h1]; exact Nat.le_refl _
theorem tg_rt {p : Pr} (hg : p.good = true) (b d : Int) (w : World) : Calls Try.prog 10 #[.int .i64 (rt p b d), .int .i64 p.lim] w fun e w' => e = .returned (.tuple #[.agg (numC (rv p b d)), .bool true]) ∧ Below w.heap.size w w' := by
  obtain ⟨h1, h2⟩ := rt_tg hg b d
  have h := rtgt_at (rt p b d) p.lim w
  rwa [tg_yes h1, h1, h2] at h
theorem rv_lt (p : Pr) (b d : Int) : rv p b d < Nm.big := by
  have := dN_lt p.lim
  have hb1 : 1 < Nm.big := by decide
  unfold rv
  split
  · split
    · exact this
    · exact Nat.lt_of_le_of_lt (Nm.rd_le _) (by omega)
  · exact this
set_option maxRecDepth 100000 in
set_option maxHeartbeats 2000000 in
theorem slo_bad (p : Pr) (hz : (prA p).size = 83) (bi z2 z3 : Int) (KG : Hid (∀ w, Calls Try.prog 9 #[.agg (prA p)] w fun e w' => e = .returned (.bool false) ∧ Below w.heap.size w w')) (w : World) :
    Calls Try.prog 3 #[.agg (prA p), .int .i64 bi, .int .i64 z2, .int .i64 z3] w fun e w' => e = .returned (.bool true) ∧ Below w.heap.size w w' := by
  have KA := Lib.hid alive10
  have hP_z := hz
  go_enter Try.func3, Try.ntmps3
  go_upto_region 1 with fail
  generalize hw0 : World.alloc _ _ = v0
  have hbel : Below w.heap.size w v0 := by rw [← hw0]; exact (Below.refl _ _).alloc (by first | exact Nat.le_refl _ | (simp; done) | (simp; omega)) _
  have hP : PrAt v0 (w.heap.size) p := by rw [← hw0]; exact Has.new _ _
  clear hw0
  go_wp2_with (first | fail | (with_reducible refine pr_load rfl _ rfl _ rfl hP hP_z ?_) | (with_reducible refine pr_load_g (by with_unfolding_all rfl) _ rfl _ rfl hP hP_z ?_))
  refine (KA.out _).mono ?_
  rintro e v1 ⟨rfl, hb1⟩
  replace hP := hP.on hb1
  replace hbel := hbel.trans (hb1.mono hbel.size)
  clear hb1
  go_wp2_with (first | fail | (with_reducible refine pr_load rfl _ rfl _ rfl hP hP_z ?_) | (with_reducible refine pr_load_g (by with_unfolding_all rfl) _ rfl _ rfl hP hP_z ?_))
  refine (KG.out _).mono ?_
  rintro e v2 ⟨rfl, hb2⟩
  replace hP := hP.on hb2
  replace hbel := hbel.trans (hb2.mono hbel.size)
  clear hb2
  go_wp2_with (first | fail | (with_reducible refine pr_load rfl _ rfl _ rfl hP hP_z ?_) | (with_reducible refine pr_load_g (by with_unfolding_all rfl) _ rfl _ rfl hP hP_z ?_))
  go_ret
  exact ⟨rfl, hbel⟩
set_option maxRecDepth 100000 in
set_option maxHeartbeats 2000000 in
theorem slo_low (p : Pr) (hz : (prA p).size = 83) (bi z2 z3 : Int) (t1 : decide (z2 < 0) = true) (KG : Hid (∀ w, Calls Try.prog 9 #[.agg (prA p)] w fun e w' => e = .returned (.bool true) ∧ Below w.heap.size w w')) (w : World) :
    Calls Try.prog 3 #[.agg (prA p), .int .i64 bi, .int .i64 z2, .int .i64 z3] w fun e w' => e = .returned (.bool true) ∧ Below w.heap.size w w' := by
  have KA := Lib.hid alive10
  have hP_z := hz
  go_enter Try.func3, Try.ntmps3
  go_upto_region 1 with fail
  generalize hw0 : World.alloc _ _ = v0
  have hbel : Below w.heap.size w v0 := by rw [← hw0]; exact (Below.refl _ _).alloc (by first | exact Nat.le_refl _ | (simp; done) | (simp; omega)) _
  have hP : PrAt v0 (w.heap.size) p := by rw [← hw0]; exact Has.new _ _
  clear hw0
  go_wp2_with (first | fail | (with_reducible refine pr_load rfl _ rfl _ rfl hP hP_z ?_) | (with_reducible refine pr_load_g (by with_unfolding_all rfl) _ rfl _ rfl hP hP_z ?_))
  refine (KA.out _).mono ?_
  rintro e v1 ⟨rfl, hb1⟩
  replace hP := hP.on hb1
  replace hbel := hbel.trans (hb1.mono hbel.size)
  clear hb1
  go_wp2_with (first | fail | (with_reducible refine pr_load rfl _ rfl _ rfl hP hP_z ?_) | (with_reducible refine pr_load_g (by with_unfolding_all rfl) _ rfl _ rfl hP hP_z ?_))
  refine (KG.out _).mono ?_
  rintro e v2 ⟨rfl, hb2⟩
  replace hP := hP.on hb2
  replace hbel := hbel.trans (hb2.mono hbel.size)
  clear hb2
  go_wp2_with (first | fail | (with_reducible refine pr_load rfl _ rfl _ rfl hP hP_z ?_) | (with_reducible refine pr_load_g (by with_unfolding_all rfl) _ rfl _ rfl hP hP_z ?_))
  go_ret
  exact ⟨rfl, hbel⟩
set_option maxRecDepth 100000 in
set_option maxHeartbeats 2000000 in
theorem slo_less (p : Pr) (hz : (prA p).size = 83) (bi z2 z3 : Int) (t1 : decide (z2 < 0) = false) (t2 : decide (z3 < z2) = true) (KG : Hid (∀ w, Calls Try.prog 9 #[.agg (prA p)] w fun e w' => e = .returned (.bool true) ∧ Below w.heap.size w w')) (w : World) :
    Calls Try.prog 3 #[.agg (prA p), .int .i64 bi, .int .i64 z2, .int .i64 z3] w fun e w' => e = .returned (.bool true) ∧ Below w.heap.size w w' := by
  have KA := Lib.hid alive10
  have hP_z := hz
  go_enter Try.func3, Try.ntmps3
  go_upto_region 1 with fail
  generalize hw0 : World.alloc _ _ = v0
  have hbel : Below w.heap.size w v0 := by rw [← hw0]; exact (Below.refl _ _).alloc (by first | exact Nat.le_refl _ | (simp; done) | (simp; omega)) _
  have hP : PrAt v0 (w.heap.size) p := by rw [← hw0]; exact Has.new _ _
  clear hw0
  go_wp2_with (first | fail | (with_reducible refine pr_load rfl _ rfl _ rfl hP hP_z ?_) | (with_reducible refine pr_load_g (by with_unfolding_all rfl) _ rfl _ rfl hP hP_z ?_))
  refine (KA.out _).mono ?_
  rintro e v1 ⟨rfl, hb1⟩
  replace hP := hP.on hb1
  replace hbel := hbel.trans (hb1.mono hbel.size)
  clear hb1
  go_wp2_with (first | fail | (with_reducible refine pr_load rfl _ rfl _ rfl hP hP_z ?_) | (with_reducible refine pr_load_g (by with_unfolding_all rfl) _ rfl _ rfl hP hP_z ?_))
  refine (KG.out _).mono ?_
  rintro e v2 ⟨rfl, hb2⟩
  replace hP := hP.on hb2
  replace hbel := hbel.trans (hb2.mono hbel.size)
  clear hb2
  go_wp2_with (first | fail | (with_reducible refine pr_load rfl _ rfl _ rfl hP hP_z ?_) | (with_reducible refine pr_load_g (by with_unfolding_all rfl) _ rfl _ rfl hP hP_z ?_))
  go_ret
  exact ⟨rfl, hbel⟩
set_option maxRecDepth 100000 in
set_option maxHeartbeats 2000000 in
theorem slo_high (p : Pr) (hz : (prA p).size = 83) (bi z2 z3 : Int) (t1 : decide (z2 < 0) = false) (t2 : decide (z3 < z2) = false) (t3 : decide ((1099511627776 : Int) < z3) = true) (KG : Hid (∀ w, Calls Try.prog 9 #[.agg (prA p)] w fun e w' => e = .returned (.bool true) ∧ Below w.heap.size w w')) (w : World) :
    Calls Try.prog 3 #[.agg (prA p), .int .i64 bi, .int .i64 z2, .int .i64 z3] w fun e w' => e = .returned (.bool true) ∧ Below w.heap.size w w' := by
  have KA := Lib.hid alive10
  have hP_z := hz
  go_enter Try.func3, Try.ntmps3
  go_upto_region 1 with fail
  generalize hw0 : World.alloc _ _ = v0
  have hbel : Below w.heap.size w v0 := by rw [← hw0]; exact (Below.refl _ _).alloc (by first | exact Nat.le_refl _ | (simp; done) | (simp; omega)) _
  have hP : PrAt v0 (w.heap.size) p := by rw [← hw0]; exact Has.new _ _
  clear hw0
  go_wp2_with (first | fail | (with_reducible refine pr_load rfl _ rfl _ rfl hP hP_z ?_) | (with_reducible refine pr_load_g (by with_unfolding_all rfl) _ rfl _ rfl hP hP_z ?_))
  refine (KA.out _).mono ?_
  rintro e v1 ⟨rfl, hb1⟩
  replace hP := hP.on hb1
  replace hbel := hbel.trans (hb1.mono hbel.size)
  clear hb1
  go_wp2_with (first | fail | (with_reducible refine pr_load rfl _ rfl _ rfl hP hP_z ?_) | (with_reducible refine pr_load_g (by with_unfolding_all rfl) _ rfl _ rfl hP hP_z ?_))
  refine (KG.out _).mono ?_
  rintro e v2 ⟨rfl, hb2⟩
  replace hP := hP.on hb2
  replace hbel := hbel.trans (hb2.mono hbel.size)
  clear hb2
  go_wp2_with (first | fail | (with_reducible refine pr_load rfl _ rfl _ rfl hP hP_z ?_) | (with_reducible refine pr_load_g (by with_unfolding_all rfl) _ rfl _ rfl hP hP_z ?_))
  go_ret
  exact ⟨rfl, hbel⟩
def slo1Tab (p : Pr) (bi z2 rx lim : Int) (x : Nat) (ok : Bool) (B : Nat) : Nat → Slot
  | 0 => .val (.agg (prA p))
  | 1 => .val (.int .i64 bi)
  | 2 => .val (.int .i64 z2)
  | 3 => .val (.int .i64 rx)
  | 4 => .val (.pointer (some ⟨B, 0, none⟩))
  | 5 => .val (.int .i64 lim)
  | 6 => .val (.tuple #[.agg (numC x), .bool ok])
  | 7 => .val (.tuple #[.agg (numC x), .bool ok])
  | 8 => .val (.agg (numC x))
  | 9 => .val (.bool ok)
  | 10 => .ptr
  | 12 => .val (.bool ok)
  | _ => .any
def slo2Tab (p : Pr) (bi z3 rx lim : Int) (x : Nat) (ok : Bool) (B : Nat) : Nat → Slot
  | 0 => .val (.agg (prA p))
  | 1 => .val (.int .i64 bi)
  | 2 => .val (.int .i64 z3)
  | 3 => .val (.int .i64 rx)
  | 4 => .val (.pointer (some ⟨B, 0, none⟩))
  | 5 => .val (.int .i64 lim)
  | 6 => .val (.tuple #[.agg (numC x), .bool ok])
  | 7 => .val (.tuple #[.agg (numC x), .bool ok])
  | 8 => .val (.agg (numC x))
  | 9 => .val (.bool ok)
  | 10 => .ptr
  | 12 => .val (.bool ok)
  | _ => .any
set_option maxRecDepth 100000 in
set_option maxHeartbeats 2000000 in
theorem slo_in (p : Pr) (hz : (prA p).size = 83) (bi z2 z3 lim KRv KSv : Int) (e0 : Hid (p.lim = lim)) (x y : Nat) (t1 : decide (z2 < 0) = false) (t2 : decide (z3 < z2) = false) (t3 : decide ((1099511627776 : Int) < z3) = false)
    (KG : Hid (∀ w, Calls Try.prog 9 #[.agg (prA p)] w fun e w' => e = .returned (.bool true) ∧ Below w.heap.size w w'))
    (KR : Hid (∀ w, Calls Try.prog 11 #[.agg (prA p), .int .i64 bi, .int .i64 0, .int .i64 z2] w fun e w' => e = .returned (.int .i64 KRv) ∧ Below w.heap.size w w')) (KX : Hid (∀ w, Calls Try.prog 10 #[.int .i64 KRv, .int .i64 lim] w fun e w' => e = .returned (.tuple #[.agg (numC x), .bool true]) ∧ Below w.heap.size w w'))
    (KS : Hid (∀ w, Calls Try.prog 11 #[.agg (prA p), .int .i64 bi, .int .i64 0, .int .i64 z3] w fun e w' => e = .returned (.int .i64 KSv) ∧ Below w.heap.size w w')) (KY : Hid (∀ w, Calls Try.prog 10 #[.int .i64 KSv, .int .i64 lim] w fun e w' => e = .returned (.tuple #[.agg (numC y), .bool true]) ∧ Below w.heap.size w w'))
    (KL : Hid (∀ w, Calls Try.prog 12 #[.agg (numC y), .agg (numC x)] w fun e w' => e = .returned (.bool false) ∧ Below w.heap.size w w')) (w : World) :
    Calls Try.prog 3 #[.agg (prA p), .int .i64 bi, .int .i64 z2, .int .i64 z3] w fun e w' => e = .returned (.bool true) ∧ Below w.heap.size w w' := by
  have KA := Lib.hid alive10
  have hP_z := hz
  go_enter Try.func3, Try.ntmps3
  go_upto_region 1 with fail
  generalize hw0 : World.alloc _ _ = v0
  have hbel : Below w.heap.size w v0 := by rw [← hw0]; exact (Below.refl _ _).alloc (by first | exact Nat.le_refl _ | (simp; done) | (simp; omega)) _
  have hP : PrAt v0 (w.heap.size) p := by rw [← hw0]; exact Has.new _ _
  clear hw0
  go_wp2_with (first | fail | (with_reducible refine pr_load rfl _ rfl _ rfl hP hP_z ?_) | (with_reducible refine pr_load_g (by with_unfolding_all rfl) _ rfl _ rfl hP hP_z ?_))
  refine (KA.out _).mono ?_
  rintro e v1 ⟨rfl, hb1⟩
  replace hP := hP.on hb1
  replace hbel := hbel.trans (hb1.mono hbel.size)
  clear hb1
  go_wp2_with (first | fail | (with_reducible refine pr_load rfl _ rfl _ rfl hP hP_z ?_) | (with_reducible refine pr_load_g (by with_unfolding_all rfl) _ rfl _ rfl hP hP_z ?_))
  refine (KG.out _).mono ?_
  rintro e v2 ⟨rfl, hb2⟩
  replace hP := hP.on hb2
  replace hbel := hbel.trans (hb2.mono hbel.size)
  clear hb2
  go_wp2_with fail
  refine Rg2.wp_region_inv (by kernel_rfl) (fun w' => Below v2.heap.size v2 w') (fun i v' w' => (slo1Tab p bi z2 KRv lim x true w.heap.size i).holds v2.heap.size v' w') (fun l a w' => Done 11 9 v2.heap.size x l a w') (NumStep v2.heap.size) (fun _ _ => NumStep.refl _ _) (fun _ _ _ _ _ hs h => Slot.stays _ _ _ _ hs h) (by kernel_rfl) (Below.refl _ _).drew ?_ ?_ ?_
  · exact fun l hl => fun hk => (by rw [hl] at hk; cases hk)
  · intro i o listed a wx ho hn hdep hinv
    have hC := hinv.c
    have hI := hinv.i
    have hi : i < 13 := (Array.getElem?_eq_some_iff.1 ho).1
    obtain rfl | rfl | rfl | rfl | rfl | rfl | rfl | rfl | rfl | rfl | rfl | rfl | rfl : i = 0 ∨ i = 1 ∨ i = 2 ∨ i = 3 ∨ i = 4 ∨ i = 5 ∨ i = 6 ∨ i = 7 ∨ i = 8 ∨ i = 9 ∨ i = 10 ∨ i = 11 ∨ i = 12 := by omega
    all_goals obtain rfl := Option.some.inj ho
    · exact duty_value ((fun _ _ => NumStep.refl _ _)) hC (wanted_free rfl) (ex_load_pr rfl (hinv.old' 4 (by kernel_rfl)) (hP.on hC) hP_z) rfl (Done.pre (hinv.aheadT 8 (by kernel_rfl) hn (by decide) (by decide)))
    · exact duty_value ((fun _ _ => NumStep.refl _ _)) hC (wanted_free rfl) (ex_move rfl) (hinv.old' 1 (by kernel_rfl)) (Done.pre (hinv.aheadT 8 (by kernel_rfl) hn (by decide) (by decide)))
    · exact duty_value ((fun _ _ => NumStep.refl _ _)) hC (wanted_free rfl) (ex_move rfl) (hinv.old' 2 (by kernel_rfl)) (Done.pre (hinv.aheadT 8 (by kernel_rfl) hn (by decide) (by decide)))
    · have e32 := hinv.got 0 _ 32 rfl (hdep ⟨0, .data⟩ (by simp) rfl) rfl; have e33 := hinv.got 1 _ 33 rfl (hdep ⟨1, .data⟩ (by simp) rfl) rfl; have e34 := hinv.got 2 _ 34 rfl (hdep ⟨2, .data⟩ (by simp) rfl) rfl
      exact duty_call (wanted_free rfl) (f := 11) (args := #[a.eval (.tmp 32), a.eval (.tmp 33), .int .i64 0, a.eval (.tmp 34)]) (by kernel_rfl) (by rw [show a.eval (.tmp 32) = _ from e32]; rw [show a.eval (.tmp 33) = _ from e33]; rw [show a.eval (.tmp 34) = _ from e34];  exact KR.out wx) (fun w' hb => ⟨hC.trans (hb.mono hC.size), NumStep.below hb, rfl, Done.pre (hinv.aheadT 8 (by kernel_rfl) hn (by decide) (by decide))⟩)
    · exact duty_value ((fun _ _ => NumStep.refl _ _)) hC (wanted_free rfl) (ex_field0 rfl (hinv.old' 4 (by kernel_rfl))) rfl (Done.pre (hinv.aheadT 8 (by kernel_rfl) hn (by decide) (by decide)))
    · exact duty_value ((fun _ _ => NumStep.refl _ _)) hC (wanted_free rfl) (ex_load_int rfl (hinv.got 4 _ 36 rfl (hdep ⟨4, .data⟩ (by simp) rfl) rfl) ((hP.on hC).c0 e0)) rfl (Done.pre (hinv.aheadT 8 (by kernel_rfl) hn (by decide) (by decide)))
    · have e35 := hinv.got 3 _ 35 rfl (hdep ⟨3, .data⟩ (by simp) rfl) rfl; have e37 := hinv.got 5 _ 37 rfl (hdep ⟨5, .data⟩ (by simp) rfl) rfl
      exact duty_call (wanted_free rfl) (f := 10) (args := #[a.eval (.tmp 35), a.eval (.tmp 37)]) (by kernel_rfl) (by rw [show a.eval (.tmp 35) = _ from e35]; rw [show a.eval (.tmp 37) = _ from e37];  exact KX.out wx) (fun w' hb => ⟨hC.trans (hb.mono hC.size), NumStep.below hb, rfl, Done.pre (hinv.aheadT 8 (by kernel_rfl) hn (by decide) (by decide))⟩)
    · exact duty_value ((fun _ _ => NumStep.refl _ _)) hC (wanted_free rfl) (ex_move rfl) (hinv.got 6 _ 38 rfl (hdep ⟨6, .data⟩ (by simp) rfl) rfl) (Done.pre (hinv.aheadT 8 (by kernel_rfl) hn (by decide) (by decide)))
    · exact duty_value ((fun _ _ => NumStep.refl _ _)) hC (wanted_free rfl) (ex_extract rfl (hinv.got 7 _ 31 rfl (hdep ⟨7, .data⟩ (by simp) rfl) rfl) rfl) rfl (Done.pre (hinv.aheadT 8 (by kernel_rfl) hn (by decide) (by decide)))
    · exact duty_value ((fun _ _ => NumStep.refl _ _)) hC (wanted_free rfl) (ex_extract rfl (hinv.got 7 _ 31 rfl (hdep ⟨7, .data⟩ (by simp) rfl) rfl) rfl) rfl (Done.keep hI (by rw [hinv.size]; decide) (by decide) (by decide) (fun _ h => h))
    · have hbel' : Below wx.heap.size wx (wx.alloc (.cells (numC 0) 26)) := (Below.refl _ _).alloc (Nat.le_refl _) _
      exact duty_made (wanted_free rfl) (ex_alloc_num rfl) (hC.trans (hbel'.mono hC.size)) (NumStep.below hbel') ⟨wx.heap.size, numC 0, hC.size, rfl, Has.new _ _, rfl⟩ (Done.pre (hinv.aheadT 8 (by kernel_rfl) hn (by decide) (by decide)))
    · obtain ⟨b, cs, hb, he, hh, hsz⟩ : Slot.ptr.holds v2.heap.size (a.eval (.tmp 9)) wx := hinv.got 10 _ 9 rfl (hdep ⟨10, .data⟩ (by simp) rfl) rfl
      exact duty_store (wanted_free rfl) (ex_store_num rfl he (hinv.got 8 _ 39 rfl (hdep ⟨8, .data⟩ (by simp) rfl) rfl) hh hsz) (below_setRow hC hb _) (NumStep.row hh) trivial (fun _ => ⟨b, hb, he, hh.row _⟩)
    · exact duty_value ((fun _ _ => NumStep.refl _ _)) hC (wanted_free rfl) (ex_assign rfl) (hinv.got 9 _ 40 rfl (hdep ⟨9, .data⟩ (by simp) rfl) rfl) (Done.keep hI (by rw [hinv.size]; decide) (by decide) (by decide) (fun _ h => h))
  · intro listed a wx hall hinv
    have hC := hinv.c
    obtain ⟨b_hX, hb_hX, e9, hX⟩ := hinv.i (hall 11 (by decide))
    have e1 : a.eval (.tmp 1) = .int .i64 bi := hinv.old' 1 (by kernel_rfl)
    have e2 : a.eval (.tmp 2) = .int .i64 z2 := hinv.old' 2 (by kernel_rfl)
    have e3 : a.eval (.tmp 3) = .int .i64 z3 := hinv.old' 3 (by kernel_rfl)
    have e4 : a.eval (.tmp 4) = .pointer (some ⟨w.heap.size, 0, none⟩) := hinv.old' 4 (by kernel_rfl)
    have e8 : a.eval (.tmp 8) = .bool false := hinv.old' 8 (by kernel_rfl)
    have e10 : a.eval (.tmp 10) = .bool true := hinv.got 12 _ 10 rfl (hall 12 (by decide)) rfl
    replace hP := hP.on hC
    replace hbel := hbel.trans (hC.mono hbel.size)
    obtain ⟨u, hu⟩ : ∃ u : Nat → Value, ∀ t, u t = a.eval (.tmp t) := ⟨_, fun _ => rfl⟩
    rw [frame_back a 55 u hinv.tsize hinv.defers hu]
    rw [← hu] at e1 e2 e3 e4 e8 e9 e10
    clear hu hinv hall hC hb_hX
    show Exit.then _ _ _ (⟨#[u 0, u 1, u 2, u 3, u 4, u 5, u 6, u 7, u 8, u 9, u 10, u 11, u 12, u 13, u 14, u 15, u 16, u 17, u 18, u 19, u 20, u 21, u 22, u 23, u 24, u 25, u 26, u 27, u 28, u 29, u 30, u 31, u 32, u 33, u 34, u 35, u 36, u 37, u 38, u 39, u 40, u 41, u 42, u 43, u 44, u 45, u 46, u 47, u 48, u 49, u 50, u 51, u 52, u 53, u 54], []⟩ : Act) _
    rw [e1, e2, e3, e4, e8, e9, e10]
    clear e1 e2 e3 e4 e8 e9 e10
    rename World => v9
    go_wp2_with fail
    refine Rg2.wp_region_inv (by kernel_rfl) (fun w' => Below v9.heap.size v9 w') (fun i v' w' => (slo2Tab p bi z3 KSv lim y true w.heap.size i).holds v9.heap.size v' w') (fun l a w' => Done 11 11 v9.heap.size y l a w') (NumStep v9.heap.size) (fun _ _ => NumStep.refl _ _) (fun _ _ _ _ _ hs h => Slot.stays _ _ _ _ hs h) (by kernel_rfl) (Below.refl _ _).drew ?_ ?_ ?_
    · exact fun l hl => fun hk => (by rw [hl] at hk; cases hk)
    · intro i o listed a wx ho hn hdep hinv
      have hC := hinv.c
      have hI := hinv.i
      have hi : i < 13 := (Array.getElem?_eq_some_iff.1 ho).1
      obtain rfl | rfl | rfl | rfl | rfl | rfl | rfl | rfl | rfl | rfl | rfl | rfl | rfl : i = 0 ∨ i = 1 ∨ i = 2 ∨ i = 3 ∨ i = 4 ∨ i = 5 ∨ i = 6 ∨ i = 7 ∨ i = 8 ∨ i = 9 ∨ i = 10 ∨ i = 11 ∨ i = 12 := by omega
      all_goals obtain rfl := Option.some.inj ho
      · exact duty_value ((fun _ _ => NumStep.refl _ _)) hC (wanted_free rfl) (ex_load_pr rfl (hinv.old' 4 (by kernel_rfl)) (hP.on hC) hP_z) rfl (Done.pre (hinv.aheadT 8 (by kernel_rfl) hn (by decide) (by decide)))
      · exact duty_value ((fun _ _ => NumStep.refl _ _)) hC (wanted_free rfl) (ex_move rfl) (hinv.old' 1 (by kernel_rfl)) (Done.pre (hinv.aheadT 8 (by kernel_rfl) hn (by decide) (by decide)))
      · exact duty_value ((fun _ _ => NumStep.refl _ _)) hC (wanted_free rfl) (ex_move rfl) (hinv.old' 3 (by kernel_rfl)) (Done.pre (hinv.aheadT 8 (by kernel_rfl) hn (by decide) (by decide)))
      · have e42 := hinv.got 0 _ 42 rfl (hdep ⟨0, .data⟩ (by simp) rfl) rfl; have e43 := hinv.got 1 _ 43 rfl (hdep ⟨1, .data⟩ (by simp) rfl) rfl; have e44 := hinv.got 2 _ 44 rfl (hdep ⟨2, .data⟩ (by simp) rfl) rfl
        exact duty_call (wanted_free rfl) (f := 11) (args := #[a.eval (.tmp 42), a.eval (.tmp 43), .int .i64 0, a.eval (.tmp 44)]) (by kernel_rfl) (by rw [show a.eval (.tmp 42) = _ from e42]; rw [show a.eval (.tmp 43) = _ from e43]; rw [show a.eval (.tmp 44) = _ from e44];  exact KS.out wx) (fun w' hb => ⟨hC.trans (hb.mono hC.size), NumStep.below hb, rfl, Done.pre (hinv.aheadT 8 (by kernel_rfl) hn (by decide) (by decide))⟩)
      · exact duty_value ((fun _ _ => NumStep.refl _ _)) hC (wanted_free rfl) (ex_field0 rfl (hinv.old' 4 (by kernel_rfl))) rfl (Done.pre (hinv.aheadT 8 (by kernel_rfl) hn (by decide) (by decide)))
      · exact duty_value ((fun _ _ => NumStep.refl _ _)) hC (wanted_free rfl) (ex_load_int rfl (hinv.got 4 _ 46 rfl (hdep ⟨4, .data⟩ (by simp) rfl) rfl) ((hP.on hC).c0 e0)) rfl (Done.pre (hinv.aheadT 8 (by kernel_rfl) hn (by decide) (by decide)))
      · have e45 := hinv.got 3 _ 45 rfl (hdep ⟨3, .data⟩ (by simp) rfl) rfl; have e47 := hinv.got 5 _ 47 rfl (hdep ⟨5, .data⟩ (by simp) rfl) rfl
        exact duty_call (wanted_free rfl) (f := 10) (args := #[a.eval (.tmp 45), a.eval (.tmp 47)]) (by kernel_rfl) (by rw [show a.eval (.tmp 45) = _ from e45]; rw [show a.eval (.tmp 47) = _ from e47];  exact KY.out wx) (fun w' hb => ⟨hC.trans (hb.mono hC.size), NumStep.below hb, rfl, Done.pre (hinv.aheadT 8 (by kernel_rfl) hn (by decide) (by decide))⟩)
      · exact duty_value ((fun _ _ => NumStep.refl _ _)) hC (wanted_free rfl) (ex_move rfl) (hinv.got 6 _ 48 rfl (hdep ⟨6, .data⟩ (by simp) rfl) rfl) (Done.pre (hinv.aheadT 8 (by kernel_rfl) hn (by decide) (by decide)))
      · exact duty_value ((fun _ _ => NumStep.refl _ _)) hC (wanted_free rfl) (ex_extract rfl (hinv.got 7 _ 41 rfl (hdep ⟨7, .data⟩ (by simp) rfl) rfl) rfl) rfl (Done.pre (hinv.aheadT 8 (by kernel_rfl) hn (by decide) (by decide)))
      · exact duty_value ((fun _ _ => NumStep.refl _ _)) hC (wanted_free rfl) (ex_extract rfl (hinv.got 7 _ 41 rfl (hdep ⟨7, .data⟩ (by simp) rfl) rfl) rfl) rfl (Done.keep hI (by rw [hinv.size]; decide) (by decide) (by decide) (fun _ h => h))
      · have hbel' : Below wx.heap.size wx (wx.alloc (.cells (numC 0) 26)) := (Below.refl _ _).alloc (Nat.le_refl _) _
        exact duty_made (wanted_free rfl) (ex_alloc_num rfl) (hC.trans (hbel'.mono hC.size)) (NumStep.below hbel') ⟨wx.heap.size, numC 0, hC.size, rfl, Has.new _ _, rfl⟩ (Done.pre (hinv.aheadT 8 (by kernel_rfl) hn (by decide) (by decide)))
      · obtain ⟨b, cs, hb, he, hh, hsz⟩ : Slot.ptr.holds v9.heap.size (a.eval (.tmp 11)) wx := hinv.got 10 _ 11 rfl (hdep ⟨10, .data⟩ (by simp) rfl) rfl
        exact duty_store (wanted_free rfl) (ex_store_num rfl he (hinv.got 8 _ 49 rfl (hdep ⟨8, .data⟩ (by simp) rfl) rfl) hh hsz) (below_setRow hC hb _) (NumStep.row hh) trivial (fun _ => ⟨b, hb, he, hh.row _⟩)
      · exact duty_value ((fun _ _ => NumStep.refl _ _)) hC (wanted_free rfl) (ex_assign rfl) (hinv.got 9 _ 50 rfl (hdep ⟨9, .data⟩ (by simp) rfl) rfl) (Done.keep hI (by rw [hinv.size]; decide) (by decide) (by decide) (fun _ h => h))
    · intro listed a wx hall hinv
      have hC := hinv.c
      obtain ⟨b_hY, hb_hY, e11, hY⟩ := hinv.i (hall 11 (by decide))
      have e1 : a.eval (.tmp 1) = .int .i64 bi := hinv.old' 1 (by kernel_rfl)
      have e2 : a.eval (.tmp 2) = .int .i64 z2 := hinv.old' 2 (by kernel_rfl)
      have e3 : a.eval (.tmp 3) = .int .i64 z3 := hinv.old' 3 (by kernel_rfl)
      have e4 : a.eval (.tmp 4) = .pointer (some ⟨w.heap.size, 0, none⟩) := hinv.old' 4 (by kernel_rfl)
      have e8 : a.eval (.tmp 8) = .bool false := hinv.old' 8 (by kernel_rfl)
      have e9 : a.eval (.tmp 9) = .pointer (some ⟨b_hX, 0, none⟩) := hinv.old' 9 (by kernel_rfl)
      have e12 : a.eval (.tmp 12) = .bool true := hinv.got 12 _ 12 rfl (hall 12 (by decide)) rfl
      replace hP := hP.on hC
      replace hX := hX.on hC
      replace hbel := hbel.trans (hC.mono hbel.size)
      obtain ⟨u, hu⟩ : ∃ u : Nat → Value, ∀ t, u t = a.eval (.tmp t) := ⟨_, fun _ => rfl⟩
      rw [frame_back a 55 u hinv.tsize hinv.defers hu]
      rw [← hu] at e1 e2 e3 e4 e8 e9 e11 e12
      clear hu hinv hall hC hb_hY
      show Exit.then _ _ _ (⟨#[u 0, u 1, u 2, u 3, u 4, u 5, u 6, u 7, u 8, u 9, u 10, u 11, u 12, u 13, u 14, u 15, u 16, u 17, u 18, u 19, u 20, u 21, u 22, u 23, u 24, u 25, u 26, u 27, u 28, u 29, u 30, u 31, u 32, u 33, u 34, u 35, u 36, u 37, u 38, u 39, u 40, u 41, u 42, u 43, u 44, u 45, u 46, u 47, u 48, u 49, u 50, u 51, u 52, u 53, u 54], []⟩ : Act) _
      rw [e1, e2, e3, e4, e8, e9, e11, e12]
      clear e1 e2 e3 e4 e8 e9 e11 e12
      go_wp2_with (first | fail | (with_reducible refine pr_load rfl _ rfl _ rfl hP hP_z ?_) | (with_reducible refine pr_load_g (by with_unfolding_all rfl) _ rfl _ rfl hP hP_z ?_) | (with_reducible refine num_load rfl _ rfl _ rfl _ hX rfl ?_) | (with_reducible refine num_load_g (by with_unfolding_all rfl) _ rfl _ rfl _ hX rfl ?_) | (with_reducible refine num_load rfl _ rfl _ rfl _ hY rfl ?_) | (with_reducible refine num_load_g (by with_unfolding_all rfl) _ rfl _ rfl _ hY rfl ?_))
      refine (KL.out _).mono ?_
      rintro e v3 ⟨rfl, hb3⟩
      replace hP := hP.on hb3
      replace hX := hX.on hb3
      replace hY := hY.on hb3
      replace hbel := hbel.trans (hb3.mono hbel.size)
      clear hb3
      go_wp2_with (first | fail | (with_reducible refine pr_load rfl _ rfl _ rfl hP hP_z ?_) | (with_reducible refine pr_load_g (by with_unfolding_all rfl) _ rfl _ rfl hP hP_z ?_) | (with_reducible refine num_load rfl _ rfl _ rfl _ hX rfl ?_) | (with_reducible refine num_load_g (by with_unfolding_all rfl) _ rfl _ rfl _ hX rfl ?_) | (with_reducible refine num_load rfl _ rfl _ rfl _ hY rfl ?_) | (with_reducible refine num_load_g (by with_unfolding_all rfl) _ rfl _ rfl _ hY rfl ?_))
      go_ret
      exact ⟨rfl, hbel⟩
theorem slower_walk (p : Pr) (ho : p.ok) (bi z2 z3 : Int) (b2 : -9223372036854775808 ≤ z2 ∧ z2 ≤ 9223372036854775807) (b3 : -9223372036854775808 ≤ z3 ∧ z3 ≤ 9223372036854775807) (w : World) : Calls Try.prog 3 #[.agg (prA p), .int .i64 bi, .int .i64 z2, .int .i64 z3] w fun e w' => e = .returned (.bool true) ∧ Below w.heap.size w w' := by
  have hz := prA_size ho
  have KG := fun w => rgood_at p w
  by_cases h0 : p.good = false
  · rw [h0] at KG
    exact slo_bad p hz bi z2 z3 (Lib.hid KG) w
  rw [Bool.not_eq_false] at h0
  rw [h0] at KG
  by_cases h1 : z2 < 0
  · exact slo_low p hz bi z2 z3 (decide_eq_true h1) (Lib.hid KG) w
  by_cases h2 : z3 < z2
  · exact slo_less p hz bi z2 z3 (decide_eq_false h1) (decide_eq_true h2) (Lib.hid KG) w
  by_cases h3 : (1099511627776 : Int) < z3
  · exact slo_high p hz bi z2 z3 (decide_eq_false h1) (decide_eq_false h2) (decide_eq_true h3) (Lib.hid KG) w
  have d2 : IntKind.i64.wrap (z2 - 0) = z2 := by rw [IntKind.wrap_i64]; omega
  have d3 : IntKind.i64.wrap (z3 - 0) = z3 := by rw [IntKind.wrap_i64]; omega
  exact slo_in p hz bi z2 z3 _ _ _ (Lib.hid rfl) _ _ (decide_eq_false h1) (decide_eq_false h2) (decide_eq_false h3) (Lib.hid KG)
    (Lib.hid (retarget_at p ho bi 0 z2 z2 d2)) (Lib.hid (tg_rt h0 bi z2)) (Lib.hid (retarget_at p ho bi 0 z3 z3 d3)) (Lib.hid (tg_rt h0 bi z3))
    (Lib.hid (ref_less_is _ _ (rv_lt _ _ _) (rv_lt _ _ _) false (decide_eq_false (by have := rv_mono h0 bi (show z2 ≤ z3 by omega); omega)))) w
end Go.Proofs.Ytmemppkkchfphaa
