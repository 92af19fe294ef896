import Derived.Test.YtlednkbnhnjgcaaWkNear
namespace Go.Proofs.Ytlednkbnhnjgcaa
open Go.RowKit Rg2
set_option maxRecDepth 100000 in
set_option maxHeartbeats 2000000 in
theorem falls_not (a b : Nat) (KL : Hid (∀ w, Calls Try.prog 8 #[.agg (numC b), .agg (numC a)] w fun e w' => e = .returned (.bool true) ∧ Below w.heap.size w w')) (w : World) :
    Calls Try.prog 4 #[.agg (numC a), .agg (numC b)] w fun e w' => e = .returned (.bool true) ∧ Below w.heap.size w w' := by
  go_enter Try.func4, Try.ntmps4
  go_upto_region 1 with fail
  generalize hw0 : World.alloc _ _ = v0
  have hbel : Below w.heap.size w v0 := by rw [← hw0]; exact ((Below.refl _ _).alloc (by first | exact Nat.le_refl _ | (simp; done) | (simp; omega)) _).alloc (by first | exact Nat.le_refl _ | (simp; done) | (simp; omega)) _
  have hA : Has v0 (w.heap.size) (numC a) 24 := by rw [← hw0]; exact (Has.new _ _).alloc _
  have hB : Has v0 (w.heap.size + 1) (numC b) 24 := by rw [← hw0]; exact Has.new1 _ _ _
  clear hw0
  generalize hg1 : w.heap.size + 1 = b_hB at hB ⊢
  clear hg1
  
  go_wp2_with (first | fail | (with_reducible refine num_load rfl _ rfl _ rfl _ hA rfl ?_) | (with_reducible refine num_load rfl _ rfl _ rfl _ hB rfl ?_))
  refine (alive _).mono ?_
  rintro e v1 ⟨rfl, hb1⟩
  replace hA := hA.on hb1
  replace hB := hB.on hb1
  replace hbel := hbel.trans (hb1.mono hbel.size)
  clear hb1
  go_wp2_with (first | fail | (with_reducible refine num_load rfl _ rfl _ rfl _ hA rfl ?_) | (with_reducible refine num_load rfl _ rfl _ rfl _ hB rfl ?_))
  refine (KL.out _).mono ?_
  rintro e v2 ⟨rfl, hb2⟩
  replace hA := hA.on hb2
  replace hB := hB.on hb2
  replace hbel := hbel.trans (hb2.mono hbel.size)
  clear hb2
  go_wp2_with (first | fail | (with_reducible refine num_load rfl _ rfl _ rfl _ hA rfl ?_) | (with_reducible refine num_load rfl _ rfl _ rfl _ hB rfl ?_))
  go_ret
  exact ⟨rfl, hbel⟩
def fallsTab (a b x y : Nat) : Nat → Slot
  | 0 => .val (.agg (numC a))
  | 1 => .val (.agg (numC x))
  | 2 => .val (.agg (numC b))
  | 3 => .val (.agg (numC y))
  | 4 => .ptr
  | 5 => .ptr
  | _ => .any
set_option maxRecDepth 100000 in
set_option maxHeartbeats 2000000 in
theorem falls_in (a b x y : Nat) (KL : Hid (∀ w, Calls Try.prog 8 #[.agg (numC b), .agg (numC a)] w fun e w' => e = .returned (.bool false) ∧ Below w.heap.size w w'))
    (KX : Hid (∀ w, Calls Try.prog 9 #[.agg (numC a)] w fun e w' => e = .returned (.agg (numC x)) ∧ Below w.heap.size w w')) (KY : Hid (∀ w, Calls Try.prog 9 #[.agg (numC b)] w fun e w' => e = .returned (.agg (numC y)) ∧ Below w.heap.size w w'))
    (KL2 : Hid (∀ w, Calls Try.prog 8 #[.agg (numC x), .agg (numC y)] w fun e w' => e = .returned (.bool false) ∧ Below w.heap.size w w'))
    (KQX : Hid (∀ w, (binOp .neq 24 (.agg (numC x)) (.agg #[.int .u64 0, .int .u64 0, .int .u64 0, .int .u64 0])).run Try.prog w = .ok (.bool true) w)) (KQY : Hid (∀ w, (binOp .neq 24 (.agg (numC y)) (.agg #[.int .u64 0, .int .u64 0, .int .u64 0, .int .u64 0])).run Try.prog w = .ok (.bool true) w)) (w : World) :
    Calls Try.prog 4 #[.agg (numC a), .agg (numC b)] w fun e w' => e = .returned (.bool true) ∧ Below w.heap.size w w' := by
  go_enter Try.func4, Try.ntmps4
  go_upto_region 1 with fail
  generalize hw0 : World.alloc _ _ = v0
  have hbel : Below w.heap.size w v0 := by rw [← hw0]; exact ((Below.refl _ _).alloc (by first | exact Nat.le_refl _ | (simp; done) | (simp; omega)) _).alloc (by first | exact Nat.le_refl _ | (simp; done) | (simp; omega)) _
  have hA : Has v0 (w.heap.size) (numC a) 24 := by rw [← hw0]; exact (Has.new _ _).alloc _
  have hB : Has v0 (w.heap.size + 1) (numC b) 24 := by rw [← hw0]; exact Has.new1 _ _ _
  clear hw0
  generalize hg1 : w.heap.size + 1 = b_hB at hB ⊢
  clear hg1
  
  go_wp2_with (first | fail | (with_reducible refine num_load rfl _ rfl _ rfl _ hA rfl ?_) | (with_reducible refine num_load rfl _ rfl _ rfl _ hB rfl ?_) | (with_reducible refine num_load_g (by with_unfolding_all rfl) _ rfl _ rfl _ hA rfl ?_) | (with_reducible refine num_load_g (by with_unfolding_all rfl) _ rfl _ rfl _ hB rfl ?_))
  refine (alive _).mono ?_
  rintro e v1 ⟨rfl, hb1⟩
  replace hA := hA.on hb1
  replace hB := hB.on hb1
  replace hbel := hbel.trans (hb1.mono hbel.size)
  clear hb1
  go_wp2_with (first | fail | (with_reducible refine num_load rfl _ rfl _ rfl _ hA rfl ?_) | (with_reducible refine num_load rfl _ rfl _ rfl _ hB rfl ?_) | (with_reducible refine num_load_g (by with_unfolding_all rfl) _ rfl _ rfl _ hA rfl ?_) | (with_reducible refine num_load_g (by with_unfolding_all rfl) _ rfl _ rfl _ hB rfl ?_))
  refine (KL.out _).mono ?_
  rintro e v2 ⟨rfl, hb2⟩
  replace hA := hA.on hb2
  replace hB := hB.on hb2
  replace hbel := hbel.trans (hb2.mono hbel.size)
  clear hb2
  go_wp2_with fail
  refine Rg2.wp_region_inv (by kernel_rfl) (fun w' => Below v2.heap.size v2 w') (fun i v' w' => (fallsTab a b x y i).holds v2.heap.size v' w') (fun l a w' => (Done 6 5 v2.heap.size x l a w' ∧ Done 7 6 v2.heap.size y l a w') ∧ Dist 4 5 5 6 l a) (NumStep v2.heap.size) (fun _ _ => NumStep.refl _ _) (fun _ _ _ _ _ hs h => Slot.stays _ _ _ _ hs h) (by kernel_rfl) (Below.refl _ _).drew ?_ ?_ ?_
  · exact fun l hl => ⟨⟨fun hk => (by rw [hl] at hk; cases hk), fun hk => (by rw [hl] at hk; cases hk)⟩, fun hk _ => (by rw [hl] at hk; cases hk)⟩
  · intro i o listed a wx ho hn hdep hinv
    have hC := hinv.c
    have hI := hinv.i
    have hi : i < 8 := (Array.getElem?_eq_some_iff.1 ho).1
    obtain rfl | rfl | rfl | rfl | rfl | rfl | rfl | rfl : i = 0 ∨ i = 1 ∨ i = 2 ∨ i = 3 ∨ i = 4 ∨ i = 5 ∨ i = 6 ∨ i = 7 := by omega
    all_goals obtain rfl := Option.some.inj ho
    · exact duty_value ((fun _ _ => NumStep.refl _ _)) hC (wanted_free rfl) (ex_load_num rfl (hinv.old' 2 (by kernel_rfl)) (hA.on hC)) rfl (⟨⟨Done.pre (hinv.aheadT 8 (by kernel_rfl) hn (by decide) (by decide)), Done.pre (hinv.aheadT 8 (by kernel_rfl) hn (by decide) (by decide))⟩, Dist.keep hI.2 (by rw [hinv.size]; decide) (by decide) (by decide) (by decide) (by decide)⟩)
    · have e12 := hinv.got 0 _ 12 rfl (hdep ⟨0, .data⟩ (by simp) rfl) rfl
      exact duty_call (wanted_free rfl) (f := 9) (args := #[a.eval (.tmp 12)]) (by kernel_rfl) (by rw [show a.eval (.tmp 12) = _ from e12];  exact KX.out wx) (fun w' hb => ⟨hC.trans (hb.mono hC.size), NumStep.below hb, rfl, ⟨⟨Done.pre (hinv.aheadT 8 (by kernel_rfl) hn (by decide) (by decide)), Done.pre (hinv.aheadT 8 (by kernel_rfl) hn (by decide) (by decide))⟩, Dist.keep hI.2 (by rw [hinv.size]; decide) (by decide) (by decide) (by decide) (by decide)⟩⟩)
    · exact duty_value ((fun _ _ => NumStep.refl _ _)) hC (wanted_free rfl) (ex_load_num rfl (hinv.old' 3 (by kernel_rfl)) (hB.on hC)) rfl (⟨⟨Done.pre (hinv.aheadT 8 (by kernel_rfl) hn (by decide) (by decide)), Done.pre (hinv.aheadT 8 (by kernel_rfl) hn (by decide) (by decide))⟩, Dist.keep hI.2 (by rw [hinv.size]; decide) (by decide) (by decide) (by decide) (by decide)⟩)
    · have e14 := hinv.got 2 _ 14 rfl (hdep ⟨2, .data⟩ (by simp) rfl) rfl
      exact duty_call (wanted_free rfl) (f := 9) (args := #[a.eval (.tmp 14)]) (by kernel_rfl) (by rw [show a.eval (.tmp 14) = _ from e14];  exact KY.out wx) (fun w' hb => ⟨hC.trans (hb.mono hC.size), NumStep.below hb, rfl, ⟨⟨Done.pre (hinv.aheadT 8 (by kernel_rfl) hn (by decide) (by decide)), Done.pre (hinv.aheadT 8 (by kernel_rfl) hn (by decide) (by decide))⟩, Dist.keep hI.2 (by rw [hinv.size]; decide) (by decide) (by decide) (by decide) (by decide)⟩⟩)
    · have hbel' : Below wx.heap.size wx (wx.alloc (.cells (numC 0) 24)) := (Below.refl _ _).alloc (Nat.le_refl _) _
      exact duty_made (wanted_free rfl) (ex_alloc_num rfl) (hC.trans (hbel'.mono hC.size)) (NumStep.below hbel') ⟨wx.heap.size, numC 0, hC.size, rfl, Has.new _ _, rfl⟩ (⟨⟨Done.pre (hinv.aheadT 8 (by kernel_rfl) hn (by decide) (by decide)), Done.pre (hinv.aheadT 8 (by kernel_rfl) hn (by decide) (by decide))⟩, Dist.fst (B := v2.heap.size) (fun l => hinv.got 5 _ 6 rfl l rfl) (by rw [hinv.size]; decide) (by decide) (by decide) (by rw [hinv.tsize]; exact (by decide : 5 < 30))⟩)
    · have hbel' : Below wx.heap.size wx (wx.alloc (.cells (numC 0) 24)) := (Below.refl _ _).alloc (Nat.le_refl _) _
      exact duty_made (wanted_free rfl) (ex_alloc_num rfl) (hC.trans (hbel'.mono hC.size)) (NumStep.below hbel') ⟨wx.heap.size, numC 0, hC.size, rfl, Has.new _ _, rfl⟩ (⟨⟨Done.pre (hinv.aheadT 8 (by kernel_rfl) hn (by decide) (by decide)), Done.pre (hinv.aheadT 8 (by kernel_rfl) hn (by decide) (by decide))⟩, Dist.snd (B := v2.heap.size) (fun l => hinv.got 4 _ 5 rfl l rfl) (by rw [hinv.size]; decide) (by decide) (by decide) (by rw [hinv.tsize]; exact (by decide : 6 < 30))⟩)
    · obtain ⟨b, cs, hb, he, hh, hsz⟩ : Slot.ptr.holds v2.heap.size (a.eval (.tmp 5)) wx := hinv.got 4 _ 5 rfl (hdep ⟨4, .data⟩ (by simp) rfl) rfl
      exact duty_store (wanted_free rfl) (ex_store_num rfl he (hinv.got 1 _ 13 rfl (hdep ⟨1, .data⟩ (by simp) rfl) rfl) hh hsz) (below_setRow hC hb _) (NumStep.row hh) trivial ⟨⟨fun _ => ⟨b, hb, he, hh.row _⟩, Done.pre (hinv.aheadT 8 (by kernel_rfl) hn (by decide) (by decide))⟩, Dist.keep hI.2 (by rw [hinv.size]; decide) (by decide) (by decide) (by decide) (by decide)⟩
    · obtain ⟨b, cs, hb, he, hh, hsz⟩ : Slot.ptr.holds v2.heap.size (a.eval (.tmp 6)) wx := hinv.got 5 _ 6 rfl (hdep ⟨5, .data⟩ (by simp) rfl) rfl
      have l10 : listed.getD 4 false = true := hinv.after (k := 6) (by kernel_rfl) (hdep ⟨6, .phase⟩ (by simp) rfl)
      have l11 : listed.getD 5 false = true := hdep ⟨5, .data⟩ (by simp) rfl
      have hne := hI.2 l10 l11
      refine duty_store (wanted_free rfl) (ex_store_num rfl he (hinv.got 3 _ 15 rfl (hdep ⟨3, .data⟩ (by simp) rfl) rfl) hh hsz) (below_setRow hC hb _) (NumStep.row hh) trivial ⟨⟨fun hl => ?_, fun _ => ⟨b, hb, he, hh.row _⟩⟩, Dist.keep hI.2 (by rw [hinv.size]; decide) (by decide) (by decide) (by decide) (by decide)⟩
      rw [getD_set _ _ _ (by rw [hinv.size]; decide), if_neg (by decide)] at hl
      obtain ⟨b', hb', he', hh'⟩ := hI.1.1 hl
      exact ⟨b', hb', he', hh'.otherRow _ _ (fun e => hne (by rw [he', he, e]))⟩
  · intro listed a wx hall hinv
    have hC := hinv.c
    obtain ⟨b_hX, hb_hX, e5, hX⟩ := hinv.i.1.1 (hall 6 (by decide))
    obtain ⟨b_hY, hb_hY, e6, hY⟩ := hinv.i.1.2 (hall 7 (by decide))
    have e4 : a.eval (.tmp 4) = .bool false := hinv.old' 4 (by kernel_rfl)
    replace hA := hA.on hC
    replace hB := hB.on hC
    replace hbel := hbel.trans (hC.mono hbel.size)
    obtain ⟨u, hu⟩ : ∃ u : Nat → Value, ∀ t, u t = a.eval (.tmp t) := ⟨_, fun _ => rfl⟩
    rw [frame_back a 30 u hinv.tsize hinv.defers hu]
    rw [← hu] at e4 e5 e6
    clear hu hinv hall hC hb_hX hb_hY
    show Exit.then _ _ _ (⟨#[u 0, u 1, u 2, u 3, u 4, u 5, u 6, u 7, u 8, u 9, u 10, u 11, u 12, u 13, u 14, u 15, u 16, u 17, u 18, u 19, u 20, u 21, u 22, u 23, u 24, u 25, u 26, u 27, u 28, u 29], []⟩ : Act) _
    rw [e4, e5, e6]
    clear e4 e5 e6
    have hqx := KQX.out
    have hqy := KQY.out
    go_wp2_with (first | fail | (with_reducible refine num_load rfl _ rfl _ rfl _ hA rfl ?_) | (with_reducible refine num_load rfl _ rfl _ rfl _ hB rfl ?_) | (with_reducible refine num_load rfl _ rfl _ rfl _ hX rfl ?_) | (with_reducible refine num_load rfl _ rfl _ rfl _ hY rfl ?_) | (with_reducible refine num_load_g (by with_unfolding_all rfl) _ rfl _ rfl _ hA rfl ?_) | (with_reducible refine num_load_g (by with_unfolding_all rfl) _ rfl _ rfl _ hB rfl ?_) | (with_reducible refine num_load_g (by with_unfolding_all rfl) _ rfl _ rfl _ hX rfl ?_) | (with_reducible refine num_load_g (by with_unfolding_all rfl) _ rfl _ rfl _ hY rfl ?_))
    refine (KL2.out _).mono ?_
    rintro e v3 ⟨rfl, hb3⟩
    replace hA := hA.on hb3
    replace hB := hB.on hb3
    replace hX := hX.on hb3
    replace hY := hY.on hb3
    replace hbel := hbel.trans (hb3.mono hbel.size)
    clear hb3
    go_wp2_with (first | fail | (with_reducible refine num_load rfl _ rfl _ rfl _ hA rfl ?_) | (with_reducible refine num_load rfl _ rfl _ rfl _ hB rfl ?_) | (with_reducible refine num_load rfl _ rfl _ rfl _ hX rfl ?_) | (with_reducible refine num_load rfl _ rfl _ rfl _ hY rfl ?_) | (with_reducible refine num_load_g (by with_unfolding_all rfl) _ rfl _ rfl _ hA rfl ?_) | (with_reducible refine num_load_g (by with_unfolding_all rfl) _ rfl _ rfl _ hB rfl ?_) | (with_reducible refine num_load_g (by with_unfolding_all rfl) _ rfl _ rfl _ hX rfl ?_) | (with_reducible refine num_load_g (by with_unfolding_all rfl) _ rfl _ rfl _ hY rfl ?_))
    go_ret
    exact ⟨rfl, hbel⟩
theorem falls_walk (a b : Nat) (ha : a < Nm.big) (hb : b < Nm.big) (w : World) : Calls Try.prog 4 #[.agg (numC a), .agg (numC b)] w fun e w' => e = .returned (.bool true) ∧ Below w.heap.size w w' := by
  by_cases h : b < a
  · exact falls_not a b (Lib.hid (ref_less_is b a hb ha true (decide_eq_true h))) w
  · have hm := Nm.work_mono (s := a) (t := b) (by omega)
    have px := Nm.work_pos ha
    have py := Nm.work_pos hb
    refine falls_in a b _ _ (Lib.hid (ref_less_is b a hb ha false (decide_eq_false h))) (Lib.hid (wof a ha _ rfl)) (Lib.hid (wof b hb _ rfl)) (Lib.hid (ref_less_is _ _ (Nm.work_lt _) (Nm.work_lt _) false (decide_eq_false (by omega)))) (Lib.hid (neq_zero _ (Nm.work_lt _) true ?_)) (Lib.hid (neq_zero _ (Nm.work_lt _) true ?_)) w
    · rw [decide_eq_false (by omega)]; rfl
    · rw [decide_eq_false (by omega)]; rfl
end Go.Proofs.Ytlednkbnhnjgcaa
