import Derived.Test.YtlednkbnhnjgcaaWIs
import Derived.Test.YtlednkbnhnjgcaaCpDecode2
namespace Go.Proofs.Ytlednkbnhnjgcaa
open Go.RowKit Rg2
namespace Nm
/-- at most the greatest number -/
def cap (n : Nat) : Nat := if n < big then n else big - 1
theorem cap_lt (n : Nat) : cap n < big := by 
  have : 0 < big := by decide
  unfold cap; split <;> omega
theorem cap_mono {m n : Nat} (h : m ≤ n) : cap m ≤ cap n := by unfold cap; split <;> split <;> omega
/-- the work behind a target -/
def work (t : Nat) : Nat := cap (big / (t + 1))
theorem work_lt (t : Nat) : work t < big := cap_lt _
theorem work_mono {s t : Nat} (h : s ≤ t) : work t ≤ work s := cap_mono (Nat.div_le_div_left (by omega) (by omega))
theorem work_pos {t : Nat} (h : t < big) : 0 < work t := by
  have h1 : 1 ≤ big / (t + 1) := (Nat.le_div_iff_mul_le (by omega)).2 (by omega)
  have h2 : 1 < big := by decide
  unfold work cap; split <;> omega
theorem work_top {t : Nat} (h : t + 1 = big) : work t = 1 := by
  unfold work; rw [h, Nat.div_self (by decide)]; decide
theorem work_mid {t : Nat} (h : t + 1 < big) : work t = cap ((big - 1 - t) / (t + 1) + 1) := by
  unfold work
  rw [show big = (big - 1 - t) + (t + 1) by omega, Nat.add_div_right _ (by omega)]
  rw [show (big - 1 - t) + (t + 1) = big by omega]
end Nm
def ofBits (b : Int) : Nat := if 0 ≤ b ∧ b ≤ 4294967295 then (if Nm.decLow b.toNat || Nm.decOver b.toNat || decide (Nm.decN b.toNat = 0) then 0 else Nm.work (Nm.decN b.toNat)) else 0
theorem ofBits_lt (b : Int) : ofBits b < Nm.big := by
  unfold ofBits; split
  · split
    · decide
    · exact Nm.work_lt _
  · decide
theorem sum2 (x y : Nat) (hx : x < Nm.big) : sumTo [x, y] 2 = (x + y) % Nm.big := by
  simp [sumTo, item, Nat.mod_eq_of_lt hx]
theorem over2 (x y : Nat) (hx : x < Nm.big) : overTo [x, y] 2 = decide (Nm.big ≤ x + y) := by
  have h : ¬ Nm.big ≤ x := by omega
  simp [overTo, sumTo, item, Nat.mod_eq_of_lt hx, h]
set_option maxRecDepth 100000 in
set_option maxHeartbeats 2000000 in
theorem wsum_over (b n s : Nat) (xs : List Nat) (KS : Hid (∀ w, Has w b (numRow xs) 24 → Calls Try.prog 27 #[.slice (some ⟨b, 0, none⟩) n n] w fun e w' => e = .returned (.tuple #[.agg (numC s), .bool true]) ∧ Below w.heap.size w w')) (w : World) :
    Has w b (numRow xs) 24 → Calls Try.prog 19 #[.slice (some ⟨b, 0, none⟩) n n] w fun e w' => e = .returned (.agg (numC (Nm.big - 1))) ∧ Below w.heap.size w w' := by
  intro hL
  go_enter Try.func19, Try.ntmps19
  go_upto_region 1 with fail
  generalize hw0 : World.alloc _ _ = v0
  have hbel : Below w.heap.size w v0 := by rw [← hw0]; exact (Below.refl _ _).alloc (by first | exact Nat.le_refl _ | (simp; done) | (simp; omega)) _
  have hR : Has v0 (w.heap.size) (numC 0) 24 := by rw [← hw0]; exact Has.new (numC 0) _
  have hR_le : Hid (w.heap.size ≤ w.heap.size) := Lib.hid (by omega)
  replace hL := hL.on hbel
  clear hw0
  
  go_wp2_with (first | fail | (with_reducible refine num_load rfl _ rfl _ rfl _ hR rfl ?_))
  refine (KS.out _ hL).mono ?_
  rintro e v1 ⟨rfl, hb1⟩
  replace hR := hR.on hb1
  replace hL := hL.on hb1
  replace hbel := hbel.trans (hb1.mono hbel.size)
  clear hb1
  go_upto_region 2 with (with_reducible refine num_store rfl _ _ rfl _ _ rfl rfl _ (Has.newz _) rfl ?_)
  generalize hw2 : World.setRow _ _ _ = v2
  have hb2 : Below v1.heap.size v1 v2 := by rw [← hw2]; exact below_setRow ((Below.refl _ _).alloc (Nat.le_refl _) _) (Nat.le_refl _) _
  have hS : Has v2 v1.heap.size (numC s) 24 := by rw [← hw2]; exact (Has.newz _).row _
  replace hR := hR.on hb2
  replace hL := hL.on hb2
  replace hbel := hbel.trans (hb2.mono hbel.size)
  clear hw2 hb2
  generalize v1.heap.size = b_hS at hS ⊢
  go_wp2_with (first | fail | (with_reducible refine num_load rfl _ rfl _ rfl _ hR rfl ?_) | (with_reducible refine num_load rfl _ rfl _ rfl _ hS rfl ?_))
  refine (most _).mono ?_
  rintro e v3 ⟨rfl, hb3⟩
  replace hR := hR.on hb3
  replace hS := hS.on hb3
  replace hL := hL.on hb3
  replace hbel := hbel.trans (hb3.mono hbel.size)
  clear hb3
  go_wp2_with (first | (with_reducible refine num_load rfl _ rfl _ rfl _ hR rfl ?_) | (with_reducible refine num_load rfl _ rfl _ rfl _ hS rfl ?_) | (with_reducible refine num_store rfl _ _ rfl _ _ rfl rfl _ hR rfl ?_))
  exact bodyPost_ret (v := .agg (numC (Nm.big - 1))) (num_results Try.results19 _ _ _ rfl (hR.row _)) rfl ⟨rfl, below_setRow hbel hR_le.out _⟩
set_option maxRecDepth 100000 in
set_option maxHeartbeats 2000000 in
theorem wsum_in (b n s : Nat) (xs : List Nat) (KS : Hid (∀ w, Has w b (numRow xs) 24 → Calls Try.prog 27 #[.slice (some ⟨b, 0, none⟩) n n] w fun e w' => e = .returned (.tuple #[.agg (numC s), .bool false]) ∧ Below w.heap.size w w')) (w : World) :
    Has w b (numRow xs) 24 → Calls Try.prog 19 #[.slice (some ⟨b, 0, none⟩) n n] w fun e w' => e = .returned (.agg (numC (s))) ∧ Below w.heap.size w w' := by
  intro hL
  go_enter Try.func19, Try.ntmps19
  go_upto_region 1 with fail
  generalize hw0 : World.alloc _ _ = v0
  have hbel : Below w.heap.size w v0 := by rw [← hw0]; exact (Below.refl _ _).alloc (by first | exact Nat.le_refl _ | (simp; done) | (simp; omega)) _
  have hR : Has v0 (w.heap.size) (numC 0) 24 := by rw [← hw0]; exact Has.new (numC 0) _
  have hR_le : Hid (w.heap.size ≤ w.heap.size) := Lib.hid (by omega)
  replace hL := hL.on hbel
  clear hw0
  
  go_wp2_with (first | fail | (with_reducible refine num_load rfl _ rfl _ rfl _ hR rfl ?_))
  refine (KS.out _ hL).mono ?_
  rintro e v1 ⟨rfl, hb1⟩
  replace hR := hR.on hb1
  replace hL := hL.on hb1
  replace hbel := hbel.trans (hb1.mono hbel.size)
  clear hb1
  go_upto_region 2 with (with_reducible refine num_store rfl _ _ rfl _ _ rfl rfl _ (Has.newz _) rfl ?_)
  generalize hw2 : World.setRow _ _ _ = v2
  have hb2 : Below v1.heap.size v1 v2 := by rw [← hw2]; exact below_setRow ((Below.refl _ _).alloc (Nat.le_refl _) _) (Nat.le_refl _) _
  have hS : Has v2 v1.heap.size (numC s) 24 := by rw [← hw2]; exact (Has.newz _).row _
  replace hR := hR.on hb2
  replace hL := hL.on hb2
  replace hbel := hbel.trans (hb2.mono hbel.size)
  clear hw2 hb2
  generalize v1.heap.size = b_hS at hS ⊢
  go_wp2_with (first | (with_reducible refine num_load rfl _ rfl _ rfl _ hR rfl ?_) | (with_reducible refine num_load rfl _ rfl _ rfl _ hS rfl ?_) | (with_reducible refine num_store rfl _ _ rfl _ _ rfl rfl _ hR rfl ?_))
  exact bodyPost_ret (v := .agg (numC (s))) (num_results Try.results19 _ _ _ rfl (hR.row _)) rfl ⟨rfl, below_setRow hbel hR_le.out _⟩
theorem wsum (b n : Nat) (xs : List Nat) (hx : ∀ x ∈ xs, x < Nm.big) (hn : n = xs.length) (hm : n ≤ 1000) (w : World) (hL : Has w b (numRow xs) 24) :
    Calls Try.prog 19 #[.slice (some ⟨b, 0, none⟩) n n] w fun e w' => e = .returned (.agg (numC (if overTo xs n then Nm.big - 1 else sumTo xs n))) ∧ Below w.heap.size w w' := by
  have hS := fun w => sum b xs hx n hn hm w
  generalize overTo xs n = o at *
  cases o
  · exact wsum_in b n _ xs (Lib.hid hS) w hL
  · exact wsum_over b n _ xs (Lib.hid hS) w hL
theorem wsum2 (x y : Nat) (hx : x < Nm.big) (hy : y < Nm.big) (z : Nat) (hz : Nm.cap (x + y) = z) (b : Nat) (w : World) (hL : Has w b (numRow [x, y]) 24) :
    Calls Try.prog 19 #[.slice (some ⟨b, 0, none⟩) 2 2] w fun e w' => e = .returned (.agg (numC z)) ∧ Below w.heap.size w w' := by
  have h := wsum b 2 [x, y] (by simp; exact ⟨hx, hy⟩) rfl (by omega) w hL
  rw [sum2 x y hx, over2 x y hx] at h
  rw [← hz]
  unfold Nm.cap
  by_cases hb : x + y < Nm.big
  · rw [decide_eq_false (by omega : ¬ Nm.big ≤ x + y), Nat.mod_eq_of_lt hb] at h
    rw [if_pos hb]; exact h
  · rw [decide_eq_true (by omega : Nm.big ≤ x + y)] at h
    rw [if_neg hb]; exact h
set_option maxRecDepth 100000 in
set_option maxHeartbeats 2000000 in
theorem of_top (t : Nat) (KOne : Hid (∀ w, Calls Try.prog 16 #[.int .u64 1] w fun e w' => e = .returned (.agg (numC 1)) ∧ Below w.heap.size w w'))
    (KAdd : Hid (∀ w, Calls Try.prog 14 #[.agg (numC t), .agg (numC 1)] w fun e w' => e = .returned (.tuple #[.agg (numC 0), .bool true]) ∧ Below w.heap.size w w')) (w : World) :
    Calls Try.prog 9 #[.agg (numC t)] w fun e w' => e = .returned (.agg (numC 1)) ∧ Below w.heap.size w w' := by
  go_enter Try.func9, Try.ntmps9
  go_upto_region 1 with fail
  generalize hw0 : World.alloc _ _ = v0
  have hbel : Below w.heap.size w v0 := by rw [← hw0]; exact ((Below.refl _ _).alloc (by first | exact Nat.le_refl _ | (simp; done) | (simp; omega)) _).alloc (by first | exact Nat.le_refl _ | (simp; done) | (simp; omega)) _
  have hA : Has v0 (w.heap.size) (numC t) 24 := by rw [← hw0]; exact (Has.new _ _).alloc _
  have hR : Has v0 (w.heap.size + 1) (numC 0) 24 := by rw [← hw0]; exact Has.new1 _ (numC 0) _
  have hR_le : Hid (w.heap.size ≤ w.heap.size + 1) := Lib.hid (by omega)
  clear hw0
  generalize hg1 : w.heap.size + 1 = b_hR at hR hR_le ⊢
  clear hg1
  
  go_wp2_with (first | fail | (with_reducible refine num_load rfl _ rfl _ rfl _ hA rfl ?_) | (with_reducible refine num_load rfl _ rfl _ rfl _ hR rfl ?_))
  refine (KOne.out _).mono ?_
  rintro e v1 ⟨rfl, hb1⟩
  replace hA := hA.on hb1
  replace hR := hR.on hb1
  replace hbel := hbel.trans (hb1.mono hbel.size)
  clear hb1
  go_upto_region 2 with (with_reducible refine num_store rfl _ _ rfl _ _ rfl rfl _ (Has.newz _) rfl ?_)
  generalize hw2 : World.setRow _ _ _ = v2
  have hb2 : Below v1.heap.size v1 v2 := by rw [← hw2]; exact below_setRow ((Below.refl _ _).alloc (Nat.le_refl _) _) (Nat.le_refl _) _
  have hO : Has v2 v1.heap.size (numC 1) 24 := by rw [← hw2]; exact (Has.newz _).row _
  replace hA := hA.on hb2
  replace hR := hR.on hb2
  replace hbel := hbel.trans (hb2.mono hbel.size)
  clear hw2 hb2
  generalize v1.heap.size = b_hO at hO ⊢
  go_wp2_with (first | fail | (with_reducible refine num_load rfl _ rfl _ rfl _ hA rfl ?_) | (with_reducible refine num_load rfl _ rfl _ rfl _ hR rfl ?_) | (with_reducible refine num_load rfl _ rfl _ rfl _ hO rfl ?_))
  refine (KAdd.out _).mono ?_
  rintro e v3 ⟨rfl, hb3⟩
  replace hA := hA.on hb3
  replace hR := hR.on hb3
  replace hO := hO.on hb3
  replace hbel := hbel.trans (hb3.mono hbel.size)
  clear hb3
  go_upto_region 3 with (with_reducible refine num_store rfl _ _ rfl _ _ rfl rfl _ (Has.newz _) rfl ?_)
  generalize hw4 : World.setRow _ _ _ = v4
  have hb4 : Below v3.heap.size v3 v4 := by rw [← hw4]; exact below_setRow ((Below.refl _ _).alloc (Nat.le_refl _) _) (Nat.le_refl _) _
  have hM : Has v4 v3.heap.size (numC 0) 24 := by rw [← hw4]; exact (Has.newz _).row _
  replace hA := hA.on hb4
  replace hR := hR.on hb4
  replace hO := hO.on hb4
  replace hbel := hbel.trans (hb4.mono hbel.size)
  clear hw4 hb4
  generalize v3.heap.size = b_hM at hM ⊢
  go_wp2_with (first | (with_reducible refine num_load rfl _ rfl _ rfl _ hA rfl ?_) | (with_reducible refine num_load rfl _ rfl _ rfl _ hR rfl ?_) | (with_reducible refine num_load rfl _ rfl _ rfl _ hO rfl ?_) | (with_reducible refine num_load rfl _ rfl _ rfl _ hM rfl ?_) | (with_reducible refine num_store rfl _ _ rfl _ _ rfl rfl _ hR rfl ?_))
  exact bodyPost_ret (v := .agg (numC (1))) (num_results Try.results9 _ _ _ rfl (hR.row _)) rfl ⟨rfl, below_setRow hbel hR_le.out _⟩
def ofTab (t n m q r : Nat) : Nat → Slot
  | 0 => .val (.agg (numC t))
  | 1 => .val (.agg (numC n))
  | 2 => .val (.agg (numC m))
  | 3 => .val (.tuple #[.agg (numC q), .agg (numC r)])
  | 4 => .val (.tuple #[.agg (numC q), .agg (numC r)])
  | 5 => .val (.agg (numC q))
  | 6 => .val (.agg (numC r))
  | 7 => .ptr
  | 8 => .ptr
  | _ => .any
set_option maxRecDepth 100000 in
set_option maxHeartbeats 2000000 in
theorem of_mid (t n m q r z : Nat) (KOne : Hid (∀ w, Calls Try.prog 16 #[.int .u64 1] w fun e w' => e = .returned (.agg (numC 1)) ∧ Below w.heap.size w w'))
    (KAdd : Hid (∀ w, Calls Try.prog 14 #[.agg (numC t), .agg (numC 1)] w fun e w' => e = .returned (.tuple #[.agg (numC m), .bool false]) ∧ Below w.heap.size w w')) (KNot : Hid (∀ w, Calls Try.prog 18 #[.agg (numC t)] w fun e w' => e = .returned (.agg (numC n)) ∧ Below w.heap.size w w'))
    (KQuo : Hid (∀ w, Calls Try.prog 17 #[.agg (numC n), .agg (numC m)] w fun e w' => e = .returned (.tuple #[.agg (numC q), .agg (numC r)]) ∧ Below w.heap.size w w'))
    (KSum : Hid (∀ b w, Has w b (numRow [q, 1]) 24 → Calls Try.prog 19 #[.slice (some ⟨b, 0, none⟩) 2 2] w fun e w' => e = .returned (.agg (numC z)) ∧ Below w.heap.size w w')) (w : World) :
    Calls Try.prog 9 #[.agg (numC t)] w fun e w' => e = .returned (.agg (numC z)) ∧ Below w.heap.size w w' := by
  go_enter Try.func9, Try.ntmps9
  go_upto_region 1 with fail
  generalize hw0 : World.alloc _ _ = v0
  have hbel : Below w.heap.size w v0 := by rw [← hw0]; exact ((Below.refl _ _).alloc (by first | exact Nat.le_refl _ | (simp; done) | (simp; omega)) _).alloc (by first | exact Nat.le_refl _ | (simp; done) | (simp; omega)) _
  have hA : Has v0 (w.heap.size) (numC t) 24 := by rw [← hw0]; exact (Has.new _ _).alloc _
  have hR : Has v0 (w.heap.size + 1) (numC 0) 24 := by rw [← hw0]; exact Has.new1 _ (numC 0) _
  have hR_le : Hid (w.heap.size ≤ w.heap.size + 1) := Lib.hid (by omega)
  clear hw0
  generalize hg1 : w.heap.size + 1 = b_hR at hR hR_le ⊢
  clear hg1
  
  go_wp2_with (first | fail | (with_reducible refine num_load rfl _ rfl _ rfl _ hA rfl ?_) | (with_reducible refine num_load rfl _ rfl _ rfl _ hR rfl ?_))
  refine (KOne.out _).mono ?_
  rintro e v1 ⟨rfl, hb1⟩
  replace hA := hA.on hb1
  replace hR := hR.on hb1
  replace hbel := hbel.trans (hb1.mono hbel.size)
  clear hb1
  go_upto_region 2 with (with_reducible refine num_store rfl _ _ rfl _ _ rfl rfl _ (Has.newz _) rfl ?_)
  generalize hw2 : World.setRow _ _ _ = v2
  have hb2 : Below v1.heap.size v1 v2 := by rw [← hw2]; exact below_setRow ((Below.refl _ _).alloc (Nat.le_refl _) _) (Nat.le_refl _) _
  have hO : Has v2 v1.heap.size (numC 1) 24 := by rw [← hw2]; exact (Has.newz _).row _
  replace hA := hA.on hb2
  replace hR := hR.on hb2
  replace hbel := hbel.trans (hb2.mono hbel.size)
  clear hw2 hb2
  generalize v1.heap.size = b_hO at hO ⊢
  go_wp2_with (first | fail | (with_reducible refine num_load rfl _ rfl _ rfl _ hA rfl ?_) | (with_reducible refine num_load rfl _ rfl _ rfl _ hR rfl ?_) | (with_reducible refine num_load rfl _ rfl _ rfl _ hO rfl ?_))
  refine (KAdd.out _).mono ?_
  rintro e v3 ⟨rfl, hb3⟩
  replace hA := hA.on hb3
  replace hR := hR.on hb3
  replace hO := hO.on hb3
  replace hbel := hbel.trans (hb3.mono hbel.size)
  clear hb3
  go_upto_region 3 with (with_reducible refine num_store rfl _ _ rfl _ _ rfl rfl _ (Has.newz _) rfl ?_)
  generalize hw4 : World.setRow _ _ _ = v4
  have hb4 : Below v3.heap.size v3 v4 := by rw [← hw4]; exact below_setRow ((Below.refl _ _).alloc (Nat.le_refl _) _) (Nat.le_refl _) _
  have hM : Has v4 v3.heap.size (numC m) 24 := by rw [← hw4]; exact (Has.newz _).row _
  replace hA := hA.on hb4
  replace hR := hR.on hb4
  replace hO := hO.on hb4
  replace hbel := hbel.trans (hb4.mono hbel.size)
  clear hw4 hb4
  generalize v3.heap.size = b_hM at hM ⊢
  go_wp2_with fail
  refine Rg2.wp_region_inv (by kernel_rfl) (fun w' => Below v4.heap.size v4 w') (fun i v' w' => (ofTab t n m q r i).holds v4.heap.size v' w') (fun l a w' => (Done 9 6 v4.heap.size q l a w' ∧ Done 10 7 v4.heap.size r l a w') ∧ Dist 7 6 8 7 l a) (NumStep v4.heap.size) (fun _ _ => NumStep.refl _ _) (fun _ _ _ _ _ hs h => Slot.stays _ _ _ _ hs h) (by kernel_rfl) (Below.refl _ _).drew ?_ ?_ ?_
  · exact fun l hl => ⟨⟨fun hk => (by rw [hl] at hk; cases hk), fun hk => (by rw [hl] at hk; cases hk)⟩, fun hk _ => (by rw [hl] at hk; cases hk)⟩
  · intro i o listed a wx ho hn hdep hinv
    have hC := hinv.c
    have hI := hinv.i
    have hi : i < 11 := (Array.getElem?_eq_some_iff.1 ho).1
    obtain rfl | rfl | rfl | rfl | rfl | rfl | rfl | rfl | rfl | rfl | rfl : i = 0 ∨ i = 1 ∨ i = 2 ∨ i = 3 ∨ i = 4 ∨ i = 5 ∨ i = 6 ∨ i = 7 ∨ i = 8 ∨ i = 9 ∨ i = 10 := by omega
    all_goals obtain rfl := Option.some.inj ho
    · exact duty_value ((fun _ _ => NumStep.refl _ _)) hC (wanted_free rfl) (ex_load_num rfl (hinv.old' 1 (by kernel_rfl)) (hA.on hC)) rfl (⟨⟨Done.pre (hinv.aheadT 8 (by kernel_rfl) hn (by decide) (by decide)), Done.pre (hinv.aheadT 8 (by kernel_rfl) hn (by decide) (by decide))⟩, Dist.keep hI.2 (by rw [hinv.size]; decide) (by decide) (by decide) (by decide) (by decide)⟩)
    · have e18 := hinv.got 0 _ 18 rfl (hdep ⟨0, .data⟩ (by simp) rfl) rfl
      exact duty_call (wanted_free rfl) (f := 18) (args := #[a.eval (.tmp 18)]) (by kernel_rfl) (by rw [show a.eval (.tmp 18) = _ from e18];  exact KNot.out wx) (fun w' hb => ⟨hC.trans (hb.mono hC.size), NumStep.below hb, rfl, ⟨⟨Done.pre (hinv.aheadT 8 (by kernel_rfl) hn (by decide) (by decide)), Done.pre (hinv.aheadT 8 (by kernel_rfl) hn (by decide) (by decide))⟩, Dist.keep hI.2 (by rw [hinv.size]; decide) (by decide) (by decide) (by decide) (by decide)⟩⟩)
    · exact duty_value ((fun _ _ => NumStep.refl _ _)) hC (wanted_free rfl) (ex_load_num rfl (hinv.old' 4 (by kernel_rfl)) (hM.on hC)) rfl (⟨⟨Done.pre (hinv.aheadT 8 (by kernel_rfl) hn (by decide) (by decide)), Done.pre (hinv.aheadT 8 (by kernel_rfl) hn (by decide) (by decide))⟩, Dist.keep hI.2 (by rw [hinv.size]; decide) (by decide) (by decide) (by decide) (by decide)⟩)
    · have e19 := hinv.got 1 _ 19 rfl (hdep ⟨1, .data⟩ (by simp) rfl) rfl; have e20 := hinv.got 2 _ 20 rfl (hdep ⟨2, .data⟩ (by simp) rfl) rfl
      exact duty_call (wanted_free rfl) (f := 17) (args := #[a.eval (.tmp 19), a.eval (.tmp 20)]) (by kernel_rfl) (by rw [show a.eval (.tmp 19) = _ from e19]; rw [show a.eval (.tmp 20) = _ from e20];  exact KQuo.out wx) (fun w' hb => ⟨hC.trans (hb.mono hC.size), NumStep.below hb, rfl, ⟨⟨Done.pre (hinv.aheadT 8 (by kernel_rfl) hn (by decide) (by decide)), Done.pre (hinv.aheadT 8 (by kernel_rfl) hn (by decide) (by decide))⟩, Dist.keep hI.2 (by rw [hinv.size]; decide) (by decide) (by decide) (by decide) (by decide)⟩⟩)
    · exact duty_value ((fun _ _ => NumStep.refl _ _)) hC (wanted_free rfl) (ex_move rfl) (hinv.got 3 _ 21 rfl (hdep ⟨3, .data⟩ (by simp) rfl) rfl) (⟨⟨Done.pre (hinv.aheadT 8 (by kernel_rfl) hn (by decide) (by decide)), Done.pre (hinv.aheadT 8 (by kernel_rfl) hn (by decide) (by decide))⟩, Dist.keep hI.2 (by rw [hinv.size]; decide) (by decide) (by decide) (by decide) (by decide)⟩)
    · exact duty_value ((fun _ _ => NumStep.refl _ _)) hC (wanted_free rfl) (ex_extract rfl (hinv.got 4 _ 17 rfl (hdep ⟨4, .data⟩ (by simp) rfl) rfl) rfl) rfl (⟨⟨Done.pre (hinv.aheadT 8 (by kernel_rfl) hn (by decide) (by decide)), Done.pre (hinv.aheadT 8 (by kernel_rfl) hn (by decide) (by decide))⟩, Dist.keep hI.2 (by rw [hinv.size]; decide) (by decide) (by decide) (by decide) (by decide)⟩)
    · exact duty_value ((fun _ _ => NumStep.refl _ _)) hC (wanted_free rfl) (ex_extract rfl (hinv.got 4 _ 17 rfl (hdep ⟨4, .data⟩ (by simp) rfl) rfl) rfl) rfl (⟨⟨Done.keep hI.1.1 (by rw [hinv.size]; decide) (by decide) (by decide) (fun _ h => h), Done.pre (hinv.aheadT 8 (by kernel_rfl) hn (by decide) (by decide))⟩, Dist.keep hI.2 (by rw [hinv.size]; decide) (by decide) (by decide) (by decide) (by decide)⟩)
    · have hbel' : Below wx.heap.size wx (wx.alloc (.cells (numC 0) 24)) := (Below.refl _ _).alloc (Nat.le_refl _) _
      exact duty_made (wanted_free rfl) (ex_alloc_num rfl) (hC.trans (hbel'.mono hC.size)) (NumStep.below hbel') ⟨wx.heap.size, numC 0, hC.size, rfl, Has.new _ _, rfl⟩ (⟨⟨Done.pre (hinv.aheadT 8 (by kernel_rfl) hn (by decide) (by decide)), Done.pre (hinv.aheadT 8 (by kernel_rfl) hn (by decide) (by decide))⟩, Dist.fst (B := v4.heap.size) (fun l => hinv.got 8 _ 7 rfl l rfl) (by rw [hinv.size]; decide) (by decide) (by decide) (by rw [hinv.tsize]; exact (by decide : 6 < 28))⟩)
    · have hbel' : Below wx.heap.size wx (wx.alloc (.cells (numC 0) 24)) := (Below.refl _ _).alloc (Nat.le_refl _) _
      exact duty_made (wanted_free rfl) (ex_alloc_num rfl) (hC.trans (hbel'.mono hC.size)) (NumStep.below hbel') ⟨wx.heap.size, numC 0, hC.size, rfl, Has.new _ _, rfl⟩ (⟨⟨Done.keep hI.1.1 (by rw [hinv.size]; decide) (by decide) (by decide) (fun _ h => h.on hbel'), Done.pre (hinv.aheadT 8 (by kernel_rfl) hn (by decide) (by decide))⟩, Dist.snd (B := v4.heap.size) (fun l => hinv.got 7 _ 6 rfl l rfl) (by rw [hinv.size]; decide) (by decide) (by decide) (by rw [hinv.tsize]; exact (by decide : 7 < 28))⟩)
    · obtain ⟨b, cs, hb, he, hh, hsz⟩ : Slot.ptr.holds v4.heap.size (a.eval (.tmp 6)) wx := hinv.got 7 _ 6 rfl (hdep ⟨7, .data⟩ (by simp) rfl) rfl
      exact duty_store (wanted_free rfl) (ex_store_num rfl he (hinv.got 5 _ 22 rfl (hdep ⟨5, .data⟩ (by simp) rfl) rfl) hh hsz) (below_setRow hC hb _) (NumStep.row hh) trivial ⟨⟨fun _ => ⟨b, hb, he, hh.row _⟩, Done.pre (hinv.aheadT 8 (by kernel_rfl) hn (by decide) (by decide))⟩, Dist.keep hI.2 (by rw [hinv.size]; decide) (by decide) (by decide) (by decide) (by decide)⟩
    · obtain ⟨b, cs, hb, he, hh, hsz⟩ : Slot.ptr.holds v4.heap.size (a.eval (.tmp 7)) wx := hinv.got 8 _ 7 rfl (hdep ⟨8, .data⟩ (by simp) rfl) rfl
      have l10 : listed.getD 7 false = true := hinv.after (k := 9) (by kernel_rfl) (hdep ⟨9, .phase⟩ (by simp) rfl)
      have l11 : listed.getD 8 false = true := hdep ⟨8, .data⟩ (by simp) rfl
      have hne := hI.2 l10 l11
      refine duty_store (wanted_free rfl) (ex_store_num rfl he (hinv.got 6 _ 23 rfl (hdep ⟨6, .data⟩ (by simp) rfl) rfl) hh hsz) (below_setRow hC hb _) (NumStep.row hh) trivial ⟨⟨fun hl => ?_, fun _ => ⟨b, hb, he, hh.row _⟩⟩, Dist.keep hI.2 (by rw [hinv.size]; decide) (by decide) (by decide) (by decide) (by decide)⟩
      rw [getD_set _ _ _ (by rw [hinv.size]; decide), if_neg (by decide)] at hl
      obtain ⟨b', hb', he', hh'⟩ := hI.1.1 hl
      exact ⟨b', hb', he', hh'.otherRow _ _ (fun e => hne (by rw [he', he, e]))⟩
  · intro listed a wx hall hinv
    have hC := hinv.c
    obtain ⟨b_hQ, hb_hQ, e6, hQ⟩ := hinv.i.1.1 (hall 9 (by decide))
    obtain ⟨b_hT, hb_hT, e7, hT⟩ := hinv.i.1.2 (hall 10 (by decide))
    have e2 : a.eval (.tmp 2) = .pointer (some ⟨b_hR, 0, none⟩) := hinv.old' 2 (by kernel_rfl)
    have e3 : a.eval (.tmp 3) = .pointer (some ⟨b_hO, 0, none⟩) := hinv.old' 3 (by kernel_rfl)
    replace hA := hA.on hC
    replace hR := hR.on hC
    replace hO := hO.on hC
    replace hM := hM.on hC
    replace hbel := hbel.trans (hC.mono hbel.size)
    obtain ⟨u, hu⟩ : ∃ u : Nat → Value, ∀ t, u t = a.eval (.tmp t) := ⟨_, fun _ => rfl⟩
    rw [frame_back a 28 u hinv.tsize hinv.defers hu]
    rw [← hu] at e2 e3 e6 e7
    clear hu hinv hall hC hb_hQ hb_hT
    show Exit.then _ _ _ (⟨#[u 0, u 1, u 2, u 3, u 4, u 5, u 6, u 7, u 8, u 9, u 10, u 11, u 12, u 13, u 14, u 15, u 16, u 17, u 18, u 19, u 20, u 21, u 22, u 23, u 24, u 25, u 26, u 27], []⟩ : Act) _
    rw [e2, e3, e6, e7]
    clear e2 e3 e6 e7
    go_wp2_with (first | fail | (with_reducible refine num_load rfl _ rfl _ rfl _ hA rfl ?_) | (with_reducible refine num_load rfl _ rfl _ rfl _ hR rfl ?_) | (with_reducible refine num_load rfl _ rfl _ rfl _ hO rfl ?_) | (with_reducible refine num_load rfl _ rfl _ rfl _ hM rfl ?_) | (with_reducible refine num_load rfl _ rfl _ rfl _ hQ rfl ?_) | (with_reducible refine num_load rfl _ rfl _ rfl _ hT rfl ?_) | (with_reducible refine build_num2 rfl _ _ rfl _ _ rfl rfl ?_))
    refine (KSum.out _ _ (Has.new _ _)).mono ?_
    rintro e v_s ⟨rfl, hbs⟩
    have hbs2 : Below wx.heap.size wx v_s := ((Below.refl _ _).alloc (Nat.le_refl _) _).trans (hbs.mono (by simp))
    replace hA := hA.on hbs2
    replace hR := hR.on hbs2
    replace hO := hO.on hbs2
    replace hM := hM.on hbs2
    replace hQ := hQ.on hbs2
    replace hT := hT.on hbs2
    replace hbel := hbel.trans (hbs2.mono hbel.size)
    clear hbs hbs2
    go_wp2_with (first | (with_reducible refine num_load rfl _ rfl _ rfl _ hA rfl ?_) | (with_reducible refine num_load rfl _ rfl _ rfl _ hR rfl ?_) | (with_reducible refine num_load rfl _ rfl _ rfl _ hO rfl ?_) | (with_reducible refine num_load rfl _ rfl _ rfl _ hM rfl ?_) | (with_reducible refine num_load rfl _ rfl _ rfl _ hQ rfl ?_) | (with_reducible refine num_load rfl _ rfl _ rfl _ hT rfl ?_) | (with_reducible refine num_store rfl _ _ rfl _ _ rfl rfl _ hR rfl ?_))
    exact bodyPost_ret (v := .agg (numC (z))) (num_results Try.results9 _ _ _ rfl (hR.row _)) rfl ⟨rfl, below_setRow hbel hR_le.out _⟩
theorem wof (t : Nat) (ht : t < Nm.big) (z : Nat) (hz : Nm.work t = z) (w : World) : Calls Try.prog 9 #[.agg (numC t)] w fun e w' => e = .returned (.agg (numC z)) ∧ Below w.heap.size w w' := by
  rw [← hz]
  by_cases h : t + 1 < Nm.big
  · rw [Nm.work_mid h]
    refine of_mid t (Nm.big - 1 - t) (t + 1) ((Nm.big - 1 - t) / (t + 1)) ((Nm.big - 1 - t) % (t + 1)) _ (Lib.hid one_is) (Lib.hid (add_is t 1 ht (by decide) _ false (Nat.mod_eq_of_lt h) (decide_eq_false (by omega)))) (Lib.hid (not t ht))
      (Lib.hid (quo_pos _ _ (by omega) h (by omega))) (Lib.hid fun b w hL => wsum2 _ 1 ?_ (by decide) _ rfl b w hL) w
    exact Nat.lt_of_le_of_lt (Nat.div_le_self _ _) (by omega)
  · have he : t + 1 = Nm.big := by omega
    rw [Nm.work_top he]
    exact of_top t (Lib.hid one_is) (Lib.hid (add_is t 1 ht (by decide) 0 true (by rw [he]; exact Nat.mod_self _) (decide_eq_true (by omega)))) w
set_option maxRecDepth 100000 in
set_option maxHeartbeats 2000000 in
theorem bits_low (b : Int) (z : Nat) (over : Bool) (KD : Hid (∀ w, Calls Try.prog 20 #[.int .i64 b] w fun e w' => e = .returned (.tuple #[.agg (numC z), .bool true, .bool over]) ∧ Below w.heap.size w w')) (w : World) :
    Calls Try.prog 10 #[.int .i64 b] w fun e w' => e = .returned (.agg (numC 0)) ∧ Below w.heap.size w w' := by
  go_enter Try.func10, Try.ntmps10
  go_upto_region 1 with fail
  generalize hw0 : World.alloc _ _ = v0
  have hbel : Below w.heap.size w v0 := by rw [← hw0]; exact (Below.refl _ _).alloc (by first | exact Nat.le_refl _ | (simp; done) | (simp; omega)) _
  have hR : Has v0 (w.heap.size) (numC 0) 24 := by rw [← hw0]; exact Has.new (numC 0) _
  have hR_le : Hid (w.heap.size ≤ w.heap.size) := Lib.hid (by omega)
  clear hw0
  
  go_wp2_with (first | fail | (with_reducible refine num_load rfl _ rfl _ rfl _ hR rfl ?_) | (with_reducible refine num_load_g (by with_unfolding_all rfl) _ rfl _ rfl _ hR rfl ?_))
  refine (KD.out _).mono ?_
  rintro e v1 ⟨rfl, hb1⟩
  replace hR := hR.on hb1
  replace hbel := hbel.trans (hb1.mono hbel.size)
  clear hb1
  go_upto_region 2 with (with_reducible refine num_store rfl _ _ rfl _ _ rfl rfl _ (Has.newz _) rfl ?_)
  generalize hw2 : World.setRow _ _ _ = v2
  have hb2 : Below v1.heap.size v1 v2 := by rw [← hw2]; exact below_setRow ((Below.refl _ _).alloc (Nat.le_refl _) _) (Nat.le_refl _) _
  have hZ : Has v2 v1.heap.size (numC z) 24 := by rw [← hw2]; exact (Has.newz _).row _
  replace hR := hR.on hb2
  replace hbel := hbel.trans (hb2.mono hbel.size)
  clear hw2 hb2
  generalize v1.heap.size = b_hZ at hZ ⊢
  go_wp2_with (first | (with_reducible refine num_load rfl _ rfl _ rfl _ hR rfl ?_) | (with_reducible refine num_load rfl _ rfl _ rfl _ hZ rfl ?_) | (with_reducible refine num_load_g (by with_unfolding_all rfl) _ rfl _ rfl _ hR rfl ?_) | (with_reducible refine num_load_g (by with_unfolding_all rfl) _ rfl _ rfl _ hZ rfl ?_) | (with_reducible refine num_store_eq rfl _ _ rfl _ 0 _ rfl rfl zero4 _ hR rfl ?_))
  exact bodyPost_ret (v := .agg (numC (0))) (num_results Try.results10 _ _ _ rfl (hR.row _)) rfl ⟨rfl, below_setRow hbel hR_le.out _⟩
set_option maxRecDepth 100000 in
set_option maxHeartbeats 2000000 in
theorem bits_over (b : Int) (z : Nat) (KD : Hid (∀ w, Calls Try.prog 20 #[.int .i64 b] w fun e w' => e = .returned (.tuple #[.agg (numC z), .bool false, .bool true]) ∧ Below w.heap.size w w')) (w : World) :
    Calls Try.prog 10 #[.int .i64 b] w fun e w' => e = .returned (.agg (numC 0)) ∧ Below w.heap.size w w' := by
  go_enter Try.func10, Try.ntmps10
  go_upto_region 1 with fail
  generalize hw0 : World.alloc _ _ = v0
  have hbel : Below w.heap.size w v0 := by rw [← hw0]; exact (Below.refl _ _).alloc (by first | exact Nat.le_refl _ | (simp; done) | (simp; omega)) _
  have hR : Has v0 (w.heap.size) (numC 0) 24 := by rw [← hw0]; exact Has.new (numC 0) _
  have hR_le : Hid (w.heap.size ≤ w.heap.size) := Lib.hid (by omega)
  clear hw0
  
  go_wp2_with (first | fail | (with_reducible refine num_load rfl _ rfl _ rfl _ hR rfl ?_) | (with_reducible refine num_load_g (by with_unfolding_all rfl) _ rfl _ rfl _ hR rfl ?_))
  refine (KD.out _).mono ?_
  rintro e v1 ⟨rfl, hb1⟩
  replace hR := hR.on hb1
  replace hbel := hbel.trans (hb1.mono hbel.size)
  clear hb1
  go_upto_region 2 with (with_reducible refine num_store rfl _ _ rfl _ _ rfl rfl _ (Has.newz _) rfl ?_)
  generalize hw2 : World.setRow _ _ _ = v2
  have hb2 : Below v1.heap.size v1 v2 := by rw [← hw2]; exact below_setRow ((Below.refl _ _).alloc (Nat.le_refl _) _) (Nat.le_refl _) _
  have hZ : Has v2 v1.heap.size (numC z) 24 := by rw [← hw2]; exact (Has.newz _).row _
  replace hR := hR.on hb2
  replace hbel := hbel.trans (hb2.mono hbel.size)
  clear hw2 hb2
  generalize v1.heap.size = b_hZ at hZ ⊢
  go_wp2_with (first | (with_reducible refine num_load rfl _ rfl _ rfl _ hR rfl ?_) | (with_reducible refine num_load rfl _ rfl _ rfl _ hZ rfl ?_) | (with_reducible refine num_load_g (by with_unfolding_all rfl) _ rfl _ rfl _ hR rfl ?_) | (with_reducible refine num_load_g (by with_unfolding_all rfl) _ rfl _ rfl _ hZ rfl ?_) | (with_reducible refine num_store_eq rfl _ _ rfl _ 0 _ rfl rfl zero4 _ hR rfl ?_))
  exact bodyPost_ret (v := .agg (numC (0))) (num_results Try.results10 _ _ _ rfl (hR.row _)) rfl ⟨rfl, below_setRow hbel hR_le.out _⟩
set_option maxRecDepth 100000 in
set_option maxHeartbeats 2000000 in
theorem bits_zero (b : Int) (z : Nat) (KD : Hid (∀ w, Calls Try.prog 20 #[.int .i64 b] w fun e w' => e = .returned (.tuple #[.agg (numC z), .bool false, .bool false]) ∧ Below w.heap.size w w'))
    (KZ : Hid (∀ w, Calls Try.prog 21 #[.agg (numC z)] w fun e w' => e = .returned (.bool true) ∧ Below w.heap.size w w')) (w : World) :
    Calls Try.prog 10 #[.int .i64 b] w fun e w' => e = .returned (.agg (numC 0)) ∧ Below w.heap.size w w' := by
  go_enter Try.func10, Try.ntmps10
  go_upto_region 1 with fail
  generalize hw0 : World.alloc _ _ = v0
  have hbel : Below w.heap.size w v0 := by rw [← hw0]; exact (Below.refl _ _).alloc (by first | exact Nat.le_refl _ | (simp; done) | (simp; omega)) _
  have hR : Has v0 (w.heap.size) (numC 0) 24 := by rw [← hw0]; exact Has.new (numC 0) _
  have hR_le : Hid (w.heap.size ≤ w.heap.size) := Lib.hid (by omega)
  clear hw0
  
  go_wp2_with (first | fail | (with_reducible refine num_load rfl _ rfl _ rfl _ hR rfl ?_) | (with_reducible refine num_load_g (by with_unfolding_all rfl) _ rfl _ rfl _ hR rfl ?_))
  refine (KD.out _).mono ?_
  rintro e v1 ⟨rfl, hb1⟩
  replace hR := hR.on hb1
  replace hbel := hbel.trans (hb1.mono hbel.size)
  clear hb1
  go_upto_region 2 with (with_reducible refine num_store rfl _ _ rfl _ _ rfl rfl _ (Has.newz _) rfl ?_)
  generalize hw2 : World.setRow _ _ _ = v2
  have hb2 : Below v1.heap.size v1 v2 := by rw [← hw2]; exact below_setRow ((Below.refl _ _).alloc (Nat.le_refl _) _) (Nat.le_refl _) _
  have hZ : Has v2 v1.heap.size (numC z) 24 := by rw [← hw2]; exact (Has.newz _).row _
  replace hR := hR.on hb2
  replace hbel := hbel.trans (hb2.mono hbel.size)
  clear hw2 hb2
  generalize v1.heap.size = b_hZ at hZ ⊢
  go_wp2_with (first | fail | (with_reducible refine num_load rfl _ rfl _ rfl _ hR rfl ?_) | (with_reducible refine num_load rfl _ rfl _ rfl _ hZ rfl ?_) | (with_reducible refine num_load_g (by with_unfolding_all rfl) _ rfl _ rfl _ hR rfl ?_) | (with_reducible refine num_load_g (by with_unfolding_all rfl) _ rfl _ rfl _ hZ rfl ?_))
  refine (KZ.out _).mono ?_
  rintro e v3 ⟨rfl, hb3⟩
  replace hR := hR.on hb3
  replace hZ := hZ.on hb3
  replace hbel := hbel.trans (hb3.mono hbel.size)
  clear hb3
  go_wp2_with (first | (with_reducible refine num_load rfl _ rfl _ rfl _ hR rfl ?_) | (with_reducible refine num_load rfl _ rfl _ rfl _ hZ rfl ?_) | (with_reducible refine num_load_g (by with_unfolding_all rfl) _ rfl _ rfl _ hR rfl ?_) | (with_reducible refine num_load_g (by with_unfolding_all rfl) _ rfl _ rfl _ hZ rfl ?_) | (with_reducible refine num_store_eq rfl _ _ rfl _ 0 _ rfl rfl zero4 _ hR rfl ?_))
  exact bodyPost_ret (v := .agg (numC (0))) (num_results Try.results10 _ _ _ rfl (hR.row _)) rfl ⟨rfl, below_setRow hbel hR_le.out _⟩
set_option maxRecDepth 100000 in
set_option maxHeartbeats 2000000 in
theorem bits_some (b : Int) (z : Nat) (KD : Hid (∀ w, Calls Try.prog 20 #[.int .i64 b] w fun e w' => e = .returned (.tuple #[.agg (numC z), .bool false, .bool false]) ∧ Below w.heap.size w w'))
    (KZ : Hid (∀ w, Calls Try.prog 21 #[.agg (numC z)] w fun e w' => e = .returned (.bool false) ∧ Below w.heap.size w w'))
    (v : Nat) (KO : Hid (∀ w, Calls Try.prog 9 #[.agg (numC z)] w fun e w' => e = .returned (.agg (numC v)) ∧ Below w.heap.size w w')) (w : World) :
    Calls Try.prog 10 #[.int .i64 b] w fun e w' => e = .returned (.agg (numC v)) ∧ Below w.heap.size w w' := by
  go_enter Try.func10, Try.ntmps10
  go_upto_region 1 with fail
  generalize hw0 : World.alloc _ _ = v0
  have hbel : Below w.heap.size w v0 := by rw [← hw0]; exact (Below.refl _ _).alloc (by first | exact Nat.le_refl _ | (simp; done) | (simp; omega)) _
  have hR : Has v0 (w.heap.size) (numC 0) 24 := by rw [← hw0]; exact Has.new (numC 0) _
  have hR_le : Hid (w.heap.size ≤ w.heap.size) := Lib.hid (by omega)
  clear hw0
  
  go_wp2_with (first | fail | (with_reducible refine num_load rfl _ rfl _ rfl _ hR rfl ?_) | (with_reducible refine num_load_g (by with_unfolding_all rfl) _ rfl _ rfl _ hR rfl ?_))
  refine (KD.out _).mono ?_
  rintro e v1 ⟨rfl, hb1⟩
  replace hR := hR.on hb1
  replace hbel := hbel.trans (hb1.mono hbel.size)
  clear hb1
  go_upto_region 2 with (with_reducible refine num_store rfl _ _ rfl _ _ rfl rfl _ (Has.newz _) rfl ?_)
  generalize hw2 : World.setRow _ _ _ = v2
  have hb2 : Below v1.heap.size v1 v2 := by rw [← hw2]; exact below_setRow ((Below.refl _ _).alloc (Nat.le_refl _) _) (Nat.le_refl _) _
  have hZ : Has v2 v1.heap.size (numC z) 24 := by rw [← hw2]; exact (Has.newz _).row _
  replace hR := hR.on hb2
  replace hbel := hbel.trans (hb2.mono hbel.size)
  clear hw2 hb2
  generalize v1.heap.size = b_hZ at hZ ⊢
  go_wp2_with (first | fail | (with_reducible refine num_load rfl _ rfl _ rfl _ hR rfl ?_) | (with_reducible refine num_load rfl _ rfl _ rfl _ hZ rfl ?_) | (with_reducible refine num_load_g (by with_unfolding_all rfl) _ rfl _ rfl _ hR rfl ?_) | (with_reducible refine num_load_g (by with_unfolding_all rfl) _ rfl _ rfl _ hZ rfl ?_))
  refine (KZ.out _).mono ?_
  rintro e v3 ⟨rfl, hb3⟩
  replace hR := hR.on hb3
  replace hZ := hZ.on hb3
  replace hbel := hbel.trans (hb3.mono hbel.size)
  clear hb3
  go_wp2_with (first | fail | (with_reducible refine num_load rfl _ rfl _ rfl _ hR rfl ?_) | (with_reducible refine num_load rfl _ rfl _ rfl _ hZ rfl ?_) | (with_reducible refine num_load_g (by with_unfolding_all rfl) _ rfl _ rfl _ hR rfl ?_) | (with_reducible refine num_load_g (by with_unfolding_all rfl) _ rfl _ rfl _ hZ rfl ?_))
  refine (KO.out _).mono ?_
  rintro e v4 ⟨rfl, hb4⟩
  replace hR := hR.on hb4
  replace hZ := hZ.on hb4
  replace hbel := hbel.trans (hb4.mono hbel.size)
  clear hb4
  go_wp2_with (first | (with_reducible refine num_load rfl _ rfl _ rfl _ hR rfl ?_) | (with_reducible refine num_load rfl _ rfl _ rfl _ hZ rfl ?_) | (with_reducible refine num_load_g (by with_unfolding_all rfl) _ rfl _ rfl _ hR rfl ?_) | (with_reducible refine num_load_g (by with_unfolding_all rfl) _ rfl _ rfl _ hZ rfl ?_) | (with_reducible refine num_store rfl _ _ rfl _ _ rfl rfl _ hR rfl ?_))
  exact bodyPost_ret (v := .agg (numC (v))) (num_results Try.results10 _ _ _ rfl (hR.row _)) rfl ⟨rfl, below_setRow hbel hR_le.out _⟩
theorem Nm.decN_lt {n : Nat} : Nm.decN n < Nm.big := Nm.mv_lt (Nat.lt_trans (Nat.mod_lt _ (by decide : 0 < 8388608)) (by decide)) _
theorem wbits (b : Int) (w : World) : Calls Try.prog 10 #[.int .i64 b] w fun e w' => e = .returned (.agg (numC (ofBits b))) ∧ Below w.heap.size w w' := by
  unfold ofBits
  by_cases hb : 0 ≤ b ∧ b ≤ 4294967295
  · rw [if_pos hb]
    obtain ⟨n, rfl⟩ := Int.eq_ofNat_of_zero_le hb.1
    have hd := fun w => decode_yes n (by omega) w
    rw [Int.toNat_natCast]
    generalize hl : Nm.decLow n = low at *
    generalize ho : Nm.decOver n = over at *
    cases low
    · cases over
      · by_cases hz : Nm.decN n = 0
        · rw [decide_eq_true hz]
          exact bits_zero _ _ (Lib.hid hd) (Lib.hid (zero_is _ Nm.decN_lt true (decide_eq_true hz))) w
        · rw [decide_eq_false hz]
          exact bits_some _ _ (Lib.hid hd) (Lib.hid (zero_is _ Nm.decN_lt false (decide_eq_false hz))) _ (Lib.hid (wof _ Nm.decN_lt _ rfl)) w
      · exact bits_over _ _ (Lib.hid hd) w
    · exact bits_low _ _ _ (Lib.hid hd) w
  · rw [if_neg hb]
    exact bits_zero b 0 (Lib.hid (decode_no b hb)) (Lib.hid (zero_is 0 (by decide) true (by decide))) w
end Go.Proofs.Ytlednkbnhnjgcaa
