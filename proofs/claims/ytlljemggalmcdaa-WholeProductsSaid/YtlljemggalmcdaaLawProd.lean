import Derived.Test.YtlljemggalmcdaaRefTimes
import Derived.Test.YtlljemggalmcdaaWOver
import Derived.Test.YtlljemggalmcdaaWAlive
import Derived.OpenShut
namespace Go.Proofs.Ytlljemggalmcdaa
open Go.RowKit Rg2
theorem eql_same3 (z : Nat) (w : World) : (binOp .eql 24 (.agg (numC z)) (.agg (numC z))).run Try.prog w = .ok (.bool true) w := by
  rw [numC_wds, run_eql_ints w .u64 24 22 4 Try.underlying24 Try.underlying22 wordSize _ _ rfl rfl]; simp
theorem neq_same (z : Nat) (w : World) : (binOp .neq 24 (.agg (numC z)) (.agg (numC z))).run Try.prog w = .ok (.bool false) w := by
  rw [numC_wds, run_neq_ints w .u64 24 22 4 Try.underlying24 Try.underlying22 wordSize _ _ rfl rfl]; simp
/-- a number and a product that are read, behind a world that was -/
structure Pd (w wr : World) (A T x m : Nat) : Prop where
  below : Below w.heap.size w wr
  a : Has wr A (numC x) 24
  t : Has wr T (numC m) 24
section
variable {w wr w' : World} {A T x m : Nat}
theorem Pd.on (h : Pd w wr A T x m) (hb : Below wr.heap.size wr w') : Pd w w' A T x m := ⟨h.below.trans (hb.mono h.below.size), h.a.on hb, h.t.on hb⟩
theorem Pd.rowNew (h : Pd w wr A T x m) (hA : A < w.heap.size) (hT : T < w.heap.size) {g : Nat} (hg : w.heap.size ≤ g) (cs : Array Value) : Pd w (wr.setRow g cs) A T x m :=
  ⟨below_setRow h.below hg _, h.a.otherRow _ _ (by omega), h.t.otherRow _ _ (by omega)⟩
theorem Pd.own (h : Pd w wr A T x m) : Pd wr wr A T x m := ⟨Below.refl _ _, h.a, h.t⟩
end
def prodTab (x m r : Nat) : Nat → Slot
  | 0 => .val (.agg (numC m)) | 1 => .val (.int .u64 (r : Int)) | 2 => .val (.agg (numC r)) | 3 => .val (.tuple #[.agg (numC x), .bool false]) | 4 => .val (.tuple #[.agg (numC x), .bool false])
  | 5 => .val (.agg (numC x)) | 6 => .val (.bool false) | 7 => .ptr | 8 => .any | _ => .val (.bool false)
set_option maxRecDepth 100000 in
set_option maxHeartbeats 1000000 in
theorem products_zero (x p : Nat) (w : World) (cT : ∀ w, Calls Try.prog 28 #[.agg (numC x), .int .u64 ((0 : Nat) : Int)] w fun e w' => e = .returned (.tuple #[.agg (numC p), .bool false]) ∧ Below w.heap.size w w')
    (cR : ∀ w, Calls Try.prog 29 #[.agg (numC x), .int .u64 ((0 : Nat) : Int)] w fun e w' => e = .returned (.tuple #[.agg (numC p), .bool false]) ∧ Below w.heap.size w w')
    (cO : ∀ w, Calls Try.prog 30 #[.agg (numC x), .int .u64 ((0 : Nat) : Int)] w fun e w' => e = .returned (.tuple #[.agg (numC 0), .int .u64 ((0 : Nat) : Int)]) ∧ Below w.heap.size w w') :
    Calls Try.prog 6 #[.agg (numC x), .int .u64 ((0 : Nat) : Int)] w fun e w' => e = .returned (.bool true) ∧ Below w.heap.size w w' := by
  have KT := Lib.hid cT
  have KR := Lib.hid cR
  have KO := Lib.hid cO
  clear cT cR cO
  go_enter Try.func6, Try.ntmps6
  go_upto_region 1 with fail
  generalize hw1 : World.alloc _ _ = w1
  have hbel : Below w.heap.size w w1 := by rw [← hw1]; exact (Below.refl _ _).alloc (Nat.le_refl _) _
  have hA : Has w1 w.heap.size (numC x) 24 := by rw [← hw1]; exact Has.new _ _
  clear hw1
  generalize w.heap.size = b_A at hA ⊢
  go_wp2_with (first | fail | (with_reducible refine num_load rfl _ rfl _ rfl _ hA rfl ?_))
  refine (alive _).mono ?_
  rintro e v1 ⟨rfl, hb1⟩
  replace hA := hA.on hb1
  replace hbel := hbel.trans (hb1.mono hbel.size)
  clear hb1
  go_wp2_with (first | fail | (with_reducible refine num_load rfl _ rfl _ rfl _ hA rfl ?_))
  refine (KT.out _).mono ?_
  rintro e v2 ⟨rfl, hb2⟩
  replace hA := hA.on hb2
  replace hbel := hbel.trans (hb2.mono hbel.size)
  clear hb2
  go_upto_region 4 with (with_reducible refine num_store rfl _ _ rfl _ _ rfl rfl _ (Has.newz _) rfl ?_)
  generalize hw3 : World.setRow _ _ _ = v3
  have hb3 : Below v2.heap.size v2 v3 := by rw [← hw3]; exact below_setRow ((Below.refl _ _).alloc (Nat.le_refl _) _) (Nat.le_refl _) _
  have hP : Has v3 v2.heap.size (numC p) 24 := by rw [← hw3]; exact (Has.newz _).row _
  replace hA := hA.on hb3
  replace hbel := hbel.trans (hb3.mono hbel.size)
  clear hw3 hb3
  generalize v2.heap.size = b_hP at hP ⊢
  go_wp2_with (first | fail | (with_reducible refine num_load rfl _ rfl _ rfl _ hA rfl ?_) | (with_reducible refine num_load rfl _ rfl _ rfl _ hP rfl ?_))
  refine (KR.out _).mono ?_
  rintro e v4 ⟨rfl, hb4⟩
  replace hA := hA.on hb4
  replace hP := hP.on hb4
  replace hbel := hbel.trans (hb4.mono hbel.size)
  clear hb4
  go_upto_region 5 with (with_reducible refine num_store rfl _ _ rfl _ _ rfl rfl _ (Has.newz _) rfl ?_)
  generalize hw5 : World.setRow _ _ _ = v5
  have hb5 : Below v4.heap.size v4 v5 := by rw [← hw5]; exact below_setRow ((Below.refl _ _).alloc (Nat.le_refl _) _) (Nat.le_refl _) _
  have hR : Has v5 v4.heap.size (numC p) 24 := by rw [← hw5]; exact (Has.newz _).row _
  replace hA := hA.on hb5
  replace hP := hP.on hb5
  replace hbel := hbel.trans (hb5.mono hbel.size)
  clear hw5 hb5
  generalize v4.heap.size = b_hR at hR ⊢
  go_wp2_with (first | fail | (with_reducible refine num_load rfl _ rfl _ rfl _ hA rfl ?_) | (with_reducible refine num_load rfl _ rfl _ rfl _ hP rfl ?_) | (with_reducible refine num_load rfl _ rfl _ rfl _ hR rfl ?_))
  refine (KO.out _).mono ?_
  rintro e v6 ⟨rfl, hb6⟩
  replace hA := hA.on hb6
  replace hP := hP.on hb6
  replace hR := hR.on hb6
  replace hbel := hbel.trans (hb6.mono hbel.size)
  clear hb6
  go_upto_region 6 with (with_reducible refine num_store rfl _ _ rfl _ _ rfl rfl _ (Has.newz _) rfl ?_)
  generalize hw7 : World.setRow _ _ _ = v7
  have hb7 : Below v6.heap.size v6 v7 := by rw [← hw7]; exact below_setRow ((Below.refl _ _).alloc (Nat.le_refl _) _) (Nat.le_refl _) _
  have hQ : Has v7 v6.heap.size (numC 0) 24 := by rw [← hw7]; exact (Has.newz _).row _
  replace hA := hA.on hb7
  replace hP := hP.on hb7
  replace hR := hR.on hb7
  replace hbel := hbel.trans (hb7.mono hbel.size)
  clear hw7 hb7
  generalize v6.heap.size = b_hQ at hQ ⊢
  have nq := neq_same
  have ez : ∀ w, (binOp .eql 24 (.agg (numC 0)) (.agg #[.int .u64 0, .int .u64 0, .int .u64 0, .int .u64 0])).run Try.prog w = .ok (.bool true) w := eql_same3 0
  go_wp2_with (first | fail | (with_reducible refine num_load rfl _ rfl _ rfl _ hA rfl ?_) | (with_reducible refine num_load rfl _ rfl _ rfl _ hP rfl ?_) | (with_reducible refine num_load rfl _ rfl _ rfl _ hR rfl ?_) | (with_reducible refine num_load rfl _ rfl _ rfl _ hQ rfl ?_) | (with_reducible refine num_load_g (by with_unfolding_all rfl) _ rfl _ rfl _ hA rfl ?_) | (with_reducible refine num_load_g (by with_unfolding_all rfl) _ rfl _ rfl _ hP rfl ?_) | (with_reducible refine num_load_g (by with_unfolding_all rfl) _ rfl _ rfl _ hR rfl ?_) | (with_reducible refine num_load_g (by with_unfolding_all rfl) _ rfl _ rfl _ hQ rfl ?_))
  go_ret
  exact ⟨rfl, hbel⟩
set_option maxRecDepth 100000 in
set_option maxHeartbeats 2000000 in
theorem products_case (x b p q r m : Nat) (o : Bool) (h0 : 0 < b) (hr : r < b) (w : World) (cT : ∀ w, Calls Try.prog 28 #[.agg (numC x), .int .u64 (b : Int)] w fun e w' => e = .returned (.tuple #[.agg (numC p), .bool o]) ∧ Below w.heap.size w w')
    (cR : ∀ w, Calls Try.prog 29 #[.agg (numC x), .int .u64 (b : Int)] w fun e w' => e = .returned (.tuple #[.agg (numC p), .bool o]) ∧ Below w.heap.size w w')
    (cO : ∀ w, Calls Try.prog 30 #[.agg (numC x), .int .u64 (b : Int)] w fun e w' => e = .returned (.tuple #[.agg (numC q), .int .u64 (r : Int)]) ∧ Below w.heap.size w w')
    (cM : ∀ w, Calls Try.prog 28 #[.agg (numC q), .int .u64 (b : Int)] w fun e w' => e = .returned (.tuple #[.agg (numC m), .bool false]) ∧ Below w.heap.size w w')
    (cF : ∀ w, Calls Try.prog 24 #[.int .u64 (r : Int)] w fun e w' => e = .returned (.agg (numC r)) ∧ Below w.heap.size w w')
    (cA : ∀ w, Calls Try.prog 11 #[.agg (numC m), .agg (numC r)] w fun e w' => e = .returned (.tuple #[.agg (numC x), .bool false]) ∧ Below w.heap.size w w') :
    Calls Try.prog 6 #[.agg (numC x), .int .u64 (b : Int)] w fun e w' => e = .returned (.bool true) ∧ Below w.heap.size w w' := by
  have KT := Lib.hid cT
  have KR := Lib.hid cR
  have KO := Lib.hid cO
  have KM := Lib.hid cM
  have KF := Lib.hid cF
  have KA := Lib.hid cA
  clear cT cR cO cM cF cA
  have hb0 : ¬ (b : Int) = 0 := by omega
  have hbz : ((b : Int) == 0) = false := by simp; omega
  have hrb : (r : Int) < (b : Int) := by omega
  clear h0 hr
  go_enter Try.func6, Try.ntmps6
  go_upto_region 1 with fail
  generalize hw1 : World.alloc _ _ = w1
  have hbel : Below w.heap.size w w1 := by rw [← hw1]; exact (Below.refl _ _).alloc (Nat.le_refl _) _
  have hA : Has w1 w.heap.size (numC x) 24 := by rw [← hw1]; exact Has.new _ _
  clear hw1
  generalize w.heap.size = b_A at hA ⊢
  go_wp2_with (first | fail | (with_reducible refine num_load rfl _ rfl _ rfl _ hA rfl ?_))
  refine (alive _).mono ?_
  rintro e v1 ⟨rfl, hb1⟩
  replace hA := hA.on hb1
  replace hbel := hbel.trans (hb1.mono hbel.size)
  clear hb1
  go_wp2_with (first | fail | (with_reducible refine num_load rfl _ rfl _ rfl _ hA rfl ?_))
  refine (KT.out _).mono ?_
  rintro e v2 ⟨rfl, hb2⟩
  replace hA := hA.on hb2
  replace hbel := hbel.trans (hb2.mono hbel.size)
  clear hb2
  go_upto_region 4 with (with_reducible refine num_store rfl _ _ rfl _ _ rfl rfl _ (Has.newz _) rfl ?_)
  generalize hw3 : World.setRow _ _ _ = v3
  have hb3 : Below v2.heap.size v2 v3 := by rw [← hw3]; exact below_setRow ((Below.refl _ _).alloc (Nat.le_refl _) _) (Nat.le_refl _) _
  have hP : Has v3 v2.heap.size (numC p) 24 := by rw [← hw3]; exact (Has.newz _).row _
  replace hA := hA.on hb3
  replace hbel := hbel.trans (hb3.mono hbel.size)
  clear hw3 hb3
  generalize v2.heap.size = b_hP at hP ⊢
  go_wp2_with (first | fail | (with_reducible refine num_load rfl _ rfl _ rfl _ hA rfl ?_) | (with_reducible refine num_load rfl _ rfl _ rfl _ hP rfl ?_))
  refine (KR.out _).mono ?_
  rintro e v4 ⟨rfl, hb4⟩
  replace hA := hA.on hb4
  replace hP := hP.on hb4
  replace hbel := hbel.trans (hb4.mono hbel.size)
  clear hb4
  go_upto_region 5 with (with_reducible refine num_store rfl _ _ rfl _ _ rfl rfl _ (Has.newz _) rfl ?_)
  generalize hw5 : World.setRow _ _ _ = v5
  have hb5 : Below v4.heap.size v4 v5 := by rw [← hw5]; exact below_setRow ((Below.refl _ _).alloc (Nat.le_refl _) _) (Nat.le_refl _) _
  have hR : Has v5 v4.heap.size (numC p) 24 := by rw [← hw5]; exact (Has.newz _).row _
  replace hA := hA.on hb5
  replace hP := hP.on hb5
  replace hbel := hbel.trans (hb5.mono hbel.size)
  clear hw5 hb5
  generalize v4.heap.size = b_hR at hR ⊢
  go_wp2_with (first | fail | (with_reducible refine num_load rfl _ rfl _ rfl _ hA rfl ?_) | (with_reducible refine num_load rfl _ rfl _ rfl _ hP rfl ?_) | (with_reducible refine num_load rfl _ rfl _ rfl _ hR rfl ?_))
  refine (KO.out _).mono ?_
  rintro e v6 ⟨rfl, hb6⟩
  replace hA := hA.on hb6
  replace hP := hP.on hb6
  replace hR := hR.on hb6
  replace hbel := hbel.trans (hb6.mono hbel.size)
  clear hb6
  go_upto_region 6 with (with_reducible refine num_store rfl _ _ rfl _ _ rfl rfl _ (Has.newz _) rfl ?_)
  generalize hw7 : World.setRow _ _ _ = v7
  have hb7 : Below v6.heap.size v6 v7 := by rw [← hw7]; exact below_setRow ((Below.refl _ _).alloc (Nat.le_refl _) _) (Nat.le_refl _) _
  have hQ : Has v7 v6.heap.size (numC q) 24 := by rw [← hw7]; exact (Has.newz _).row _
  replace hA := hA.on hb7
  replace hP := hP.on hb7
  replace hR := hR.on hb7
  replace hbel := hbel.trans (hb7.mono hbel.size)
  clear hw7 hb7
  generalize v6.heap.size = b_hQ at hQ ⊢
  have nq := neq_same
  rcases o with _ | _
  all_goals
    go_wp2_with (first | fail | (with_reducible refine num_load rfl _ rfl _ rfl _ hA rfl ?_) | (with_reducible refine num_load rfl _ rfl _ rfl _ hP rfl ?_) | (with_reducible refine num_load rfl _ rfl _ rfl _ hR rfl ?_) | (with_reducible refine num_load rfl _ rfl _ rfl _ hQ rfl ?_) | (with_reducible refine num_load_g (by with_unfolding_all rfl) _ rfl _ rfl _ hA rfl ?_) | (with_reducible refine num_load_g (by with_unfolding_all rfl) _ rfl _ rfl _ hP rfl ?_) | (with_reducible refine num_load_g (by with_unfolding_all rfl) _ rfl _ rfl _ hR rfl ?_) | (with_reducible refine num_load_g (by with_unfolding_all rfl) _ rfl _ rfl _ hQ rfl ?_))
    refine (KM.out _).mono ?_
    rintro e v_m ⟨rfl, hbm⟩
    replace hA := hA.on hbm
    replace hP := hP.on hbm
    replace hR := hR.on hbm
    replace hQ := hQ.on hbm
    replace hbel := hbel.trans (hbm.mono hbel.size)
    clear hbm
    go_upto_region 11 with (with_reducible refine num_store rfl _ _ rfl _ _ rfl rfl _ (Has.newz _) rfl ?_)
    generalize hw9 : World.setRow _ _ _ = v9
    have hb9 : Below v_m.heap.size v_m v9 := by rw [← hw9]; exact below_setRow ((Below.refl _ _).alloc (Nat.le_refl _) _) (Nat.le_refl _) _
    have hM : Has v9 v_m.heap.size (numC m) 24 := by rw [← hw9]; exact (Has.newz _).row _
    replace hA := hA.on hb9
    replace hP := hP.on hb9
    replace hR := hR.on hb9
    replace hQ := hQ.on hb9
    replace hbel := hbel.trans (hb9.mono hbel.size)
    clear hw9 hb9
    generalize v_m.heap.size = b_hM at hM ⊢
    have hs : Pd v9 v9 b_A b_hM x m := ⟨Below.refl _ _, hA, hM⟩
    have hAl : b_A < v9.heap.size := hA.lt
    have hTl : b_hM < v9.heap.size := hM.lt
    clear hA hP hR hQ hM nq
    
    refine Rg2.wp_region_inv (by kernel_rfl) (fun w' => Pd v9 w' b_A b_hM x m) (fun j v w' => (prodTab x m r j).holds v9.heap.size v w') (Done 8 13 v9.heap.size x) (NumStep v9.heap.size) (fun _ _ => NumStep.refl _ _) (fun _ _ _ _ _ hs h => Slot.stays _ _ _ _ hs h) (by kernel_rfl) (hs.on (Below.refl _ _).drew) ?_ ?_ ?_
    · exact fun l hl => fun hk => by rw [hl] at hk; cases hk
    · intro i o listed a wx ho hn hdep hinv
      have hC := hinv.c
      have hI := hinv.i
      have hi : i < 10 := (Array.getElem?_eq_some_iff.1 ho).1
      obtain rfl | rfl | rfl | rfl | rfl | rfl | rfl | rfl | rfl | rfl : i = 0 ∨ i = 1 ∨ i = 2 ∨ i = 3 ∨ i = 4 ∨ i = 5 ∨ i = 6 ∨ i = 7 ∨ i = 8 ∨ i = 9 := by omega
      all_goals obtain rfl := Option.some.inj ho
      · exact duty_value ((fun _ _ => NumStep.refl _ _)) hC (wanted_free rfl) (ex_load_num rfl (hinv.old' 11 (by kernel_rfl)) hC.t) rfl (Done.pre (hinv.aheadT 3 (by kernel_rfl) hn (by decide) (by decide)))
      · exact duty_value ((fun _ _ => NumStep.refl _ _)) hC (wanted_free rfl) (ex_move rfl) (hinv.old' 10 (by kernel_rfl)) (Done.pre (hinv.aheadT 3 (by kernel_rfl) hn (by decide) (by decide)))
      · have e60 := hinv.got 1 _ 60 rfl (hdep ⟨1, .data⟩ (by simp) rfl) rfl
        exact duty_call (wanted_free rfl) (f := 24) (args := #[a.eval (.tmp 60)]) (by kernel_rfl) (by rw [show a.eval (.tmp 60) = _ from e60];  exact KF.out wx) (fun w' hb => ⟨hC.on hb, NumStep.below hb, rfl, Done.pre (hinv.aheadT 3 (by kernel_rfl) hn (by decide) (by decide))⟩)
      · have e59 := hinv.got 0 _ 59 rfl (hdep ⟨0, .data⟩ (by simp) rfl) rfl; have e61 := hinv.got 2 _ 61 rfl (hdep ⟨2, .data⟩ (by simp) rfl) rfl
        exact duty_call (wanted_free rfl) (f := 11) (args := #[a.eval (.tmp 59), a.eval (.tmp 61)]) (by kernel_rfl) (by rw [show a.eval (.tmp 59) = _ from e59]; rw [show a.eval (.tmp 61) = _ from e61];  exact KA.out wx) (fun w' hb => ⟨hC.on hb, NumStep.below hb, rfl, Done.pre (hinv.aheadT 3 (by kernel_rfl) hn (by decide) (by decide))⟩)
      · exact duty_value ((fun _ _ => NumStep.refl _ _)) hC (wanted_free rfl) (ex_move rfl) (hinv.got 3 _ 62 rfl (hdep ⟨3, .data⟩ (by simp) rfl) rfl) (Done.pre (hinv.aheadT 3 (by kernel_rfl) hn (by decide) (by decide)))
      · exact duty_value ((fun _ _ => NumStep.refl _ _)) hC (wanted_free rfl) (ex_extract rfl (hinv.got 4 _ 58 rfl (hdep ⟨4, .data⟩ (by simp) rfl) rfl) rfl) rfl (Done.pre (hinv.aheadT 3 (by kernel_rfl) hn (by decide) (by decide)))
      · exact duty_value ((fun _ _ => NumStep.refl _ _)) hC (wanted_free rfl) (ex_extract rfl (hinv.got 4 _ 58 rfl (hdep ⟨4, .data⟩ (by simp) rfl) rfl) rfl) rfl (Done.keep hI (by rw [hinv.size]; decide) (by decide) (by decide) fun _ h => h)
      · have hbel : Below wx.heap.size wx (wx.alloc (.cells (numC 0) 24)) := (Below.refl _ _).alloc (Nat.le_refl _) _
        exact duty_made (wanted_free rfl) (ex_alloc_num rfl) (hC.on hbel) (NumStep.below hbel) ⟨wx.heap.size, numC 0, hC.below.size, rfl, Has.new _ _, rfl⟩ (Done.pre (hinv.aheadT 3 (by kernel_rfl) hn (by decide) (by decide)))
      · obtain ⟨b, cs, hb, he, hh, hsz⟩ : Slot.ptr.holds v9.heap.size (a.eval (.tmp 13)) wx := hinv.got 7 _ 13 rfl (hdep ⟨7, .data⟩ (by simp) rfl) rfl
        exact duty_store (wanted_free rfl) (ex_store_num rfl he (hinv.got 5 _ 63 rfl (hdep ⟨5, .data⟩ (by simp) rfl) rfl) hh hsz) (hC.rowNew hAl hTl hb _) (NumStep.row hh) trivial (fun _ => ⟨b, hb, he, hh.row _⟩)
      · exact duty_value ((fun _ _ => NumStep.refl _ _)) hC (wanted_free rfl) (ex_assign rfl) (hinv.got 6 _ 64 rfl (hdep ⟨6, .data⟩ (by simp) rfl) rfl) (Done.keep hI (by rw [hinv.size]; decide) (by decide) (by decide) fun _ h => h)
    · intro listed act wx hall hinv
      obtain ⟨bN, hbN, e13, hN⟩ := hinv.i (hall 8 (by decide))
      have hC := hinv.c
      obtain ⟨u, hu⟩ : ∃ u : Nat → Value, ∀ t, u t = act.eval (.tmp t) := ⟨_, fun _ => rfl⟩
      rw [frame_quo act 81 u hinv.tsize hinv.defers hu]
      have f0 := hinv.old' 0 (by kernel_rfl)
      have f1 := hinv.old' 1 (by kernel_rfl)
      have f2 := hinv.old' 2 (by kernel_rfl)
      have f3 := hinv.old' 3 (by kernel_rfl)
      have f4 := hinv.old' 4 (by kernel_rfl)
      have f5 := hinv.old' 5 (by kernel_rfl)
      have f6 := hinv.old' 6 (by kernel_rfl)
      have f7 := hinv.old' 7 (by kernel_rfl)
      have f8 := hinv.old' 8 (by kernel_rfl)
      have f9 := hinv.old' 9 (by kernel_rfl)
      have f10 := hinv.old' 10 (by kernel_rfl)
      have f11 := hinv.old' 11 (by kernel_rfl)
      have f12 := hinv.old' 12 (by kernel_rfl)
      have f15 := hinv.old' 15 (by kernel_rfl)
      have f16 := hinv.old' 16 (by kernel_rfl)
      have f17 := hinv.old' 17 (by kernel_rfl)
      have f18 := hinv.old' 18 (by kernel_rfl)
      have f19 := hinv.old' 19 (by kernel_rfl)
      have f20 := hinv.old' 20 (by kernel_rfl)
      have f21 := hinv.old' 21 (by kernel_rfl)
      have f22 := hinv.old' 22 (by kernel_rfl)
      have f23 := hinv.old' 23 (by kernel_rfl)
      have f24 := hinv.old' 24 (by kernel_rfl)
      have f25 := hinv.old' 25 (by kernel_rfl)
      have f26 := hinv.old' 26 (by kernel_rfl)
      have f27 := hinv.old' 27 (by kernel_rfl)
      have f28 := hinv.old' 28 (by kernel_rfl)
      have f29 := hinv.old' 29 (by kernel_rfl)
      have f30 := hinv.old' 30 (by kernel_rfl)
      have f31 := hinv.old' 31 (by kernel_rfl)
      have f32 := hinv.old' 32 (by kernel_rfl)
      have f33 := hinv.old' 33 (by kernel_rfl)
      have f34 := hinv.old' 34 (by kernel_rfl)
      have f35 := hinv.old' 35 (by kernel_rfl)
      have f36 := hinv.old' 36 (by kernel_rfl)
      have f37 := hinv.old' 37 (by kernel_rfl)
      have f38 := hinv.old' 38 (by kernel_rfl)
      have f39 := hinv.old' 39 (by kernel_rfl)
      have f40 := hinv.old' 40 (by kernel_rfl)
      have f41 := hinv.old' 41 (by kernel_rfl)
      have f42 := hinv.old' 42 (by kernel_rfl)
      have f43 := hinv.old' 43 (by kernel_rfl)
      have f44 := hinv.old' 44 (by kernel_rfl)
      have f45 := hinv.old' 45 (by kernel_rfl)
      have f46 := hinv.old' 46 (by kernel_rfl)
      have f47 := hinv.old' 47 (by kernel_rfl)
      have f48 := hinv.old' 48 (by kernel_rfl)
      have f49 := hinv.old' 49 (by kernel_rfl)
      have f50 := hinv.old' 50 (by kernel_rfl)
      have f51 := hinv.old' 51 (by kernel_rfl)
      have f52 := hinv.old' 52 (by kernel_rfl)
      have f53 := hinv.old' 53 (by kernel_rfl)
      have f54 := hinv.old' 54 (by kernel_rfl)
      have f55 := hinv.old' 55 (by kernel_rfl)
      have f56 := hinv.old' 56 (by kernel_rfl)
      have f57 := hinv.old' 57 (by kernel_rfl)
      have f65 := hinv.old' 65 (by kernel_rfl)
      have f66 := hinv.old' 66 (by kernel_rfl)
      have f67 := hinv.old' 67 (by kernel_rfl)
      have f68 := hinv.old' 68 (by kernel_rfl)
      have f69 := hinv.old' 69 (by kernel_rfl)
      have f70 := hinv.old' 70 (by kernel_rfl)
      have f71 := hinv.old' 71 (by kernel_rfl)
      have f72 := hinv.old' 72 (by kernel_rfl)
      have f73 := hinv.old' 73 (by kernel_rfl)
      have f74 := hinv.old' 74 (by kernel_rfl)
      have f75 := hinv.old' 75 (by kernel_rfl)
      have f76 := hinv.old' 76 (by kernel_rfl)
      have f77 := hinv.old' 77 (by kernel_rfl)
      have f78 := hinv.old' 78 (by kernel_rfl)
      have f79 := hinv.old' 79 (by kernel_rfl)
      have f80 := hinv.old' 80 (by kernel_rfl)
      have f13 := e13
      have f14 := (hinv.got 9 _ 14 rfl (hall 9 (by decide)) rfl : act.eval (.tmp 14) = .bool false)
      simp only [← hu] at f0 f1 f2 f3 f4 f5 f6 f7 f8 f9 f10 f11 f12 f13 f14 f15 f16 f17 f18 f19 f20 f21 f22 f23 f24 f25 f26 f27 f28 f29 f30 f31 f32 f33 f34 f35 f36 f37 f38 f39 f40 f41 f42 f43 f44 f45 f46 f47 f48 f49 f50 f51 f52 f53 f54 f55 f56 f57 f65 f66 f67 f68 f69 f70 f71 f72 f73 f74 f75 f76 f77 f78 f79 f80
      simp [Act.eval] at f0 f1 f2 f3 f4 f5 f6 f7 f8 f9 f10 f11 f12 f15 f16 f17 f18 f19 f20 f21 f22 f23 f24 f25 f26 f27 f28 f29 f30 f31 f32 f33 f34 f35 f36 f37 f38 f39 f40 f41 f42 f43 f44 f45 f46 f47 f48 f49 f50 f51 f52 f53 f54 f55 f56 f57 f65 f66 f67 f68 f69 f70 f71 f72 f73 f74 f75 f76 f77 f78 f79 f80
      clear hu hinv hall
      show Exit.then _ _ _ (⟨#[u 0, u 1, u 2, u 3, u 4, u 5, u 6, u 7, u 8, u 9, u 10, u 11, u 12, u 13, u 14, u 15, u 16, u 17, u 18, u 19, u 20, u 21, u 22, u 23, u 24, u 25, u 26, u 27, u 28, u 29, u 30, u 31, u 32, u 33, u 34, u 35, u 36, u 37, u 38, u 39, u 40, u 41, u 42, u 43, u 44, u 45, u 46, u 47, u 48, u 49, u 50, u 51, u 52, u 53, u 54, u 55, u 56, u 57, u 58, u 59, u 60, u 61, u 62, u 63, u 64, u 65, u 66, u 67, u 68, u 69, u 70, u 71, u 72, u 73, u 74, u 75, u 76, u 77, u 78, u 79, u 80], []⟩ : Act) _
      rw [f0, f1, f2, f3, f4, f5, f6, f7, f8, f9, f10, f11, f12, f13, f14, f15, f16, f17, f18, f19, f20, f21, f22, f23, f24, f25, f26, f27, f28, f29, f30, f31, f32, f33, f34, f35, f36, f37, f38, f39, f40, f41, f42, f43, f44, f45, f46, f47, f48, f49, f50, f51, f52, f53, f54, f55, f56, f57, f65, f66, f67, f68, f69, f70, f71, f72, f73, f74, f75, f76, f77, f78, f79, f80]
      clear f0 f1 f2 f3 f4 f5 f6 f7 f8 f9 f10 f11 f12 f13 f14 f15 f16 f17 f18 f19 f20 f21 f22 f23 f24 f25 f26 f27 f28 f29 f30 f31 f32 f33 f34 f35 f36 f37 f38 f39 f40 f41 f42 f43 f44 f45 f46 f47 f48 f49 f50 f51 f52 f53 f54 f55 f56 f57 f65 f66 f67 f68 f69 f70 f71 f72 f73 f74 f75 f76 f77 f78 f79 f80
      clear hs hAl hTl hbN
      have eq := eql_same3
      go_wp2_with (first
        | fail
        | (with_reducible refine num_load rfl _ rfl _ rfl _ hN rfl ?_) | (with_reducible refine num_load rfl _ rfl _ rfl _ hC.a rfl ?_)
        | (with_reducible refine num_load_g (by with_unfolding_all rfl) _ rfl _ rfl _ hN rfl ?_) | (with_reducible refine num_load_g (by with_unfolding_all rfl) _ rfl _ rfl _ hC.a rfl ?_))
      go_ret
      exact ⟨rfl, hbel.trans (hC.below.mono hbel.size)⟩
theorem products_walk (x : Nat) (b : Int) (hx : x < Nm.big) (hb : (Lit.int .u64 b).wf = true) (w : World) :
    Calls Try.prog 6 #[.agg (numC x), .int .u64 b] w fun e w' => e = .returned (.bool true) ∧ Below w.heap.size w w' := by
  have hbu := bounds_u64 hb
  obtain ⟨n, rfl⟩ : ∃ n : Nat, b = (n : Nat) := ⟨b.toNat, by omega⟩
  have hn : n < 18446744073709551616 := by omega
  by_cases h : n = 0
  · subst h
    have c1 := fun w => times x 0 hx (by decide) w
    have c2 := fun w => ref_times x 0 hx (by decide) w
    rw [Nat.mul_zero, show decide (Nm.big ≤ 0) = false from rfl] at c1 c2
    exact products_zero x _ w c1 c2 (fun w => by have := over x 0 hx (by decide) w; rwa [if_pos rfl, Nat.div_zero] at this)
  · have h0 : 0 < n := by omega
    have hm := Nat.div_add_mod' x n
    have hl := Nat.mod_lt x h0
    have hq : x / n < Nm.big := Nat.lt_of_le_of_lt (Nat.div_le_self _ _) hx
    refine products_case x n _ (x / n) (x % n) (x / n * n) _ h0 hl w (fun w => times x n hx hn w) (fun w => ref_times x n hx hn w) (fun w => by have := over x n hx hn w; rwa [if_neg h] at this) (fun w => ?_) (fun w => of _ (by omega) w) (fun w => ?_)
    · have := times (x / n) n hq hn w
      rwa [Nat.mod_eq_of_lt (show x / n * n < Nm.big by omega), show decide (Nm.big ≤ x / n * n) = false from decide_eq_false (by omega)] at this
    · have := add (x / n * n) (x % n) (by omega) (by omega) w
      rwa [hm, Nat.mod_eq_of_lt hx, show decide (Nm.big ≤ x) = false from decide_eq_false (by omega)] at this
end Go.Proofs.Ytlljemggalmcdaa
