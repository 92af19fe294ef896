import Derived.Test.YtlljemggalmcdaaWAlive
import Derived.Test.YtlljemggalmcdaaWCompare
import Derived.Test.YtlljemggalmcdaaRefQuo
namespace Go.Proofs.Ytlljemggalmcdaa
open Go.RowKit
set_option maxRecDepth 100000 in
set_option maxHeartbeats 1000000 in
theorem quotients_case (x y q r : Nat) (z : Bool) (w : World) (cQ : ∀ w, Calls Try.prog 31 #[.agg (numC x), .agg (numC y)] w fun e w' => e = .returned (.tuple #[.agg (numC q), .agg (numC r)]) ∧ Below w.heap.size w w')
    (cR : ∀ w, Calls Try.prog 32 #[.agg (numC x), .agg (numC y)] w fun e w' => e = .returned (.tuple #[.agg (numC q), .agg (numC r)]) ∧ Below w.heap.size w w')
    (cZ : ∀ w, Calls Try.prog 22 #[.agg (numC y)] w fun e w' => e = .returned (.bool z) ∧ Below w.heap.size w w')
    (cL : z = false → ∀ w, Calls Try.prog 21 #[.agg (numC r), .agg (numC y)] w fun e w' => e = .returned (.bool true) ∧ Below w.heap.size w w') :
    Calls Try.prog 7 #[.agg (numC x), .agg (numC y)] w fun e w' => e = .returned (.bool true) ∧ Below w.heap.size w w' := by
  have KQ := Lib.hid cQ
  have KR := Lib.hid cR
  have KZ := Lib.hid cZ
  have KL := Lib.hid cL
  clear cQ cR cZ cL
  go_enter Try.func7, Try.ntmps7
  go_upto_region 1 with fail
  generalize hw1 : World.alloc _ _ = w1
  have hbel : Below w.heap.size w w1 := by rw [← hw1]; exact ((Below.refl _ _).alloc (Nat.le_refl _) _).alloc (by simp) _
  have hA : Has w1 w.heap.size (numC x) 24 := by rw [← hw1]; exact (Has.new _ _).alloc _
  have hB : Has w1 (w.heap.size + 1) (numC y) 24 := by rw [← hw1]; exact Has.new1 _ _ _
  clear hw1
  generalize w.heap.size + 1 = b_B at hB ⊢
  generalize w.heap.size = b_A at hA ⊢
  go_wp2_with (first | fail | (with_reducible refine num_load rfl _ rfl _ rfl _ hA rfl ?_) | (with_reducible refine num_load rfl _ rfl _ rfl _ hB rfl ?_))
  refine (alive _).mono ?_
  rintro e v1 ⟨rfl, hb1⟩
  replace hA := hA.on hb1
  replace hB := hB.on hb1
  replace hbel := hbel.trans (hb1.mono hbel.size)
  clear hb1
  go_wp2_with (first | fail | (with_reducible refine num_load rfl _ rfl _ rfl _ hA rfl ?_) | (with_reducible refine num_load rfl _ rfl _ rfl _ hB rfl ?_))
  refine (KQ.out _).mono ?_
  rintro e v2 ⟨rfl, hb2⟩
  replace hA := hA.on hb2
  replace hB := hB.on hb2
  replace hbel := hbel.trans (hb2.mono hbel.size)
  clear hb2
  go_upto_region 4 with (first | (with_reducible refine num_store rfl _ _ rfl _ _ rfl rfl _ ((Has.newz _).alloc _) rfl ?_) | (with_reducible refine num_store rfl _ _ rfl _ _ rfl rfl _ ((Has.newz1 _ _).otherRow _ _ (Nat.succ_ne_self _)) rfl ?_))
  generalize hw3 : World.setRow _ _ _ = v3
  have hb3 : Below v2.heap.size v2 v3 := by rw [← hw3]; exact below_setRow (below_setRow (((Below.refl _ _).alloc (Nat.le_refl _) _).alloc (by simp) _) (Nat.le_refl _) _) (Nat.le_succ _) _
  have hQ : Has v3 v2.heap.size (numC q) 24 := by rw [← hw3]; exact (((Has.newz _).alloc _).row _).otherRow _ _ (Nat.ne_of_lt (Nat.lt_succ_self _))
  have hRr : Has v3 (v2.heap.size + 1) (numC r) 24 := by rw [← hw3]; exact ((Has.newz1 _ _).otherRow _ _ (Nat.succ_ne_self _)).row _
  replace hA := hA.on hb3
  replace hB := hB.on hb3
  replace hbel := hbel.trans (hb3.mono hbel.size)
  clear hw3 hb3
  generalize v2.heap.size + 1 = b_hRr at hRr ⊢
  generalize v2.heap.size = b_hQ at hQ ⊢
  go_wp2_with (first | fail | (with_reducible refine num_load rfl _ rfl _ rfl _ hA rfl ?_) | (with_reducible refine num_load rfl _ rfl _ rfl _ hB rfl ?_) | (with_reducible refine num_load rfl _ rfl _ rfl _ hQ rfl ?_) | (with_reducible refine num_load rfl _ rfl _ rfl _ hRr rfl ?_))
  refine (KR.out _).mono ?_
  rintro e v4 ⟨rfl, hb4⟩
  replace hA := hA.on hb4
  replace hB := hB.on hb4
  replace hQ := hQ.on hb4
  replace hRr := hRr.on hb4
  replace hbel := hbel.trans (hb4.mono hbel.size)
  clear hb4
  go_upto_region 5 with (first | (with_reducible refine num_store rfl _ _ rfl _ _ rfl rfl _ ((Has.newz _).alloc _) rfl ?_) | (with_reducible refine num_store rfl _ _ rfl _ _ rfl rfl _ ((Has.newz1 _ _).otherRow _ _ (Nat.succ_ne_self _)) rfl ?_))
  generalize hw5 : World.setRow _ _ _ = v5
  have hb5 : Below v4.heap.size v4 v5 := by rw [← hw5]; exact below_setRow (below_setRow (((Below.refl _ _).alloc (Nat.le_refl _) _).alloc (by simp) _) (Nat.le_refl _) _) (Nat.le_succ _) _
  have hX : Has v5 v4.heap.size (numC q) 24 := by rw [← hw5]; exact (((Has.newz _).alloc _).row _).otherRow _ _ (Nat.ne_of_lt (Nat.lt_succ_self _))
  have hY : Has v5 (v4.heap.size + 1) (numC r) 24 := by rw [← hw5]; exact ((Has.newz1 _ _).otherRow _ _ (Nat.succ_ne_self _)).row _
  replace hA := hA.on hb5
  replace hB := hB.on hb5
  replace hQ := hQ.on hb5
  replace hRr := hRr.on hb5
  replace hbel := hbel.trans (hb5.mono hbel.size)
  clear hw5 hb5
  generalize v4.heap.size + 1 = b_hY at hY ⊢
  generalize v4.heap.size = b_hX at hX ⊢
  have qs := eql_same''
  go_wp2_with (first | fail | (with_reducible refine num_load rfl _ rfl _ rfl _ hA rfl ?_) | (with_reducible refine num_load rfl _ rfl _ rfl _ hB rfl ?_) | (with_reducible refine num_load rfl _ rfl _ rfl _ hQ rfl ?_) | (with_reducible refine num_load rfl _ rfl _ rfl _ hRr rfl ?_) | (with_reducible refine num_load rfl _ rfl _ rfl _ hX rfl ?_) | (with_reducible refine num_load rfl _ rfl _ rfl _ hY rfl ?_) | (with_reducible refine num_load_g (by with_unfolding_all rfl) _ rfl _ rfl _ hA rfl ?_) | (with_reducible refine num_load_g (by with_unfolding_all rfl) _ rfl _ rfl _ hB rfl ?_) | (with_reducible refine num_load_g (by with_unfolding_all rfl) _ rfl _ rfl _ hQ rfl ?_) | (with_reducible refine num_load_g (by with_unfolding_all rfl) _ rfl _ rfl _ hRr rfl ?_) | (with_reducible refine num_load_g (by with_unfolding_all rfl) _ rfl _ rfl _ hX rfl ?_) | (with_reducible refine num_load_g (by with_unfolding_all rfl) _ rfl _ rfl _ hY rfl ?_))
  refine (KZ.out _).mono ?_
  rintro e vz ⟨rfl, hbz⟩
  replace hA := hA.on hbz
  replace hB := hB.on hbz
  replace hQ := hQ.on hbz
  replace hRr := hRr.on hbz
  replace hX := hX.on hbz
  replace hY := hY.on hbz
  replace hbel := hbel.trans (hbz.mono hbel.size)
  clear hbz
  rcases z with _ | _
  · have cL := KL.out rfl
    have KL2 := Lib.hid cL
    clear cL KL
    go_wp2_with (first | fail | (with_reducible refine num_load rfl _ rfl _ rfl _ hA rfl ?_) | (with_reducible refine num_load rfl _ rfl _ rfl _ hB rfl ?_) | (with_reducible refine num_load rfl _ rfl _ rfl _ hQ rfl ?_) | (with_reducible refine num_load rfl _ rfl _ rfl _ hRr rfl ?_) | (with_reducible refine num_load rfl _ rfl _ rfl _ hX rfl ?_) | (with_reducible refine num_load rfl _ rfl _ rfl _ hY rfl ?_) | (with_reducible refine num_load_g (by with_unfolding_all rfl) _ rfl _ rfl _ hA rfl ?_) | (with_reducible refine num_load_g (by with_unfolding_all rfl) _ rfl _ rfl _ hB rfl ?_) | (with_reducible refine num_load_g (by with_unfolding_all rfl) _ rfl _ rfl _ hQ rfl ?_) | (with_reducible refine num_load_g (by with_unfolding_all rfl) _ rfl _ rfl _ hRr rfl ?_) | (with_reducible refine num_load_g (by with_unfolding_all rfl) _ rfl _ rfl _ hX rfl ?_) | (with_reducible refine num_load_g (by with_unfolding_all rfl) _ rfl _ rfl _ hY rfl ?_))
    refine (KL2.out _).mono ?_
    rintro e vl ⟨rfl, hbl⟩
    replace hbel := hbel.trans (hbl.mono hbel.size)
    go_wp2_with fail
    go_ret
    exact ⟨rfl, hbel⟩
  · clear KL
    go_wp2_with (first | fail | (with_reducible refine num_load rfl _ rfl _ rfl _ hA rfl ?_) | (with_reducible refine num_load rfl _ rfl _ rfl _ hB rfl ?_) | (with_reducible refine num_load rfl _ rfl _ rfl _ hQ rfl ?_) | (with_reducible refine num_load rfl _ rfl _ rfl _ hRr rfl ?_) | (with_reducible refine num_load rfl _ rfl _ rfl _ hX rfl ?_) | (with_reducible refine num_load rfl _ rfl _ rfl _ hY rfl ?_) | (with_reducible refine num_load_g (by with_unfolding_all rfl) _ rfl _ rfl _ hA rfl ?_) | (with_reducible refine num_load_g (by with_unfolding_all rfl) _ rfl _ rfl _ hB rfl ?_) | (with_reducible refine num_load_g (by with_unfolding_all rfl) _ rfl _ rfl _ hQ rfl ?_) | (with_reducible refine num_load_g (by with_unfolding_all rfl) _ rfl _ rfl _ hRr rfl ?_) | (with_reducible refine num_load_g (by with_unfolding_all rfl) _ rfl _ rfl _ hX rfl ?_) | (with_reducible refine num_load_g (by with_unfolding_all rfl) _ rfl _ rfl _ hY rfl ?_))
    go_ret
    exact ⟨rfl, hbel⟩
theorem quotients_walk (x y : Nat) (hx : x < Nm.big) (hy : y < Nm.big) (w : World) :
    Calls Try.prog 7 #[.agg (numC x), .agg (numC y)] w fun e w' => e = .returned (.bool true) ∧ Below w.heap.size w w' := by
  by_cases h : y = 0
  · subst h
    exact quotients_case x 0 0 0 true w (quo_zero x) (ref_quo_zero x) (zero 0 hy) (fun h => by cases h)
  · have h0 : 0 < y := by omega
    refine quotients_case x y (x / y) (x % y) false w (quo_pos x y hx hy h0) (ref_quo_pos x y hx hy h0) (fun w => ?_) (fun _ w => ?_)
    · have := zero y hy w
      rwa [show decide (y = 0) = false by simp; omega] at this
    · have hl : x % y < y := Nat.mod_lt _ h0
      have := less (x % y) y (by omega) hy w
      rwa [show decide (x % y < y) = true by simp; omega] at this
end Go.Proofs.Ytlljemggalmcdaa
