import Derived.Test.YteachheacllblabCpAlive
import Derived.Test.YteachheacllblabCpRefEnc
import Derived.Test.YteachheacllblabRefLess
namespace Go.Proofs.Yteachheacllblab
open Go.RowKit
theorem dec_enc_call (x : Nat) (hx : x < Nm.big) (w : World) : Calls Try.prog 10 #[.int .i64 (Nm.enc x : Nat)] w fun e w' => e = .returned (.tuple #[.agg (numC (Nm.rd x)), .bool false, .bool false]) ∧ Below w.heap.size w w' := by
  have h := decode_yes (Nm.enc x) (Nm.enc_lt hx) w
  rwa [Nm.dec_enc hx, Nm.enc_low, Nm.enc_over hx] at h
theorem ref_less_is (x y : Nat) (hx : x < Nm.big) (hy : y < Nm.big) (g : Bool) (hg : decide (x < y) = g) (w : World) : Calls Try.prog 12 #[.agg (numC x), .agg (numC y)] w fun e w' => e = .returned (.bool g) ∧ Below w.heap.size w w' := by
  rw [← hg]; exact ref_less x y hx hy w
set_option maxRecDepth 100000 in
set_option maxHeartbeats 2000000 in
theorem order_not (x y : Nat) (KL : Hid (∀ w, Calls Try.prog 12 #[.agg (numC y), .agg (numC x)] w fun e w' => e = .returned (.bool true) ∧ Below w.heap.size w w')) (w : World) :
    Calls Try.prog 6 #[.agg (numC x), .agg (numC y)] w fun e w' => e = .returned (.bool true) ∧ Below w.heap.size w w' := by
  go_enter Try.func6, Try.ntmps6
  go_upto_region 1 with fail
  generalize hw0 : World.alloc _ _ = v0
  have hbel : Below w.heap.size w v0 := by rw [← hw0]; exact ((Below.refl _ _).alloc (by first | exact Nat.le_refl _ | (simp; done) | (simp; omega)) _).alloc (by first | exact Nat.le_refl _ | (simp; done) | (simp; omega)) _
  have hA : Has v0 (w.heap.size) (numC x) 24 := by rw [← hw0]; exact (Has.new _ _).alloc _
  have hB : Has v0 (w.heap.size + 1) (numC y) 24 := by rw [← hw0]; exact Has.new1 _ _ _
  clear hw0
  generalize hg1 : w.heap.size + 1 = b_hB at hB ⊢
  clear hg1
  
  go_wp2_with (first | fail | (with_reducible refine num_load rfl _ rfl _ rfl _ hA rfl ?_) | (with_reducible refine num_load rfl _ rfl _ rfl _ hB rfl ?_))
  refine (alive _).mono ?_
  rintro e v1 ⟨rfl, hb1⟩
  replace hA := hA.on hb1
  replace hB := hB.on hb1
  replace hbel := hbel.trans (hb1.mono hbel.size)
  clear hb1
  go_wp2_with (first | fail | (with_reducible refine num_load rfl _ rfl _ rfl _ hA rfl ?_) | (with_reducible refine num_load rfl _ rfl _ rfl _ hB rfl ?_))
  refine (KL.out _).mono ?_
  rintro e v2 ⟨rfl, hb2⟩
  replace hA := hA.on hb2
  replace hB := hB.on hb2
  replace hbel := hbel.trans (hb2.mono hbel.size)
  clear hb2
  go_wp2_with (first | fail | (with_reducible refine num_load rfl _ rfl _ rfl _ hA rfl ?_) | (with_reducible refine num_load rfl _ rfl _ rfl _ hB rfl ?_))
  go_ret
  exact ⟨rfl, hbel⟩
set_option maxRecDepth 100000 in
set_option maxHeartbeats 2000000 in
theorem order_yes (x y ex ey rx ry : Nat) (KL : Hid (∀ w, Calls Try.prog 12 #[.agg (numC y), .agg (numC x)] w fun e w' => e = .returned (.bool false) ∧ Below w.heap.size w w'))
    (KE : Hid (∀ w, Calls Try.prog 9 #[.agg (numC x)] w fun e w' => e = .returned (.int .i64 (ex : Nat)) ∧ Below w.heap.size w w')) (KD : Hid (∀ w, Calls Try.prog 10 #[.int .i64 (ex : Nat)] w fun e w' => e = .returned (.tuple #[.agg (numC rx), .bool false, .bool false]) ∧ Below w.heap.size w w'))
    (KE2 : Hid (∀ w, Calls Try.prog 9 #[.agg (numC y)] w fun e w' => e = .returned (.int .i64 (ey : Nat)) ∧ Below w.heap.size w w')) (KD2 : Hid (∀ w, Calls Try.prog 10 #[.int .i64 (ey : Nat)] w fun e w' => e = .returned (.tuple #[.agg (numC ry), .bool false, .bool false]) ∧ Below w.heap.size w w'))
    (KL2 : Hid (∀ w, Calls Try.prog 12 #[.agg (numC ry), .agg (numC rx)] w fun e w' => e = .returned (.bool false) ∧ Below w.heap.size w w')) (w : World) :
    Calls Try.prog 6 #[.agg (numC x), .agg (numC y)] w fun e w' => e = .returned (.bool true) ∧ Below w.heap.size w w' := by
  go_enter Try.func6, Try.ntmps6
  go_upto_region 1 with fail
  generalize hw0 : World.alloc _ _ = v0
  have hbel : Below w.heap.size w v0 := by rw [← hw0]; exact ((Below.refl _ _).alloc (by first | exact Nat.le_refl _ | (simp; done) | (simp; omega)) _).alloc (by first | exact Nat.le_refl _ | (simp; done) | (simp; omega)) _
  have hA : Has v0 (w.heap.size) (numC x) 24 := by rw [← hw0]; exact (Has.new _ _).alloc _
  have hB : Has v0 (w.heap.size + 1) (numC y) 24 := by rw [← hw0]; exact Has.new1 _ _ _
  clear hw0
  generalize hg1 : w.heap.size + 1 = b_hB at hB ⊢
  clear hg1
  
  go_wp2_with (first | fail | (with_reducible refine num_load rfl _ rfl _ rfl _ hA rfl ?_) | (with_reducible refine num_load rfl _ rfl _ rfl _ hB rfl ?_))
  refine (alive _).mono ?_
  rintro e v1 ⟨rfl, hb1⟩
  replace hA := hA.on hb1
  replace hB := hB.on hb1
  replace hbel := hbel.trans (hb1.mono hbel.size)
  clear hb1
  go_wp2_with (first | fail | (with_reducible refine num_load rfl _ rfl _ rfl _ hA rfl ?_) | (with_reducible refine num_load rfl _ rfl _ rfl _ hB rfl ?_))
  refine (KL.out _).mono ?_
  rintro e v2 ⟨rfl, hb2⟩
  replace hA := hA.on hb2
  replace hB := hB.on hb2
  replace hbel := hbel.trans (hb2.mono hbel.size)
  clear hb2
  go_wp2_with (first | fail | (with_reducible refine num_load rfl _ rfl _ rfl _ hA rfl ?_) | (with_reducible refine num_load rfl _ rfl _ rfl _ hB rfl ?_))
  refine (KE.out _).mono ?_
  rintro e v3 ⟨rfl, hb3⟩
  replace hA := hA.on hb3
  replace hB := hB.on hb3
  replace hbel := hbel.trans (hb3.mono hbel.size)
  clear hb3
  go_wp2_with (first | fail | (with_reducible refine num_load rfl _ rfl _ rfl _ hA rfl ?_) | (with_reducible refine num_load rfl _ rfl _ rfl _ hB rfl ?_))
  refine (KD.out _).mono ?_
  rintro e v4 ⟨rfl, hb4⟩
  replace hA := hA.on hb4
  replace hB := hB.on hb4
  replace hbel := hbel.trans (hb4.mono hbel.size)
  clear hb4
  go_upto_region 6 with (with_reducible refine num_store rfl _ _ rfl _ _ rfl rfl _ (Has.newz _) rfl ?_)
  generalize hw5 : World.setRow _ _ _ = v5
  have hb5 : Below v4.heap.size v4 v5 := by rw [← hw5]; exact below_setRow ((Below.refl _ _).alloc (Nat.le_refl _) _) (Nat.le_refl _) _
  have hX : Has v5 v4.heap.size (numC rx) 24 := by rw [← hw5]; exact (Has.newz _).row _
  replace hA := hA.on hb5
  replace hB := hB.on hb5
  replace hbel := hbel.trans (hb5.mono hbel.size)
  clear hw5 hb5
  generalize v4.heap.size = b_hX at hX ⊢
  go_wp2_with (first | fail | (with_reducible refine num_load rfl _ rfl _ rfl _ hA rfl ?_) | (with_reducible refine num_load rfl _ rfl _ rfl _ hB rfl ?_) | (with_reducible refine num_load rfl _ rfl _ rfl _ hX rfl ?_))
  refine (KE2.out _).mono ?_
  rintro e v6 ⟨rfl, hb6⟩
  replace hA := hA.on hb6
  replace hB := hB.on hb6
  replace hX := hX.on hb6
  replace hbel := hbel.trans (hb6.mono hbel.size)
  clear hb6
  go_wp2_with (first | fail | (with_reducible refine num_load rfl _ rfl _ rfl _ hA rfl ?_) | (with_reducible refine num_load rfl _ rfl _ rfl _ hB rfl ?_) | (with_reducible refine num_load rfl _ rfl _ rfl _ hX rfl ?_))
  refine (KD2.out _).mono ?_
  rintro e v7 ⟨rfl, hb7⟩
  replace hA := hA.on hb7
  replace hB := hB.on hb7
  replace hX := hX.on hb7
  replace hbel := hbel.trans (hb7.mono hbel.size)
  clear hb7
  go_upto_region 7 with (with_reducible refine num_store rfl _ _ rfl _ _ rfl rfl _ (Has.newz _) rfl ?_)
  generalize hw8 : World.setRow _ _ _ = v8
  have hb8 : Below v7.heap.size v7 v8 := by rw [← hw8]; exact below_setRow ((Below.refl _ _).alloc (Nat.le_refl _) _) (Nat.le_refl _) _
  have hY : Has v8 v7.heap.size (numC ry) 24 := by rw [← hw8]; exact (Has.newz _).row _
  replace hA := hA.on hb8
  replace hB := hB.on hb8
  replace hX := hX.on hb8
  replace hbel := hbel.trans (hb8.mono hbel.size)
  clear hw8 hb8
  generalize v7.heap.size = b_hY at hY ⊢
  go_wp2_with (first | fail | (with_reducible refine num_load rfl _ rfl _ rfl _ hA rfl ?_) | (with_reducible refine num_load rfl _ rfl _ rfl _ hB rfl ?_) | (with_reducible refine num_load rfl _ rfl _ rfl _ hX rfl ?_) | (with_reducible refine num_load rfl _ rfl _ rfl _ hY rfl ?_))
  refine (KL2.out _).mono ?_
  rintro e v9 ⟨rfl, hb9⟩
  replace hA := hA.on hb9
  replace hB := hB.on hb9
  replace hX := hX.on hb9
  replace hY := hY.on hb9
  replace hbel := hbel.trans (hb9.mono hbel.size)
  clear hb9
  go_wp2_with (first | fail | (with_reducible refine num_load rfl _ rfl _ rfl _ hA rfl ?_) | (with_reducible refine num_load rfl _ rfl _ rfl _ hB rfl ?_) | (with_reducible refine num_load rfl _ rfl _ rfl _ hX rfl ?_) | (with_reducible refine num_load rfl _ rfl _ rfl _ hY rfl ?_))
  go_ret
  exact ⟨rfl, hbel⟩
theorem order_walk (x y : Nat) (hx : x < Nm.big) (hy : y < Nm.big) (w : World) :
    Calls Try.prog 6 #[.agg (numC x), .agg (numC y)] w fun e w' => e = .returned (.bool true) ∧ Below w.heap.size w w' := by
  by_cases h : y < x
  · exact order_not x y (Lib.hid (ref_less_is y x hy hx true (decide_eq_true h))) w
  · have hrx := Nat.lt_of_le_of_lt (Nm.rd_le x) hx
    have hry := Nat.lt_of_le_of_lt (Nm.rd_le y) hy
    exact order_yes x y _ _ _ _ (Lib.hid (ref_less_is y x hy hx false (decide_eq_false h))) (Lib.hid (encode x hx)) (Lib.hid (dec_enc_call x hx)) (Lib.hid (encode y hy)) (Lib.hid (dec_enc_call y hy))
      (Lib.hid (ref_less_is _ _ hry hrx false (decide_eq_false (by have := Nm.rd_mono (x := x) (y := y) (by omega); omega)))) w
end Go.Proofs.Yteachheacllblab
