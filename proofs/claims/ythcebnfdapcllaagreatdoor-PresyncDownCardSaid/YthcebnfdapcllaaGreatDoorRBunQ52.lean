import Derived.Test.YthcebnfdapcllaaGreatDoorRBunQ48
import Derived.Test.YthcebnfdapcllaaGreatDoorRBunQ39
namespace Go.Proofs.YthcebnfdapcllaaGreatDoor.NN
open Go.RowKit Rg2 An
theorem quiet_neq {C : World → Prop} {a : Act} {o : Oper} {K : Act → Prop} (T t' : TypeId) (p : BinOp) (hT : Tryz.prog.eqGuardType Tryz.prog.depth T = false) (x y : Operand) (ho : o.op = .binOp p T x y t') (xs ys : Array Value) (v : Value) (hx : a.eval x = .agg xs) (hy : a.eval y = .agg ys)
    (hq : ∀ w, (binOp p T (.agg xs) (.agg ys)).run Tryz.prog w = .ok v w) (hk : K (a.put o.dst v)) : o.quiet Tryz.prog a C K :=
  ⟨_, fun w' hw' => by
    unfold Oper.quietAt
    have this : (execOp a.eval o).run Tryz.prog w' = .ok (.value v) w' := by
      unfold execOp
      simp only [ho, hx, hy, Sem.run_bind, Sem.run_pure, run_eqGuard_agg w' p T x y xs ys hT, Result.andThen_ok, hq]
    rw [this]
    exact ⟨rfl, rfl⟩, hk⟩
theorem num_plain : Tryz.prog.eqGuardType Tryz.prog.depth 26 = false := by kernel_rfl
theorem sub_ex (x y : Nat) (hx : x < Nm.big) (hy : y < Nm.big) : ∃ z c, z = (x + Nm.big - y) % Nm.big ∧ z < Nm.big ∧ ∀ w, Calls Tryz.prog 47 #[.agg (numC x), .agg (numC y)] w fun e w' => e = .returned (.tuple #[.agg (numC z), .bool c]) ∧ Below w.heap.size w w' := ⟨_, _, rfl, Nat.mod_lt _ big_pos, fun w => ref_sub x y hx hy w⟩
theorem add_ex (x y : Nat) (hx : x < Nm.big) (hy : y < Nm.big) : ∃ z c, z = (x + y) % Nm.big ∧ z < Nm.big ∧ ∀ w, Calls Tryz.prog 36 #[.agg (numC x), .agg (numC y)] w fun e w' => e = .returned (.tuple #[.agg (numC z), .bool c]) ∧ Below w.heap.size w w' := ⟨_, _, rfl, Nat.mod_lt _ big_pos, fun w => ref_add x y hx hy w⟩
theorem one_lt : 1 < Nm.big := by rw [Nm.big_eq]; exact Nat.lt_of_lt_of_le (by decide) (Nat.pow_le_pow_right (by decide) (show 1 ≤ 256 by decide))
structure OfS (w wr : World) (b1 bR b3 b4 b6 b7 t m4 o r : Nat) : Prop where
  be : Below w.heap.size w wr
  a1 : Has wr b1 (numC t) 26
  aR : Has wr bR (numC 0) 26
  a3 : Has wr b3 (numC 1) 26
  a4 : Has wr b4 (numC m4) 26
  a6 : Has wr b6 (numC o) 26
  a7 : Has wr b7 (numC r) 26
structure OfC (w wr : World) (b1 bR b3 b4 b7 t m4 r : Nat) : Prop where
  be : Below w.heap.size w wr
  a1 : Has wr b1 (numC t) 26
  aR : Has wr bR (numC 0) 26
  a3 : Has wr b3 (numC 1) 26
  a4 : Has wr b4 (numC m4) 26
  a7 : Has wr b7 (numC r) 26
theorem OfC.on {w wr w' : World} {b1 bR b3 b4 b7 t m4 r : Nat} (h : OfC w wr b1 bR b3 b4 b7 t m4 r) (hb : Below wr.heap.size wr w') : OfC w w' b1 bR b3 b4 b7 t m4 r :=
  ⟨h.be.trans (hb.mono h.be.size), h.a1.on hb, h.aR.on hb, h.a3.on hb, h.a4.on hb, h.a7.on hb⟩
theorem OfC.row {w wr : World} {b1 bR b3 b4 b7 t m4 r : Nat} (h : OfC w wr b1 bR b3 b4 b7 t m4 r) (g z : Nat) (h0 : w.heap.size ≤ g) (h1 : b1 ≠ g) (h2 : bR ≠ g) (h3 : b3 ≠ g) (h4 : b4 ≠ g) (h5 : b7 ≠ g) : OfC w (wr.setRow g (numC z)) b1 bR b3 b4 b7 t m4 r :=
  ⟨below_setRow h.be h0 _, h.a1.otherRow _ _ h1, h.aR.otherRow _ _ h2, h.a3.otherRow _ _ h3, h.a4.otherRow _ _ h4, h.a7.otherRow _ _ h5⟩
def OfR (o z m3 o2 : Nat → Value) (b : Bool) : Nat → Value → Prop
  | 0, u => u = o 0
  | 1, u => u = .agg (numC 1)
  | 2, u => u = z 0
  | 3, u => u = m3 0
  | 4, u => u = .tuple #[o2 0, .bool b]
  | 5, u => u = .tuple #[o2 0, .bool b]
  | 6, u => u = o2 0
  | 7, u => u = .bool b
  | _, _ => b = b
set_option maxRecDepth 100000 in
set_option maxHeartbeats 2000000 in
theorem rof_over (t : Nat) (m4 : Nat) (KA : Hid (∀ w, Calls Tryz.prog 36 #[.agg (numC t), .agg (numC 1)] w fun e w' => e = .returned (.tuple #[.agg (numC m4), .bool true]) ∧ Below w.heap.size w w')) (HW : Hid (1 = Nm.work t)) (w : World) :
    Calls Tryz.prog 33 #[.agg (numC t)] w fun e w' => ∃ z, (z < Nm.big ∧ z = Nm.work t) ∧ e = .returned (.agg (numC z)) ∧ Below w.heap.size w w' := by
  go_enter Tryz.func33, Tryz.ntmps33
  go_upto_region 1 with fail
  generalize hw0 : World.alloc _ _ = v0
  have hbel : Below w.heap.size w v0 := by rw [← hw0]; exact ((Below.refl _ _).alloc (Nat.le_refl _) _).alloc (by simp) _
  have h1 : Has v0 w.heap.size (numC t) 26 := by rw [← hw0]; exact (Has.new _ _).alloc _
  have hR : Has v0 (w.heap.size + 1) (numC 0) 26 := by rw [← hw0]; exact Has.new1 _ (numC 0) _
  clear hw0
  obtain ⟨b_1, e_1⟩ : ∃ x, x = w.heap.size := ⟨_, rfl⟩
  obtain ⟨b_R, e_R⟩ : ∃ x, x = w.heap.size + 1 := ⟨_, rfl⟩
  rw [← e_R] at hR ⊢
  rw [← e_1] at h1 ⊢
  have NR : Hid (w.heap.size ≤ b_R ∧ b_1 < b_R) := Lib.hid (by omega)
  clear e_1 e_R
  have q1 := hR.lt
  go_upto_region 2 with (first | (with_reducible refine num_load rfl _ rfl _ rfl _ h1 rfl ?_) | (with_reducible refine num_load rfl _ rfl _ rfl _ hR rfl ?_) | (with_reducible refine num_store_eq rfl _ _ rfl _ 1 _ rfl rfl one4w _ (Has.newz _) rfl ?_))
  generalize hw1 : World.setRow _ _ _ = v1
  have hb1 : Below v0.heap.size v0 v1 := by rw [← hw1]; exact below_setRow ((Below.refl _ _).alloc (Nat.le_refl _) _) (Nat.le_refl _) _
  have h3 : Has v1 v0.heap.size (numC 1) 26 := by rw [← hw1]; exact (Has.newz _).row _
  replace h1 := h1.on hb1
  replace hR := hR.on hb1
  replace hbel := hbel.trans (hb1.mono hbel.size)
  clear hw1 hb1
  obtain ⟨b_h3, e_h3⟩ : ∃ x, x = v0.heap.size := ⟨_, rfl⟩
  rw [← e_h3] at h3 q1 ⊢
  clear e_h3
  have N_h3 := Lib.hid q1
  clear q1
  go_wp2_with (first | fail | (with_reducible refine num_load rfl _ rfl _ rfl _ h1 rfl ?_) | (with_reducible refine num_load rfl _ rfl _ rfl _ hR rfl ?_) | (with_reducible refine num_load rfl _ rfl _ rfl _ h3 rfl ?_))
  refine (KA.out _).mono ?_
  rintro e v2 ⟨rfl, hb2⟩
  replace h1 := h1.on hb2
  replace hR := hR.on hb2
  replace h3 := h3.on hb2
  replace hbel := hbel.trans (hb2.mono hbel.size)
  clear hb2
  have q3 := h3.lt
  go_upto_region 3 with (first | (with_reducible refine num_load rfl _ rfl _ rfl _ h1 rfl ?_) | (with_reducible refine num_load rfl _ rfl _ rfl _ hR rfl ?_) | (with_reducible refine num_load rfl _ rfl _ rfl _ h3 rfl ?_) | (with_reducible refine num_store rfl _ _ rfl _ _ rfl rfl _ (Has.newz _) rfl ?_))
  generalize hw3 : World.setRow _ _ _ = v3
  have hb3 : Below v2.heap.size v2 v3 := by rw [← hw3]; exact below_setRow ((Below.refl _ _).alloc (Nat.le_refl _) _) (Nat.le_refl _) _
  have h4 : Has v3 v2.heap.size (numC m4) 26 := by rw [← hw3]; exact (Has.newz _).row _
  replace h1 := h1.on hb3
  replace hR := hR.on hb3
  replace h3 := h3.on hb3
  replace hbel := hbel.trans (hb3.mono hbel.size)
  clear hw3 hb3
  obtain ⟨b_h4, e_h4⟩ : ∃ x, x = v2.heap.size := ⟨_, rfl⟩
  rw [← e_h4] at h4 q3 ⊢
  clear e_h4
  have N_h4 := Lib.hid q3
  clear q3
  go_wp2_with (first | (with_reducible refine num_load rfl _ rfl _ rfl _ h1 rfl ?_) | (with_reducible refine num_load rfl _ rfl _ rfl _ hR rfl ?_) | (with_reducible refine num_load rfl _ rfl _ rfl _ h3 rfl ?_) | (with_reducible refine num_load rfl _ rfl _ rfl _ h4 rfl ?_) | (with_reducible refine num_store rfl _ _ rfl _ _ rfl rfl _ hR rfl ?_))
  exact bodyPost_ret (v := .agg (numC (1))) (num_results Tryz.results33 _ _ _ rfl (hR.row _)) rfl ⟨_, ⟨one_lt, HW.out⟩, rfl, below_setRow hbel NR.out.1 _⟩
set_option maxRecDepth 100000 in
set_option maxHeartbeats 2000000 in
theorem rof_zero (t : Nat) (m4 : Nat) (KA : Hid (∀ w, Calls Tryz.prog 36 #[.agg (numC t), .agg (numC 1)] w fun e w' => e = .returned (.tuple #[.agg (numC m4), .bool false]) ∧ Below w.heap.size w w')) (HW : Hid (Nm.big - 1 = Nm.work t)) (hq : ∀ w, (binOp .eql 26 (.agg (numC t)) (.agg #[.int .u64 0, .int .u64 0, .int .u64 0, .int .u64 0])).run Tryz.prog w = .ok (.bool true) w) (w : World) :
    Calls Tryz.prog 33 #[.agg (numC t)] w fun e w' => ∃ z, (z < Nm.big ∧ z = Nm.work t) ∧ e = .returned (.agg (numC z)) ∧ Below w.heap.size w w' := by
  have KM := Lib.hid rmost
  go_enter Tryz.func33, Tryz.ntmps33
  go_upto_region 1 with fail
  generalize hw0 : World.alloc _ _ = v0
  have hbel : Below w.heap.size w v0 := by rw [← hw0]; exact ((Below.refl _ _).alloc (Nat.le_refl _) _).alloc (by simp) _
  have h1 : Has v0 w.heap.size (numC t) 26 := by rw [← hw0]; exact (Has.new _ _).alloc _
  have hR : Has v0 (w.heap.size + 1) (numC 0) 26 := by rw [← hw0]; exact Has.new1 _ (numC 0) _
  clear hw0
  obtain ⟨b_1, e_1⟩ : ∃ x, x = w.heap.size := ⟨_, rfl⟩
  obtain ⟨b_R, e_R⟩ : ∃ x, x = w.heap.size + 1 := ⟨_, rfl⟩
  rw [← e_R] at hR ⊢
  rw [← e_1] at h1 ⊢
  have NR : Hid (w.heap.size ≤ b_R ∧ b_1 < b_R) := Lib.hid (by omega)
  clear e_1 e_R
  have q1 := hR.lt
  go_upto_region 2 with (first | (with_reducible refine num_load rfl _ rfl _ rfl _ h1 rfl ?_) | (with_reducible refine num_load rfl _ rfl _ rfl _ hR rfl ?_) | (with_reducible refine num_store_eq rfl _ _ rfl _ 1 _ rfl rfl one4w _ (Has.newz _) rfl ?_))
  generalize hw1 : World.setRow _ _ _ = v1
  have hb1 : Below v0.heap.size v0 v1 := by rw [← hw1]; exact below_setRow ((Below.refl _ _).alloc (Nat.le_refl _) _) (Nat.le_refl _) _
  have h3 : Has v1 v0.heap.size (numC 1) 26 := by rw [← hw1]; exact (Has.newz _).row _
  replace h1 := h1.on hb1
  replace hR := hR.on hb1
  replace hbel := hbel.trans (hb1.mono hbel.size)
  clear hw1 hb1
  obtain ⟨b_h3, e_h3⟩ : ∃ x, x = v0.heap.size := ⟨_, rfl⟩
  rw [← e_h3] at h3 q1 ⊢
  clear e_h3
  have N_h3 := Lib.hid q1
  clear q1
  go_wp2_with (first | fail | (with_reducible refine num_load rfl _ rfl _ rfl _ h1 rfl ?_) | (with_reducible refine num_load rfl _ rfl _ rfl _ hR rfl ?_) | (with_reducible refine num_load rfl _ rfl _ rfl _ h3 rfl ?_))
  refine (KA.out _).mono ?_
  rintro e v2 ⟨rfl, hb2⟩
  replace h1 := h1.on hb2
  replace hR := hR.on hb2
  replace h3 := h3.on hb2
  replace hbel := hbel.trans (hb2.mono hbel.size)
  clear hb2
  have q3 := h3.lt
  go_upto_region 3 with (first | (with_reducible refine num_load rfl _ rfl _ rfl _ h1 rfl ?_) | (with_reducible refine num_load rfl _ rfl _ rfl _ hR rfl ?_) | (with_reducible refine num_load rfl _ rfl _ rfl _ h3 rfl ?_) | (with_reducible refine num_store rfl _ _ rfl _ _ rfl rfl _ (Has.newz _) rfl ?_))
  generalize hw3 : World.setRow _ _ _ = v3
  have hb3 : Below v2.heap.size v2 v3 := by rw [← hw3]; exact below_setRow ((Below.refl _ _).alloc (Nat.le_refl _) _) (Nat.le_refl _) _
  have h4 : Has v3 v2.heap.size (numC m4) 26 := by rw [← hw3]; exact (Has.newz _).row _
  replace h1 := h1.on hb3
  replace hR := hR.on hb3
  replace h3 := h3.on hb3
  replace hbel := hbel.trans (hb3.mono hbel.size)
  clear hw3 hb3
  obtain ⟨b_h4, e_h4⟩ : ∃ x, x = v2.heap.size := ⟨_, rfl⟩
  rw [← e_h4] at h4 q3 ⊢
  clear e_h4
  have N_h4 := Lib.hid q3
  clear q3
  go_wp2_with (first | fail | (with_reducible refine num_load rfl _ rfl _ rfl _ h1 rfl ?_) | (with_reducible refine num_load rfl _ rfl _ rfl _ hR rfl ?_) | (with_reducible refine num_load rfl _ rfl _ rfl _ h3 rfl ?_) | (with_reducible refine num_load rfl _ rfl _ rfl _ h4 rfl ?_))
  refine (KM.out _).mono ?_
  rintro e v4 ⟨rfl, hb4⟩
  replace h1 := h1.on hb4
  replace hR := hR.on hb4
  replace h3 := h3.on hb4
  replace h4 := h4.on hb4
  replace hbel := hbel.trans (hb4.mono hbel.size)
  clear hb4
  go_wp2_with (first | (with_reducible refine num_load rfl _ rfl _ rfl _ h1 rfl ?_) | (with_reducible refine num_load rfl _ rfl _ rfl _ hR rfl ?_) | (with_reducible refine num_load rfl _ rfl _ rfl _ h3 rfl ?_) | (with_reducible refine num_load rfl _ rfl _ rfl _ h4 rfl ?_) | (with_reducible refine num_store rfl _ _ rfl _ _ rfl rfl _ hR rfl ?_))
  exact bodyPost_ret (v := .agg (numC (Nm.big - 1))) (num_results Tryz.results33 _ _ _ rfl (hR.row _)) rfl ⟨_, ⟨(by have := big_pos; omega), HW.out⟩, rfl, below_setRow hbel NR.out.1 _⟩
set_option maxRecDepth 100000 in
set_option maxHeartbeats 2000000 in
theorem rof_main (t : Nat) (ht : t < Nm.big) (m4 : Nat) (KA : Hid (∀ w, Calls Tryz.prog 36 #[.agg (numC t), .agg (numC 1)] w fun e w' => e = .returned (.tuple #[.agg (numC m4), .bool false]) ∧ Below w.heap.size w w')) (hm4 : m4 < Nm.big) (HE4 : Hid (m4 = t + 1 ∧ 0 < t)) (hq : ∀ w, (binOp .eql 26 (.agg (numC t)) (.agg #[.int .u64 0, .int .u64 0, .int .u64 0, .int .u64 0])).run Tryz.prog w = .ok (.bool false) w) (w : World) :
    Calls Tryz.prog 33 #[.agg (numC t)] w fun e w' => ∃ z, (z < Nm.big ∧ z = Nm.work t) ∧ e = .returned (.agg (numC z)) ∧ Below w.heap.size w w' := by
  have KM := Lib.hid rmost
  go_enter Tryz.func33, Tryz.ntmps33
  go_upto_region 1 with fail
  generalize hw0 : World.alloc _ _ = v0
  have hbel : Below w.heap.size w v0 := by rw [← hw0]; exact ((Below.refl _ _).alloc (Nat.le_refl _) _).alloc (by simp) _
  have h1 : Has v0 w.heap.size (numC t) 26 := by rw [← hw0]; exact (Has.new _ _).alloc _
  have hR : Has v0 (w.heap.size + 1) (numC 0) 26 := by rw [← hw0]; exact Has.new1 _ (numC 0) _
  clear hw0
  obtain ⟨b_1, e_1⟩ : ∃ x, x = w.heap.size := ⟨_, rfl⟩
  obtain ⟨b_R, e_R⟩ : ∃ x, x = w.heap.size + 1 := ⟨_, rfl⟩
  rw [← e_R] at hR ⊢
  rw [← e_1] at h1 ⊢
  have NR : Hid (w.heap.size ≤ b_R ∧ b_1 < b_R) := Lib.hid (by omega)
  clear e_1 e_R
  have q1 := hR.lt
  go_upto_region 2 with (first | (with_reducible refine num_load rfl _ rfl _ rfl _ h1 rfl ?_) | (with_reducible refine num_load rfl _ rfl _ rfl _ hR rfl ?_) | (with_reducible refine num_store_eq rfl _ _ rfl _ 1 _ rfl rfl one4w _ (Has.newz _) rfl ?_))
  generalize hw1 : World.setRow _ _ _ = v1
  have hb1 : Below v0.heap.size v0 v1 := by rw [← hw1]; exact below_setRow ((Below.refl _ _).alloc (Nat.le_refl _) _) (Nat.le_refl _) _
  have h3 : Has v1 v0.heap.size (numC 1) 26 := by rw [← hw1]; exact (Has.newz _).row _
  replace h1 := h1.on hb1
  replace hR := hR.on hb1
  replace hbel := hbel.trans (hb1.mono hbel.size)
  clear hw1 hb1
  obtain ⟨b_h3, e_h3⟩ : ∃ x, x = v0.heap.size := ⟨_, rfl⟩
  rw [← e_h3] at h3 q1 ⊢
  clear e_h3
  have N_h3 := Lib.hid q1
  clear q1
  go_wp2_with (first | fail | (with_reducible refine num_load rfl _ rfl _ rfl _ h1 rfl ?_) | (with_reducible refine num_load rfl _ rfl _ rfl _ hR rfl ?_) | (with_reducible refine num_load rfl _ rfl _ rfl _ h3 rfl ?_))
  refine (KA.out _).mono ?_
  rintro e v2 ⟨rfl, hb2⟩
  replace h1 := h1.on hb2
  replace hR := hR.on hb2
  replace h3 := h3.on hb2
  replace hbel := hbel.trans (hb2.mono hbel.size)
  clear hb2
  have q3 := h3.lt
  go_upto_region 3 with (first | (with_reducible refine num_load rfl _ rfl _ rfl _ h1 rfl ?_) | (with_reducible refine num_load rfl _ rfl _ rfl _ hR rfl ?_) | (with_reducible refine num_load rfl _ rfl _ rfl _ h3 rfl ?_) | (with_reducible refine num_store rfl _ _ rfl _ _ rfl rfl _ (Has.newz _) rfl ?_))
  generalize hw3 : World.setRow _ _ _ = v3
  have hb3 : Below v2.heap.size v2 v3 := by rw [← hw3]; exact below_setRow ((Below.refl _ _).alloc (Nat.le_refl _) _) (Nat.le_refl _) _
  have h4 : Has v3 v2.heap.size (numC m4) 26 := by rw [← hw3]; exact (Has.newz _).row _
  replace h1 := h1.on hb3
  replace hR := hR.on hb3
  replace h3 := h3.on hb3
  replace hbel := hbel.trans (hb3.mono hbel.size)
  clear hw3 hb3
  obtain ⟨b_h4, e_h4⟩ : ∃ x, x = v2.heap.size := ⟨_, rfl⟩
  rw [← e_h4] at h4 q3 ⊢
  clear e_h4
  have N_h4 := Lib.hid q3
  clear q3
  have q4 := h4.lt
  go_upto_region 8 with (first | (with_reducible refine num_load rfl _ rfl _ rfl _ h1 rfl ?_) | (with_reducible refine num_load rfl _ rfl _ rfl _ hR rfl ?_) | (with_reducible refine num_load rfl _ rfl _ rfl _ h3 rfl ?_) | (with_reducible refine num_load rfl _ rfl _ rfl _ h4 rfl ?_) | (with_reducible refine num_store_eq rfl _ _ rfl _ 0 _ rfl rfl zero4 _ (Has.newz _) rfl ?_))
  generalize hw4 : World.setRow _ _ _ = v4
  have hb4 : Below v3.heap.size v3 v4 := by rw [← hw4]; exact below_setRow ((Below.refl _ _).alloc (Nat.le_refl _) _) (Nat.le_refl _) _
  have h6 : Has v4 v3.heap.size (numC 0) 26 := by rw [← hw4]; exact (Has.newz _).row _
  replace h1 := h1.on hb4
  replace hR := hR.on hb4
  replace h3 := h3.on hb4
  replace h4 := h4.on hb4
  replace hbel := hbel.trans (hb4.mono hbel.size)
  clear hw4 hb4
  obtain ⟨b_h6, e_h6⟩ : ∃ x, x = v3.heap.size := ⟨_, rfl⟩
  rw [← e_h6] at h6 q4 ⊢
  clear e_h6
  have N_h6 := Lib.hid q4
  clear q4
  go_wp2_with (first | fail | (with_reducible refine num_load rfl _ rfl _ rfl _ h1 rfl ?_) | (with_reducible refine num_load rfl _ rfl _ rfl _ hR rfl ?_) | (with_reducible refine num_load rfl _ rfl _ rfl _ h3 rfl ?_) | (with_reducible refine num_load rfl _ rfl _ rfl _ h4 rfl ?_) | (with_reducible refine num_load rfl _ rfl _ rfl _ h6 rfl ?_))
  refine (KM.out _).mono ?_
  rintro e v5 ⟨rfl, hb5⟩
  replace h1 := h1.on hb5
  replace hR := hR.on hb5
  replace h3 := h3.on hb5
  replace h4 := h4.on hb5
  replace h6 := h6.on hb5
  replace hbel := hbel.trans (hb5.mono hbel.size)
  clear hb5
  have q6 := h6.lt
  go_upto_region 9 with (first | (with_reducible refine num_load rfl _ rfl _ rfl _ h1 rfl ?_) | (with_reducible refine num_load rfl _ rfl _ rfl _ hR rfl ?_) | (with_reducible refine num_load rfl _ rfl _ rfl _ h3 rfl ?_) | (with_reducible refine num_load rfl _ rfl _ rfl _ h4 rfl ?_) | (with_reducible refine num_load rfl _ rfl _ rfl _ h6 rfl ?_) | (with_reducible refine num_store rfl _ _ rfl _ _ rfl rfl _ (Has.newz _) rfl ?_))
  generalize hw6 : World.setRow _ _ _ = v6
  have hb6 : Below v5.heap.size v5 v6 := by rw [← hw6]; exact below_setRow ((Below.refl _ _).alloc (Nat.le_refl _) _) (Nat.le_refl _) _
  have h7 : Has v6 v5.heap.size (numC (Nm.big - 1)) 26 := by rw [← hw6]; exact (Has.newz _).row _
  replace h1 := h1.on hb6
  replace hR := hR.on hb6
  replace h3 := h3.on hb6
  replace h4 := h4.on hb6
  replace h6 := h6.on hb6
  replace hbel := hbel.trans (hb6.mono hbel.size)
  clear hw6 hb6
  obtain ⟨b_h7, e_h7⟩ : ∃ x, x = v5.heap.size := ⟨_, rfl⟩
  rw [← e_h7] at h7 q6 ⊢
  clear e_h7
  have N_h7 := Lib.hid q6
  clear q6
  have ND : Hid (b_1 < b_R ∧ b_R < b_h3 ∧ b_h3 < b_h4 ∧ b_h4 < b_h6 ∧ b_h6 < b_h7 ∧ w.heap.size ≤ b_R) := Lib.hid ⟨NR.out.2, N_h3.out, N_h4.out, N_h6.out, N_h7.out, NR.out.1⟩
  have hs : OfS w v6 b_1 b_R b_h3 b_h4 b_h6 b_h7 t m4 0 (Nm.big - 1) := ⟨hbel, h1, hR, h3, h4, h6, h7⟩
  have HM4 := Lib.hid hm4
  have HTT := Lib.hid ht
  clear hbel h1 hR h3 h4 h6 h7 N_h3 N_h4 N_h6 N_h7 NR hq KA hm4 ht
  go_wp2_with fail
  go_loopw [8] (fun i wr => ∃ (k : Nat) (z : Int) (o r : Nat), k ≤ 256 ∧ i = .int .i64 z ∧ Hid (z = 255 - (k : Int) ∧ o < Nm.big ∧ r < Nm.big ∧ Nm.LD t k o r) ∧ OfS w wr b_1 b_R b_h3 b_h4 b_h6 b_h7 t m4 o r) (fun i _ => ((intOf i) + 1).toNat)
  case atStart => exact ⟨0, 255, 0, Nm.big - 1, by omega, rfl, Lib.hid ⟨by omega, big_pos, by have := big_pos; omega, Nm.LD.start t⟩, hs⟩
  case round =>
    clear hs
    obtain ⟨k, z, o, r, hk, rfl, HZ, hs⟩ := hrel
    obtain ⟨hbel, h1, hR, h3, h4, h6, h7⟩ := hs
    by_cases hlt : k < 256
    · have hz0 : ¬ z < 0 := by have := HZ.out.1; omega
      have hz1 : 0 ≤ z := by omega
      have hz2 : z ≤ 255 := by have := HZ.out.1; omega
      obtain ⟨d, ed, hd, KD0⟩ := move_ex m4 HM4.out z (by omega) (by omega)
      obtain ⟨nz, hnz⟩ : ∃ nz, nz = -z := ⟨_, rfl⟩
      obtain ⟨m2, em2, hm2, KM20⟩ := move_ex d hd nz (by omega) (by omega)
      obtain ⟨s, c, es, hsb, KS0⟩ := sub_ex d 1 hd one_lt
      obtain ⟨r2, c2, er2, hr2, KS20⟩ := sub_ex r d HZ.out.2.2.1 hd
      obtain ⟨m3, em3, hm3, KM30⟩ := move_ex 1 one_lt z (by omega) (by omega)
      obtain ⟨o2, c3, eo2, ho2, KA20⟩ := add_ex o m3 HZ.out.2.1 hm3
      have HX : Hid (((!decide (m2 = m4)) = true → Nm.LD t (k + 1) o r) ∧ ((!decide (m2 = m4)) = false → decide (r < s) = true → Nm.LD t (k + 1) o r) ∧ ((!decide (m2 = m4)) = false → decide (r < s) = false → decide (r2 = Nm.big - 1) = false → Nm.LD t (k + 1) o2 r2) ∧ ((!decide (m2 = m4)) = false → decide (r < s) = false → decide (r2 = Nm.big - 1) = true → o2 = Nm.work t)) := Lib.hid (by
        have e4 := HE4.out.1
        have hm := HM4.out
        subst e4
        rw [hnz] at em2
        exact Nm.LD.step HE4.out.2 hm hlt HZ.out.1 HZ.out.2.2.1 HZ.out.2.2.2 ed em2 es er2 em3 eo2)
      clear ed em2 es er2 em3 eo2
      have KD := Lib.hid KD0
      have KM2 := Lib.hid KM20
      have KS := Lib.hid KS0
      have KS2 := Lib.hid KS20
      have KM3 := Lib.hid KM30
      have KA2 := Lib.hid KA20
      have KL := Lib.hid fun w => ref_less r s HZ.out.2.2.1 hsb w
      have hq2 := fun w => neq_num hm2 HM4.out w
      have hq3 := fun w => eql_num hr2 (show Nm.big - 1 < Nm.big by have := big_pos; omega) w
      have wneg : IntKind.i64.wrap (-z) = nz := by rw [IntKind.wrap_i64]; omega
      obtain ⟨z1, hz3⟩ : ∃ z1, z1 = z - 1 := ⟨_, rfl⟩
      have wsub : IntKind.i64.wrap (z - 1) = z1 := by rw [IntKind.wrap_i64]; omega
      have HZ1 : Hid (z1 = 255 - ((k + 1 : Nat) : Int)) := Lib.hid (by have := HZ.out.1; omega)
      have HO2 := Lib.hid ho2
      have HR2 := Lib.hid hr2
      have HME : Hid (((intOf (.int .i64 z1)) + 1).toNat < ((intOf (.int .i64 z)) + 1).toNat) := Lib.hid (by simp [intOf]; omega)
      generalize hg2 : (!decide (m2 = m4)) = g2 at *
      generalize hg3 : decide (r < s) = g3 at *
      generalize hg4 : decide (r2 = Nm.big - 1) = g4 at *
      clear KD0 KM20 KS0 KS20 KM30 KA20 hnz hz3 hz2 hd hm2 hsb hr2 hm3 ho2 hg2 hg3 hg4
      go_wp2_with (first | fail | (with_reducible refine num_load rfl _ rfl _ rfl _ h1 rfl ?_) | (with_reducible refine num_load rfl _ rfl _ rfl _ hR rfl ?_) | (with_reducible refine num_load rfl _ rfl _ rfl _ h3 rfl ?_) | (with_reducible refine num_load rfl _ rfl _ rfl _ h4 rfl ?_) | (with_reducible refine num_load rfl _ rfl _ rfl _ h6 rfl ?_) | (with_reducible refine num_load rfl _ rfl _ rfl _ h7 rfl ?_))
      refine (KD.out _).mono ?_
      rintro e v21 ⟨rfl, hb21⟩
      replace h1 := h1.on hb21
      replace hR := hR.on hb21
      replace h3 := h3.on hb21
      replace h4 := h4.on hb21
      replace h6 := h6.on hb21
      replace h7 := h7.on hb21
      replace hbel := hbel.trans (hb21.mono hbel.size)
      clear hb21
      have q22 := h7.lt
      go_upto_region 13 with (first | (with_reducible refine num_load rfl _ rfl _ rfl _ h1 rfl ?_) | (with_reducible refine num_load rfl _ rfl _ rfl _ hR rfl ?_) | (with_reducible refine num_load rfl _ rfl _ rfl _ h3 rfl ?_) | (with_reducible refine num_load rfl _ rfl _ rfl _ h4 rfl ?_) | (with_reducible refine num_load rfl _ rfl _ rfl _ h6 rfl ?_) | (with_reducible refine num_load rfl _ rfl _ rfl _ h7 rfl ?_) | (with_reducible refine num_store rfl _ _ rfl _ _ rfl rfl _ (Has.newz _) rfl ?_))
      generalize hw22 : World.setRow _ _ _ = v22
      have hb22 : Below v21.heap.size v21 v22 := by rw [← hw22]; exact below_setRow ((Below.refl _ _).alloc (Nat.le_refl _) _) (Nat.le_refl _) _
      have h9 : Has v22 v21.heap.size (numC d) 26 := by rw [← hw22]; exact (Has.newz _).row _
      replace h1 := h1.on hb22
      replace hR := hR.on hb22
      replace h3 := h3.on hb22
      replace h4 := h4.on hb22
      replace h6 := h6.on hb22
      replace h7 := h7.on hb22
      replace hbel := hbel.trans (hb22.mono hbel.size)
      clear hw22 hb22
      obtain ⟨b_h9, e_h9⟩ : ∃ x, x = v21.heap.size := ⟨_, rfl⟩
      rw [← e_h9] at h9 q22 ⊢
      clear e_h9
      have N_h9 := Lib.hid q22
      clear q22
      simp only [Act.put]
      refine wp_region_quiet_below (by kernel_rfl) (by kernel_rfl) ?_
      repeat (first
        | (go_big_quiet_want; (with_reducible refine quiet_load_num _ rfl _ rfl _ h9.cls ?_); (simp only [Act.put, List.setIfInBounds_toArray, List.set_cons_zero, List.set_cons_succ]); go_big_quiet_on)
        | (go_big_quiet_want; (with_reducible refine quiet_load_num _ rfl _ rfl _ h4.cls ?_); (simp only [Act.put, List.setIfInBounds_toArray, List.set_cons_zero, List.set_cons_succ]); go_big_quiet_on)
        | (go_big_quiet_want; (with_reducible refine quiet_neq 26 _ .neq num_plain _ _ rfl _ _ _ rfl rfl hq2 ?_); (simp only [Act.put, List.setIfInBounds_toArray, List.set_cons_zero, List.set_cons_succ]); go_big_quiet_on)
        | go_big_quiet_step ((go_at_call 46; exact Calls.regrown_of (KM2.out _))))
      refine wpQuiet_nil ?_
      intro v30 hw'
      obtain ⟨rg, hw''⟩ := hw'
      have hb30 : Below v22.heap.size v22 v30 := by rw [hw'']; exact below_regrown v22 rg.d rg.os
      clear hw''
      replace h1 := h1.on hb30
      replace hR := hR.on hb30
      replace h3 := h3.on hb30
      replace h4 := h4.on hb30
      replace h6 := h6.on hb30
      replace h7 := h7.on hb30
      replace h9 := h9.on hb30
      replace hbel := hbel.trans (hb30.mono hbel.size)
      clear hb30 hq2
      cases g2
      case true =>
        go_wp2_with fail
        go_roundw
        case rel => exact ⟨k + 1, z1, o, r, by omega, rfl, Lib.hid ⟨HZ1.out, HZ.out.2.1, HZ.out.2.2.1, HX.out.1 (by simp)⟩, ⟨hbel, h1, hR, h3, h4, h6, h7⟩⟩
        case measure => exact HME.out
      case false =>
        go_wp2_with (first | fail | (with_reducible refine num_load rfl _ rfl _ rfl _ h1 rfl ?_) | (with_reducible refine num_load rfl _ rfl _ rfl _ hR rfl ?_) | (with_reducible refine num_load rfl _ rfl _ rfl _ h3 rfl ?_) | (with_reducible refine num_load rfl _ rfl _ rfl _ h4 rfl ?_) | (with_reducible refine num_load rfl _ rfl _ rfl _ h6 rfl ?_) | (with_reducible refine num_load rfl _ rfl _ rfl _ h7 rfl ?_) | (with_reducible refine num_load rfl _ rfl _ rfl _ h9 rfl ?_))
        refine (KS.out _).mono ?_
        rintro e v31 ⟨rfl, hb31⟩
        replace h1 := h1.on hb31
        replace hR := hR.on hb31
        replace h3 := h3.on hb31
        replace h4 := h4.on hb31
        replace h6 := h6.on hb31
        replace h7 := h7.on hb31
        replace h9 := h9.on hb31
        replace hbel := hbel.trans (hb31.mono hbel.size)
        clear hb31
        have q32 := h9.lt
        go_upto_region 15 with (first | (with_reducible refine num_load rfl _ rfl _ rfl _ h1 rfl ?_) | (with_reducible refine num_load rfl _ rfl _ rfl _ hR rfl ?_) | (with_reducible refine num_load rfl _ rfl _ rfl _ h3 rfl ?_) | (with_reducible refine num_load rfl _ rfl _ rfl _ h4 rfl ?_) | (with_reducible refine num_load rfl _ rfl _ rfl _ h6 rfl ?_) | (with_reducible refine num_load rfl _ rfl _ rfl _ h7 rfl ?_) | (with_reducible refine num_load rfl _ rfl _ rfl _ h9 rfl ?_) | (with_reducible refine num_store rfl _ _ rfl _ _ rfl rfl _ (Has.newz _) rfl ?_))
        generalize hw32 : World.setRow _ _ _ = v32
        have hb32 : Below v31.heap.size v31 v32 := by rw [← hw32]; exact below_setRow ((Below.refl _ _).alloc (Nat.le_refl _) _) (Nat.le_refl _) _
        have h10 : Has v32 v31.heap.size (numC s) 26 := by rw [← hw32]; exact (Has.newz _).row _
        replace h1 := h1.on hb32
        replace hR := hR.on hb32
        replace h3 := h3.on hb32
        replace h4 := h4.on hb32
        replace h6 := h6.on hb32
        replace h7 := h7.on hb32
        replace h9 := h9.on hb32
        replace hbel := hbel.trans (hb32.mono hbel.size)
        clear hw32 hb32
        obtain ⟨b_h10, e_h10⟩ : ∃ x, x = v31.heap.size := ⟨_, rfl⟩
        rw [← e_h10] at h10 q32 ⊢
        clear e_h10
        have N_h10 := Lib.hid q32
        clear q32
        go_wp2_with (first | fail | (with_reducible refine num_load rfl _ rfl _ rfl _ h1 rfl ?_) | (with_reducible refine num_load rfl _ rfl _ rfl _ hR rfl ?_) | (with_reducible refine num_load rfl _ rfl _ rfl _ h3 rfl ?_) | (with_reducible refine num_load rfl _ rfl _ rfl _ h4 rfl ?_) | (with_reducible refine num_load rfl _ rfl _ rfl _ h6 rfl ?_) | (with_reducible refine num_load rfl _ rfl _ rfl _ h7 rfl ?_) | (with_reducible refine num_load rfl _ rfl _ rfl _ h9 rfl ?_) | (with_reducible refine num_load rfl _ rfl _ rfl _ h10 rfl ?_))
        refine (KL.out _).mono ?_
        rintro e v33 ⟨rfl, hb33⟩
        replace h1 := h1.on hb33
        replace hR := hR.on hb33
        replace h3 := h3.on hb33
        replace h4 := h4.on hb33
        replace h6 := h6.on hb33
        replace h7 := h7.on hb33
        replace h9 := h9.on hb33
        replace h10 := h10.on hb33
        replace hbel := hbel.trans (hb33.mono hbel.size)
        clear hb33
        cases g3
        case true =>
          go_wp2_with fail
          go_roundw
          case rel => exact ⟨k + 1, z1, o, r, by omega, rfl, Lib.hid ⟨HZ1.out, HZ.out.2.1, HZ.out.2.2.1, HX.out.2.1 (by simp) (by simp)⟩, ⟨hbel, h1, hR, h3, h4, h6, h7⟩⟩
          case measure => exact HME.out
        case false =>
          go_wp2_with (first | fail | (with_reducible refine num_load rfl _ rfl _ rfl _ h1 rfl ?_) | (with_reducible refine num_load rfl _ rfl _ rfl _ hR rfl ?_) | (with_reducible refine num_load rfl _ rfl _ rfl _ h3 rfl ?_) | (with_reducible refine num_load rfl _ rfl _ rfl _ h4 rfl ?_) | (with_reducible refine num_load rfl _ rfl _ rfl _ h6 rfl ?_) | (with_reducible refine num_load rfl _ rfl _ rfl _ h7 rfl ?_) | (with_reducible refine num_load rfl _ rfl _ rfl _ h9 rfl ?_) | (with_reducible refine num_load rfl _ rfl _ rfl _ h10 rfl ?_))
          refine (KS2.out _).mono ?_
          rintro e v41 ⟨rfl, hb41⟩
          replace h1 := h1.on hb41
          replace hR := hR.on hb41
          replace h3 := h3.on hb41
          replace h4 := h4.on hb41
          replace h6 := h6.on hb41
          replace h7 := h7.on hb41
          replace h9 := h9.on hb41
          replace h10 := h10.on hb41
          replace hbel := hbel.trans (hb41.mono hbel.size)
          clear hb41
          obtain ⟨n1, n2, n3, n4, n5, n6⟩ := ND.out
          have u9 := N_h9.out
          have u10 := N_h10.out
          have h7' := h7
          go_upto_region 17 with (first | (with_reducible refine num_load rfl _ rfl _ rfl _ h1 rfl ?_) | (with_reducible refine num_load rfl _ rfl _ rfl _ hR rfl ?_) | (with_reducible refine num_load rfl _ rfl _ rfl _ h3 rfl ?_) | (with_reducible refine num_load rfl _ rfl _ rfl _ h4 rfl ?_) | (with_reducible refine num_load rfl _ rfl _ rfl _ h6 rfl ?_) | (with_reducible refine num_load rfl _ rfl _ rfl _ h7 rfl ?_) | (with_reducible refine num_load rfl _ rfl _ rfl _ h9 rfl ?_) | (with_reducible refine num_load rfl _ rfl _ rfl _ h10 rfl ?_) | (with_reducible refine num_store rfl _ _ rfl _ _ rfl rfl _ h7' rfl ?_))
          have hbel2 : Below w.heap.size w (v41.setRow b_h7 (numC r2)) := below_setRow hbel (by omega) _
          replace h1 := h1.otherRow b_h7 (numC r2) (by omega)
          replace hR := hR.otherRow b_h7 (numC r2) (by omega)
          replace h3 := h3.otherRow b_h7 (numC r2) (by omega)
          replace h4 := h4.otherRow b_h7 (numC r2) (by omega)
          replace h6 := h6.otherRow b_h7 (numC r2) (by omega)
          replace h7 := h7'.row (numC r2)
          clear h9 h10 h7' hbel
          have hbel := hbel2
          clear hbel2 N_h9 N_h10 u9 u10
          generalize World.setRow _ _ _ = v50 at *
          have hP : OfC w v50 b_1 b_R b_h3 b_h4 b_h7 t m4 r2 := ⟨hbel, h1, hR, h3, h4, h7⟩
          simp only [Act.put]
          clear hbel h1 hR h3 h4 h7 KS2 KL KS KD KM2
          refine wp_region_inv (by kernel_rfl) (fun w' => OfC w w' b_1 b_R b_h3 b_h4 b_h7 t m4 r2) (fun i v' _ => OfR (fun _ => .agg (numC o)) (fun _ => .int .i64 z) (fun _ => .agg (numC m3)) (fun _ => .agg (numC o2)) c3 i v') (fun l _ w' => Ph 8 (fun w' => Has w' b_h6 (numC o) 26) (fun w' => Has w' b_h6 (numC o2) 26) l w') (fun _ _ => True) (fun _ _ => trivial) (fun _ _ _ _ _ _ h => h) (by kernel_rfl) (hP.on (Below.refl _ _).drew) ?_ ?_ ?_
          · exact fun l hl => Ph.zero hl (h6.on (Below.refl _ _).drew)
          · intro i o listed a wx ho' hnl hdep hinv
            have hC := hinv.c
            have hI := hinv.i
            have hi : i < 9 := (Array.getElem?_eq_some_iff.1 ho').1
            obtain rfl | rfl | rfl | rfl | rfl | rfl | rfl | rfl | rfl : i = 0 ∨ i = 1 ∨ i = 2 ∨ i = 3 ∨ i = 4 ∨ i = 5 ∨ i = 6 ∨ i = 7 ∨ i = 8 := by omega
            all_goals obtain rfl := Option.some.inj ho'
            · have hsz : 0 < listed.size := by rw [hinv.size]; decide
              have hnK : (listed.setIfInBounds 0 true).getD 8 false = false := hinv.aheadT 8 (by kernel_rfl) hnl (by decide) (by decide)
              have hpre := hI.pre hnK hsz (by decide)
              exact duty_value (C := (fun w' => OfC w w' b_1 b_R b_h3 b_h4 b_h7 t m4 r2)) (S := (fun _ _ => True)) (R := fun v' _ => OfR (fun _ => .agg (numC o)) (fun _ => .int .i64 z) (fun _ => .agg (numC m3)) (fun _ => .agg (numC o2)) c3 0 v') (J := fun _ w' => Ph 8 (fun w' => Has w' b_h6 (numC o) 26) (fun w' => Has w' b_h6 (numC o2) 26) (listed.setIfInBounds 0 true) w') (fun _ _ => trivial) hC (wanted_free rfl) (ex_load_num rfl (hinv.old' 6 (by kernel_rfl)) hpre) rfl (hI.keep hsz (by decide))
            · have hsz : 1 < listed.size := by rw [hinv.size]; decide
              exact duty_value (C := (fun w' => OfC w w' b_1 b_R b_h3 b_h4 b_h7 t m4 r2)) (S := (fun _ _ => True)) (R := fun v' _ => OfR (fun _ => .agg (numC o)) (fun _ => .int .i64 z) (fun _ => .agg (numC m3)) (fun _ => .agg (numC o2)) c3 1 v') (J := fun _ w' => Ph 8 (fun w' => Has w' b_h6 (numC o) 26) (fun w' => Has w' b_h6 (numC o2) 26) (listed.setIfInBounds 1 true) w') (fun _ _ => trivial) hC (wanted_free rfl) (ex_load_num rfl (hinv.old' 3 (by kernel_rfl)) hC.a3) rfl (hI.keep hsz (by decide))
            · have hsz : 2 < listed.size := by rw [hinv.size]; decide
              exact duty_value (C := (fun w' => OfC w w' b_1 b_R b_h3 b_h4 b_h7 t m4 r2)) (S := (fun _ _ => True)) (R := fun v' _ => OfR (fun _ => .agg (numC o)) (fun _ => .int .i64 z) (fun _ => .agg (numC m3)) (fun _ => .agg (numC o2)) c3 2 v') (J := fun _ w' => Ph 8 (fun w' => Has w' b_h6 (numC o) 26) (fun w' => Has w' b_h6 (numC o2) 26) (listed.setIfInBounds 2 true) w') (fun _ _ => trivial) hC (wanted_free rfl) (NN.ex_move rfl) (hinv.old' 8 (by kernel_rfl)) (hI.keep hsz (by decide))
            · have hsz : 3 < listed.size := by rw [hinv.size]; decide
              have hnK : (listed.setIfInBounds 3 true).getD 8 false = false := hinv.aheadT 8 (by kernel_rfl) hnl (by decide) (by decide)
              have hpre := hI.pre hnK hsz (by decide)
              exact duty_call (C := (fun w' => OfC w w' b_1 b_R b_h3 b_h4 b_h7 t m4 r2)) (S := (fun _ _ => True)) (R := fun v' _ => OfR (fun _ => .agg (numC o)) (fun _ => .int .i64 z) (fun _ => .agg (numC m3)) (fun _ => .agg (numC o2)) c3 3 v') (J := fun _ w' => Ph 8 (fun w' => Has w' b_h6 (numC o) 26) (fun w' => Has w' b_h6 (numC o2) 26) (listed.setIfInBounds 3 true) w') (wanted_free rfl) (f := 46) (args := #[a.eval (.tmp 58), a.eval (.tmp 59)]) (by kernel_rfl) (by rw [show a.eval (.tmp 58) = _ from (hinv.got 1 _ 58 rfl (hdep ⟨1, .data⟩ (by simp) rfl) rfl)]; rw [show a.eval (.tmp 59) = _ from (hinv.got 2 _ 59 rfl (hdep ⟨2, .data⟩ (by simp) rfl) rfl)];  exact KM3.out wx) (fun w' hb => ⟨hC.on hb, trivial, rfl, Ph.made hnK (hpre.on hb)⟩)
            · have hsz : 4 < listed.size := by rw [hinv.size]; decide
              have hnK : (listed.setIfInBounds 4 true).getD 8 false = false := hinv.aheadT 8 (by kernel_rfl) hnl (by decide) (by decide)
              have hpre := hI.pre hnK hsz (by decide)
              exact duty_call (C := (fun w' => OfC w w' b_1 b_R b_h3 b_h4 b_h7 t m4 r2)) (S := (fun _ _ => True)) (R := fun v' _ => OfR (fun _ => .agg (numC o)) (fun _ => .int .i64 z) (fun _ => .agg (numC m3)) (fun _ => .agg (numC o2)) c3 4 v') (J := fun _ w' => Ph 8 (fun w' => Has w' b_h6 (numC o) 26) (fun w' => Has w' b_h6 (numC o2) 26) (listed.setIfInBounds 4 true) w') (wanted_free rfl) (f := 36) (args := #[a.eval (.tmp 57), a.eval (.tmp 60)]) (by kernel_rfl) (by rw [show a.eval (.tmp 57) = _ from (hinv.got 0 _ 57 rfl (hdep ⟨0, .data⟩ (by simp) rfl) rfl)]; rw [show a.eval (.tmp 60) = _ from (hinv.got 3 _ 60 rfl (hdep ⟨3, .data⟩ (by simp) rfl) rfl)];  exact KA2.out wx) (fun w' hb => ⟨hC.on hb, trivial, rfl, Ph.made hnK (hpre.on hb)⟩)
            · have hsz : 5 < listed.size := by rw [hinv.size]; decide
              exact duty_value (C := (fun w' => OfC w w' b_1 b_R b_h3 b_h4 b_h7 t m4 r2)) (S := (fun _ _ => True)) (R := fun v' _ => OfR (fun _ => .agg (numC o)) (fun _ => .int .i64 z) (fun _ => .agg (numC m3)) (fun _ => .agg (numC o2)) c3 5 v') (J := fun _ w' => Ph 8 (fun w' => Has w' b_h6 (numC o) 26) (fun w' => Has w' b_h6 (numC o2) 26) (listed.setIfInBounds 5 true) w') (fun _ _ => trivial) hC (wanted_free rfl) (NN.ex_move rfl) (hinv.got 4 _ 61 rfl (hdep ⟨4, .data⟩ (by simp) rfl) rfl) (hI.keep hsz (by decide))
            · have hsz : 6 < listed.size := by rw [hinv.size]; decide
              exact duty_value (C := (fun w' => OfC w w' b_1 b_R b_h3 b_h4 b_h7 t m4 r2)) (S := (fun _ _ => True)) (R := fun v' _ => OfR (fun _ => .agg (numC o)) (fun _ => .int .i64 z) (fun _ => .agg (numC m3)) (fun _ => .agg (numC o2)) c3 6 v') (J := fun _ w' => Ph 8 (fun w' => Has w' b_h6 (numC o) 26) (fun w' => Has w' b_h6 (numC o2) 26) (listed.setIfInBounds 6 true) w') (fun _ _ => trivial) hC (wanted_free rfl) (ex_extract rfl (hinv.got 5 _ 56 rfl (hdep ⟨5, .data⟩ (by simp) rfl) rfl) rfl) rfl (hI.keep hsz (by decide))
            · have hsz : 7 < listed.size := by rw [hinv.size]; decide
              exact duty_value (C := (fun w' => OfC w w' b_1 b_R b_h3 b_h4 b_h7 t m4 r2)) (S := (fun _ _ => True)) (R := fun v' _ => OfR (fun _ => .agg (numC o)) (fun _ => .int .i64 z) (fun _ => .agg (numC m3)) (fun _ => .agg (numC o2)) c3 7 v') (J := fun _ w' => Ph 8 (fun w' => Has w' b_h6 (numC o) 26) (fun w' => Has w' b_h6 (numC o2) 26) (listed.setIfInBounds 7 true) w') (fun _ _ => trivial) hC (wanted_free rfl) (ex_extract rfl (hinv.got 5 _ 56 rfl (hdep ⟨5, .data⟩ (by simp) rfl) rfl) rfl) rfl (hI.keep hsz (by decide))
            · have hsz : 8 < listed.size := by rw [hinv.size]; decide
              have hR0 := hI.1 hnl
              exact duty_store (C := (fun w' => OfC w w' b_1 b_R b_h3 b_h4 b_h7 t m4 r2)) (S := (fun _ _ => True)) (R := fun v' _ => OfR (fun _ => .agg (numC o)) (fun _ => .int .i64 z) (fun _ => .agg (numC m3)) (fun _ => .agg (numC o2)) c3 8 v') (J := fun _ w' => Ph 8 (fun w' => Has w' b_h6 (numC o) 26) (fun w' => Has w' b_h6 (numC o2) 26) (listed.setIfInBounds 8 true) w') (wanted_free rfl) (ex_store_num rfl (hinv.old' 6 (by kernel_rfl)) (hinv.got 6 _ 62 rfl (hdep ⟨6, .data⟩ (by simp) rfl) rfl) hR0 rfl) (hC.row _ _ (by omega) (by omega) (by omega) (by omega) (by omega) (by omega)) trivial rfl (Ph.last hsz (hR0.row _))
          intro listed a' v51 hall hinv
          obtain ⟨hbel, h1, hR, h3, h4, h7⟩ := hinv.c
          have h6 := hinv.i.2 (hall 8 (by decide))
          have e1 : a'.eval (.tmp 1) = .pointer (some ⟨b_1, 0, none⟩) := hinv.old' 1 (by kernel_rfl)
          have e2 : a'.eval (.tmp 2) = .pointer (some ⟨b_R, 0, none⟩) := hinv.old' 2 (by kernel_rfl)
          have e3 : a'.eval (.tmp 3) = .pointer (some ⟨b_h3, 0, none⟩) := hinv.old' 3 (by kernel_rfl)
          have e4 : a'.eval (.tmp 4) = .pointer (some ⟨b_h4, 0, none⟩) := hinv.old' 4 (by kernel_rfl)
          have e6 : a'.eval (.tmp 6) = .pointer (some ⟨b_h6, 0, none⟩) := hinv.old' 6 (by kernel_rfl)
          have e7 : a'.eval (.tmp 7) = .pointer (some ⟨b_h7, 0, none⟩) := hinv.old' 7 (by kernel_rfl)
          have e8 : a'.eval (.tmp 8) = .int .i64 z := hinv.old' 8 (by kernel_rfl)
          have e0 : a'.eval (.tmp 0) = .agg (numC t) := hinv.old' 0 (by kernel_rfl)
          have e5 : a'.eval (.tmp 5) = .bool false := hinv.old' 5 (by kernel_rfl)
          have e12 : a'.eval (.tmp 12) = .agg #[.int .u64 1, .int .u64 0, .int .u64 0, .int .u64 0] := hinv.old' 12 (by kernel_rfl)
          have e13 : a'.eval (.tmp 13) = .tuple #[.agg (numC m4), .bool false] := hinv.old' 13 (by kernel_rfl)
          have e14 : a'.eval (.tmp 14) = .agg (numC t) := hinv.old' 14 (by kernel_rfl)
          have e15 : a'.eval (.tmp 15) = .agg (numC 1) := hinv.old' 15 (by kernel_rfl)
          have e16 : a'.eval (.tmp 16) = .tuple #[.agg (numC m4), .bool false] := hinv.old' 16 (by kernel_rfl)
          have e17 : a'.eval (.tmp 17) = .agg (numC m4) := hinv.old' 17 (by kernel_rfl)
          have e18 : a'.eval (.tmp 18) = .bool false := hinv.old' 18 (by kernel_rfl)
          have e19 : a'.eval (.tmp 19) = .bool false := hinv.old' 19 (by kernel_rfl)
          have e20 : a'.eval (.tmp 20) = undef := hinv.old' 20 (by kernel_rfl)
          have e21 : a'.eval (.tmp 21) = .agg (numC t) := hinv.old' 21 (by kernel_rfl)
          have e22 : a'.eval (.tmp 22) = .agg #[.int .u64 0, .int .u64 0, .int .u64 0, .int .u64 0] := hinv.old' 22 (by kernel_rfl)
          have e23 : a'.eval (.tmp 23) = .bool false := hinv.old' 23 (by kernel_rfl)
          have e24 : a'.eval (.tmp 24) = undef := hinv.old' 24 (by kernel_rfl)
          have e25 : a'.eval (.tmp 25) = .agg #[.int .u64 0, .int .u64 0, .int .u64 0, .int .u64 0] := hinv.old' 25 (by kernel_rfl)
          have e26 : a'.eval (.tmp 26) = .agg (numC (Nm.big - 1)) := hinv.old' 26 (by kernel_rfl)
          have e68 : a'.eval (.tmp 68) = undef := hinv.old' 68 (by kernel_rfl)
          have e69 : a'.eval (.tmp 69) = undef := hinv.old' 69 (by kernel_rfl)
          have e70 : a'.eval (.tmp 70) = undef := hinv.old' 70 (by kernel_rfl)
          have e71 : a'.eval (.tmp 71) = undef := hinv.old' 71 (by kernel_rfl)
          have e72 : a'.eval (.tmp 72) = undef := hinv.old' 72 (by kernel_rfl)
          have e73 : a'.eval (.tmp 73) = undef := hinv.old' 73 (by kernel_rfl)
          have e74 : a'.eval (.tmp 74) = undef := hinv.old' 74 (by kernel_rfl)
          have e75 : a'.eval (.tmp 75) = undef := hinv.old' 75 (by kernel_rfl)
          have e76 : a'.eval (.tmp 76) = undef := hinv.old' 76 (by kernel_rfl)
          have e77 : a'.eval (.tmp 77) = undef := hinv.old' 77 (by kernel_rfl)
          have e78 : a'.eval (.tmp 78) = undef := hinv.old' 78 (by kernel_rfl)
          clear hP
          obtain ⟨u, hu⟩ : ∃ u : Nat → Value, ∀ t, u t = a'.eval (.tmp t) := ⟨_, fun _ => rfl⟩
          rw [rl_frame a' 79 u hinv.tsize hinv.defers hu]
          rw [← hu] at e1 e2 e3 e4 e6 e7 e8 e0 e5 e12 e13 e14 e15 e16 e17 e18 e19 e20 e21 e22 e23 e24 e25 e26 e68 e69 e70 e71 e72 e73 e74 e75 e76 e77 e78
          clear hu hinv hall
          show Exit.then _ _ _ (⟨#[u 0, u 1, u 2, u 3, u 4, u 5, u 6, u 7, u 8, u 9, u 10, u 11, u 12, u 13, u 14, u 15, u 16, u 17, u 18, u 19, u 20, u 21, u 22, u 23, u 24, u 25, u 26, u 27, u 28, u 29, u 30, u 31, u 32, u 33, u 34, u 35, u 36, u 37, u 38, u 39, u 40, u 41, u 42, u 43, u 44, u 45, u 46, u 47, u 48, u 49, u 50, u 51, u 52, u 53, u 54, u 55, u 56, u 57, u 58, u 59, u 60, u 61, u 62, u 63, u 64, u 65, u 66, u 67, u 68, u 69, u 70, u 71, u 72, u 73, u 74, u 75, u 76, u 77, u 78], []⟩ : Act) v51
          rw [e1, e2, e3, e4, e6, e7, e8, e0, e5, e12, e13, e14, e15, e16, e17, e18, e19, e20, e21, e22, e23, e24, e25, e26, e68, e69, e70, e71, e72, e73, e74, e75, e76, e77, e78]
          clear e1 e2 e3 e4 e6 e7 e8 e0 e5 e12 e13 e14 e15 e16 e17 e18 e19 e20 e21 e22 e23 e24 e25 e26 e68 e69 e70 e71 e72 e73 e74 e75 e76 e77 e78
          clear n1 n2 n3 n4 n5 n6
          go_upto_region 18 with fail
          refine wp_region_quiet_below (by kernel_rfl) (by kernel_rfl) ?_
          repeat (first
            | (go_big_quiet_want; (with_reducible refine quiet_load_num _ rfl _ rfl _ h7.cls ?_); (simp only [Act.put, List.setIfInBounds_toArray, List.set_cons_zero, List.set_cons_succ]); go_big_quiet_on)
            | (go_big_quiet_want; (with_reducible refine quiet_neq 26 _ .eql num_plain _ _ rfl _ _ _ rfl rfl hq3 ?_); (simp only [Act.put, List.setIfInBounds_toArray, List.set_cons_zero, List.set_cons_succ]); go_big_quiet_on)
            | go_big_quiet_step ((go_at_call 37; exact Calls.regrown_of (KM.out _))))
          refine wpQuiet_nil ?_
          intro v52 hw'
          obtain ⟨rg, hw''⟩ := hw'
          have hb52 : Below v51.heap.size v51 v52 := by rw [hw'']; exact below_regrown v51 rg.d rg.os
          clear hw''
          replace h1 := h1.on hb52
          replace hR := hR.on hb52
          replace h3 := h3.on hb52
          replace h4 := h4.on hb52
          replace h6 := h6.on hb52
          replace h7 := h7.on hb52
          replace hbel := hbel.trans (hb52.mono hbel.size)
          clear hb52 hq3
          cases g4
          case false =>
            go_wp2_with fail
            go_roundw
            case rel => (repeat (apply Exists.intro (α := Value))); exact ⟨k + 1, z1, o2, r2, by omega, rfl, Lib.hid ⟨HZ1.out, HO2.out, HR2.out, HX.out.2.2.1 (by simp) (by simp) (by simp)⟩, ⟨hbel, h1, hR, h3, h4, h6, h7⟩⟩
            case measure => exact HME.out
          case true =>
            have NR : Hid (w.heap.size ≤ b_R ∧ b_1 < b_R) := Lib.hid ⟨ND.out.2.2.2.2.2, ND.out.1⟩
            go_wp2_with (first | (with_reducible refine num_load rfl _ rfl _ rfl _ h1 rfl ?_) | (with_reducible refine num_load rfl _ rfl _ rfl _ hR rfl ?_) | (with_reducible refine num_load rfl _ rfl _ rfl _ h3 rfl ?_) | (with_reducible refine num_load rfl _ rfl _ rfl _ h4 rfl ?_) | (with_reducible refine num_load rfl _ rfl _ rfl _ h6 rfl ?_) | (with_reducible refine num_load rfl _ rfl _ rfl _ h7 rfl ?_) | (with_reducible refine num_store rfl _ _ rfl _ _ rfl rfl _ hR rfl ?_))
            exact bodyPost_ret (v := .agg (numC (o2))) (num_results Tryz.results33 _ _ _ rfl (hR.row _)) rfl ⟨_, ⟨HO2.out, HX.out.2.2.2 (by simp) (by simp) (by simp)⟩, rfl, below_setRow hbel NR.out.1 _⟩
    · have hz0 : z < 0 := by have := HZ.out.1; omega
      have NR : Hid (w.heap.size ≤ b_R ∧ b_1 < b_R) := Lib.hid ⟨ND.out.2.2.2.2.2, ND.out.1⟩
      have KL := Lib.hid fun w => ref_less r t HZ.out.2.2.1 HTT.out w
      obtain ⟨o2, c3, eo2, ho2, KA20⟩ := add_ex o 1 HZ.out.2.1 one_lt
      have hk6 : k = 256 := by omega
      have HY : Hid ((decide (r < t) = true → o = Nm.work t) ∧ (decide (r < t) = false → o2 = Nm.work t)) := Lib.hid (by
        have := Nm.LD.last HE4.out.2 (hk6 ▸ HZ.out.2.2.2)
        rwa [← eo2] at this)
      clear eo2 hk6
      have KA2 := Lib.hid KA20
      have HO2 := Lib.hid ho2
      generalize hg3 : decide (r < t) = g3 at *
      clear KA20 ho2 hg3
      go_wp2_with (first | fail | (with_reducible refine num_load rfl _ rfl _ rfl _ h1 rfl ?_) | (with_reducible refine num_load rfl _ rfl _ rfl _ hR rfl ?_) | (with_reducible refine num_load rfl _ rfl _ rfl _ h3 rfl ?_) | (with_reducible refine num_load rfl _ rfl _ rfl _ h4 rfl ?_) | (with_reducible refine num_load rfl _ rfl _ rfl _ h6 rfl ?_) | (with_reducible refine num_load rfl _ rfl _ rfl _ h7 rfl ?_))
      refine (KL.out _).mono ?_
      rintro e v71 ⟨rfl, hb71⟩
      replace h1 := h1.on hb71
      replace hR := hR.on hb71
      replace h3 := h3.on hb71
      replace h4 := h4.on hb71
      replace h6 := h6.on hb71
      replace h7 := h7.on hb71
      replace hbel := hbel.trans (hb71.mono hbel.size)
      clear hb71
      cases g3
      case true =>
        go_wp2_with (first | (with_reducible refine num_load rfl _ rfl _ rfl _ h1 rfl ?_) | (with_reducible refine num_load rfl _ rfl _ rfl _ hR rfl ?_) | (with_reducible refine num_load rfl _ rfl _ rfl _ h3 rfl ?_) | (with_reducible refine num_load rfl _ rfl _ rfl _ h4 rfl ?_) | (with_reducible refine num_load rfl _ rfl _ rfl _ h6 rfl ?_) | (with_reducible refine num_load rfl _ rfl _ rfl _ h7 rfl ?_) | (with_reducible refine num_store rfl _ _ rfl _ _ rfl rfl _ hR rfl ?_))
        exact bodyPost_ret (v := .agg (numC (o))) (num_results Tryz.results33 _ _ _ rfl (hR.row _)) rfl ⟨_, ⟨HZ.out.2.1, HY.out.1 (by simp)⟩, rfl, below_setRow hbel NR.out.1 _⟩
      case false =>
        go_wp2_with (first | fail | (with_reducible refine num_load rfl _ rfl _ rfl _ h1 rfl ?_) | (with_reducible refine num_load rfl _ rfl _ rfl _ hR rfl ?_) | (with_reducible refine num_load rfl _ rfl _ rfl _ h3 rfl ?_) | (with_reducible refine num_load rfl _ rfl _ rfl _ h4 rfl ?_) | (with_reducible refine num_load rfl _ rfl _ rfl _ h6 rfl ?_) | (with_reducible refine num_load rfl _ rfl _ rfl _ h7 rfl ?_))
        refine (KA2.out _).mono ?_
        rintro e v81 ⟨rfl, hb81⟩
        replace h1 := h1.on hb81
        replace hR := hR.on hb81
        replace h3 := h3.on hb81
        replace h4 := h4.on hb81
        replace h6 := h6.on hb81
        replace h7 := h7.on hb81
        replace hbel := hbel.trans (hb81.mono hbel.size)
        clear hb81
        obtain ⟨n1, n2, n3, n4, n5, n6⟩ := ND.out
        have h6' := h6
        go_upto_region 22 with (first | (with_reducible refine num_load rfl _ rfl _ rfl _ h1 rfl ?_) | (with_reducible refine num_load rfl _ rfl _ rfl _ hR rfl ?_) | (with_reducible refine num_load rfl _ rfl _ rfl _ h3 rfl ?_) | (with_reducible refine num_load rfl _ rfl _ rfl _ h4 rfl ?_) | (with_reducible refine num_load rfl _ rfl _ rfl _ h6 rfl ?_) | (with_reducible refine num_load rfl _ rfl _ rfl _ h7 rfl ?_) | (with_reducible refine num_store rfl _ _ rfl _ _ rfl rfl _ h6' rfl ?_))
        have hbel2 : Below w.heap.size w (v81.setRow b_h6 (numC o2)) := below_setRow hbel (by omega) _
        replace hR := hR.otherRow b_h6 (numC o2) (by omega)
        replace h6 := h6'.row (numC o2)
        clear h6' hbel h1 h3 h4 h7
        have hbel := hbel2
        clear hbel2
        generalize World.setRow _ _ _ = v90 at *
        go_wp2_with (first | (with_reducible refine num_load rfl _ rfl _ rfl _ hR rfl ?_) | (with_reducible refine num_load rfl _ rfl _ rfl _ h6 rfl ?_) | (with_reducible refine num_store rfl _ _ rfl _ _ rfl rfl _ hR rfl ?_))
        exact bodyPost_ret (v := .agg (numC (o2))) (num_results Tryz.results33 _ _ _ rfl (hR.row _)) rfl ⟨_, ⟨HO2.out, HY.out.2 (by simp)⟩, rfl, below_setRow hbel NR.out.1 _⟩
end Go.Proofs.YthcebnfdapcllaaGreatDoor.NN
namespace Go.Proofs.YthcebnfdapcllaaGreatDoor.NN
open Go.RowKit Rg2 An
def NumW (f : FuncId) (args : Array Value) (x : Nat) : Prop := ∀ w, Calls Tryz.prog f args w fun e w' => ∃ z, (z < Nm.big ∧ z = x) ∧ e = .returned (.agg (numC z)) ∧ Below w.heap.size w w'
theorem rof_any (t : Nat) (ht : t < Nm.big) : NumW 33 #[.agg (numC t)] (Nm.work t) := by
  intro w
  cases h : decide (Nm.big ≤ t + 1)
  · cases h0 : decide (t = 0)
    · have h1 := of_decide_eq_false h
      have h2 := of_decide_eq_false h0
      exact rof_main t ht _ (Lib.hid fun w => ref_add_z t 1 ht one_lt _ _ rfl h.symm w) (Nat.mod_lt _ big_pos) (Lib.hid ⟨Nat.mod_eq_of_lt (by omega), by omega⟩) (fun w => eql_zero t ht _ h0 w) w
    · have h2 := of_decide_eq_true h0
      exact rof_zero t _ (Lib.hid fun w => ref_add_z t 1 ht one_lt _ _ rfl h.symm w) (Lib.hid (by rw [h2, Nm.work_zero])) (fun w => eql_zero t ht _ h0 w) w
  · have h1 := of_decide_eq_true h
    exact rof_over t _ (Lib.hid fun w => ref_add_z t 1 ht one_lt _ _ rfl h.symm w) (Lib.hid (Nm.work_top (by omega)).symm) w
theorem decode_ex (b : Int) : ∃ z lo ov, ofBits b = (if (lo || ov || decide (z = 0)) = true then 0 else Nm.work z) ∧ z < Nm.big ∧ ∀ w, Calls Tryz.prog 32 #[.int .i64 b] w fun e w' => e = .returned (.tuple #[.agg (numC z), .bool lo, .bool ov]) ∧ Below w.heap.size w w' := by
  by_cases h : 0 ≤ b ∧ b ≤ 4294967295
  · obtain ⟨n, rfl⟩ : ∃ n : Nat, b = (n : Int) := ⟨b.toNat, by omega⟩
    exact ⟨_, _, _, by unfold ofBits; rw [if_pos h, Int.toNat_natCast], Nm.decN_lt, fun w => ref_decode_yes n (by omega) w⟩
  · exact ⟨0, false, false, by unfold ofBits; rw [if_neg h]; rfl, big_pos, fun w => ref_decode_no b h w⟩
set_option maxRecDepth 100000 in
set_option maxHeartbeats 2000000 in
theorem robits_any (b : Int) : NumW 17 #[.int .i64 b] (ofBits b) := by
  intro w
  obtain ⟨z, lo, ov, he0, hz, KD0⟩ := decode_ex b
  have KD := Lib.hid KD0
  have KO := Lib.hid (rof_any z hz)
  obtain ⟨g, hg⟩ : ∃ g, decide (z = 0) = g := ⟨_, rfl⟩
  have hq := fun w => eql_zero z hz g hg w
  have HZ := Lib.hid hz
  rw [hg] at he0
  obtain ⟨X, hX⟩ : ∃ X, X = ofBits b := ⟨_, rfl⟩
  rw [← hX] at he0 ⊢
  have HE := Lib.hid he0
  clear KD0 hz hg he0 hX
  go_enter Tryz.func17, Tryz.ntmps17
  go_upto_region 1 with fail
  generalize hw0 : World.alloc _ _ = v0
  have hbel : Below w.heap.size w v0 := by rw [← hw0]; exact (Below.refl _ _).alloc (Nat.le_refl _) _
  have hR : Has v0 w.heap.size (numC 0) 26 := by rw [← hw0]; exact Has.newz _
  clear hw0
  obtain ⟨b_R, e_R⟩ : ∃ x, x = w.heap.size := ⟨_, rfl⟩
  have NR : Hid (w.heap.size ≤ b_R) := Lib.hid (by omega)
  rw [← e_R] at hR ⊢
  clear e_R
  go_wp2_with (first | fail | (with_reducible refine num_load rfl _ rfl _ rfl _ hR rfl ?_))
  refine (KD.out _).mono ?_
  rintro e v1 ⟨rfl, hb1⟩
  replace hR := hR.on hb1
  replace hbel := hbel.trans (hb1.mono hbel.size)
  clear hb1
  have q2 := hR.lt
  go_upto_region 2 with (first | (with_reducible refine num_load rfl _ rfl _ rfl _ hR rfl ?_) | (with_reducible refine num_store rfl _ _ rfl _ _ rfl rfl _ (Has.newz _) rfl ?_))
  generalize hw2 : World.setRow _ _ _ = v2
  have hb2 : Below v1.heap.size v1 v2 := by rw [← hw2]; exact below_setRow ((Below.refl _ _).alloc (Nat.le_refl _) _) (Nat.le_refl _) _
  have h3 : Has v2 v1.heap.size (numC z) 26 := by rw [← hw2]; exact (Has.newz _).row _
  replace hR := hR.on hb2
  replace hbel := hbel.trans (hb2.mono hbel.size)
  clear hw2 hb2
  obtain ⟨b_h3, e_h3⟩ : ∃ x, x = v1.heap.size := ⟨_, rfl⟩
  rw [← e_h3] at h3 q2 ⊢
  clear e_h3
  have N_h3 := Lib.hid q2
  clear q2
  cases lo
  case true =>
    go_wp2_with (first | (with_reducible refine num_load rfl _ rfl _ rfl _ hR rfl ?_) | (with_reducible refine num_load rfl _ rfl _ rfl _ h3 rfl ?_) | (with_reducible refine num_load_g (by with_unfolding_all rfl) _ rfl _ rfl _ hR rfl ?_) | (with_reducible refine num_load_g (by with_unfolding_all rfl) _ rfl _ rfl _ h3 rfl ?_) | (with_reducible refine num_store_eq rfl _ _ rfl _ 0 _ rfl rfl zero4 _ hR rfl ?_))
    exact bodyPost_ret (v := .agg (numC 0)) (num_results Tryz.results17 _ _ _ rfl (hR.row _)) rfl ⟨_, ⟨big_pos, by have := HE.out; simpa using this.symm⟩, rfl, below_setRow hbel NR.out _⟩
  case false =>
    cases ov
    case true =>
      go_wp2_with (first | (with_reducible refine num_load rfl _ rfl _ rfl _ hR rfl ?_) | (with_reducible refine num_load rfl _ rfl _ rfl _ h3 rfl ?_) | (with_reducible refine num_load_g (by with_unfolding_all rfl) _ rfl _ rfl _ hR rfl ?_) | (with_reducible refine num_load_g (by with_unfolding_all rfl) _ rfl _ rfl _ h3 rfl ?_) | (with_reducible refine num_store_eq rfl _ _ rfl _ 0 _ rfl rfl zero4 _ hR rfl ?_))
      exact bodyPost_ret (v := .agg (numC 0)) (num_results Tryz.results17 _ _ _ rfl (hR.row _)) rfl ⟨_, ⟨big_pos, by have := HE.out; simpa using this.symm⟩, rfl, below_setRow hbel NR.out _⟩
    case false =>
      cases g
      case true =>
        go_wp2_with (first | (with_reducible refine num_load rfl _ rfl _ rfl _ hR rfl ?_) | (with_reducible refine num_load rfl _ rfl _ rfl _ h3 rfl ?_) | (with_reducible refine num_load_g (by with_unfolding_all rfl) _ rfl _ rfl _ hR rfl ?_) | (with_reducible refine num_load_g (by with_unfolding_all rfl) _ rfl _ rfl _ h3 rfl ?_) | (with_reducible refine num_store_eq rfl _ _ rfl _ 0 _ rfl rfl zero4 _ hR rfl ?_))
        exact bodyPost_ret (v := .agg (numC 0)) (num_results Tryz.results17 _ _ _ rfl (hR.row _)) rfl ⟨_, ⟨big_pos, by have := HE.out; simpa using this.symm⟩, rfl, below_setRow hbel NR.out _⟩
      case false =>
        go_wp2_with (first | fail | (with_reducible refine num_load rfl _ rfl _ rfl _ hR rfl ?_) | (with_reducible refine num_load rfl _ rfl _ rfl _ h3 rfl ?_) | (with_reducible refine num_load_g (by with_unfolding_all rfl) _ rfl _ rfl _ hR rfl ?_) | (with_reducible refine num_load_g (by with_unfolding_all rfl) _ rfl _ rfl _ h3 rfl ?_))
        refine (KO.out _).mono ?_
        rintro e v9 ⟨y, hy, rfl, hb9⟩
        have HY := Lib.hid hy
        clear hy
        replace hR := hR.on hb9
        replace h3 := h3.on hb9
        replace hbel := hbel.trans (hb9.mono hbel.size)
        clear hb9
        go_wp2_with (first | (with_reducible refine num_load rfl _ rfl _ rfl _ hR rfl ?_) | (with_reducible refine num_load rfl _ rfl _ rfl _ h3 rfl ?_) | (with_reducible refine num_store rfl _ _ rfl _ _ rfl rfl _ hR rfl ?_))
        exact bodyPost_ret (v := .agg (numC y)) (num_results Tryz.results17 _ _ _ rfl (hR.row _)) rfl ⟨_, ⟨HY.out.1, by have := HE.out; rw [HY.out.2]; simpa using this.symm⟩, rfl, below_setRow hbel NR.out _⟩
end Go.Proofs.YthcebnfdapcllaaGreatDoor.NN
