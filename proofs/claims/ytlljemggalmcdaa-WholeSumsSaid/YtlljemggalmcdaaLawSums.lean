import Derived.Test.YtlljemggalmcdaaWAlive
import Derived.Test.YtlljemggalmcdaaWNot
import Derived.Test.YtlljemggalmcdaaWSum
import Derived.Test.YtlljemggalmcdaaWSub
import Derived.Test.YtlljemggalmcdaaRefSub
namespace Go.Proofs.Ytlljemggalmcdaa
open Go.RowKit
theorem build3 (x y z : Nat) (w : World) : (Instr.buildSlice 54 3 #[(0, .agg (numC x)), (1, .agg (numC y)), (2, .agg (numC z))]).run Try.prog w = .ok (.slice (some ⟨w.heap.size, 0, none⟩) 3 3) (w.alloc (.cells (numRow [x, y, z]) 24)) := by kernel_rfl
theorem build_num3 {ops : Array Oper} {rest : List Oper} {o : Oper} {a : Act} {w : World} {Q : Exit → Act → World → Prop} (hgd : o.guard = none) (p0 p1 p2 : Operand) (ho : o.op = .buildSlice 54 3 #[(0, p0), (1, p1), (2, p2)]) (x y z : Nat) (h0 : a.eval p0 = .agg (numC x)) (h1 : a.eval p1 = .agg (numC y)) (h2 : a.eval p2 = .agg (numC z))
    (h : wpList Try.prog ops Q rest (a.put o.dst (.slice (some ⟨w.heap.size, 0, none⟩) 3 3)) (w.alloc (.cells (numRow [x, y, z]) 24))) : wpList Try.prog ops Q (o :: rest) a w :=
  wpList_plain hgd fun _ hK => by
    have := build3 x y z w
    have he : (execOp a.eval o).run Try.prog w = .ok (.value (.slice (some ⟨w.heap.size, 0, none⟩) 3 3)) (w.alloc (.cells (numRow [x, y, z]) 24)) := by
      unfold execOp
      simp only [ho, Sem.run_bind]
      rw [show (#[(0, p0), (1, p1), (2, p2)] : Array (Nat × Operand)).map (fun (i, x) => (i, a.eval x)) = #[(0, .agg (numC x)), (1, .agg (numC y)), (2, .agg (numC z))] by simp [h0, h1, h2]]
      rw [this]; rfl
    unfold Oper.wp
    rw [he]
    exact hK _ _ h
theorem sum3 (x y z : Nat) (hx : x < Nm.big) : sumTo [x, y, z] 3 = ((x + y) % Nm.big + z) % Nm.big := by
  simp [sumTo, item, Nat.mod_eq_of_lt hx]
theorem over3 (x y z : Nat) (hx : x < Nm.big) : overTo [x, y, z] 3 = (decide (Nm.big ≤ x + y) || decide (Nm.big ≤ (x + y) % Nm.big + z)) := by
  have h : ¬ Nm.big ≤ x := by omega
  simp [overTo, sumTo, item, Nat.mod_eq_of_lt hx, h]
theorem eql_same (z : Nat) (w : World) : (binOp .eql 24 (.agg (numC z)) (.agg (numC z))).run Try.prog w = .ok (.bool true) w := by
  rw [numC_wds, run_eql_ints w .u64 24 22 4 Try.underlying24 Try.underlying22 wordSize _ _ rfl rfl]; simp
theorem back_sum {x y : Nat} (hx : x < Nm.big) (hy : y < Nm.big) : ((x + y) % Nm.big + Nm.big - y) % Nm.big = x := by
  rcases Nat.lt_or_ge (x + y) Nm.big with h | h
  · rw [Nat.mod_eq_of_lt h, show x + y + Nm.big - y = x + Nm.big by omega, Nat.add_mod_right, Nat.mod_eq_of_lt hx]
  · have e : (x + y) % Nm.big = x + y - Nm.big := by rw [Nat.mod_eq_sub_mod h, Nat.mod_eq_of_lt (by omega)]
    rw [e, show x + y - Nm.big + Nm.big - y = x by omega, Nat.mod_eq_of_lt hx]
set_option maxRecDepth 100000 in
set_option maxHeartbeats 1000000 in
theorem sums_walk (x y z : Nat) (hx : x < Nm.big) (hy : y < Nm.big) (hz : z < Nm.big) (w : World) :
    Calls Try.prog 3 #[.agg (numC x), .agg (numC y), .agg (numC z)] w fun e w' => e = .returned (.bool true) ∧ Below w.heap.size w w' := by
  obtain ⟨s, hs⟩ : ∃ s, s = (x + y) % Nm.big := ⟨_, rfl⟩
  obtain ⟨d, hd⟩ : ∃ d, d = (x + Nm.big - y) % Nm.big := ⟨_, rfl⟩
  obtain ⟨o, ho⟩ : ∃ o, o = decide (Nm.big ≤ x + y) := ⟨_, rfl⟩
  obtain ⟨u, hu⟩ : ∃ u, u = decide (x < y) := ⟨_, rfl⟩
  obtain ⟨t, ht⟩ : ∃ t, t = (s + z) % Nm.big := ⟨_, rfl⟩
  obtain ⟨p, hp⟩ : ∃ p, p = decide (Nm.big ≤ s + z) := ⟨_, rfl⟩
  obtain ⟨n, hn⟩ : ∃ n, n = Nm.big - 1 - x := ⟨_, rfl⟩
  have hsl : s < Nm.big := by rw [hs]; exact Nat.mod_lt _ (show 0 < Nm.big by decide)
  have cAdd := fun w => add x y hx hy w
  have cRAdd := fun w => ref_add x y hx hy w
  have cSub := fun w => sub x y hx hy w
  have cRSub := fun w => ref_sub x y hx hy w
  have cSum := fun b w h => sum b [x, y, z] (by simp; exact ⟨hx, hy, hz⟩) 3 rfl (by omega) w h
  have cRAdd2 := fun w => ref_add s z hsl hz w
  have cSub2 := fun w => sub s y hsl hy w
  have cNot := fun w => not x hx w
  have cRNot := fun w => ref_not x hx w
  rw [sum3 x y z hx, over3 x y z hx] at cSum
  have e2 : (s + Nm.big - y) % Nm.big = x := by rw [hs]; exact back_sum hx hy
  have e3 : ∃ q, q = decide (s < y) := ⟨_, rfl⟩
  obtain ⟨q, hq⟩ := e3
  rw [← hs] at cAdd cRAdd cSum
  rw [← ho] at cAdd cRAdd cSum
  rw [← hd, ← hu] at cSub cRSub
  rw [← ht, ← hp] at cSum cRAdd2
  obtain ⟨r, hr⟩ : ∃ r, r = (o || p) := ⟨_, rfl⟩
  rw [← hr] at cSum
  have HRR := Lib.hid hr
  clear hr
  rw [e2, ← hq] at cSub2
  rw [← hn] at cNot cRNot
  clear hs hd ho hu ht hp hn hsl e2 hq hx hy hz
  have KAdd := Lib.hid cAdd
  have KRAdd := Lib.hid cRAdd
  have KSub := Lib.hid cSub
  have KRSub := Lib.hid cRSub
  have KSum := Lib.hid cSum
  have KRAdd2 := Lib.hid cRAdd2
  have KSub2 := Lib.hid cSub2
  have KNot := Lib.hid cNot
  have KRNot := Lib.hid cRNot
  clear cAdd cRAdd cSub cRSub cSum cRAdd2 cSub2 cNot cRNot
  go_enter Try.func3, Try.ntmps3
  go_upto_region 1 with fail
  generalize hw1 : World.alloc _ _ = w1
  have hbel : Below w.heap.size w w1 := by rw [← hw1]; exact (((Below.refl _ _).alloc (Nat.le_refl _) _).alloc (by simp) _).alloc (by simp; omega) _
  have hA : Has w1 w.heap.size (numC x) 24 := by rw [← hw1]; exact ((Has.new _ _).alloc _).alloc _
  have hB : Has w1 (w.heap.size + 1) (numC y) 24 := by rw [← hw1]; exact (Has.new1 _ _ _).alloc _
  have hC : Has w1 (w.heap.size + 1 + 1) (numC z) 24 := by rw [← hw1]; exact Has.new2 _ _ _ _
  clear hw1
  generalize w.heap.size + 1 + 1 = b_C at hC ⊢
  generalize w.heap.size + 1 = b_B at hB ⊢
  generalize w.heap.size = b_A at hA ⊢
  go_wp2_with (first | fail | (with_reducible refine num_load rfl _ rfl _ rfl _ hA rfl ?_) | (with_reducible refine num_load rfl _ rfl _ rfl _ hB rfl ?_) | (with_reducible refine num_load rfl _ rfl _ rfl _ hC rfl ?_))
  refine (alive _).mono ?_
  rintro e v1 ⟨rfl, hb1⟩
  replace hA := hA.on hb1
  replace hB := hB.on hb1
  replace hC := hC.on hb1
  replace hbel := hbel.trans (hb1.mono hbel.size)
  clear hb1
  go_wp2_with (first | fail | (with_reducible refine num_load rfl _ rfl _ rfl _ hA rfl ?_) | (with_reducible refine num_load rfl _ rfl _ rfl _ hB rfl ?_) | (with_reducible refine num_load rfl _ rfl _ rfl _ hC rfl ?_))
  refine (KAdd.out _).mono ?_
  rintro e v2 ⟨rfl, hb2⟩
  replace hA := hA.on hb2
  replace hB := hB.on hb2
  replace hC := hC.on hb2
  replace hbel := hbel.trans (hb2.mono hbel.size)
  clear hb2
  go_upto_region 4 with (with_reducible refine num_store rfl _ _ rfl _ _ rfl rfl _ (Has.newz _) rfl ?_)
  generalize hw3 : World.setRow _ _ _ = v3
  have hb3 : Below v2.heap.size v2 v3 := by rw [← hw3]; exact below_setRow ((Below.refl _ _).alloc (Nat.le_refl _) _) (Nat.le_refl _) _
  have hS : Has v3 v2.heap.size (numC s) 24 := by rw [← hw3]; exact (Has.newz _).row _
  replace hA := hA.on hb3
  replace hB := hB.on hb3
  replace hC := hC.on hb3
  replace hbel := hbel.trans (hb3.mono hbel.size)
  clear hw3 hb3
  generalize v2.heap.size = b_hS at hS ⊢
  go_wp2_with (first | fail | (with_reducible refine num_load rfl _ rfl _ rfl _ hA rfl ?_) | (with_reducible refine num_load rfl _ rfl _ rfl _ hB rfl ?_) | (with_reducible refine num_load rfl _ rfl _ rfl _ hC rfl ?_) | (with_reducible refine num_load rfl _ rfl _ rfl _ hS rfl ?_))
  refine (KRAdd.out _).mono ?_
  rintro e v4 ⟨rfl, hb4⟩
  replace hA := hA.on hb4
  replace hB := hB.on hb4
  replace hC := hC.on hb4
  replace hS := hS.on hb4
  replace hbel := hbel.trans (hb4.mono hbel.size)
  clear hb4
  go_upto_region 5 with (with_reducible refine num_store rfl _ _ rfl _ _ rfl rfl _ (Has.newz _) rfl ?_)
  generalize hw5 : World.setRow _ _ _ = v5
  have hb5 : Below v4.heap.size v4 v5 := by rw [← hw5]; exact below_setRow ((Below.refl _ _).alloc (Nat.le_refl _) _) (Nat.le_refl _) _
  have hT : Has v5 v4.heap.size (numC s) 24 := by rw [← hw5]; exact (Has.newz _).row _
  replace hA := hA.on hb5
  replace hB := hB.on hb5
  replace hC := hC.on hb5
  replace hS := hS.on hb5
  replace hbel := hbel.trans (hb5.mono hbel.size)
  clear hw5 hb5
  generalize v4.heap.size = b_hT at hT ⊢
  go_wp2_with (first | fail | (with_reducible refine num_load rfl _ rfl _ rfl _ hA rfl ?_) | (with_reducible refine num_load rfl _ rfl _ rfl _ hB rfl ?_) | (with_reducible refine num_load rfl _ rfl _ rfl _ hC rfl ?_) | (with_reducible refine num_load rfl _ rfl _ rfl _ hS rfl ?_) | (with_reducible refine num_load rfl _ rfl _ rfl _ hT rfl ?_))
  refine (KSub.out _).mono ?_
  rintro e v6 ⟨rfl, hb6⟩
  replace hA := hA.on hb6
  replace hB := hB.on hb6
  replace hC := hC.on hb6
  replace hS := hS.on hb6
  replace hT := hT.on hb6
  replace hbel := hbel.trans (hb6.mono hbel.size)
  clear hb6
  go_upto_region 6 with (with_reducible refine num_store rfl _ _ rfl _ _ rfl rfl _ (Has.newz _) rfl ?_)
  generalize hw7 : World.setRow _ _ _ = v7
  have hb7 : Below v6.heap.size v6 v7 := by rw [← hw7]; exact below_setRow ((Below.refl _ _).alloc (Nat.le_refl _) _) (Nat.le_refl _) _
  have hD : Has v7 v6.heap.size (numC d) 24 := by rw [← hw7]; exact (Has.newz _).row _
  replace hA := hA.on hb7
  replace hB := hB.on hb7
  replace hC := hC.on hb7
  replace hS := hS.on hb7
  replace hT := hT.on hb7
  replace hbel := hbel.trans (hb7.mono hbel.size)
  clear hw7 hb7
  generalize v6.heap.size = b_hD at hD ⊢
  go_wp2_with (first | fail | (with_reducible refine num_load rfl _ rfl _ rfl _ hA rfl ?_) | (with_reducible refine num_load rfl _ rfl _ rfl _ hB rfl ?_) | (with_reducible refine num_load rfl _ rfl _ rfl _ hC rfl ?_) | (with_reducible refine num_load rfl _ rfl _ rfl _ hS rfl ?_) | (with_reducible refine num_load rfl _ rfl _ rfl _ hT rfl ?_) | (with_reducible refine num_load rfl _ rfl _ rfl _ hD rfl ?_))
  refine (KRSub.out _).mono ?_
  rintro e v8 ⟨rfl, hb8⟩
  replace hA := hA.on hb8
  replace hB := hB.on hb8
  replace hC := hC.on hb8
  replace hS := hS.on hb8
  replace hT := hT.on hb8
  replace hD := hD.on hb8
  replace hbel := hbel.trans (hb8.mono hbel.size)
  clear hb8
  go_upto_region 7 with (with_reducible refine num_store rfl _ _ rfl _ _ rfl rfl _ (Has.newz _) rfl ?_)
  generalize hw9 : World.setRow _ _ _ = v9
  have hb9 : Below v8.heap.size v8 v9 := by rw [← hw9]; exact below_setRow ((Below.refl _ _).alloc (Nat.le_refl _) _) (Nat.le_refl _) _
  have hE : Has v9 v8.heap.size (numC d) 24 := by rw [← hw9]; exact (Has.newz _).row _
  replace hA := hA.on hb9
  replace hB := hB.on hb9
  replace hC := hC.on hb9
  replace hS := hS.on hb9
  replace hT := hT.on hb9
  replace hD := hD.on hb9
  replace hbel := hbel.trans (hb9.mono hbel.size)
  clear hw9 hb9
  generalize v8.heap.size = b_hE at hE ⊢
  go_wp2_with (first | fail | (with_reducible refine num_load rfl _ rfl _ rfl _ hA rfl ?_) | (with_reducible refine num_load rfl _ rfl _ rfl _ hB rfl ?_) | (with_reducible refine num_load rfl _ rfl _ rfl _ hC rfl ?_) | (with_reducible refine num_load rfl _ rfl _ rfl _ hS rfl ?_) | (with_reducible refine num_load rfl _ rfl _ rfl _ hT rfl ?_) | (with_reducible refine num_load rfl _ rfl _ rfl _ hD rfl ?_) | (with_reducible refine num_load rfl _ rfl _ rfl _ hE rfl ?_) | (with_reducible refine build_num3 rfl _ _ _ rfl _ _ _ rfl rfl rfl ?_))
  refine (KSum.out _ _ (Has.new _ _)).mono ?_
  rintro e v_s ⟨rfl, hbs⟩
  have hbs2 : Below v9.heap.size v9 v_s := ((Below.refl _ _).alloc (Nat.le_refl _) _).trans (hbs.mono (by simp))
  replace hA := hA.on hbs2
  replace hB := hB.on hbs2
  replace hC := hC.on hbs2
  replace hS := hS.on hbs2
  replace hT := hT.on hbs2
  replace hD := hD.on hbs2
  replace hE := hE.on hbs2
  replace hbel := hbel.trans (hbs2.mono hbel.size)
  clear hbs hbs2
  go_upto_region 8 with (with_reducible refine num_store rfl _ _ rfl _ _ rfl rfl _ (Has.newz _) rfl ?_)
  generalize hw10 : World.setRow _ _ _ = v10
  have hb10 : Below v_s.heap.size v_s v10 := by rw [← hw10]; exact below_setRow ((Below.refl _ _).alloc (Nat.le_refl _) _) (Nat.le_refl _) _
  have hX : Has v10 v_s.heap.size (numC t) 24 := by rw [← hw10]; exact (Has.newz _).row _
  replace hA := hA.on hb10
  replace hB := hB.on hb10
  replace hC := hC.on hb10
  replace hS := hS.on hb10
  replace hT := hT.on hb10
  replace hD := hD.on hb10
  replace hE := hE.on hb10
  replace hbel := hbel.trans (hb10.mono hbel.size)
  clear hw10 hb10
  generalize v_s.heap.size = b_hX at hX ⊢
  go_wp2_with (first | fail | (with_reducible refine num_load rfl _ rfl _ rfl _ hA rfl ?_) | (with_reducible refine num_load rfl _ rfl _ rfl _ hB rfl ?_) | (with_reducible refine num_load rfl _ rfl _ rfl _ hC rfl ?_) | (with_reducible refine num_load rfl _ rfl _ rfl _ hS rfl ?_) | (with_reducible refine num_load rfl _ rfl _ rfl _ hT rfl ?_) | (with_reducible refine num_load rfl _ rfl _ rfl _ hD rfl ?_) | (with_reducible refine num_load rfl _ rfl _ rfl _ hE rfl ?_) | (with_reducible refine num_load rfl _ rfl _ rfl _ hX rfl ?_))
  refine (KRAdd2.out _).mono ?_
  rintro e v11 ⟨rfl, hb11⟩
  replace hA := hA.on hb11
  replace hB := hB.on hb11
  replace hC := hC.on hb11
  replace hS := hS.on hb11
  replace hT := hT.on hb11
  replace hD := hD.on hb11
  replace hE := hE.on hb11
  replace hX := hX.on hb11
  replace hbel := hbel.trans (hb11.mono hbel.size)
  clear hb11
  go_upto_region 9 with (with_reducible refine num_store rfl _ _ rfl _ _ rfl rfl _ (Has.newz _) rfl ?_)
  generalize hw12 : World.setRow _ _ _ = v12
  have hb12 : Below v11.heap.size v11 v12 := by rw [← hw12]; exact below_setRow ((Below.refl _ _).alloc (Nat.le_refl _) _) (Nat.le_refl _) _
  have hY : Has v12 v11.heap.size (numC t) 24 := by rw [← hw12]; exact (Has.newz _).row _
  replace hA := hA.on hb12
  replace hB := hB.on hb12
  replace hC := hC.on hb12
  replace hS := hS.on hb12
  replace hT := hT.on hb12
  replace hD := hD.on hb12
  replace hE := hE.on hb12
  replace hX := hX.on hb12
  replace hbel := hbel.trans (hb12.mono hbel.size)
  clear hw12 hb12
  generalize v11.heap.size = b_hY at hY ⊢
  go_wp2_with (first | fail | (with_reducible refine num_load rfl _ rfl _ rfl _ hA rfl ?_) | (with_reducible refine num_load rfl _ rfl _ rfl _ hB rfl ?_) | (with_reducible refine num_load rfl _ rfl _ rfl _ hC rfl ?_) | (with_reducible refine num_load rfl _ rfl _ rfl _ hS rfl ?_) | (with_reducible refine num_load rfl _ rfl _ rfl _ hT rfl ?_) | (with_reducible refine num_load rfl _ rfl _ rfl _ hD rfl ?_) | (with_reducible refine num_load rfl _ rfl _ rfl _ hE rfl ?_) | (with_reducible refine num_load rfl _ rfl _ rfl _ hX rfl ?_) | (with_reducible refine num_load rfl _ rfl _ rfl _ hY rfl ?_))
  refine (KSub2.out _).mono ?_
  rintro e v13 ⟨rfl, hb13⟩
  replace hA := hA.on hb13
  replace hB := hB.on hb13
  replace hC := hC.on hb13
  replace hS := hS.on hb13
  replace hT := hT.on hb13
  replace hD := hD.on hb13
  replace hE := hE.on hb13
  replace hX := hX.on hb13
  replace hY := hY.on hb13
  replace hbel := hbel.trans (hb13.mono hbel.size)
  clear hb13
  go_upto_region 10 with (with_reducible refine num_store rfl _ _ rfl _ _ rfl rfl _ (Has.newz _) rfl ?_)
  generalize hw14 : World.setRow _ _ _ = v14
  have hb14 : Below v13.heap.size v13 v14 := by rw [← hw14]; exact below_setRow ((Below.refl _ _).alloc (Nat.le_refl _) _) (Nat.le_refl _) _
  have hK : Has v14 v13.heap.size (numC x) 24 := by rw [← hw14]; exact (Has.newz _).row _
  replace hA := hA.on hb14
  replace hB := hB.on hb14
  replace hC := hC.on hb14
  replace hS := hS.on hb14
  replace hT := hT.on hb14
  replace hD := hD.on hb14
  replace hE := hE.on hb14
  replace hX := hX.on hb14
  replace hY := hY.on hb14
  replace hbel := hbel.trans (hb14.mono hbel.size)
  clear hw14 hb14
  generalize v13.heap.size = b_hK at hK ⊢
  rcases o with _ | _ <;> rcases p with _ | _
  all_goals
    have hr := HRR.out
    simp at hr
    clear HRR
    subst hr
    go_wp2_with fail
    have hq := eql_same
    refine wp_region_quiet_below (by kernel_rfl) (by kernel_rfl) ?_
    repeat (first
      | (go_big_quiet_want; (with_reducible refine quiet_load_num _ rfl _ rfl _ hA.cls ?_); (simp only [Act.put, List.setIfInBounds_toArray, List.set_cons_zero, List.set_cons_succ]); go_big_quiet_on)
      | (go_big_quiet_want; (with_reducible refine quiet_load_num _ rfl _ rfl _ hB.cls ?_); (simp only [Act.put, List.setIfInBounds_toArray, List.set_cons_zero, List.set_cons_succ]); go_big_quiet_on)
      | (go_big_quiet_want; (with_reducible refine quiet_load_num _ rfl _ rfl _ hC.cls ?_); (simp only [Act.put, List.setIfInBounds_toArray, List.set_cons_zero, List.set_cons_succ]); go_big_quiet_on)
      | (go_big_quiet_want; (with_reducible refine quiet_load_num _ rfl _ rfl _ hS.cls ?_); (simp only [Act.put, List.setIfInBounds_toArray, List.set_cons_zero, List.set_cons_succ]); go_big_quiet_on)
      | (go_big_quiet_want; (with_reducible refine quiet_load_num _ rfl _ rfl _ hT.cls ?_); (simp only [Act.put, List.setIfInBounds_toArray, List.set_cons_zero, List.set_cons_succ]); go_big_quiet_on)
      | (go_big_quiet_want; (with_reducible refine quiet_load_num _ rfl _ rfl _ hD.cls ?_); (simp only [Act.put, List.setIfInBounds_toArray, List.set_cons_zero, List.set_cons_succ]); go_big_quiet_on)
      | (go_big_quiet_want; (with_reducible refine quiet_load_num _ rfl _ rfl _ hE.cls ?_); (simp only [Act.put, List.setIfInBounds_toArray, List.set_cons_zero, List.set_cons_succ]); go_big_quiet_on)
      | (go_big_quiet_want; (with_reducible refine quiet_load_num _ rfl _ rfl _ hX.cls ?_); (simp only [Act.put, List.setIfInBounds_toArray, List.set_cons_zero, List.set_cons_succ]); go_big_quiet_on)
      | (go_big_quiet_want; (with_reducible refine quiet_load_num _ rfl _ rfl _ hY.cls ?_); (simp only [Act.put, List.setIfInBounds_toArray, List.set_cons_zero, List.set_cons_succ]); go_big_quiet_on)
      | (go_big_quiet_want; (with_reducible refine quiet_load_num _ rfl _ rfl _ hK.cls ?_); (simp only [Act.put, List.setIfInBounds_toArray, List.set_cons_zero, List.set_cons_succ]); go_big_quiet_on)
      | go_big_quiet_step (first | (go_at_call 16; exact Calls.regrown_of (KNot.out _)) | (go_at_call 17; exact Calls.regrown_of (KRNot.out _))))
    refine wpQuiet_nil ?_
    intro _ hw'
    obtain ⟨p, hw''⟩ := hw'
    subst hw''
    clear hq
    go_wp2_with fail
    go_ret
    exact ⟨rfl, hbel.trans ((below_regrown _ _ _).mono hbel.size)⟩
end Go.Proofs.Ytlljemggalmcdaa
