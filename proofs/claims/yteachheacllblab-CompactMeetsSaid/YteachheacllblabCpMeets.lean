/-
  compact: Meets, inRange, Target; the reference's Target.
-/
import Derived.Test.YteachheacllblabCpNumber
namespace Go.Proofs.Yteachheacllblab
open Go.RowKit
/-- a load in a place that is guarded -/
theorem num_load_g {ops : Array Oper} {rest : List Oper} {o : Oper} {a : Act} {w : World} {Q : Exit → Act → World → Prop} (hw : Region.wanted o (yielded ops a.tmps) = true) (x : Operand) (ho : o.op = .load 24 x) (g : Nat) (hx : a.eval x = .pointer (some ⟨g, 0, none⟩)) (cs : Array Value) (hg : Has w g cs 24) (hs : cs.size = 4)
    (h : wpList Try.prog ops Q rest (a.put o.dst (.agg cs)) w) : wpList Try.prog ops Q (o :: rest) a w :=
  BigFrame.wpList_want hw fun _ hK => wp_load_row 24 x ho g hx 24 cs (0, 0) _ hg.out Try.underlying24 rfl (infoNum.trans (by rw [hs])) (hK _ _ h)
theorem hash_load_g {ops : Array Oper} {rest : List Oper} {o : Oper} {a : Act} {w : World} {Q : Exit → Act → World → Prop} (hw : Region.wanted o (yielded ops a.tmps) = true) (x : Operand) (ho : o.op = .load 37 x) (g : Nat) (hx : a.eval x = .pointer (some ⟨g, 0, none⟩)) (f : Nat → Nat) (hg : Has w g (hashC f) 37)
    (h : wpList Try.prog ops Q rest (a.put o.dst (.agg (hashC f))) w) : wpList Try.prog ops Q (o :: rest) a w :=
  BigFrame.wpList_want hw fun _ hK => wp_load_row 37 x ho g hx 37 (hashC f) (0, 0) _ hg.out Try.underlying37 rfl (infoHash.trans (by rw [hashC_size])) (hK _ _ h)
/-- a name is loaded whole in a region that draws its order -/
theorem quiet_load_hash {C : World → Prop} {a : Act} {o : Oper} {K : Act → Prop} (x : Operand) (ho : o.op = .load 37 x) (g : Nat) (hx : a.eval x = .pointer (some ⟨g, 0, none⟩)) (f : Nat → Nat) (hC : ∀ w', C w' → Has w' g (hashC f) 37)
    (hk : K (a.put o.dst (.agg (hashC f)))) : o.quiet Try.prog a C K :=
  ⟨_, fun w' hw' => by
    unfold Oper.quietAt
    have hl : (loadVar 37 ⟨g, 0, none⟩).run Try.prog w' = .ok (.agg (hashC f)) w' := run_loadVar_row w' g 37 37 (hashC f) (0, 0) _ (hC w' hw').out Try.underlying37 rfl (infoHash.trans (by rw [hashC_size]))
    have : (execOp a.eval o).run Try.prog w' = .ok (.value (.agg (hashC f))) w' := by
      unfold execOp
      simp only [ho, hx, Instr.loadAt, Instr.sureAddr, Sem.run_bind, Sem.run_pure, Result.andThen_ok, hl]
    rw [this]
    exact ⟨rfl, rfl⟩, hk⟩
set_option maxRecDepth 100000 in
set_option maxHeartbeats 2000000 in
theorem meets (f : Nat → Nat) (a : Nat) (hf : ∀ i, f i < 256) (ha : a < Nm.big) (w : World) :
    Calls Try.prog 19 #[.agg (hashC f), .agg (numC a)] w fun e w' => e = .returned (.bool !decide (a < Nm.unbytes f 32)) ∧ Below w.heap.size w w' := by
  have KF := Lib.hid (fromHash f hf)
  have hU : Nm.unbytes f 32 < Nm.big := Nm.unbytes_lt f hf 32
  have KL := Lib.hid (less a _ ha hU)
  generalize Nm.unbytes f 32 = U at *
  clear hf ha hU
  go_enter Try.func19, Try.ntmps19
  go_upto_region 1 with fail
  generalize hw1 : World.alloc _ _ = w1
  have hB : Below w.heap.size w w1 := by rw [← hw1]; exact ((Below.refl _ _).alloc (Nat.le_refl _) _).alloc (by simp) _
  have h1 : Has w1 w.heap.size (hashC f) 37 := by rw [← hw1]; exact (Has.new _ _).alloc _
  have h2 : Has w1 (w.heap.size + 1) (numC a) 24 := by rw [← hw1]; exact Has.new1 _ _ _
  clear hw1
  refine wp_region_quiet_below (by kernel_rfl) (by kernel_rfl) ?_
  repeat (first
    | (go_big_quiet_want; (with_reducible refine quiet_load_num _ rfl _ rfl _ h2.cls ?_); (simp only [Act.put, List.setIfInBounds_toArray, List.set_cons_zero, List.set_cons_succ]); go_big_quiet_on)
    | (go_big_quiet_want; (with_reducible refine quiet_load_hash _ rfl _ rfl _ h1.cls ?_); (simp only [Act.put, List.setIfInBounds_toArray, List.set_cons_zero, List.set_cons_succ]); go_big_quiet_on)
    | go_big_quiet_step (first | (go_at_call 31; exact Calls.regrown_of (KF.out _)) | (go_at_call 30; exact Calls.regrown_of (KL.out _))))
  refine wpQuiet_nil ?_
  intro _ hw'
  obtain ⟨p, hw''⟩ := hw'
  subst hw''
  have hB2 := hB.trans ((below_regrown w1 p.d p.os).mono hB.size)
  go_wp2_with fail
  go_ret
  exact ⟨rfl, hB2⟩
set_option maxRecDepth 100000 in
set_option maxHeartbeats 2000000 in
theorem inRange_of (b : Int) (z : Nat) (low over : Bool) (KD : Hid (∀ w, Calls Try.prog 10 #[.int .i64 b] w fun e w' => e = .returned (.tuple #[.agg (numC z), .bool low, .bool over]) ∧ Below w.heap.size w w')) (w : World) :
    Calls Try.prog 28 #[.int .i64 b] w fun e w' => e = .returned (.tuple #[.agg (numC z), .bool (!low && !over)]) ∧ Below w.heap.size w w' := by
  cases low
  all_goals
    go_enter Try.func28, Try.ntmps28
    go_upto_region 1 with fail
    generalize hw1 : World.alloc _ _ = w1
    have hN : Has w1 w.heap.size (numC 0) 24 := by rw [← hw1]; exact Has.newz _
    have hb : Below w.heap.size w w1 := by rw [← hw1]; exact (Below.refl _ _).alloc (Nat.le_refl _) _
    clear hw1
    go_wp2_with fail
    refine (KD.out _).mono ?_
    rintro e w3 ⟨rfl, hb3⟩
    replace hN := hN.on hb3
    replace hb := hb.trans (hb3.mono hb.size)
    clear hb3
    have hZ := Has.newz (w := w3) 24
    go_upto_region 2 with (with_reducible refine num_store rfl _ _ rfl _ _ rfl rfl _ hZ rfl ?_)
    generalize hw4 : World.setRow _ _ _ = w4
    have hb4 : Below w3.heap.size w3 w4 := by rw [← hw4]; exact below_setRow ((Below.refl _ _).alloc (Nat.le_refl _) _) (Nat.le_refl _) _
    have hD : Has w4 w3.heap.size (numC z) 24 := by rw [← hw4]; exact hZ.row _
    replace hN := hN.on hb4
    replace hb := hb.trans (hb4.mono hb.size)
    generalize w3.heap.size = D at *
    clear hw4 hb4 hZ
    go_wp2_with (first | (with_reducible refine num_load rfl _ rfl _ rfl _ hD rfl ?_) | (with_reducible refine num_store rfl _ _ rfl _ _ rfl rfl _ hN rfl ?_))
    exact bodyPost_ret (num_results2 Try.results28 _ _ _ _ rfl rfl (hN.row _)) rfl ⟨rfl, below_setRow hb (Nat.le_refl _) _⟩
end Go.Proofs.Yteachheacllblab
