/-
  compact: Meets, inRange, Target; the reference's Target.
-/
import Derived.Test.YtmemppkkchfphaaCpNumber
namespace Go.Proofs.Ytmemppkkchfphaa
open Go.RowKit
/-- a load in a place that is guarded -/
theorem num_load_g {ops : Array Oper} {rest : List Oper} {o : Oper} {a : Act} {w : World} {Q : Exit → Act → World → Prop} (hw : Region.wanted o (yielded ops a.tmps) = true) (x : Operand) (ho : o.op = .load 26 x) (g : Nat) (hx : a.eval x = .pointer (some ⟨g, 0, none⟩)) (cs : Array Value) (hg : Has w g cs 26) (hs : cs.size = 4)
    (h : wpList Try.prog ops Q rest (a.put o.dst (.agg cs)) w) : wpList Try.prog ops Q (o :: rest) a w :=
  BigFrame.wpList_want hw fun _ hK => wp_load_row 26 x ho g hx 26 cs (0, 0) _ hg.out Try.underlying26 rfl (infoNum.trans (by rw [hs])) (hK _ _ h)
theorem hash_load_g {ops : Array Oper} {rest : List Oper} {o : Oper} {a : Act} {w : World} {Q : Exit → Act → World → Prop} (hw : Region.wanted o (yielded ops a.tmps) = true) (x : Operand) (ho : o.op = .load 28 x) (g : Nat) (hx : a.eval x = .pointer (some ⟨g, 0, none⟩)) (f : Nat → Nat) (hg : Has w g (hashC f) 28)
    (h : wpList Try.prog ops Q rest (a.put o.dst (.agg (hashC f))) w) : wpList Try.prog ops Q (o :: rest) a w :=
  BigFrame.wpList_want hw fun _ hK => wp_load_row 28 x ho g hx 28 (hashC f) (0, 0) _ hg.out Try.underlying28 rfl (infoHash.trans (by rw [hashC_size])) (hK _ _ h)
/-- a name is loaded whole in a region that draws its order -/
theorem quiet_load_hash {C : World → Prop} {a : Act} {o : Oper} {K : Act → Prop} (x : Operand) (ho : o.op = .load 28 x) (g : Nat) (hx : a.eval x = .pointer (some ⟨g, 0, none⟩)) (f : Nat → Nat) (hC : ∀ w', C w' → Has w' g (hashC f) 28)
    (hk : K (a.put o.dst (.agg (hashC f)))) : o.quiet Try.prog a C K :=
  ⟨_, fun w' hw' => by
    unfold Oper.quietAt
    have hl : (loadVar 28 ⟨g, 0, none⟩).run Try.prog w' = .ok (.agg (hashC f)) w' := run_loadVar_row w' g 28 28 (hashC f) (0, 0) _ (hC w' hw').out Try.underlying28 rfl (infoHash.trans (by rw [hashC_size]))
    have : (execOp a.eval o).run Try.prog w' = .ok (.value (.agg (hashC f))) w' := by
      unfold execOp
      simp only [ho, hx, Instr.loadAt, Instr.sureAddr, Sem.run_bind, Sem.run_pure, Result.andThen_ok, hl]
    rw [this]
    exact ⟨rfl, rfl⟩, hk⟩
set_option maxRecDepth 100000 in
set_option maxHeartbeats 2000000 in
theorem inRange_of (b : Int) (z : Nat) (low over : Bool) (KD : Hid (∀ w, Calls Try.prog 33 #[.int .i64 b] w fun e w' => e = .returned (.tuple #[.agg (numC z), .bool low, .bool over]) ∧ Below w.heap.size w w')) (w : World) :
    Calls Try.prog 26 #[.int .i64 b] w fun e w' => e = .returned (.tuple #[.agg (numC z), .bool (!low && !over)]) ∧ Below w.heap.size w w' := by
  cases low
  all_goals
    go_enter Try.func26, Try.ntmps26
    go_upto_region 1 with fail
    generalize hw1 : World.alloc _ _ = w1
    have hN : Has w1 w.heap.size (numC 0) 26 := by rw [← hw1]; exact Has.newz _
    have hb : Below w.heap.size w w1 := by rw [← hw1]; exact (Below.refl _ _).alloc (Nat.le_refl _) _
    clear hw1
    go_wp2_with fail
    refine (KD.out _).mono ?_
    rintro e w3 ⟨rfl, hb3⟩
    replace hN := hN.on hb3
    replace hb := hb.trans (hb3.mono hb.size)
    clear hb3
    have hZ := Has.newz (w := w3) 26
    go_upto_region 2 with (with_reducible refine num_store rfl _ _ rfl _ _ rfl rfl _ hZ rfl ?_)
    generalize hw4 : World.setRow _ _ _ = w4
    have hb4 : Below w3.heap.size w3 w4 := by rw [← hw4]; exact below_setRow ((Below.refl _ _).alloc (Nat.le_refl _) _) (Nat.le_refl _) _
    have hD : Has w4 w3.heap.size (numC z) 26 := by rw [← hw4]; exact hZ.row _
    replace hN := hN.on hb4
    replace hb := hb.trans (hb4.mono hb.size)
    generalize w3.heap.size = D at *
    clear hw4 hb4 hZ
    go_wp2_with (first | (with_reducible refine num_load rfl _ rfl _ rfl _ hD rfl ?_) | (with_reducible refine num_store rfl _ _ rfl _ _ rfl rfl _ hN rfl ?_))
    exact bodyPost_ret (num_results2 Try.results26 _ _ _ _ rfl rfl (hN.row _)) rfl ⟨rfl, below_setRow hb (Nat.le_refl _) _⟩
end Go.Proofs.Ytmemppkkchfphaa
