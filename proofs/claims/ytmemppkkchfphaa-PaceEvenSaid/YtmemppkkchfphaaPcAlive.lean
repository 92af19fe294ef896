/-
  Layer 10's laws: what the document tells, first.
-/
import Derived.Test.YtmemppkkchfphaaPcStarts
namespace Go.Proofs.Ytmemppkkchfphaa
open Go.RowKit
/-- the other cells of rules of which they are not told -/
def tlZ : List Value := .slice none 0 0 :: .slice none 0 0 :: (List.replicate 8 (.int .u64 0) ++ (.int .i64 0 :: (List.replicate 64 (.int .u8 0) ++ [.int .i64 0, .int .i64 0, .int .i64 0])))
def prZ : Pr := ⟨0, 0, 0, 0, false, tlZ⟩
def prL : Pr := ⟨545259519, 4, 10, 0, false, tlZ⟩
theorem tlZ_ok (a b c d : Int) (e : Bool) : Pr.ok ⟨a, b, c, d, e, tlZ⟩ := show tlZ.length = 78 from by decide
theorem tlZ_one (a b c d : Int) (e : Bool) : Pr.one ⟨a, b, c, d, e, tlZ⟩ := by
  intro v hv
  simp only [tlZ, List.mem_cons, List.mem_append, List.mem_replicate, List.not_mem_nil, or_false] at hv
  rcases hv with rfl | rfl | ⟨_, rfl⟩ | rfl | ⟨_, rfl⟩ | rfl | rfl | rfl <;> rfl
theorem built_pr : Try.prog.built 32 [(0, .int .i64 545259519), (1, .int .i64 4), (2, .int .i64 10)] = some (prA prL) := by kernel_rfl
theorem ex_alloc_pr {ρ : Operand → Value} {o : Oper} {w : World} (ho : o.op = .alloc 32) : (execOp ρ o).run Try.prog w = .ok (.value (.pointer (some ⟨w.heap.size, 0, none⟩))) (w.alloc (.cells (prA prZ) 32)) := by
  unfold execOp
  simp only [ho]
  kernel_rfl
section
variable {w : World} {ops : Array Oper} {rest : List Oper} {o o2 o3 : Oper} {a : Act} {Q : Exit → Act → World → Prop}
theorem pr_build (hgd : o.guard = none) (ho : o.op = .build 32 #[(0, .const (.int .i64 545259519)), (1, .const (.int .i64 4)), (2, .const (.int .i64 10))])
    (hk : wpList Try.prog ops Q rest (a.put o.dst (.agg (prA prL))) w) : wpList Try.prog ops Q (o :: rest) a w :=
  wpList_plain hgd fun _ hK => by
    unfold Oper.wp execOp
    simp only [ho, Sem.run_bind]
    rw [show (#[(0, .const (.int .i64 545259519)), (1, .const (.int .i64 4)), (2, .const (.int .i64 10))] : Array (Nat × Operand)).map (fun (i, x) => (i, a.eval x)) = #[(0, .int .i64 545259519), (1, .int .i64 4), (2, .int .i64 10)] by simp [Act.eval], run_build w 32 _ _ built_pr]
    exact hK _ _ hk
theorem pr_alloc (hgd : o.guard = none) (ho : o.op = .alloc 32)
    (hk : wpList Try.prog ops Q rest (a.put o.dst (.pointer (some ⟨w.heap.size, 0, none⟩))) (w.alloc (.cells (prA prZ) 32))) : wpList Try.prog ops Q (o :: rest) a w :=
  wpList_plain hgd fun _ hK => by
    unfold Oper.wp
    rw [ex_alloc_pr ho]
    exact hK _ _ hk
theorem pr_store {p p' : Pr} (hgd : o.guard = none) (x y : Operand) (ho : o.op = .store 32 x y) (g : Nat) (hx : a.eval x = .pointer (some ⟨g, 0, none⟩)) (hy : a.eval y = .agg (prA p')) (hs' : p'.ok) (hone : p'.one) (hg : PrAt w g p) (hs : p.ok)
    (hk : wpList Try.prog ops Q rest (a.put o.dst undef) (w.setRow g (prA p'))) : wpList Try.prog ops Q (o :: rest) a w :=
  wpList_store_row hgd 32 x y ho g (prA p') hx hy 32 (prA p) (Has.out hg) (prinfo.trans (by rw [prA_size hs'])) (by rw [prA_size hs, prA_size hs']) (prA_one hone) hk
/-- the rules that the document tells of, in a box of their own -/
theorem pr_make (h1 : o.guard = none) (b1 : o.op = .build 32 #[(0, .const (.int .i64 545259519)), (1, .const (.int .i64 4)), (2, .const (.int .i64 10))]) (h2 : o2.guard = none) (b2 : o2.op = .alloc 32) (h3 : o3.guard = none) (y z : Operand) (b3 : o3.op = .store 32 y z)
    (X : Nat) (hX : w.heap.size = X)
    (hy : ((a.put o.dst (.agg (prA prL))).put o2.dst (.pointer (some ⟨X, 0, none⟩))).eval y = .pointer (some ⟨X, 0, none⟩)) (hz : ((a.put o.dst (.agg (prA prL))).put o2.dst (.pointer (some ⟨X, 0, none⟩))).eval z = .agg (prA prL))
    (hk : ∀ w', PrAt w' X prL → Below w.heap.size w w' → wpList Try.prog ops Q rest (((a.put o.dst (.agg (prA prL))).put o2.dst (.pointer (some ⟨X, 0, none⟩))).put o3.dst undef) w') : wpList Try.prog ops Q (o :: o2 :: o3 :: rest) a w := by
  subst hX
  refine pr_build h1 b1 (pr_alloc h2 b2 ?_)
  have hn := pr_new w prZ
  exact pr_store h3 y z b3 w.heap.size hy hz (tlZ_ok _ _ _ _ _) (tlZ_one _ _ _ _ _) hn (tlZ_ok _ _ _ _ _) (hk _ (Has.row hn _) (below_setRow ((Below.refl _ _).alloc (Nat.le_refl _) _) (Nat.le_refl _) _))
end
set_option maxRecDepth 100000 in
set_option maxHeartbeats 1000000 in
theorem alive10 (w : World) : Calls Try.prog 8 #[] w fun e w' => e = .returned (.bool true) ∧ Below w.heap.size w w' := by
  have hok : prL.ok := tlZ_ok _ _ _ _ _
  have hP_z := prA_size hok
  have kg := pgood_at prL
  have kr := retarget_at prL hok 537395199 100 140 40 (by decide)
  have ks := starts_at prL 8 true (by decide)
  rw [show prL.good = true by decide +kernel] at kg
  rw [show rt prL 537395199 40 = 537395199 by decide +kernel] at kr
  have KG := Lib.hid kg
  have KR := Lib.hid kr
  have KS := Lib.hid ks
  clear kg kr ks hok
  go_enter Try.func8, Try.ntmps8
  go_upto_region 1 with fail
  refine wp_region_lit ?_
  refine pr_make rfl rfl rfl rfl rfl _ _ rfl w.heap.size rfl rfl rfl ?_
  intro v0 hP hbel
  simp only [Act.put, List.setIfInBounds_toArray, List.set_cons_zero, List.set_cons_succ]
  generalize prL = p at *
  generalize w.heap.size = X at hP ⊢
  go_wp2_with (first | fail | (with_reducible refine pr_load rfl _ rfl _ rfl hP hP_z ?_) | (with_reducible refine pr_load_g (by with_unfolding_all rfl) _ rfl _ rfl hP hP_z ?_))
  refine (KG.out _).mono ?_
  rintro e v1 ⟨rfl, hb1⟩
  replace hP := hP.on hb1
  replace hbel := hbel.trans (hb1.mono hbel.size)
  clear hb1
  go_wp2_with (first | fail | (with_reducible refine pr_load rfl _ rfl _ rfl hP hP_z ?_) | (with_reducible refine pr_load_g (by with_unfolding_all rfl) _ rfl _ rfl hP hP_z ?_))
  refine (KR.out _).mono ?_
  rintro e v2 ⟨rfl, hb2⟩
  replace hP := hP.on hb2
  replace hbel := hbel.trans (hb2.mono hbel.size)
  clear hb2
  go_wp2_with (first | fail | (with_reducible refine pr_load rfl _ rfl _ rfl hP hP_z ?_) | (with_reducible refine pr_load_g (by with_unfolding_all rfl) _ rfl _ rfl hP hP_z ?_))
  refine (KS.out _).mono ?_
  rintro e v3 ⟨rfl, hb3⟩
  replace hP := hP.on hb3
  replace hbel := hbel.trans (hb3.mono hbel.size)
  clear hb3
  go_wp2_with (first | fail | (with_reducible refine pr_load rfl _ rfl _ rfl hP hP_z ?_) | (with_reducible refine pr_load_g (by with_unfolding_all rfl) _ rfl _ rfl hP hP_z ?_))
  go_ret
  exact ⟨rfl, hbel⟩
end Go.Proofs.Ytmemppkkchfphaa
