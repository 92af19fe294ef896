/-
  Two envelopes are compared; the laws' alive.
-/
import Derived.Test.YtggnnlefalcplaaDoorEvRefTake
namespace Go.Proofs.YtggnnlefalcplaaDoor
open Go.RowKit Mem Sc Sha
theorem eq_str (a b : ByteArray) (d : Nat) (w : World) : (Op.equalIn (d + 1) 9 (.string a) (.string b)).run Tryd.prog w = .ok (a.toList == b.toList) w :=
  run_equalIn_string w d 9 a b Tryd.underlying9
theorem ev_equal (a b : Ev) (w : World) : (Op.equalIn 10000 23 (.agg (evA a)) (.agg (evA b))).run Tryd.prog w = .ok (decide (a = b)) w := by
  have hS : Tryd.prog.underlying 23 = some (.struct (Tryd.prog.fieldsOf 23)) := by kernel_rfl
  rw [show (10000 : Nat) = 9999 + 1 from rfl, run_equalIn_agg w 9999 23 _ _ hS (by kernel_rfl)]
  simp only [Program.fieldsOf, Tryd.underlying23]
  have pa0 := part_str (evA a) 0 (.string a.w) rfl
  have pb0 := part_str (evA b) 0 (.string b.w) rfl
  have pa1 := part_str (evA a) 1 (.string a.p) rfl
  have pb1 := part_str (evA b) 1 (.string b.p) rfl
  have q0 := fun x y => eq_str x y 9998
  have hdec : decide (a = b) = ((a.w.toList == b.w.toList) && (a.p.toList == b.p.toList)) := by
    rw [Bool.eq_iff_iff, ba_beq, ba_beq]
    simp only [decide_eq_true_eq, Bool.and_eq_true]
    exact ev_ext a b
  rw [hdec]
  simp only [Op.eqFields, ne_eq, String.reduceEq, not_false_eq_true, if_true, Sem.run_bind, Sem.run_ite, Sem.run_pure, Result.andThen_ok, pa0, pb0, pa1, pb1, q0]
  clear hdec pa0 pb0 pa1 pb1 q0
  generalize (a.w.toList == b.w.toList) = x0
  generalize (a.p.toList == b.p.toList) = x1
  cases x0
  · rfl
  cases x1
  · rfl
  rfl
theorem ev_eql (a b : Ev) (g : Bool) (hg : decide (a = b) = g) (w : World) : (binOp .eql 23 (.agg (evA a)) (.agg (evA b))).run Tryd.prog w = .ok (.bool g) w := by
  rw [run_eql_struct, ev_equal a b, hg]; rfl
theorem ev_neq (a b : Ev) (g : Bool) (hg : (!decide (a = b)) = g) (w : World) : (binOp .neq 23 (.agg (evA a)) (.agg (evA b))).run Tryd.prog w = .ok (.bool g) w := by
  rw [run_neq_struct, ev_equal a b, ← hg]; rfl
/-- two envelopes are compared, in whatever place -/
theorem wp_eveql {o : Oper} {a : Act} {w : World} {K : Act → World → Prop} {Q : Exit → Act → World → Prop} (t' : TypeId) (x y : Operand) (ho : o.op = .binOp .eql 23 x y t') (xs ys : Array Value) (v : Value) (hx : a.eval x = .agg xs) (hy : a.eval y = .agg ys)
    (hq : (binOp .eql 23 (.agg xs) (.agg ys)).run Tryd.prog w = .ok v w) (h : K (a.put o.dst v) w) : o.wp Tryd.prog a w K Q := by
  unfold Oper.wp execOp
  simp only [ho, hx, hy, Sem.run_bind, Sem.run_pure, run_eqGuard_agg w .eql 23 x y xs ys ev_plain, Result.andThen_ok, hq]
  exact h
theorem eveql_g {ops : Array Oper} {rest : List Oper} {o : Oper} {a : Act} {w : World} {Q : Exit → Act → World → Prop} (hw : Region.wanted o (yielded ops a.tmps) = true) (t' : TypeId) (x y : Operand) (ho : o.op = .binOp .eql 23 x y t') (xs ys : Array Value) (v : Value) (hx : a.eval x = .agg xs) (hy : a.eval y = .agg ys)
    (hq : ∀ w, (binOp .eql 23 (.agg xs) (.agg ys)).run Tryd.prog w = .ok v w) (h : wpList Tryd.prog ops Q rest (a.put o.dst v) w) : wpList Tryd.prog ops Q (o :: rest) a w :=
  BigFrame.wpList_want hw fun _ hK => wp_eveql t' x y ho xs ys v hx hy (hq w) (hK _ _ h)
theorem eveql_f {ops : Array Oper} {rest : List Oper} {o : Oper} {a : Act} {w : World} {Q : Exit → Act → World → Prop} (hgd : o.guard = none) (t' : TypeId) (x y : Operand) (ho : o.op = .binOp .eql 23 x y t') (xs ys : Array Value) (v : Value) (hx : a.eval x = .agg xs) (hy : a.eval y = .agg ys)
    (hq : ∀ w, (binOp .eql 23 (.agg xs) (.agg ys)).run Tryd.prog w = .ok v w) (h : wpList Tryd.prog ops Q rest (a.put o.dst v) w) : wpList Tryd.prog ops Q (o :: rest) a w :=
  wpList_plain hgd fun _ hK => wp_eveql t' x y ho xs ys v hx hy (hq w) (hK _ _ h)
/-- .. in a region that draws its order -/
theorem quiet_eveql {C : World → Prop} {a : Act} {o : Oper} {K : Act → Prop} (t' : TypeId) (x y : Operand) (ho : o.op = .binOp .eql 23 x y t') (xs ys : Array Value) (v : Value) (hx : a.eval x = .agg xs) (hy : a.eval y = .agg ys)
    (hq : ∀ w, (binOp .eql 23 (.agg xs) (.agg ys)).run Tryd.prog w = .ok v w) (hk : K (a.put o.dst v)) : o.quiet Tryd.prog a C K :=
  ⟨_, fun w' hw' => by
    unfold Oper.quietAt
    have this : (execOp a.eval o).run Tryd.prog w' = .ok (.value v) w' := by
      unfold execOp
      simp only [ho, hx, hy, Sem.run_bind, Sem.run_pure, run_eqGuard_agg w' .eql 23 x y xs ys ev_plain, Result.andThen_ok, hq]
    rw [this]
    exact ⟨rfl, rfl⟩, hk⟩
theorem quiet_evneq {C : World → Prop} {a : Act} {o : Oper} {K : Act → Prop} (t' : TypeId) (x y : Operand) (ho : o.op = .binOp .neq 23 x y t') (xs ys : Array Value) (v : Value) (hx : a.eval x = .agg xs) (hy : a.eval y = .agg ys)
    (hq : ∀ w, (binOp .neq 23 (.agg xs) (.agg ys)).run Tryd.prog w = .ok v w) (hk : K (a.put o.dst v)) : o.quiet Tryd.prog a C K :=
  ⟨_, fun w' hw' => by
    unfold Oper.quietAt
    have this : (execOp a.eval o).run Tryd.prog w' = .ok (.value v) w' := by
      unfold execOp
      simp only [ho, hx, hy, Sem.run_bind, Sem.run_pure, run_eqGuard_agg w' .neq 23 x y xs ys ev_plain, Result.andThen_ok, hq]
    rw [this]
    exact ⟨rfl, rfl⟩, hk⟩
/-- an envelope is loaded whole in a region that draws its order -/
theorem quiet_ev_mid {C : World → Prop} {a : Act} {o : Oper} {K : Act → Prop} (x : Operand) (ho : o.op = .load 23 x) (g off : Nat) (hx : a.eval x = .pointer (some ⟨g, off, none⟩)) (v : Ev) (hC : ∀ w', C w' → w'.rangeAt g off (evC v))
    (hk : K (a.put o.dst (.agg (evA v)))) : o.quiet Tryd.prog a C K :=
  ⟨_, fun w' hw' => by
    unfold Oper.quietAt
    have this : (execOp a.eval o).run Tryd.prog w' = .ok (.value (.agg (evA v))) w' := by
      unfold execOp
      simp only [ho, hx, Sem.run_bind, run_loadAt_mid w' g off 23 (evC v) _ (hC w' hw') Tryd.underlying23 rfl evinfo, Result.andThen_ok]
      rfl
    rw [this]
    exact ⟨rfl, rfl⟩, hk⟩
def evPing : Ev := ⟨⟨#[112, 105, 110, 103]⟩, ⟨#[]⟩⟩
theorem ping_P : evPing.P := by decide +kernel
set_option maxRecDepth 100000 in
set_option maxHeartbeats 1000000 in
theorem ealive (w : World) (hT : Tab w) : Calls Tryd.prog 8 #[] w fun r w' => r = .returned (.bool true) ∧ Below w.heap.size w w' := by
  have C1 : ∀ w, Tab w → Calls Tryd.prog 9 #[.agg #[.string ⟨#[112, 105, 110, 103]⟩, .string ⟨#[]⟩]] w fun e w' => e = .returned (.tuple #[.string (txt evPing.enc), .int .i64 0]) ∧ Below w.heap.size w w' := fun w hT => ebytes_yes evPing ping_P w hT
  have C2 : ∀ w, Calls Tryd.prog 12 #[.string ⟨#[]⟩] w fun e w' => e = .returned (.tuple #[.agg (evA evZ), .int .i64 0, .int .i64 7]) ∧ Below w.heap.size w w' := fun w => etake_few [] (by decide) (by decide) w
  have C3 : ∀ w, Calls Tryd.prog 13 #[.string ⟨#[112, 105, 110, 103]⟩, .string ⟨#[]⟩] w fun e w' => e = .returned (.string (txt evPing.enc)) ∧ Below w.heap.size w w' := fun w => rbytes7 [112, 105, 110, 103] [] (by decide) (by decide) w
  have K1 := Lib.hid C1
  have K2 := Lib.hid C2
  have K3 := Lib.hid C3
  generalize txt evPing.enc = t at *
  clear C1 C2 C3
  go_enter Tryd.func8, Tryd.ntmps8
  go_wp2_with fail
  refine (K1.out w hT).mono ?_
  rintro r w1 ⟨rfl, hB⟩
  go_wp2_with fail
  refine (K2.out w1).mono ?_
  rintro r w2 ⟨rfl, hb2⟩
  replace hB := hB.trans (hb2.mono hB.size)
  clear hb2
  have hZ := ev_newz w2
  go_upto_region 3 with (with_reducible refine ev_store rfl _ _ rfl _ _ evZ rfl rfl rfl hZ ?_)
  replace hB := below_setRow (hB.alloc hB.size (.cells #[.string ⟨#[]⟩, .string ⟨#[]⟩] 23)) hB.size (evA evZ)
  clear hZ
  generalize World.setRow _ _ _ = w3 at *
  go_wp2_with fail
  refine (K3.out w3).mono ?_
  rintro r w4 ⟨rfl, hb4⟩
  replace hB := hB.trans (hb4.mono hB.size)
  go_wp2_with fail
  go_ret
  exact ⟨rfl, hB⟩
end Go.Proofs.YtggnnlefalcplaaDoor
