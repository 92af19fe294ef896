/-
  Layer 6's laws: alive.
-/
import Derived.Test.YtmpllagaeoolaaaDoorZHdRef
import Derived.Test.YtmpllagaeoolaaaDoorZHdOf
namespace Go.Proofs.YtmpllagaeoolaaaDoor
open Go.RowKit Mem Sc
/-- two names are compared, in a place that is guarded -/
theorem wp_heql {o : Oper} {a : Act} {w : World} {K : Act → World → Prop} {Q : Exit → Act → World → Prop} (t' : TypeId) (x y : Operand) (ho : o.op = .binOp .eql 24 x y t') (xs ys : Array Value) (v : Value) (hx : a.eval x = .agg xs) (hy : a.eval y = .agg ys)
    (hq : (binOp .eql 24 (.agg xs) (.agg ys)).run Tryd.prog w = .ok v w) (h : K (a.put o.dst v) w) : o.wp Tryd.prog a w K Q := by
  unfold Oper.wp execOp
  simp only [ho, hx, hy, Sem.run_bind, Sem.run_pure, run_eqGuard_agg w .eql 24 x y xs ys hplain, Result.andThen_ok, hq]
  exact h
theorem heql_g {ops : Array Oper} {rest : List Oper} {o : Oper} {a : Act} {w : World} {Q : Exit → Act → World → Prop} (hw : Region.wanted o (yielded ops a.tmps) = true) (t' : TypeId) (x y : Operand) (ho : o.op = .binOp .eql 24 x y t') (xs ys : Array Value) (v : Value) (hx : a.eval x = .agg xs) (hy : a.eval y = .agg ys)
    (hq : ∀ w, (binOp .eql 24 (.agg xs) (.agg ys)).run Tryd.prog w = .ok v w) (h : wpList Tryd.prog ops Q rest (a.put o.dst v) w) : wpList Tryd.prog ops Q (o :: rest) a w :=
  BigFrame.wpList_want hw fun _ hK => wp_heql t' x y ho xs ys v hx hy (hq w) (hK _ _ h)
theorem wp_hneq {o : Oper} {a : Act} {w : World} {K : Act → World → Prop} {Q : Exit → Act → World → Prop} (t' : TypeId) (x y : Operand) (ho : o.op = .binOp .neq 24 x y t') (xs ys : Array Value) (v : Value) (hx : a.eval x = .agg xs) (hy : a.eval y = .agg ys)
    (hq : (binOp .neq 24 (.agg xs) (.agg ys)).run Tryd.prog w = .ok v w) (h : K (a.put o.dst v) w) : o.wp Tryd.prog a w K Q := by
  unfold Oper.wp execOp
  simp only [ho, hx, hy, Sem.run_bind, Sem.run_pure, run_eqGuard_agg w .neq 24 x y xs ys hplain, Result.andThen_ok, hq]
  exact h
theorem hneq_g {ops : Array Oper} {rest : List Oper} {o : Oper} {a : Act} {w : World} {Q : Exit → Act → World → Prop} (hw : Region.wanted o (yielded ops a.tmps) = true) (t' : TypeId) (x y : Operand) (ho : o.op = .binOp .neq 24 x y t') (xs ys : Array Value) (v : Value) (hx : a.eval x = .agg xs) (hy : a.eval y = .agg ys)
    (hq : ∀ w, (binOp .neq 24 (.agg xs) (.agg ys)).run Tryd.prog w = .ok v w) (h : wpList Tryd.prog ops Q rest (a.put o.dst v) w) : wpList Tryd.prog ops Q (o :: rest) a w :=
  BigFrame.wpList_want hw fun _ hK => wp_hneq t' x y ho xs ys v hx hy (hq w) (hK _ _ h)
def hd1 : Hd := ⟨1, z32, z32, 0, 0, 0⟩
theorem hd1_enc : txt hd1.enc = ⟨#[1, 0, 0, 0, 0, 0, 0, 0, 0, 0, 0, 0, 0, 0, 0, 0, 0, 0, 0, 0, 0, 0, 0, 0, 0, 0, 0, 0, 0, 0, 0, 0, 0, 0, 0, 0, 0, 0, 0, 0, 0, 0, 0, 0, 0, 0, 0, 0, 0, 0, 0, 0, 0, 0, 0, 0, 0, 0, 0, 0, 0, 0, 0, 0, 0, 0, 0, 0, 0, 0, 0, 0, 0, 0, 0, 0, 0, 0, 0, 0]⟩ := by decide +kernel
end Go.Proofs.YtmpllagaeoolaaaDoor
