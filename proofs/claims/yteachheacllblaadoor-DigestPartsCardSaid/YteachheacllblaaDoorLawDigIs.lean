/-
  DigestIs: the walk.
-/
import Derived.Test.YteachheacllblaaDoorRefDouble
import Derived.Test.YteachheacllblaaDoorDigAlive
import Derived.Test.YteachheacllblaaDoorRegionInv
namespace Go.Proofs.YteachheacllblaaDoor
open Go.RowKit Mem Sha
theorem eqPlain : Tryd.prog.eqGuardType Tryd.prog.depth 24 = false := by kernel_rfl
/-- two names are compared, whose comparison is known -/
theorem wp_eql {o : Oper} {a : Act} {w : World} {K : Act → World → Prop} {Q : Exit → Act → World → Prop} (t' : TypeId) (x y : Operand) (ho : o.op = .binOp .eql 24 x y t') (xs ys : Array Value) (v : Value) (hx : a.eval x = .agg xs) (hy : a.eval y = .agg ys)
    (hq : (binOp .eql 24 (.agg xs) (.agg ys)).run Tryd.prog w = .ok v w) (h : K (a.put o.dst v) w) : o.wp Tryd.prog a w K Q := by
  unfold Oper.wp execOp
  simp only [ho, hx, hy, Sem.run_bind, Sem.run_pure, run_eqGuard_agg w .eql 24 x y xs ys eqPlain, Result.andThen_ok, hq]
  exact h
theorem eql_g {ops : Array Oper} {rest : List Oper} {o : Oper} {a : Act} {w : World} {Q : Exit → Act → World → Prop} (hw : Region.wanted o (yielded ops a.tmps) = true) (t' : TypeId) (x y : Operand) (ho : o.op = .binOp .eql 24 x y t') (xs ys : Array Value) (v : Value) (hx : a.eval x = .agg xs) (hy : a.eval y = .agg ys)
    (hq : ∀ w, (binOp .eql 24 (.agg xs) (.agg ys)).run Tryd.prog w = .ok v w) (h : wpList Tryd.prog ops Q rest (a.put o.dst v) w) : wpList Tryd.prog ops Q (o :: rest) a w :=
  BigFrame.wpList_want hw fun _ hK => wp_eql t' x y ho xs ys v hx hy (hq w) (hK _ _ h)
set_option maxRecDepth 100000 in
set_option maxHeartbeats 2000000 in
theorem is_long (s : ByteArray) (w : World) (hT : Tab w) (hs : 1024 < s.size) :
    Calls Tryd.prog 3 #[.string s] w fun e w' => e = .returned (.bool true) ∧ Below w.heap.size w w' := by
  go_enter Tryd.func3, Tryd.ntmps3
  go_wp2_with fail
  refine (alive w hT).mono ?_
  rintro e w1 ⟨rfl, hb1⟩
  go_wp2_with fail
  go_ret
  exact ⟨rfl, hb1⟩
set_option maxRecDepth 100000 in
set_option maxHeartbeats 2000000 in
theorem is_short (s : ByteArray) (w : World) (hT : Tab w) (hs : ¬ 1024 < s.size) :
    Calls Tryd.prog 3 #[.string s] w fun e w' => e = .returned (.bool true) ∧ Below w.heap.size w w' := by
  have hsz : (flat [s]).length ≤ 1024 := by rw [flat_one, ← Lib.size_eq]; omega
  have c1 : ∀ a w, Tab w → PartsW w a [s] → Calls Tryd.prog 9 #[.slice a 1 1] w fun e w' => e = .returned (.agg (bytesV (sha s.data.toList))) ∧ Below w.heap.size w w' := fun a w hT hP => by
    have := of a [s] 1 1 rfl w hT (by omega) (by omega) hP
    rwa [flat_one] at this
  have c2 := ref_of s (by omega)
  have c3 : ∀ a w, Tab w → PartsW w a [s] → Calls Tryd.prog 11 #[.slice a 1 1] w fun e w' => e = .returned (.agg (bytesV (sha (sha s.data.toList)))) ∧ Below w.heap.size w w' := fun a w hT hP => by
    have := double a [s] 1 1 rfl w hT (by omega) (by omega) hP
    rwa [flat_one] at this
  have c4 := ref_double s (by omega)
  have q1 := eql_self (sha s.data.toList) (sha_length _)
  have q2 := eql_self (sha (sha s.data.toList)) (sha_length _)
  have K1 := Lib.hid c1
  have K2 := Lib.hid c2
  have K3 := Lib.hid c3
  have K4 := Lib.hid c4
  clear c1 c2 c3 c4 hsz
  generalize bytesV (sha (sha s.data.toList)) = V2 at *
  generalize bytesV (sha s.data.toList) = V1 at *
  have hd : decide ((1024 : Int) < (s.size : Int)) = false := decide_eq_false (by omega)
  go_enter Tryd.func3, Tryd.ntmps3
  go_wp2_with fail
  refine (alive w hT).mono ?_
  rintro e w1 ⟨rfl, hb1⟩
  go_wp2_with fail
  have hb2 : Below w1.heap.size w1 (w1.alloc (.cells #[.string s] 9)) := (Below.refl _ _).alloc (Nat.le_refl _) _
  replace hb1 := hb1.trans (hb2.mono hb1.size)
  refine (K1.out _ _ (hT.below hb1) (PartsW.one (by simp))).mono ?_
  rintro e w2 ⟨rfl, hb3⟩
  replace hb1 := hb1.trans (hb3.mono hb1.size)
  clear hb2 hb3
  go_wp2_with fail
  refine (K2.out _).mono ?_
  rintro e w3 ⟨rfl, hb4⟩
  replace hb1 := hb1.trans (hb4.mono hb1.size)
  clear hb4
  go_wp2_with fail
  have hb5 : Below w3.heap.size w3 (w3.alloc (.cells #[.string s] 9)) := (Below.refl _ _).alloc (Nat.le_refl _) _
  replace hb1 := hb1.trans (hb5.mono hb1.size)
  refine (K3.out _ _ (hT.below hb1) (PartsW.one (by simp))).mono ?_
  rintro e w4 ⟨rfl, hb6⟩
  replace hb1 := hb1.trans (hb6.mono hb1.size)
  clear hb5 hb6
  go_wp2_with fail
  refine (K4.out _).mono ?_
  rintro e w5 ⟨rfl, hb7⟩
  replace hb1 := hb1.trans (hb7.mono hb1.size)
  go_wp2_with (with_reducible refine eql_g (by with_unfolding_all rfl) _ _ _ rfl _ _ _ rfl rfl q2 ?_)
  go_ret
  exact ⟨rfl, hb1⟩
theorem is_walk (s : ByteArray) (w : World) (hT : Tab w) :
    Calls Tryd.prog 3 #[.string s] w fun e w' => e = .returned (.bool true) ∧ Below w.heap.size w w' := by
  by_cases hs : 1024 < s.size
  · exact is_long s w hT hs
  · exact is_short s w hT hs
end Go.Proofs.YteachheacllblaaDoor
