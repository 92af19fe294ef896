/-
  Two headers are compared.
-/
import Derived.Test.YtcgnohndfedodaaDoorBunQ10
import Derived.Laws.StructEq
namespace Go.Proofs.YtcgnohndfedodaaDoor
open Go.RowKit Mem Sc
theorem hd_plain : Tryd.prog.eqGuardType Tryd.prog.depth 37 = false := by kernel_rfl
theorem part_cell (cs : Array Value) (o : Nat) (v : Value) (h : cs[o]? = some v) (w : World) : (part 3 cs o).run Tryd.prog w = .ok v w := by
  simp [part, h]
theorem part_name (cs : Array Value) (o : Nat) (l : List UInt8) (h : cs.extract o (o + 32) = bytesV l) (w : World) : (part 35 cs o).run Tryd.prog w = .ok (.agg (bytesV l)) w := by
  simp [part, h]
theorem hd_prev (h : Hd) (ho : h.ok) : (hdA h).extract 1 33 = bytesV h.prev := by
  apply Array.toList_inj.1
  rw [bytesV_list, Array.toList_extract]
  show ((hdC h).drop 1).take (33 - 1) = _
  show (Lib.byteCells h.prev ++ _).take 32 = _
  exact List.take_left' (byteCells_32 ho.1)
theorem hd_root (h : Hd) (ho : h.ok) : (hdA h).extract 33 65 = bytesV h.root := by
  apply Array.toList_inj.1
  rw [bytesV_list, Array.toList_extract]
  show ((hdC h).drop 33).take (65 - 33) = _
  have e : (hdC h).drop 33 = Lib.byteCells h.root ++ [.int .i64 h.time, .int .i64 h.bits, .int .i64 h.nonce] := by
    show (Lib.byteCells h.prev ++ _).drop 32 = _
    exact List.drop_left' (byteCells_32 ho.1)
  rw [e]
  exact List.take_left' (byteCells_32 ho.2)
theorem hd_cell (h : Hd) (ho : h.ok) (j : Nat) : (hdA h)[65 + j]? = [Value.int .i64 h.time, .int .i64 h.bits, .int .i64 h.nonce][j]? := by
  show (hdC h).toArray[65 + j]? = _
  rw [List.getElem?_toArray]
  exact hdC_tail ho j
theorem eq_name (x y : List UInt8) (hx : x.length = 32) (hy : y.length = 32) (d : Nat) (w : World) : (Op.equalIn (d + 2) 35 (.agg (bytesV x)) (.agg (bytesV y))).run Tryd.prog w = .ok (x == y) w :=
  run_equalIn_bytes (P := Tryd.prog) w d 35 5 32 Tryd.underlying35 Tryd.underlying5 hsize1 x y hx hy
theorem eq_int (a b : Int) (d : Nat) (w : World) : (Op.equalIn (d + 1) 3 (.int .i64 a) (.int .i64 b)).run Tryd.prog w = .ok (a == b) w :=
  run_equalIn_int w d 3 .i64 .i64 a b Tryd.underlying3
theorem hd_ext (a b : Hd) : (a = b) ↔ (a.v = b.v ∧ a.prev = b.prev ∧ a.root = b.root ∧ a.time = b.time ∧ a.bits = b.bits ∧ a.nonce = b.nonce) := by
  obtain ⟨a1, a2, a3, a4, a5, a6⟩ := a
  obtain ⟨b1, b2, b3, b4, b5, b6⟩ := b
  simp
instance (a b : Hd) : Decidable (a = b) := decidable_of_iff _ (hd_ext a b).symm
theorem hd_equal (a b : Hd) (ha : a.ok) (hb : b.ok) (w : World) : (Op.equalIn 10000 37 (.agg (hdA a)) (.agg (hdA b))).run Tryd.prog w = .ok (decide (a = b)) w := by
  have hS : Tryd.prog.underlying 37 = some (.struct (Tryd.prog.fieldsOf 37)) := by kernel_rfl
  rw [show (10000 : Nat) = 9999 + 1 from rfl, run_equalIn_agg w 9999 37 _ _ hS (by kernel_rfl)]
  simp only [Program.fieldsOf, Tryd.underlying37]
  have pa0 := part_cell (hdA a) 0 (.int .i64 a.v) rfl
  have pb0 := part_cell (hdA b) 0 (.int .i64 b.v) rfl
  have pa1 := part_name (hdA a) 1 a.prev (hd_prev a ha)
  have pb1 := part_name (hdA b) 1 b.prev (hd_prev b hb)
  have pa2 := part_name (hdA a) 33 a.root (hd_root a ha)
  have pb2 := part_name (hdA b) 33 b.root (hd_root b hb)
  have pa3 := part_cell (hdA a) 65 (.int .i64 a.time) (hd_cell a ha 0)
  have pb3 := part_cell (hdA b) 65 (.int .i64 b.time) (hd_cell b hb 0)
  have pa4 := part_cell (hdA a) 66 (.int .i64 a.bits) (hd_cell a ha 1)
  have pb4 := part_cell (hdA b) 66 (.int .i64 b.bits) (hd_cell b hb 1)
  have pa5 := part_cell (hdA a) 67 (.int .i64 a.nonce) (hd_cell a ha 2)
  have pb5 := part_cell (hdA b) 67 (.int .i64 b.nonce) (hd_cell b hb 2)
  have q1 := eq_name a.prev b.prev ha.1 hb.1 9997
  have q2 := eq_name a.root b.root ha.2 hb.2 9997
  have q0 := fun x y => eq_int x y 9998
  have hdec : decide (a = b) = (a.v == b.v && (a.prev == b.prev && (a.root == b.root && (a.time == b.time && (a.bits == b.bits && a.nonce == b.nonce))))) := by
    rw [Bool.eq_iff_iff]
    simp only [decide_eq_true_eq, Bool.and_eq_true, beq_iff_eq]
    exact hd_ext a b
  rw [hdec]
  simp only [Op.eqFields, ne_eq, String.reduceEq, not_false_eq_true, if_true, Sem.run_bind, Sem.run_ite, Sem.run_pure, Result.andThen_ok, pa0, pb0, pa1, pb1, pa2, pb2, pa3, pb3, pa4, pb4, pa5, pb5, q0, q1, q2]
  clear hdec pa0 pb0 pa1 pb1 pa2 pb2 pa3 pb3 pa4 pb4 pa5 pb5 q0 q1 q2
  generalize (a.v == b.v) = x0
  generalize (a.prev == b.prev) = x1
  generalize (a.root == b.root) = x2
  generalize (a.time == b.time) = x3
  generalize (a.bits == b.bits) = x4
  generalize (a.nonce == b.nonce) = x5
  cases x0
  · rfl
  cases x1
  · rfl
  cases x2
  · rfl
  cases x3
  · rfl
  cases x4
  · rfl
  cases x5
  · rfl
  rfl
theorem hd_eql (a b : Hd) (ha : a.ok) (hb : b.ok) (g : Bool) (hg : decide (a = b) = g) (w : World) : (binOp .eql 37 (.agg (hdA a)) (.agg (hdA b))).run Tryd.prog w = .ok (.bool g) w := by
  rw [run_eql_struct, hd_equal a b ha hb, hg]; rfl
theorem hd_neq (a b : Hd) (ha : a.ok) (hb : b.ok) (g : Bool) (hg : (!decide (a = b)) = g) (w : World) : (binOp .neq 37 (.agg (hdA a)) (.agg (hdA b))).run Tryd.prog w = .ok (.bool g) w := by
  rw [run_neq_struct, hd_equal a b ha hb, ← hg]; rfl
theorem hn_eql (x y : List UInt8) (hx : x.length = 32) (hy : y.length = 32) (g : Bool) (hg : (x == y) = g) (w : World) : (binOp .eql 35 (.agg (bytesV x)) (.agg (bytesV y))).run Tryd.prog w = .ok (.bool g) w := by
  rw [run_eql_struct, show (10000 : Nat) = 9998 + 2 from rfl, eq_name x y hx hy, hg]; rfl
theorem hn_neq (x y : List UInt8) (hx : x.length = 32) (hy : y.length = 32) (g : Bool) (hg : (!(x == y)) = g) (w : World) : (binOp .neq 35 (.agg (bytesV x)) (.agg (bytesV y))).run Tryd.prog w = .ok (.bool g) w := by
  rw [run_neq_struct, show (10000 : Nat) = 9998 + 2 from rfl, eq_name x y hx hy, ← hg]; rfl
theorem hdz_eql (w : World) : (binOp .eql 37 (.agg (hdA hdZ)) (.agg #[.int .i64 0, .int .u8 0, .int .u8 0, .int .u8 0, .int .u8 0, .int .u8 0, .int .u8 0, .int .u8 0, .int .u8 0, .int .u8 0, .int .u8 0, .int .u8 0, .int .u8 0, .int .u8 0, .int .u8 0, .int .u8 0, .int .u8 0, .int .u8 0, .int .u8 0, .int .u8 0, .int .u8 0, .int .u8 0, .int .u8 0, .int .u8 0, .int .u8 0, .int .u8 0, .int .u8 0, .int .u8 0, .int .u8 0, .int .u8 0, .int .u8 0, .int .u8 0, .int .u8 0, .int .u8 0, .int .u8 0, .int .u8 0, .int .u8 0, .int .u8 0, .int .u8 0, .int .u8 0, .int .u8 0, .int .u8 0, .int .u8 0, .int .u8 0, .int .u8 0, .int .u8 0, .int .u8 0, .int .u8 0, .int .u8 0, .int .u8 0, .int .u8 0, .int .u8 0, .int .u8 0, .int .u8 0, .int .u8 0, .int .u8 0, .int .u8 0, .int .u8 0, .int .u8 0, .int .u8 0, .int .u8 0, .int .u8 0, .int .u8 0, .int .u8 0, .int .u8 0, .int .i64 0, .int .i64 0, .int .i64 0])).run Tryd.prog w = .ok (.bool true) w := hd_eql hdZ hdZ hdZ_ok hdZ_ok true rfl w
/-- two headers are compared, in whatever place -/
theorem wp_hdeql {o : Oper} {a : Act} {w : World} {K : Act → World → Prop} {Q : Exit → Act → World → Prop} (t' : TypeId) (x y : Operand) (ho : o.op = .binOp .eql 37 x y t') (xs ys : Array Value) (v : Value) (hx : a.eval x = .agg xs) (hy : a.eval y = .agg ys)
    (hq : (binOp .eql 37 (.agg xs) (.agg ys)).run Tryd.prog w = .ok v w) (h : K (a.put o.dst v) w) : o.wp Tryd.prog a w K Q := by
  unfold Oper.wp execOp
  simp only [ho, hx, hy, Sem.run_bind, Sem.run_pure, run_eqGuard_agg w .eql 37 x y xs ys hd_plain, Result.andThen_ok, hq]
  exact h
theorem hdeql_g {ops : Array Oper} {rest : List Oper} {o : Oper} {a : Act} {w : World} {Q : Exit → Act → World → Prop} (hw : Region.wanted o (yielded ops a.tmps) = true) (t' : TypeId) (x y : Operand) (ho : o.op = .binOp .eql 37 x y t') (xs ys : Array Value) (v : Value) (hx : a.eval x = .agg xs) (hy : a.eval y = .agg ys)
    (hq : ∀ w, (binOp .eql 37 (.agg xs) (.agg ys)).run Tryd.prog w = .ok v w) (h : wpList Tryd.prog ops Q rest (a.put o.dst v) w) : wpList Tryd.prog ops Q (o :: rest) a w :=
  BigFrame.wpList_want hw fun _ hK => wp_hdeql t' x y ho xs ys v hx hy (hq w) (hK _ _ h)
theorem hdeql_f {ops : Array Oper} {rest : List Oper} {o : Oper} {a : Act} {w : World} {Q : Exit → Act → World → Prop} (hgd : o.guard = none) (t' : TypeId) (x y : Operand) (ho : o.op = .binOp .eql 37 x y t') (xs ys : Array Value) (v : Value) (hx : a.eval x = .agg xs) (hy : a.eval y = .agg ys)
    (hq : ∀ w, (binOp .eql 37 (.agg xs) (.agg ys)).run Tryd.prog w = .ok v w) (h : wpList Tryd.prog ops Q rest (a.put o.dst v) w) : wpList Tryd.prog ops Q (o :: rest) a w :=
  wpList_plain hgd fun _ hK => wp_hdeql t' x y ho xs ys v hx hy (hq w) (hK _ _ h)
/-- .. in a region that draws its order -/
theorem quiet_hdeql {C : World → Prop} {a : Act} {o : Oper} {K : Act → Prop} (t' : TypeId) (x y : Operand) (ho : o.op = .binOp .eql 37 x y t') (xs ys : Array Value) (v : Value) (hx : a.eval x = .agg xs) (hy : a.eval y = .agg ys)
    (hq : ∀ w, (binOp .eql 37 (.agg xs) (.agg ys)).run Tryd.prog w = .ok v w) (hk : K (a.put o.dst v)) : o.quiet Tryd.prog a C K :=
  ⟨_, fun w' hw' => by
    unfold Oper.quietAt
    have this : (execOp a.eval o).run Tryd.prog w' = .ok (.value v) w' := by
      unfold execOp
      simp only [ho, hx, hy, Sem.run_bind, Sem.run_pure, run_eqGuard_agg w' .eql 37 x y xs ys hd_plain, Result.andThen_ok, hq]
    rw [this]
    exact ⟨rfl, rfl⟩, hk⟩
theorem quiet_hdneq {C : World → Prop} {a : Act} {o : Oper} {K : Act → Prop} (t' : TypeId) (x y : Operand) (ho : o.op = .binOp .neq 37 x y t') (xs ys : Array Value) (v : Value) (hx : a.eval x = .agg xs) (hy : a.eval y = .agg ys)
    (hq : ∀ w, (binOp .neq 37 (.agg xs) (.agg ys)).run Tryd.prog w = .ok v w) (hk : K (a.put o.dst v)) : o.quiet Tryd.prog a C K :=
  ⟨_, fun w' hw' => by
    unfold Oper.quietAt
    have this : (execOp a.eval o).run Tryd.prog w' = .ok (.value v) w' := by
      unfold execOp
      simp only [ho, hx, hy, Sem.run_bind, Sem.run_pure, run_eqGuard_agg w' .neq 37 x y xs ys hd_plain, Result.andThen_ok, hq]
    rw [this]
    exact ⟨rfl, rfl⟩, hk⟩
theorem quiet_heql {C : World → Prop} {a : Act} {o : Oper} {K : Act → Prop} (t' : TypeId) (x y : Operand) (ho : o.op = .binOp .eql 35 x y t') (xs ys : Array Value) (v : Value) (hx : a.eval x = .agg xs) (hy : a.eval y = .agg ys)
    (hq : ∀ w, (binOp .eql 35 (.agg xs) (.agg ys)).run Tryd.prog w = .ok v w) (hk : K (a.put o.dst v)) : o.quiet Tryd.prog a C K :=
  ⟨_, fun w' hw' => by
    unfold Oper.quietAt
    have this : (execOp a.eval o).run Tryd.prog w' = .ok (.value v) w' := by
      unfold execOp
      simp only [ho, hx, hy, Sem.run_bind, Sem.run_pure, run_eqGuard_agg w' .eql 35 x y xs ys hplain, Result.andThen_ok, hq]
    rw [this]
    exact ⟨rfl, rfl⟩, hk⟩
end Go.Proofs.YtcgnohndfedodaaDoor
