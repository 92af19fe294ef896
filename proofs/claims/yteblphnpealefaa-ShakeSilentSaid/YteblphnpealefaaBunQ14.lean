/-
  Texts of this seat, one behind the other.
-/
import Derived.Test.YteblphnpealefaaBunQ10
import Derived.Laws.StructEq
/-
  Two headers are compared.
-/
namespace Go.Proofs.Yteblphnpealefaa
open Go.RowKit Mem Sc
theorem hd_plain : Try.prog.eqGuardType Try.prog.depth 67 = false := by kernel_rfl
theorem part_cell (cs : Array Value) (o : Nat) (v : Value) (h : cs[o]? = some v) (w : World) : (part 3 cs o).run Try.prog w = .ok v w := by
  simp [part, h]
theorem part_name (cs : Array Value) (o : Nat) (l : List UInt8) (h : cs.extract o (o + 32) = bytesV l) (w : World) : (part 36 cs o).run Try.prog w = .ok (.agg (bytesV l)) w := by
  simp [part, h]
theorem hd_prev (h : Hd) (ho : h.ok) : (hdA h).extract 1 33 = bytesV h.prev := by
  apply Array.toList_inj.1
  rw [bytesV_list, Array.toList_extract]
  show ((hdC h).drop 1).take (33 - 1) = _
  show (Lib.byteCells h.prev ++ _).take 32 = _
  exact List.take_left' (byteCells_32 ho.1)
theorem hd_root (h : Hd) (ho : h.ok) : (hdA h).extract 33 65 = bytesV h.root := by
  apply Array.toList_inj.1
  rw [bytesV_list, Array.toList_extract]
  show ((hdC h).drop 33).take (65 - 33) = _
  have e : (hdC h).drop 33 = Lib.byteCells h.root ++ [.int .i64 h.time, .int .i64 h.bits, .int .i64 h.nonce] := by
    show (Lib.byteCells h.prev ++ _).drop 32 = _
    exact List.drop_left' (byteCells_32 ho.1)
  rw [e]
  exact List.take_left' (byteCells_32 ho.2)
theorem hd_cell (h : Hd) (ho : h.ok) (j : Nat) : (hdA h)[65 + j]? = [Value.int .i64 h.time, .int .i64 h.bits, .int .i64 h.nonce][j]? := by
  show (hdC h).toArray[65 + j]? = _
  rw [List.getElem?_toArray]
  exact hdC_tail ho j
theorem eq_name (x y : List UInt8) (hx : x.length = 32) (hy : y.length = 32) (d : Nat) (w : World) : (Op.equalIn (d + 2) 36 (.agg (bytesV x)) (.agg (bytesV y))).run Try.prog w = .ok (x == y) w :=
  run_equalIn_bytes (P := Try.prog) w d 36 5 32 Try.underlying36 Try.underlying5 hsize1 x y hx hy
theorem eq_int (a b : Int) (d : Nat) (w : World) : (Op.equalIn (d + 1) 3 (.int .i64 a) (.int .i64 b)).run Try.prog w = .ok (a == b) w :=
  run_equalIn_int w d 3 .i64 .i64 a b Try.underlying3
theorem hd_ext (a b : Hd) : (a = b) ↔ (a.v = b.v ∧ a.prev = b.prev ∧ a.root = b.root ∧ a.time = b.time ∧ a.bits = b.bits ∧ a.nonce = b.nonce) := by
  obtain ⟨a1, a2, a3, a4, a5, a6⟩ := a
  obtain ⟨b1, b2, b3, b4, b5, b6⟩ := b
  simp
instance (a b : Hd) : Decidable (a = b) := decidable_of_iff _ (hd_ext a b).symm
theorem hd_equal (a b : Hd) (ha : a.ok) (hb : b.ok) (w : World) : (Op.equalIn 10000 67 (.agg (hdA a)) (.agg (hdA b))).run Try.prog w = .ok (decide (a = b)) w := by
  have hS : Try.prog.underlying 67 = some (.struct (Try.prog.fieldsOf 67)) := by kernel_rfl
  rw [show (10000 : Nat) = 9999 + 1 from rfl, run_equalIn_agg w 9999 67 _ _ hS (by kernel_rfl)]
  simp only [Program.fieldsOf, Try.underlying67]
  have pa0 := part_cell (hdA a) 0 (.int .i64 a.v) rfl
  have pb0 := part_cell (hdA b) 0 (.int .i64 b.v) rfl
  have pa1 := part_name (hdA a) 1 a.prev (hd_prev a ha)
  have pb1 := part_name (hdA b) 1 b.prev (hd_prev b hb)
  have pa2 := part_name (hdA a) 33 a.root (hd_root a ha)
  have pb2 := part_name (hdA b) 33 b.root (hd_root b hb)
  have pa3 := part_cell (hdA a) 65 (.int .i64 a.time) (hd_cell a ha 0)
  have pb3 := part_cell (hdA b) 65 (.int .i64 b.time) (hd_cell b hb 0)
  have pa4 := part_cell (hdA a) 66 (.int .i64 a.bits) (hd_cell a ha 1)
  have pb4 := part_cell (hdA b) 66 (.int .i64 b.bits) (hd_cell b hb 1)
  have pa5 := part_cell (hdA a) 67 (.int .i64 a.nonce) (hd_cell a ha 2)
  have pb5 := part_cell (hdA b) 67 (.int .i64 b.nonce) (hd_cell b hb 2)
  have q1 := eq_name a.prev b.prev ha.1 hb.1 9997
  have q2 := eq_name a.root b.root ha.2 hb.2 9997
  have q0 := fun x y => eq_int x y 9998
  have hdec : decide (a = b) = (a.v == b.v && (a.prev == b.prev && (a.root == b.root && (a.time == b.time && (a.bits == b.bits && a.nonce == b.nonce))))) := by
    rw [Bool.eq_iff_iff]
    simp only [decide_eq_true_eq, Bool.and_eq_true, beq_iff_eq]
    exact hd_ext a b
  rw [hdec]
  simp only [Op.eqFields, ne_eq, String.reduceEq, not_false_eq_true, if_true, Sem.run_bind, Sem.run_ite, Sem.run_pure, Result.andThen_ok, pa0, pb0, pa1, pb1, pa2, pb2, pa3, pb3, pa4, pb4, pa5, pb5, q0, q1, q2]
  clear hdec pa0 pb0 pa1 pb1 pa2 pb2 pa3 pb3 pa4 pb4 pa5 pb5 q0 q1 q2
  generalize (a.v == b.v) = x0
  generalize (a.prev == b.prev) = x1
  generalize (a.root == b.root) = x2
  generalize (a.time == b.time) = x3
  generalize (a.bits == b.bits) = x4
  generalize (a.nonce == b.nonce) = x5
  cases x0
  · rfl
  cases x1
  · rfl
  cases x2
  · rfl
  cases x3
  · rfl
  cases x4
  · rfl
  cases x5
  · rfl
  rfl
theorem hd_eql (a b : Hd) (ha : a.ok) (hb : b.ok) (g : Bool) (hg : decide (a = b) = g) (w : World) : (binOp .eql 67 (.agg (hdA a)) (.agg (hdA b))).run Try.prog w = .ok (.bool g) w := by
  rw [run_eql_struct, hd_equal a b ha hb, hg]; rfl
theorem hd_neq (a b : Hd) (ha : a.ok) (hb : b.ok) (g : Bool) (hg : (!decide (a = b)) = g) (w : World) : (binOp .neq 67 (.agg (hdA a)) (.agg (hdA b))).run Try.prog w = .ok (.bool g) w := by
  rw [run_neq_struct, hd_equal a b ha hb, ← hg]; rfl
theorem hn_eql (x y : List UInt8) (hx : x.length = 32) (hy : y.length = 32) (g : Bool) (hg : (x == y) = g) (w : World) : (binOp .eql 36 (.agg (bytesV x)) (.agg (bytesV y))).run Try.prog w = .ok (.bool g) w := by
  rw [run_eql_struct, show (10000 : Nat) = 9998 + 2 from rfl, eq_name x y hx hy, hg]; rfl
theorem hn_neq (x y : List UInt8) (hx : x.length = 32) (hy : y.length = 32) (g : Bool) (hg : (!(x == y)) = g) (w : World) : (binOp .neq 36 (.agg (bytesV x)) (.agg (bytesV y))).run Try.prog w = .ok (.bool g) w := by
  rw [run_neq_struct, show (10000 : Nat) = 9998 + 2 from rfl, eq_name x y hx hy, ← hg]; rfl
theorem hdz_eql (w : World) : (binOp .eql 67 (.agg (hdA hdZ)) (.agg #[.int .i64 0, .int .u8 0, .int .u8 0, .int .u8 0, .int .u8 0, .int .u8 0, .int .u8 0, .int .u8 0, .int .u8 0, .int .u8 0, .int .u8 0, .int .u8 0, .int .u8 0, .int .u8 0, .int .u8 0, .int .u8 0, .int .u8 0, .int .u8 0, .int .u8 0, .int .u8 0, .int .u8 0, .int .u8 0, .int .u8 0, .int .u8 0, .int .u8 0, .int .u8 0, .int .u8 0, .int .u8 0, .int .u8 0, .int .u8 0, .int .u8 0, .int .u8 0, .int .u8 0, .int .u8 0, .int .u8 0, .int .u8 0, .int .u8 0, .int .u8 0, .int .u8 0, .int .u8 0, .int .u8 0, .int .u8 0, .int .u8 0, .int .u8 0, .int .u8 0, .int .u8 0, .int .u8 0, .int .u8 0, .int .u8 0, .int .u8 0, .int .u8 0, .int .u8 0, .int .u8 0, .int .u8 0, .int .u8 0, .int .u8 0, .int .u8 0, .int .u8 0, .int .u8 0, .int .u8 0, .int .u8 0, .int .u8 0, .int .u8 0, .int .u8 0, .int .u8 0, .int .i64 0, .int .i64 0, .int .i64 0])).run Try.prog w = .ok (.bool true) w := hd_eql hdZ hdZ hdZ_ok hdZ_ok true rfl w
/-- two headers are compared, in whatever place -/
theorem wp_hdeql {o : Oper} {a : Act} {w : World} {K : Act → World → Prop} {Q : Exit → Act → World → Prop} (t' : TypeId) (x y : Operand) (ho : o.op = .binOp .eql 67 x y t') (xs ys : Array Value) (v : Value) (hx : a.eval x = .agg xs) (hy : a.eval y = .agg ys)
    (hq : (binOp .eql 67 (.agg xs) (.agg ys)).run Try.prog w = .ok v w) (h : K (a.put o.dst v) w) : o.wp Try.prog a w K Q := by
  unfold Oper.wp execOp
  simp only [ho, hx, hy, Sem.run_bind, Sem.run_pure, run_eqGuard_agg w .eql 67 x y xs ys hd_plain, Result.andThen_ok, hq]
  exact h
theorem hdeql_g {ops : Array Oper} {rest : List Oper} {o : Oper} {a : Act} {w : World} {Q : Exit → Act → World → Prop} (hw : Region.wanted o (yielded ops a.tmps) = true) (t' : TypeId) (x y : Operand) (ho : o.op = .binOp .eql 67 x y t') (xs ys : Array Value) (v : Value) (hx : a.eval x = .agg xs) (hy : a.eval y = .agg ys)
    (hq : ∀ w, (binOp .eql 67 (.agg xs) (.agg ys)).run Try.prog w = .ok v w) (h : wpList Try.prog ops Q rest (a.put o.dst v) w) : wpList Try.prog ops Q (o :: rest) a w :=
  BigFrame.wpList_want hw fun _ hK => wp_hdeql t' x y ho xs ys v hx hy (hq w) (hK _ _ h)
theorem hdeql_f {ops : Array Oper} {rest : List Oper} {o : Oper} {a : Act} {w : World} {Q : Exit → Act → World → Prop} (hgd : o.guard = none) (t' : TypeId) (x y : Operand) (ho : o.op = .binOp .eql 67 x y t') (xs ys : Array Value) (v : Value) (hx : a.eval x = .agg xs) (hy : a.eval y = .agg ys)
    (hq : ∀ w, (binOp .eql 67 (.agg xs) (.agg ys)).run Try.prog w = .ok v w) (h : wpList Try.prog ops Q rest (a.put o.dst v) w) : wpList Try.prog ops Q (o :: rest) a w :=
  wpList_plain hgd fun _ hK => wp_hdeql t' x y ho xs ys v hx hy (hq w) (hK _ _ h)
/-- .. in a region that draws its order -/
theorem quiet_hdeql {C : World → Prop} {a : Act} {o : Oper} {K : Act → Prop} (t' : TypeId) (x y : Operand) (ho : o.op = .binOp .eql 67 x y t') (xs ys : Array Value) (v : Value) (hx : a.eval x = .agg xs) (hy : a.eval y = .agg ys)
    (hq : ∀ w, (binOp .eql 67 (.agg xs) (.agg ys)).run Try.prog w = .ok v w) (hk : K (a.put o.dst v)) : o.quiet Try.prog a C K :=
  ⟨_, fun w' hw' => by
    unfold Oper.quietAt
    have this : (execOp a.eval o).run Try.prog w' = .ok (.value v) w' := by
      unfold execOp
      simp only [ho, hx, hy, Sem.run_bind, Sem.run_pure, run_eqGuard_agg w' .eql 67 x y xs ys hd_plain, Result.andThen_ok, hq]
    rw [this]
    exact ⟨rfl, rfl⟩, hk⟩
theorem quiet_hdneq {C : World → Prop} {a : Act} {o : Oper} {K : Act → Prop} (t' : TypeId) (x y : Operand) (ho : o.op = .binOp .neq 67 x y t') (xs ys : Array Value) (v : Value) (hx : a.eval x = .agg xs) (hy : a.eval y = .agg ys)
    (hq : ∀ w, (binOp .neq 67 (.agg xs) (.agg ys)).run Try.prog w = .ok v w) (hk : K (a.put o.dst v)) : o.quiet Try.prog a C K :=
  ⟨_, fun w' hw' => by
    unfold Oper.quietAt
    have this : (execOp a.eval o).run Try.prog w' = .ok (.value v) w' := by
      unfold execOp
      simp only [ho, hx, hy, Sem.run_bind, Sem.run_pure, run_eqGuard_agg w' .neq 67 x y xs ys hd_plain, Result.andThen_ok, hq]
    rw [this]
    exact ⟨rfl, rfl⟩, hk⟩
theorem quiet_heql {C : World → Prop} {a : Act} {o : Oper} {K : Act → Prop} (t' : TypeId) (x y : Operand) (ho : o.op = .binOp .eql 36 x y t') (xs ys : Array Value) (v : Value) (hx : a.eval x = .agg xs) (hy : a.eval y = .agg ys)
    (hq : ∀ w, (binOp .eql 36 (.agg xs) (.agg ys)).run Try.prog w = .ok v w) (hk : K (a.put o.dst v)) : o.quiet Try.prog a C K :=
  ⟨_, fun w' hw' => by
    unfold Oper.quietAt
    have this : (execOp a.eval o).run Try.prog w' = .ok (.value v) w' := by
      unfold execOp
      simp only [ho, hx, hy, Sem.run_bind, Sem.run_pure, run_eqGuard_agg w' .eql 36 x y xs ys hplain, Result.andThen_ok, hq]
    rw [this]
    exact ⟨rfl, rfl⟩, hk⟩
end Go.Proofs.Yteblphnpealefaa
/-
  Lists of headers: in memory; whether each hangs on the one ahead of it.
-/
namespace Go.Proofs.Yteblphnpealefaa
open Go.RowKit Mem Sc
/-! ### plain mathematics -/
def fol (hs : List Hd) : Nat → Bool
  | 0 => true
  | 1 => true
  | k + 2 => fol hs (k + 1) && ((hs.getD (k + 1) hdZ).prev == (hs.getD k hdZ).id)
theorem fol_more (hs : List Hd) (k : Nat) (h : fol hs k = false) : ∀ d, fol hs (k + d) = false
  | 0 => h
  | d + 1 => by
    have ih := fol_more hs k h d
    generalize hm : k + d = m at ih
    rw [show k + (d + 1) = m + 1 by omega]
    cases m with
    | zero => cases ih
    | succ m => show (fol hs (m + 1) && _) = false; rw [ih]; rfl
theorem fol_next (hs : List Hd) (k : Nat) : fol hs (k + 2) = (fol hs (k + 1) && ((hs.getD (k + 1) hdZ).prev == (hs.getD k hdZ).id)) := rfl
theorem getD_lt {hs : List Hd} {k : Nat} (h : k < hs.length) : hs.getD k hdZ = hs[k] := by
  rw [List.getD_eq_getElem?_getD, List.getElem?_eq_getElem h]; rfl
theorem getD_app (l : List Hd) (x : Hd) (k : Nat) (h : k < l.length) : (l ++ [x]).getD k hdZ = l.getD k hdZ := by
  rw [List.getD_eq_getElem?_getD, List.getD_eq_getElem?_getD, List.getElem?_append_left h]
theorem getD_last (l : List Hd) (x : Hd) (k : Nat) (h : l.length = k) : (l ++ [x]).getD k hdZ = x := by
  rw [List.getD_eq_getElem?_getD, List.getElem?_append_right (by omega), h, Nat.sub_self]; rfl
theorem fol_app (l : List Hd) (x : Hd) : ∀ k, k ≤ l.length → fol (l ++ [x]) k = fol l k
  | 0, _ => rfl
  | 1, _ => rfl
  | k + 2, h => by rw [fol_next, fol_next, fol_app l x (k + 1) (by omega), getD_app l x _ (by omega), getD_app l x _ (by omega)]
/-- the headers, each tied to the one ahead of it -/
def tied (hs : List Hd) : Nat → List Hd
  | 0 => []
  | 1 => [hs.getD 0 hdZ]
  | k + 2 => tied hs (k + 1) ++ [{ hs.getD (k + 1) hdZ with prev := ((tied hs (k + 1)).getD k hdZ).id }]
theorem tied_length (hs : List Hd) : ∀ k, (tied hs k).length = k
  | 0 => rfl
  | 1 => rfl
  | k + 2 => by unfold tied; rw [List.length_append, tied_length hs (k + 1)]; rfl
theorem getD_ok {hs : List Hd} (h : ∀ x ∈ hs, x.ok) (k : Nat) : (hs.getD k hdZ).ok := by
  by_cases hk : k < hs.length
  · rw [getD_lt hk]; exact h _ (List.getElem_mem hk)
  · rw [List.getD_eq_getElem?_getD, List.getElem?_eq_none (by omega)]; exact hdZ_ok
theorem fol_tied (hs : List Hd) : ∀ k, fol (tied hs k) k = true
  | 0 => rfl
  | 1 => rfl
  | k + 2 => by
    have hl := tied_length hs (k + 1)
    have e : tied hs (k + 2) = tied hs (k + 1) ++ [{ hs.getD (k + 1) hdZ with prev := ((tied hs (k + 1)).getD k hdZ).id }] := rfl
    rw [fol_next, e, fol_app _ _ _ (by omega), fol_tied hs (k + 1), getD_last _ _ _ hl, getD_app _ _ _ (by omega)]
    simp
/-! ### in memory -/
/-- headers lie where a slice says -/
def HeadersAt (w : World) (a : Option Addr) (hs : List Hd) : Prop :=
  0 < hs.length → ∃ ab ao, a = some ⟨ab, ao, none⟩ ∧ ab < w.heap.size ∧ ∀ i (hi : i < hs.length), hs[i].ok ∧ w.rangeAt ab (ao + i * 68) (hdC hs[i])
theorem hdC_pos (h : Hd) : 0 < (hdC h).length := by simp [hdC]
theorem HeadersAt.below {w w' : World} {a : Option Addr} {hs : List Hd} (h : HeadersAt w a hs) (hb : Below w.heap.size w w') : HeadersAt w' a hs := fun h0 => by
  obtain ⟨ab, ao, ha, hlt, hc⟩ := h h0
  exact ⟨ab, ao, ha, Nat.lt_of_lt_of_le hlt hb.size, fun i hi => ⟨(hc i hi).1, range_below (hc i hi).2 hb (hdC_pos _)⟩⟩
theorem range_prev {w : World} {g o : Nat} {h : Hd} (hr : w.rangeAt g o (hdC h)) : w.rangeAt g (o + 1) (Lib.byteCells h.prev) := fun j u hu => by
  have := hr (1 + j) u (hdC_prev j u hu)
  rwa [show o + (1 + j) = o + 1 + j by omega] at this
def headersC (hs : List Hd) : List Value := hs.flatMap hdC
theorem headersC_get (hs : List Hd) (h : ∀ x ∈ hs, x.ok) (i j : Nat) (hi : i < hs.length) (hj : j < 68) : (headersC hs)[i * 68 + j]? = (hdC hs[i])[j]? := by
  induction hs generalizing i with
  | nil => simp at hi
  | cons x hs ih =>
    have hx : (hdC x).length = 68 := hdC_length (h x (by simp))
    show (hdC x ++ headersC hs)[i * 68 + j]? = _
    cases i with
    | zero => rw [List.getElem?_append_left (by omega)]; simp
    | succ i =>
      rw [List.getElem?_append_right (by omega), hx, show (i + 1) * 68 + j - 68 = i * 68 + j by omega, ih (fun y hy => h y (by simp [hy])) i (by simpa using hi)]
      rfl
theorem owns_headers {w : World} {base : Nat} {v : Value} {n : Nat} {hs : List Hd} (h : w.ownsRow base 67 68 v n (headersC hs)) (hn : n = hs.length) (hok : ∀ x ∈ hs, x.ok) :
    ∃ a c, v = .slice a n c ∧ HeadersAt w a hs := by
  rcases h.2 with ⟨rfl, rfl⟩ | ⟨g, cap, cur, rfl, hb, hg, hc, hm, hcs, ht⟩
  · exact ⟨none, 0, rfl, fun h0 => by omega⟩
  · refine ⟨_, _, rfl, fun h0 => ⟨g, 0, rfl, Has.lt hg, fun i hi => ⟨hok _ (List.getElem_mem hi), fun j u hu => ?_⟩⟩⟩
    have hj : j < 68 := by
      have := (List.getElem?_eq_some_iff.1 hu).1
      rwa [hdC_length (hok _ (List.getElem_mem hi))] at this
    rw [← headersC_get hs hok i j hi hj] at hu
    have hH : Has w g cur 67 := hg
    rw [Nat.zero_add, hH.cell, ← hu, ← ht, List.getElem?_take_of_lt (by omega), Array.getElem?_toList]
theorem hd_zero : ((Try.prog.info? 67).bind (·.zero)).map (·.cells.size) = some 68 := by kernel_rfl
theorem hd_bytes : (Try.prog.info? 67).map (·.bytes) = some 96 := by kernel_rfl
theorem hd_info : ∃ i z, Try.prog.info? 67 = some i ∧ i.zero = some z ∧ i.size = 68 ∧ i.bytes = 96 ∧ z.cells.size = 68 := by
  have h1 := hdinfo
  have h2 := hd_zero
  have h3 := hd_bytes
  cases hi : Try.prog.info? 67 with
  | none => rw [hi] at h1; cases h1
  | some i =>
    rw [hi] at h1 h2 h3
    simp only [Option.map_some, Option.some.injEq, Option.bind_some] at h1 h2 h3
    cases hz : i.zero with
    | none => rw [hz] at h2; cases h2
    | some z =>
      rw [hz] at h2
      simp only [Option.map_some, Option.some.injEq] at h2
      exact ⟨i, z, rfl, hz, h1, h3, h2⟩
theorem build_hd1 (cs : Array Value) (h : cs.size = 68) (w : World) : (Instr.buildSlice 37 1 #[(0, .agg cs)]).run Try.prog w = .ok (.slice (some ⟨w.heap.size, 0, none⟩) 1 1) (w.alloc (.cells cs 67)) := by
  obtain ⟨i, z, hi, hz, h1, h2, h3⟩ := hd_info
  refine run_buildSlice w 37 67 1 _ cs i z Try.underlying37 hi hz (by rw [h1]; decide) (by rw [h1]; decide) ?_
  rw [h1]
  exact fill_one 68 _ cs (by simp) h
theorem build_hd {ops : Array Oper} {rest : List Oper} {o : Oper} {a : Act} {w : World} {Q : Exit → Act → World → Prop} (hgd : o.guard = none) (p : Operand) (ho : o.op = .buildSlice 37 1 #[(0, p)]) (cs : Array Value) (hp : a.eval p = .agg cs) (hs : cs.size = 68)
    (h : wpList Try.prog ops Q rest (a.put o.dst (.slice (some ⟨w.heap.size, 0, none⟩) 1 1)) (w.alloc (.cells cs 67))) : wpList Try.prog ops Q (o :: rest) a w :=
  wpList_plain hgd fun _ hK => by
    unfold Oper.wp execOp
    simp only [ho, Sem.run_bind]
    rw [show (#[(0, p)] : Array (Nat × Operand)).map (fun (i, x) => (i, a.eval x)) = #[(0, .agg cs)] by simp [hp]]
    rw [build_hd1 cs hs w]
    exact hK _ _ h
theorem news_hd (w : World) (h : Hd) : ∀ j u, (hdC h)[j]? = some u → (w.alloc (.cells (hdA h) 67)).cell? ((⟨w.heap.size, 0, none⟩ : Addr).add j) = some u := by
  have := World.news_of_block (heap_alloc_new w (.cells (hdA h) 67))
  exact this
end Go.Proofs.Yteblphnpealefaa
