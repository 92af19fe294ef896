/-
  Names in memory: loads in a region that draws its order; two names are compared; a slice of names that is owned.
-/
import Derived.Test.YtmpllagaeoolaaaDoorZScMath2
namespace Go.Proofs.YtmpllagaeoolaaaDoor
open Go.RowKit Mem Sc
theorem quiet_hl_mid {C : World → Prop} {a : Act} {o : Oper} {K : Act → Prop} (x : Operand) (ho : o.op = .load 24 x) (g off : Nat) (hx : a.eval x = .pointer (some ⟨g, off, none⟩)) (l : List UInt8) (hs : (Lib.byteCells l).length = 32) (hC : ∀ w', C w' → w'.rangeAt g off (Lib.byteCells l))
    (hk : K (a.put o.dst (.agg (bytesV l)))) : o.quiet Tryd.prog a C K :=
  ⟨_, fun w' hw' => by
    unfold Oper.quietAt
    have this : (execOp a.eval o).run Tryd.prog w' = .ok (.value (.agg (bytesV l))) w' := by
      unfold execOp
      simp only [ho, hx, Sem.run_bind, run_loadAt_mid w' g off 24 (Lib.byteCells l) _ (hC w' hw') Tryd.underlying24 rfl (hinfo.trans (by rw [hs])), Result.andThen_ok]
      rfl
    rw [this]
    exact ⟨rfl, rfl⟩, hk⟩
theorem range_cls {w : World} {g off : Nat} {cs : List Value} (h : w.rangeAt g off cs) (h0 : 0 < cs.length) : ∀ w', (∃ p : Regrown, w' = Sort.grow (redrawn w p.d) p.os) → w'.rangeAt g off cs := by
  rintro w' ⟨p, rfl⟩
  exact range_below h (below_regrown _ _ _) h0
theorem hsize1 : ∀ w, (sizeOf 5).run Tryd.prog w = .ok 1 w := fun _ => by kernel_rfl
theorem hplain : Tryd.prog.eqGuardType Tryd.prog.depth 24 = false := by kernel_rfl
theorem hneq_self (l : List UInt8) (h : l.length = 32) (w : World) : (binOp .neq 24 (.agg (bytesV l)) (.agg (bytesV l))).run Tryd.prog w = .ok (.bool false) w := by
  have e : (binOp .neq 24 (.agg (bytesV l)) (.agg (bytesV l))).run Tryd.prog w = .ok (.bool (!(l == l))) w := by
    rw [run_neq_struct]
    have this : (Op.equalIn 10000 24 (.agg (bytesV l)) (.agg (bytesV l))).run Tryd.prog w = .ok (l == l) w :=
      run_equalIn_bytes (P := Tryd.prog) w 9998 24 5 32 Tryd.underlying24 Tryd.underlying5 hsize1 l l h h
    rw [this]
    rfl
  rw [e]; simp
theorem heql_self (l : List UInt8) (h : l.length = 32) (w : World) : (binOp .eql 24 (.agg (bytesV l)) (.agg (bytesV l))).run Tryd.prog w = .ok (.bool true) w := by
  have e : (binOp .eql 24 (.agg (bytesV l)) (.agg (bytesV l))).run Tryd.prog w = .ok (.bool (l == l)) w := run_eql_bytes w 24 5 32 Tryd.underlying24 Tryd.underlying5 hsize1 l l h h
  rw [e]; simp
/-- two names are compared in a region that draws its order -/
theorem quiet_hneq {C : World → Prop} {a : Act} {o : Oper} {K : Act → Prop} (t' : TypeId) (x y : Operand) (ho : o.op = .binOp .neq 24 x y t') (xs ys : Array Value) (v : Value) (hx : a.eval x = .agg xs) (hy : a.eval y = .agg ys)
    (hq : ∀ w, (binOp .neq 24 (.agg xs) (.agg ys)).run Tryd.prog w = .ok v w) (hk : K (a.put o.dst v)) : o.quiet Tryd.prog a C K :=
  ⟨_, fun w' hw' => by
    unfold Oper.quietAt
    have this : (execOp a.eval o).run Tryd.prog w' = .ok (.value v) w' := by
      unfold execOp
      simp only [ho, hx, hy, Sem.run_bind, Sem.run_pure, run_eqGuard_agg w' .neq 24 x y xs ys hplain, Result.andThen_ok, hq]
    rw [this]
    exact ⟨rfl, rfl⟩, hk⟩
theorem flat_get (ls : List (List UInt8)) (h : ∀ x ∈ ls, x.length = 32) (i j : Nat) (hi : i < ls.length) (hj : j < 32) : (namesC ls)[i * 32 + j]? = (Lib.byteCells ls[i])[j]? := by
  induction ls generalizing i with
  | nil => simp at hi
  | cons x ls ih =>
    have hx : (Lib.byteCells x).length = 32 := by rw [Lib.byteCells_length]; exact h x (by simp)
    show (Lib.byteCells x ++ namesC ls)[i * 32 + j]? = _
    cases i with
    | zero => rw [List.getElem?_append_left (by omega)]; simp
    | succ i =>
      rw [List.getElem?_append_right (by omega), hx, show (i + 1) * 32 + j - 32 = i * 32 + j by omega, ih (fun y hy => h y (by simp [hy])) i (by simpa using hi)]
      rfl
/-- a slice of names that is owned -/
theorem owns_names {w : World} {base : Nat} {v : Value} {n : Nat} {ls : List (List UInt8)} (h : w.ownsRow base 24 32 v n (namesC ls)) (hn : n = ls.length) (h32 : ∀ x ∈ ls, x.length = 32) :
    ∃ a c, v = .slice a n c ∧ NamesAt w a ls := by
  rcases h.2 with ⟨rfl, rfl⟩ | ⟨g, cap, cur, rfl, hb, hg, hc, hm, hcs, ht⟩
  · exact ⟨none, 0, rfl, fun h0 => by omega⟩
  · refine ⟨_, _, rfl, fun h0 => ⟨g, 0, rfl, Has.lt hg, fun i hi => ⟨h32 _ (List.getElem_mem hi), fun j u hu => ?_⟩⟩⟩
    have hj : j < 32 := by
      have := (List.getElem?_eq_some_iff.1 hu).1
      rw [Lib.byteCells_length, h32 _ (List.getElem_mem hi)] at this; exact this
    rw [Has.cell hg, Nat.zero_add, ← hu, ← flat_get ls h32 i j hi hj, ← ht, List.getElem?_take_of_lt (by omega), Array.getElem?_toList]
theorem NamesAt.below {w w' : World} {a : Option Addr} {ls : List (List UInt8)} (h : NamesAt w a ls) (hb : Below w.heap.size w w') : NamesAt w' a ls := fun h0 => by
  obtain ⟨ab, ao, ha, hl, hc⟩ := h h0
  exact ⟨ab, ao, ha, by have := hb.size; omega, fun i hi => ⟨(hc i hi).1, range_below (hc i hi).2 hb (by rw [Lib.byteCells_length, (hc i hi).1]; omega)⟩⟩
theorem flatten_size (ls : List (List UInt8)) (h : ∀ x ∈ ls, x.length = 32) : ls.flatten.length = 32 * ls.length := by
  induction ls with
  | nil => rfl
  | cons x ls ih =>
    rw [List.flatten_cons, List.length_append, ih (fun y hy => h y (by simp [hy])), h x (by simp), List.length_cons]; omega
theorem nameTo_txt (ls : List (List UInt8)) (h : ∀ x ∈ ls, x.length = 32) (r : List UInt8) (k : Nat) (hk : k ≤ ls.length) : Ey.nameTo ⟨txt (ls.flatten ++ r), false⟩ k = (ls.take k, ⟨txt ((ls.drop k).flatten ++ r), false⟩) := by
  induction k with
  | zero => rfl
  | succ k ih =>
    have hkl : k < ls.length := hk
    show ((Ey.nameTo _ k).1 ++ [(Ey.nameTo _ k).2.name.1], (Ey.nameTo _ k).2.name.2) = _
    rw [ih (by omega)]
    show (ls.take k ++ [(Ey.name ⟨txt ((ls.drop k).flatten ++ r), false⟩).1], (Ey.name ⟨txt ((ls.drop k).flatten ++ r), false⟩).2) = _
    rw [List.drop_eq_getElem_cons hkl, List.flatten_cons, List.append_assoc, name_txt _ _ (h _ (List.getElem_mem hkl)), List.take_succ_eq_append_getElem hkl]
theorem names_txt (ls : List (List UInt8)) (h : ∀ x ∈ ls, x.length = 32) : Ey.names ⟨txt ls.flatten, false⟩ (ls.length : Nat) = (ls, ⟨txt [], false⟩) := by
  have hsz : (txt ls.flatten).size = 32 * ls.length := by rw [txt_size, flatten_size ls h]
  unfold Ey.names
  rw [if_neg (by show ¬ ((txt ls.flatten).size : Int) / 32 < _; omega), Int.toNat_natCast]
  have := nameTo_txt ls h [] ls.length (Nat.le_refl _)
  rw [List.append_nil, List.take_length, List.drop_length] at this
  exact this
theorem names_more (ls : List (List UInt8)) (h : ∀ x ∈ ls, x.length = 32) (m : Int) (hm : 0 < m) : Ey.names ⟨txt ls.flatten, false⟩ ((ls.length : Nat) + m) = ([], dark) := by
  have hsz : (txt ls.flatten).size = 32 * ls.length := by rw [txt_size, flatten_size ls h]
  unfold Ey.names
  rw [if_pos (by show ((txt ls.flatten).size : Int) / 32 < _; omega)]
end Go.Proofs.YtmpllagaeoolaaaDoor
