/-
  Operations of drawn regions, in the table's form, for numbers, rows and maps; a map from ints to ints.
-/
import Derived.Test.YtehineieklpgoaaSrRow
import Derived.Test.YtehineieklpgoaaRgTab
import Derived.Deep.DeepCutAuto
import Derived.Deep.CutBlock
import Derived.Maps.AppendAt
namespace Go.Proofs.Ytehineieklpgoaa.An
open Go.RowKit Mem Go.Maps NN.Rg2
open Sr (upd)
set_option maxRecDepth 100000
section
variable {w : World} {p : Addr} {q a : Option Addr} {n c : Nat} {z : Int} {b : Bool} {u : Value} {m : Option Nat}
theorem ld_i (h : w.cell? p = some (.int .i64 z)) : (loadVar 3 p).run Try.prog w = .ok (.int .i64 z) w := by go_simp
theorem ld_sl (h : w.cell? p = some (.slice a n c)) : (loadVar 28 p).run Try.prog w = .ok (.slice a n c) w := by go_simp
theorem ld_mp (h : w.cell? p = some (.map m)) : (loadVar 46 p).run Try.prog w = .ok (.map m) w := by go_simp
theorem sv_i (hf : w.frozen? p = false) (hc : w.cell? p = some u) : (storeVar 3 p (.int .i64 z)).run Try.prog w = .ok () (w.setCell p (.int .i64 z)) := by go_simp
end
section
variable {ρ : Operand → Value} {o : Oper} {w w' : World} {g : Nat}
theorem ex_load_of {T : TypeId} {x : Operand} {p : Addr} {u : Value} (ho : o.op = .load T x) (hx : ρ x = .pointer (some p)) (hl : (loadVar T p).run Try.prog w = .ok u w) : (execOp ρ o).run Try.prog w = .ok (.value u) w := by
  unfold execOp
  simp only [ho, hx, Instr.loadAt, Instr.sureAddr, Sem.run_bind, Sem.run_pure, Result.andThen_ok, hl]
theorem ex_store_of {T : TypeId} {x y : Operand} {p : Addr} {u : Value} (ho : o.op = .store T x y) (hx : ρ x = .pointer (some p)) (hy : ρ y = u) (hl : (storeVar T p u).run Try.prog w = .ok () w') : (execOp ρ o).run Try.prog w = .ok .skip w' := by
  unfold execOp
  simp only [ho, hx, hy, Instr.storeAt, Instr.sureAddr, Sem.run_bind, Sem.run_pure, Result.andThen_ok, hl]
theorem ex_eqi {x y : Operand} {a b : Int} {g : Bool} (ho : o.op = .binOp .eql 3 x y 3) (hx : ρ x = .int .i64 a) (hy : ρ y = .int .i64 b) (h : (a == b) = g) : (execOp ρ o).run Try.prog w = .ok (.value (.bool g)) w := by
  unfold execOp
  subst h
  simp only [ho, hx, hy]
  kernel_rfl
theorem ex_neqi {x y : Operand} {a b : Int} {g : Bool} (ho : o.op = .binOp .neq 3 x y 3) (hx : ρ x = .int .i64 a) (hy : ρ y = .int .i64 b) (h : (a != b) = g) : (execOp ρ o).run Try.prog w = .ok (.value (.bool g)) w := by
  unfold execOp
  subst h
  simp only [ho, hx, hy]
  kernel_rfl
theorem ex_neqb {x y : Operand} {a b g : Bool} (ho : o.op = .binOp .neq 4 x y 4) (hx : ρ x = .bool a) (hy : ρ y = .bool b) (h : (a != b) = g) : (execOp ρ o).run Try.prog w = .ok (.value (.bool g)) w := by
  unfold execOp
  subst h
  simp only [ho, hx, hy]
  kernel_rfl
theorem ex_addi {x y : Operand} {c d z : Int} (ho : o.op = .binOp .add 3 x y 3) (hx : ρ x = .int .i64 c) (hy : ρ y = .int .i64 d) (hz : IntKind.i64.wrap (c + d) = z) : (execOp ρ o).run Try.prog w = .ok (.value (.int .i64 z)) w := by
  subst hz
  unfold execOp
  simp only [ho, hx, hy]
  kernel_rfl
theorem ex_len {x : Operand} {a : Option Addr} {n c : Nat} (ho : o.op = .call { callee := .builtin .len, args := #[x], argTypes := #[28] }) (hx : ρ x = .slice a n c) : (execOp ρ o).run Try.prog w = .ok (.value (.int .i64 (n : Int))) w := by
  unfold execOp
  simp only [ho]
  simp only [resolve, invoke, builtin, Sem.run_bind, Sem.run_pure, Result.andThen_ok]
  simp [hx, Builtin.len_, goInt, run_underlying Try.underlying28, Result.andThen]
theorem ex_min {x y : Operand} {a b m : Int} (ho : o.op = .call { callee := .builtin .min, args := #[x, y], argTypes := #[3, 3] }) (hx : ρ x = .int .i64 a) (hy : ρ y = .int .i64 b) (h : m = min a b) : (execOp ρ o).run Try.prog w = .ok (.value (.int .i64 m)) w := by
  unfold execOp
  simp only [ho]
  simp only [resolve, invoke, builtin, Sem.run_bind, Sem.run_pure, Result.andThen_ok]
  simp [hx, hy, run_min_int2, Result.andThen, show (if b < a then b else a) = m by split <;> omega]
theorem ex_idx {T : TypeId} {x y : Operand} {g j f m : Nat} {n c : Nat} (ho : o.op = .indexAddr T x y) (hx : ρ x = .slice (some ⟨g, f, none⟩) n c) (hy : ρ y = .int .i64 (j : Int)) (hf : (Instr.indexAt T (.slice (some ⟨g, f, none⟩) n c) (.int .i64 (j : Int))).run Try.prog w = .ok (.pointer (some ⟨g, m, none⟩)) w) : (execOp ρ o).run Try.prog w = .ok (.value (.pointer (some ⟨g, m, none⟩))) w := by
  unfold execOp
  simp only [ho, hx, hy, Sem.run_bind, hf, Result.andThen_ok]
  rfl
theorem idx_ints (w : World) (g f j n c : Nat) (hj : j < n) : (Instr.indexAt 28 (.slice (some ⟨g, f, none⟩) n c) (.int .i64 (j : Int))).run Try.prog w = .ok (.pointer (some ⟨g, f + j, none⟩)) w := by
  go_simp
end
/-! ### a map from ints to ints -/
theorem intLaw : Keyed Try.prog 3 := int_keyed Try.underlying3
theorem zeroInt (w : World) : (zeroValue 3).run Try.prog w = .ok (.int .i64 0) w := by kernel_rfl
theorem wf64 {x : Int} (h : in64 x) : (Lit.int .i64 x).wf = true := WalkArith.wf_i64 (by obtain ⟨h1, h2⟩ := h; omega)
theorem key64 {x : Int} (h : in64 x) : keyOf Try.prog 3 (.int .i64 x) = some (.int .i64 x) := keyOf_int_mk Try.underlying3 (wf64 h)
theorem nat64 {n : Nat} (h : n < 1000) : (Lit.int .i64 (n : Int)).wf = true := WalkArith.wf_i64 (by omega)
/-- block b is a map that tells this of each int, by so many entries at most -/
def MapP (w : World) (b n : Nat) (p : Int → Nat) : Prop :=
  ∃ D : DataW Unit, w.ownsMap Try.prog 3 (plainElem Try.prog 3) b n D ∧ IsMap D ∧ ∀ x : Int, in64 x → D.atKey (.int .i64 x) (.lit (.int .i64 0)) = .lit (.int .i64 (p x : Int))
section
variable {w w' : World} {b n : Nat} {p : Int → Nat}
theorem MapP.lt (h : MapP w b n p) : b < w.heap.size := by obtain ⟨D, h, _⟩ := h; exact h.lt
theorem MapP.on (h : MapP w b n p) (hb : w'.heap[b]? = w.heap[b]?) : MapP w' b n p := by
  obtain ⟨D, ⟨es, clock, h1, h2⟩, h3⟩ := h
  exact ⟨D, ⟨es, clock, hb.trans h1, h2⟩, h3⟩
theorem MapP.not_cells (h : MapP w b n p) {cs : Array Value} {t : TypeId} {fr : Nat × Nat} {k : Nat} (hk : w.heap[k]? = some (.cells cs t fr)) : k ≠ b := by
  rintro rfl
  obtain ⟨D, ⟨es, clock, h1, _⟩, _⟩ := h
  rw [h1] at hk
  cases hk
theorem MapP.more (h : MapP w b n p) {m : Nat} (hm : n ≤ m) : MapP w b m p := by
  obtain ⟨D, ⟨es, clock, h1, h2, h4, h5⟩, h3⟩ := h
  exact ⟨D, ⟨es, clock, h1, h2, Nat.le_trans h4 hm, h5⟩, h3⟩
theorem MapP.made (w : World) : MapP (w.alloc (.map #[] 0)) w.heap.size 0 fun _ => 0 :=
  ⟨.map [], World.ownsMap_made w _ _ _, ⟨[], rfl⟩, fun _ _ => rfl⟩
/-- 'm[k]' -/
theorem MapP.look (h : MapP w b n p) {x : Int} (hx : in64 x) : (Instr.lookup 46 (.map (some b)) (.int .i64 x) false).run Try.prog w = .ok (.int .i64 (p x : Int)) w := by
  obtain ⟨D, hown, _, hD⟩ := h
  obtain ⟨v, ps, hrun, hv⟩ := hown.lookup intLaw Try.underlying46 (zeroInt w) (plainElem_int Try.underlying3 (a := 0) (by decide)) (key64 hx)
  obtain ⟨c, rfl, hc, _⟩ := plainElem_int_inv Try.underlying3 hv
  rw [hD x hx] at hc
  have h1 := congrArg Prod.fst hc
  simp only [DataW.lit.injEq, Lit.int.injEq, true_and] at h1
  rw [h1]
  exact hrun
theorem mapp_put {ops : Array Oper} {rest : List Oper} {o : Oper} {a : Act} {Q : Exit → Act → World → Prop} (hgd : o.guard = none) (x y z : Operand) (ho : o.op = .mapUpdate 46 x y z) (k : Int) (v : Nat) (hx : a.eval x = .map (some b)) (hy : a.eval y = .int .i64 k) (hz : a.eval z = .int .i64 (v : Int)) (h : MapP w b n p) (hk : in64 k) (hn : n < 1000) (hv : v < 1000)
    (hK : ∀ w', MapP w' b (n + 1) (upd p k v) → w.grownBy w' (some b) → wpList Try.prog ops Q rest (a.put o.dst undef) w') : wpList Try.prog ops Q (o :: rest) a w := by
  obtain ⟨D, hown, hM, hD⟩ := h
  refine wpList_mapUpdate_own w hgd x y z _ ho _ _ intLaw Try.underlying46 _ b n D hx hown (by unfold maxLen; omega) _ _ (.int .i64 k) hy hz (key64 hk) (.lit (.int .i64 (v : Int))) [] (plainElem_int Try.underlying3 (nat64 hv)) fun w' h1 h2 => hK w' ⟨_, h1, hM.put _ _, fun y hy => ?_⟩ h2
  by_cases e : y = k
  · subst e
    rw [atKey_put_same hM (intLaw.key (key64 hk)), Sr.upd_same]
  · rw [atKey_put_other (fun h => e (by injection h)), hD y hy, Sr.upd_other _ _ e]
theorem mapp_del {ops : Array Oper} {rest : List Oper} {o : Oper} {a : Act} {Q : Exit → Act → World → Prop} (hgd : o.guard = none) (x y : Operand) (ho : o.op = .call { callee := .builtin .delete, args := #[x, y], argTypes := #[46, 3] }) (k : Int) (hx : a.eval x = .map (some b)) (hy : a.eval y = .int .i64 k) (h : MapP w b n p) (hk : in64 k)
    (hK : ∀ w', MapP w' b n (upd p k 0) → w.grownBy w' (some b) → wpList Try.prog ops Q rest (a.put o.dst (.tuple #[])) w') : wpList Try.prog ops Q (o :: rest) a w := by
  obtain ⟨D, hown, hM, hD⟩ := h
  refine wpList_delete_own w hgd x y _ _ ho _ intLaw Try.underlying46 _ b n D hx hown _ _ hy (key64 hk) fun w' h1 h2 => hK w' ⟨_, h1, hM.del _, fun y hy => ?_⟩ h2.grown
  by_cases e : y = k
  · subst e
    rw [atKey_del_same, Sr.upd_same]
    rfl
  · rw [atKey_del_other (fun h => e (by injection h)), hD y hy, Sr.upd_other _ _ e]
theorem ex_look {ρ : Operand → Value} {o : Oper} {x y : Operand} {k : Int} {z : Int} (ho : o.op = .lookup 46 x y false) (hx : ρ x = .map (some b)) (hy : ρ y = .int .i64 k) (h : MapP w b n p) (hk : in64 k) (hz : (p k : Int) = z) : (execOp ρ o).run Try.prog w = .ok (.value (.int .i64 z)) w := by
  subst hz
  unfold execOp
  simp only [ho, hx, hy, Sem.run_bind, h.look hk, Result.andThen_ok]
  rfl
end
/-! ### one more behind a row of ints -/
theorem app_row {w : World} {ops : Array Oper} {rest : List Oper} {o : Oper} {a : Act} {Q : Exit → Act → World → Prop} (hgd : o.guard = none) (s x : Operand) (ho : o.op = .call { callee := .builtin .append, args := #[s, x], argTypes := #[28, 28] })
    (v : Value) (l : List Int) (hs : a.eval s = v) (hown : RowI w v l) (g : Nat) (z : Int) (hx : a.eval x = .slice (some ⟨g, 0, none⟩) 1 1) (hg : w.cell? ⟨g, 0, none⟩ = some (.int .i64 z)) (hn : l.length ≤ 1000)
    (h : ∀ v' w', RowI w' v' (l ++ [z]) → w.grownBy w' v.ownBlock → (v'.ownBlock = v.ownBlock ∨ v'.ownBlock = some w.heap.size) → wpList Try.prog ops Q rest (a.put o.dst v') w') : wpList Try.prog ops Q (o :: rest) a w := by
  obtain ⟨i, y, hi, hz, h1, h2, h3⟩ := int_inf
  refine wpList_append_own_at _ hgd s x _ ho 0 _ i y 1 8 Try.underlying28 hi hz h1 h2 h3 (by decide) v l.length _ hs hown ⟨g, 0, none⟩ 1 1 [.int .i64 z] hx rfl (fun j u hj => ?_) (fun u hu => ?_) (by unfold maxLen; omega) (by omega) (Nat.zero_le _) (fun v' w' q1 q2 _ q3 => h v' w' ?_ q2 q3)
  · rw [Addr.add_lit, Nat.zero_add]
    match j, hj with
    | 0, hj => rw [hg]; exact hj
    | j + 1, hj => simp at hj
  · obtain rfl : u = .int .i64 z := by simpa using hu
    rfl
  · unfold RowI
    rw [List.length_append, List.map_append]
    exact q1
theorem build_int (w : World) (z : Int) : (Instr.buildSlice 28 1 #[(0, .int .i64 z)]).run Try.prog w = .ok (.slice (some ⟨w.heap.size, 0, none⟩) 1 1) (w.alloc (.cells #[.int .i64 z] 3)) := by kernel_rfl
end Go.Proofs.Ytehineieklpgoaa.An
