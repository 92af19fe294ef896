/-
  A region that draws its order, shown by what holds of each operation's result: one duty an operation, whatever the order.
-/
import Derived.WalkKit
import Derived.Orders
namespace Go.Proofs.YteachheacllblaaDoor.Rgn
open Go.RowKit

/-- What holds while a region runs: the world's own law C; each slot that an operation wrote meets its law R; the others are as they were. -/
structure RInv (ops : Array Oper) (a0 : Act) (w0 : World) (C : World → Prop) (R : Nat → Value → World → Prop) (listed : Array Bool) (a : Act) (w : World) : Prop where
  size : listed.size = ops.size
  tsize : a.tmps.size = a0.tmps.size
  defers : a.defers = a0.defers
  below : Below w0.heap.size w0 w
  c : C w
  old : ∀ t, (∀ (i : Nat) (o : Oper), ops[i]? = some o → listed.getD i false = true → o.dst ≠ some t) → a.eval (.tmp t) = a0.eval (.tmp t)
  got : ∀ (i : Nat) (o : Oper) (d : Tmp), ops[i]? = some o → listed.getD i false = true → o.dst = some d → R i (a.eval (.tmp d)) w

theorem put_same (a : Act) (d : Tmp) (v : Value) (h : d < a.tmps.size) : (a.put (some d) v).eval (.tmp d) = v := by
  simp [Act.eval, Act.put, h]
theorem getD_set (listed : Array Bool) (i j : Nat) (hi : i < listed.size) : (listed.setIfInBounds i true).getD j false = if i = j then true else listed.getD j false := by
  simp only [Array.getD_eq_getD_getElem?, Array.getElem?_setIfInBounds]
  by_cases h : i = j
  · subst h; simp [hi]
  · simp [h]

theorem RInv.put {ops : Array Oper} {a0 : Act} {w0 : World} {C : World → Prop} {R : Nat → Value → World → Prop} {listed : Array Bool} {a : Act} {w : World}
    (h : RInv ops a0 w0 C R listed a w) (hC : ∀ w w', C w → Below w.heap.size w w' → C w') (hR : ∀ i v w w', C w → Below w.heap.size w w' → R i v w → R i v w')
    (hd : ∀ (i j : Nat) (oi oj : Oper) (d : Tmp), ops[i]? = some oi → ops[j]? = some oj → oi.dst = some d → oj.dst = some d → i = j)
    (ht : ∀ (i : Nat) (o : Oper) (d : Tmp), ops[i]? = some o → o.dst = some d → d < a0.tmps.size)
    {i : Nat} {o : Oper} (hi : ops[i]? = some o) {v : Value} {w' : World} (hb : Below w.heap.size w w') (hv : R i v w') :
    RInv ops a0 w0 C R (listed.setIfInBounds i true) (a.put o.dst v) w' := by
  have hil : i < listed.size := by rw [h.size]; exact (Array.getElem?_eq_some_iff.1 hi).1
  refine ⟨by simp [h.size], ?_, ?_, h.below.trans (hb.mono h.below.size), hC _ _ h.c hb, fun t hnt => ?_, fun j oj d hj hlj hdj => ?_⟩
  · cases hdd : o.dst <;> simp [Act.put, h.tsize]
  · cases hdd : o.dst <;> simp [Act.put, h.defers]
  · have hne : o.dst ≠ some t := hnt i o hi (by rw [getD_set _ _ _ hil, if_pos rfl])
    rw [Act.eval_put (fun d hdd e => hne (by rw [hdd]; cases e; rfl))]
    refine h.old t fun j oj hj hlj => hnt j oj hj ?_
    rw [getD_set _ _ _ hil]; split
    · rfl
    · exact hlj
  · by_cases e : i = j
    · subst e
      obtain rfl : o = oj := Option.some.inj (hi.symm.trans hj)
      rw [hdj, put_same _ _ _ (by rw [h.tsize]; exact ht i o d hi hdj)]
      exact hv
    · rw [getD_set _ _ _ hil, if_neg e] at hlj
      rw [Act.eval_put (fun d' hdd he => by cases he; exact e (hd i j o oj d hi hj hdd hdj))]
      exact hR j _ w w' h.c hb (h.got j oj d hj hlj hdj)

theorem count_list : ∀ (l : List Bool) (i : Nat), i < l.length → l[i]?.getD false = false → ∀ fuel, (l.filter (!·)).length ≤ fuel + 1 → ((l.set i true).filter (!·)).length ≤ fuel
  | [], _, h, _, _, _ => by simp at h
  | b :: l, 0, _, hn, fuel, h => by
    simp at hn
    subst hn
    simpa using h
  | true :: l, i + 1, hi, hn, fuel, h => by
    have := count_list l i (by simpa using hi) (by simpa using hn) fuel (by simpa using h)
    simpa using this
  | false :: l, i + 1, hi, hn, 0, h => by
    exfalso
    have hi' : i < l.length := by simpa using hi
    have hn' : l[i]?.getD false = false := by simpa using hn
    rw [List.getElem?_eq_getElem hi', Option.getD_some] at hn'
    have hm : false ∈ l := by rw [← hn']; exact List.getElem_mem hi'
    have : 0 < (l.filter (!·)).length := List.length_pos_of_mem (List.mem_filter.2 ⟨hm, rfl⟩)
    simp at h
    have h0 : (l.filter (!·)) = [] := by rw [List.filter_eq_nil_iff]; simpa using h
    rw [h0] at this
    exact absurd this (by simp)
  | false :: l, i + 1, hi, hn, fuel + 1, h => by
    have := count_list l i (by simpa using hi) (by simpa using hn) fuel (by simpa using h)
    simpa using this
theorem count_set (listed : Array Bool) (i : Nat) (hi : i < listed.size) (hn : listed.getD i false = false) (fuel : Nat) (h : (listed.toList.filter (!·)).length ≤ fuel + 1) : ((listed.setIfInBounds i true).toList.filter (!·)).length ≤ fuel := by
  rw [Array.toList_setIfInBounds]
  exact count_list _ i (by simpa using hi) (by simpa [Array.getD_eq_getD_getElem?] using hn) fuel h
theorem none_left (listed : Array Bool) (h : (listed.toList.filter (!·)).length ≤ 0) (i : Nat) (hi : i < listed.size) : listed.getD i false = true := by
  have h0 : listed.toList.filter (!·) = [] := List.eq_nil_of_length_eq_zero (by omega)
  rw [List.filter_eq_nil_iff] at h0
  have := h0 listed[i] (by simp)
  simpa [Array.getD_eq_getD_getElem?, hi] using this

theorem not_ready {md : Region.Mode} {ops : Array Oper} {listed : Array Bool} {i : Nat} (h : i ∈ Region.ready md ops listed) : listed.getD i true = false ∧ ∃ o, ops[i]? = some o ∧ ∀ e ∈ o.after, Region.binds md e = true → listed.getD e.on false = true := by
  unfold Region.ready at h
  rw [List.mem_filter] at h
  obtain ⟨h1, h2⟩ := h
  simp only [Bool.and_eq_true, Bool.not_eq_true'] at h2
  obtain ⟨h2, h3⟩ := h2
  refine ⟨h2, ?_⟩
  have hi : i < ops.size := by simpa using h1
  refine ⟨ops[i], by simp [hi], fun e he hb => ?_⟩
  simp [hi] at h3
  obtain ⟨k, hk, rfl⟩ := Array.getElem_of_mem he
  rcases h3 k hk with h | h
  · rw [hb] at h; cases h
  · simpa [Array.getD_eq_getD_getElem?] using h

/-- the region's own tables: each slot is written once, inside the frame; what an operation waits for stands ahead of it -/
def tidy (ops : Array Oper) (n : Nat) : Bool :=
  ops.toList.all (fun o => (o.dst.map (fun d => decide (d < n))).getD true) &&
  (List.range ops.size).all (fun i => (List.range i).all (fun j => match (ops[i]?).bind (·.dst), (ops[j]?).bind (·.dst) with | some d, some d' => d != d' | _, _ => true)) &&
  (List.range ops.size).all (fun i => ((ops[i]?).map (fun o => o.after.all (fun e => decide (e.on < i)))).getD true)
theorem tidy_lt {ops : Array Oper} {n : Nat} (h : tidy ops n = true) (i : Nat) (o : Oper) (d : Tmp) (hi : ops[i]? = some o) (hd : o.dst = some d) : d < n := by
  simp only [tidy, Bool.and_eq_true] at h
  have := List.all_eq_true.1 h.1.1 o (by simpa using Array.mem_of_getElem? hi)
  simpa [hd] using this
theorem tidy_apart' {ops : Array Oper} {n : Nat} (h : tidy ops n = true) (i j : Nat) (oi oj : Oper) (d : Tmp) (hi : ops[i]? = some oi) (hj : ops[j]? = some oj) (hdi : oi.dst = some d) (hdj : oj.dst = some d) (hlt : j < i) : False := by
  simp only [tidy, Bool.and_eq_true] at h
  have h1 := List.all_eq_true.1 h.1.2 i (by have := (Array.getElem?_eq_some_iff.1 hi).1; simpa using this)
  have h2 := List.all_eq_true.1 h1 j (by simpa using hlt)
  simp [hi, hj, hdi, hdj] at h2
theorem tidy_apart {ops : Array Oper} {n : Nat} (h : tidy ops n = true) (i j : Nat) (oi oj : Oper) (d : Tmp) (hi : ops[i]? = some oi) (hj : ops[j]? = some oj) (hdi : oi.dst = some d) (hdj : oj.dst = some d) : i = j := by
  rcases Nat.lt_trichotomy i j with hlt | e | hlt
  · exact (tidy_apart' h j i oj oi d hj hi hdj hdi hlt).elim
  · exact e
  · exact (tidy_apart' h i j oi oj d hi hj hdi hdj hlt).elim
theorem tidy_back {ops : Array Oper} {n : Nat} (h : tidy ops n = true) (i : Nat) (o : Oper) (hi : ops[i]? = some o) (e : Edge) (he : e ∈ o.after) : e.on < i := by
  simp only [tidy, Bool.and_eq_true] at h
  have h1 := List.all_eq_true.1 h.2 i (by have := (Array.getElem?_eq_some_iff.1 hi).1; simpa using this)
  simp only [hi, Option.map_some, Option.getD_some, Array.all_eq_true_iff_forall_mem, decide_eq_true_eq] at h1
  exact h1 e he
theorem all_listed {md : Region.Mode} {ops : Array Oper} {n : Nat} (h : tidy ops n = true) {listed : Array Bool} (hs : listed.size = ops.size) (hr : Region.ready md ops listed = []) : ∀ i, i < ops.size → listed.getD i false = true := by
  intro i
  induction i using Nat.strongRecOn with
  | ind i ih =>
    intro hi
    by_cases hc : listed.getD i false = true
    · exact hc
    · exfalso
      have : i ∈ Region.ready md ops listed := by
        unfold Region.ready
        rw [List.mem_filter]
        refine ⟨by simpa using hi, ?_⟩
        have h1 : listed.getD i true = false := by
          simp only [Array.getD_eq_getD_getElem?, Array.getElem?_eq_getElem (show i < listed.size by omega), Option.getD_some] at hc ⊢
          simpa using hc
        rw [h1]
        simp only [Bool.not_false, Bool.true_and, Array.getElem?_eq_getElem hi, Option.map_some, Option.getD_some, Array.all_eq_true_iff_forall_mem]
        intro e he
        have hlt := tidy_back h i ops[i] (by simp [hi]) e he
        rw [ih e.on hlt (by omega)]
        simp
      rw [hr] at this
      cases this

theorem any_inv {P : Program} {md : Region.Mode} {ops : Array Oper} {Q : Exit → Act → World → Prop} {a0 : Act} {w0 : World} {C : World → Prop} {R : Nat → Value → World → Prop}
    (hC : ∀ w w', C w → Below w.heap.size w w' → C w') (hR : ∀ i v w w', C w → Below w.heap.size w w' → R i v w → R i v w') (htd : tidy ops a0.tmps.size = true)
    (hstep : ∀ (i : Nat) (o : Oper) (listed : Array Bool) (a : Act) (w : World), ops[i]? = some o → (∀ e ∈ o.after, Region.binds md e = true → listed.getD e.on false = true) → RInv ops a0 w0 C R listed a w →
      if Region.wanted o (yielded ops a.tmps) = true then o.wp P a w (fun a' w' => Below w.heap.size w w' ∧ ∃ v, a' = a.put o.dst v ∧ R i v w') Q else R i undef w)
    (hend : ∀ (listed : Array Bool) (a : Act) (w : World), (∀ i, i < ops.size → listed.getD i false = true) → RInv ops a0 w0 C R listed a w → Q .normal a w) :
    ∀ (fuel : Nat) (listed : Array Bool) (a : Act) (w : World), (listed.toList.filter (!·)).length ≤ fuel → RInv ops a0 w0 C R listed a w → wpAny P md ops Q fuel listed a w := by
  intro fuel
  induction fuel with
  | zero =>
    intro listed a w hf h
    have hall : ∀ i, i < ops.size → listed.getD i false = true := fun i hi => none_left listed hf i (by rw [h.size]; exact hi)
    refine ⟨?_, hend listed a w hall h⟩
    unfold Region.ready
    rw [List.filter_eq_nil_iff]
    intro i hi
    have hi' : i < ops.size := by simpa using hi
    have := hall i hi'
    simp only [Array.getD_eq_getD_getElem?, Array.getElem?_eq_getElem (show i < listed.size by rw [h.size]; exact hi'), Option.getD_some] at this ⊢
    simp [this]
  | succ fuel ih =>
    intro listed a w hf h
    refine ⟨fun hr => hend listed a w (all_listed htd h.size hr) h, fun i hi => ?_⟩
    obtain ⟨hn, o, ho, hdeps⟩ := not_ready hi
    have hil : i < listed.size := by rw [h.size]; exact (Array.getElem?_eq_some_iff.1 ho).1
    have hn' : listed.getD i false = false := by
      simp only [Array.getD_eq_getD_getElem?, Array.getElem?_eq_getElem hil, Option.getD_some] at hn ⊢; exact hn
    have hs := hstep i o listed a w ho hdeps h
    have next : ∀ (a' : Act) (w' : World), (Below w.heap.size w w' ∧ ∃ v, a' = a.put o.dst v ∧ R i v w') → wpAny P md ops Q fuel (listed.setIfInBounds i true) a' w' := fun a' w' ⟨hb, v, ha, hv⟩ => by
      subst ha
      exact ih _ _ _ (count_set listed i hil hn' fuel hf) (h.put hC hR (tidy_apart htd) (tidy_lt htd) ho hb hv)
    unfold wpOp
    simp only [ho]
    split
    · rename_i hw
      rw [if_pos hw] at hs
      exact .inl (Oper.wp_mono next hs)
    · rename_i hw
      rw [if_neg hw] at hs
      exact next _ _ ⟨Below.refl _ _, undef, rfl, hs⟩

/-- THE LAW. -/
theorem wp_region_inv {P : Program} {id : Nat} {ops : Array Oper} {Q : Exit → Act → World → Prop} {a0 : Act} {w0 : World} (hm : P.follows .mixedOrders = true) (C : World → Prop) (R : Nat → Value → World → Prop)
    (hC : ∀ w w', C w → Below w.heap.size w w' → C w') (hR : ∀ i v w w', C w → Below w.heap.size w w' → R i v w → R i v w') (htd : tidy ops a0.tmps.size = true) (h0 : C w0)
    (hstep : ∀ (i : Nat) (o : Oper) (listed : Array Bool) (a : Act) (w : World), ops[i]? = some o → (∀ e ∈ o.after, Region.binds .any e = true → listed.getD e.on false = true) → RInv ops a0 w0 C R listed a w →
      if Region.wanted o (yielded ops a.tmps) = true then o.wp P a w (fun a' w' => Below w.heap.size w w' ∧ ∃ v, a' = a.put o.dst v ∧ R i v w') Q else R i undef w)
    (hend : ∀ (listed : Array Bool) (a : Act) (w : World), (∀ i, i < ops.size → listed.getD i false = true) → RInv ops a0 w0 C R listed a w → Q .normal a w) :
    (Code.region id ops true).wp P Q a0 w0 := by
  refine wp_region_any hm (any_inv hC hR htd hstep hend _ _ _ _ ?_ ?_)
  · simp
  · have hd : Below w0.heap.size w0 { w0 with drawn := w0.drawn + 1 } := ⟨rfl, rfl, rfl, Nat.le_refl _, fun _ _ => rfl⟩
    refine ⟨by simp, rfl, rfl, hd, hC _ _ h0 hd, fun _ _ => rfl, fun i o d hi hl => ?_⟩
    simp [Array.getD_eq_getD_getElem?, (Array.getElem?_eq_some_iff.1 hi).1] at hl
/-- What a slot holds: a value; a slice of one string that the region made; whatever. -/
inductive SlotSpec where
  | val (v : Value)
  | sl (s : ByteArray)
  | any
def SlotSpec.holds : SlotSpec → Value → World → Prop
  | .val x, v, _ => v = x
  | .sl s, v, w => ∃ b, v = .slice (some ⟨b, 0, none⟩) 1 1 ∧ w.cell? ⟨b, 0, none⟩ = some (.string s)
  | .any, _, _ => True
theorem SlotSpec.stays (sp : SlotSpec) (v : Value) (w w' : World) (hb : Below w.heap.size w w') (h : sp.holds v w) : sp.holds v w' := by
  cases sp with
  | val x => exact h
  | sl s =>
    obtain ⟨b, hv, hc⟩ := h
    exact ⟨b, hv, (hb.cell (p := ⟨b, 0, none⟩) (block_lt_of_cell hc)).trans hc⟩
  | any => trivial
theorem yielded_of {ops : Array Oper} {a : Act} {j : Nat} {o : Oper} {d : Tmp} {b : Bool} (hj : ops[j]? = some o) (hd : o.dst = some d) (h : a.eval (.tmp d) = .bool b) : yielded ops a.tmps j = some b := by
  unfold yielded
  have hs : a.tmps[d]? = some (.bool b) := by
    simp only [Act.eval, Array.getD_eq_getD_getElem?] at h
    cases he : a.tmps[d]? with
    | none => rw [he] at h; simp [undef] at h
    | some v => rw [he] at h; simpa using h
  simp [hj, hd, hs]
theorem wanted_of {ops : Array Oper} {a : Act} {o : Oper} {j : Nat} {b : Bool} (hg : o.guard = some (j, b)) (h : yielded ops a.tmps j = some b) : Region.wanted o (yielded ops a.tmps) = true := by
  unfold Region.wanted
  rw [hg]
  simp [h]
theorem wanted_free {ops : Array Oper} {a : Act} {o : Oper} (hg : o.guard = none) : Region.wanted o (yielded ops a.tmps) = true := by
  unfold Region.wanted
  rw [hg]
theorem RInv.old' {ops : Array Oper} {a0 : Act} {w0 : World} {C : World → Prop} {R : Nat → Value → World → Prop} {listed : Array Bool} {a : Act} {w : World}
    (h : RInv ops a0 w0 C R listed a w) (t : Tmp) (hn : ops.toList.all (fun o => o.dst != some t) = true) : a.eval (.tmp t) = a0.eval (.tmp t) :=
  h.old t fun i o hi _ e => by
    have := List.all_eq_true.1 hn o (by simpa using Array.mem_of_getElem? hi)
    rw [e] at this
    simp at this
/-- an operation that only reads -/
theorem duty_value {P : Program} {ops : Array Oper} {o : Oper} {a : Act} {w : World} {Q : Exit → Act → World → Prop} {R : Value → World → Prop} {v : Value}
    (hn : Region.wanted o (yielded ops a.tmps) = true) (h : (execOp a.eval o).run P w = .ok (.value v) w) (hr : R v w) :
    if Region.wanted o (yielded ops a.tmps) = true then o.wp P a w (fun a' w' => Below w.heap.size w w' ∧ ∃ v, a' = a.put o.dst v ∧ R v w') Q else R undef w := by
  rw [if_pos hn]
  unfold Oper.wp
  rw [h]
  exact ⟨Below.refl _ _, v, rfl, hr⟩
/-- an operation that makes memory -/
theorem duty_made {P : Program} {ops : Array Oper} {o : Oper} {a : Act} {w w' : World} {Q : Exit → Act → World → Prop} {R : Value → World → Prop} {v : Value}
    (hn : Region.wanted o (yielded ops a.tmps) = true) (h : (execOp a.eval o).run P w = .ok (.value v) w') (hb : Below w.heap.size w w') (hr : R v w') :
    if Region.wanted o (yielded ops a.tmps) = true then o.wp P a w (fun a' w' => Below w.heap.size w w' ∧ ∃ v, a' = a.put o.dst v ∧ R v w') Q else R undef w := by
  rw [if_pos hn]
  unfold Oper.wp
  rw [h]
  exact ⟨hb, v, rfl, hr⟩
/-- a call of a Go function, by its contract -/
theorem duty_call {P : Program} {ops : Array Oper} {o : Oper} {a : Act} {w : World} {Q : Exit → Act → World → Prop} {R : Value → World → Prop} {f : FuncId} {args : Array Value} {v : Value}
    (hn : Region.wanted o (yielded ops a.tmps) = true) (h : (execOp a.eval o).run P w = .ok (.enter f args) w) (hc : Calls P f args w fun e w' => e = .returned v ∧ Below w.heap.size w w') (hr : ∀ w', Below w.heap.size w w' → R v w') :
    if Region.wanted o (yielded ops a.tmps) = true then o.wp P a w (fun a' w' => Below w.heap.size w w' ∧ ∃ v, a' = a.put o.dst v ∧ R v w') Q else R undef w := by
  rw [if_pos hn]
  unfold Oper.wp
  rw [h]
  refine Calls.mono hc fun e w' he => ?_
  obtain ⟨rfl, hb⟩ := he
  exact ⟨hb, v, rfl, hr w' hb⟩
section
variable {P : Program} {ρ : Operand → Value} {o : Oper} {w w' : World}
theorem ex_convert {s d : TypeId} {x : Operand} {v : Value} (hop : o.op = .convert s d x) (h : (Go.convert s d (ρ x)).run P w = .ok v w') : (execOp ρ o).run P w = .ok (.value v) w' := by
  unfold execOp
  rw [hop]
  simp only [Sem.run_bind, h, Result.andThen_ok]
  rfl
theorem ex_eql {t u : TypeId} {x y : Operand} {xs ys : Array Value} {v : Value} (hop : o.op = .binOp .eql t x y u) (hx : ρ x = .agg xs) (hy : ρ y = .agg ys) (hg : P.eqGuardType P.depth t = false)
    (h : (binOp .eql t (.agg xs) (.agg ys)).run P w = .ok v w) : (execOp ρ o).run P w = .ok (.value v) w := by
  unfold execOp
  rw [hop]
  simp only [hx, hy, Sem.run_bind, run_eqGuard_agg w .eql t x y xs ys hg, h, Result.andThen_ok]
  rfl
theorem ex_bin {op : BinOp} {t u : TypeId} {x y : Operand} {v : Value} (hop : o.op = .binOp op t x y u) (hn1 : op ≠ .eql) (hn2 : op ≠ .neq)
    (h : (binOp op t (ρ x) (ρ y)).run P w = .ok v w') : (execOp ρ o).run P w = .ok (.value v) w' := by
  unfold execOp
  rw [hop]
  have hg : (eqGuard op t x y (ρ x) (ρ y)).run P w = .ok () w := by
    cases op <;> first | exact absurd rfl hn1 | exact absurd rfl hn2 | rfl
  simp only [Sem.run_bind, hg, h, Result.andThen_ok]
  rfl
theorem ex_buildSlice {t : TypeId} {n : Nat} {parts : Array (Nat × Operand)} {v : Value} (hop : o.op = .buildSlice t n parts) (h : (Instr.buildSlice t n (parts.map fun (i, x) => (i, ρ x))).run P w = .ok v w') : (execOp ρ o).run P w = .ok (.value v) w' := by
  unfold execOp
  rw [hop]
  simp only [Sem.run_bind, h, Result.andThen_ok]
  rfl
theorem ex_slice1 {t : TypeId} {x : Operand} {u v : Value} (hop : o.op = .buildSlice t 1 #[(0, x)]) (hx : ρ x = u) (h : (Instr.buildSlice t 1 #[(0, u)]).run P w = .ok v w') : (execOp ρ o).run P w = .ok (.value v) w' :=
  ex_buildSlice hop (by simpa [hx] using h)
theorem ex_pick {c x y : Operand} {b : Bool} (hop : o.op = .pick c x y) (hc : ρ c = .bool b) : (execOp ρ o).run P w = .ok (.value (if b then ρ x else ρ y)) w := by
  unfold execOp
  rw [hop]
  simp only [hc]
  rfl
end
end Go.Proofs.YteachheacllblaaDoor.Rgn
