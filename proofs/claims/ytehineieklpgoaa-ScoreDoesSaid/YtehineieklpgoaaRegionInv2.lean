/-
  A region that draws its order, shown by what holds of each operation's result: one duty an operation, whatever the order; operations may make memory and write what the region made.
-/
import Derived.WalkKit
import Derived.Orders
namespace Go.Proofs.Ytehineieklpgoaa.NN.Rg2
open Go.RowKit

/-- What holds while a region runs: the world's own law C; a law I of what has come up so far; each slot that an operation wrote meets its law R; the others are as they were; what has come up is closed under what it waits for. -/
structure RInv (md : Region.Mode) (ops : Array Oper) (a0 : Act) (C : World → Prop) (R : Nat → Value → World → Prop) (I : Array Bool → Act → World → Prop) (listed : Array Bool) (a : Act) (w : World) : Prop where
  size : listed.size = ops.size
  tsize : a.tmps.size = a0.tmps.size
  defers : a.defers = a0.defers
  c : C w
  i : I listed a w
  old : ∀ t, (∀ (i : Nat) (o : Oper), ops[i]? = some o → listed.getD i false = true → o.dst ≠ some t) → a.eval (.tmp t) = a0.eval (.tmp t)
  got : ∀ (i : Nat) (o : Oper) (d : Tmp), ops[i]? = some o → listed.getD i false = true → o.dst = some d → R i (a.eval (.tmp d)) w
  closed : ∀ (j : Nat) (o : Oper), ops[j]? = some o → listed.getD j false = true → ∀ e ∈ o.after, Region.binds md e = true → listed.getD e.on false = true

theorem put_same (a : Act) (d : Tmp) (v : Value) (h : d < a.tmps.size) : (a.put (some d) v).eval (.tmp d) = v := by
  simp [Act.eval, Act.put, h]
theorem getD_set (listed : Array Bool) (i j : Nat) (hi : i < listed.size) : (listed.setIfInBounds i true).getD j false = if i = j then true else listed.getD j false := by
  simp only [Array.getD_eq_getD_getElem?, Array.getElem?_setIfInBounds]
  by_cases h : i = j
  · subst h; simp [hi]
  · simp [h]

theorem RInv.put {md : Region.Mode} {ops : Array Oper} {a0 : Act} {C : World → Prop} {R : Nat → Value → World → Prop} {I : Array Bool → Act → World → Prop} {S : World → World → Prop} {listed : Array Bool} {a : Act} {w : World}
    (h : RInv md ops a0 C R I listed a w) (hR : ∀ i v w w', C w → S w w' → R i v w → R i v w')
    (hd : ∀ (i j : Nat) (oi oj : Oper) (d : Tmp), ops[i]? = some oi → ops[j]? = some oj → oi.dst = some d → oj.dst = some d → i = j)
    (ht : ∀ (i : Nat) (o : Oper) (d : Tmp), ops[i]? = some o → o.dst = some d → d < a0.tmps.size)
    {i : Nat} {o : Oper} (hi : ops[i]? = some o) (hdeps : ∀ e ∈ o.after, Region.binds md e = true → listed.getD e.on false = true) {v : Value} {w' : World} (hc : C w') (hs : S w w') (hv : R i v w') (hI : I (listed.setIfInBounds i true) (a.put o.dst v) w') :
    RInv md ops a0 C R I (listed.setIfInBounds i true) (a.put o.dst v) w' := by
  have hil : i < listed.size := by rw [h.size]; exact (Array.getElem?_eq_some_iff.1 hi).1
  have mono : ∀ j, listed.getD j false = true → (listed.setIfInBounds i true).getD j false = true := fun j hj => by
    rw [getD_set _ _ _ hil]; split
    · rfl
    · exact hj
  refine ⟨by simp [h.size], ?_, ?_, hc, hI, fun t hnt => ?_, fun j oj d hj hlj hdj => ?_, fun j oj hj hlj e he hb => ?_⟩
  · cases hdd : o.dst <;> simp [Act.put, h.tsize]
  · cases hdd : o.dst <;> simp [Act.put, h.defers]
  · have hne : o.dst ≠ some t := hnt i o hi (by rw [getD_set _ _ _ hil, if_pos rfl])
    rw [Act.eval_put (fun d hdd e => hne (by rw [hdd]; cases e; rfl))]
    exact h.old t fun j oj hj hlj => hnt j oj hj (mono j hlj)
  · by_cases e : i = j
    · subst e
      obtain rfl : o = oj := Option.some.inj (hi.symm.trans hj)
      rw [hdj, put_same _ _ _ (by rw [h.tsize]; exact ht i o d hi hdj)]
      exact hv
    · rw [getD_set _ _ _ hil, if_neg e] at hlj
      rw [Act.eval_put (fun d' hdd he => by cases he; exact e (hd i j o oj d hi hj hdd hdj))]
      exact hR j _ w w' h.c hs (h.got j oj d hj hlj hdj)
  · by_cases e' : i = j
    · subst e'
      obtain rfl : o = oj := Option.some.inj (hi.symm.trans hj)
      exact mono _ (hdeps e he hb)
    · rw [getD_set _ _ _ hil, if_neg e'] at hlj
      exact mono _ (h.closed j oj hj hlj e he hb)

theorem count_list : ∀ (l : List Bool) (i : Nat), i < l.length → l[i]?.getD false = false → ∀ fuel, (l.filter (!·)).length ≤ fuel + 1 → ((l.set i true).filter (!·)).length ≤ fuel
  | [], _, h, _, _, _ => by simp at h
  | b :: l, 0, _, hn, fuel, h => by
    simp at hn
    subst hn
    simpa using h
  | true :: l, i + 1, hi, hn, fuel, h => by
    have := count_list l i (by simpa using hi) (by simpa using hn) fuel (by simpa using h)
    simpa using this
  | false :: l, i + 1, hi, hn, 0, h => by
    exfalso
    have hi' : i < l.length := by simpa using hi
    have hn' : l[i]?.getD false = false := by simpa using hn
    rw [List.getElem?_eq_getElem hi', Option.getD_some] at hn'
    have hm : false ∈ l := by rw [← hn']; exact List.getElem_mem hi'
    have : 0 < (l.filter (!·)).length := List.length_pos_of_mem (List.mem_filter.2 ⟨hm, rfl⟩)
    simp at h
    have h0 : (l.filter (!·)) = [] := by rw [List.filter_eq_nil_iff]; simpa using h
    rw [h0] at this
    exact absurd this (by simp)
  | false :: l, i + 1, hi, hn, fuel + 1, h => by
    have := count_list l i (by simpa using hi) (by simpa using hn) fuel (by simpa using h)
    simpa using this
theorem count_set (listed : Array Bool) (i : Nat) (hi : i < listed.size) (hn : listed.getD i false = false) (fuel : Nat) (h : (listed.toList.filter (!·)).length ≤ fuel + 1) : ((listed.setIfInBounds i true).toList.filter (!·)).length ≤ fuel := by
  rw [Array.toList_setIfInBounds]
  exact count_list _ i (by simpa using hi) (by simpa [Array.getD_eq_getD_getElem?] using hn) fuel h
theorem none_left (listed : Array Bool) (h : (listed.toList.filter (!·)).length ≤ 0) (i : Nat) (hi : i < listed.size) : listed.getD i false = true := by
  have h0 : listed.toList.filter (!·) = [] := List.eq_nil_of_length_eq_zero (by omega)
  rw [List.filter_eq_nil_iff] at h0
  have := h0 listed[i] (by simp)
  simpa [Array.getD_eq_getD_getElem?, hi] using this

theorem not_ready {md : Region.Mode} {ops : Array Oper} {listed : Array Bool} {i : Nat} (h : i ∈ Region.ready md ops listed) : listed.getD i true = false ∧ ∃ o, ops[i]? = some o ∧ ∀ e ∈ o.after, Region.binds md e = true → listed.getD e.on false = true := by
  unfold Region.ready at h
  rw [List.mem_filter] at h
  obtain ⟨h1, h2⟩ := h
  simp only [Bool.and_eq_true, Bool.not_eq_true'] at h2
  obtain ⟨h2, h3⟩ := h2
  refine ⟨h2, ?_⟩
  have hi : i < ops.size := by simpa using h1
  refine ⟨ops[i], by simp [hi], fun e he hb => ?_⟩
  simp [hi] at h3
  obtain ⟨k, hk, rfl⟩ := Array.getElem_of_mem he
  rcases h3 k hk with h | h
  · rw [hb] at h; cases h
  · simpa [Array.getD_eq_getD_getElem?] using h

/-- the region's own tables: each slot is written once, inside the frame; what an operation waits for stands ahead of it -/
def tidy (ops : Array Oper) (n : Nat) : Bool :=
  ops.toList.all (fun o => (o.dst.map (fun d => decide (d < n))).getD true) &&
  (List.range ops.size).all (fun i => (List.range i).all (fun j => match (ops[i]?).bind (·.dst), (ops[j]?).bind (·.dst) with | some d, some d' => d != d' | _, _ => true)) &&
  (List.range ops.size).all (fun i => ((ops[i]?).map (fun o => o.after.all (fun e => !Region.binds .any e || decide (e.on < i)))).getD true)
theorem tidy_lt {ops : Array Oper} {n : Nat} (h : tidy ops n = true) (i : Nat) (o : Oper) (d : Tmp) (hi : ops[i]? = some o) (hd : o.dst = some d) : d < n := by
  simp only [tidy, Bool.and_eq_true] at h
  have := List.all_eq_true.1 h.1.1 o (by simpa using Array.mem_of_getElem? hi)
  simpa [hd] using this
theorem tidy_apart' {ops : Array Oper} {n : Nat} (h : tidy ops n = true) (i j : Nat) (oi oj : Oper) (d : Tmp) (hi : ops[i]? = some oi) (hj : ops[j]? = some oj) (hdi : oi.dst = some d) (hdj : oj.dst = some d) (hlt : j < i) : False := by
  simp only [tidy, Bool.and_eq_true] at h
  have h1 := List.all_eq_true.1 h.1.2 i (by have := (Array.getElem?_eq_some_iff.1 hi).1; simpa using this)
  have h2 := List.all_eq_true.1 h1 j (by simpa using hlt)
  simp [hi, hj, hdi, hdj] at h2
theorem tidy_apart {ops : Array Oper} {n : Nat} (h : tidy ops n = true) (i j : Nat) (oi oj : Oper) (d : Tmp) (hi : ops[i]? = some oi) (hj : ops[j]? = some oj) (hdi : oi.dst = some d) (hdj : oj.dst = some d) : i = j := by
  rcases Nat.lt_trichotomy i j with hlt | e | hlt
  · exact (tidy_apart' h j i oj oi d hj hi hdj hdi hlt).elim
  · exact e
  · exact (tidy_apart' h i j oi oj d hi hj hdi hdj hlt).elim
theorem tidy_back {ops : Array Oper} {n : Nat} (h : tidy ops n = true) (i : Nat) (o : Oper) (hi : ops[i]? = some o) (e : Edge) (he : e ∈ o.after) : Region.binds .any e = false ∨ e.on < i := by
  simp only [tidy, Bool.and_eq_true] at h
  have h1 := List.all_eq_true.1 h.2 i (by have := (Array.getElem?_eq_some_iff.1 hi).1; simpa using this)
  simp only [hi, Option.map_some, Option.getD_some, Array.all_eq_true_iff_forall_mem, Bool.or_eq_true, Bool.not_eq_true', decide_eq_true_eq] at h1
  exact h1 e he
theorem all_listed {ops : Array Oper} {n : Nat} (h : tidy ops n = true) {listed : Array Bool} (hs : listed.size = ops.size) (hr : Region.ready .any ops listed = []) : ∀ i, i < ops.size → listed.getD i false = true := by
  intro i
  induction i using Nat.strongRecOn with
  | ind i ih =>
    intro hi
    by_cases hc : listed.getD i false = true
    · exact hc
    · exfalso
      have : i ∈ Region.ready .any ops listed := by
        unfold Region.ready
        rw [List.mem_filter]
        refine ⟨by simpa using hi, ?_⟩
        have h1 : listed.getD i true = false := by
          simp only [Array.getD_eq_getD_getElem?, Array.getElem?_eq_getElem (show i < listed.size by omega), Option.getD_some] at hc ⊢
          simpa using hc
        rw [h1]
        simp only [Bool.not_false, Bool.true_and, Array.getElem?_eq_getElem hi, Option.map_some, Option.getD_some, Array.all_eq_true_iff_forall_mem]
        intro e he
        rcases tidy_back h i ops[i] (by simp [hi]) e he with hb | hlt
        · rw [hb]; simp
        · rw [ih e.on hlt (by omega)]
          simp
      rw [hr] at this
      cases this

theorem any_inv {P : Program} {ops : Array Oper} {Q : Exit → Act → World → Prop} {a0 : Act} {C : World → Prop} {R : Nat → Value → World → Prop} {I : Array Bool → Act → World → Prop} {S : World → World → Prop}
    (hS : ∀ w, C w → S w w) (hR : ∀ i v w w', C w → S w w' → R i v w → R i v w') (htd : tidy ops a0.tmps.size = true)
    (hstep : ∀ (i : Nat) (o : Oper) (listed : Array Bool) (a : Act) (w : World), ops[i]? = some o → listed.getD i false = false → (∀ e ∈ o.after, Region.binds .any e = true → listed.getD e.on false = true) → RInv .any ops a0 C R I listed a w →
      if Region.wanted o (yielded ops a.tmps) = true then o.wp P a w (fun a' w' => C w' ∧ S w w' ∧ ∃ v, a' = a.put o.dst v ∧ R i v w' ∧ I (listed.setIfInBounds i true) a' w') Q else R i undef w ∧ I (listed.setIfInBounds i true) (a.put o.dst undef) w)
    (hend : ∀ (listed : Array Bool) (a : Act) (w : World), (∀ i, i < ops.size → listed.getD i false = true) → RInv .any ops a0 C R I listed a w → Q .normal a w) :
    ∀ (fuel : Nat) (listed : Array Bool) (a : Act) (w : World), (listed.toList.filter (!·)).length ≤ fuel → RInv .any ops a0 C R I listed a w → wpAny P .any ops Q fuel listed a w := by
  intro fuel
  induction fuel with
  | zero =>
    intro listed a w hf h
    have hall : ∀ i, i < ops.size → listed.getD i false = true := fun i hi => none_left listed hf i (by rw [h.size]; exact hi)
    refine ⟨?_, hend listed a w hall h⟩
    unfold Region.ready
    rw [List.filter_eq_nil_iff]
    intro i hi
    have hi' : i < ops.size := by simpa using hi
    have := hall i hi'
    simp only [Array.getD_eq_getD_getElem?, Array.getElem?_eq_getElem (show i < listed.size by rw [h.size]; exact hi'), Option.getD_some] at this ⊢
    simp [this]
  | succ fuel ih =>
    intro listed a w hf h
    refine ⟨fun hr => hend listed a w (all_listed htd h.size hr) h, fun i hi => ?_⟩
    obtain ⟨hn, o, ho, hdeps⟩ := not_ready hi
    have hil : i < listed.size := by rw [h.size]; exact (Array.getElem?_eq_some_iff.1 ho).1
    have hn' : listed.getD i false = false := by
      simp only [Array.getD_eq_getD_getElem?, Array.getElem?_eq_getElem hil, Option.getD_some] at hn ⊢; exact hn
    have hs := hstep i o listed a w ho hn' hdeps h
    have next : ∀ (a' : Act) (w' : World), (C w' ∧ S w w' ∧ ∃ v, a' = a.put o.dst v ∧ R i v w' ∧ I (listed.setIfInBounds i true) a' w') → wpAny P .any ops Q fuel (listed.setIfInBounds i true) a' w' := fun a' w' ⟨hc, hss, v, ha, hv, hI⟩ => by
      subst ha
      exact ih _ _ _ (count_set listed i hil hn' fuel hf) (h.put hR (tidy_apart htd) (tidy_lt htd) ho hdeps hc hss hv hI)
    unfold wpOp
    simp only [ho]
    split
    · rename_i hw
      rw [if_pos hw] at hs
      exact .inl (Oper.wp_mono next hs)
    · rename_i hw
      rw [if_neg hw] at hs
      exact next _ _ ⟨h.c, hS w h.c, undef, rfl, hs.1, hs.2⟩

/-- THE LAW. -/
theorem wp_region_inv {P : Program} {id : Nat} {ops : Array Oper} {Q : Exit → Act → World → Prop} {a0 : Act} {w0 : World} (hm : P.follows .mixedOrders = true) (C : World → Prop) (R : Nat → Value → World → Prop) (I : Array Bool → Act → World → Prop) (S : World → World → Prop)
    (hS : ∀ w, C w → S w w) (hR : ∀ i v w w', C w → S w w' → R i v w → R i v w') (htd : tidy ops a0.tmps.size = true) (h0 : C w0.drew) (hI0 : ∀ listed : Array Bool, (∀ i, listed.getD i false = false) → I listed a0 w0.drew)
    (hstep : ∀ (i : Nat) (o : Oper) (listed : Array Bool) (a : Act) (w : World), ops[i]? = some o → listed.getD i false = false → (∀ e ∈ o.after, Region.binds .any e = true → listed.getD e.on false = true) → RInv .any ops a0 C R I listed a w →
      if Region.wanted o (yielded ops a.tmps) = true then o.wp P a w (fun a' w' => C w' ∧ S w w' ∧ ∃ v, a' = a.put o.dst v ∧ R i v w' ∧ I (listed.setIfInBounds i true) a' w') Q else R i undef w ∧ I (listed.setIfInBounds i true) (a.put o.dst undef) w)
    (hend : ∀ (listed : Array Bool) (a : Act) (w : World), (∀ i, i < ops.size → listed.getD i false = true) → RInv .any ops a0 C R I listed a w → Q .normal a w) :
    (Code.region id ops true).wp P Q a0 w0 := by
  have hno : ∀ i, (Array.replicate ops.size false).getD i false = false := fun i => by
    simp only [Array.getD_eq_getD_getElem?]
    by_cases h : i < ops.size
    · simp [h]
    · simp [Array.getElem?_eq_none (show (Array.replicate ops.size false).size ≤ i by simp; omega)]
  refine wp_region_any hm (any_inv hS hR htd hstep hend _ _ _ _ ?_ ?_)
  · simp
  · exact ⟨by simp, rfl, rfl, h0, hI0 _ hno, fun _ _ => rfl, (fun i o d hi hl => by rw [hno] at hl; cases hl), (fun j o hj hl => by rw [hno] at hl; cases hl)⟩
theorem yielded_of {ops : Array Oper} {a : Act} {j : Nat} {o : Oper} {d : Tmp} {b : Bool} (hj : ops[j]? = some o) (hd : o.dst = some d) (h : a.eval (.tmp d) = .bool b) : yielded ops a.tmps j = some b := by
  unfold yielded
  have hs : a.tmps[d]? = some (.bool b) := by
    simp only [Act.eval, Array.getD_eq_getD_getElem?] at h
    cases he : a.tmps[d]? with
    | none => rw [he] at h; simp [undef] at h
    | some v => rw [he] at h; simpa using h
  simp [hj, hd, hs]
theorem wanted_of {ops : Array Oper} {a : Act} {o : Oper} {j : Nat} {b : Bool} (hg : o.guard = some (j, b)) (h : yielded ops a.tmps j = some b) : Region.wanted o (yielded ops a.tmps) = true := by
  unfold Region.wanted
  rw [hg]
  simp [h]
theorem wanted_free {ops : Array Oper} {a : Act} {o : Oper} (hg : o.guard = none) : Region.wanted o (yielded ops a.tmps) = true := by
  unfold Region.wanted
  rw [hg]
/-- operation k waits for operation i -/
def waits (ops : Array Oper) (k i : Nat) : Bool := ((ops[k]?).map fun o => o.after.any fun e => Region.binds .any e && e.on == i).getD false
theorem RInv.after {ops : Array Oper} {a0 : Act} {C : World → Prop} {R : Nat → Value → World → Prop} {I : Array Bool → Act → World → Prop} {listed : Array Bool} {a : Act} {w : World}
    (h : RInv .any ops a0 C R I listed a w) {k i : Nat} (hw : waits ops k i = true) (hk : listed.getD k false = true) : listed.getD i false = true := by
  unfold waits at hw
  cases ho : ops[k]? with
  | none => rw [ho] at hw; simp at hw
  | some o =>
    rw [ho] at hw
    simp only [Option.map_some, Option.getD_some, Array.any_eq_true] at hw
    obtain ⟨j, hj, he⟩ := hw
    simp only [Bool.and_eq_true, beq_iff_eq] at he
    have := h.closed k o ho hk o.after[j] (by simp) he.1
    rwa [he.2] at this
/-- what waits for an operation that comes up now has not come up -/
theorem RInv.ahead {ops : Array Oper} {a0 : Act} {C : World → Prop} {R : Nat → Value → World → Prop} {I : Array Bool → Act → World → Prop} {listed : Array Bool} {a : Act} {w : World}
    (h : RInv .any ops a0 C R I listed a w) {k i : Nat} (hw : waits ops k i = true) (hn : listed.getD i false = false) (hil : i < ops.size) (hik : i ≠ k) : (listed.setIfInBounds i true).getD k false = false := by
  rw [getD_set _ _ _ (by rw [h.size]; exact hil), if_neg hik]
  cases hk : listed.getD k false with
  | false => rfl
  | true => rw [h.after hw hk] at hn; cases hn
theorem RInv.ahead2 {ops : Array Oper} {a0 : Act} {C : World → Prop} {R : Nat → Value → World → Prop} {I : Array Bool → Act → World → Prop} {listed : Array Bool} {a : Act} {w : World}
    (h : RInv .any ops a0 C R I listed a w) {k i : Nat} (m : Nat) (hw1 : waits ops k m = true) (hw : waits ops m i = true) (hn : listed.getD i false = false) (hil : i < ops.size) (hik : i ≠ k) : (listed.setIfInBounds i true).getD k false = false := by
  rw [getD_set _ _ _ (by rw [h.size]; exact hil), if_neg hik]
  cases hk : listed.getD k false with
  | false => rfl
  | true => rw [h.after hw (h.after hw1 hk)] at hn; cases hn
/-- operation k waits for operation i, by some steps -/
def reach (ops : Array Oper) : Nat → Nat → Nat → Bool
  | 0, k, i => waits ops k i
  | f + 1, k, i => waits ops k i || (List.range ops.size).any fun m => waits ops k m && reach ops f m i
theorem RInv.afterT {ops : Array Oper} {a0 : Act} {C : World → Prop} {R : Nat → Value → World → Prop} {I : Array Bool → Act → World → Prop} {listed : Array Bool} {a : Act} {w : World}
    (h : RInv .any ops a0 C R I listed a w) : ∀ (f : Nat) {k i : Nat}, reach ops f k i = true → listed.getD k false = true → listed.getD i false = true
  | 0, _, _, hw, hk => h.after hw hk
  | f + 1, k, i, hw, hk => by
    simp only [reach, Bool.or_eq_true, List.any_eq_true, Bool.and_eq_true] at hw
    rcases hw with hw | ⟨m, _, h1, h2⟩
    · exact h.after hw hk
    · exact h.afterT f h2 (h.after h1 hk)
theorem RInv.aheadT {ops : Array Oper} {a0 : Act} {C : World → Prop} {R : Nat → Value → World → Prop} {I : Array Bool → Act → World → Prop} {listed : Array Bool} {a : Act} {w : World}
    (h : RInv .any ops a0 C R I listed a w) (f : Nat) {k i : Nat} (hw : reach ops f k i = true) (hn : listed.getD i false = false) (hil : i < ops.size) (hik : i ≠ k) : (listed.setIfInBounds i true).getD k false = false := by
  rw [getD_set _ _ _ (by rw [h.size]; exact hil), if_neg hik]
  cases hk : listed.getD k false with
  | false => rfl
  | true => rw [h.afterT f hw hk] at hn; cases hn
theorem RInv.old' {md : Region.Mode} {ops : Array Oper} {a0 : Act} {C : World → Prop} {R : Nat → Value → World → Prop} {I : Array Bool → Act → World → Prop} {listed : Array Bool} {a : Act} {w : World}
    (h : RInv md ops a0 C R I listed a w) (t : Tmp) (hn : ops.toList.all (fun o => o.dst != some t) = true) : a.eval (.tmp t) = a0.eval (.tmp t) :=
  h.old t fun i o hi _ e => by
    have := List.all_eq_true.1 hn o (by simpa using Array.mem_of_getElem? hi)
    rw [e] at this
    simp at this
section
variable {P : Program} {ops : Array Oper} {o : Oper} {a : Act} {w w' : World} {Q : Exit → Act → World → Prop} {C : World → Prop} {S : World → World → Prop} {R : Value → World → Prop} {J : Act → World → Prop} {v : Value}
/-- an operation that only reads -/
theorem duty_value (hS : ∀ w, C w → S w w) (hc : C w) (hn : Region.wanted o (yielded ops a.tmps) = true) (h : (execOp a.eval o).run P w = .ok (.value v) w) (hr : R v w) (hJ : J (a.put o.dst v) w) :
    if Region.wanted o (yielded ops a.tmps) = true then o.wp P a w (fun a' w' => C w' ∧ S w w' ∧ ∃ v, a' = a.put o.dst v ∧ R v w' ∧ J a' w') Q else R undef w ∧ J (a.put o.dst undef) w := by
  rw [if_pos hn]
  unfold Oper.wp
  rw [h]
  exact ⟨hc, hS w hc, v, rfl, hr, hJ⟩
/-- an operation that makes memory -/
theorem duty_made (hn : Region.wanted o (yielded ops a.tmps) = true) (h : (execOp a.eval o).run P w = .ok (.value v) w') (hc : C w') (hs : S w w') (hr : R v w') (hJ : J (a.put o.dst v) w') :
    if Region.wanted o (yielded ops a.tmps) = true then o.wp P a w (fun a' w' => C w' ∧ S w w' ∧ ∃ v, a' = a.put o.dst v ∧ R v w' ∧ J a' w') Q else R undef w ∧ J (a.put o.dst undef) w := by
  rw [if_pos hn]
  unfold Oper.wp
  rw [h]
  exact ⟨hc, hs, v, rfl, hr, hJ⟩
/-- an operation that writes -/
theorem duty_store (hn : Region.wanted o (yielded ops a.tmps) = true) (h : (execOp a.eval o).run P w = .ok .skip w') (hc : C w') (hs : S w w') (hr : R undef w') (hJ : J (a.put o.dst undef) w') :
    if Region.wanted o (yielded ops a.tmps) = true then o.wp P a w (fun a' w' => C w' ∧ S w w' ∧ ∃ v, a' = a.put o.dst v ∧ R v w' ∧ J a' w') Q else R undef w ∧ J (a.put o.dst undef) w := by
  rw [if_pos hn]
  unfold Oper.wp
  rw [h]
  exact ⟨hc, hs, undef, rfl, hr, hJ⟩
/-- a call of a Go function, by its contract -/
theorem duty_call {f : FuncId} {args : Array Value} (hn : Region.wanted o (yielded ops a.tmps) = true) (h : (execOp a.eval o).run P w = .ok (.enter f args) w) (hcall : Calls P f args w fun e w' => e = .returned v ∧ Below w.heap.size w w')
    (hr : ∀ w', Below w.heap.size w w' → C w' ∧ S w w' ∧ R v w' ∧ J (a.put o.dst v) w') :
    if Region.wanted o (yielded ops a.tmps) = true then o.wp P a w (fun a' w' => C w' ∧ S w w' ∧ ∃ v, a' = a.put o.dst v ∧ R v w' ∧ J a' w') Q else R undef w ∧ J (a.put o.dst undef) w := by
  rw [if_pos hn]
  unfold Oper.wp
  rw [h]
  refine Calls.mono hcall fun e w' he => ?_
  obtain ⟨rfl, hb⟩ := he
  obtain ⟨h1, h2, h3, h4⟩ := hr w' hb
  exact ⟨h1, h2, v, rfl, h3, h4⟩
end
section
variable {P : Program} {ρ : Operand → Value} {o : Oper} {w w' : World}
theorem ex_convert {s d : TypeId} {x : Operand} {v : Value} (hop : o.op = .convert s d x) (h : (Go.convert s d (ρ x)).run P w = .ok v w') : (execOp ρ o).run P w = .ok (.value v) w' := by
  unfold execOp
  rw [hop]
  simp only [Sem.run_bind, h, Result.andThen_ok]
  rfl
theorem ex_eql {t u : TypeId} {x y : Operand} {xs ys : Array Value} {v : Value} (hop : o.op = .binOp .eql t x y u) (hx : ρ x = .agg xs) (hy : ρ y = .agg ys) (hg : P.eqGuardType P.depth t = false)
    (h : (binOp .eql t (.agg xs) (.agg ys)).run P w = .ok v w) : (execOp ρ o).run P w = .ok (.value v) w := by
  unfold execOp
  rw [hop]
  simp only [hx, hy, Sem.run_bind, run_eqGuard_agg w .eql t x y xs ys hg, h, Result.andThen_ok]
  rfl
theorem ex_bin {op : BinOp} {t u : TypeId} {x y : Operand} {v : Value} (hop : o.op = .binOp op t x y u) (hn1 : op ≠ .eql) (hn2 : op ≠ .neq)
    (h : (binOp op t (ρ x) (ρ y)).run P w = .ok v w') : (execOp ρ o).run P w = .ok (.value v) w' := by
  unfold execOp
  rw [hop]
  have hg : (eqGuard op t x y (ρ x) (ρ y)).run P w = .ok () w := by
    cases op <;> first | exact absurd rfl hn1 | exact absurd rfl hn2 | rfl
  simp only [Sem.run_bind, hg, h, Result.andThen_ok]
  rfl
theorem ex_buildSlice {t : TypeId} {n : Nat} {parts : Array (Nat × Operand)} {v : Value} (hop : o.op = .buildSlice t n parts) (h : (Instr.buildSlice t n (parts.map fun (i, x) => (i, ρ x))).run P w = .ok v w') : (execOp ρ o).run P w = .ok (.value v) w' := by
  unfold execOp
  rw [hop]
  simp only [Sem.run_bind, h, Result.andThen_ok]
  rfl
theorem ex_slice1 {t : TypeId} {x : Operand} {u v : Value} (hop : o.op = .buildSlice t 1 #[(0, x)]) (hx : ρ x = u) (h : (Instr.buildSlice t 1 #[(0, u)]).run P w = .ok v w') : (execOp ρ o).run P w = .ok (.value v) w' :=
  ex_buildSlice hop (by simpa [hx] using h)
theorem ex_pick {c x y : Operand} {b : Bool} (hop : o.op = .pick c x y) (hc : ρ c = .bool b) : (execOp ρ o).run P w = .ok (.value (if b then ρ x else ρ y)) w := by
  unfold execOp
  rw [hop]
  simp only [hc]
  rfl
end
end Go.Proofs.Ytehineieklpgoaa.NN.Rg2
