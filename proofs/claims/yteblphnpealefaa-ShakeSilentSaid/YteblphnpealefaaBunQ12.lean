/-
  Texts of this seat, one behind the other.
-/
import Derived.WalkKit
import Derived.Orders
/-
  A region that draws its order, shown by what holds of each operation's result: one duty an operation, whatever the order; operations may make memory and write what the region made.
-/
namespace Go.Proofs.Yteblphnpealefaa.Rg2
open Go.RowKit

/-- What holds while a region runs: the world's own law C; a law I of what has come up so far; each slot that an operation wrote meets its law R; the others are as they were; what has come up is closed under what it waits for. -/
structure RInv (md : Region.Mode) (ops : Array Oper) (a0 : Act) (C : World → Prop) (R : Nat → Value → World → Prop) (I : Array Bool → Act → World → Prop) (listed : Array Bool) (a : Act) (w : World) : Prop where
  size : listed.size = ops.size
  tsize : a.tmps.size = a0.tmps.size
  defers : a.defers = a0.defers
  c : C w
  i : I listed a w
  old : ∀ t, (∀ (i : Nat) (o : Oper), ops[i]? = some o → listed.getD i false = true → o.dst ≠ some t) → a.eval (.tmp t) = a0.eval (.tmp t)
  got : ∀ (i : Nat) (o : Oper) (d : Tmp), ops[i]? = some o → listed.getD i false = true → o.dst = some d → R i (a.eval (.tmp d)) w
  closed : ∀ (j : Nat) (o : Oper), ops[j]? = some o → listed.getD j false = true → ∀ e ∈ o.after, Region.binds md e = true → listed.getD e.on false = true

theorem put_same (a : Act) (d : Tmp) (v : Value) (h : d < a.tmps.size) : (a.put (some d) v).eval (.tmp d) = v := by
  simp [Act.eval, Act.put, h]
theorem getD_set (listed : Array Bool) (i j : Nat) (hi : i < listed.size) : (listed.setIfInBounds i true).getD j false = if i = j then true else listed.getD j false := by
  simp only [Array.getD_eq_getD_getElem?, Array.getElem?_setIfInBounds]
  by_cases h : i = j
  · subst h; simp [hi]
  · simp [h]

theorem RInv.put {md : Region.Mode} {ops : Array Oper} {a0 : Act} {C : World → Prop} {R : Nat → Value → World → Prop} {I : Array Bool → Act → World → Prop} {S : World → World → Prop} {listed : Array Bool} {a : Act} {w : World}
    (h : RInv md ops a0 C R I listed a w) (hR : ∀ i v w w', C w → S w w' → R i v w → R i v w')
    (hd : ∀ (i j : Nat) (oi oj : Oper) (d : Tmp), ops[i]? = some oi → ops[j]? = some oj → oi.dst = some d → oj.dst = some d → i = j)
    (ht : ∀ (i : Nat) (o : Oper) (d : Tmp), ops[i]? = some o → o.dst = some d → d < a0.tmps.size)
    {i : Nat} {o : Oper} (hi : ops[i]? = some o) (hdeps : ∀ e ∈ o.after, Region.binds md e = true → listed.getD e.on false = true) {v : Value} {w' : World} (hc : C w') (hs : S w w') (hv : R i v w') (hI : I (listed.setIfInBounds i true) (a.put o.dst v) w') :
    RInv md ops a0 C R I (listed.setIfInBounds i true) (a.put o.dst v) w' := by
  have hil : i < listed.size := by rw [h.size]; exact (Array.getElem?_eq_some_iff.1 hi).1
  have mono : ∀ j, listed.getD j false = true → (listed.setIfInBounds i true).getD j false = true := fun j hj => by
    rw [getD_set _ _ _ hil]; split
    · rfl
    · exact hj
  refine ⟨by simp [h.size], ?_, ?_, hc, hI, fun t hnt => ?_, fun j oj d hj hlj hdj => ?_, fun j oj hj hlj e he hb => ?_⟩
  · cases hdd : o.dst <;> simp [Act.put, h.tsize]
  · cases hdd : o.dst <;> simp [Act.put, h.defers]
  · have hne : o.dst ≠ some t := hnt i o hi (by rw [getD_set _ _ _ hil, if_pos rfl])
    rw [Act.eval_put (fun d hdd e => hne (by rw [hdd]; cases e; rfl))]
    exact h.old t fun j oj hj hlj => hnt j oj hj (mono j hlj)
  · by_cases e : i = j
    · subst e
      obtain rfl : o = oj := Option.some.inj (hi.symm.trans hj)
      rw [hdj, put_same _ _ _ (by rw [h.tsize]; exact ht i o d hi hdj)]
      exact hv
    · rw [getD_set _ _ _ hil, if_neg e] at hlj
      rw [Act.eval_put (fun d' hdd he => by cases he; exact e (hd i j o oj d hi hj hdd hdj))]
      exact hR j _ w w' h.c hs (h.got j oj d hj hlj hdj)
  · by_cases e' : i = j
    · subst e'
      obtain rfl : o = oj := Option.some.inj (hi.symm.trans hj)
      exact mono _ (hdeps e he hb)
    · rw [getD_set _ _ _ hil, if_neg e'] at hlj
      exact mono _ (h.closed j oj hj hlj e he hb)

theorem count_list : ∀ (l : List Bool) (i : Nat), i < l.length → l[i]?.getD false = false → ∀ fuel, (l.filter (!·)).length ≤ fuel + 1 → ((l.set i true).filter (!·)).length ≤ fuel
  | [], _, h, _, _, _ => by simp at h
  | b :: l, 0, _, hn, fuel, h => by
    simp at hn
    subst hn
    simpa using h
  | true :: l, i + 1, hi, hn, fuel, h => by
    have := count_list l i (by simpa using hi) (by simpa using hn) fuel (by simpa using h)
    simpa using this
  | false :: l, i + 1, hi, hn, 0, h => by
    exfalso
    have hi' : i < l.length := by simpa using hi
    have hn' : l[i]?.getD false = false := by simpa using hn
    rw [List.getElem?_eq_getElem hi', Option.getD_some] at hn'
    have hm : false ∈ l := by rw [← hn']; exact List.getElem_mem hi'
    have : 0 < (l.filter (!·)).length := List.length_pos_of_mem (List.mem_filter.2 ⟨hm, rfl⟩)
    simp at h
    have h0 : (l.filter (!·)) = [] := by rw [List.filter_eq_nil_iff]; simpa using h
    rw [h0] at this
    exact absurd this (by simp)
  | false :: l, i + 1, hi, hn, fuel + 1, h => by
    have := count_list l i (by simpa using hi) (by simpa using hn) fuel (by simpa using h)
    simpa using this
theorem count_set (listed : Array Bool) (i : Nat) (hi : i < listed.size) (hn : listed.getD i false = false) (fuel : Nat) (h : (listed.toList.filter (!·)).length ≤ fuel + 1) : ((listed.setIfInBounds i true).toList.filter (!·)).length ≤ fuel := by
  rw [Array.toList_setIfInBounds]
  exact count_list _ i (by simpa using hi) (by simpa [Array.getD_eq_getD_getElem?] using hn) fuel h
theorem none_left (listed : Array Bool) (h : (listed.toList.filter (!·)).length ≤ 0) (i : Nat) (hi : i < listed.size) : listed.getD i false = true := by
  have h0 : listed.toList.filter (!·) = [] := List.eq_nil_of_length_eq_zero (by omega)
  rw [List.filter_eq_nil_iff] at h0
  have := h0 listed[i] (by simp)
  simpa [Array.getD_eq_getD_getElem?, hi] using this

theorem not_ready {md : Region.Mode} {ops : Array Oper} {listed : Array Bool} {i : Nat} (h : i ∈ Region.ready md ops listed) : listed.getD i true = false ∧ ∃ o, ops[i]? = some o ∧ ∀ e ∈ o.after, Region.binds md e = true → listed.getD e.on false = true := by
  unfold Region.ready at h
  rw [List.mem_filter] at h
  obtain ⟨h1, h2⟩ := h
  simp only [Bool.and_eq_true, Bool.not_eq_true'] at h2
  obtain ⟨h2, h3⟩ := h2
  refine ⟨h2, ?_⟩
  have hi : i < ops.size := by simpa using h1
  refine ⟨ops[i], by simp [hi], fun e he hb => ?_⟩
  simp [hi] at h3
  obtain ⟨k, hk, rfl⟩ := Array.getElem_of_mem he
  rcases h3 k hk with h | h
  · rw [hb] at h; cases h
  · simpa [Array.getD_eq_getD_getElem?] using h

/-- the region's own tables: each slot is written once, inside the frame; what an operation waits for stands ahead of it -/
def tidy (ops : Array Oper) (n : Nat) : Bool :=
  ops.toList.all (fun o => (o.dst.map (fun d => decide (d < n))).getD true) &&
  (List.range ops.size).all (fun i => (List.range i).all (fun j => match (ops[i]?).bind (·.dst), (ops[j]?).bind (·.dst) with | some d, some d' => d != d' | _, _ => true)) &&
  (List.range ops.size).all (fun i => ((ops[i]?).map (fun o => o.after.all (fun e => !Region.binds .any e || decide (e.on < i)))).getD true)
theorem tidy_lt {ops : Array Oper} {n : Nat} (h : tidy ops n = true) (i : Nat) (o : Oper) (d : Tmp) (hi : ops[i]? = some o) (hd : o.dst = some d) : d < n := by
  simp only [tidy, Bool.and_eq_true] at h
  have := List.all_eq_true.1 h.1.1 o (by simpa using Array.mem_of_getElem? hi)
  simpa [hd] using this
theorem tidy_apart' {ops : Array Oper} {n : Nat} (h : tidy ops n = true) (i j : Nat) (oi oj : Oper) (d : Tmp) (hi : ops[i]? = some oi) (hj : ops[j]? = some oj) (hdi : oi.dst = some d) (hdj : oj.dst = some d) (hlt : j < i) : False := by
  simp only [tidy, Bool.and_eq_true] at h
  have h1 := List.all_eq_true.1 h.1.2 i (by have := (Array.getElem?_eq_some_iff.1 hi).1; simpa using this)
  have h2 := List.all_eq_true.1 h1 j (by simpa using hlt)
  simp [hi, hj, hdi, hdj] at h2
theorem tidy_apart {ops : Array Oper} {n : Nat} (h : tidy ops n = true) (i j : Nat) (oi oj : Oper) (d : Tmp) (hi : ops[i]? = some oi) (hj : ops[j]? = some oj) (hdi : oi.dst = some d) (hdj : oj.dst = some d) : i = j := by
  rcases Nat.lt_trichotomy i j with hlt | e | hlt
  · exact (tidy_apart' h j i oj oi d hj hi hdj hdi hlt).elim
  · exact e
  · exact (tidy_apart' h i j oi oj d hi hj hdi hdj hlt).elim
theorem tidy_back {ops : Array Oper} {n : Nat} (h : tidy ops n = true) (i : Nat) (o : Oper) (hi : ops[i]? = some o) (e : Edge) (he : e ∈ o.after) : Region.binds .any e = false ∨ e.on < i := by
  simp only [tidy, Bool.and_eq_true] at h
  have h1 := List.all_eq_true.1 h.2 i (by have := (Array.getElem?_eq_some_iff.1 hi).1; simpa using this)
  simp only [hi, Option.map_some, Option.getD_some, Array.all_eq_true_iff_forall_mem, Bool.or_eq_true, Bool.not_eq_true', decide_eq_true_eq] at h1
  exact h1 e he
theorem all_listed {ops : Array Oper} {n : Nat} (h : tidy ops n = true) {listed : Array Bool} (hs : listed.size = ops.size) (hr : Region.ready .any ops listed = []) : ∀ i, i < ops.size → listed.getD i false = true := by
  intro i
  induction i using Nat.strongRecOn with
  | ind i ih =>
    intro hi
    by_cases hc : listed.getD i false = true
    · exact hc
    · exfalso
      have : i ∈ Region.ready .any ops listed := by
        unfold Region.ready
        rw [List.mem_filter]
        refine ⟨by simpa using hi, ?_⟩
        have h1 : listed.getD i true = false := by
          simp only [Array.getD_eq_getD_getElem?, Array.getElem?_eq_getElem (show i < listed.size by omega), Option.getD_some] at hc ⊢
          simpa using hc
        rw [h1]
        simp only [Bool.not_false, Bool.true_and, Array.getElem?_eq_getElem hi, Option.map_some, Option.getD_some, Array.all_eq_true_iff_forall_mem]
        intro e he
        rcases tidy_back h i ops[i] (by simp [hi]) e he with hb | hlt
        · rw [hb]; simp
        · rw [ih e.on hlt (by omega)]
          simp
      rw [hr] at this
      cases this

theorem any_inv {P : Program} {ops : Array Oper} {Q : Exit → Act → World → Prop} {a0 : Act} {C : World → Prop} {R : Nat → Value → World → Prop} {I : Array Bool → Act → World → Prop} {S : World → World → Prop}
    (hS : ∀ w, C w → S w w) (hR : ∀ i v w w', C w → S w w' → R i v w → R i v w') (htd : tidy ops a0.tmps.size = true)
    (hstep : ∀ (i : Nat) (o : Oper) (listed : Array Bool) (a : Act) (w : World), ops[i]? = some o → listed.getD i false = false → (∀ e ∈ o.after, Region.binds .any e = true → listed.getD e.on false = true) → RInv .any ops a0 C R I listed a w →
      if Region.wanted o (yielded ops a.tmps) = true then o.wp P a w (fun a' w' => C w' ∧ S w w' ∧ ∃ v, a' = a.put o.dst v ∧ R i v w' ∧ I (listed.setIfInBounds i true) a' w') Q else R i undef w ∧ I (listed.setIfInBounds i true) (a.put o.dst undef) w)
    (hend : ∀ (listed : Array Bool) (a : Act) (w : World), (∀ i, i < ops.size → listed.getD i false = true) → RInv .any ops a0 C R I listed a w → Q .normal a w) :
    ∀ (fuel : Nat) (listed : Array Bool) (a : Act) (w : World), (listed.toList.filter (!·)).length ≤ fuel → RInv .any ops a0 C R I listed a w → wpAny P .any ops Q fuel listed a w := by
  intro fuel
  induction fuel with
  | zero =>
    intro listed a w hf h
    have hall : ∀ i, i < ops.size → listed.getD i false = true := fun i hi => none_left listed hf i (by rw [h.size]; exact hi)
    refine ⟨?_, hend listed a w hall h⟩
    unfold Region.ready
    rw [List.filter_eq_nil_iff]
    intro i hi
    have hi' : i < ops.size := by simpa using hi
    have := hall i hi'
    simp only [Array.getD_eq_getD_getElem?, Array.getElem?_eq_getElem (show i < listed.size by rw [h.size]; exact hi'), Option.getD_some] at this ⊢
    simp [this]
  | succ fuel ih =>
    intro listed a w hf h
    refine ⟨fun hr => hend listed a w (all_listed htd h.size hr) h, fun i hi => ?_⟩
    obtain ⟨hn, o, ho, hdeps⟩ := not_ready hi
    have hil : i < listed.size := by rw [h.size]; exact (Array.getElem?_eq_some_iff.1 ho).1
    have hn' : listed.getD i false = false := by
      simp only [Array.getD_eq_getD_getElem?, Array.getElem?_eq_getElem hil, Option.getD_some] at hn ⊢; exact hn
    have hs := hstep i o listed a w ho hn' hdeps h
    have next : ∀ (a' : Act) (w' : World), (C w' ∧ S w w' ∧ ∃ v, a' = a.put o.dst v ∧ R i v w' ∧ I (listed.setIfInBounds i true) a' w') → wpAny P .any ops Q fuel (listed.setIfInBounds i true) a' w' := fun a' w' ⟨hc, hss, v, ha, hv, hI⟩ => by
      subst ha
      exact ih _ _ _ (count_set listed i hil hn' fuel hf) (h.put hR (tidy_apart htd) (tidy_lt htd) ho hdeps hc hss hv hI)
    unfold wpOp
    simp only [ho]
    split
    · rename_i hw
      rw [if_pos hw] at hs
      exact .inl (Oper.wp_mono next hs)
    · rename_i hw
      rw [if_neg hw] at hs
      exact next _ _ ⟨h.c, hS w h.c, undef, rfl, hs.1, hs.2⟩

/-- THE LAW. -/
theorem wp_region_inv {P : Program} {id : Nat} {ops : Array Oper} {Q : Exit → Act → World → Prop} {a0 : Act} {w0 : World} (hm : P.follows .mixedOrders = true) (C : World → Prop) (R : Nat → Value → World → Prop) (I : Array Bool → Act → World → Prop) (S : World → World → Prop)
    (hS : ∀ w, C w → S w w) (hR : ∀ i v w w', C w → S w w' → R i v w → R i v w') (htd : tidy ops a0.tmps.size = true) (h0 : C w0.drew) (hI0 : ∀ listed : Array Bool, (∀ i, listed.getD i false = false) → I listed a0 w0.drew)
    (hstep : ∀ (i : Nat) (o : Oper) (listed : Array Bool) (a : Act) (w : World), ops[i]? = some o → listed.getD i false = false → (∀ e ∈ o.after, Region.binds .any e = true → listed.getD e.on false = true) → RInv .any ops a0 C R I listed a w →
      if Region.wanted o (yielded ops a.tmps) = true then o.wp P a w (fun a' w' => C w' ∧ S w w' ∧ ∃ v, a' = a.put o.dst v ∧ R i v w' ∧ I (listed.setIfInBounds i true) a' w') Q else R i undef w ∧ I (listed.setIfInBounds i true) (a.put o.dst undef) w)
    (hend : ∀ (listed : Array Bool) (a : Act) (w : World), (∀ i, i < ops.size → listed.getD i false = true) → RInv .any ops a0 C R I listed a w → Q .normal a w) :
    (Code.region id ops true).wp P Q a0 w0 := by
  have hno : ∀ i, (Array.replicate ops.size false).getD i false = false := fun i => by
    simp only [Array.getD_eq_getD_getElem?]
    by_cases h : i < ops.size
    · simp [h]
    · simp [Array.getElem?_eq_none (show (Array.replicate ops.size false).size ≤ i by simp; omega)]
  refine wp_region_any hm (any_inv hS hR htd hstep hend _ _ _ _ ?_ ?_)
  · simp
  · exact ⟨by simp, rfl, rfl, h0, hI0 _ hno, fun _ _ => rfl, (fun i o d hi hl => by rw [hno] at hl; cases hl), (fun j o hj hl => by rw [hno] at hl; cases hl)⟩
theorem yielded_of {ops : Array Oper} {a : Act} {j : Nat} {o : Oper} {d : Tmp} {b : Bool} (hj : ops[j]? = some o) (hd : o.dst = some d) (h : a.eval (.tmp d) = .bool b) : yielded ops a.tmps j = some b := by
  unfold yielded
  have hs : a.tmps[d]? = some (.bool b) := by
    simp only [Act.eval, Array.getD_eq_getD_getElem?] at h
    cases he : a.tmps[d]? with
    | none => rw [he] at h; simp [undef] at h
    | some v => rw [he] at h; simpa using h
  simp [hj, hd, hs]
theorem wanted_of {ops : Array Oper} {a : Act} {o : Oper} {j : Nat} {b : Bool} (hg : o.guard = some (j, b)) (h : yielded ops a.tmps j = some b) : Region.wanted o (yielded ops a.tmps) = true := by
  unfold Region.wanted
  rw [hg]
  simp [h]
theorem wanted_free {ops : Array Oper} {a : Act} {o : Oper} (hg : o.guard = none) : Region.wanted o (yielded ops a.tmps) = true := by
  unfold Region.wanted
  rw [hg]
/-- operation k waits for operation i -/
def waits (ops : Array Oper) (k i : Nat) : Bool := ((ops[k]?).map fun o => o.after.any fun e => Region.binds .any e && e.on == i).getD false
theorem RInv.after {ops : Array Oper} {a0 : Act} {C : World → Prop} {R : Nat → Value → World → Prop} {I : Array Bool → Act → World → Prop} {listed : Array Bool} {a : Act} {w : World}
    (h : RInv .any ops a0 C R I listed a w) {k i : Nat} (hw : waits ops k i = true) (hk : listed.getD k false = true) : listed.getD i false = true := by
  unfold waits at hw
  cases ho : ops[k]? with
  | none => rw [ho] at hw; simp at hw
  | some o =>
    rw [ho] at hw
    simp only [Option.map_some, Option.getD_some, Array.any_eq_true] at hw
    obtain ⟨j, hj, he⟩ := hw
    simp only [Bool.and_eq_true, beq_iff_eq] at he
    have := h.closed k o ho hk o.after[j] (by simp) he.1
    rwa [he.2] at this
/-- what waits for an operation that comes up now has not come up -/
theorem RInv.ahead {ops : Array Oper} {a0 : Act} {C : World → Prop} {R : Nat → Value → World → Prop} {I : Array Bool → Act → World → Prop} {listed : Array Bool} {a : Act} {w : World}
    (h : RInv .any ops a0 C R I listed a w) {k i : Nat} (hw : waits ops k i = true) (hn : listed.getD i false = false) (hil : i < ops.size) (hik : i ≠ k) : (listed.setIfInBounds i true).getD k false = false := by
  rw [getD_set _ _ _ (by rw [h.size]; exact hil), if_neg hik]
  cases hk : listed.getD k false with
  | false => rfl
  | true => rw [h.after hw hk] at hn; cases hn
theorem RInv.ahead2 {ops : Array Oper} {a0 : Act} {C : World → Prop} {R : Nat → Value → World → Prop} {I : Array Bool → Act → World → Prop} {listed : Array Bool} {a : Act} {w : World}
    (h : RInv .any ops a0 C R I listed a w) {k i : Nat} (m : Nat) (hw1 : waits ops k m = true) (hw : waits ops m i = true) (hn : listed.getD i false = false) (hil : i < ops.size) (hik : i ≠ k) : (listed.setIfInBounds i true).getD k false = false := by
  rw [getD_set _ _ _ (by rw [h.size]; exact hil), if_neg hik]
  cases hk : listed.getD k false with
  | false => rfl
  | true => rw [h.after hw (h.after hw1 hk)] at hn; cases hn
/-- operation k waits for operation i, by some steps -/
def reach (ops : Array Oper) : Nat → Nat → Nat → Bool
  | 0, k, i => waits ops k i
  | f + 1, k, i => waits ops k i || (List.range ops.size).any fun m => waits ops k m && reach ops f m i
theorem RInv.afterT {ops : Array Oper} {a0 : Act} {C : World → Prop} {R : Nat → Value → World → Prop} {I : Array Bool → Act → World → Prop} {listed : Array Bool} {a : Act} {w : World}
    (h : RInv .any ops a0 C R I listed a w) : ∀ (f : Nat) {k i : Nat}, reach ops f k i = true → listed.getD k false = true → listed.getD i false = true
  | 0, _, _, hw, hk => h.after hw hk
  | f + 1, k, i, hw, hk => by
    simp only [reach, Bool.or_eq_true, List.any_eq_true, Bool.and_eq_true] at hw
    rcases hw with hw | ⟨m, _, h1, h2⟩
    · exact h.after hw hk
    · exact h.afterT f h2 (h.after h1 hk)
theorem RInv.aheadT {ops : Array Oper} {a0 : Act} {C : World → Prop} {R : Nat → Value → World → Prop} {I : Array Bool → Act → World → Prop} {listed : Array Bool} {a : Act} {w : World}
    (h : RInv .any ops a0 C R I listed a w) (f : Nat) {k i : Nat} (hw : reach ops f k i = true) (hn : listed.getD i false = false) (hil : i < ops.size) (hik : i ≠ k) : (listed.setIfInBounds i true).getD k false = false := by
  rw [getD_set _ _ _ (by rw [h.size]; exact hil), if_neg hik]
  cases hk : listed.getD k false with
  | false => rfl
  | true => rw [h.afterT f hw hk] at hn; cases hn
theorem RInv.old' {md : Region.Mode} {ops : Array Oper} {a0 : Act} {C : World → Prop} {R : Nat → Value → World → Prop} {I : Array Bool → Act → World → Prop} {listed : Array Bool} {a : Act} {w : World}
    (h : RInv md ops a0 C R I listed a w) (t : Tmp) (hn : ops.toList.all (fun o => o.dst != some t) = true) : a.eval (.tmp t) = a0.eval (.tmp t) :=
  h.old t fun i o hi _ e => by
    have := List.all_eq_true.1 hn o (by simpa using Array.mem_of_getElem? hi)
    rw [e] at this
    simp at this
section
variable {P : Program} {ops : Array Oper} {o : Oper} {a : Act} {w w' : World} {Q : Exit → Act → World → Prop} {C : World → Prop} {S : World → World → Prop} {R : Value → World → Prop} {J : Act → World → Prop} {v : Value}
/-- an operation that only reads -/
theorem duty_value (hS : ∀ w, C w → S w w) (hc : C w) (hn : Region.wanted o (yielded ops a.tmps) = true) (h : (execOp a.eval o).run P w = .ok (.value v) w) (hr : R v w) (hJ : J (a.put o.dst v) w) :
    if Region.wanted o (yielded ops a.tmps) = true then o.wp P a w (fun a' w' => C w' ∧ S w w' ∧ ∃ v, a' = a.put o.dst v ∧ R v w' ∧ J a' w') Q else R undef w ∧ J (a.put o.dst undef) w := by
  rw [if_pos hn]
  unfold Oper.wp
  rw [h]
  exact ⟨hc, hS w hc, v, rfl, hr, hJ⟩
/-- an operation that makes memory -/
theorem duty_made (hn : Region.wanted o (yielded ops a.tmps) = true) (h : (execOp a.eval o).run P w = .ok (.value v) w') (hc : C w') (hs : S w w') (hr : R v w') (hJ : J (a.put o.dst v) w') :
    if Region.wanted o (yielded ops a.tmps) = true then o.wp P a w (fun a' w' => C w' ∧ S w w' ∧ ∃ v, a' = a.put o.dst v ∧ R v w' ∧ J a' w') Q else R undef w ∧ J (a.put o.dst undef) w := by
  rw [if_pos hn]
  unfold Oper.wp
  rw [h]
  exact ⟨hc, hs, v, rfl, hr, hJ⟩
/-- an operation that writes -/
theorem duty_store (hn : Region.wanted o (yielded ops a.tmps) = true) (h : (execOp a.eval o).run P w = .ok .skip w') (hc : C w') (hs : S w w') (hr : R undef w') (hJ : J (a.put o.dst undef) w') :
    if Region.wanted o (yielded ops a.tmps) = true then o.wp P a w (fun a' w' => C w' ∧ S w w' ∧ ∃ v, a' = a.put o.dst v ∧ R v w' ∧ J a' w') Q else R undef w ∧ J (a.put o.dst undef) w := by
  rw [if_pos hn]
  unfold Oper.wp
  rw [h]
  exact ⟨hc, hs, undef, rfl, hr, hJ⟩
/-- a call of a Go function, by its contract -/
theorem duty_call {f : FuncId} {args : Array Value} (hn : Region.wanted o (yielded ops a.tmps) = true) (h : (execOp a.eval o).run P w = .ok (.enter f args) w) (hcall : Calls P f args w fun e w' => e = .returned v ∧ Below w.heap.size w w')
    (hr : ∀ w', Below w.heap.size w w' → C w' ∧ S w w' ∧ R v w' ∧ J (a.put o.dst v) w') :
    if Region.wanted o (yielded ops a.tmps) = true then o.wp P a w (fun a' w' => C w' ∧ S w w' ∧ ∃ v, a' = a.put o.dst v ∧ R v w' ∧ J a' w') Q else R undef w ∧ J (a.put o.dst undef) w := by
  rw [if_pos hn]
  unfold Oper.wp
  rw [h]
  refine Calls.mono hcall fun e w' he => ?_
  obtain ⟨rfl, hb⟩ := he
  obtain ⟨h1, h2, h3, h4⟩ := hr w' hb
  exact ⟨h1, h2, v, rfl, h3, h4⟩
end
section
variable {P : Program} {ρ : Operand → Value} {o : Oper} {w w' : World}
theorem ex_convert {s d : TypeId} {x : Operand} {v : Value} (hop : o.op = .convert s d x) (h : (Go.convert s d (ρ x)).run P w = .ok v w') : (execOp ρ o).run P w = .ok (.value v) w' := by
  unfold execOp
  rw [hop]
  simp only [Sem.run_bind, h, Result.andThen_ok]
  rfl
theorem ex_eql {t u : TypeId} {x y : Operand} {xs ys : Array Value} {v : Value} (hop : o.op = .binOp .eql t x y u) (hx : ρ x = .agg xs) (hy : ρ y = .agg ys) (hg : P.eqGuardType P.depth t = false)
    (h : (binOp .eql t (.agg xs) (.agg ys)).run P w = .ok v w) : (execOp ρ o).run P w = .ok (.value v) w := by
  unfold execOp
  rw [hop]
  simp only [hx, hy, Sem.run_bind, run_eqGuard_agg w .eql t x y xs ys hg, h, Result.andThen_ok]
  rfl
theorem ex_bin {op : BinOp} {t u : TypeId} {x y : Operand} {v : Value} (hop : o.op = .binOp op t x y u) (hn1 : op ≠ .eql) (hn2 : op ≠ .neq)
    (h : (binOp op t (ρ x) (ρ y)).run P w = .ok v w') : (execOp ρ o).run P w = .ok (.value v) w' := by
  unfold execOp
  rw [hop]
  have hg : (eqGuard op t x y (ρ x) (ρ y)).run P w = .ok () w := by
    cases op <;> first | exact absurd rfl hn1 | exact absurd rfl hn2 | rfl
  simp only [Sem.run_bind, hg, h, Result.andThen_ok]
  rfl
theorem ex_buildSlice {t : TypeId} {n : Nat} {parts : Array (Nat × Operand)} {v : Value} (hop : o.op = .buildSlice t n parts) (h : (Instr.buildSlice t n (parts.map fun (i, x) => (i, ρ x))).run P w = .ok v w') : (execOp ρ o).run P w = .ok (.value v) w' := by
  unfold execOp
  rw [hop]
  simp only [Sem.run_bind, h, Result.andThen_ok]
  rfl
theorem ex_slice1 {t : TypeId} {x : Operand} {u v : Value} (hop : o.op = .buildSlice t 1 #[(0, x)]) (hx : ρ x = u) (h : (Instr.buildSlice t 1 #[(0, u)]).run P w = .ok v w') : (execOp ρ o).run P w = .ok (.value v) w' :=
  ex_buildSlice hop (by simpa [hx] using h)
theorem ex_pick {c x y : Operand} {b : Bool} (hop : o.op = .pick c x y) (hc : ρ c = .bool b) : (execOp ρ o).run P w = .ok (.value (if b then ρ x else ρ y)) w := by
  unfold execOp
  rw [hop]
  simp only [hc]
  rfl
end
end Go.Proofs.Yteblphnpealefaa.Rg2
/-
  A drawn region by a table of what its operations answer: one check by the kernel for those that only reckon, one duty for each of the others; the frame behind it.
-/
namespace Go.Proofs.Yteblphnpealefaa.An
open Go.RowKit Rg2
/-- which operation writes a slot -/
def wrF : List Oper → Nat → Tmp → Option Nat
  | [], _, _ => none
  | o :: l, k, t => if o.dst == some t then some k else wrF l (k + 1) t
theorem wrF_some : ∀ {l : List Oper} {k : Nat} {t : Tmp} {j : Nat}, wrF l k t = some j → ∃ (i : Nat) (o : Oper), j = k + i ∧ l[i]? = some o ∧ o.dst = some t
  | [], _, _, _, h => by cases h
  | o :: l, k, t, j, h => by
    unfold wrF at h
    split at h
    · rename_i e
      exact ⟨0, o, by cases h; rfl, rfl, by simpa using e⟩
    · obtain ⟨i, o', rfl, h2, h3⟩ := wrF_some h
      exact ⟨i + 1, o', by omega, h2, h3⟩
theorem wrF_none : ∀ {l : List Oper} {k : Nat} {t : Tmp}, wrF l k t = none → ∀ o ∈ l, o.dst ≠ some t
  | [], _, _, _, _, h => by cases h
  | o :: l, k, t, h, o', ho => by
    unfold wrF at h
    split at h
    · cases h
    · rename_i e
      rcases List.mem_cons.1 ho with rfl | ho
      · simpa using e
      · exact wrF_none h o' ho
theorem wrF_up : ∀ (l : List Oper) (k : Nat) (t : Tmp), wrF l (k + 1) t = (wrF l k t).map (· + 1)
  | [], _, _ => rfl
  | o :: l, k, t => by
    unfold wrF
    split
    · rfl
    · exact wrF_up l (k + 1) t
/-- what stands at an operand -/
def yV : Value → Option Bool
  | .bool b => some b
  | _ => none
def yT (ops : Array Oper) (tb : List Value) (j : Nat) : Option Bool := ((ops[j]?).bind (·.dst)).bind fun _ => yV (tb.getD j undef)
def aft (o : Oper) (j : Nat) : Bool := o.after.toList.any fun e => Region.binds .any e && e.on == j
def evT (ops : Array Oper) (a0 : Act) (tb : List Value) (o : Oper) : Operand → Value
  | .tmp t => match wrF ops.toList 0 t with
    | some j => bif aft o j then tb.getD j undef else a0.eval (.tmp t)
    | none => a0.eval (.tmp t)
  | x => a0.eval x
def noSel : Op → Bool
  | .select _ _ => false
  | _ => true
/-- what must have come up ahead of those that are listed here -/
def needs (ops : Array Oper) : Nat → List Nat → List Nat
  | 0, s => s
  | j + 1, s => needs ops j (bif s.any (fun m => waits ops m j) then j :: s else s)
/-- what an operation reads has come up, or comes up behind it (then the slot is as it was) -/
def dep1 (ops : Array Oper) (i : Nat) (o : Oper) : Operand → Bool
  | .tmp t => match wrF ops.toList 0 t with
    | some j => aft o j || (needs ops j [j]).contains i
    | none => true
  | _ => true
def depT (ops : Array Oper) (i : Nat) (o : Oper) : Bool := noSel o.op && o.op.operands.toList.all (dep1 ops i o) && match o.guard with
  | some (j, _) => aft o j
  | none => true
def chkT (ops : Array Oper) (n : Nat) (tb : List Value) (hard ks : List Nat) : Bool := (tidy ops n && (List.range ops.size).all (fun i => depT ops i (ops.getD i default)) && hard.all fun i => Region.wanted (ops.getD i default) (yT ops tb)) && ks.all fun k => hard.contains k || !decide (k < ops.size)
def rE (P : Program) (ev : Oper → Operand → Value) (y : Nat → Option Bool) (hard : List Nat) (w : World) : List Oper → Nat → List (Option (Result Next))
  | [], _ => []
  | o :: l, i => (bif hard.contains i then none else some (bif Region.wanted o y then (execOp (ev o) o).run P w else .ok (.value undef) w)) :: rE P ev y hard w l (i + 1)
def vE (tb : List Value) (hard : List Nat) (w : World) : List Oper → Nat → List (Option (Result Next))
  | [], _ => []
  | _ :: l, i => (bif hard.contains i then none else some (.ok (.value (tb.getD i undef)) w)) :: vE tb hard w l (i + 1)
theorem rE_at {P : Program} {ev : Oper → Operand → Value} {y : Nat → Option Bool} {tb : List Value} {hard : List Nat} {w : World} : ∀ {l : List Oper} {k : Nat}, rE P ev y hard w l k = vE tb hard w l k → ∀ {i : Nat} {o : Oper}, l[i]? = some o → hard.contains (k + i) = false → (Region.wanted o y = true → (execOp (ev o) o).run P w = .ok (.value (tb.getD (k + i) undef)) w) ∧ (Region.wanted o y = false → tb.getD (k + i) undef = undef)
  | [], _, _, _, _, hi, _ => by cases hi
  | o :: l, k, h, 0, o', hi, hh => by
    obtain rfl : o = o' := by simpa using hi
    unfold rE vE at h
    have h1 := (List.cons.inj h).1
    rw [Nat.add_zero] at hh ⊢
    rw [hh] at h1
    constructor
    · intro hw
      rw [hw] at h1
      exact Option.some.inj h1
    · intro hw
      rw [hw] at h1
      have h2 := Option.some.inj h1
      simp only [cond_false] at h2
      injection h2 with h3
      injection h3 with h4
      exact h4.symm
  | o :: l, k, h, i + 1, o', hi, hh => by
    unfold rE vE at h
    have := rE_at (List.cons.inj h).2 (i := i) (o := o') (by simpa using hi) (by rw [← hh]; congr 1; omega)
    rw [show k + 1 + i = k + (i + 1) by omega] at this
    exact this
def hardD (D : Nat → Oper → Prop) (ops : Array Oper) : List Nat → Prop
  | [] => True
  | i :: l => D i (ops.getD i default) ∧ hardD D ops l
theorem hardD_at {D : Nat → Oper → Prop} {ops : Array Oper} : ∀ {hard : List Nat}, hardD D ops hard → ∀ {i : Nat}, i ∈ hard → D i (ops.getD i default)
  | [], _, _, hi => by cases hi
  | k :: l, h, i, hi => by
    rcases List.mem_cons.1 hi with rfl | hi
    · exact h.1
    · exact hardD_at h.2 hi
def finT : List Oper → List Value → List Value → List Value
  | [], _, vs => vs
  | o :: l, tb, vs => finT l tb.tail (match o.dst with
    | some d => vs.set d (tb.headD undef)
    | none => vs)
def Uniq (l : List Oper) : Prop := ∀ (i j : Nat) (oi oj : Oper) (d : Tmp), l[i]? = some oi → l[j]? = some oj → oi.dst = some d → oj.dst = some d → i = j
theorem finT_len : ∀ (l : List Oper) (tb vs : List Value), (finT l tb vs).length = vs.length
  | [], _, _ => rfl
  | o :: l, tb, vs => by
    unfold finT
    rw [finT_len]
    split <;> simp
theorem finT_get : ∀ {l : List Oper} (_ : Uniq l) (tb vs : List Value) (t : Tmp), t < vs.length → (finT l tb vs)[t]? = some ((wrF l 0 t).elim (vs.getD t undef) fun j => tb.getD j undef)
  | [], _, _, vs, t, ht => by
    unfold finT wrF
    simp [ht]
  | o :: l, hu, tb, vs, t, ht => by
    have hu2 : Uniq l := fun i j oi oj d h1 h2 h3 h4 => by
      have := hu (i + 1) (j + 1) oi oj d (by simpa using h1) (by simpa using h2) h3 h4
      omega
    have hg : ∀ j, tb.tail.getD j undef = tb.getD (j + 1) undef := fun j => by cases tb <;> simp
    unfold finT wrF
    cases hd : o.dst with
    | none =>
      rw [if_neg (by simp), wrF_up]
      refine (finT_get hu2 tb.tail vs t ht).trans ?_
      cases wrF l 0 t with
      | none => rfl
      | some j => simp only [Option.map_some, Option.elim_some, hg]
    | some d =>
      dsimp only
      refine (finT_get hu2 tb.tail (vs.set d (tb.headD undef)) t (by simpa using ht)).trans ?_
      by_cases e : d = t
      · subst e
        rw [if_pos (by simp)]
        have hn : wrF l 0 d = none := by
          cases hw : wrF l 0 d with
          | none => rfl
          | some j =>
            obtain ⟨i, o', _, h2, h3⟩ := wrF_some hw
            have := hu 0 (i + 1) o o' d rfl (by simpa using h2) hd h3
            omega
        rw [hn]
        cases tb <;> simp [ht]
      · rw [if_neg (by simpa using e), wrF_up]
        cases wrF l 0 t with
        | none => simp [e]
        | some j => simp only [Option.map_some, Option.elim_some, hg]
theorem needs_ok {ops : Array Oper} {a0 : Act} {C : World → Prop} {R : Nat → Value → World → Prop} {I : Array Bool → Act → World → Prop} {listed : Array Bool} {a : Act} {w : World} (h : RInv .any ops a0 C R I listed a w) : ∀ (j : Nat) (s : List Nat), (∀ m ∈ s, listed.getD m false = true) → ∀ m ∈ needs ops j s, listed.getD m false = true
  | 0, _, hs => hs
  | j + 1, s, hs => by
    unfold needs
    refine needs_ok h j _ fun m hm => ?_
    cases hj : s.any (fun m => waits ops m j) with
    | false => rw [hj] at hm; exact hs m hm
    | true =>
      rw [hj] at hm
      rcases List.mem_cons.1 hm with rfl | hm
      · obtain ⟨k, hk, hw⟩ := List.any_eq_true.1 hj
        exact h.after hw (hs k hk)
      · exact hs m hm
def depsL (o : Oper) : List Nat := (o.after.toList.filter (Region.binds .any)).map (·.on)
/-- what is known of deeds when an operation comes up -/
structure FlF (ops : Array Oper) (ks : List Nat) (i : Nat) (fl : Nat → Bool) : Prop where
  no : ∀ k, (needs ops k [k]).contains i = true → fl k = false
  yes : ∀ k, (ks.contains k && (needs ops i (depsL (ops.getD i default))).contains k) = true → fl k = true
def upF (ks : List Nat) (i : Nat) (fl : Nat → Bool) : Nat → Bool := bif ks.contains i then (fun k => bif i == k then true else fl k) else fl
/-- a table but for what operation i, which chooses anew, and those behind it answer -/
def offT (dp : List Nat) (tb : List Value) : List Value := dp.foldl (fun l j => l.set j undef) tb
theorem offT_at : ∀ {dp : List Nat} {tb tb' : List Value} {j : Nat}, offT dp tb = offT dp tb' → ¬ j ∈ dp → tb[j]? = tb'[j]?
  | [], _, _, j, h, _ => congrArg (fun l => l[j]?) h
  | k :: dp, tb, tb', j, h, hj => by
    have := offT_at (dp := dp) (tb := tb.set k undef) (tb' := tb'.set k undef) (j := j) h fun hm => hj (List.mem_cons_of_mem _ hm)
    have hk : k ≠ j := fun e => hj (by rw [e]; exact List.mem_cons_self)
    rwa [List.getElem?_set_ne hk, List.getElem?_set_ne hk] at this
/-- what one operation does: the letters in the table may be chosen anew, where none of those that have come up says them -/
def Gh {α : Type} (ops : Array Oper) (tb : α → List Value) (i : Nat) (g g' : α) : Prop := g' = g ∨ ∃ dp : List Nat, (dp.all fun j => (needs ops j [j]).contains i) = true ∧ offT dp (tb g) = offT dp (tb g')
def OpF {α : Type} (P : Program) (ops : Array Oper) (ev : Operand → Value) (o : Oper) (w : World) (i : Nat) (g : α) (tb : α → List Value) (K : α → World → Prop) : Prop :=
  (∃ w' g', Gh ops tb i g g' ∧ (execOp ev o).run P w = .ok (.value ((tb g').getD i undef)) w' ∧ K g' w') ∨ (∃ f args, (execOp ev o).run P w = .ok (.enter f args) w ∧ Calls P f args w fun e w' => ∃ g', Gh ops tb i g g' ∧ e = .returned ((tb g').getD i undef) ∧ K g' w') ∨ ((tb g).getD i undef = undef ∧ ∃ w', (execOp ev o).run P w = .ok .skip w' ∧ K g w')
section
variable {α : Type} {P : Program} {ops : Array Oper} {ev : Operand → Value} {o : Oper} {w w' : World} {i : Nat} {g : α} {tb : α → List Value} {v : Value} {K : α → World → Prop} {f : FuncId} {args : Array Value}
theorem OpF.val (h : (execOp ev o).run P w = .ok (.value ((tb g).getD i undef)) w') (k : K g w') : OpF P ops ev o w i g tb K := .inl ⟨w', g, .inl rfl, h, k⟩
theorem OpF.call (hc : Calls P f args w fun e w' => e = .returned ((tb g).getD i undef) ∧ K g w') (h : (execOp ev o).run P w = .ok (.enter f args) w := by kernel_rfl) : OpF P ops ev o w i g tb K := .inr (.inl ⟨f, args, h, hc.mono fun _ _ h => ⟨g, .inl rfl, h⟩⟩)
theorem OpF.store (hv : (tb g).getD i undef = undef) (h : (execOp ev o).run P w = .ok .skip w') (k : K g w') : OpF P ops ev o w i g tb K := .inr (.inr ⟨hv, w', h, k⟩)
/-- letters are chosen -/
theorem OpF.new (g' : α) (dp : List Nat) (hof : offT dp (tb g) = offT dp (tb g')) (h : (execOp ev o).run P w = .ok (.value ((tb g').getD i undef)) w') (k : K g' w') (hdp : (dp.all fun j => (needs ops j [j]).contains i) = true := by kernel_rfl) : OpF P ops ev o w i g tb K := .inl ⟨w', g', .inr ⟨dp, hdp, hof⟩, h, k⟩
theorem OpF.callN (dp : List Nat) (hc : Calls P f args w fun e w' => ∃ g', offT dp (tb g) = offT dp (tb g') ∧ e = .returned ((tb g').getD i undef) ∧ K g' w') (hdp : (dp.all fun j => (needs ops j [j]).contains i) = true := by kernel_rfl) (h : (execOp ev o).run P w = .ok (.enter f args) w := by kernel_rfl) : OpF P ops ev o w i g tb K := .inr (.inl ⟨f, args, h, hc.mono fun _ _ ⟨g', h1, h2⟩ => ⟨g', .inr ⟨dp, hdp, h1⟩, h2⟩⟩)
end
/-- THE LAW. -/
theorem wp_tabF {α : Type} {P : Program} {id : Nat} {ops : Array Oper} {Q : Exit → Act → World → Prop} {a0 : Act} {w0 : World} (CB : (Nat → Bool) → α → World → Prop) (ks hard : List Nat) (tb : α → List Value) (g0 : α) (h0 : CB (fun _ => false) g0 w0.drew)
    (hD : hardD (fun i o => ∀ (fl : Nat → Bool) (g : α) (w : World), FlF ops ks i fl → CB fl g w → OpF P ops (evT ops a0 (tb g) o) o w i g tb (CB (upF ks i fl))) ops hard)
    (hend : ∀ g w, CB (fun k => ks.contains k && decide (k < ops.size)) g w → Q .normal ⟨(finT ops.toList (tb g) a0.tmps.toList).toArray, a0.defers⟩ w)
    (hm : P.follows .mixedOrders = true := by kernel_rfl) (hc : ∀ g, chkT ops a0.tmps.size (tb g) hard ks = true := by intro g; kernel_rfl) (hE : ∀ g w, rE P (evT ops a0 (tb g)) (yT ops (tb g)) hard w ops.toList 0 = vE (tb g) hard w ops.toList 0 := by intro g w; kernel_rfl) :
    (Code.region id ops true).wp P Q a0 w0 := by
  have hc' := fun g => by
    have := hc g
    unfold chkT at this
    simp only [Bool.and_eq_true] at this
    exact this
  have htd := (hc' g0).1.1.1
  have hdp' := (hc' g0).1.1.2
  refine wp_region_inv hm (fun _ => True) (fun _ _ _ => True) (fun l a w => ∃ g, (∀ (j : Nat) (o : Oper) (d : Tmp), ops[j]? = some o → l.getD j false = true → o.dst = some d → a.eval (.tmp d) = (tb g).getD j undef) ∧ CB (fun k => ks.contains k && l.getD k false) g w) (fun _ _ => True) (fun _ _ => trivial) (fun _ _ _ _ _ _ h => h) htd trivial (fun l hl => ?_) ?_ ?_
  · refine ⟨g0, ?_, ?_⟩
    · intro j o d _ h
      rw [hl] at h
      cases h
    · rw [show (fun k => ks.contains k && l.getD k false) = fun _ => false from funext fun k => by rw [hl, Bool.and_false]]
      exact h0
  · intro i o listed a w ho hnl hdep hinv
    obtain ⟨g, hgot, hI⟩ := hinv.i
    have hio := (Array.getElem?_eq_some_iff.1 ho).1
    have hd := List.all_eq_true.1 hdp' i (List.mem_range.2 hio)
    rw [show ops.getD i default = o by rw [Array.getD_eq_getD_getElem?, ho]; rfl] at hd
    unfold depT at hd
    simp only [Bool.and_eq_true] at hd
    obtain ⟨⟨hs, hop⟩, hgd⟩ := hd
    have haft : ∀ j, aft o j = true → listed.getD j false = true := fun j hj => by
      obtain ⟨e, he, h2⟩ := List.any_eq_true.1 hj
      simp only [Bool.and_eq_true, beq_iff_eq] at h2
      rw [← h2.2]
      exact hdep e (Array.mem_toList_iff.1 he) h2.1
    have hev : ∀ x ∈ o.op.operands, a.eval x = evT ops a0 (tb g) o x := fun x hx => by
      have h1 := List.all_eq_true.1 hop x (Array.mem_toList_iff.2 hx)
      cases x with
      | tmp t =>
        unfold dep1 at h1
        unfold evT
        dsimp only at h1 ⊢
        cases hw : wrF ops.toList 0 t with
        | none => exact hinv.old t fun i' o' hi' _ hd' => wrF_none hw o' (Array.mem_toList_iff.2 (Array.mem_of_getElem? hi')) hd'
        | some j =>
          rw [hw] at h1
          obtain ⟨i', o', e, h2, h3⟩ := wrF_some hw
          obtain rfl : j = i' := by omega
          dsimp only at h1 ⊢
          cases hj : aft o j with
          | true => exact hgot j o' t (by simpa using h2) (haft j hj) h3
          | false =>
            rw [hj, Bool.false_or] at h1
            refine hinv.old t fun i' oi hi' hl hd' => ?_
            have := tidy_apart htd i' j oi o' t hi' (by simpa using h2) hd' h3
            subst this
            rw [needs_ok hinv i' [i'] (fun m hm => by rw [List.mem_singleton.1 hm]; exact hl) i (by simpa using h1)] at hnl
            cases hnl
      | _ => rfl
    have hex : execOp a.eval o = execOp (evT ops a0 (tb g) o) o := execOp_congr o (fun cs b e => by rw [e] at hs; cases hs) hev
    have hw : Region.wanted o (yielded ops a.tmps) = Region.wanted o (yT ops (tb g)) := by
      unfold Region.wanted
      cases hg : o.guard with
      | none => rfl
      | some jb =>
        obtain ⟨j, b⟩ := jb
        rw [hg] at hgd
        have hl := haft j hgd
        dsimp only
        congr 1
        unfold yielded yT
        cases ho2 : ops[j]? with
        | none => rfl
        | some o2 =>
          cases hd2 : o2.dst with
          | none => simp [hd2]
          | some d =>
            have h3 := hgot j o2 d ho2 hl hd2
            simp only [Option.bind_some, hd2]
            rw [← h3]
            simp only [Act.eval, Array.getD_eq_getD_getElem?]
            cases a.tmps[d]? with
            | none => rfl
            | some u => cases u <;> rfl
    rw [hw]
    have flag : ∀ k, (listed.setIfInBounds i true).getD k false = (bif i == k then true else listed.getD k false) := fun k => by
      rw [getD_set _ _ _ (by rw [hinv.size]; exact hio)]
      by_cases e : i = k
      · subst e; simp
      · rw [if_neg e, show (i == k) = false by simpa using e]; rfl
    have fup : (fun k => ks.contains k && (listed.setIfInBounds i true).getD k false) = upF ks i (fun k => ks.contains k && listed.getD k false) := by
      unfold upF
      cases hk : ks.contains i with
      | true =>
        rw [cond_true]
        funext k
        rw [flag k]
        by_cases e : i = k
        · subst e; rw [hk, show (i == i) = true by simp]; rfl
        · rw [show (i == k) = false by simpa using e]; rfl
      | false =>
        rw [cond_false]
        funext k
        rw [flag k]
        by_cases e : i = k
        · subst e; rw [hk]; rfl
        · rw [show (i == k) = false by simpa using e]; rfl
    rw [fup]
    have nd : ∀ j, listed.getD j false = true → ∀ k, (needs ops j [j]).contains k = true → listed.getD k false = true := fun j hj k hk => needs_ok hinv j [j] (fun m hm => by rw [List.mem_singleton.1 hm]; exact hj) k (by simpa using hk)
    have hfl : FlF ops ks i (fun k => ks.contains k && listed.getD k false) := by
      constructor
      · intro k hc
        cases hk : listed.getD k false with
        | false => rw [Bool.and_false]
        | true => rw [nd k hk i hc] at hnl; cases hnl
      · intro k hc
        simp only [Bool.and_eq_true] at hc
        obtain ⟨hc0, hc⟩ := hc
        rw [show ops.getD i default = o by rw [Array.getD_eq_getD_getElem?, ho]; rfl] at hc
        rw [hc0, Bool.true_and]
        refine needs_ok hinv i (depsL o) (fun m hm => ?_) k (by simpa using hc)
        obtain ⟨e, he, rfl⟩ := List.mem_map.1 hm
        obtain ⟨h1, h2⟩ := List.mem_filter.1 he
        exact hdep e (Array.mem_toList_iff.1 h1) h2
    have put : ∀ (g' : α) (v : Value), Gh ops tb i g g' → (o.dst ≠ none → v = (tb g').getD i undef) → ∀ (j : Nat) (oj : Oper) (d : Tmp), ops[j]? = some oj → (listed.setIfInBounds i true).getD j false = true → oj.dst = some d → (a.put o.dst v).eval (.tmp d) = (tb g').getD j undef := fun g' v hg hv j oj d hj hl hd => by
      by_cases e : i = j
      · subst e
        obtain rfl : o = oj := Option.some.inj (ho.symm.trans hj)
        rw [hd, put_same _ _ _ (by rw [hinv.tsize]; exact tidy_lt htd i o d ho hd)]
        exact hv (by rw [hd]; simp)
      · rw [flag j, show (i == j) = false by simpa using e] at hl
        rw [Act.eval_put (fun d' hdd he => by cases he; exact e (tidy_apart htd i j o oj d ho hj hdd hd)), hgot j oj d hj hl hd]
        rcases hg with rfl | ⟨dp, hdp, hof⟩
        · rfl
        · by_cases hjd : j ∈ dp
          · have h := List.all_eq_true.1 hdp j hjd
            rw [nd j hl i h] at hnl; cases hnl
          · rw [List.getD_eq_getElem?_getD, List.getD_eq_getElem?_getD, offT_at hof hjd]
    by_cases hh : i ∈ hard
    · have hD' := hardD_at hD hh _ g w hfl hI
      have hW := List.all_eq_true.1 (hc' g).1.2 i hh
      rw [show ops.getD i default = o by rw [Array.getD_eq_getD_getElem?, ho]; rfl] at hD' hW
      rw [if_pos hW]
      unfold Oper.wp
      rw [hex]
      rcases hD' with ⟨w', g', hg, h1, h2⟩ | ⟨f, args, h1, h2⟩ | ⟨hu, w', h1, h2⟩
      · rw [h1]
        exact ⟨trivial, trivial, _, rfl, trivial, g', put g' _ hg (fun _ => rfl), h2⟩
      · rw [h1]
        refine Calls.mono h2 fun e w' he => ?_
        obtain ⟨g', hg, rfl, h3⟩ := he
        exact ⟨trivial, trivial, _, rfl, trivial, g', put g' _ hg (fun _ => rfl), h3⟩
      · rw [h1]
        exact ⟨trivial, trivial, _, rfl, trivial, g, put g _ (.inl rfl) (fun _ => hu.symm), h2⟩
    · have hE' := rE_at (hE g w) (i := i) (o := o) (by simpa using ho) (by simpa using hh)
      rw [Nat.zero_add] at hE'
      have hki : ks.contains i = false := by
        cases hk : ks.contains i with
        | false => rfl
        | true =>
          have := List.all_eq_true.1 (hc' g).2 i (by simpa using hk)
          rw [show hard.contains i = false by simpa using hh, show decide (i < ops.size) = true from decide_eq_true hio] at this
          cases this
      have e : upF ks i (fun k => ks.contains k && listed.getD k false) = fun k => ks.contains k && listed.getD k false := by unfold upF; rw [hki]; rfl
      rw [e]
      by_cases hW : Region.wanted o (yT ops (tb g)) = true
      · rw [if_pos hW]
        unfold Oper.wp
        rw [hex, hE'.1 hW]
        exact ⟨trivial, trivial, _, rfl, trivial, g, put g _ (.inl rfl) (fun _ => rfl), hI⟩
      · rw [if_neg hW]
        exact ⟨trivial, g, put g _ (.inl rfl) (fun _ => (hE'.2 (by simpa using hW)).symm), hI⟩
  · intro listed a w hall hinv
    obtain ⟨g, hgot, hI⟩ := hinv.i
    rw [show (fun k => ks.contains k && listed.getD k false) = fun k => ks.contains k && decide (k < ops.size) from funext fun k => by
      by_cases hk : k < ops.size
      · rw [hall k hk, decide_eq_true hk]
      · rw [decide_eq_false hk, Array.getD_eq_getD_getElem?, Array.getElem?_eq_none (by rw [hinv.size]; omega)]
        rfl] at hI
    have hu : Uniq ops.toList := fun i j oi oj d h1 h2 h3 h4 => tidy_apart htd i j oi oj d (by simpa using h1) (by simpa using h2) h3 h4
    have ea : a = ⟨(finT ops.toList (tb g) a0.tmps.toList).toArray, a0.defers⟩ := by
      have e1 : a.tmps = (finT ops.toList (tb g) a0.tmps.toList).toArray := by
        apply Array.toList_inj.1
        rw [List.toList_toArray]
        apply List.ext_getElem?
        intro t
        by_cases ht : t < a0.tmps.size
        · rw [finT_get hu (tb g) a0.tmps.toList t (by simpa using ht)]
          have hs : t < a.tmps.size := by rw [hinv.tsize]; exact ht
          rw [Array.getElem?_toList, Array.getElem?_eq_getElem hs]
          have h1 : a.eval (.tmp t) = a.tmps[t] := by simp [Act.eval, hs]
          rw [← h1]
          cases hw : wrF ops.toList 0 t with
          | none =>
            rw [hinv.old t fun i' o' hi' _ hd' => wrF_none hw o' (Array.mem_toList_iff.2 (Array.mem_of_getElem? hi')) hd']
            simp [Act.eval, ht]
          | some j =>
            obtain ⟨i', o', e, h2, h3⟩ := wrF_some hw
            obtain rfl : j = i' := by omega
            exact congrArg some (hgot j o' t (by simpa using h2) (hall j (by simpa using (List.getElem?_eq_some_iff.1 h2).1)) h3)
        · rw [List.getElem?_eq_none (by simp [hinv.tsize]; omega), List.getElem?_eq_none (by rw [finT_len]; simp; omega)]
      obtain ⟨tm, df⟩ := a
      have e2 := hinv.defers
      dsimp only at e1 e2
      rw [e1, e2]
    rw [ea]
    exact hend g w hI
theorem hardD_mono {D D' : Nat → Oper → Prop} {ops : Array Oper} (h : ∀ i o, D i o → D' i o) : ∀ {hard : List Nat}, hardD D ops hard → hardD D' ops hard
  | [], _ => trivial
  | _ :: _, hh => ⟨h _ _ hh.1, hardD_mono h hh.2⟩
structure Fl (ops : Array Oper) (i k : Nat) (b : Bool) : Prop where
  no : (needs ops k [k]).contains i = true → b = false
  yes : (needs ops i (depsL (ops.getD i default))).contains k = true → b = true
theorem upF2 (k1 k2 i : Nat) (fl : Nat → Bool) : upF [k1, k2] i fl k1 = (bif i == k1 then true else fl k1) ∧ upF [k1, k2] i fl k2 = (bif i == k2 then true else fl k2) := by
  unfold upF
  by_cases h1 : i = k1
  · subst h1; simp
  · by_cases h2 : i = k2
    · subst h2; simp
    · simp [h1, h2]
/-- THE LAW where two deeds matter -/
theorem wp_tabG {α : Type} {P : Program} {id : Nat} {ops : Array Oper} {Q : Exit → Act → World → Prop} {a0 : Act} {w0 : World} (CB : Bool → Bool → α → World → Prop) (k1 k2 : Nat) (hard : List Nat) (tb : α → List Value) (g0 : α) (h0 : CB false false g0 w0.drew)
    (hD : hardD (fun i o => ∀ (b1 b2 : Bool) (g : α) (w : World), Fl ops i k1 b1 → Fl ops i k2 b2 → CB b1 b2 g w → OpF P ops (evT ops a0 (tb g) o) o w i g tb fun g w => CB (bif i == k1 then true else b1) (bif i == k2 then true else b2) g w) ops hard)
    (hend : ∀ g w, CB (decide (k1 < ops.size)) (decide (k2 < ops.size)) g w → Q .normal ⟨(finT ops.toList (tb g) a0.tmps.toList).toArray, a0.defers⟩ w)
    (hm : P.follows .mixedOrders = true := by kernel_rfl) (hc : ∀ g, chkT ops a0.tmps.size (tb g) hard [k1, k2] = true := by intro g; kernel_rfl) (hE : ∀ g w, rE P (evT ops a0 (tb g)) (yT ops (tb g)) hard w ops.toList 0 = vE (tb g) hard w ops.toList 0 := by intro g w; kernel_rfl) :
    (Code.region id ops true).wp P Q a0 w0 :=
  wp_tabF (fun fl g w => CB (fl k1) (fl k2) g w) [k1, k2] hard tb g0 h0 (hardD_mono (fun i o h fl g w hf hC => by
    have := h (fl k1) (fl k2) g w ⟨hf.no k1, fun hh => hf.yes k1 (by rw [hh]; simp)⟩ ⟨hf.no k2, fun hh => hf.yes k2 (by rw [hh]; simp)⟩ hC
    rw [← (upF2 k1 k2 i fl).1, ← (upF2 k1 k2 i fl).2] at this
    exact this) hD) (fun g w h => hend g w (by
    have e1 : [k1, k2].contains k1 = true := by simp
    have e2 : [k1, k2].contains k2 = true := by simp
    simp only [e1, e2, Bool.true_and] at h
    exact h)) hm hc hE
/-- THE LAW where no letter is chosen -/
theorem wp_tab {P : Program} {id : Nat} {ops : Array Oper} {Q : Exit → Act → World → Prop} {a0 : Act} {w0 : World} (CB : Bool → Bool → World → Prop) (k1 k2 : Nat) (hard : List Nat) (tb : List Value) (h0 : CB false false w0.drew)
    (hD : hardD (fun i o => ∀ (b1 b2 : Bool) (w : World), Fl ops i k1 b1 → Fl ops i k2 b2 → CB b1 b2 w → OpF P ops (evT ops a0 tb o) o w i () (fun _ => tb) fun _ w => CB (bif i == k1 then true else b1) (bif i == k2 then true else b2) w) ops hard)
    (hend : ∀ w, CB (decide (k1 < ops.size)) (decide (k2 < ops.size)) w → Q .normal ⟨(finT ops.toList tb a0.tmps.toList).toArray, a0.defers⟩ w)
    (hm : P.follows .mixedOrders = true := by kernel_rfl) (hc : chkT ops a0.tmps.size tb hard [k1, k2] = true := by kernel_rfl) (hE : ∀ w, rE P (evT ops a0 tb) (yT ops tb) hard w ops.toList 0 = vE tb hard w ops.toList 0 := by intro w; kernel_rfl) :
    (Code.region id ops true).wp P Q a0 w0 :=
  wp_tabG (fun b1 b2 (_ : Unit) w => CB b1 b2 w) k1 k2 hard (fun _ => tb) () h0 (hardD_mono (fun _ _ h b1 b2 _ w => h b1 b2 w) hD) (fun _ => hend) hm (fun _ => hc) (fun _ => hE)
end Go.Proofs.Yteblphnpealefaa.An
