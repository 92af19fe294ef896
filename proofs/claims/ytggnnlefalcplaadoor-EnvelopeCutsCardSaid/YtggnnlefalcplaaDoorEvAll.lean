/-
  Lists of envelopes in memory; envelope: All.
-/
import Derived.Test.YtggnnlefalcplaaDoorEvTake
import Derived.Test.YtggnnlefalcplaaDoorScNames
namespace Go.Proofs.YtggnnlefalcplaaDoor
open Go.RowKit Mem Sc Sha
/-- envelopes lie where a slice says -/
def EvsAt (w : World) (a : Option Addr) (vs : List Ev) : Prop :=
  0 < vs.length → ∃ ab ao, a = some ⟨ab, ao, none⟩ ∧ ab < w.heap.size ∧ ∀ i (hi : i < vs.length), w.rangeAt ab (ao + i * 2) (evC vs[i])
theorem EvsAt.below {w w' : World} {a : Option Addr} {vs : List Ev} (h : EvsAt w a vs) (hb : Below w.heap.size w w') : EvsAt w' a vs := fun h0 => by
  obtain ⟨ab, ao, ha, hlt, hc⟩ := h h0
  exact ⟨ab, ao, ha, Nat.lt_of_lt_of_le hlt hb.size, fun i hi => range_below (hc i hi) hb (by simp [evC])⟩
def evsC (vs : List Ev) : List Value := vs.flatMap evC
theorem evsC_app (l : List Ev) (x : Ev) : evsC (l ++ [x]) = evsC l ++ evC x := by simp [evsC]
theorem evsC_app2 (l m : List Ev) : evsC (l ++ m) = evsC l ++ evsC m := by simp [evsC]
theorem evsC_length (vs : List Ev) : (evsC vs).length = vs.length * 2 := by
  induction vs with
  | nil => rfl
  | cons x vs ih =>
    show (evC x ++ evsC vs).length = _
    rw [List.length_append, ih, List.length_cons]
    show 2 + _ = _
    omega
theorem evsC_get (vs : List Ev) (i j : Nat) (hi : i < vs.length) (hj : j < 2) : (evsC vs)[i * 2 + j]? = (evC vs[i])[j]? := by
  induction vs generalizing i with
  | nil => simp at hi
  | cons x vs ih =>
    have hx : (evC x).length = 2 := rfl
    show (evC x ++ evsC vs)[i * 2 + j]? = _
    cases i with
    | zero => rw [List.getElem?_append_left (by omega)]; simp
    | succ i =>
      rw [List.getElem?_append_right (by omega), hx, show (i + 1) * 2 + j - 2 = i * 2 + j by omega, ih i (by simpa using hi)]
      rfl
theorem owns_evs {w : World} {base : Nat} {v : Value} {n : Nat} {vs : List Ev} (h : w.ownsRow base 23 2 v n (evsC vs)) (hn : n = vs.length) :
    ∃ a c, v = .slice a n c ∧ EvsAt w a vs := by
  rcases h.2 with ⟨rfl, rfl⟩ | ⟨g, cap, cur, rfl, hb, hg, hc, hm, hcs, ht⟩
  · exact ⟨none, 0, rfl, fun h0 => by omega⟩
  · refine ⟨_, _, rfl, fun h0 => ⟨g, 0, rfl, Has.lt hg, fun i hi j u hu => ?_⟩⟩
    have hj : j < 2 := (List.getElem?_eq_some_iff.1 hu).1
    rw [← evsC_get vs i j hi hj] at hu
    have hH : Has w g cur 23 := hg
    rw [Nat.zero_add, hH.cell, ← hu, ← ht, List.getElem?_take_of_lt (by omega), Array.getElem?_toList]
theorem ev_zero : ((Tryd.prog.info? 23).bind (·.zero)).map (·.cells.size) = some 2 := by kernel_rfl
theorem ev_bytes : (Tryd.prog.info? 23).map (·.bytes) = some 32 := by kernel_rfl
theorem ev_info : ∃ i z, Tryd.prog.info? 23 = some i ∧ i.zero = some z ∧ i.size = 2 ∧ i.bytes = 32 ∧ z.cells.size = 2 := by
  have h1 := evinfo
  have h2 := ev_zero
  have h3 := ev_bytes
  cases hi : Tryd.prog.info? 23 with
  | none => rw [hi] at h1; cases h1
  | some i =>
    rw [hi] at h1 h2 h3
    simp only [Option.map_some, Option.some.injEq, Option.bind_some] at h1 h2 h3
    cases hz : i.zero with
    | none => rw [hz] at h2; cases h2
    | some z =>
      rw [hz] at h2
      simp only [Option.map_some, Option.some.injEq] at h2
      exact ⟨i, z, rfl, hz, h1, h3, h2⟩
theorem build_ev1 (cs : Array Value) (h : cs.size = 2) (w : World) : (Instr.buildSlice 37 1 #[(0, .agg cs)]).run Tryd.prog w = .ok (.slice (some ⟨w.heap.size, 0, none⟩) 1 1) (w.alloc (.cells cs 23)) := by
  obtain ⟨i, z, hi, hz, h1, h2, h3⟩ := ev_info
  refine run_buildSlice w 37 23 1 _ cs i z Tryd.underlying37 hi hz (by rw [h1]; decide) (by rw [h1]; decide) ?_
  rw [h1]
  exact fill_one 2 _ cs (by simp) h
theorem build_ev {ops : Array Oper} {rest : List Oper} {o : Oper} {a : Act} {w : World} {Q : Exit → Act → World → Prop} (hgd : o.guard = none) (p : Operand) (ho : o.op = .buildSlice 37 1 #[(0, p)]) (cs : Array Value) (hp : a.eval p = .agg cs) (hs : cs.size = 2)
    (h : wpList Tryd.prog ops Q rest (a.put o.dst (.slice (some ⟨w.heap.size, 0, none⟩) 1 1)) (w.alloc (.cells cs 23))) : wpList Tryd.prog ops Q (o :: rest) a w :=
  wpList_plain hgd fun _ hK => by
    unfold Oper.wp execOp
    simp only [ho, Sem.run_bind]
    rw [show (#[(0, p)] : Array (Nat × Operand)).map (fun (i, x) => (i, a.eval x)) = #[(0, .agg cs)] by simp [hp]]
    rw [build_ev1 cs hs w]
    exact hK _ _ h
theorem news_ev (w : World) (v : Ev) : ∀ j u, (evC v)[j]? = some u → (w.alloc (.cells (evA v) 23)).cell? ((⟨w.heap.size, 0, none⟩ : Addr).add j) = some u := by
  have := World.news_of_block (heap_alloc_new w (.cells (evA v) 23))
  exact this
theorem evC_one (v : Ev) : ∀ u ∈ evC v, u.oneCell' = true := by
  intro u hu
  simp only [evC, List.mem_cons, List.not_mem_nil, or_false] at hu
  rcases hu with rfl | rfl <;> rfl
theorem txt_from (l : List UInt8) (k : Nat) (hk : k ≤ l.length) : (txt l).extract k (txt l).size = txt (l.drop k) := by
  have := txt_drop (l.take k) (l.drop k) k (by rw [List.length_take]; omega)
  rwa [List.take_append_drop] at this
theorem txt_to (l : List UInt8) (k : Nat) (hk : k ≤ l.length) : (txt l).extract 0 k = txt (l.take k) := by
  have := txt_take (l.take k) (l.drop k) k (by rw [List.length_take]; omega)
  rwa [List.take_append_drop] at this
theorem txt_empty (l : List UInt8) : (txt l).toList.isEmpty = l.isEmpty := by rw [ByteArray.toList_eq, txt_list]
set_option maxRecDepth 100000 in
set_option maxHeartbeats 2000000 in
theorem eall_at (l : List UInt8) (hl : l.length ≤ 1099511627776) (w : World) (hT : Tab w) :
    Calls Tryd.prog 15 #[.string (txt l)] w fun e w' => ∃ v, e = .returned (.tuple #[v, .string (txt (allE l).2.1), .int .i64 ((allE l).2.2 : Nat)]) ∧ w'.ownsRow w.heap.size 23 2 v (allE l).1.length (evsC (allE l).1) ∧ Below w.heap.size w w' := by
  go_enter Tryd.func15, Tryd.ntmps15
  go_wp2_with fail
  go_loopw [0, 5] (fun s v wr => ∃ (l' : List UInt8) (vs : List Ev), s = .string (txt l') ∧ wr.ownsRow w.heap.size 23 2 v vs.length (evsC vs) ∧ Below w.heap.size w wr ∧ Hid (24 * vs.length + l'.length ≤ l.length) ∧ Hid (allE l = (vs ++ (allE l').1, (allE l').2))) (fun s _ _ => Lib.strSize s)
  case atStart => exact ⟨l, [], rfl, World.ownsRow_nil _ _ _ _, Below.refl _ _, Lib.hid (by simp), Lib.hid rfl⟩
  case round =>
    obtain ⟨l', vs, rfl, hown, hB, HLE, HA⟩ := hrel
    have hT1 := hT.below hB
    by_cases h0 : l' = []
    · subst h0
      have e1 : (txt []).toList.isEmpty = true := txt_empty []
      have HE := HA
      rw [allE_nil] at HE
      simp only [List.append_nil] at HE
      clear HA HLE
      generalize txt [] = t at *
      go_wp2_with fail
      go_ret3
      exact ⟨u5, by rw [HE.out]; rfl, by rw [HE.out]; exact hown, hB⟩
    · have e1 : (txt l').toList.isEmpty = false := by rw [txt_empty]; cases l' with | nil => exact absurd rfl h0 | cons x l' => rfl
      have HLZ : l'.length ≤ 1099511627776 := by have := HLE.out; omega
      have KT := Lib.hid (fun w hT => etake_at l' (by omega) w hT)
      by_cases he : (tk l').e = 0
      · have hn := tk_n he
        have HAE := HA.out
        rw [allE_yes he] at HAE
        have hsl := txt_from l' (tk l').n hn.2
        have hsz := txt_size l'
        rw [he] at KT
        obtain ⟨x, hx⟩ : ∃ x : Ev, x = ⟨(tk l').w, (tk l').p⟩ := ⟨_, rfl⟩
        rw [← hx] at KT HAE
        obtain ⟨i, z, hi, hz, hi1, hi2, hi3⟩ := ev_info
        obtain ⟨n, hne⟩ : ∃ n, n = (tk l').n := ⟨_, rfl⟩
        rw [← hne] at KT HAE hn hsl
        have HLE2 : Hid (24 * (vs ++ [x]).length + (l'.drop n).length ≤ l.length) := Lib.hid (by
          have := HLE.out
          rw [List.length_append, List.length_drop]
          simp only [List.length_cons, List.length_nil]
          omega)
        have HA2 : Hid (allE l = ((vs ++ [x]) ++ (allE (l'.drop n)).1, (allE (l'.drop n)).2)) := Lib.hid (by rw [HAE]; simp)
        have hm : vs.length + 1 ≤ maxLen := by have := HLE.out; unfold maxLen; omega
        have HBY : Hid ((vs.length + 1) * 32 ≤ 140737488355328) := Lib.hid (by have := HLE.out; omega)
        have HNL : Hid ((evC x).length = 1 * 2) := Lib.hid rfl
        have hn1 := hn.2
        have hns : n ≤ (txt l').size := by omega
        have HMS : Hid ((txt (l'.drop n)).size < (txt l').size) := Lib.hid (by rw [txt_size, txt_size, List.length_drop]; omega)
        have hn1 : (n : Int) ≤ ((txt l').size : Int) := by omega
        clear HA HAE HLE hsz hx hne he HLZ h0 hn
        generalize ht2 : txt (l'.drop n) = t2 at *
        generalize txt l' = t at *
        have HT2 := Lib.hid ht2
        clear ht2
        go_wp2_with fail
        refine (KT.out wr hT1).mono ?_
        rintro r w1 ⟨rfl, hb1⟩
        have hown1 := hown.kept (gb_below hb1 none) (by rcases Option.eq_none_or_eq_some (Value.ownBlock u5) with h | ⟨b, h⟩ <;> simp [h])
        replace hB := hB.trans (hb1.mono hB.size)
        have hZ := ev_newz w1
        clear hb1 hown KT hT1
        go_upto_region 4 with (with_reducible refine ev_store rfl _ _ rfl _ _ x rfl rfl rfl hZ ?_)
        have hX : EvAt ((w1.alloc (.cells #[.string ⟨#[]⟩, .string ⟨#[]⟩] 23)).setRow w1.heap.size (evA x)) w1.heap.size x := Has.row hZ _
        have hb2 : Below w1.heap.size w1 ((w1.alloc (.cells #[.string ⟨#[]⟩, .string ⟨#[]⟩] 23)).setRow w1.heap.size (evA x)) := below_setRow ((Below.refl _ _).alloc (Nat.le_refl _) _) (Nat.le_refl _) _
        generalize World.setRow _ _ _ = w2 at *
        have hown2 := hown1.kept (gb_below hb2 none) (by rcases Option.eq_none_or_eq_some (Value.ownBlock u5) with h | ⟨b, h⟩ <;> simp [h])
        have hXB : w.heap.size ≤ w1.heap.size := hB.size
        replace hB := hB.trans (hb2.mono hB.size)
        generalize w1.heap.size = X at *
        clear hb2 hown1 hZ
        obtain ⟨ta, tc, hu5, _⟩ := owns_evs hown2 rfl
        subst hu5
        have hbase : w.heap.size ≤ (w2.alloc (.cells (evA x) 23)).heap.size := by simp only [World.size_alloc]; have := hB.size; omega
        go_wp2_with (first
          | (with_reducible refine ev_load rfl _ rfl X rfl hX ?_)
          | (with_reducible refine build_ev rfl _ rfl _ rfl rfl ?_)
          | ((with_reducible refine wpList_append_own _ rfl _ _ 37 rfl w.heap.size 23 i z 2 32 Tryd.underlying37 hi hz hi1 hi2 hi3 (by omega) _ vs.length _ rfl (hown2.alloc _) ⟨w2.heap.size, 0, none⟩ 1 1 (evC x) rfl HNL.out (news_ev _ _) (evC_one _) hm HBY.out hbase ?_); intro v' w4 hown4 hgr4 _))
        have hB4 := gb_none_below (gb_own (gb_below hB none) _ hgr4 (fun k hk => (hown2.lt k hk).1))
        go_roundw
        case rel => exact ⟨l'.drop n, vs ++ [x], by rw [HT2.out], by rw [evsC_app, List.length_append]; exact hown4, hB4, HLE2, HA2⟩
        case measure => exact HMS.out
      · have h7 : (((tk l').e : Nat) : Int) ≠ 0 := by omega
        have e2 : ((((tk l').e : Nat) : Int) != 0) = true := by rw [bne_iff_ne]; exact h7
        have HAE := HA
        rw [allE_no h0 he] at HAE
        simp only [List.append_nil] at HAE
        clear HA HLE HLZ h0 he h7
        obtain ⟨x, hx⟩ : ∃ x : Ev, x = ⟨(tk l').w, (tk l').p⟩ := ⟨_, rfl⟩
        rw [← hx] at KT
        clear hx
        generalize (tk l').n = n at *
        generalize (tk l').e = e at *
        generalize ht : txt l' = t at *
        have HTE := Lib.hid ht
        clear ht
        go_wp2_with fail
        refine (KT.out wr hT1).mono ?_
        rintro r w1 ⟨rfl, hb1⟩
        have hown1 := hown.kept (gb_below hb1 none) (by rcases Option.eq_none_or_eq_some (Value.ownBlock u5) with h | ⟨b, h⟩ <;> simp [h])
        replace hB := hB.trans (hb1.mono hB.size)
        have hZ := ev_newz w1
        clear hb1 hown KT hT1
        go_upto_region 4 with (with_reducible refine ev_store rfl _ _ rfl _ _ x rfl rfl rfl hZ ?_)
        have hb2 : Below w1.heap.size w1 ((w1.alloc (.cells #[.string ⟨#[]⟩, .string ⟨#[]⟩] 23)).setRow w1.heap.size (evA x)) := below_setRow ((Below.refl _ _).alloc (Nat.le_refl _) _) (Nat.le_refl _) _
        generalize World.setRow _ _ _ = w2 at *
        have hown2 := hown1.kept (gb_below hb2 none) (by rcases Option.eq_none_or_eq_some (Value.ownBlock u5) with h | ⟨b, h⟩ <;> simp [h])
        replace hB := hB.trans (hb2.mono hB.size)
        clear hb2 hown1 hZ
        go_wp2_with fail
        go_ret3
        exact ⟨u5, by rw [HAE.out]; show _ = Ending.returned (.tuple #[u5, .string (txt l'), .int .i64 (e : Nat)]); rw [HTE.out]; rfl, by rw [HAE.out]; exact hown2, hB⟩
end Go.Proofs.YtggnnlefalcplaaDoor
