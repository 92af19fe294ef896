/-
  EnvelopeCuts: the walk.
-/
import Derived.Test.YtggnnlefalcplaaDoorEvAlive
import Derived.Laws.AppendOwnNone
namespace Go.Proofs.YtggnnlefalcplaaDoor
open Go.RowKit Mem Sc Sha
/-- a slice is appended to one that is owned, nil or not -/
theorem append_ev_op {P : Program} {w : World} {ops : Array Oper} {rest : List Oper} {o : Oper} {a : Act} {Q : Exit → Act → World → Prop} (hgd : o.guard = none) (s x : Operand) (t : TypeId)
    (ho : o.op = .call { callee := .builtin .append, args := #[s, x], argTypes := #[t, t] })
    (base : Nat) (e : TypeId) (i : TypeInfo) (z : Value) (size bytes : Nat) (ht : P.underlying t = some (.slice e)) (hi : P.info? e = some i) (hz : i.zero = some z)
    (hsize : i.size = size) (hby : i.bytes = bytes) (hzs : z.cells.size = size) (hsz : 0 < size)
    (v : Value) (n : Nat) (xs : List Value) (hs : a.eval s = v) (hown : w.ownsRow base e size v n xs)
    (ao : Option Addr) (m c : Nat) (news : List Value) (hx : a.eval x = .slice ao m c) (hnil : ao = none → m = 0 ∧ c = 0) (hl : news.length = m * size) (hnews : ∀ ad, ao = some ad → ∀ j u, news[j]? = some u → w.cell? (ad.add j) = some u) (h1 : ∀ u ∈ news, u.oneCell' = true)
    (h63 : n + m ≤ maxLen) (hbytes : (n + m) * bytes ≤ 140737488355328) (hbase : base ≤ w.heap.size)
    (h : ∀ v' w', w'.ownsRow base e size v' (n + m) (xs ++ news) → w.grownBy w' v.ownBlock → wpList P ops Q rest (a.put o.dst v') w') : wpList P ops Q (o :: rest) a w := by
  cases ao with
  | none =>
    obtain ⟨rfl, rfl⟩ := hnil rfl
    obtain rfl : news = [] := List.eq_nil_of_length_eq_zero (by simpa using hl)
    exact wpList_append_own_none hgd s x t ho base e i size ht hi v n xs hs hown hx (h v w (by simpa using hown) ⟨rfl, rfl, rfl, Nat.le_refl _, fun _ _ _ => rfl⟩)
  | some ad =>
    exact wpList_append_own w hgd s x t ho base e i z size bytes ht hi hz hsize hby hzs hsz v n xs hs hown ad m c news hx hl (hnews ad rfl) h1 h63 hbytes hbase (fun v' w' h2 h3 _ => h v' w' h2 h3)
theorem evsC_one (vs : List Ev) : ∀ u ∈ evsC vs, u.oneCell' = true := by
  intro u hu
  obtain ⟨x, _, hu⟩ := List.mem_flatMap.1 hu
  exact evC_one x u hu
theorem owns_evs_cells {w : World} {base n : Nat} {v : Value} {xs : List Value} (h : w.ownsRow base 23 2 v n xs) :
    ∃ ao c, v = .slice ao n c ∧ (ao = none → n = 0 ∧ c = 0) ∧ (∀ ad, ao = some ad → ∀ j u, xs[j]? = some u → w.cell? (ad.add j) = some u) := by
  have hc := fun g hg => World.ownsRow.cells (g := g) h hg
  rcases h.2 with ⟨rfl, rfl⟩ | ⟨g, cap, cur, rfl, _, _, _, _, _, _⟩
  · exact ⟨none, 0, rfl, fun _ => ⟨rfl, rfl⟩, fun _ h => by cases h⟩
  · refine ⟨some ⟨g, 0, none⟩, cap, rfl, (fun h => nomatch h), fun ad had => ?_⟩
    obtain rfl := Option.some.inj had
    exact hc g rfl
/-- another row grows, that was made later -/
theorem EvsAt.past {w2 w w' : World} {a : Option Addr} {vs : List Ev} {r : Option Nat} (h2 : EvsAt w2 a vs) (h : EvsAt w a vs) (hg : w.grownBy w' r) (hr : ∀ k, r = some k → w2.heap.size ≤ k) : EvsAt w' a vs := fun h0 => by
  obtain ⟨ab, ao, rfl, hlt2, _⟩ := h2 h0
  obtain ⟨ab', ao', e, hlt, hc⟩ := h h0
  cases e
  refine ⟨ab, ao, rfl, Nat.lt_of_lt_of_le hlt hg.size, fun i hi j u hu => ?_⟩
  exact (World.cell?_of_block (hg.block ab hlt (fun e => by have := hr ab e.symm; omega))).trans (hc i hi j u hu)
set_option maxRecDepth 100000 in
set_option maxHeartbeats 1000000 in
theorem ecuts_long (s : ByteArray) (cut : Int) (hs : 4096 < s.size) (w : World) (hT : Tab w) : Calls Tryd.prog 6 #[.string s, .int .i64 cut] w fun r w' => r = .returned (.bool true) ∧ Below w.heap.size w w' := by
  have t1 : decide ((4096 : Int) < (s.size : Int)) = true := decide_eq_true (by omega)
  clear hs
  go_enter Tryd.func6, Tryd.ntmps6
  go_wp2_with fail
  refine (ealive w hT).mono ?_
  rintro r w1 ⟨rfl, hB⟩
  go_wp2_with fail
  go_ret
  exact ⟨rfl, hB⟩
set_option maxRecDepth 100000 in
set_option maxHeartbeats 1000000 in
theorem ecuts_neg (s : ByteArray) (cut : Int) (hs : ¬ 4096 < s.size) (hc : cut < 0) (w : World) (hT : Tab w) : Calls Tryd.prog 6 #[.string s, .int .i64 cut] w fun r w' => r = .returned (.bool true) ∧ Below w.heap.size w w' := by
  have t1 : decide ((4096 : Int) < (s.size : Int)) = false := decide_eq_false (by omega)
  have t2 : decide (cut < 0) = true := decide_eq_true hc
  clear hs hc
  go_enter Tryd.func6, Tryd.ntmps6
  go_wp2_with fail
  refine (ealive w hT).mono ?_
  rintro r w1 ⟨rfl, hB⟩
  go_wp2_with fail
  go_ret
  exact ⟨rfl, hB⟩
set_option maxRecDepth 100000 in
set_option maxHeartbeats 1000000 in
theorem ecuts_far (s : ByteArray) (cut : Int) (hs : ¬ 4096 < s.size) (hc : ¬ cut < 0) (hb : (s.size : Int) < cut) (w : World) (hT : Tab w) : Calls Tryd.prog 6 #[.string s, .int .i64 cut] w fun r w' => r = .returned (.bool true) ∧ Below w.heap.size w w' := by
  have t1 : decide ((4096 : Int) < (s.size : Int)) = false := decide_eq_false (by omega)
  have t2 : decide (cut < 0) = false := decide_eq_false hc
  have t3 : decide ((s.size : Int) < cut) = true := decide_eq_true hb
  clear hs hc hb
  go_enter Tryd.func6, Tryd.ntmps6
  go_wp2_with fail
  refine (ealive w hT).mono ?_
  rintro r w1 ⟨rfl, hB⟩
  go_wp2_with fail
  go_ret
  exact ⟨rfl, hB⟩
set_option maxRecDepth 100000 in
set_option maxHeartbeats 4000000 in
theorem ecuts_form (l : List UInt8) (hs : l.length ≤ 4096) (c : Nat) (hc : c ≤ l.length) (hf : (allE (l.take c)).2.2 = 4) (w : World) (hT : Tab w) :
    Calls Tryd.prog 6 #[.string (txt l), .int .i64 (c : Int)] w fun r w' => r = .returned (.bool true) ∧ Below w.heap.size w w' := by
  have hz := txt_size l
  have t1 : decide ((4096 : Int) < ((txt l).size : Int)) = false := decide_eq_false (by omega)
  have t2 : decide ((c : Int) < 0) = false := decide_eq_false (by omega)
  have t3 : decide (((txt l).size : Int) < (c : Int)) = false := decide_eq_false (by omega)
  have t4 : ¬ (txt l).size < c := by omega
  have g1 : (c : Int) ≤ ((txt l).size : Int) := by omega
  have g2 : (0 : Int) ≤ (c : Int) := by omega
  have m1 := txt_to l c hc
  have m2 := txt_from l c hc
  have hcut := allE_cut (l.take c) (l.drop c)
  rw [List.take_append_drop] at hcut
  rw [if_pos hf] at hcut
  have hl1 := allE_left (l.take c).length (l.take c) (Nat.le_refl _)
  rw [List.length_take] at hl1
  have K1 := Lib.hid (fun w hT => eall_at l (by omega) w hT)
  have K2 := Lib.hid (fun w hT => eall_at (l.take c) (by rw [List.length_take]; omega) w hT)
  have K3 := Lib.hid (fun w hT => eall_at ((allE (l.take c)).2.1 ++ l.drop c) (by rw [List.length_append, List.length_drop]; omega) w hT)
  have hl3 := allE_left ((allE (l.take c)).2.1 ++ l.drop c).length ((allE (l.take c)).2.1 ++ l.drop c) (Nat.le_refl _)
  rw [List.length_append, List.length_drop] at hl3
  rw [hcut] at K1
  clear hcut
  rw [hf] at K2
  generalize allE ((allE (l.take c)).2.1 ++ l.drop c) = q3 at *
  generalize allE (l.take c) = q1 at *
  obtain ⟨A, lf, f⟩ := q1
  obtain ⟨B, last, g⟩ := q3
  simp only at *
  have zl : (txt lf).size ≤ 4096 := by rw [txt_size]; omega
  have zr : (txt (l.drop c)).size ≤ 4096 := by rw [txt_size, List.length_drop]; omega
  have z3 : ¬ (9223372036854775807 < (txt lf).size + (txt (l.drop c)).size) := by omega
  rw [← txt_append] at K1 K3
  obtain ⟨n, hn⟩ : ∃ n, n = A.length := ⟨_, rfl⟩
  rw [← hn] at K1 K2
  have HN := Lib.hid hn
  have hn1 : n ≤ 4096 := by omega
  have hm : n + 0 ≤ maxLen := by unfold maxLen; omega
  have hby : (n + 0) * 32 ≤ 140737488355328 := by omega
  generalize txt (l.take c) = sl at *
  generalize txt (l.drop c) = sr at *
  generalize txt lf = lt at *
  generalize txt l = s at *
  clear hs hc hz hf hl1 hl3 hn
  obtain ⟨i, z, hi, hz, hi1, hi2, hi3⟩ := ev_info
  go_enter Tryd.func6, Tryd.ntmps6
  go_wp2_with fail
  refine (ealive w hT).mono ?_
  rintro r w1 ⟨rfl, hB⟩
  go_wp2_with fail
  refine (K1.out w1 (hT.below hB)).mono ?_
  rintro r w2 ⟨v1, rfl, hown1, hb2⟩
  obtain ⟨a1, c1, rfl, hE1⟩ := owns_evs hown1 HN.out
  replace hB := hB.trans (hb2.mono hB.size)
  clear hown1 hb2 K1
  go_wp2_with fail
  refine (K2.out w2 (hT.below hB)).mono ?_
  rintro r w3 ⟨v2, rfl, hown2, hb3⟩
  have hE1a := hE1
  replace hE1 := hE1.below hb3
  have hBB : w.heap.size ≤ w2.heap.size := hB.size
  replace hB := hB.trans (hb3.mono hB.size)
  have hsz3 := hb3.size
  clear hb3 K2
  go_wp2_with fail
  refine (K3.out w3 (hT.below hB)).mono ?_
  rintro r w4 ⟨v3, rfl, hown3, hb4⟩
  have hown2b := hown2.kept (gb_below hb4 none) (by rcases Option.eq_none_or_eq_some (Value.ownBlock v2) with h | ⟨b, h⟩ <;> simp [h])
  replace hE1 := hE1.below hb4
  replace hB := hB.trans (hb4.mono hB.size)
  have hbase : w2.heap.size ≤ w4.heap.size := Nat.le_trans hsz3 hb4.size
  clear hown2 hown3 hb4 K3
  obtain ⟨ta, tc, hv2, _⟩ := owns_evs hown2b HN.out
  subst hv2
  go_upto_region 9 with fail
  refine wp_region_quiet_below (by kernel_rfl) (by kernel_rfl) ?_
  repeat (go_big_quiet_step (fail))
  refine wpQuiet_nil ?_
  intro _ hw'
  obtain ⟨p, hw''⟩ := hw'
  subst hw''
  have hb5 := below_regrown w4 p.d p.os
  have hown2c := hown2b.kept (gb_below hb5 none) (by rcases Option.eq_none_or_eq_some (Value.ownBlock (.slice ta n tc)) with h | ⟨b, h⟩ <;> simp [h])
  replace hE1 := hE1.below hb5
  replace hB := hB.trans (hb5.mono hB.size)
  replace hbase := Nat.le_trans hbase hb5.size
  clear hown2b hb5
  generalize Sort.grow (redrawn w4 p.d) p.os = w5 at *
  have N1 : (none : Option Addr) = none → (0 : Nat) = 0 ∧ (0 : Nat) = 0 := fun _ => ⟨rfl, rfl⟩
  have N2 : ([] : List Value).length = 0 * 2 := rfl
  have N3 : ∀ ad, (none : Option Addr) = some ad → ∀ (j : Nat) (u : Value), ([] : List Value)[j]? = some u → w5.cell? (ad.add j) = some u := fun _ h => nomatch h
  have N4 : ∀ u ∈ ([] : List Value), u.oneCell' = true := fun _ h => nomatch h
  go_upto_region 11 with (first
    | ((with_reducible refine append_ev_op rfl _ _ 37 rfl w2.heap.size 23 i z 2 32 Tryd.underlying37 hi hz hi1 hi2 hi3 (by decide) (.slice ta n tc) n (evsC A) rfl hown2c none 0 0 [] rfl N1 N2 N3 N4 hm hby hbase ?_); intro v6 w6 hown6 hgr6))
  rw [List.append_nil, Nat.add_zero] at hown6
  replace hB : Below w.heap.size w w6 := hB.trans ⟨hgr6.os, hgr6.tape, hgr6.output, hgr6.size, fun k hk => hgr6.block k (Nat.lt_of_lt_of_le hk hB.size) (fun e => by have := (hown2c.lt k e.symm).1; omega)⟩
  replace hE1 := hE1a.past hE1 hgr6 (fun k hk => (hown2c.lt k hk).1)
  obtain ⟨a6, c6, rfl, hE6⟩ := owns_evs hown6 HN.out
  clear hown6 hgr6 hown2c hE1a hbase hsz3 hm hby hi hz hi1 hi2 hi3
  go_wp2_with fail
  go_loopw [82] (fun i wr => ∃ k : Nat, k ≤ n ∧ i = .int .i64 k ∧ EvsAt wr a1 (A) ∧ EvsAt wr a6 (A) ∧ Below w.heap.size w wr) (fun i _ => n - (intOf i).toNat)
  case atStart => exact ⟨0, Nat.zero_le _, rfl, hE1, hE6, hB⟩
  case round =>
    clear hE1 hE6 hB
    obtain ⟨k, hk, rfl, hE1, hE6, hB⟩ := hrel
    by_cases hlt : k < n
    · have hkv : k < (A).length := by rw [← HN.out]; exact hlt
      obtain ⟨ab, ao, ha1, _, hc1⟩ := hE1 (by omega)
      obtain ⟨bb, bo, ha6, _, hc6⟩ := hE6 (by omega)
      have HE1 := Lib.hid hE1
      have HE6 := Lib.hid hE6
      subst ha1 ha6
      have q1 := range_cls (hc1 k hkv) (by simp [evC])
      have q6 := range_cls (hc6 k hkv) (by simp [evC])
      have qn := ev_neq (A[k]) (A[k]) false (by simp)
      generalize A[k] = x at *
      have f1 : (k : Int) < (n : Int) := by omega
      have f2 : (0 : Int) ≤ (k : Int) := by omega
      clear hc1 hc6 hE1 hE6 hkv
      go_wp2_with fail
      refine wp_region_quiet_below (by kernel_rfl) (by kernel_rfl) ?_
      repeat (first
        | (go_big_quiet_want; (with_reducible refine quiet_ev_mid _ rfl ab (ao + k * 2) rfl x q1 ?_); (simp only [Act.put, List.setIfInBounds_toArray, List.set_cons_zero, List.set_cons_succ]); go_big_quiet_on)
        | (go_big_quiet_want; (with_reducible refine quiet_ev_mid _ rfl bb (bo + k * 2) rfl x q6 ?_); (simp only [Act.put, List.setIfInBounds_toArray, List.set_cons_zero, List.set_cons_succ]); go_big_quiet_on)
        | (go_big_quiet_want; (with_reducible refine quiet_evneq _ _ _ rfl _ _ _ rfl rfl qn ?_); (simp only [Act.put, List.setIfInBounds_toArray, List.set_cons_zero, List.set_cons_succ]); go_big_quiet_on)
        | go_big_quiet_step (fail))
      refine wpQuiet_nil ?_
      intro _ hw'
      obtain ⟨p, hw''⟩ := hw'
      subst hw''
      have hb7 := below_regrown wr p.d p.os
      have hE1 := HE1.out.below hb7
      have hE6 := HE6.out.below hb7
      have hB2 := hB.trans (hb7.mono hB.size)
      clear q1 q6 qn hb7 HE1 HE6
      generalize Sort.grow (redrawn wr p.d) p.os = w9 at *
      go_wp2_with fail
      go_roundw
      case rel => exact ⟨k + 1, by omega, by go_num, hE1, hE6, hB2⟩
      case measure => simp [intOf]; omega
    · obtain rfl : k = n := by omega
      have f1 : decide ((k : Int) < (k : Int)) = false := decide_eq_false (by omega)
      clear hlt
      go_wp2_with fail
      go_ret
      exact ⟨rfl, hB⟩
set_option maxRecDepth 100000 in
set_option maxHeartbeats 4000000 in
theorem ecuts_else (l : List UInt8) (hs : l.length ≤ 4096) (c : Nat) (hc : c ≤ l.length) (hf : (allE (l.take c)).2.2 ≠ 4) (w : World) (hT : Tab w) :
    Calls Tryd.prog 6 #[.string (txt l), .int .i64 (c : Int)] w fun r w' => r = .returned (.bool true) ∧ Below w.heap.size w w' := by
  have hz := txt_size l
  have t1 : decide ((4096 : Int) < ((txt l).size : Int)) = false := decide_eq_false (by omega)
  have t2 : decide ((c : Int) < 0) = false := decide_eq_false (by omega)
  have t3 : decide (((txt l).size : Int) < (c : Int)) = false := decide_eq_false (by omega)
  have t4 : ¬ (txt l).size < c := by omega
  have g1 : (c : Int) ≤ ((txt l).size : Int) := by omega
  have g2 : (0 : Int) ≤ (c : Int) := by omega
  have m1 := txt_to l c hc
  have m2 := txt_from l c hc
  have hcut := allE_cut (l.take c) (l.drop c)
  rw [List.take_append_drop] at hcut
  rw [if_neg hf] at hcut
  have hl1 := allE_left (l.take c).length (l.take c) (Nat.le_refl _)
  rw [List.length_take] at hl1
  have K1 := Lib.hid (fun w hT => eall_at l (by omega) w hT)
  have K2 := Lib.hid (fun w hT => eall_at (l.take c) (by rw [List.length_take]; omega) w hT)
  have K3 := Lib.hid (fun w hT => eall_at ((allE (l.take c)).2.1 ++ l.drop c) (by rw [List.length_append, List.length_drop]; omega) w hT)
  have hl3 := allE_left ((allE (l.take c)).2.1 ++ l.drop c).length ((allE (l.take c)).2.1 ++ l.drop c) (Nat.le_refl _)
  rw [List.length_append, List.length_drop] at hl3
  rw [hcut] at K1
  clear hcut
  generalize allE ((allE (l.take c)).2.1 ++ l.drop c) = q3 at *
  generalize allE (l.take c) = q1 at *
  obtain ⟨A, lf, f⟩ := q1
  obtain ⟨B, last, g⟩ := q3
  simp only at *
  have zl : (txt lf).size ≤ 4096 := by rw [txt_size]; omega
  have zr : (txt (l.drop c)).size ≤ 4096 := by rw [txt_size, List.length_drop]; omega
  have z3 : ¬ (9223372036854775807 < (txt lf).size + (txt (l.drop c)).size) := by omega
  rw [← txt_append] at K3
  have u1 : ((f : Int) == 4) = false := by rw [beq_eq_false_iff_ne]; omega
  obtain ⟨na, hna⟩ : ∃ n, n = A.length := ⟨_, rfl⟩
  obtain ⟨nb, hnb⟩ : ∃ n, n = B.length := ⟨_, rfl⟩
  obtain ⟨n, hn⟩ : ∃ n, n = (A ++ B).length := ⟨_, rfl⟩
  rw [← hn] at K1
  rw [← hna] at K2
  rw [← hnb] at K3
  have hab : na + nb = n := by rw [hn, List.length_append, hna, hnb]
  have HN := Lib.hid hn
  have HNB := Lib.hid hnb
  have HNA := Lib.hid hna
  have hn1 : n ≤ 8192 := by omega
  have hm : na + nb ≤ maxLen := by unfold maxLen; omega
  have hby : (na + nb) * 32 ≤ 140737488355328 := by omega
  have HAB := Lib.hid hab
  generalize txt (l.take c) = sl at *
  generalize txt (l.drop c) = sr at *
  generalize txt lf = lt at *
  generalize txt l = s at *
  generalize txt last = la at *
  clear hs hc hz hf hl1 hl3 hna hnb hn hab
  obtain ⟨i, z, hi, hz, hi1, hi2, hi3⟩ := ev_info
  go_enter Tryd.func6, Tryd.ntmps6
  go_wp2_with fail
  refine (ealive w hT).mono ?_
  rintro r w1 ⟨rfl, hB⟩
  go_wp2_with fail
  refine (K1.out w1 (hT.below hB)).mono ?_
  rintro r w2 ⟨v1, rfl, hown1, hb2⟩
  obtain ⟨a1, c1, rfl, hE1⟩ := owns_evs hown1 HN.out
  replace hB := hB.trans (hb2.mono hB.size)
  clear hown1 hb2 K1
  go_wp2_with fail
  refine (K2.out w2 (hT.below hB)).mono ?_
  rintro r w3 ⟨v2, rfl, hown2, hb3⟩
  have hE1a := hE1
  replace hE1 := hE1.below hb3
  have hBB : w.heap.size ≤ w2.heap.size := hB.size
  replace hB := hB.trans (hb3.mono hB.size)
  have hsz3 := hb3.size
  clear hb3 K2
  go_wp2_with fail
  refine (K3.out w3 (hT.below hB)).mono ?_
  rintro r w4 ⟨v3, rfl, hown3, hb4⟩
  have hown2b := hown2.kept (gb_below hb4 none) (by rcases Option.eq_none_or_eq_some (Value.ownBlock v2) with h | ⟨b, h⟩ <;> simp [h])
  replace hE1 := hE1.below hb4
  replace hB := hB.trans (hb4.mono hB.size)
  have hbase : w2.heap.size ≤ w4.heap.size := Nat.le_trans hsz3 hb4.size
  obtain ⟨a3, c3, rfl, hnil3, hcells3⟩ := owns_evs_cells hown3
  have HZ3 := Lib.hid hnil3
  have HC3 := Lib.hid hcells3
  have HL3 : Hid ((evsC B).length = nb * 2) := Lib.hid (by rw [evsC_length, HNB.out])
  clear hnil3 hcells3
  clear hown2 hown3 hb4 K3
  obtain ⟨ta, tc, hv2, _⟩ := owns_evs hown2b HNA.out
  subst hv2
  go_upto_region 11 with (first
    | ((with_reducible refine append_ev_op rfl _ _ 37 rfl w2.heap.size 23 i z 2 32 Tryd.underlying37 hi hz hi1 hi2 hi3 (by decide) (.slice ta na tc) na (evsC A) rfl hown2b a3 nb c3 (evsC B) rfl HZ3.out HL3.out HC3.out (evsC_one B) hm hby hbase ?_); intro v6 w6 hown6 hgr6))
  rw [← evsC_app2, HAB.out] at hown6
  replace hB : Below w.heap.size w w6 := hB.trans ⟨hgr6.os, hgr6.tape, hgr6.output, hgr6.size, fun k hk => hgr6.block k (Nat.lt_of_lt_of_le hk hB.size) (fun e => by have := (hown2b.lt k e.symm).1; omega)⟩
  replace hE1 := hE1a.past hE1 hgr6 (fun k hk => (hown2b.lt k hk).1)
  obtain ⟨a6, c6, rfl, hE6⟩ := owns_evs hown6 HN.out
  clear hown6 hgr6 hown2b hE1a hbase hsz3 hm hby hi hz hi1 hi2 hi3
  go_wp2_with fail
  go_loopw [82] (fun i wr => ∃ k : Nat, k ≤ n ∧ i = .int .i64 k ∧ EvsAt wr a1 (A ++ B) ∧ EvsAt wr a6 (A ++ B) ∧ Below w.heap.size w wr) (fun i _ => n - (intOf i).toNat)
  case atStart => exact ⟨0, Nat.zero_le _, rfl, hE1, hE6, hB⟩
  case round =>
    clear hE1 hE6 hB
    obtain ⟨k, hk, rfl, hE1, hE6, hB⟩ := hrel
    by_cases hlt : k < n
    · have hkv : k < (A ++ B).length := by rw [← HN.out]; exact hlt
      obtain ⟨ab, ao, ha1, _, hc1⟩ := hE1 (by omega)
      obtain ⟨bb, bo, ha6, _, hc6⟩ := hE6 (by omega)
      have HE1 := Lib.hid hE1
      have HE6 := Lib.hid hE6
      subst ha1 ha6
      have q1 := range_cls (hc1 k hkv) (by simp [evC])
      have q6 := range_cls (hc6 k hkv) (by simp [evC])
      have qn := ev_neq ((A ++ B)[k]) ((A ++ B)[k]) false (by simp)
      generalize (A ++ B)[k] = x at *
      have f1 : (k : Int) < (n : Int) := by omega
      have f2 : (0 : Int) ≤ (k : Int) := by omega
      clear hc1 hc6 hE1 hE6 hkv
      go_wp2_with fail
      refine wp_region_quiet_below (by kernel_rfl) (by kernel_rfl) ?_
      repeat (first
        | (go_big_quiet_want; (with_reducible refine quiet_ev_mid _ rfl ab (ao + k * 2) rfl x q1 ?_); (simp only [Act.put, List.setIfInBounds_toArray, List.set_cons_zero, List.set_cons_succ]); go_big_quiet_on)
        | (go_big_quiet_want; (with_reducible refine quiet_ev_mid _ rfl bb (bo + k * 2) rfl x q6 ?_); (simp only [Act.put, List.setIfInBounds_toArray, List.set_cons_zero, List.set_cons_succ]); go_big_quiet_on)
        | (go_big_quiet_want; (with_reducible refine quiet_evneq _ _ _ rfl _ _ _ rfl rfl qn ?_); (simp only [Act.put, List.setIfInBounds_toArray, List.set_cons_zero, List.set_cons_succ]); go_big_quiet_on)
        | go_big_quiet_step (fail))
      refine wpQuiet_nil ?_
      intro _ hw'
      obtain ⟨p, hw''⟩ := hw'
      subst hw''
      have hb7 := below_regrown wr p.d p.os
      have hE1 := HE1.out.below hb7
      have hE6 := HE6.out.below hb7
      have hB2 := hB.trans (hb7.mono hB.size)
      clear q1 q6 qn hb7 HE1 HE6
      generalize Sort.grow (redrawn wr p.d) p.os = w9 at *
      go_wp2_with fail
      go_roundw
      case rel => exact ⟨k + 1, by omega, by go_num, hE1, hE6, hB2⟩
      case measure => simp [intOf]; omega
    · obtain rfl : k = n := by omega
      have f1 : decide ((k : Int) < (k : Int)) = false := decide_eq_false (by omega)
      clear hlt
      go_wp2_with fail
      go_ret
      exact ⟨rfl, hB⟩
theorem ecuts_walk (s : ByteArray) (cut : Int) (w : World) (hT : Tab w) : Calls Tryd.prog 6 #[.string s, .int .i64 cut] w fun r w' => r = .returned (.bool true) ∧ Below w.heap.size w w' := by
  by_cases hs : 4096 < s.size
  · exact ecuts_long s cut hs w hT
  by_cases hc : cut < 0
  · exact ecuts_neg s cut hs hc w hT
  by_cases hb : (s.size : Int) < cut
  · exact ecuts_far s cut hs hc hb w hT
  obtain ⟨c, rfl⟩ := Int.eq_ofNat_of_zero_le (show 0 ≤ cut by omega)
  have hl : s.size = s.data.toList.length := Lib.size_eq s
  by_cases hf : (allE (s.data.toList.take c)).2.2 = 4
  · have := ecuts_form s.data.toList (by omega) c (by omega) hf w hT
    rwa [txt_of] at this
  · have := ecuts_else s.data.toList (by omega) c (by omega) hf w hT
    rwa [txt_of] at this
end Go.Proofs.YtggnnlefalcplaaDoor
