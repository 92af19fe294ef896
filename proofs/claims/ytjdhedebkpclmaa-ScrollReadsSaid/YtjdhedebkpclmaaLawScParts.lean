/-
  ScrollParts: the walk.
-/
import Derived.Test.YtjdhedebkpclmaaHashMem2
import Derived.Laws.AppendOwnNone
namespace Go.Proofs.Ytjdhedebkpclmaa
open Go.RowKit Mem Sc
theorem item_info : ∃ i z, Try.prog.info? 32 = some i ∧ i.zero = some z ∧ i.size = 36 ∧ i.bytes = 72 ∧ z.cells.size = 36 := by
  have h1 := iinfo
  have h2 : ((Try.prog.info? 32).bind (·.zero)).map (·.cells.size) = some 36 := by kernel_rfl
  have h3 : (Try.prog.info? 32).map (·.bytes) = some 72 := by kernel_rfl
  cases hi : Try.prog.info? 32 with
  | none => rw [hi] at h1; cases h1
  | some i =>
    rw [hi] at h1 h2 h3
    simp only [Option.map_some, Option.some.injEq, Option.bind_some] at h1 h2 h3
    cases hz : i.zero with
    | none => rw [hz] at h2; cases h2
    | some z =>
      rw [hz] at h2
      simp only [Option.map_some, Option.some.injEq] at h2
      exact ⟨i, z, rfl, hz, h1, h3, h2⟩
/-- a slice is appended to one that is owned, nil or not -/
theorem append_slice_op {P : Program} {w : World} {ops : Array Oper} {rest : List Oper} {o : Oper} {a : Act} {Q : Exit → Act → World → Prop} (hgd : o.guard = none) (s x : Operand) (t : TypeId)
    (ho : o.op = .call { callee := .builtin .append, args := #[s, x], argTypes := #[t, t] })
    (base : Nat) (e : TypeId) (i : TypeInfo) (z : Value) (size bytes : Nat) (ht : P.underlying t = some (.slice e)) (hi : P.info? e = some i) (hz : i.zero = some z)
    (hsize : i.size = size) (hby : i.bytes = bytes) (hzs : z.cells.size = size) (hsz : 0 < size)
    (v : Value) (n : Nat) (xs : List Value) (hs : a.eval s = v) (hown : w.ownsRow base e size v n xs)
    (ao : Option Addr) (m c : Nat) (news : List Value) (hx : a.eval x = .slice ao m c) (hnil : ao = none → m = 0 ∧ c = 0) (hl : news.length = m * size) (hnews : ∀ ad, ao = some ad → ∀ j u, news[j]? = some u → w.cell? (ad.add j) = some u) (h1 : ∀ u ∈ news, u.oneCell' = true)
    (h63 : n + m ≤ maxLen) (hbytes : (n + m) * bytes ≤ 140737488355328) (hbase : base ≤ w.heap.size)
    (h : ∀ v' w', w'.ownsRow base e size v' (n + m) (xs ++ news) → w.grownBy w' v.ownBlock → wpList P ops Q rest (a.put o.dst v') w') : wpList P ops Q (o :: rest) a w := by
  cases ao with
  | none =>
    obtain ⟨rfl, rfl⟩ := hnil rfl
    obtain rfl : news = [] := List.eq_nil_of_length_eq_zero (by simpa using hl)
    exact wpList_append_own_none hgd s x t ho base e i size ht hi v n xs hs hown hx (h v w (by simpa using hown) ⟨rfl, rfl, rfl, Nat.le_refl _, fun _ _ _ => rfl⟩)
  | some ad =>
    exact wpList_append_own w hgd s x t ho base e i z size bytes ht hi hz hsize hby hzs hsz v n xs hs hown ad m c news hx hl (hnews ad rfl) h1 h63 hbytes hbase (fun v' w' h2 h3 _ => h v' w' h2 h3)
def itemsC (its : List It) : List Value := its.flatMap itemC
theorem itemsC_length (its : List It) (h : ∀ x ∈ its, x.ok) : (itemsC its).length = its.length * 36 := by
  induction its with
  | nil => rfl
  | cons x its ih =>
    show (itemC x ++ itemsC its).length = _
    rw [List.length_append, ih (fun y hy => h y (by simp [hy])), itemC_length (h x (by simp)).1, List.length_cons]; omega
theorem itemsC_one (its : List It) : ∀ u ∈ itemsC its, u.oneCell' = true := by
  intro u hu
  obtain ⟨x, _, hu⟩ := List.mem_flatMap.1 hu
  exact Array.all_eq_true_iff_forall_mem.1 (itemA_one x) u (by simpa [itemA] using hu)
theorem items_get (its : List It) (h : ∀ x ∈ its, x.ok) (i j : Nat) (hi : i < its.length) (hj : j < 36) : (itemsC its)[i * 36 + j]? = (itemC its[i])[j]? := by
  induction its generalizing i with
  | nil => simp at hi
  | cons x its ih =>
    have hx : (itemC x).length = 36 := itemC_length (h x (by simp)).1
    show (itemC x ++ itemsC its)[i * 36 + j]? = _
    cases i with
    | zero => rw [List.getElem?_append_left (by omega)]; simp
    | succ i =>
      rw [List.getElem?_append_right (by omega), hx, show (i + 1) * 36 + j - 36 = i * 36 + j by omega, ih (fun y hy => h y (by simp [hy])) i (by simpa using hi)]
      rfl
theorem ItemsAt.ok {w : World} {a : Option Addr} {its : List It} (h : ItemsAt w a its) : ∀ x ∈ its, x.ok := fun x hx => by
  obtain ⟨i, hi, rfl⟩ := List.getElem_of_mem hx
  obtain ⟨ab, ao, _, hc⟩ := h (by omega)
  exact (hc i hi).1
theorem ItemsAt.cells {w : World} {a : Option Addr} {its : List It} (h : ItemsAt w a its) (ad : Addr) (ha : a = some ad) : ∀ j u, (itemsC its)[j]? = some u → w.cell? (ad.add j) = some u := fun j u hu => by
  have hok := h.ok
  have hj := (List.getElem?_eq_some_iff.1 hu).1
  rw [itemsC_length its hok] at hj
  obtain ⟨ab, ao, ha2, hc⟩ := h (by omega)
  rw [ha2] at ha
  obtain rfl := Option.some.inj ha
  have hi : j / 36 < its.length := by omega
  have e : j = j / 36 * 36 + j % 36 := by omega
  rw [e, items_get its hok (j / 36) (j % 36) hi (Nat.mod_lt _ (by decide))] at hu
  rw [Addr.add_mid]
  have := (hc (j / 36) hi).2 (j % 36) u hu
  rwa [show ao + j / 36 * 36 + j % 36 = ao + j by omega] at this
theorem owns_items {w : World} {base : Nat} {v : Value} {n : Nat} {its : List It} (h : w.ownsRow base 32 36 v n (itemsC its)) (hn : n = its.length) (hok : ∀ x ∈ its, x.ok) :
    ∃ a c, v = .slice a n c ∧ ItemsAt w a its := by
  rcases h.2 with ⟨rfl, rfl⟩ | ⟨g, cap, cur, rfl, hb, hg, hc, hm, hcs, ht⟩
  · exact ⟨none, 0, rfl, fun h0 => by omega⟩
  · refine ⟨_, _, rfl, fun h0 => ⟨g, 0, rfl, fun i hi => ⟨hok _ (List.getElem_mem hi), fun j u hu => ?_⟩⟩⟩
    have hj : j < 36 := by
      have := (List.getElem?_eq_some_iff.1 hu).1
      rw [itemC_length (hok _ (List.getElem_mem hi)).1] at this; exact this
    rw [Has.cell hg, Nat.zero_add, ← hu, ← items_get its hok i j hi hj, ← ht, List.getElem?_take_of_lt (by omega), Array.getElem?_toList]
theorem encL_append (a b : List It) : encL (a ++ b) = encL a ++ encL b := by simp [encL]
theorem total_append (a b : List It) : total (a ++ b) = total a + total b := by simp [total]
theorem encL_size (its : List It) (h : ∀ x ∈ its, x.ok) (hl : its.length ≤ 40) (ht : total its ≤ 8192) : (txt (encL its)).size ≤ 10000 := by
  have := encL_le its (fun x hx => (h x hx).1)
  rw [txt_size]; omega
theorem not_great {its : List It} (h : greatB its = false) : its.length ≤ 40 ∧ total its ≤ 4096 := by
  unfold greatB at h
  rw [Bool.or_eq_false_iff] at h
  have h1 := of_decide_eq_false h.1
  have h2 := of_decide_eq_false h.2
  omega
set_option maxRecDepth 100000 in
set_option maxHeartbeats 1000000 in
theorem parts_out_a (aa ab : Option Addr) (xa xb : List It) (na ca nb cb : Nat) (hna : na = xa.length) (hla : na ≤ 4611686018427387904) (h : greatB xa = true) (w : World) (hA : ItemsAt w aa xa) (hB : ItemsAt w ab xb) :
    Calls Try.prog 7 #[.slice aa na ca, .slice ab nb cb] w fun r w' => r = .returned (.bool true) ∧ Below w.heap.size w w' := by
  have GA := Lib.hid (fun w h' => great_at aa xa na ca hna hla w h' true h.symm)
  have HA := Lib.hid hA
  have HB := Lib.hid hB
  clear hA hB hna h
  go_enter Try.func7, Try.ntmps7
  go_wp2_with fail
  refine (salive w).mono ?_
  rintro r w1 ⟨rfl, hb⟩
  go_wp2_with fail
  refine (GA.out _ (HA.out.below hb)).mono ?_
  rintro r w2 ⟨rfl, hb2⟩
  replace hb := hb.trans (hb2.mono hb.size)
  go_wp2_with fail
  go_ret
  exact ⟨rfl, hb⟩
set_option maxRecDepth 100000 in
set_option maxHeartbeats 1000000 in
theorem parts_out_b (aa ab : Option Addr) (xa xb : List It) (na ca nb cb : Nat) (hna : na = xa.length) (hnb : nb = xb.length) (hla : na ≤ 4611686018427387904) (hlb : nb ≤ 4611686018427387904) (h1 : greatB xa = false) (h : greatB xb = true) (w : World) (hA : ItemsAt w aa xa) (hB : ItemsAt w ab xb) :
    Calls Try.prog 7 #[.slice aa na ca, .slice ab nb cb] w fun r w' => r = .returned (.bool true) ∧ Below w.heap.size w w' := by
  have GA := Lib.hid (fun w h => great_at aa xa na ca hna hla w h false h1.symm)
  have GB := Lib.hid (fun w h' => great_at ab xb nb cb hnb hlb w h' true h.symm)
  have HA := Lib.hid hA
  have HB := Lib.hid hB
  clear hA hB hna hnb h h1
  go_enter Try.func7, Try.ntmps7
  go_wp2_with fail
  refine (salive w).mono ?_
  rintro r w1 ⟨rfl, hb⟩
  go_wp2_with fail
  refine (GA.out _ (HA.out.below hb)).mono ?_
  rintro r w2 ⟨rfl, hb2⟩
  replace hb := hb.trans (hb2.mono hb.size)
  go_wp2_with fail
  refine (GB.out _ (HB.out.below hb)).mono ?_
  rintro r w3 ⟨rfl, hb3⟩
  replace hb := hb.trans (hb3.mono hb.size)
  go_wp2_with fail
  go_ret
  exact ⟨rfl, hb⟩
set_option maxRecDepth 100000 in
set_option maxHeartbeats 1000000 in
theorem parts_out_c (aa ab : Option Addr) (xa xb : List It) (na ca nb cb : Nat) (hna : na = xa.length) (hnb : nb = xb.length) (hla : na ≤ 4611686018427387904) (hlb : nb ≤ 4611686018427387904) (h1 : greatB xa = false) (h2 : greatB xb = false) (h : 40 < na + nb) (w : World) (hA : ItemsAt w aa xa) (hB : ItemsAt w ab xb) :
    Calls Try.prog 7 #[.slice aa na ca, .slice ab nb cb] w fun r w' => r = .returned (.bool true) ∧ Below w.heap.size w w' := by
  obtain ⟨ka, _⟩ := not_great h1
  obtain ⟨kb, _⟩ := not_great h2
  rw [← hna] at ka
  rw [← hnb] at kb
  have GA := Lib.hid (fun w h => great_at aa xa na ca hna hla w h false h1.symm)
  have GB := Lib.hid (fun w h' => great_at ab xb nb cb hnb hlb w h' false h2.symm)
  have t1 : decide ((40 : Int) < (na : Int) + (nb : Int)) = true := decide_eq_true (by omega)
  have HA := Lib.hid hA
  have HB := Lib.hid hB
  clear hA hB hna hnb h h1 h2
  go_enter Try.func7, Try.ntmps7
  go_wp2_with fail
  refine (salive w).mono ?_
  rintro r w1 ⟨rfl, hb⟩
  go_wp2_with fail
  refine (GA.out _ (HA.out.below hb)).mono ?_
  rintro r w2 ⟨rfl, hb2⟩
  replace hb := hb.trans (hb2.mono hb.size)
  go_wp2_with fail
  refine (GB.out _ (HB.out.below hb)).mono ?_
  rintro r w3 ⟨rfl, hb3⟩
  replace hb := hb.trans (hb3.mono hb.size)
  go_wp2_with fail
  go_ret
  exact ⟨rfl, hb⟩
set_option maxRecDepth 100000 in
set_option maxHeartbeats 2000000 in
theorem parts_in (aa ab : Option Addr) (xa xb : List It) (na ca nb cb : Nat) (hna : na = xa.length) (hnb : nb = xb.length) (h1 : greatB xa = false) (h2 : greatB xb = false) (h : ¬ 40 < na + nb) (hna0 : aa = none → na = 0 ∧ ca = 0) (hnb0 : ab = none → nb = 0 ∧ cb = 0) (w : World) (hA : ItemsAt w aa xa) (hB : ItemsAt w ab xb) :
    Calls Try.prog 7 #[.slice aa na ca, .slice ab nb cb] w fun r w' => r = .returned (.bool true) ∧ Below w.heap.size w w' := by
  obtain ⟨_, ta⟩ := not_great h1
  obtain ⟨_, tb⟩ := not_great h2
  have GA := Lib.hid (fun w h => great_at aa xa na ca hna (by omega) w h false h1.symm)
  have GB := Lib.hid (fun w h => great_at ab xb nb cb hnb (by omega) w h false h2.symm)
  have PA := Lib.hid (fun w h => putL_at aa xa na ca hna (by omega) (by omega) w h)
  have PB := Lib.hid (fun w h => putL_at ab xb nb cb hnb (by omega) (by omega) w h)
  have PC := Lib.hid (fun a c w h => putL_at a (xa ++ xb) (na + nb) c (by rw [List.length_append]; omega) (by omega) (by rw [total_append]; omega) w h)
  have oka := hA.ok
  have okb := hB.ok
  have hsa := encL_size xa oka (by omega) (by omega)
  have hsb := encL_size xb okb (by omega) (by omega)
  have hcat := txt_append (encL xa) (encL xb)
  rw [← encL_append] at hcat
  have HCAT := Lib.hid hcat
  have t1 : decide ((40 : Int) < (na : Int) + (nb : Int)) = false := decide_eq_false (by omega)
  have lca := itemsC_length xa oka
  have lcb := itemsC_length xb okb
  rw [← hna] at lca
  rw [← hnb] at lcb
  have HA := Lib.hid hA
  have HB := Lib.hid hB
  have HNA := Lib.hid hna
  have HNB := Lib.hid hnb
  have HLA := Lib.hid lca
  have HLB := Lib.hid lcb
  have HOA := Lib.hid oka
  have HOB := Lib.hid okb
  have hn40 : na + nb ≤ 40 := by omega
  have HZA := Lib.hid hna0
  have HZB := Lib.hid hnb0
  clear hA hB h1 h2 hcat lca lcb hna hnb oka okb h ta tb hna0 hnb0
  generalize txt (encL (xa ++ xb)) = TC at *
  generalize txt (encL xa) = TA at *
  generalize txt (encL xb) = TB at *
  obtain ⟨i, z, hi, hz, hi1, hi2, hi3⟩ := item_info
  go_enter Try.func7, Try.ntmps7
  go_wp2_with fail
  refine (salive w).mono ?_
  rintro r w1 ⟨rfl, hb⟩
  go_wp2_with fail
  refine (GA.out _ (HA.out.below hb)).mono ?_
  rintro r w2 ⟨rfl, hb2⟩
  replace hb := hb.trans (hb2.mono hb.size)
  clear hb2
  go_wp2_with fail
  refine (GB.out _ (HB.out.below hb)).mono ?_
  rintro r w3 ⟨rfl, hb3⟩
  replace hb := hb.trans (hb3.mono hb.size)
  clear hb3
  go_wp2_with fail
  refine (PA.out _ (HA.out.below hb)).mono ?_
  rintro r w4 ⟨rfl, hb4⟩
  replace hb := hb.trans (hb4.mono hb.size)
  clear hb4
  go_wp2_with fail
  refine (PB.out _ (HB.out.below hb)).mono ?_
  rintro r w5 ⟨rfl, hb5⟩
  replace hb := hb.trans (hb5.mono hb.size)
  clear hb5
  have hmk : ∀ w, (Instr.buildSlice 22 0 #[]).run Try.prog w = .ok (.slice (some ⟨w.heap.size, 0, none⟩) 0 0) (w.alloc (.cells #[] 32)) := fun _ => by kernel_rfl
  have hb6 : Below w.heap.size w (w5.alloc (.cells #[] 32)) := hb.alloc hb.size _
  have hown6 : (w5.alloc (.cells #[] 32)).ownsRow w5.heap.size 32 36 (.slice (some ⟨w5.heap.size, 0, none⟩) 0 0) 0 [] := World.ownsRow_made w5 #[] 0 (Nat.le_refl _) (by decide) rfl
  have cA := (HA.out.below hb6).cells
  have hs6 : w5.heap.size ≤ (w5.alloc (.cells #[] 32)).heap.size := by rw [World.size_alloc]; omega
  have m1 : 0 + na ≤ maxLen := by unfold maxLen; omega
  have m2 : 0 + na + nb ≤ maxLen := by unfold maxLen; omega
  have hby1 : (0 + na) * 72 ≤ 140737488355328 := by omega
  have hby2 : (0 + na + nb) * 72 ≤ 140737488355328 := by omega
  have hgr6 : w5.grownBy (w5.alloc (.cells #[] 32)) none := gb_below ((Below.refl _ _).alloc (Nat.le_refl _) _) _
  have hic : itemsC (xa ++ xb) = [] ++ itemsC xa ++ itemsC xb := by simp [itemsC]
  have HIC := Lib.hid hic
  clear hic
  have HR5 : Hid (w.heap.size ≤ w5.heap.size) := Lib.hid hb.size
  go_wp2_with (first
    | ((with_reducible refine append_slice_op rfl (.tmp 38) (.tmp 39) 22 rfl w5.heap.size 32 i z 36 72 Try.underlying22 hi hz hi1 hi2 hi3 (by decide) (.slice (some ⟨w5.heap.size, 0, none⟩) 0 0) 0 [] rfl hown6 aa na ca (itemsC xa) rfl HZA.out HLA.out cA (itemsC_one xa) m1 hby1 hs6 ?_); intro v7 w7 hown7 hgr7; have hb7 : Below w.heap.size w w7 := hb6.trans (gb_toBelow (g := w5.heap.size) hgr7 HR5.out hb6.size); have cB := (HB.out.below hb7).cells; have hs7 : w5.heap.size ≤ w7.heap.size := Nat.le_trans hs6 hgr7.size)
    | ((with_reducible refine append_slice_op rfl (.tmp 40) (.tmp 41) 22 rfl w5.heap.size 32 i z 36 72 Try.underlying22 hi hz hi1 hi2 hi3 (by decide) v7 (0 + na) _ rfl hown7 ab nb cb (itemsC xb) rfl HZB.out HLB.out cB (itemsC_one xb) m2 hby2 hs7 ?_); intro v8 w8 hown8 hgr8))
  have hb8 : Below w.heap.size w w8 := hb7.trans ⟨hgr8.os, hgr8.tape, hgr8.output, hgr8.size, fun k hk => hgr8.block k (by have := hb7.size; omega) (fun e => by have := (hown7.lt k e.symm).1; have := HR5.out; omega)⟩
  rw [← HIC.out, Nat.zero_add] at hown8
  obtain ⟨az, cz, rfl, hZ⟩ := owns_items hown8 (by rw [List.length_append, HNA.out, HNB.out]) (fun x hx => by
    rcases List.mem_append.1 hx with h | h
    · exact HOA.out x h
    · exact HOB.out x h)
  refine (PC.out az cz _ hZ).mono ?_
  rintro r w9 ⟨rfl, hb9⟩
  replace hb8 := hb8.trans (hb9.mono hb8.size)
  have hcat := HCAT.out
  clear hmk hown6 hgr6 cA cB hown7 hown8 hgr7 hgr8 hb7 hb6 hb hs6 hs7 hb9 hZ HIC HCAT
  subst hcat
  go_wp2_with fail
  go_ret
  exact ⟨rfl, hb8⟩
theorem parts_walk (aa ab : Option Addr) (xa xb : List It) (na ca nb cb : Nat) (hna : na = xa.length) (hnb : nb = xb.length) (hla : na ≤ 4611686018427387904) (hlb : nb ≤ 4611686018427387904) (hna0 : aa = none → na = 0 ∧ ca = 0) (hnb0 : ab = none → nb = 0 ∧ cb = 0) (w : World) (hA : ItemsAt w aa xa) (hB : ItemsAt w ab xb) :
    Calls Try.prog 7 #[.slice aa na ca, .slice ab nb cb] w fun r w' => r = .returned (.bool true) ∧ Below w.heap.size w w' := by
  cases h1 : greatB xa
  · cases h2 : greatB xb
    · by_cases h : 40 < na + nb
      · exact parts_out_c aa ab xa xb na ca nb cb hna hnb hla hlb h1 h2 h w hA hB
      · exact parts_in aa ab xa xb na ca nb cb hna hnb h1 h2 h hna0 hnb0 w hA hB
    · exact parts_out_b aa ab xa xb na ca nb cb hna hnb hla hlb h1 h2 w hA hB
  · exact parts_out_a aa ab xa xb na ca nb cb hna hla h1 w hA hB
end Go.Proofs.Ytjdhedebkpclmaa
