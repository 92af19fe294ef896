/-
  The reference's Last: the last eleven of a row, the newest first. What an append of one number leaves.
-/
import Derived.Test.YtmmpdalemifneaaMdRef
namespace Go.Proofs.Ytmmpdalemifneaa
open Go.RowKit Mem Md
theorem int_info : ∃ i z, Try.prog.info? 3 = some i ∧ i.zero = some z ∧ i.size = 1 ∧ i.bytes = 8 ∧ z.cells.size = 1 := by
  have h1 : (Try.prog.info? 3).map (·.size) = some 1 := infoInt
  have h2 : ((Try.prog.info? 3).bind (·.zero)) = some (.int .i64 0) := by kernel_rfl
  have h3 : (Try.prog.info? 3).map (·.bytes) = some 8 := by kernel_rfl
  cases hi : Try.prog.info? 3 with
  | none => rw [hi] at h1; cases h1
  | some i =>
    rw [hi] at h1 h2 h3
    exact ⟨i, .int .i64 0, rfl, by simpa using h2, by simpa using h1, by simpa using h3, rfl⟩
/-- one number more behind a slice that is the call's own -/
theorem append_one {w : World} {ops : Array Oper} {rest : List Oper} {o : Oper} {a : Act} {Q : Exit → Act → World → Prop} (hgd : o.guard = none) (s x : Operand)
    (ho : o.op = .call { callee := .builtin .append, args := #[s, x], argTypes := #[22, 22] }) (base : Nat) (v : Value) (n : Nat) (l : List Int) (hs : a.eval s = v) (hown : w.ownsRow base 3 1 v n (l.map (Value.int .i64)))
    (g : Nat) (z : Int) (hx : a.eval x = .slice (some ⟨g, 0, none⟩) 1 1) (hc : w.cell? ⟨g, 0, none⟩ = some (.int .i64 z)) (hn : n ≤ 1000) (hbase : base ≤ w.heap.size)
    (h : ∀ v' w', w'.ownsRow base 3 1 v' (n + 1) ((l ++ [z]).map (Value.int .i64)) → w.grownBy w' v.ownBlock → wpList Try.prog ops Q rest (a.put o.dst v') w') : wpList Try.prog ops Q (o :: rest) a w := by
  obtain ⟨i, y, hi, hz, h1, h2, h3⟩ := int_info
  refine wpList_append_own _ hgd s x 22 ho base 3 i y 1 8 Try.underlying22 hi hz h1 h2 h3 (by decide) v n _ hs hown ⟨g, 0, none⟩ 1 1 [.int .i64 z] hx rfl (fun j u hj => ?_) (fun u hu => ?_) (by unfold maxLen; omega) (by omega) hbase (fun v' w' h4 h5 _ => h v' w' ?_ h5)
  · have hj0 : j = 0 := by have := (List.getElem?_eq_some_iff.1 hj).1; simpa using this
    subst hj0
    rw [add_at]
    simp at hj
    rw [← hj]; exact hc
  · simp at hu; rw [hu]; rfl
  · simpa using h4
theorem owns_take_slice {w : World} {base : Nat} {v : Value} {n : Nat} {xs : List Value} {e : Nat} (h : w.ownsRow base e 1 v n xs) : ∃ p cap, v = .slice p n cap := by
  rcases h.2 with ⟨rfl, rfl⟩ | ⟨g, c, cur, rfl, _⟩
  · exact ⟨_, _, rfl⟩
  · exact ⟨_, _, rfl⟩
set_option maxRecDepth 100000 in
set_option maxHeartbeats 2000000 in
theorem ref_last {lo hi : Nat} (p : Option Addr) (n cap : Nat) (l : List Int) (hl : l.length = n) (hmax : n < 4611686018427387904) (w : World) (hL : Lie w lo hi p l) (hi2 : hi ≤ w.heap.size) :
    Calls Try.prog 14 #[.slice p n cap] w fun r w' => ∃ p' cap', r = .returned (.slice p' (min n 11) cap') ∧ min n 11 ≤ cap' ∧ Lie w' w.heap.size w'.heap.size p' (last l) ∧ Below w.heap.size w w' := by
  obtain ⟨K, hK⟩ : ∃ K, K = min n 11 := ⟨_, rfl⟩
  have hT : (last l).length = K := by rw [last_length, hl, hK]
  have HCell : Hid (∀ w', Below w.heap.size w w' → ∀ j, j < K → ∃ b off, p = some ⟨b, off, none⟩ ∧ w'.cell? ⟨b, off + (n - 1 - j), none⟩ = some (.int .i64 ((last l).getD j 0))) := Lib.hid (fun w' hb j hj => by
    obtain ⟨b, off, e, h1, h2, h3⟩ := hL (by omega)
    refine ⟨b, off, e, ?_⟩
    rw [hb.cell (p := ⟨b, off + (n - 1 - j), none⟩) (show b < _ by omega), h3 (n - 1 - j) (by omega)]
    simp only [last, List.getD_eq_getElem?_getD, List.getElem?_take]
    rw [if_pos (by omega), List.getElem?_reverse (by omega), hl])
  have HK := Lib.hid hK
  have hK11 : K ≤ 11 := by omega
  have hKn : K ≤ n := by omega
  rw [← hK]
  generalize last l = T at *
  clear hL hl hi2 hK
  obtain ⟨e0, he0⟩ : ∃ e0 : Int, e0 = (n : Int) - 1 := ⟨_, rfl⟩
  have hw0 : IntKind.i64.wrap ((n : Int) - 1) = e0 := by rw [IntKind.wrap_i64]; omega
  have HE0 := Lib.hid he0
  clear he0
  go_enter Try.func14, Try.ntmps14
  go_wp2_with fail
  go_loopw [3, 4] (fun o i wr => ∃ j : Nat, ∃ e : Int, j ≤ K ∧ i = .int .i64 e ∧ Hid (e = (n : Int) - 1 - j) ∧ wr.ownsRow w.heap.size 3 1 o j ((T.take j).map (Value.int .i64)) ∧ Below w.heap.size w wr) (fun _ i _ => (intOf i + 1).toNat)
  case atStart => exact ⟨0, e0, by omega, rfl, Lib.hid (by rw [HE0.out]; omega), World.ownsRow_nil _ _ _ _, Below.refl _ _⟩
  case round =>
    obtain ⟨j, e, hj, rfl, HE, hown, hb⟩ := hrel
    obtain ⟨po, co, hu⟩ := owns_take_slice hown
    subst hu
    by_cases hlt : j < K
    · obtain ⟨q, hq⟩ : ∃ q, q = n - 1 - j := ⟨_, rfl⟩
      obtain ⟨b, off, rfl, cq⟩ := HCell.out wr hb j hlt
      rw [← hq] at cq
      have eq : e = (q : Int) := by rw [HE.out]; omega
      subst eq
      have hqn : q < n := by omega
      have hj11 : decide ((j : Int) < 11) = true := decide_eq_true (by omega)
      obtain ⟨x, hx⟩ : ∃ x, x = T.getD j 0 := ⟨_, rfl⟩
      rw [← hx] at cq
      have HT : Hid (T.take (j + 1) = T.take j ++ [x]) := Lib.hid (by
        rw [List.take_add_one, hx]
        simp [List.getD_eq_getElem?_getD, show j < T.length by omega])
      obtain ⟨e2, he2⟩ : ∃ e2 : Int, e2 = (q : Int) - 1 := ⟨_, rfl⟩
      have hwr : IntKind.i64.wrap ((q : Int) - 1) = e2 := by rw [IntKind.wrap_i64]; omega
      have HE2 : Hid (e2 = (n : Int) - 1 - (j + 1 : Nat)) := Lib.hid (by rw [he2]; omega)
      have HM : Hid ((e2 + 1).toNat < ((q : Int) + 1).toNat) := Lib.hid (by rw [he2]; omega)
      have hgb := Lib.hid (fun k => (hown.lt k))
      have hown1 := hown.alloc (.cells #[.int .i64 x] 3)
      have hc1 : (wr.alloc (.cells #[.int .i64 x] 3)).cell? ⟨wr.heap.size, 0, none⟩ = some (.int .i64 x) := (Has.new (w := wr) #[.int .i64 x] 3).cell 0
      have hbs : w.heap.size ≤ (wr.alloc (.cells #[.int .i64 x] 3)).heap.size := by rw [World.size_alloc]; have := hb.size; omega
      have hb1 := Lib.hid (hb.alloc hb.size (.cells #[.int .i64 x] 3))
      have hj1000 : j ≤ 1000 := by omega
      clear hq he2 hx hown HCell HE HK
      go_wp2_with ((with_reducible refine append_one rfl (.tmp 17) (.tmp 22) rfl w.heap.size (.slice po j co) j (T.take j) rfl hown1 wr.heap.size x rfl hc1 hj1000 hbs ?_); intro v' w2 hown2 hg2)
      exact ⟨⟨j + 1, e2, by omega, rfl, HE2, by rw [HT.out]; exact hown2, hb1.out.grown hg2 hbs (fun k hk => (hgb.out k hk).1)⟩, HM.out⟩
    · obtain rfl : j = K := by omega
      rw [List.take_of_length_le (by omega)] at hown
      obtain ⟨p', cap', e1, hc', _, hL'⟩ := lie_of_owns hown
      cases e1
      have HC' := Lib.hid hc'
      have HL' := Lib.hid hL'
      have HB := Lib.hid hb
      clear hown hL' hc' hb HCell
      by_cases h11 : n ≤ 11
      · obtain rfl : e = -1 := by rw [HE.out]; have := HK.out; omega
        clear HE HK HE0
        go_wp2_with fail
        go_ret
        exact ⟨_, _, rfl, HC'.out, HL'.out, HB.out⟩
      · obtain ⟨q, hq⟩ : ∃ q, q = n - 1 - j := ⟨_, rfl⟩
        have eq : e = (q : Int) := by rw [HE.out]; have := HK.out; omega
        subst eq
        obtain rfl : j = 11 := by have := HK.out; omega
        clear HE HK HE0 hq
        go_wp2_with fail
        go_ret
        exact ⟨_, _, rfl, HC'.out, HL'.out, HB.out⟩
end Go.Proofs.Ytmmpdalemifneaa
