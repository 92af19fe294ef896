/-
  MedianTurned: the walk.
-/
import Derived.Test.YtmmpdalemifneaaMdAlive
namespace Go.Proofs.Ytmmpdalemifneaa
open Go.RowKit Mem Md
variable {w : World} {lo hi n cap k : Nat} {l : List Int}
theorem cut_take_some (a : Addr) (hl : l.length = n) (hk : k ≤ n) (hc : n ≤ cap) (h : Lie w lo hi (some a) l) :
    ∃ a', (∀ w' : World, (Instr.sliceAt 22 (.slice (some a) n cap) none (some (.int .i64 (k : Int))) none).run Try.prog w' = .ok (.slice (some a') k cap) w') ∧ Lie w lo hi (some a') (l.take k) := by
  obtain ⟨p', h1, h2⟩ := cut_take hl hk hc h
  by_cases h0 : 0 < k
  · obtain ⟨b, off, rfl, _⟩ := h2 (by simp; omega)
    exact ⟨_, h1, h2⟩
  · obtain rfl : k = 0 := by omega
    refine ⟨if cap = 0 then a else a.add 0, fun w' => ?_, by rw [List.take_zero]; exact Lie.none⟩
    rw [run_sliceAt_slice w' 22 _ _ _ _ (by kernel_rfl), run_slice_h w' 22 (some a) n cap (by kernel_rfl) .i64 ((0 : Nat) : Int) (by omega) (by omega)]
    rw [show Try.prog.elem 22 = 3 by kernel_rfl]
    by_cases hc0 : cap = 0 <;> simp [sliced, Try.sizeOf3, hc0]
/-- what is appended to a slice that is the call's own, as one step of a drawn region -/
theorem step_append_ints {ops : Array Oper} {o : Oper} {a : Act} {K : Act → World → Prop} {Q : Exit → Act → World → Prop} {E : Prop} (hgd : o.guard = none) (s x : Operand)
    (ho : o.op = .call { callee := .builtin .append, args := #[s, x], argTypes := #[22, 22] }) (base : Nat) (v : Value) (n : Nat) (l : List Int) (hs : a.eval s = v) (hown : w.ownsRow base 3 1 v n (l.map (Value.int .i64)))
    (ad : Addr) (m c : Nat) (z : List Int) (hx : a.eval x = .slice (some ad) m c) (hz : z.length = m) (hL : Lie w lo hi (some ad) z) (hn : n + m ≤ 1000) (hbase : base ≤ w.heap.size)
    (h : ∀ v' w', w'.ownsRow base 3 1 v' (n + m) ((l ++ z).map (Value.int .i64)) → w.grownBy w' v.ownBlock → K (a.put o.dst v') w') : if Region.wanted o (yielded ops a.tmps) = true then Oper.wp Try.prog o a w K Q else E := by
  have hw : Region.wanted o (yielded ops a.tmps) = true := by simp [Region.wanted, hgd]
  rw [if_pos hw]
  obtain ⟨i, y, hi, hzz, h1, h2, h3⟩ := int_info
  refine wp_append_own w s x 22 ho base 3 i y 1 8 Try.underlying22 hi hzz h1 h2 h3 (by decide) v n _ hs hown ad m c (z.map (Value.int .i64)) hx (by simpa using hz) (fun j u hj => ?_) (fun u hu => ?_) (by unfold maxLen; omega) (by omega) hbase (fun v' w' h4 h5 _ => h v' w' ?_ h5)
  · have hj0 : j < z.length := by have := (List.getElem?_eq_some_iff.1 hj).1; simpa using this
    obtain ⟨b, off, e, _, _, hc⟩ := hL (by omega)
    cases e
    rw [add_at, hc j hj0, ← hj]
    simp [List.getD_eq_getElem?_getD, hj0]
  · obtain ⟨q, _, rfl⟩ := List.mem_map.1 hu; rfl
  · rw [List.map_append]; exact h4
set_option maxRecDepth 100000 in
set_option maxHeartbeats 1000000 in
theorem turned_out (at_ : Int) (p : Option Addr) (n cap : Nat) (h : 11 < n ∨ n = 0) (w : World) :
    Calls Try.prog 4 #[.slice p n cap, .int .i64 at_] w fun r w' => r = .returned (.bool true) ∧ Below w.heap.size w w' := by
  rcases h with h | rfl
  · have hd : decide ((11 : Int) < (n : Int)) = true := decide_eq_true (by omega)
    have d0 : ((n : Int) == 0) = false := by simp; omega
    clear h
    go_enter Try.func4, Try.ntmps4
    go_wp2_with fail
    refine (alive9 w).mono ?_
    rintro r w1 ⟨rfl, hB⟩
    go_wp2_with fail
    go_ret
    exact ⟨rfl, hB⟩
  · go_enter Try.func4, Try.ntmps4
    go_wp2_with fail
    refine (alive9 w).mono ?_
    rintro r w1 ⟨rfl, hB⟩
    go_wp2_with fail
    go_ret
    exact ⟨rfl, hB⟩
set_option maxRecDepth 100000 in
set_option maxHeartbeats 2000000 in
theorem turned_in (at_ : Int) (p : Option Addr) (n cap : Nat) (l : List Int) (hl : l.length = n) (hc : n ≤ cap) (h0 : 0 < n) (h11 : n ≤ 11) (w : World) (h : Lie w lo hi p l) (hh : hi ≤ w.heap.size) :
    Calls Try.prog 4 #[.slice p n cap, .int .i64 at_] w fun r w' => r = .returned (.bool true) ∧ Below w.heap.size w w' := by
  have hd : decide ((11 : Int) < (n : Int)) = false := decide_eq_false (by omega)
  have d0 : ((n : Int) == 0) = false := by simp; omega
  obtain ⟨A, hA⟩ : ∃ A : Nat, A = (at_ % 18446744073709551616).toNat := ⟨_, rfl⟩
  have u1 : IntKind.u64.wrap at_ = (A : Int) := by rw [IntKind.wrap_u64]; omega
  have hA2 : A < 18446744073709551616 := by omega
  obtain ⟨k, hk⟩ : ∃ k, k = A % n := ⟨_, rfl⟩
  have hkn : k < n := by rw [hk]; exact Nat.mod_lt _ h0
  have f1 : (A : Int) % (n : Int) = (k : Int) := by rw [hk]; exact (Int.natCast_emod A n).symm
  have f2 : (A : Int).tmod (n : Int) = (k : Int) := by rw [Int.tmod_eq_emod_of_nonneg (by omega)]; exact f1
  have u2 : IntKind.u64.wrap (n : Int) = (n : Int) := by rw [IntKind.wrap_u64]; omega
  have u3 : IntKind.i64.wrap (k : Int) = (k : Int) := by rw [IntKind.wrap_i64]; omega
  obtain ⟨b, off, rfl, hlo, hhi, hcell⟩ := h (by omega)
  obtain ⟨a1, hcut1, hL1⟩ := cut_take_some ⟨b, off, none⟩ hl (by omega : k ≤ n) hc h
  obtain ⟨p2, hcut2, hL2⟩ := cut_drop hl (by omega : k ≤ n) hc h
  obtain ⟨b2, off2, rfl, _⟩ := hL2 (by simp; omega)
  have hm1 : mid (l.drop k ++ l.take k) = mid l := mid_perm (by
    have := List.perm_append_comm (l₁ := l.drop k) (l₂ := l.take k)
    rwa [List.take_append_drop] at this) (by simp; omega)
  have hm2 : mid l.reverse = mid l := mid_perm (List.reverse_perm l) (by simp; omega)
  have KO := Lib.hid (fun w' (hb : Below w.heap.size w w') => of_at (some ⟨b, off, none⟩) n cap l hl hc (by omega) w' (h.below hb hh))
  have HC : Hid (∀ w', Below w.heap.size w w' → ∀ j, j < n → w'.cell? ⟨b, off + (n - 1 - j), none⟩ = some (.int .i64 (l.reverse.getD j 0))) := Lib.hid (fun w' hb j hj => by
    rw [hb.cell (p := ⟨b, off + (n - 1 - j), none⟩) (show b < _ by omega), hcell (n - 1 - j) (by omega)]
    simp only [List.getD_eq_getElem?_getD]
    rw [List.getElem?_reverse (by omega), hl])
  have H1 := Lib.hid (fun w' (hb : Below w.heap.size w w') => hL1.below hb hh)
  have H2 := Lib.hid (fun w' (hb : Below w.heap.size w w') => hL2.below hb hh)
  have hl1 : (l.take k).length = k := by simp; omega
  have hl2 : (l.drop k).length = n - k := by simp; omega
  have hrev : l.reverse.length = n := by simp [hl]
  obtain ⟨m, hm⟩ : ∃ m, m = mid l := ⟨_, rfl⟩
  rw [← hm] at hm1 hm2 KO
  generalize l.reverse = R at *
  generalize l.take k = T at *
  generalize l.drop k = D at *
  have HM1 := Lib.hid hm1
  have HM2 := Lib.hid hm2
  have HR := Lib.hid hrev
  clear hA hk hm hcell hL1 hL2 h hl hm1 hm2 hrev
  go_enter Try.func4, Try.ntmps4
  go_wp2_with fail
  refine (alive9 w).mono ?_
  rintro r w1 ⟨rfl, hB⟩
  go_wp2_with fail
  have hmk : ∀ w, (Instr.buildSlice 22 0 #[]).run Try.prog w = .ok (.slice (some ⟨w.heap.size, 0, none⟩) 0 0) (w.alloc (.cells #[] 3)) := fun _ => by kernel_rfl
  have hb6 : Below w.heap.size w (w1.drew.alloc (.cells #[] 3)) := hB.drew.alloc hB.size _
  have hown6 : (w1.drew.alloc (.cells #[] 3)).ownsRow w1.heap.size 3 1 (.slice (some ⟨w1.heap.size, 0, none⟩) 0 0) 0 (([] : List Int).map (Value.int .i64)) := World.ownsRow_made w1.drew #[] 0 (Nat.le_refl _) (by decide) rfl
  have hL6 := H2.out _ hb6
  have hs6 : w1.heap.size ≤ (w1.drew.alloc (.cells #[] 3)).heap.size := by rw [World.size_alloc]; exact Nat.le_succ _
  have HBs := Lib.hid hB.size
  have m1 : 0 + (n - k) ≤ 1000 := by omega
  have m2 : 0 + (n - k) + k ≤ 1000 := by omega
  go_region_law (first
    | (refine step_append_ints (lo := lo) (hi := hi) rfl (.tmp 27) (.tmp 30) rfl w1.heap.size (.slice (some ⟨w1.heap.size, 0, none⟩) 0 0) 0 [] (by simp [Act.eval]) hown6 ⟨b2, off2, none⟩ (n - k) (cap - k) D (by simp [Act.eval]) hl2 hL6 m1 hs6 ?_; intro v7 w7 hown7 hgr7; have hb7 : Below w.heap.size w w7 := hb6.grown hgr7 hb6.size (fun k hk => Nat.le_trans HBs.out (hown6.lt k hk).1); have hL7 := H1.out _ hb7; have hs7 : w1.heap.size ≤ w7.heap.size := Nat.le_trans hs6 hgr7.size)
    | (refine step_append_ints (lo := lo) (hi := hi) rfl (.tmp 31) (.tmp 34) rfl w1.heap.size v7 (0 + (n - k)) ([] ++ D) (by simp [Act.eval]) hown7 a1 k cap T (by simp [Act.eval]) hl1 hL7 m2 hs7 ?_; intro v8 w8 hown8 hgr8))
  have hb8 : Below w.heap.size w w8 := hb7.grown hgr8 hb7.size (fun k hk => Nat.le_trans HBs.out (hown7.lt k hk).1)
  rw [show 0 + (n - k) + k = n by omega, List.nil_append] at hown8
  obtain ⟨p8, c8, rfl, hc8, hl8, hL8⟩ := lie_of_owns hown8
  have KR := Lib.hid (fun w' (hb : Below w8.heap.size w8 w') => of_at p8 n c8 (D ++ T) hl8 hc8 (by omega) w' (hL8.below hb (Nat.le_refl _)))
  rw [HM1.out] at KR
  have HB8 := Lib.hid hb8
  have hs8 := hb8.size
  clear hmk hb6 hown6 hL6 hs6 HBs m1 m2 hown7 hgr7 hb7 hL7 hs7 hown8 hgr8 hb8 hc8 hl8 hL8 hB H1 H2 hl1 hl2 HM1 hcut1 hcut2 u1 u2 u3 f1 f2
  go_wp2_with fail
  go_loopw [8, 38] (fun v q wr => ∃ i : Nat, i ≤ n ∧ q = .int .i64 i ∧ wr.ownsRow w8.heap.size 3 1 v i ((R.take i).map (Value.int .i64)) ∧ Below w8.heap.size w8 wr) (fun _ q _ => n - (intOf q).toNat)
  case atStart => exact ⟨0, by omega, rfl, World.ownsRow_nil _ _ _ _, Below.refl _ _⟩
  case round =>
    obtain ⟨i, hi, rfl, hown, hb⟩ := hrel
    obtain ⟨po, co, hu⟩ := owns_take_slice hown
    subst hu
    have hbw : Below w.heap.size w wr := HB8.out.trans (hb.mono hs8)
    by_cases hlt : i < n
    · obtain ⟨j, hj⟩ : ∃ j, j = n - 1 - i := ⟨_, rfl⟩
      have cj := HC.out wr hbw i hlt
      rw [← hj] at cj
      obtain ⟨x, hx⟩ : ∃ x, x = R.getD i 0 := ⟨_, rfl⟩
      rw [← hx] at cj
      have hjn : j < n := by omega
      have hw1 : IntKind.i64.wrap ((n : Int) - 1) = ((n - 1 : Nat) : Int) := by rw [IntKind.wrap_i64]; omega
      have hw2 : IntKind.i64.wrap (((n - 1 : Nat) : Int) - (i : Int)) = (j : Int) := by rw [IntKind.wrap_i64]; omega
      obtain ⟨n1, hn1⟩ : ∃ n1, n1 = n - 1 := ⟨_, rfl⟩
      rw [← hn1] at hw1 hw2
      have HT : Hid (R.take (i + 1) = R.take i ++ [x]) := Lib.hid (by
        rw [List.take_add_one, hx]
        simp [List.getD_eq_getElem?_getD, show i < R.length by rw [HR.out]; omega])
      have hgb := Lib.hid (fun k => (hown.lt k))
      have hown1 := hown.alloc (.cells #[.int .i64 x] 3)
      have hc1 : (wr.alloc (.cells #[.int .i64 x] 3)).cell? ⟨wr.heap.size, 0, none⟩ = some (.int .i64 x) := (Has.new (w := wr) #[.int .i64 x] 3).cell 0
      have hbs : w8.heap.size ≤ (wr.alloc (.cells #[.int .i64 x] 3)).heap.size := by rw [World.size_alloc]; have := hb.size; omega
      have hb1 := Lib.hid (hb.alloc hb.size (.cells #[.int .i64 x] 3))
      have hj1000 : i ≤ 1000 := by omega
      clear hj hn1 hx hown hb hbw
      go_wp2_with ((with_reducible refine append_one rfl (.tmp 41) (.tmp 49) rfl w8.heap.size (.slice po i co) i (R.take i) rfl hown1 wr.heap.size x rfl hc1 hj1000 hbs ?_); intro v' w2 hown2 hg2)
      go_roundw
      case rel => exact ⟨i + 1, by omega, by go_num, by rw [HT.out]; exact hown2, hb1.out.grown hg2 hbs (fun k hk => (hgb.out k hk).1)⟩
      case measure => simp [intOf]; omega
    · obtain rfl : i = n := by omega
      rw [List.take_of_length_le (by rw [HR.out]; omega)] at hown
      obtain ⟨p9, c9, e9, hc9, hl9, hL9⟩ := lie_of_owns hown
      cases e9
      have KB := Lib.hid (fun w' (hb : Below wr.heap.size wr w') => of_at po i co R hl9 hc9 (by omega) w' (hL9.below hb (Nat.le_refl _)))
      rw [HM2.out] at KB
      have HB := Lib.hid hb
      have HBW := Lib.hid hbw
      clear hown hL9 hl9 hc9 hb hbw
      go_wp2_with fail
      refine (KO.out _ HBW.out).mono ?_
      rintro r w3 ⟨rfl, hb3⟩
      go_wp2_with fail
      refine (KR.out _ (HB.out.trans (hb3.mono HB.out.size))).mono ?_
      rintro r w4 ⟨rfl, hb4⟩
      replace hb4 := hb3.trans (hb4.mono hb3.size)
      go_wp2_with fail
      refine (KB.out _ hb4).mono ?_
      rintro r w5 ⟨rfl, hb5⟩
      replace hb5 := hb4.trans (hb5.mono hb4.size)
      go_wp2_with fail
      go_ret
      exact ⟨rfl, HBW.out.trans (hb5.mono HBW.out.size)⟩
theorem law_turned (at_ : Int) (_b : -9223372036854775808 ≤ at_ ∧ at_ ≤ 9223372036854775807) (p : Option Addr) (n cap : Nat) (l : List Int) (hl : l.length = n) (hc : n ≤ cap) (w : World) (h : Lie w lo hi p l) (hh : hi ≤ w.heap.size) :
    Calls Try.prog 4 #[.slice p n cap, .int .i64 at_] w fun r w' => r = .returned (.bool true) ∧ Below w.heap.size w w' := by
  by_cases h1 : 11 < n ∨ n = 0
  · exact turned_out at_ p n cap h1 w
  · exact turned_in at_ p n cap l hl hc (by omega) (by omega) w h hh
end Go.Proofs.Ytmmpdalemifneaa
