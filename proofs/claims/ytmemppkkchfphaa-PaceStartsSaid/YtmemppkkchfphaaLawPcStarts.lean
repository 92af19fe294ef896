/-
  PaceStarts: the walk.
-/
import Derived.Test.YtmemppkkchfphaaPcAlive
namespace Go.Proofs.Ytmemppkkchfphaa
open Go.RowKit
/-- how many of so many heights in a row are a period's first ones -/
def cnt (m h : Nat) : Nat → Nat
  | 0 => 0
  | i + 1 => cnt m h i + if (h + i) % m = 0 then 1 else 0
theorem cnt_is (m h : Nat) (hm : 0 < m) : ∀ i, i ≤ m → cnt m h i = if (m - h % m) % m < i then 1 else 0
  | 0, _ => by rw [if_neg (by omega)]; rfl
  | i + 1, hi => by
    have ih := cnt_is m h hm i (by omega)
    have hr : h % m < m := Nat.mod_lt _ hm
    have key : ((h + i) % m = 0) ↔ (m - h % m) % m = i := by
      have e : (h + i) % m = (h % m + i) % m := by rw [Nat.add_mod, Nat.mod_eq_of_lt (show i < m by omega)]
      rw [e]
      by_cases h0 : h % m = 0
      · rw [h0, Nat.zero_add, Nat.sub_zero, Nat.mod_self, Nat.mod_eq_of_lt (by omega)]
        omega
      · rw [Nat.mod_eq_of_lt (show m - h % m < m by omega)]
        by_cases h1 : h % m + i < m
        · rw [Nat.mod_eq_of_lt h1]; omega
        · rw [Nat.mod_eq_sub_mod (by omega), Nat.mod_eq_of_lt (by omega)]; omega
    show cnt m h i + (if (h + i) % m = 0 then 1 else 0) = _
    rw [ih]
    by_cases h2 : (m - h % m) % m = i
    · rw [if_pos (key.2 h2), if_neg (by omega), if_pos (by omega)]
    · rw [if_neg (fun e => h2 (key.1 e))]
      by_cases h3 : (m - h % m) % m < i
      · rw [if_pos h3, if_pos (by omega)]
      · rw [if_neg h3, if_neg (by omega)]
theorem cnt_all (m h : Nat) (hm : 0 < m) : cnt m h m = 1 := by
  rw [cnt_is m h hm m (Nat.le_refl _), if_pos (Nat.mod_lt _ hm)]
theorem starts_nat (m h : Nat) (hm : 0 < m) : starts (m : Int) (h : Int) = decide (h % m = 0) := by
  unfold starts
  rw [decide_eq_true (show (0 : Int) < (m : Int) by omega), Bool.true_and, Int.tmod_eq_emod_of_nonneg (by omega), ← Int.natCast_emod]
  by_cases h0 : h % m = 0
  · rw [decide_eq_true h0, h0]; rfl
  · rw [decide_eq_false h0]; exact beq_eq_false_iff_ne.2 (by omega)
/-- the rules' box stands -/
structure StS (w wr : World) (B : Nat) (p : Pr) : Prop where
  below : Below w.heap.size w wr
  box : PrAt wr B p
set_option maxRecDepth 100000 in
set_option maxHeartbeats 2000000 in
theorem lst_low (p : Pr) (hz : (prA p).size = 83) (h : Int) (t1 : decide (h < 0) = true) (w : World) :
    Calls Try.prog 6 #[.agg (prA p), .int .i64 h] w fun e w' => e = .returned (.bool true) ∧ Below w.heap.size w w' := by
  have KA := Lib.hid alive10
  have hP_z := hz
  go_enter Try.func6, Try.ntmps6
  go_upto_region 1 with fail
  generalize hw0 : World.alloc _ _ = v0
  have hbel : Below w.heap.size w v0 := by rw [← hw0]; exact (Below.refl _ _).alloc (by first | exact Nat.le_refl _ | (simp; done) | (simp; omega)) _
  have hP : PrAt v0 (w.heap.size) p := by rw [← hw0]; exact Has.new _ _
  clear hw0
  go_wp2_with (first | fail | (with_reducible refine pr_load rfl _ rfl _ rfl hP hP_z ?_) | (with_reducible refine pr_load_g (by with_unfolding_all rfl) _ rfl _ rfl hP hP_z ?_))
  refine (KA.out _).mono ?_
  rintro e v1 ⟨rfl, hb1⟩
  replace hP := hP.on hb1
  replace hbel := hbel.trans (hb1.mono hbel.size)
  clear hb1
  go_wp2_with (first | fail | (with_reducible refine pr_load rfl _ rfl _ rfl hP hP_z ?_) | (with_reducible refine pr_load_g (by with_unfolding_all rfl) _ rfl _ rfl hP hP_z ?_))
  go_ret
  exact ⟨rfl, hbel⟩
set_option maxRecDepth 100000 in
set_option maxHeartbeats 2000000 in
theorem lst_high (p : Pr) (hz : (prA p).size = 83) (h : Int) (t1 : decide (h < 0) = false) (t2 : decide ((1099511627776 : Int) < h) = true) (w : World) :
    Calls Try.prog 6 #[.agg (prA p), .int .i64 h] w fun e w' => e = .returned (.bool true) ∧ Below w.heap.size w w' := by
  have KA := Lib.hid alive10
  have hP_z := hz
  go_enter Try.func6, Try.ntmps6
  go_upto_region 1 with fail
  generalize hw0 : World.alloc _ _ = v0
  have hbel : Below w.heap.size w v0 := by rw [← hw0]; exact (Below.refl _ _).alloc (by first | exact Nat.le_refl _ | (simp; done) | (simp; omega)) _
  have hP : PrAt v0 (w.heap.size) p := by rw [← hw0]; exact Has.new _ _
  clear hw0
  go_wp2_with (first | fail | (with_reducible refine pr_load rfl _ rfl _ rfl hP hP_z ?_) | (with_reducible refine pr_load_g (by with_unfolding_all rfl) _ rfl _ rfl hP hP_z ?_))
  refine (KA.out _).mono ?_
  rintro e v1 ⟨rfl, hb1⟩
  replace hP := hP.on hb1
  replace hbel := hbel.trans (hb1.mono hbel.size)
  clear hb1
  go_wp2_with (first | fail | (with_reducible refine pr_load rfl _ rfl _ rfl hP hP_z ?_) | (with_reducible refine pr_load_g (by with_unfolding_all rfl) _ rfl _ rfl hP hP_z ?_))
  go_ret
  exact ⟨rfl, hbel⟩
set_option maxRecDepth 100000 in
set_option maxHeartbeats 2000000 in
theorem lst_many (p : Pr) (hz : (prA p).size = 83) (h ivl : Int) (e1 : Hid (p.ivl = ivl)) (t1 : decide (h < 0) = false) (t2 : decide ((1099511627776 : Int) < h) = false) (t3 : decide ((1000 : Int) < ivl) = true) (w : World) :
    Calls Try.prog 6 #[.agg (prA p), .int .i64 h] w fun e w' => e = .returned (.bool true) ∧ Below w.heap.size w w' := by
  have KA := Lib.hid alive10
  have hP_z := hz
  go_enter Try.func6, Try.ntmps6
  go_upto_region 1 with fail
  generalize hw0 : World.alloc _ _ = v0
  have hbel : Below w.heap.size w v0 := by rw [← hw0]; exact (Below.refl _ _).alloc (by first | exact Nat.le_refl _ | (simp; done) | (simp; omega)) _
  have hP : PrAt v0 (w.heap.size) p := by rw [← hw0]; exact Has.new _ _
  clear hw0
  have c1 := hP.c1 e1
  go_wp2_with (first | fail | (with_reducible refine pr_load rfl _ rfl _ rfl hP hP_z ?_) | (with_reducible refine pr_load_g (by with_unfolding_all rfl) _ rfl _ rfl hP hP_z ?_))
  refine (KA.out _).mono ?_
  rintro e v1 ⟨rfl, hb1⟩
  replace hP := hP.on hb1
  replace c1 := hP.c1 e1
  replace hbel := hbel.trans (hb1.mono hbel.size)
  clear hb1
  go_wp2_with (first | fail | (with_reducible refine pr_load rfl _ rfl _ rfl hP hP_z ?_) | (with_reducible refine pr_load_g (by with_unfolding_all rfl) _ rfl _ rfl hP hP_z ?_))
  go_ret
  exact ⟨rfl, hbel⟩
set_option maxRecDepth 100000 in
set_option maxHeartbeats 2000000 in
theorem lst_none (p : Pr) (hz : (prA p).size = 83) (h ivl : Int) (e1 : Hid (p.ivl = ivl)) (t1 : decide (h < 0) = false) (t2 : decide ((1099511627776 : Int) < h) = false) (t3 : decide ((1000 : Int) < ivl) = false) (t4 : decide (0 < ivl) = false) (t5 : decide (ivl < 1) = true) (w : World) :
    Calls Try.prog 6 #[.agg (prA p), .int .i64 h] w fun e w' => e = .returned (.bool true) ∧ Below w.heap.size w w' := by
  have KA := Lib.hid alive10
  have hP_z := hz
  go_enter Try.func6, Try.ntmps6
  go_upto_region 1 with fail
  generalize hw0 : World.alloc _ _ = v0
  have hbel : Below w.heap.size w v0 := by rw [← hw0]; exact (Below.refl _ _).alloc (by first | exact Nat.le_refl _ | (simp; done) | (simp; omega)) _
  have hP : PrAt v0 (w.heap.size) p := by rw [← hw0]; exact Has.new _ _
  clear hw0
  have c1 := hP.c1 e1
  go_wp2_with (first | fail | (with_reducible refine pr_load rfl _ rfl _ rfl hP hP_z ?_) | (with_reducible refine pr_load_g (by with_unfolding_all rfl) _ rfl _ rfl hP hP_z ?_))
  refine (KA.out _).mono ?_
  rintro e v1 ⟨rfl, hb1⟩
  replace hP := hP.on hb1
  replace c1 := hP.c1 e1
  replace hbel := hbel.trans (hb1.mono hbel.size)
  clear hb1
  go_wp2_with fail
  go_loopw [5, 6] (fun k i wr => k = .int .i64 0 ∧ i = .int .i64 0 ∧ StS w wr w.heap.size p) (fun _ _ _ => 0)
  case atStart => exact ⟨rfl, rfl, hbel, hP⟩
  case round =>
    obtain ⟨rfl, rfl, hs⟩ := hrel
    have c1 := hs.box.c1 e1
    go_wp2_with fail
    go_ret
    exact ⟨rfl, hs.below⟩
set_option maxRecDepth 100000 in
set_option maxHeartbeats 2000000 in
theorem lst_loop (p : Pr) (hz : (prA p).size = 83) (h m : Nat) (e1 : Hid (p.ivl = (m : Int))) (hm : 1 ≤ m ∧ m ≤ 1000) (hh : h ≤ 1099511627776) (t1 : decide ((h : Int) < 0) = false) (t2 : decide ((1099511627776 : Int) < (h : Int)) = false) (t3 : decide ((1000 : Int) < (m : Int)) = false) (t5 : decide ((m : Int) < 1) = false) (w : World) :
    Calls Try.prog 6 #[.agg (prA p), .int .i64 (h : Int)] w fun e w' => e = .returned (.bool true) ∧ Below w.heap.size w w' := by
  have KA := Lib.hid alive10
  have hP_z := hz
  go_enter Try.func6, Try.ntmps6
  go_upto_region 1 with fail
  generalize hw0 : World.alloc _ _ = v0
  have hbel : Below w.heap.size w v0 := by rw [← hw0]; exact (Below.refl _ _).alloc (by first | exact Nat.le_refl _ | (simp; done) | (simp; omega)) _
  have hP : PrAt v0 (w.heap.size) p := by rw [← hw0]; exact Has.new _ _
  clear hw0
  have c1 := hP.c1 e1
  go_wp2_with (first | fail | (with_reducible refine pr_load rfl _ rfl _ rfl hP hP_z ?_) | (with_reducible refine pr_load_g (by with_unfolding_all rfl) _ rfl _ rfl hP hP_z ?_))
  refine (KA.out _).mono ?_
  rintro e v1 ⟨rfl, hb1⟩
  replace hP := hP.on hb1
  replace c1 := hP.c1 e1
  replace hbel := hbel.trans (hb1.mono hbel.size)
  clear hb1
  go_wp2_with fail
  have HM := Lib.hid hm
  have HH := Lib.hid hh
  clear hm hh
  go_loopw [5, 6] (fun k i wr => ∃ j : Nat, j ≤ m ∧ i = .int .i64 (j : Int) ∧ k = .int .i64 ((cnt m h j : Nat) : Int) ∧ StS w wr w.heap.size p) (fun _ i _ => m - (intOf i).toNat)
  case atStart => exact ⟨0, by omega, rfl, rfl, hbel, hP⟩
  case round =>
    obtain ⟨j, hj, rfl, rfl, hs⟩ := hrel
    have hP := hs.box
    have c1 := hP.c1 e1
    by_cases hlt : j < m
    · have t6 : decide ((j : Int) < (m : Int)) = true := decide_eq_true (by omega)
      obtain ⟨hj2, he⟩ : ∃ s : Int, IntKind.i64.wrap ((h : Int) + (j : Int)) = s := ⟨_, rfl⟩
      have hsum : hj2 = ((h + j : Nat) : Int) := by rw [← he, IntKind.wrap_i64]; have := HH.out; have := HM.out; omega
      have KS := fun g hg w => starts_at p hj2 g hg w
      have hw1 : IntKind.i64.wrap ((j : Int) + 1) = ((j + 1 : Nat) : Int) := by rw [IntKind.wrap_i64]; have := HM.out; omega
      have hst : starts p.ivl hj2 = decide ((h + j) % m = 0) := by rw [e1.out, hsum]; exact starts_nat m (h + j) (by omega)
      obtain ⟨c, hc⟩ : ∃ c, c = cnt m h j := ⟨_, rfl⟩
      obtain ⟨c2, hc2⟩ : ∃ c2, c2 = cnt m h (j + 1) := ⟨_, rfl⟩
      have hcl : c ≤ 1 := by rw [hc, cnt_is m h (by omega) j hj]; split <;> omega
      have hcn : c2 = c + if (h + j) % m = 0 then 1 else 0 := by rw [hc2, hc]; rfl
      have HC2 := Lib.hid hc2
      rw [← hc]
      have HW := Lib.hid hsum
      have HJ := Lib.hid hj
      clear hc hc2 hsum hj
      by_cases hg : (h + j) % m = 0
      · have KT := Lib.hid (KS true (by rw [hst, decide_eq_true hg]))
        rw [if_pos hg] at hcn
        have hw2 : IntKind.i64.wrap ((c : Int) + 1) = (c2 : Int) := by rw [IntKind.wrap_i64]; omega
        clear KS hst hg hcn hcl
        go_wp2_with (first | fail | (with_reducible refine pr_load rfl _ rfl _ rfl hP hP_z ?_) | (with_reducible refine pr_load_g (by with_unfolding_all rfl) _ rfl _ rfl hP hP_z ?_))
        refine (KT.out _).mono ?_
        rintro e v2 ⟨rfl, hb2⟩
        replace hs : StS w v2 w.heap.size p := ⟨hs.below.trans (hb2.mono hs.below.size), hs.box.on hb2⟩
        clear hb2 c1 hP
        go_wp2_with fail
        go_roundw
        case rel => exact ⟨j + 1, by omega, by first | rfl | go_num, by rw [HC2.out], hs⟩
        case measure => simp [intOf]; omega
      · have KT := Lib.hid (KS false (by rw [hst, decide_eq_false hg]))
        rw [if_neg hg, Nat.add_zero] at hcn
        subst hcn
        clear KS hst hg hcl
        go_wp2_with (first | fail | (with_reducible refine pr_load rfl _ rfl _ rfl hP hP_z ?_) | (with_reducible refine pr_load_g (by with_unfolding_all rfl) _ rfl _ rfl hP hP_z ?_))
        refine (KT.out _).mono ?_
        rintro e v2 ⟨rfl, hb2⟩
        replace hs : StS w v2 w.heap.size p := ⟨hs.below.trans (hb2.mono hs.below.size), hs.box.on hb2⟩
        clear hb2 c1 hP
        go_wp2_with fail
        go_roundw
        case rel => exact ⟨j + 1, by omega, by first | rfl | go_num, by rw [HC2.out], hs⟩
        case measure => simp [intOf]; omega
    · obtain rfl : j = m := by omega
      have t6 : decide ((j : Int) < (j : Int)) = false := decide_eq_false (by omega)
      rw [cnt_all j h (by have := HM.out; omega)]
      go_wp2_with fail
      go_ret
      exact ⟨rfl, hs.below⟩
theorem lstarts_walk (p : Pr) (ho : p.ok) (h : Int) (w : World) : Calls Try.prog 6 #[.agg (prA p), .int .i64 h] w fun e w' => e = .returned (.bool true) ∧ Below w.heap.size w w' := by
  have hz := prA_size ho
  by_cases h1 : h < 0
  · exact lst_low p hz h (decide_eq_true h1) w
  by_cases h2 : (1099511627776 : Int) < h
  · exact lst_high p hz h (decide_eq_false h1) (decide_eq_true h2) w
  by_cases h3 : (1000 : Int) < p.ivl
  · exact lst_many p hz h _ (Lib.hid rfl) (decide_eq_false h1) (decide_eq_false h2) (decide_eq_true h3) w
  by_cases h4 : 0 < p.ivl
  · obtain ⟨m, hm⟩ := Int.eq_ofNat_of_zero_le (show 0 ≤ p.ivl by omega)
    obtain ⟨n, rfl⟩ := Int.eq_ofNat_of_zero_le (show 0 ≤ h by omega)
    exact lst_loop p hz n m (Lib.hid hm) ⟨by omega, by omega⟩ (by omega) (decide_eq_false h1) (decide_eq_false h2) (decide_eq_false (by omega)) (decide_eq_false (by omega)) w
  · exact lst_none p hz h _ (Lib.hid rfl) (decide_eq_false h1) (decide_eq_false h2) (decide_eq_false h3) (decide_eq_false h4) (decide_eq_true (by omega)) w
end Go.Proofs.Ytmemppkkchfphaa
