/-
  LocateHeights: the walk.
-/
import Derived.Test.YtfpolfokebklhaaLcAlive
namespace Go.Proofs.Ytfpolfokebklhaa.An
open Go.RowKit Mem Ht
set_option maxRecDepth 100000 in
theorem lheights_far (z : Int) (hz : 1099511627776 < z) (w : World) : Calls Try.prog 3 #[.int .i64 z] w fun e w' => e = .returned (.bool true) ∧ Below w.heap.size w w' := by
  have t1 : decide (1099511627776 < z) = true := decide_eq_true hz
  clear hz
  go_enter Try.func3, Try.ntmps3
  go_wp2_with fail
  refine (alive14 _).mono ?_
  rintro e v1 ⟨rfl, hB⟩
  go_wp2_with fail
  go_ret
  exact ⟨rfl, hB⟩
set_option maxRecDepth 100000 in
theorem lheights_neg (z : Int) (hz : z < 0) (w : World) : Calls Try.prog 3 #[.int .i64 z] w fun e w' => e = .returned (.bool true) ∧ Below w.heap.size w w' := by
  have t1 : decide (1099511627776 < z) = false := decide_eq_false (by omega)
  have t2 : decide (z ≤ 511) = true := decide_eq_true (by omega)
  have t3 : decide (z < 0) = true := decide_eq_true hz
  have K1 := Lib.hid fun w => heights_neg z hz w
  have K2 := Lib.hid fun w => rheights_neg z hz w
  clear hz
  go_enter Try.func3, Try.ntmps3
  go_wp2_with fail
  refine (alive14 _).mono ?_
  rintro e v1 ⟨rfl, hB⟩
  go_wp2_with fail
  refine (K1.out _).mono ?_
  rintro e v2 ⟨rfl, hb⟩
  replace hB := hB.trans (hb.mono hB.size)
  clear hb
  go_wp2_with fail
  refine (K2.out _).mono ?_
  rintro e v3 ⟨rfl, hb⟩
  replace hB := hB.trans (hb.mono hB.size)
  clear hb
  go_wp2_with fail
  go_loopw [30] (fun i wr => i = .int .i64 0 ∧ Below w.heap.size w wr) (fun _ _ => 0)
  case atStart => exact ⟨rfl, hB⟩
  case round =>
    clear hB
    obtain ⟨rfl, hB⟩ := hrel
    go_wp2_with fail
    go_ret
    exact ⟨rfl, hB⟩
set_option maxRecDepth 100000 in
set_option maxHeartbeats 4000000 in
theorem lheights_main (f : Nat) (hf : f ≤ 1099511627776) (w : World) : Calls Try.prog 3 #[.int .i64 (f : Int)] w fun e w' => e = .returned (.bool true) ∧ Below w.heap.size w w' := by
  have t1 : decide ((1099511627776 : Int) < (f : Int)) = false := decide_eq_false (by omega)
  have t3 : decide ((f : Int) < 0) = false := decide_eq_false (by omega)
  have K1 := Lib.hid fun w => heights_at f hf w
  have K2 := Lib.hid fun w => rheights_at f hf w
  obtain ⟨n, hn⟩ : ∃ n, n = (hts 0 f).length := ⟨_, rfl⟩
  have hpos := hts_pos 0 f
  rw [← hn] at hpos
  obtain ⟨g5, h5⟩ : ∃ g5, decide ((f : Int) ≤ 511) = g5 := ⟨_, rfl⟩
  have HF : Hid (g5 = true → n ≤ 32) := Lib.hid fun h => by
    rw [← h5] at h
    rw [hn]
    exact hts_few f (by have := of_decide_eq_true h; omega)
  have HL : Hid ((hts 0 f)[n - 1]? = some 0) := Lib.hid (by rw [hn]; exact hts_last 0 f)
  have HD := Lib.hid fun k x y hx hy => hts_down 0 f k x y hx hy
  have HN := Lib.hid hn
  clear hf hn
  obtain ⟨l, hl⟩ : ∃ l, l = hts 0 f := ⟨_, rfl⟩
  rw [← hl] at HL HD HN K1 K2
  clear hl
  go_enter Try.func3, Try.ntmps3
  go_wp2_with fail
  refine (alive14 _).mono ?_
  rintro e v1 ⟨rfl, hB⟩
  go_wp2_with fail
  refine (K1.out _).mono ?_
  rintro e v2 ⟨vL, rfl, hL, hb⟩
  replace hB := hB.trans (hb.mono hB.size)
  clear hb
  go_wp2_with fail
  refine (K2.out _).mono ?_
  rintro e v3 ⟨vR, rfl, hR, hb⟩
  have hL3 := row_below hL.1 hb (Nat.le_refl _)
  have h60 := hL.2
  replace hB := hB.trans (hb.mono hB.size)
  have hR3 := hR.1
  rw [← HN.out] at hL3 hR3 h60
  obtain ⟨pL, cL, rfl, _⟩ := own_slice hL3
  obtain ⟨pR, cR, rfl, _⟩ := own_slice hR3
  have HCL : Hid (∀ (k x : Nat), l[k]? = some x → ∃ g, pL = some ⟨g, 0, none⟩ ∧ ∀ w', Below v3.heap.size v3 w' → w'.cell? ⟨g, k, none⟩ = some (.int .i64 (x : Int))) := Lib.hid fun k x hx => by
    obtain ⟨g, c, e, _, h⟩ := nat_at hL3 hx
    cases e
    exact ⟨g, rfl, fun w' hb => (hb.cell (block_lt_of_cell h)).trans h⟩
  have HCR : Hid (∀ (k x : Nat), l[k]? = some x → ∃ g, pR = some ⟨g, 0, none⟩ ∧ ∀ w', Below v3.heap.size v3 w' → w'.cell? ⟨g, k, none⟩ = some (.int .i64 (x : Int))) := Lib.hid fun k x hx => by
    obtain ⟨g, c, e, _, h⟩ := nat_at hR3 hx
    cases e
    exact ⟨g, rfl, fun w' hb => (hb.cell (block_lt_of_cell h)).trans h⟩
  clear hL hR hb hL3 hR3 K1 K2
  have t4 : ((n : Int) != (n : Int)) = false := by simp
  have t5 : g5 = true → ¬ 32 < n := fun h => by have := HF.out h; omega
  have HT5 := Lib.hid t5
  clear t5
  have HB := Lib.hid hB
  clear hB
  cases g5
  all_goals
    have t6 := HT5.out
    simp only [forall_const, Bool.false_eq_true, false_implies] at t6
    go_wp2_with fail
    go_loopw [30] (fun i wr => ∃ k : Nat, k ≤ n ∧ i = .int .i64 (k : Int) ∧ Below v3.heap.size v3 wr) (fun i _ => n - (intOf i).toNat)
    case atStart => exact ⟨0, by omega, rfl, Below.refl _ _⟩
    case round =>
      obtain ⟨k, hk, rfl, hb⟩ := hrel
      by_cases hlt : k < n
      · obtain ⟨x, hx⟩ : ∃ x, l[k]? = some x := ⟨_, List.getElem?_eq_getElem (by rw [← HN.out]; exact hlt)⟩
        obtain ⟨gL, eL, cl⟩ := HCL.out k x hx
        obtain ⟨gR, eR, cr⟩ := HCR.out k x hx
        subst eL eR
        replace cl := cl wr hb
        replace cr := cr wr hb
        have tx : ((x : Int) != (x : Int)) = false := by simp
        by_cases hk0 : 0 < k
        · obtain ⟨q, hq⟩ : ∃ q, q = k - 1 := ⟨_, rfl⟩
          have hw1 : IntKind.i64.wrap ((k : Int) - 1) = (q : Int) := by rw [IntKind.wrap_i64]; omega
          have hql : q < n := by omega
          obtain ⟨y, hy⟩ : ∃ y, l[q]? = some y := ⟨_, List.getElem?_eq_getElem (by rw [← HN.out]; omega)⟩
          have hxy := HD.out q y x hy (by rw [hq, show k - 1 + 1 = k by omega]; exact hx)
          have t7 : ¬ y ≤ x := by omega
          obtain ⟨gL2, eL2, cl2⟩ := HCL.out q y hy
          have e2 : gL = gL2 := by cases eL2; rfl
          subst e2
          replace cl2 := cl2 wr hb
          clear eL2 hq hx hy hxy
          go_wp2_with fail
          go_quiet (fail)
          have hb2 := below_drewN hb nq
          go_wp2_with fail
          go_roundw
          case rel => exact ⟨k + 1, by omega, by go_num, hb2⟩
          case measure => simp [intOf]; omega
        · have t7 : ¬ 0 < k := hk0
          clear hx
          go_wp2_with fail
          go_quiet (fail)
          have hb2 := below_drewN hb nq
          go_wp2_with fail
          go_roundw
          case rel => exact ⟨k + 1, by omega, by go_num, hb2⟩
          case measure => simp [intOf]; omega
      · obtain rfl : k = n := by omega
        obtain ⟨g, e, c0⟩ := HCL.out (k - 1) 0 HL.out
        subst e
        obtain ⟨q, hq⟩ : ∃ q, q = k - 1 := ⟨_, rfl⟩
        rw [← hq] at c0
        replace c0 := c0 wr hb
        have hw1 : IntKind.i64.wrap ((k : Int) - 1) = (q : Int) := by rw [IntKind.wrap_i64]; omega
        have hql : q < k := by omega
        have t8 : ((k : Int) == 0) = false := by simp; omega
        clear hq
        go_wp2_with fail
        go_ret
        exact ⟨rfl, HB.out.trans (hb.mono HB.out.size)⟩
theorem lheights_walk (z : Int) (w : World) : Calls Try.prog 3 #[.int .i64 z] w fun e w' => e = .returned (.bool true) ∧ Below w.heap.size w w' := by
  by_cases h1 : 1099511627776 < z
  · exact lheights_far z h1 w
  · by_cases h0 : z < 0
    · exact lheights_neg z h0 w
    · obtain ⟨f, rfl⟩ := Int.eq_ofNat_of_zero_le (by omega : 0 ≤ z)
      exact lheights_main f (by omega) w
end Go.Proofs.Ytfpolfokebklhaa.An
