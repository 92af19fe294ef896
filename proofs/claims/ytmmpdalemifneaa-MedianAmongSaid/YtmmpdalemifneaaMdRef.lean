/-
  The reference of layer 9: Of (by rank), Last.
-/
import Derived.Test.YtmmpdalemifneaaMdWin
namespace Go.Proofs.Ytmmpdalemifneaa
open Go.RowKit Mem Md
theorem less_succ (x : Int) (L : List Int) (j : Nat) (hj : j < L.length) : less x (L.take (j + 1)) = less x (L.take j) + (if L.getD j 0 < x then 1 else 0) := by
  unfold less
  rw [List.take_add_one, List.countP_append]
  simp [List.getD_eq_getElem?_getD, hj, List.countP_cons]
theorem same_succ (x : Int) (L : List Int) (j : Nat) (hj : j < L.length) : same x (L.take (j + 1)) = same x (L.take j) + (if L.getD j 0 = x then 1 else 0) := by
  unfold same
  rw [List.take_add_one, List.countP_append]
  simp [List.getD_eq_getElem?_getD, hj, List.countP_cons]
theorem less_le (x : Int) (L : List Int) : less x L ≤ L.length := List.countP_le_length
theorem same_le (x : Int) (L : List Int) : same x L ≤ L.length := List.countP_le_length
set_option maxRecDepth 100000 in
set_option maxHeartbeats 2000000 in
theorem ref_of {lo hi : Nat} (p : Option Addr) (n cap : Nat) (l : List Int) (hl : l.length = n) (hc : n ≤ cap) (hmax : n < 9223372036854775808) (w : World) (hL : Lie w lo hi p l) (hi2 : hi ≤ w.heap.size) :
    Calls Try.prog 10 #[.slice p n cap] w fun r w' => r = .returned (.int .i64 (mid l)) ∧ Below w.heap.size w w' := by
  obtain ⟨k, hk⟩ : ∃ k, k = min n 11 := ⟨_, rfl⟩
  have hmin := min_is (P := Try.prog) (n : Int) 11 (k : Int) (by omega)
  have e11 : l.take k = l.take 11 := take_min (by omega)
  obtain ⟨x0, hx0⟩ : ∃ x, x = mid l := ⟨_, rfl⟩
  have HEmpty : Hid (k = 0 → (0 : Int) = x0) := Lib.hid (fun h => by
    obtain rfl : n = 0 := by omega
    obtain rfl := List.eq_nil_of_length_eq_zero hl
    rw [hx0, mid_nil])
  have HRank : Hid (0 < k → rank x0 (l.take k)) := Lib.hid (fun h => by rw [hx0, e11]; exact mid_rank l (by omega))
  have HMem : Hid (0 < k → ∃ i, i < k ∧ (l.take k).getD i 0 = x0) := Lib.hid (fun h => by
    have := mid_mem l (by omega)
    rw [← hx0, ← e11] at this
    obtain ⟨i, hi, e⟩ := List.getElem_of_mem this
    exact ⟨i, by simp at hi; omega, by rw [List.getD_eq_getElem?_getD, List.getElem?_eq_getElem hi]; exact e⟩)
  have HCell : Hid (∀ w', Below w.heap.size w w' → ∀ j, j < k → ∃ b off, p = some ⟨b, off, none⟩ ∧ w'.cell? ⟨b, off + j, none⟩ = some (.int .i64 ((l.take k).getD j 0))) := Lib.hid (fun w' hb j hj => by
    obtain ⟨b, off, e, h1, h2, h3⟩ := hL (by omega)
    refine ⟨b, off, e, ?_⟩
    rw [hb.cell (p := ⟨b, off + j, none⟩) (show b < _ by omega), h3 j (by omega)]
    simp [List.getD_eq_getElem?_getD, hj])
  have hlen : (l.take k).length = k := by simp; omega
  have hk11 : k ≤ 11 := by omega
  have hkn : k ≤ n := by omega
  rw [← hx0]
  generalize l.take k = L at *
  clear hk hx0 hL hl e11 hi2
  obtain ⟨m, hm⟩ : ∃ m, m = k / 2 := ⟨_, rfl⟩
  have f1 : (k : Int).tdiv 2 = (m : Int) := by rw [Int.tdiv_eq_ediv_of_nonneg (by omega)]; omega
  have f2 : (k : Int) / 2 = (m : Int) := by omega
  have HM := Lib.hid hm
  have hm5 : m ≤ 5 := by omega
  clear hm
  go_enter Try.func10, Try.ntmps10
  go_wp2_with fail
  go_loopw [4] (fun i wr => ∃ q : Nat, q ≤ k ∧ i = .int .i64 q ∧ Below w.heap.size w wr ∧ Hid (∀ j, j < q → ¬ rank (L.getD j 0) L)) (fun i _ => k - (intOf i).toNat)
  case atStart => exact ⟨0, by omega, rfl, Below.refl _ _, Lib.hid (by intro j hj; omega)⟩
  case round =>
    obtain ⟨q, hq, rfl, hb, HN⟩ := hrel
    by_cases hlt : q < k
    · obtain ⟨x, hx⟩ : ∃ x, x = L.getD q 0 := ⟨_, rfl⟩
      have HX := Lib.hid hx
      clear hx
      go_wp2_with fail
      go_loopw [5, 6, 7] (fun u v i w2 => ∃ j : Nat, j ≤ k ∧ i = .int .i64 j ∧ ∃ A B : Nat, u = .int .i64 A ∧ v = .int .i64 B ∧ Below w.heap.size w w2 ∧ Hid (A = less x (L.take j)) ∧ Hid (B = same x (L.take j))) (fun _ _ i _ => k - (intOf i).toNat)
      case atStart => exact ⟨0, by omega, rfl, 0, 0, rfl, rfl, hb, Lib.hid rfl, Lib.hid rfl⟩
      case round =>
        obtain ⟨j, hj, rfl, A, B, rfl, rfl, hb2, HA, HB⟩ := hrel
        have hA : A ≤ 11 := by have := less_le x (L.take j); rw [← HA.out] at this; simp at this; omega
        have hB : B ≤ 11 := by have := same_le x (L.take j); rw [← HB.out] at this; simp at this; omega
        by_cases hj2 : j < k
        · obtain ⟨b, off, rfl, cq⟩ := HCell.out wr hb2 q hlt
          obtain ⟨_, _, e, cj⟩ := HCell.out wr hb2 j hj2
          cases e
          obtain ⟨y, hy⟩ : ∃ y, y = L.getD j 0 := ⟨_, rfl⟩
          have SA := less_succ x L j (by omega)
          have SB := same_succ x L j (by omega)
          rw [← hy, ← HA.out] at SA
          rw [← hy, ← HB.out] at SB
          rw [← hy] at cj
          rw [← HX.out] at cq
          rcases Int.lt_trichotomy y x with h | h | h
          · have t1 : decide (y < x) = true := decide_eq_true h
            have t2 : (y == x) = false := by simp; omega
            have HA2 : Hid (A + 1 = less x (L.take (j + 1))) := Lib.hid (by rw [SA, if_pos h])
            have HB2 : Hid (B = same x (L.take (j + 1))) := Lib.hid (by rw [SB, if_neg (by omega), Nat.add_zero])
            clear h SA SB hy HA HB
            go_wp2_with fail
            all_goals go_region
            all_goals go_wp2_with fail
            all_goals go_region
            all_goals go_wp2_with fail
            all_goals go_roundw
            case rel => exact ⟨j + 1, by omega, by go_num, A + 1, B, by go_num, by go_num, hb2.drew.drew, HA2, HB2⟩
            case measure => simp [intOf]; omega
          · have t1 : decide (y < x) = false := decide_eq_false (by omega)
            have t2 : (y == x) = true := by simp; omega
            have HA2 : Hid (A = less x (L.take (j + 1))) := Lib.hid (by rw [SA, if_neg (by omega), Nat.add_zero])
            have HB2 : Hid (B + 1 = same x (L.take (j + 1))) := Lib.hid (by rw [SB, if_pos h])
            clear h SA SB hy HA HB
            go_wp2_with fail
            all_goals go_region
            all_goals go_wp2_with fail
            all_goals go_region
            all_goals go_wp2_with fail
            all_goals go_roundw
            case rel => exact ⟨j + 1, by omega, by go_num, A, B + 1, by go_num, by go_num, hb2.drew.drew, HA2, HB2⟩
            case measure => simp [intOf]; omega
          · have t1 : decide (y < x) = false := decide_eq_false (by omega)
            have t2 : (y == x) = false := by simp; omega
            have HA2 : Hid (A = less x (L.take (j + 1))) := Lib.hid (by rw [SA, if_neg (by omega), Nat.add_zero])
            have HB2 : Hid (B = same x (L.take (j + 1))) := Lib.hid (by rw [SB, if_neg (by omega), Nat.add_zero])
            clear h SA SB hy HA HB
            go_wp2_with fail
            all_goals go_region
            all_goals go_wp2_with fail
            all_goals go_region
            all_goals go_wp2_with fail
            all_goals go_roundw
            case rel => exact ⟨j + 1, by omega, by go_num, A, B, by go_num, by go_num, hb2.drew.drew, HA2, HB2⟩
            case measure => simp [intOf]; omega
        · obtain rfl : j = k := by omega
          rw [List.take_of_length_le (by omega)] at HA HB
          have hrk : rank x L ↔ (A ≤ m ∧ m < A + B) := by unfold rank; rw [hlen, ← HA.out, ← HB.out, ← HM.out]
          by_cases hr : A ≤ m ∧ m < A + B
          · obtain ⟨b, off, rfl, cq⟩ := HCell.out wr hb2 q hlt
            rw [← HX.out] at cq
            have ex : x = x0 := rank_one (hrk.2 hr) (HRank.out (by omega))
            have t1 : A ≤ m := by omega
            have t2 : decide ((m : Int) < (A : Int) + (B : Int)) = true := decide_eq_true (by omega)
            have t3 : m < A + B := by omega
            rw [ex] at cq
            clear hr hrk HA HB HRank HMem HCell ex HX HN HEmpty
            go_wp2_with fail
            go_ret
            exact ⟨rfl, hb2⟩
          · have HN2 : Hid (∀ j, j < q + 1 → ¬ rank (L.getD j 0) L) := Lib.hid (fun i hi hh => by
              by_cases hiq : i < q
              · exact HN.out i hiq hh
              · obtain rfl : i = q := by omega
                rw [← HX.out] at hh
                exact hr (hrk.1 hh))
            by_cases hA2 : A ≤ m
            · have t1 : A ≤ m := by omega
              have t2 : decide ((m : Int) < (A : Int) + (B : Int)) = false := decide_eq_false (by omega)
              have t3 : ¬ m < A + B := by omega
              clear hr hrk hA2 HA HB HRank HMem HCell HX HN HEmpty
              go_wp2_with fail
              go_roundw
              case rel => exact ⟨q + 1, by omega, by go_num, hb2, HN2⟩
              case measure => simp [intOf]; omega
            · have t1 : ¬ A ≤ m := hA2
              clear hr hrk hA2 HA HB HRank HMem HCell HX HN HEmpty
              go_wp2_with fail
              go_roundw
              case rel => exact ⟨q + 1, by omega, by go_num, hb2, HN2⟩
              case measure => simp [intOf]; omega
    · obtain rfl : q = k := by omega
      have h0 : q = 0 := by
        by_cases h : q = 0
        · exact h
        · obtain ⟨i, hi, e⟩ := HMem.out (by omega)
          exact absurd (by rw [e]; exact HRank.out (by omega)) (HN.out i hi)
      have ex := HEmpty.out h0
      have EX := Lib.hid ex
      clear ex
      go_wp2_with fail
      go_ret
      exact ⟨congrArg (fun z => Ending.returned (.int .i64 z)) EX.out, hb⟩
end Go.Proofs.Ytmmpdalemifneaa
