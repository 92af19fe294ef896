import Derived.Test.YtmemppkkchfphaaRefBit
import Derived.Test.YtmemppkkchfphaaShelf
import Derived.Lib.BitFns
namespace Go.Proofs.Ytmemppkkchfphaa
open Go.RowKit

theorem bitLen_len : ∀ (f x : Nat), x < 2 ^ f → f ≤ 64 → Lib.bitLen x = Nm.len x
  | 0, x, h, _ => by
    have : x = 0 := by simpa using h
    subst this; rfl
  | f + 1, x, h, hf => by
    by_cases h0 : x = 0
    · subst h0; rfl
    · have hx : x < 2 ^ 64 := Nat.lt_of_lt_of_le h (Nat.pow_le_pow_right (by decide) hf)
      rw [Lib.bitLen_half x h0 hx, bitLen_len f (x / 2) (by rw [Nat.pow_succ] at h; omega) (by omega)]
      by_cases h1 : x / 2 = 0
      · obtain rfl : x = 1 := by omega
        rfl
      · refine Nm.len_of (Nm.isLen_up (k := 1) ?_ ?_)
        · rw [Nat.pow_one]; exact Nm.len_isLen _
        · rw [Nat.pow_one]; exact h1
theorem len64 (n : Nat) (hn : n < 18446744073709551616) (w : World) :
    Calls Try.prog 38 #[.int .u64 (n : Int)] w fun e w' => e = .returned (.int .i64 (Nm.len n : Nat)) ∧ w = w' :=
  (Try.bits_Len64 (n : Int) w (by omega) (by omega)).mono fun _ _ ⟨he, hw⟩ => ⟨by rw [he, Int.toNat_natCast, bitLen_len 64 n hn (by omega)], hw.symm⟩
theorem len_bound {x n : Nat} (h : x < 2 ^ n) (hn : n ≤ 256) : Nm.len x ≤ 256 := Nat.le_trans (Nm.len_le h) hn

set_option maxRecDepth 100000 in
set_option maxHeartbeats 400000 in
theorem len (x : Nat) (hx : x < Nm.big) (w : World) :
    Calls Try.prog 31 #[.agg (numC x)] w fun e w' => e = .returned (.int .i64 (Nm.len x : Nat)) ∧ Below w.heap.size w w' := by
  go_enter Try.func31, Try.ntmps31
  go_wp2_with fail
  generalize hw1 : World.alloc _ _ = w1
  have hA : Has w1 w.heap.size (numC x) 26 := by rw [← hw1]; exact Has.new _ _
  have hB : Below w.heap.size w w1 := by rw [← hw1]; exact (Below.refl _ _).alloc (Nat.le_refl _) _
  clear hw1
  go_loop [3] (fun i => ∃ k : Nat, k ≤ 3 ∧ i = .int .i64 k ∧ Hid (x < 2 ^ (64 * (k + 1)))) (fun i => (intOf i).toNat)
  case atStart => exact ⟨3, by omega, rfl, Lib.hid (by rw [Nm.big_eq] at hx; exact hx)⟩
  case round =>
    obtain ⟨k, hk, rfl, HK⟩ := hrel
    by_cases h0 : 0 < k
    · have c1 := hA.num (j := k) (by omega)
      by_cases hz : Nm.wd x k = 0
      · have hn := Nm.top_zero HK.out hz
        have HN := Lib.hid hn
        rw [hz] at c1
        clear hn hz
        go_wp2_with fail
        go_round
        case rel => exact ⟨k - 1, by omega, congrArg (Value.int .i64) (by omega), by rw [show k - 1 + 1 = k by omega]; exact HN⟩
        case measure => simp [intOf]; omega
      · have e : 64 * k + Nm.len (Nm.wd x k) = Nm.len x := by
          refine Nm.len_of (Nm.isLen_up ?_ ?_)
          · rw [Nm.wd_top HK.out]; exact Nm.len_isLen _
          · rw [← Nm.wd_top HK.out]; exact hz
        have hl := Nm.wd_lt x k
        have hz' : 0 < Nm.wd x k := by omega
        generalize Nm.wd x k = v at *
        have hle := len_bound (x := v) (n := 64) hl (by omega)
        have hlc := len64 v hl
        generalize Nm.len v = n at *
        have E := Lib.hid e
        have HC := Lib.hid hlc
        clear e hz hl hlc
        obtain rfl | rfl | rfl : k = 1 ∨ k = 2 ∨ k = 3 := by omega
        all_goals
          go_wp2_with (go_at_call 38; ((with_reducible refine (HC.out _).mono ?_)); rintro e w' ⟨rfl, rfl⟩)
          go_ret
          exact ⟨congrArg (fun n => Ending.returned (.int .i64 n)) (by rw [← E.out]; omega), hB⟩
    · obtain rfl : k = 0 := by omega
      have c1 := hA.num (j := 0) (by omega)
      have hl := Nm.wd_lt x 0
      have e : Nm.wd x 0 = x := by rw [Nm.wd_top HK.out]; simp
      rw [e] at hl c1
      have hlc := len64 x hl
      obtain ⟨m, hm⟩ : ∃ m, m = Nm.len x := ⟨_, rfl⟩
      rw [← hm] at hlc
      have HM := Lib.hid hm
      clear hm
      have HC := Lib.hid hlc
      clear e hl hlc
      go_wp2_with (go_at_call 38; ((with_reducible refine (HC.out _).mono ?_)); rintro e w' ⟨rfl, rfl⟩)
      go_ret
      exact ⟨by rw [← HM.out]; rfl, hB⟩
end Go.Proofs.Ytmemppkkchfphaa
