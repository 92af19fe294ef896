/-
  compact: Decode of a target in short.
-/
import Derived.Test.YtmemppkkchfphaaCpDecode
namespace Go.Proofs.Ytmemppkkchfphaa
open Go.RowKit
theorem andI (a b : Nat) (ha : a < 9223372036854775808) (hb : b < 9223372036854775808) : bits .and .i64 (a : Int) (b : Int) = ((a &&& b : Nat) : Int) := by
  have h : a &&& b ≤ a := Nat.and_le_left
  show IntKind.i64.wrap ((BitVec.ofInt 64 (a : Int) &&& BitVec.ofInt 64 (b : Int)).toNat : Int) = _
  rw [BitVec.ofInt_natCast, BitVec.ofInt_natCast, BitVec.toNat_and, BitVec.toNat_ofNat, BitVec.toNat_ofNat, Nat.mod_eq_of_lt (by omega), Nat.mod_eq_of_lt (by omega), IntKind.wrap_i64]
  omega
theorem orI (a b : Nat) (ha : a < 9223372036854775808) (hb : b < 9223372036854775808) : bits .or .i64 (a : Int) (b : Int) = ((a ||| b : Nat) : Int) := by
  have h : a ||| b < 2 ^ 63 := Nat.or_lt_two_pow ha hb
  show IntKind.i64.wrap ((BitVec.ofInt 64 (a : Int) ||| BitVec.ofInt 64 (b : Int)).toNat : Int) = _
  rw [BitVec.ofInt_natCast, BitVec.ofInt_natCast, BitVec.toNat_or, BitVec.toNat_ofNat, BitVec.toNat_ofNat, Nat.mod_eq_of_lt (by omega), Nat.mod_eq_of_lt (by omega), IntKind.wrap_i64]
  omega
theorem and_two_pow' (n i : Nat) : n &&& 2 ^ i = n / 2 ^ i % 2 * 2 ^ i := by
  apply Nat.eq_of_testBit_eq
  intro j
  rw [Nat.testBit_and, Nat.testBit_two_pow, ← Nat.toNat_testBit]
  cases h : n.testBit i
  · by_cases hj : i = j
    · subst hj; simp [h]
    · simp [hj]
  · by_cases hj : i = j
    · subst hj; simp [h]
    · simp [hj]
theorem and_word (n : Nat) (hn : n < 4294967296) : bits .and .i64 (n : Int) 8388607 = ((n % 8388608 : Nat) : Int) := by
  have := andI n 8388607 (by omega) (by omega)
  rw [show n &&& 8388607 = n % 8388608 from Nat.and_two_pow_sub_one_eq_mod n 23] at this
  exact this
theorem and_sign (n : Nat) (hn : n < 4294967296) : bits .and .i64 (n : Int) 8388608 = ((n / 8388608 % 2 * 8388608 : Nat) : Int) := by
  have := andI n 8388608 (by omega) (by omega)
  rw [show n &&& 8388608 = n / 8388608 % 2 * 8388608 from and_two_pow' n 23] at this
  exact this
set_option maxRecDepth 100000 in
set_option maxHeartbeats 1000000 in
theorem decode_yes (n : Nat) (hn : n < 4294967296) (w : World) :
    Calls Try.prog 33 #[.int .i64 (n : Int)] w fun e w' => e = .returned (.tuple #[.agg (numC (Nm.decN n)), .bool (Nm.decLow n), .bool (Nm.decOver n)]) ∧ Below w.heap.size w w' := by
  have hg := Lib.hid (good_yes (n : Int) (by omega))
  obtain ⟨s, hs⟩ : ∃ s, s = n / 16777216 := ⟨_, rfl⟩
  obtain ⟨v, hv⟩ : ∃ v, v = n % 8388608 := ⟨_, rfl⟩
  have eA := and_word n hn
  have eS := and_sign n hn
  have eD : (n : Int) / 16777216 = (s : Nat) := by omega
  have hs2 : s < 256 := by omega
  have hv2 : v < 8388608 := by omega
  have hL : Nm.decLow n = (decide (0 < v) && decide (n / 8388608 % 2 = 1)) := by rw [hv]; rfl
  have hO : Nm.decOver n = ovr s v := by rw [hv, hs]; rfl
  have hM : Nm.decN n = Nm.mv v ((s : Nat) - 3) := by rw [hv, hs]; rfl
  rw [hL, hO, hM]
  rw [← hv] at eA
  have hq : n / 8388608 % 2 < 2 := by omega
  generalize n / 8388608 % 2 = q at *
  have hvb : v < Nm.big := by unfold Nm.big; omega
  have cT := Lib.hid (tooGreat s v hs2 hv2)
  have cM := Lib.hid (moved v ((s : Nat) - 3) hvb (by omega) (by omega))
  have cO := Lib.hid (of v (by omega))
  generalize Nm.mv v ((s : Nat) - 3) = z at *
  generalize ovr s v = ov at *
  clear hL hO hM hs hvb hv
  obtain rfl | ⟨h0, rfl⟩ | ⟨h0, rfl⟩ : v = 0 ∨ (v ≠ 0 ∧ q = 0) ∨ (v ≠ 0 ∧ q = 1) := by omega
  · rw [show (decide (0 < 0) && decide (q = 1)) = false from rfl]
    clear eS hq
    go_enter Try.func33, Try.ntmps33
    go_upto_region 1 with fail
    generalize hw1 : World.alloc _ _ = w1
    have hN : Has w1 w.heap.size (numC 0) 26 := by rw [← hw1]; exact Has.newz _
    have hb : Below w.heap.size w w1 := by rw [← hw1]; exact (Below.refl _ _).alloc (Nat.le_refl _) _
    clear hw1
    go_wp2_with fail
    refine (hg.out _).mono ?_
    rintro e w2 ⟨rfl, rfl⟩
    go_wp2_with fail
    refine (cO.out _).mono ?_
    rintro e w3 ⟨rfl, hb3⟩
    replace hN := hN.on hb3
    replace hb := hb.trans (hb3.mono hb.size)
    clear hb3
    go_wp2_with fail
    refine (cM.out _).mono ?_
    rintro e w4 ⟨rfl, hb4⟩
    replace hN := hN.on hb4
    replace hb := hb.trans (hb4.mono hb.size)
    clear hb4
    go_wp2_with fail
    refine (cT.out _).mono ?_
    rintro e w5 ⟨rfl, rfl⟩
    go_wp2_with (with_reducible refine num_store rfl _ _ rfl _ _ rfl rfl _ hN rfl ?_)
    exact bodyPost_ret (v := .tuple #[.agg (numC z), .bool false, .bool ov]) (num_results3 Try.results33 _ _ _ _ _ rfl rfl rfl (hN.row _)) rfl ⟨rfl, below_setRow hb (Nat.le_refl _) _⟩
  · rw [show (decide (0 < v) && decide (0 = 1)) = false by simp]
    have b0 : ((v : Int) != 0) = true := by simp; omega
    clear h0 hq
    go_enter Try.func33, Try.ntmps33
    go_upto_region 1 with fail
    generalize hw1 : World.alloc _ _ = w1
    have hN : Has w1 w.heap.size (numC 0) 26 := by rw [← hw1]; exact Has.newz _
    have hb : Below w.heap.size w w1 := by rw [← hw1]; exact (Below.refl _ _).alloc (Nat.le_refl _) _
    clear hw1
    go_wp2_with fail
    refine (hg.out _).mono ?_
    rintro e w2 ⟨rfl, rfl⟩
    go_wp2_with fail
    refine (cO.out _).mono ?_
    rintro e w3 ⟨rfl, hb3⟩
    replace hN := hN.on hb3
    replace hb := hb.trans (hb3.mono hb.size)
    clear hb3
    go_wp2_with fail
    refine (cM.out _).mono ?_
    rintro e w4 ⟨rfl, hb4⟩
    replace hN := hN.on hb4
    replace hb := hb.trans (hb4.mono hb.size)
    clear hb4
    go_wp2_with fail
    refine (cT.out _).mono ?_
    rintro e w5 ⟨rfl, rfl⟩
    go_wp2_with (with_reducible refine num_store rfl _ _ rfl _ _ rfl rfl _ hN rfl ?_)
    exact bodyPost_ret (v := .tuple #[.agg (numC z), .bool false, .bool ov]) (num_results3 Try.results33 _ _ _ _ _ rfl rfl rfl (hN.row _)) rfl ⟨rfl, below_setRow hb (Nat.le_refl _) _⟩
  · rw [show (decide (0 < v) && decide (1 = 1)) = true by simp; omega]
    have b0 : ((v : Int) != 0) = true := by simp; omega
    clear h0 hq
    go_enter Try.func33, Try.ntmps33
    go_upto_region 1 with fail
    generalize hw1 : World.alloc _ _ = w1
    have hN : Has w1 w.heap.size (numC 0) 26 := by rw [← hw1]; exact Has.newz _
    have hb : Below w.heap.size w w1 := by rw [← hw1]; exact (Below.refl _ _).alloc (Nat.le_refl _) _
    clear hw1
    go_wp2_with fail
    refine (hg.out _).mono ?_
    rintro e w2 ⟨rfl, rfl⟩
    go_wp2_with fail
    refine (cO.out _).mono ?_
    rintro e w3 ⟨rfl, hb3⟩
    replace hN := hN.on hb3
    replace hb := hb.trans (hb3.mono hb.size)
    clear hb3
    go_wp2_with fail
    refine (cM.out _).mono ?_
    rintro e w4 ⟨rfl, hb4⟩
    replace hN := hN.on hb4
    replace hb := hb.trans (hb4.mono hb.size)
    clear hb4
    go_wp2_with fail
    refine (cT.out _).mono ?_
    rintro e w5 ⟨rfl, rfl⟩
    go_wp2_with (with_reducible refine num_store rfl _ _ rfl _ _ rfl rfl _ hN rfl ?_)
    exact bodyPost_ret (v := .tuple #[.agg (numC z), .bool true, .bool ov]) (num_results3 Try.results33 _ _ _ _ _ rfl rfl rfl (hN.row _)) rfl ⟨rfl, below_setRow hb (Nat.le_refl _) _⟩
end Go.Proofs.Ytmemppkkchfphaa
