import Derived.Test.YthcebnfdapcllaaGreatDoorRBunQ27
import Derived.Test.YthcebnfdapcllaaGreatDoorRBunQ21
import Derived.Lib.BitFns
import Derived.Test.YthcebnfdapcllaaGreatDoorRBunQ26
namespace Go.Proofs.YthcebnfdapcllaaGreatDoor.NN
open Go.RowKit
theorem bitLen_len : ∀ (f x : Nat), x < 2 ^ f → f ≤ 64 → Lib.bitLen x = Nm.len x
  | 0, x, h, _ => by
    have : x = 0 := by simpa using h
    subst this; rfl
  | f + 1, x, h, hf => by
    by_cases h0 : x = 0
    · subst h0; rfl
    · have hx : x < 2 ^ 64 := Nat.lt_of_lt_of_le h (Nat.pow_le_pow_right (by decide) hf)
      rw [Lib.bitLen_half x h0 hx, bitLen_len f (x / 2) (by rw [Nat.pow_succ] at h; omega) (by omega)]
      by_cases h1 : x / 2 = 0
      · obtain rfl : x = 1 := by omega
        rfl
      · refine Nm.len_of (Nm.isLen_up (k := 1) ?_ ?_)
        · rw [Nat.pow_one]; exact Nm.len_isLen _
        · rw [Nat.pow_one]; exact h1
theorem len64 (n : Nat) (hn : n < 18446744073709551616) (w : World) :
    Calls Tryz.prog 88 #[.int .u64 (n : Int)] w fun e w' => e = .returned (.int .i64 (Nm.len n : Nat)) ∧ w = w' :=
  (Tryz.bits_Len64 (n : Int) w (by omega) (by omega)).mono fun _ _ ⟨he, hw⟩ => ⟨by rw [he, Int.toNat_natCast, bitLen_len 64 n hn (by omega)], hw.symm⟩
theorem len_bound {x n : Nat} (h : x < 2 ^ n) (hn : n ≤ 256) : Nm.len x ≤ 256 := Nat.le_trans (Nm.len_le h) hn
set_option maxRecDepth 100000 in
set_option maxHeartbeats 400000 in
theorem len (x : Nat) (hx : x < Nm.big) (w : World) :
    Calls Tryz.prog 135 #[.agg (numC x)] w fun e w' => e = .returned (.int .i64 (Nm.len x : Nat)) ∧ Below w.heap.size w w' := by
  go_enter Tryz.func135, Tryz.ntmps135
  go_wp2_with fail
  generalize hw1 : World.alloc _ _ = w1
  have hA : Has w1 w.heap.size (numC x) 26 := by rw [← hw1]; exact Has.new _ _
  have hB : Below w.heap.size w w1 := by rw [← hw1]; exact (Below.refl _ _).alloc (Nat.le_refl _) _
  clear hw1
  go_loop [3] (fun i => ∃ k : Nat, k ≤ 3 ∧ i = .int .i64 k ∧ Hid (x < 2 ^ (64 * (k + 1)))) (fun i => (intOf i).toNat)
  case atStart => exact ⟨3, by omega, rfl, Lib.hid (by rw [Nm.big_eq] at hx; exact hx)⟩
  case round =>
    obtain ⟨k, hk, rfl, HK⟩ := hrel
    by_cases h0 : 0 < k
    · have c1 := hA.num (j := k) (by omega)
      by_cases hz : Nm.wd x k = 0
      · have hn := Nm.top_zero HK.out hz
        have HN := Lib.hid hn
        rw [hz] at c1
        clear hn hz
        go_wp2_with fail
        go_round
        case rel => exact ⟨k - 1, by omega, congrArg (Value.int .i64) (by omega), by rw [show k - 1 + 1 = k by omega]; exact HN⟩
        case measure => simp [intOf]; omega
      · have e : 64 * k + Nm.len (Nm.wd x k) = Nm.len x := by
          refine Nm.len_of (Nm.isLen_up ?_ ?_)
          · rw [Nm.wd_top HK.out]; exact Nm.len_isLen _
          · rw [← Nm.wd_top HK.out]; exact hz
        have hl := Nm.wd_lt x k
        have hz' : 0 < Nm.wd x k := by omega
        generalize Nm.wd x k = v at *
        have hle := len_bound (x := v) (n := 64) hl (by omega)
        have hlc := len64 v hl
        generalize Nm.len v = n at *
        have E := Lib.hid e
        have HC := Lib.hid hlc
        clear e hz hl hlc
        obtain rfl | rfl | rfl : k = 1 ∨ k = 2 ∨ k = 3 := by omega
        all_goals
          go_wp2_with (go_at_call 88; ((with_reducible refine (HC.out _).mono ?_)); rintro e w' ⟨rfl, rfl⟩)
          go_ret
          exact ⟨congrArg (fun n => Ending.returned (.int .i64 n)) (by rw [← E.out]; omega), hB⟩
    · obtain rfl : k = 0 := by omega
      have c1 := hA.num (j := 0) (by omega)
      have hl := Nm.wd_lt x 0
      have e : Nm.wd x 0 = x := by rw [Nm.wd_top HK.out]; simp
      rw [e] at hl c1
      have hlc := len64 x hl
      obtain ⟨m, hm⟩ : ∃ m, m = Nm.len x := ⟨_, rfl⟩
      rw [← hm] at hlc
      have HM := Lib.hid hm
      clear hm
      have HC := Lib.hid hlc
      clear e hl hlc
      go_wp2_with (go_at_call 88; ((with_reducible refine (HC.out _).mono ?_)); rintro e w' ⟨rfl, rfl⟩)
      go_ret
      exact ⟨by rw [← HM.out]; rfl, hB⟩
end Go.Proofs.YthcebnfdapcllaaGreatDoor.NN
namespace Go.Proofs.YthcebnfdapcllaaGreatDoor.NN
open Go.RowKit
theorem idx_num0 (z : Nat) (w : World) : (Instr.index 26 (.agg (numC z)) (.int .i64 0)).run Tryz.prog w = .ok (.int .u64 (Nm.wd z 0 : Nat)) w := by
  kernel_rfl
theorem or_parts (b t : Nat) (hb : b ≤ 33) (ht : t < 16777216) : bits .or .i64 ((b : Int) * 16777216) (t : Int) = ((b * 16777216 + t : Nat) : Int) := by
  have h1 := orI (b * 16777216) t (by omega) (by omega)
  rw [show (b * 16777216 ||| t) = b * 16777216 + t from (by
    rw [Nat.mul_comm]; exact (Nat.two_pow_add_eq_or_of_lt (i := 24) ht b).symm)] at h1
  rw [← h1]; congr 1
set_option maxRecDepth 100000 in
set_option maxHeartbeats 1000000 in
theorem encode (x : Nat) (hx : x < Nm.big) (w : World) :
    Calls Tryz.prog 130 #[.agg (numC x)] w fun e w' => e = .returned (.int .i64 (Nm.enc x : Nat)) ∧ Below w.heap.size w w' := by
  obtain ⟨l, hl⟩ : ∃ l, l = Nm.len x := ⟨_, rfl⟩
  obtain ⟨b, hb⟩ : ∃ b, b = Nm.bl x := ⟨_, rfl⟩
  obtain ⟨t, ht⟩ : ∃ t, t = Nm.top3 x := ⟨_, rfl⟩
  have hl2 : l ≤ 256 := by rw [hl]; exact Nm.len_big hx
  have hb2 : b ≤ 32 := by rw [hb]; exact Nm.bl_le hx
  have hbl : b = (l + 7) / 8 := by rw [hb, hl]; rfl
  have ht2 : t < 16777216 := by rw [ht]; exact Nm.top3_small
  have cL := len x hx
  rw [← hl] at cL
  have cM := moved x (3 - (b : Nat)) hx (by omega) (by omega)
  obtain ⟨z, hz⟩ : ∃ z, z = Nm.mv x (3 - (b : Nat)) := ⟨_, rfl⟩
  have hwd : Nm.wd z 0 = t := by rw [ht, Nm.wd0, hz, hb]; rfl
  have hix := idx_num0 z
  rw [hwd] at hix
  rw [← hz] at cM
  have CL := Lib.hid cL
  have CM := Lib.hid cM
  have hE : Nm.enc x = if t < 8388608 then b * 16777216 + t else (b + 1) * 16777216 + t / 256 := by rw [ht, hb]; rfl
  rw [hE]
  have eB : ((l : Int) + 8 - 1) / 8 = (b : Nat) := by omega
  have eS := and_sign t (by omega)
  clear hl hb ht hz hwd hE cL cM hbl
  by_cases h : t < 8388608
  · rw [if_pos h]
    rw [show t / 8388608 % 2 * 8388608 = 0 by omega] at eS
    have eO := or_parts b t (by omega) ht2
    generalize b * 16777216 + t = r at *
    clear h
    go_enter Tryz.func130, Tryz.ntmps130
    go_upto_region 1 with fail
    generalize hw1 : World.alloc _ _ = w1
    have hA : Has w1 w.heap.size (numC x) 26 := by rw [← hw1]; exact Has.new _ _
    have hB : Below w.heap.size w w1 := by rw [← hw1]; exact (Below.refl _ _).alloc (Nat.le_refl _) _
    clear hw1
    go_wp2_with (with_reducible refine num_load rfl _ rfl _ rfl _ hA rfl ?_)
    refine (CL.out _).mono ?_
    rintro e w2 ⟨rfl, hb2⟩
    replace hA := hA.on hb2
    replace hB := hB.trans (hb2.mono hB.size)
    clear hb2
    go_wp2_with (with_reducible refine num_load rfl _ rfl _ rfl _ hA rfl ?_)
    refine (CM.out _).mono ?_
    rintro e w3 ⟨rfl, hb3⟩
    replace hA := hA.on hb3
    replace hB := hB.trans (hb3.mono hB.size)
    clear hb3
    go_wp2_with fail
    go_ret
    exact ⟨rfl, hB⟩
  · rw [if_neg h]
    rw [show t / 8388608 % 2 * 8388608 = 8388608 by omega] at eS
    obtain ⟨u, hu⟩ : ∃ u, u = t / 256 := ⟨_, rfl⟩
    obtain ⟨c, hc⟩ : ∃ c, c = b + 1 := ⟨_, rfl⟩
    rw [← hu, ← hc]
    have eU : (t : Int) / 256 = (u : Nat) := by omega
    have eC : (b : Int) + 1 = (c : Nat) := by omega
    have hc2 : c ≤ 33 := by omega
    have hu2 : u < 16777216 := by omega
    have eO := or_parts c u hc2 hu2
    generalize c * 16777216 + u = r at *
    clear h hu hc
    go_enter Tryz.func130, Tryz.ntmps130
    go_upto_region 1 with fail
    generalize hw1 : World.alloc _ _ = w1
    have hA : Has w1 w.heap.size (numC x) 26 := by rw [← hw1]; exact Has.new _ _
    have hB : Below w.heap.size w w1 := by rw [← hw1]; exact (Below.refl _ _).alloc (Nat.le_refl _) _
    clear hw1
    go_wp2_with (with_reducible refine num_load rfl _ rfl _ rfl _ hA rfl ?_)
    refine (CL.out _).mono ?_
    rintro e w2 ⟨rfl, hb2⟩
    replace hA := hA.on hb2
    replace hB := hB.trans (hb2.mono hB.size)
    clear hb2
    go_wp2_with (with_reducible refine num_load rfl _ rfl _ rfl _ hA rfl ?_)
    refine (CM.out _).mono ?_
    rintro e w3 ⟨rfl, hb3⟩
    replace hA := hA.on hb3
    replace hB := hB.trans (hb3.mono hB.size)
    clear hb3
    go_wp2_with fail
    go_ret
    exact ⟨rfl, hB⟩
end Go.Proofs.YthcebnfdapcllaaGreatDoor.NN
namespace Go.Proofs.YthcebnfdapcllaaGreatDoor.NN
open Go.RowKit
end Go.Proofs.YthcebnfdapcllaaGreatDoor.NN
namespace Go.Proofs.YthcebnfdapcllaaGreatDoor.NN
open Go.RowKit
theorem ref_less_is (x y : Nat) (hx : x < Nm.big) (hy : y < Nm.big) (g : Bool) (hg : decide (x < y) = g) (w : World) : Calls Tryz.prog 48 #[.agg (numC x), .agg (numC y)] w fun e w' => e = .returned (.bool g) ∧ Below w.heap.size w w' := by
  rw [← hg]; exact ref_less x y hx hy w
end Go.Proofs.YthcebnfdapcllaaGreatDoor.NN
namespace Go.Proofs.YthcebnfdapcllaaGreatDoor.NN
open Go.RowKit
theorem eql_zero (z : Nat) (hz : z < Nm.big) (g : Bool) (hg : decide (z = 0) = g) (w : World) : (binOp .eql 26 (.agg (numC z)) (.agg #[.int .u64 0, .int .u64 0, .int .u64 0, .int .u64 0])).run Tryz.prog w = .ok (.bool g) w := by
  rw [← hg]; exact eql_num hz (show 0 < Nm.big by decide) w
theorem less_is (x y : Nat) (hx : x < Nm.big) (hy : y < Nm.big) (g : Bool) (hg : decide (x < y) = g) (w : World) : Calls Tryz.prog 73 #[.agg (numC x), .agg (numC y)] w fun e w' => e = .returned (.bool g) ∧ Below w.heap.size w w' := by
  rw [← hg]; exact less x y hx hy w
theorem zero_is (x : Nat) (hx : x < Nm.big) (g : Bool) (hg : decide (x = 0) = g) (w : World) : Calls Tryz.prog 77 #[.agg (numC x)] w fun e w' => e = .returned (.bool g) ∧ Below w.heap.size w w' := by
  rw [← hg]; exact zero x hx w
theorem inRange_is (b : Int) (z : Nat) (low over g : Bool) (hg : (!low && !over) = g) (KD : Hid (∀ w, Calls Tryz.prog 102 #[.int .i64 b] w fun e w' => e = .returned (.tuple #[.agg (numC z), .bool low, .bool over]) ∧ Below w.heap.size w w')) (w : World) :
    Calls Tryz.prog 76 #[.int .i64 b] w fun e w' => e = .returned (.tuple #[.agg (numC z), .bool g]) ∧ Below w.heap.size w w' := by
  rw [← hg]; exact inRange_of b z low over KD w
set_option maxRecDepth 100000 in
set_option maxHeartbeats 4000000 in
theorem target_w (b c : Int) (z y : Nat) (o p g l : Bool) (KI : Hid (∀ w, Calls Tryz.prog 76 #[.int .i64 b] w fun e w' => e = .returned (.tuple #[.agg (numC z), .bool o]) ∧ Below w.heap.size w w'))
    (KI2 : Hid (∀ w, Calls Tryz.prog 76 #[.int .i64 c] w fun e w' => e = .returned (.tuple #[.agg (numC y), .bool p]) ∧ Below w.heap.size w w'))
    (KZ : Hid (∀ w, Calls Tryz.prog 77 #[.agg (numC z)] w fun e w' => e = .returned (.bool g) ∧ Below w.heap.size w w')) (KL : Hid (∀ w, Calls Tryz.prog 73 #[.agg (numC y), .agg (numC z)] w fun e w' => e = .returned (.bool l) ∧ Below w.heap.size w w')) (w : World) :
    Calls Tryz.prog 60 #[.int .i64 b, .int .i64 c] w fun e w' => e = .returned (.tuple #[.agg (numC (if (o && p && !g && !l) = true then z else 0)), .bool (o && p && !g && !l)]) ∧ Below w.heap.size w w' := by
  go_enter Tryz.func60, Tryz.ntmps60
  go_upto_region 1 with fail
  generalize hw0 : World.alloc _ _ = v0
  have hN : Has v0 w.heap.size (numC 0) 26 := by rw [← hw0]; exact Has.newz _
  have hbel : Below w.heap.size w v0 := by rw [← hw0]; exact (Below.refl _ _).alloc (Nat.le_refl _) _
  clear hw0
  go_wp2_with (first | fail | (with_reducible refine num_load rfl _ rfl _ rfl _ hN rfl ?_) | (with_reducible refine num_load_g (by with_unfolding_all rfl) _ rfl _ rfl _ hN rfl ?_))
  refine (KI.out _).mono ?_
  rintro e v1 ⟨rfl, hb1⟩
  replace hN := hN.on hb1
  replace hbel := hbel.trans (hb1.mono hbel.size)
  clear hb1
  go_upto_region 2 with (with_reducible refine num_store rfl _ _ rfl _ _ rfl rfl _ (Has.newz _) rfl ?_)
  generalize hw2 : World.setRow _ _ _ = v2
  have hb2 : Below v1.heap.size v1 v2 := by rw [← hw2]; exact below_setRow ((Below.refl _ _).alloc (Nat.le_refl _) _) (Nat.le_refl _) _
  have hX : Has v2 v1.heap.size (numC z) 26 := by rw [← hw2]; exact (Has.newz _).row _
  replace hN := hN.on hb2
  replace hbel := hbel.trans (hb2.mono hbel.size)
  clear hw2 hb2
  generalize v1.heap.size = b_hX at hX ⊢
  go_wp2_with (first | fail | (with_reducible refine num_load rfl _ rfl _ rfl _ hN rfl ?_) | (with_reducible refine num_load rfl _ rfl _ rfl _ hX rfl ?_) | (with_reducible refine num_load_g (by with_unfolding_all rfl) _ rfl _ rfl _ hN rfl ?_) | (with_reducible refine num_load_g (by with_unfolding_all rfl) _ rfl _ rfl _ hX rfl ?_))
  refine (KI2.out _).mono ?_
  rintro e v3 ⟨rfl, hb3⟩
  replace hN := hN.on hb3
  replace hX := hX.on hb3
  replace hbel := hbel.trans (hb3.mono hbel.size)
  clear hb3
  go_upto_region 3 with (with_reducible refine num_store rfl _ _ rfl _ _ rfl rfl _ (Has.newz _) rfl ?_)
  generalize hw4 : World.setRow _ _ _ = v4
  have hb4 : Below v3.heap.size v3 v4 := by rw [← hw4]; exact below_setRow ((Below.refl _ _).alloc (Nat.le_refl _) _) (Nat.le_refl _) _
  have hY : Has v4 v3.heap.size (numC y) 26 := by rw [← hw4]; exact (Has.newz _).row _
  replace hN := hN.on hb4
  replace hX := hX.on hb4
  replace hbel := hbel.trans (hb4.mono hbel.size)
  clear hw4 hb4
  generalize v3.heap.size = b_hY at hY ⊢
  cases o
  case' true =>
    cases p
    case' true =>
      go_wp2_with (first | fail | (with_reducible refine num_load rfl _ rfl _ rfl _ hN rfl ?_) | (with_reducible refine num_load rfl _ rfl _ rfl _ hX rfl ?_) | (with_reducible refine num_load rfl _ rfl _ rfl _ hY rfl ?_) | (with_reducible refine num_load_g (by with_unfolding_all rfl) _ rfl _ rfl _ hN rfl ?_) | (with_reducible refine num_load_g (by with_unfolding_all rfl) _ rfl _ rfl _ hX rfl ?_) | (with_reducible refine num_load_g (by with_unfolding_all rfl) _ rfl _ rfl _ hY rfl ?_))
      refine (KZ.out _).mono ?_
      rintro e v5 ⟨rfl, hb5⟩
      replace hN := hN.on hb5
      replace hX := hX.on hb5
      replace hY := hY.on hb5
      replace hbel := hbel.trans (hb5.mono hbel.size)
      clear hb5
      cases g
      case' false =>
        go_wp2_with (first | fail | (with_reducible refine num_load rfl _ rfl _ rfl _ hN rfl ?_) | (with_reducible refine num_load rfl _ rfl _ rfl _ hX rfl ?_) | (with_reducible refine num_load rfl _ rfl _ rfl _ hY rfl ?_) | (with_reducible refine num_load_g (by with_unfolding_all rfl) _ rfl _ rfl _ hN rfl ?_) | (with_reducible refine num_load_g (by with_unfolding_all rfl) _ rfl _ rfl _ hX rfl ?_) | (with_reducible refine num_load_g (by with_unfolding_all rfl) _ rfl _ rfl _ hY rfl ?_))
        refine (KL.out _).mono ?_
        rintro e v6 ⟨rfl, hb6⟩
        replace hN := hN.on hb6
        replace hX := hX.on hb6
        replace hY := hY.on hb6
        replace hbel := hbel.trans (hb6.mono hbel.size)
        clear hb6
        cases l
  all_goals go_wp2_with (first | fail | (with_reducible refine num_load rfl _ rfl _ rfl _ hN rfl ?_) | (with_reducible refine num_load rfl _ rfl _ rfl _ hX rfl ?_) | (with_reducible refine num_load rfl _ rfl _ rfl _ hY rfl ?_) | (with_reducible refine num_load_g (by with_unfolding_all rfl) _ rfl _ rfl _ hN rfl ?_) | (with_reducible refine num_load_g (by with_unfolding_all rfl) _ rfl _ rfl _ hX rfl ?_) | (with_reducible refine num_load_g (by with_unfolding_all rfl) _ rfl _ rfl _ hY rfl ?_) | (with_reducible refine num_store_eq rfl _ _ rfl _ 0 _ rfl rfl zero4 _ hN rfl ?_) | (with_reducible refine num_store rfl _ _ rfl _ _ rfl rfl _ hN rfl ?_))
  all_goals exact bodyPost_ret (num_results2 Tryz.results60 _ _ _ _ rfl rfl (hN.row _)) rfl ⟨rfl, below_setRow hbel (Nat.le_refl _) _⟩
set_option maxRecDepth 100000 in
set_option maxHeartbeats 4000000 in
theorem rtarget_w (b c : Int) (z y : Nat) (o p q r g l : Bool) (KD : Hid (∀ w, Calls Tryz.prog 32 #[.int .i64 b] w fun e w' => e = .returned (.tuple #[.agg (numC z), .bool o, .bool p]) ∧ Below w.heap.size w w'))
    (KD2 : Hid (∀ w, Calls Tryz.prog 32 #[.int .i64 c] w fun e w' => e = .returned (.tuple #[.agg (numC y), .bool q, .bool r]) ∧ Below w.heap.size w w'))
    (hq : ∀ w, (binOp .eql 26 (.agg (numC z)) (.agg #[.int .u64 0, .int .u64 0, .int .u64 0, .int .u64 0])).run Tryz.prog w = .ok (.bool g) w) (KL : Hid (∀ w, Calls Tryz.prog 48 #[.agg (numC y), .agg (numC z)] w fun e w' => e = .returned (.bool l) ∧ Below w.heap.size w w')) (w : World) :
    Calls Tryz.prog 45 #[.int .i64 b, .int .i64 c] w fun e w' => e = .returned (.tuple #[.agg (numC (if (!o && !p && !q && !r && !g && !l) = true then z else 0)), .bool (!o && !p && !q && !r && !g && !l)]) ∧ Below w.heap.size w w' := by
  go_enter Tryz.func45, Tryz.ntmps45
  go_upto_region 1 with fail
  generalize hw0 : World.alloc _ _ = v0
  have hN : Has v0 w.heap.size (numC 0) 26 := by rw [← hw0]; exact Has.newz _
  have hbel : Below w.heap.size w v0 := by rw [← hw0]; exact (Below.refl _ _).alloc (Nat.le_refl _) _
  clear hw0
  go_wp2_with (first | fail | (with_reducible refine num_load rfl _ rfl _ rfl _ hN rfl ?_) | (with_reducible refine num_load_g (by with_unfolding_all rfl) _ rfl _ rfl _ hN rfl ?_))
  refine (KD.out _).mono ?_
  rintro e v1 ⟨rfl, hb1⟩
  replace hN := hN.on hb1
  replace hbel := hbel.trans (hb1.mono hbel.size)
  clear hb1
  go_upto_region 2 with (with_reducible refine num_store rfl _ _ rfl _ _ rfl rfl _ (Has.newz _) rfl ?_)
  generalize hw2 : World.setRow _ _ _ = v2
  have hb2 : Below v1.heap.size v1 v2 := by rw [← hw2]; exact below_setRow ((Below.refl _ _).alloc (Nat.le_refl _) _) (Nat.le_refl _) _
  have hX : Has v2 v1.heap.size (numC z) 26 := by rw [← hw2]; exact (Has.newz _).row _
  replace hN := hN.on hb2
  replace hbel := hbel.trans (hb2.mono hbel.size)
  clear hw2 hb2
  generalize v1.heap.size = b_hX at hX ⊢
  go_wp2_with (first | fail | (with_reducible refine num_load rfl _ rfl _ rfl _ hN rfl ?_) | (with_reducible refine num_load rfl _ rfl _ rfl _ hX rfl ?_) | (with_reducible refine num_load_g (by with_unfolding_all rfl) _ rfl _ rfl _ hN rfl ?_) | (with_reducible refine num_load_g (by with_unfolding_all rfl) _ rfl _ rfl _ hX rfl ?_))
  refine (KD2.out _).mono ?_
  rintro e v3 ⟨rfl, hb3⟩
  replace hN := hN.on hb3
  replace hX := hX.on hb3
  replace hbel := hbel.trans (hb3.mono hbel.size)
  clear hb3
  go_upto_region 3 with (with_reducible refine num_store rfl _ _ rfl _ _ rfl rfl _ (Has.newz _) rfl ?_)
  generalize hw4 : World.setRow _ _ _ = v4
  have hb4 : Below v3.heap.size v3 v4 := by rw [← hw4]; exact below_setRow ((Below.refl _ _).alloc (Nat.le_refl _) _) (Nat.le_refl _) _
  have hY : Has v4 v3.heap.size (numC y) 26 := by rw [← hw4]; exact (Has.newz _).row _
  replace hN := hN.on hb4
  replace hX := hX.on hb4
  replace hbel := hbel.trans (hb4.mono hbel.size)
  clear hw4 hb4
  generalize v3.heap.size = b_hY at hY ⊢
  cases o
  case' false =>
    cases p
    case' false =>
      cases q
      case' false =>
        cases r
        case' false =>
          cases g
          case' false =>
            go_wp2_with (first | fail | (with_reducible refine num_load rfl _ rfl _ rfl _ hN rfl ?_) | (with_reducible refine num_load rfl _ rfl _ rfl _ hX rfl ?_) | (with_reducible refine num_load rfl _ rfl _ rfl _ hY rfl ?_) | (with_reducible refine num_load_g (by with_unfolding_all rfl) _ rfl _ rfl _ hN rfl ?_) | (with_reducible refine num_load_g (by with_unfolding_all rfl) _ rfl _ rfl _ hX rfl ?_) | (with_reducible refine num_load_g (by with_unfolding_all rfl) _ rfl _ rfl _ hY rfl ?_))
            refine (KL.out _).mono ?_
            rintro e v5 ⟨rfl, hb5⟩
            replace hN := hN.on hb5
            replace hX := hX.on hb5
            replace hY := hY.on hb5
            replace hbel := hbel.trans (hb5.mono hbel.size)
            clear hb5
            cases l
  all_goals go_wp2_with (first | fail | (with_reducible refine num_load rfl _ rfl _ rfl _ hN rfl ?_) | (with_reducible refine num_load rfl _ rfl _ rfl _ hX rfl ?_) | (with_reducible refine num_load rfl _ rfl _ rfl _ hY rfl ?_) | (with_reducible refine num_load_g (by with_unfolding_all rfl) _ rfl _ rfl _ hN rfl ?_) | (with_reducible refine num_load_g (by with_unfolding_all rfl) _ rfl _ rfl _ hX rfl ?_) | (with_reducible refine num_load_g (by with_unfolding_all rfl) _ rfl _ rfl _ hY rfl ?_) | (with_reducible refine num_store_eq rfl _ _ rfl _ 0 _ rfl rfl zero4 _ hN rfl ?_) | (with_reducible refine num_store rfl _ _ rfl _ _ rfl rfl _ hN rfl ?_))
  all_goals exact bodyPost_ret (num_results2 Tryz.results45 _ _ _ _ rfl rfl (hN.row _)) rfl ⟨rfl, below_setRow hbel (Nat.le_refl _) _⟩
end Go.Proofs.YthcebnfdapcllaaGreatDoor.NN
namespace Go.Proofs.YthcebnfdapcllaaGreatDoor.NN
open Go.RowKit
def tgt (z y : Nat) (low over low2 over2 : Bool) : Bool := !low && !over && !low2 && !over2 && !decide (z = 0) && !decide (y < z)
theorem target_any (b c : Int) (z y : Nat) (low over low2 over2 : Bool) (hz : z < Nm.big) (hy : y < Nm.big)
    (KD : Hid (∀ w, Calls Tryz.prog 102 #[.int .i64 b] w fun e w' => e = .returned (.tuple #[.agg (numC z), .bool low, .bool over]) ∧ Below w.heap.size w w'))
    (KD2 : Hid (∀ w, Calls Tryz.prog 102 #[.int .i64 c] w fun e w' => e = .returned (.tuple #[.agg (numC y), .bool low2, .bool over2]) ∧ Below w.heap.size w w')) (w : World) :
    Calls Tryz.prog 60 #[.int .i64 b, .int .i64 c] w fun e w' => e = .returned (.tuple #[.agg (numC (if tgt z y low over low2 over2 then z else 0)), .bool (tgt z y low over low2 over2)]) ∧ Below w.heap.size w w' := by
  have h := target_w b c z y _ _ _ _ (Lib.hid (inRange_is b z low over _ rfl KD)) (Lib.hid (inRange_is c y low2 over2 _ rfl KD2)) (Lib.hid (zero_is z hz _ rfl)) (Lib.hid (less_is y z hy hz _ rfl)) w
  rw [show (!low && !over && (!low2 && !over2) && !decide (z = 0) && !decide (y < z)) = tgt z y low over low2 over2 by unfold tgt; simp only [Bool.and_assoc]] at h
  exact h
theorem rtarget_any (b c : Int) (z y : Nat) (low over low2 over2 : Bool) (hz : z < Nm.big) (hy : y < Nm.big)
    (KD : Hid (∀ w, Calls Tryz.prog 32 #[.int .i64 b] w fun e w' => e = .returned (.tuple #[.agg (numC z), .bool low, .bool over]) ∧ Below w.heap.size w w'))
    (KD2 : Hid (∀ w, Calls Tryz.prog 32 #[.int .i64 c] w fun e w' => e = .returned (.tuple #[.agg (numC y), .bool low2, .bool over2]) ∧ Below w.heap.size w w')) (w : World) :
    Calls Tryz.prog 45 #[.int .i64 b, .int .i64 c] w fun e w' => e = .returned (.tuple #[.agg (numC (if tgt z y low over low2 over2 then z else 0)), .bool (tgt z y low over low2 over2)]) ∧ Below w.heap.size w w' := by
  exact rtarget_w b c z y low over low2 over2 _ _ KD KD2 (eql_zero z hz _ rfl) (Lib.hid (ref_less_is y z hy hz _ rfl)) w
end Go.Proofs.YthcebnfdapcllaaGreatDoor.NN
namespace Go.Proofs.YthcebnfdapcllaaGreatDoor.NN
open Go.RowKit
def dN (b : Int) : Nat := if 0 ≤ b ∧ b ≤ 4294967295 then Nm.decN b.toNat else 0
def dLow (b : Int) : Bool := if 0 ≤ b ∧ b ≤ 4294967295 then Nm.decLow b.toNat else false
def dOver (b : Int) : Bool := if 0 ≤ b ∧ b ≤ 4294967295 then Nm.decOver b.toNat else false
theorem dN_lt (b : Int) : dN b < Nm.big := by
  unfold dN
  split
  · exact Nm.mv_lt (by unfold Nm.big; omega) _
  · decide
def tok (b c : Int) : Bool := tgt (dN b) (dN c) (dLow b) (dOver b) (dLow c) (dOver c)
def tg (b c : Int) : Nat := if tok b c then dN b else 0
theorem tg_lt (b c : Int) : tg b c < Nm.big := by
  unfold tg
  split
  · exact dN_lt b
  · decide
theorem dec_at (b : Int) (w : World) : Calls Tryz.prog 102 #[.int .i64 b] w fun e w' => e = .returned (.tuple #[.agg (numC (dN b)), .bool (dLow b), .bool (dOver b)]) ∧ Below w.heap.size w w' := by
  unfold dN dLow dOver
  by_cases h : 0 ≤ b ∧ b ≤ 4294967295
  · rw [if_pos h, if_pos h, if_pos h]
    obtain ⟨n, rfl⟩ := Int.eq_ofNat_of_zero_le h.1
    rw [Int.toNat_natCast]
    exact decode_yes n (by omega) w
  · rw [if_neg h, if_neg h, if_neg h]
    exact decode_no b h w
theorem rdec_at (b : Int) (w : World) : Calls Tryz.prog 32 #[.int .i64 b] w fun e w' => e = .returned (.tuple #[.agg (numC (dN b)), .bool (dLow b), .bool (dOver b)]) ∧ Below w.heap.size w w' := by
  unfold dN dLow dOver
  by_cases h : 0 ≤ b ∧ b ≤ 4294967295
  · rw [if_pos h, if_pos h, if_pos h]
    obtain ⟨n, rfl⟩ := Int.eq_ofNat_of_zero_le h.1
    rw [Int.toNat_natCast]
    exact ref_decode_yes n (by omega) w
  · rw [if_neg h, if_neg h, if_neg h]
    exact ref_decode_no b h w
theorem tgt_at (b c : Int) (w : World) : Calls Tryz.prog 60 #[.int .i64 b, .int .i64 c] w fun e w' => e = .returned (.tuple #[.agg (numC (tg b c)), .bool (tok b c)]) ∧ Below w.heap.size w w' :=
  target_any b c (dN b) (dN c) (dLow b) (dOver b) (dLow c) (dOver c) (dN_lt b) (dN_lt c) (Lib.hid (dec_at b)) (Lib.hid (dec_at c)) w
theorem rtgt_at (b c : Int) (w : World) : Calls Tryz.prog 45 #[.int .i64 b, .int .i64 c] w fun e w' => e = .returned (.tuple #[.agg (numC (tg b c)), .bool (tok b c)]) ∧ Below w.heap.size w w' :=
  rtarget_any b c (dN b) (dN c) (dLow b) (dOver b) (dLow c) (dOver c) (dN_lt b) (dN_lt c) (Lib.hid (rdec_at b)) (Lib.hid (rdec_at c)) w
theorem parts_quo (n a o : Nat) (h : 0 < o) : n * a / o = n / o * a + n % o * a / o := by
  have e : n * a = o * (n / o * a) + n % o * a := by
    have := Nat.div_add_mod n o
    calc n * a = (o * (n / o) + n % o) * a := by rw [this]
      _ = o * (n / o * a) + n % o * a := by rw [Nat.add_mul, Nat.mul_assoc]
  rw [e, Nat.mul_add_div h]
theorem parts_mod (q m : Nat) : (q % Nm.big + m) % Nm.big = (q + m) % Nm.big := Nat.mod_add_mod _ _ _
theorem parts_over (q m : Nat) : (decide (Nm.big ≤ q) || decide (Nm.big ≤ q % Nm.big + m)) = decide (Nm.big ≤ q + m) := by
  by_cases h : Nm.big ≤ q
  · rw [decide_eq_true h, decide_eq_true (by omega : Nm.big ≤ q + m)]; rfl
  · rw [decide_eq_false h, Nat.mod_eq_of_lt (by omega)]; rfl
def tk (s : Nat) (d : Int) : Nat := (min (max d ((s / 4 : Nat) : Int)) ((s * 4 : Nat) : Int)).toNat
theorem tk_le (s : Nat) (d : Int) : tk s d ≤ s * 4 := by unfold tk; omega
theorem tk_int (s : Nat) (d : Int) : (tk s d : Int) = min (max d ((s / 4 : Nat) : Int)) ((s * 4 : Nat) : Int) := by unfold tk; omega
def anew (t s : Nat) (d : Int) : Nat := t * tk s d / s
end Go.Proofs.YthcebnfdapcllaaGreatDoor.NN
namespace Go.Proofs.YthcebnfdapcllaaGreatDoor.NN.Nm
open Go
structure KI (u d y1 y0 q r : Nat) : Prop where
  sum : q * y1 + r = u
  ge : (u * 4294967296 + d) / (y1 * 4294967296 + y0) ≤ q
  le : q ≤ 4294967297
structure KY (u d y1 y0 : Nat) : Prop where
  h1 : 2147483648 ≤ y1
  h2 : y1 < 4294967296
  h0 : y0 < 4294967296
  hd : d < 4294967296
  hu : u < y1 * 4294967296 + y0
theorem KI.below {u d y1 y0 q r : Nat} (k : KY u d y1 y0) (h : KI u d y1 y0 q r) : q ≤ (u * 4294967296 + d) / (y1 * 4294967296 + y0) ↔ q * y0 ≤ 4294967296 * r + d := by
  have h1 := k.h1
  rw [Nat.le_div_iff_mul_le (by omega), Nat.mul_add, ← Nat.mul_assoc, ← h.sum, Nat.add_mul]
  generalize q * y1 = z
  generalize q * y0 = z0
  omega
theorem KY.lt {u d y1 y0 : Nat} (k : KY u d y1 y0) : (u * 4294967296 + d) / (y1 * 4294967296 + y0) < 4294967296 := by
  have h1 := k.h1
  have hd := k.hd
  have hu := k.hu
  rw [Nat.div_lt_iff_lt_mul (by omega)]
  omega
theorem KI.more {u d y1 y0 q r : Nat} (k : KY u d y1 y0) (h : KI u d y1 y0 q r) (hc : 4294967296 ≤ q ∨ 4294967296 * r + d < q * y0) : (u * 4294967296 + d) / (y1 * 4294967296 + y0) < q := by
  rcases hc with hc | hc
  · have := k.lt; omega
  · exact Nat.lt_of_not_le fun hh => by have := (h.below k).1 hh; omega
theorem KI.next {u d y1 y0 q r : Nat} (k : KY u d y1 y0) (h : KI u d y1 y0 q r) (hc : 4294967296 ≤ q ∨ 4294967296 * r + d < q * y0) : KI u d y1 y0 (q - 1) (r + y1) := by
  have hm := h.more k hc
  have hq : 0 < q := Nat.lt_of_le_of_lt (Nat.zero_le _) hm
  obtain ⟨p, rfl⟩ : ∃ p, q = p + 1 := ⟨q - 1, by omega⟩
  refine ⟨?_, Nat.le_of_lt_succ hm, by have := h.le; omega⟩
  have := h.sum
  rw [Nat.succ_mul] at this
  simp only [Nat.add_sub_cancel]
  omega
theorem KI.stop {u d y1 y0 q r : Nat} (k : KY u d y1 y0) (h : KI u d y1 y0 q r) (hc : q * y0 ≤ 4294967296 * r + d) : q = (u * 4294967296 + d) / (y1 * 4294967296 + y0) := by
  have := (h.below k).2 hc
  have := h.ge
  omega
theorem KI.leave {u d y1 y0 q r : Nat} (k : KY u d y1 y0) (h : KI u d y1 y0 q r) (hr : 4294967296 ≤ r) (hq : q ≤ 4294967296) : q = (u * 4294967296 + d) / (y1 * 4294967296 + y0) := by
  refine h.stop k ?_
  have h0 := k.h0
  have : q * y0 ≤ 4294967296 * 4294967296 := Nat.mul_le_mul hq (by omega)
  omega
theorem KY.start {u d y1 y0 : Nat} (k : KY u d y1 y0) : KI u d y1 y0 (u / y1) (u % y1) := by
  have h1 := k.h1
  have h0 := k.h0
  have hu := k.hu
  have hd := k.hd
  refine ⟨Nat.div_add_mod' _ _, ?_, ?_⟩
  · have e1 : (u * 4294967296 + d) / (y1 * 4294967296 + y0) ≤ (u * 4294967296 + d) / (4294967296 * y1) := Nat.div_le_div_left (by omega) (by omega)
    rw [← Nat.div_div_eq_div_mul, show (u * 4294967296 + d) / 4294967296 = u by omega] at e1
    exact e1
  · have : u / y1 < 4294967298 := (Nat.div_lt_iff_lt_mul (by omega)).2 (by omega)
    omega
theorem digit_left {u d y q : Nat} (hy : 0 < y) (hy2 : y < 18446744073709551616) (hq : q = (u * 4294967296 + d) / y) :
    IntKind.u64.wrap (IntKind.u64.wrap (IntKind.u64.wrap ((u : Int) * 4294967296) + (d : Int)) - IntKind.u64.wrap ((q : Int) * (y : Int))) = (((u * 4294967296 + d) % y : Nat) : Int) := by
  have e := Nat.div_add_mod' (u * 4294967296 + d) y
  rw [← hq] at e
  have hl := Nat.mod_lt (u * 4294967296 + d) hy
  generalize (u * 4294967296 + d) % y = r at *
  rw [IntKind.wrap_u64, IntKind.wrap_u64, IntKind.wrap_u64, IntKind.wrap_u64]
  rw [← Int.natCast_mul q y]
  generalize q * y = z at *
  omega
theorem two_digits {u d1 d0 y : Nat} (hy : 0 < y) :
    (u * 18446744073709551616 + d1 * 4294967296 + d0) / y = (u * 4294967296 + d1) / y * 4294967296 + ((u * 4294967296 + d1) % y * 4294967296 + d0) / y ∧
    (u * 18446744073709551616 + d1 * 4294967296 + d0) % y = ((u * 4294967296 + d1) % y * 4294967296 + d0) % y := by
  have e : u * 18446744073709551616 + d1 * 4294967296 + d0 = y * ((u * 4294967296 + d1) / y * 4294967296) + ((u * 4294967296 + d1) % y * 4294967296 + d0) := by
    have h := Nat.div_add_mod (u * 4294967296 + d1) y
    rw [← Nat.mul_assoc]
    generalize y * ((u * 4294967296 + d1) / y) = z at *
    omega
  rw [e]
  exact ⟨Nat.mul_add_div hy _ _, Nat.mul_add_mod _ _ _⟩
theorem moved_div {h y p : Nat} (hp : 0 < p) : h * p / (y * p) = h / y ∧ h * p % (y * p) / p = h % y := by
  rw [Nat.mul_div_mul_right _ _ hp, Nat.mul_mod_mul_right, Nat.mul_div_cancel _ hp]
  exact ⟨rfl, rfl⟩
theorem lead {y : Nat} (h0 : y ≠ 0) (hl : y < 18446744073709551616) : ∃ s, s < 64 ∧ (64 - (Lib.bitLen y : Int)) = (s : Nat) ∧ 9223372036854775808 ≤ y * 2 ^ s ∧ y * 2 ^ s < 18446744073709551616 := by
  rw [bitLen_len 64 y (by exact hl) (by omega)]
  have h1 := (len_isLen y).1
  have h2 := len_le (show y < 2 ^ 64 from hl)
  have h3 : len y ≠ 0 := fun e => by rw [e] at h1; simp at h1; exact h0 h1
  have h4 := (len_isLen y).2 h3
  refine ⟨64 - len y, by omega, by omega, ?_, ?_⟩
  · have e : 2 ^ (len y - 1) * 2 ^ (64 - len y) = 9223372036854775808 := by rw [← Nat.pow_add, show len y - 1 + (64 - len y) = 63 by omega]
    rw [← e]; exact Nat.mul_le_mul_right _ h4
  · have e : 2 ^ len y * 2 ^ (64 - len y) = 18446744073709551616 := by rw [← Nat.pow_add, show len y + (64 - len y) = 64 by omega]
    rw [← e]; exact Nat.mul_lt_mul_of_pos_right h1 (Nat.pow_pos (by decide))
end Go.Proofs.YthcebnfdapcllaaGreatDoor.NN.Nm
