/-
  The reference's Decode (layer 3), at every number.
-/
import Derived.Test.YtmemppkkchfphaaCpDecode2
import Derived.Test.YtmemppkkchfphaaRefMoveD
namespace Go.Proofs.Ytmemppkkchfphaa
open Go.RowKit
theorem ref_mv (x : Nat) (b : Int) (hx : x < Nm.big) (hl : -300 ≤ b) (hh : b ≤ 300) (m : Int) (hm : m = 8 * b) (w : World) :
    Calls Try.prog 14 #[.agg (numC x), .int .i64 m] w fun e w' => e = .returned (.agg (numC (Nm.mv x b))) ∧ Below w.heap.size w w' := by
  subst hm
  by_cases hb : b < 0
  · obtain ⟨k, rfl⟩ : ∃ k : Nat, b = -(k : Int) := ⟨(-b).toNat, by omega⟩
    have hr : Nm.mv x (-(k : Int)) = Nm.down x (8 * k) := by unfold Nm.mv; rw [if_pos hb, Int.neg_neg, Int.toNat_natCast]
    rw [hr, show (8 * -(k : Int)) = -((8 * k : Nat) : Int) by omega]
    exact ref_move_down x (8 * k) hx (by omega) (by omega) w
  · obtain ⟨k, rfl⟩ : ∃ k : Nat, b = (k : Int) := ⟨b.toNat, by omega⟩
    have hr : Nm.mv x (k : Int) = Nm.up x (8 * k) := by unfold Nm.mv; rw [if_neg hb, Int.toNat_natCast]
    rw [hr, show (8 * (k : Int)) = ((8 * k : Nat) : Int) by omega]
    exact ref_move_up x (8 * k) hx (by omega) w
theorem ref_mv_small (v : Nat) (b : Int) (hv : v < 18446744073709551616) (hl : -300 ≤ b) (hh : b ≤ 300) (m : Int) (hm : m = 8 * b) (w : World) :
    Calls Try.prog 14 #[.agg #[.int .u64 (v : Int), .int .u64 0, .int .u64 0, .int .u64 0], .int .i64 m] w fun e w' => e = .returned (.agg (numC (Nm.mv v b))) ∧ Below w.heap.size w w' := by
  rw [small_cells v hv]; exact ref_mv v b (by unfold Nm.big; omega) hl hh m hm w
set_option maxRecDepth 100000 in
set_option maxHeartbeats 1000000 in
theorem ref_decode_no (b : Int) (h : ¬ (0 ≤ b ∧ b ≤ 4294967295)) (w : World) :
    Calls Try.prog 18 #[.int .i64 b] w fun e w' => e = .returned (.tuple #[.agg (numC 0), .bool false, .bool false]) ∧ Below w.heap.size w w' := by
  obtain ⟨b0, b1⟩ | b0 : (decide (b < 0) = false ∧ decide (4294967295 < b) = true) ∨ decide (b < 0) = true := by
    simp; omega
  all_goals
    clear h
    go_enter Try.func18, Try.ntmps18
    go_upto_region 1 with fail
    generalize hw1 : World.alloc _ _ = w1
    have hN : Has w1 w.heap.size (numC 0) 26 := by rw [← hw1]; exact Has.newz _
    have hb : Below w.heap.size w w1 := by rw [← hw1]; exact (Below.refl _ _).alloc (Nat.le_refl _) _
    clear hw1
    go_wp2_with (with_reducible refine num_store_eq rfl _ _ rfl _ 0 _ rfl rfl zero4 _ hN rfl ?_)
    exact bodyPost_ret (v := .tuple #[.agg (numC 0), .bool false, .bool false]) (num_results3 Try.results18 _ _ _ _ _ rfl rfl rfl (hN.row _)) rfl ⟨rfl, below_setRow hb (Nat.le_refl _) _⟩
set_option maxRecDepth 100000 in
set_option maxHeartbeats 1000000 in
theorem ref_decode_yes (n : Nat) (hn : n < 4294967296) (w : World) :
    Calls Try.prog 18 #[.int .i64 (n : Int)] w fun e w' => e = .returned (.tuple #[.agg (numC (Nm.decN n)), .bool (Nm.decLow n), .bool (Nm.decOver n)]) ∧ Below w.heap.size w w' := by
  obtain ⟨s, hs⟩ : ∃ s, s = n / 16777216 := ⟨_, rfl⟩
  obtain ⟨v, hv⟩ : ∃ v, v = n % 8388608 := ⟨_, rfl⟩
  obtain ⟨qb, hqb⟩ : ∃ qb, qb = decide (n / 8388608 % 2 = 1) := ⟨_, rfl⟩
  have g0 : decide ((n : Int) < 0) = false := decide_eq_false (by omega)
  have g1 : decide ((4294967295 : Int) < (n : Int)) = false := decide_eq_false (by omega)
  have hs2 : s < 256 := by omega
  have hv2 : v < 8388608 := by omega
  have hL : Nm.decLow n = (decide (0 < v) && qb) := by rw [hv, hqb]; rfl
  have hO : Nm.decOver n = ovr s v := by rw [hv, hs]; rfl
  have hM : Nm.decN n = Nm.mv v ((s : Nat) - 3) := by rw [hv, hs]; rfl
  rw [hL, hO, hM]
  have cM := Lib.hid (ref_mv_small v ((s : Nat) - 3) (by omega) (by omega) (by omega) _ rfl)
  generalize Nm.mv v ((s : Nat) - 3) = z at *
  have eD : (n : Int) / 16777216 = (s : Nat) := by omega
  have eV : (n : Int) % 8388608 = (v : Nat) := by omega
  have eQ : ((n : Int) / 8388608 % 2 == 1) = qb := by
    rw [hqb, show (n : Int) / 8388608 % 2 = ((n / 8388608 % 2 : Nat) : Int) by omega]
    generalize n / 8388608 % 2 = k
    rw [Bool.eq_iff_iff]; simp; omega
  clear hL hO hM hs hv hqb
  obtain rfl | h | h | h | h | h | h : v = 0 ∨ (0 < v ∧ 34 < s) ∨ (0 < v ∧ v ≤ 255 ∧ s ≤ 34) ∨ (255 < v ∧ s = 34) ∨ (255 < v ∧ v ≤ 65535 ∧ s ≤ 33) ∨ (65535 < v ∧ s = 33) ∨ (65535 < v ∧ s ≤ 32) := by omega
  · have hr : ovr s 0 = false := by unfold ovr; exact decide_eq_false (by omega)
    have hl : (decide (0 < 0) && qb) = false := by simp
    rw [hr, hl]
    clear hr hl
    go_enter Try.func18, Try.ntmps18
    go_upto_region 1 with fail
    generalize hw1 : World.alloc _ _ = w1
    have hN : Has w1 w.heap.size (numC 0) 26 := by rw [← hw1]; exact Has.newz _
    have hb : Below w.heap.size w w1 := by rw [← hw1]; exact (Below.refl _ _).alloc (Nat.le_refl _) _
    clear hw1
    go_wp2_with fail
    refine (cM.out _).mono ?_
    rintro e w3 ⟨rfl, hb3⟩
    replace hN := hN.on hb3
    replace hb := hb.trans (hb3.mono hb.size)
    clear hb3
    have hZ := Has.newz (w := w3) 26
    go_upto_region 7 with (with_reducible refine num_store rfl _ _ rfl _ _ rfl rfl _ hZ rfl ?_)
    generalize hw4 : World.setRow _ _ _ = w4
    have hb4 : Below w3.heap.size w3 w4 := by rw [← hw4]; exact below_setRow ((Below.refl _ _).alloc (Nat.le_refl _) _) (Nat.le_refl _) _
    have hD : Has w4 w3.heap.size (numC z) 26 := by rw [← hw4]; exact hZ.row _
    replace hN := hN.on hb4
    replace hb := hb.trans (hb4.mono hb.size)
    generalize w3.heap.size = D at *
    clear hw4 hb4 hZ
    go_wp2_with (first | (with_reducible refine num_load rfl _ rfl _ rfl _ hD rfl ?_) | (with_reducible refine num_store rfl _ _ rfl _ _ rfl rfl _ hN rfl ?_))
    exact bodyPost_ret (v := .tuple #[.agg (numC z), .bool false, .bool false]) (num_results3 Try.results18 _ _ _ _ _ rfl rfl rfl (hN.row _)) rfl ⟨rfl, below_setRow hb (Nat.le_refl _) _⟩
  · have hr : ovr s v = true := by unfold ovr; exact decide_eq_true (by omega)
    have hl : (decide (0 < v) && qb) = qb := by rw [decide_eq_true (show 0 < v by omega), Bool.true_and]
    have b0 : 0 < v := by omega
    have b1 : decide ((34 : Int) < (s : Int)) = true := decide_eq_true (by omega)
    rw [hr, hl]
    clear h hr hl
    go_enter Try.func18, Try.ntmps18
    go_upto_region 1 with fail
    generalize hw1 : World.alloc _ _ = w1
    have hN : Has w1 w.heap.size (numC 0) 26 := by rw [← hw1]; exact Has.newz _
    have hb : Below w.heap.size w w1 := by rw [← hw1]; exact (Below.refl _ _).alloc (Nat.le_refl _) _
    clear hw1
    go_wp2_with fail
    refine (cM.out _).mono ?_
    rintro e w3 ⟨rfl, hb3⟩
    replace hN := hN.on hb3
    replace hb := hb.trans (hb3.mono hb.size)
    clear hb3
    have hZ := Has.newz (w := w3) 26
    go_upto_region 7 with (with_reducible refine num_store rfl _ _ rfl _ _ rfl rfl _ hZ rfl ?_)
    generalize hw4 : World.setRow _ _ _ = w4
    have hb4 : Below w3.heap.size w3 w4 := by rw [← hw4]; exact below_setRow ((Below.refl _ _).alloc (Nat.le_refl _) _) (Nat.le_refl _) _
    have hD : Has w4 w3.heap.size (numC z) 26 := by rw [← hw4]; exact hZ.row _
    replace hN := hN.on hb4
    replace hb := hb.trans (hb4.mono hb.size)
    generalize w3.heap.size = D at *
    clear hw4 hb4 hZ
    go_wp2_with (first | (with_reducible refine num_load rfl _ rfl _ rfl _ hD rfl ?_) | (with_reducible refine num_store rfl _ _ rfl _ _ rfl rfl _ hN rfl ?_))
    exact bodyPost_ret (v := .tuple #[.agg (numC z), .bool qb, .bool true]) (num_results3 Try.results18 _ _ _ _ _ rfl rfl rfl (hN.row _)) rfl ⟨rfl, below_setRow hb (Nat.le_refl _) _⟩
  · have hr : ovr s v = false := by unfold ovr; exact decide_eq_false (by omega)
    have hl : (decide (0 < v) && qb) = qb := by rw [decide_eq_true (show 0 < v by omega), Bool.true_and]
    have b0 : 0 < v := by omega
    have b1 : decide ((34 : Int) < (s : Int)) = false := decide_eq_false (by omega)
    have b2 : decide ((255 : Int) < (v : Int)) = false := decide_eq_false (by omega)
    have b3 : decide ((65535 : Int) < (v : Int)) = false := decide_eq_false (by omega)
    rw [hr, hl]
    clear h hr hl
    go_enter Try.func18, Try.ntmps18
    go_upto_region 1 with fail
    generalize hw1 : World.alloc _ _ = w1
    have hN : Has w1 w.heap.size (numC 0) 26 := by rw [← hw1]; exact Has.newz _
    have hb : Below w.heap.size w w1 := by rw [← hw1]; exact (Below.refl _ _).alloc (Nat.le_refl _) _
    clear hw1
    go_wp2_with fail
    refine (cM.out _).mono ?_
    rintro e w3 ⟨rfl, hb3⟩
    replace hN := hN.on hb3
    replace hb := hb.trans (hb3.mono hb.size)
    clear hb3
    have hZ := Has.newz (w := w3) 26
    go_upto_region 7 with (with_reducible refine num_store rfl _ _ rfl _ _ rfl rfl _ hZ rfl ?_)
    generalize hw4 : World.setRow _ _ _ = w4
    have hb4 : Below w3.heap.size w3 w4 := by rw [← hw4]; exact below_setRow ((Below.refl _ _).alloc (Nat.le_refl _) _) (Nat.le_refl _) _
    have hD : Has w4 w3.heap.size (numC z) 26 := by rw [← hw4]; exact hZ.row _
    replace hN := hN.on hb4
    replace hb := hb.trans (hb4.mono hb.size)
    generalize w3.heap.size = D at *
    clear hw4 hb4 hZ
    go_wp2_with (first | (with_reducible refine num_load rfl _ rfl _ rfl _ hD rfl ?_) | (with_reducible refine num_store rfl _ _ rfl _ _ rfl rfl _ hN rfl ?_))
    exact bodyPost_ret (v := .tuple #[.agg (numC z), .bool qb, .bool false]) (num_results3 Try.results18 _ _ _ _ _ rfl rfl rfl (hN.row _)) rfl ⟨rfl, below_setRow hb (Nat.le_refl _) _⟩
  · have hr : ovr s v = true := by unfold ovr; exact decide_eq_true (by omega)
    have hl : (decide (0 < v) && qb) = qb := by rw [decide_eq_true (show 0 < v by omega), Bool.true_and]
    have b0 : 0 < v := by omega
    have b1 : decide ((34 : Int) < (s : Int)) = false := decide_eq_false (by omega)
    have b2 : decide ((255 : Int) < (v : Int)) = true := decide_eq_true (by omega)
    have b3 : decide ((33 : Int) < (s : Int)) = true := decide_eq_true (by omega)
    rw [hr, hl]
    clear h hr hl
    go_enter Try.func18, Try.ntmps18
    go_upto_region 1 with fail
    generalize hw1 : World.alloc _ _ = w1
    have hN : Has w1 w.heap.size (numC 0) 26 := by rw [← hw1]; exact Has.newz _
    have hb : Below w.heap.size w w1 := by rw [← hw1]; exact (Below.refl _ _).alloc (Nat.le_refl _) _
    clear hw1
    go_wp2_with fail
    refine (cM.out _).mono ?_
    rintro e w3 ⟨rfl, hb3⟩
    replace hN := hN.on hb3
    replace hb := hb.trans (hb3.mono hb.size)
    clear hb3
    have hZ := Has.newz (w := w3) 26
    go_upto_region 7 with (with_reducible refine num_store rfl _ _ rfl _ _ rfl rfl _ hZ rfl ?_)
    generalize hw4 : World.setRow _ _ _ = w4
    have hb4 : Below w3.heap.size w3 w4 := by rw [← hw4]; exact below_setRow ((Below.refl _ _).alloc (Nat.le_refl _) _) (Nat.le_refl _) _
    have hD : Has w4 w3.heap.size (numC z) 26 := by rw [← hw4]; exact hZ.row _
    replace hN := hN.on hb4
    replace hb := hb.trans (hb4.mono hb.size)
    generalize w3.heap.size = D at *
    clear hw4 hb4 hZ
    go_wp2_with (first | (with_reducible refine num_load rfl _ rfl _ rfl _ hD rfl ?_) | (with_reducible refine num_store rfl _ _ rfl _ _ rfl rfl _ hN rfl ?_))
    exact bodyPost_ret (v := .tuple #[.agg (numC z), .bool qb, .bool true]) (num_results3 Try.results18 _ _ _ _ _ rfl rfl rfl (hN.row _)) rfl ⟨rfl, below_setRow hb (Nat.le_refl _) _⟩
  · have hr : ovr s v = false := by unfold ovr; exact decide_eq_false (by omega)
    have hl : (decide (0 < v) && qb) = qb := by rw [decide_eq_true (show 0 < v by omega), Bool.true_and]
    have b0 : 0 < v := by omega
    have b1 : decide ((34 : Int) < (s : Int)) = false := decide_eq_false (by omega)
    have b2 : decide ((255 : Int) < (v : Int)) = true := decide_eq_true (by omega)
    have b3 : decide ((33 : Int) < (s : Int)) = false := decide_eq_false (by omega)
    have b4 : decide ((65535 : Int) < (v : Int)) = false := decide_eq_false (by omega)
    rw [hr, hl]
    clear h hr hl
    go_enter Try.func18, Try.ntmps18
    go_upto_region 1 with fail
    generalize hw1 : World.alloc _ _ = w1
    have hN : Has w1 w.heap.size (numC 0) 26 := by rw [← hw1]; exact Has.newz _
    have hb : Below w.heap.size w w1 := by rw [← hw1]; exact (Below.refl _ _).alloc (Nat.le_refl _) _
    clear hw1
    go_wp2_with fail
    refine (cM.out _).mono ?_
    rintro e w3 ⟨rfl, hb3⟩
    replace hN := hN.on hb3
    replace hb := hb.trans (hb3.mono hb.size)
    clear hb3
    have hZ := Has.newz (w := w3) 26
    go_upto_region 7 with (with_reducible refine num_store rfl _ _ rfl _ _ rfl rfl _ hZ rfl ?_)
    generalize hw4 : World.setRow _ _ _ = w4
    have hb4 : Below w3.heap.size w3 w4 := by rw [← hw4]; exact below_setRow ((Below.refl _ _).alloc (Nat.le_refl _) _) (Nat.le_refl _) _
    have hD : Has w4 w3.heap.size (numC z) 26 := by rw [← hw4]; exact hZ.row _
    replace hN := hN.on hb4
    replace hb := hb.trans (hb4.mono hb.size)
    generalize w3.heap.size = D at *
    clear hw4 hb4 hZ
    go_wp2_with (first | (with_reducible refine num_load rfl _ rfl _ rfl _ hD rfl ?_) | (with_reducible refine num_store rfl _ _ rfl _ _ rfl rfl _ hN rfl ?_))
    exact bodyPost_ret (v := .tuple #[.agg (numC z), .bool qb, .bool false]) (num_results3 Try.results18 _ _ _ _ _ rfl rfl rfl (hN.row _)) rfl ⟨rfl, below_setRow hb (Nat.le_refl _) _⟩
  · have hr : ovr s v = true := by unfold ovr; exact decide_eq_true (by omega)
    have hl : (decide (0 < v) && qb) = qb := by rw [decide_eq_true (show 0 < v by omega), Bool.true_and]
    have b0 : 0 < v := by omega
    have b1 : decide ((34 : Int) < (s : Int)) = false := decide_eq_false (by omega)
    have b2 : decide ((255 : Int) < (v : Int)) = true := decide_eq_true (by omega)
    have b3 : decide ((33 : Int) < (s : Int)) = false := decide_eq_false (by omega)
    have b4 : decide ((65535 : Int) < (v : Int)) = true := decide_eq_true (by omega)
    have b5 : decide ((32 : Int) < (s : Int)) = true := decide_eq_true (by omega)
    rw [hr, hl]
    clear h hr hl
    go_enter Try.func18, Try.ntmps18
    go_upto_region 1 with fail
    generalize hw1 : World.alloc _ _ = w1
    have hN : Has w1 w.heap.size (numC 0) 26 := by rw [← hw1]; exact Has.newz _
    have hb : Below w.heap.size w w1 := by rw [← hw1]; exact (Below.refl _ _).alloc (Nat.le_refl _) _
    clear hw1
    go_wp2_with fail
    refine (cM.out _).mono ?_
    rintro e w3 ⟨rfl, hb3⟩
    replace hN := hN.on hb3
    replace hb := hb.trans (hb3.mono hb.size)
    clear hb3
    have hZ := Has.newz (w := w3) 26
    go_upto_region 7 with (with_reducible refine num_store rfl _ _ rfl _ _ rfl rfl _ hZ rfl ?_)
    generalize hw4 : World.setRow _ _ _ = w4
    have hb4 : Below w3.heap.size w3 w4 := by rw [← hw4]; exact below_setRow ((Below.refl _ _).alloc (Nat.le_refl _) _) (Nat.le_refl _) _
    have hD : Has w4 w3.heap.size (numC z) 26 := by rw [← hw4]; exact hZ.row _
    replace hN := hN.on hb4
    replace hb := hb.trans (hb4.mono hb.size)
    generalize w3.heap.size = D at *
    clear hw4 hb4 hZ
    go_wp2_with (first | (with_reducible refine num_load rfl _ rfl _ rfl _ hD rfl ?_) | (with_reducible refine num_store rfl _ _ rfl _ _ rfl rfl _ hN rfl ?_))
    exact bodyPost_ret (v := .tuple #[.agg (numC z), .bool qb, .bool true]) (num_results3 Try.results18 _ _ _ _ _ rfl rfl rfl (hN.row _)) rfl ⟨rfl, below_setRow hb (Nat.le_refl _) _⟩
  · have hr : ovr s v = false := by unfold ovr; exact decide_eq_false (by omega)
    have hl : (decide (0 < v) && qb) = qb := by rw [decide_eq_true (show 0 < v by omega), Bool.true_and]
    have b0 : 0 < v := by omega
    have b1 : decide ((34 : Int) < (s : Int)) = false := decide_eq_false (by omega)
    have b2 : decide ((255 : Int) < (v : Int)) = true := decide_eq_true (by omega)
    have b3 : decide ((33 : Int) < (s : Int)) = false := decide_eq_false (by omega)
    have b4 : decide ((65535 : Int) < (v : Int)) = true := decide_eq_true (by omega)
    have b5 : decide ((32 : Int) < (s : Int)) = false := decide_eq_false (by omega)
    rw [hr, hl]
    clear h hr hl
    go_enter Try.func18, Try.ntmps18
    go_upto_region 1 with fail
    generalize hw1 : World.alloc _ _ = w1
    have hN : Has w1 w.heap.size (numC 0) 26 := by rw [← hw1]; exact Has.newz _
    have hb : Below w.heap.size w w1 := by rw [← hw1]; exact (Below.refl _ _).alloc (Nat.le_refl _) _
    clear hw1
    go_wp2_with fail
    refine (cM.out _).mono ?_
    rintro e w3 ⟨rfl, hb3⟩
    replace hN := hN.on hb3
    replace hb := hb.trans (hb3.mono hb.size)
    clear hb3
    have hZ := Has.newz (w := w3) 26
    go_upto_region 7 with (with_reducible refine num_store rfl _ _ rfl _ _ rfl rfl _ hZ rfl ?_)
    generalize hw4 : World.setRow _ _ _ = w4
    have hb4 : Below w3.heap.size w3 w4 := by rw [← hw4]; exact below_setRow ((Below.refl _ _).alloc (Nat.le_refl _) _) (Nat.le_refl _) _
    have hD : Has w4 w3.heap.size (numC z) 26 := by rw [← hw4]; exact hZ.row _
    replace hN := hN.on hb4
    replace hb := hb.trans (hb4.mono hb.size)
    generalize w3.heap.size = D at *
    clear hw4 hb4 hZ
    go_wp2_with (first | (with_reducible refine num_load rfl _ rfl _ rfl _ hD rfl ?_) | (with_reducible refine num_store rfl _ _ rfl _ _ rfl rfl _ hN rfl ?_))
    exact bodyPost_ret (v := .tuple #[.agg (numC z), .bool qb, .bool false]) (num_results3 Try.results18 _ _ _ _ _ rfl rfl rfl (hN.row _)) rfl ⟨rfl, below_setRow hb (Nat.le_refl _) _⟩
end Go.Proofs.Ytmemppkkchfphaa
