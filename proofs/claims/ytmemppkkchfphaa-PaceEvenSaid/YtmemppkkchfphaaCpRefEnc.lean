/-
  The reference's Encode (layer 3), at every number.
-/
import Derived.Test.YtmemppkkchfphaaCpRefDec
import Derived.Test.YtmemppkkchfphaaCpEncode
namespace Go.Proofs.Ytmemppkkchfphaa
open Go.RowKit
/-- one number that is read -/
structure One1 (w wr : World) (A x : Nat) : Prop where
  below : Below w.heap.size w wr
  a : Has wr A (numC x) 26
theorem One1.on {w wr w' : World} {A x : Nat} (h : One1 w wr A x) (hb : Below wr.heap.size wr w') : One1 w w' A x := ⟨h.below.trans (hb.mono h.below.size), h.a.on hb⟩
theorem ref_down8 (x i : Nat) (hx : x < Nm.big) (hi : i ≤ 32) (m : Int) (hm : m = -8 * (i : Int)) (w : World) :
    Calls Try.prog 14 #[.agg (numC x), .int .i64 m] w fun e w' => e = .returned (.agg (numC (Nm.down x (8 * i)))) ∧ Below w.heap.size w w' := by
  have h := ref_mv x (-(i : Int)) hx (by omega) (by omega) m (by omega) w
  have e : Nm.mv x (-(i : Int)) = Nm.down x (8 * i) := by
    unfold Nm.mv
    by_cases h0 : i = 0
    · subst h0
      rw [if_neg (by omega), show (-((0 : Nat) : Int)).toNat = 0 from rfl, Nat.mul_zero, Nm.up_zero hx, Nm.down_zero]
    · rw [if_pos (by omega), Int.neg_neg, Int.toNat_natCast]
  rwa [e] at h
set_option maxRecDepth 100000 in
set_option maxHeartbeats 2000000 in
theorem ref_encode (x : Nat) (hx : x < Nm.big) (w : World) :
    Calls Try.prog 13 #[.agg (numC x)] w fun e w' => e = .returned (.int .i64 (Nm.enc x : Nat)) ∧ Below w.heap.size w w' := by
  obtain ⟨b, hb⟩ : ∃ b, b = Nm.bl x := ⟨_, rfl⟩
  obtain ⟨t, ht⟩ : ∃ t, t = Nm.top3 x := ⟨_, rfl⟩
  have hb2 : b ≤ 32 := by rw [hb]; exact Nm.bl_le hx
  have ht2 : t < 16777216 := by rw [ht]; exact Nm.top3_small
  have hE : Nm.enc x = if t < 8388608 then b * 16777216 + t else (b + 1) * 16777216 + t / 256 := by rw [ht, hb]; rfl
  obtain ⟨r, hr⟩ : ∃ r, r = Nm.enc x := ⟨_, rfl⟩
  rw [← hr]
  rw [hE] at hr
  have HR := Lib.hid hr
  obtain ⟨z, hz⟩ : ∃ z, z = Nm.mv x (3 - (b : Nat)) := ⟨_, rfl⟩
  have hwd : Nm.wd z 0 = t := by rw [ht, Nm.wd0, hz, hb]; rfl
  have hix := idx_num0 z
  rw [hwd] at hix
  have cM : ∀ (m : Int), m = 8 * (3 - (b : Nat)) → ∀ w, Calls Try.prog 14 #[.agg (numC x), .int .i64 m] w fun e w' => e = .returned (.agg (numC z)) ∧ Below w.heap.size w w' := fun m hm w => by
    rw [hz]; exact ref_mv x (3 - (b : Nat)) hx (by omega) (by omega) m hm w
  have CM := Lib.hid cM
  have HB := Lib.hid hb
  clear hb ht hz hwd hE cM hr
  go_enter Try.func13, Try.ntmps13
  go_upto_region 1 with fail
  generalize hw1 : World.alloc _ _ = w1
  have hO : One1 w w1 w.heap.size x := by rw [← hw1]; exact ⟨(Below.refl _ _).alloc (Nat.le_refl _) _, Has.new _ _⟩
  clear hw1
  generalize hA : w.heap.size = A at *
  have HA := Lib.hid hA
  clear hA
  go_wp2_with fail
  go_loopw [3, 4] (fun s i wr => ∃ k : Nat, k ≤ 32 ∧ i = .int .i64 k ∧ s = .int .i64 (Nm.bl (x % 2 ^ (8 * k)) : Nat) ∧ One1 w wr A x) (fun _ i _ => 32 - (intOf i).toNat)
  case atStart => exact ⟨0, by omega, rfl, by rw [Nm.bl_none]; rfl, hO⟩
  case round =>
    obtain ⟨k, hk, rfl, rfl, hs⟩ := hrel
    clear hO
    by_cases hlt : k < 32
    · have HN := Lib.hid (Nm.bl_step x k)
      obtain ⟨y, hy⟩ : ∃ y, y = Nm.down x (8 * k) := ⟨_, rfl⟩
      have cD := ref_down8 x k hx hk
      rw [← hy] at cD
      have CD := Lib.hid cD
      obtain ⟨q, hq⟩ : ∃ q, q = x / 2 ^ (8 * k) % 256 := ⟨_, rfl⟩
      obtain ⟨g, hg⟩ : ∃ g, g = Nm.wd y 0 := ⟨_, rfl⟩
      have eQ : (g : Int) % 256 = (q : Nat) := by
        rw [hg, hq, hy, Nm.wd0, Nm.down_eq]
        generalize x / 2 ^ (8 * k) = m
        omega
      rw [← hq] at HN
      have HG := Lib.hid hg
      clear cD hy hq hg
      generalize Nm.bl (x % 2 ^ (8 * k)) = s at *
      go_wp2_with (with_reducible refine num_load rfl _ rfl _ rfl _ hs.a rfl ?_)
      refine (CD.out _ (by omega) _).mono ?_
      rintro e w3 ⟨rfl, hb3⟩
      replace hs := hs.on hb3
      clear hb3
      have hZ := Has.newz (w := w3) 26
      go_upto_region 6 with (with_reducible refine num_store rfl _ _ rfl _ _ rfl rfl _ hZ rfl ?_)
      generalize hw4 : World.setRow _ _ _ = w4
      have hb4 : Below w3.heap.size w3 w4 := by rw [← hw4]; exact below_setRow ((Below.refl _ _).alloc (Nat.le_refl _) _) (Nat.le_refl _) _
      have hY : Has w4 w3.heap.size (numC y) 26 := by rw [← hw4]; exact hZ.row _
      replace hs := hs.on hb4
      generalize w3.heap.size = D at *
      have c1 := hY.num (j := 0) (by omega)
      rw [← HG.out] at c1
      clear hw4 hb4 hZ
      by_cases hp : 0 < q
      · have hn := HN.out
        rw [if_pos hp] at hn
        have H2 := Lib.hid hn
        clear hn HN
        go_wp2_with fail
        go_roundw
        case rel => exact ⟨k + 1, by omega, by go_num, by rw [H2.out]; go_num, hs⟩
        case measure => simp [intOf]; omega
      · obtain rfl : q = 0 := by omega
        have hn := HN.out
        rw [if_neg hp] at hn
        have H2 := Lib.hid hn
        clear hn HN hp
        go_wp2_with fail
        go_roundw
        case rel => exact ⟨k + 1, by omega, by go_num, by rw [H2.out], hs⟩
        case measure => simp [intOf]; omega
    · obtain rfl : k = 32 := by omega
      rw [Nm.bl_all hx, ← HB.out]
      clear HB hlt
      have e2 : (t : Int) % 16777216 = (t : Nat) := by omega
      obtain ⟨h3, h⟩ | ⟨h3, h⟩ | ⟨h3, h⟩ | ⟨h3, h⟩ : (b ≤ 3 ∧ t < 8388608) ∨ (b ≤ 3 ∧ 8388608 ≤ t) ∨ (3 < b ∧ t < 8388608) ∨ (3 < b ∧ 8388608 ≤ t) := by omega
      · have a3 : decide ((3 : Int) < (b : Int)) = false := decide_eq_false (by omega)
        have a8 : decide ((8388608 : Int) ≤ (t : Int)) = false := decide_eq_false (by omega)
        have hr := HR.out
        rw [if_pos (by omega)] at hr
        replace HR := Lib.hid hr
        clear hr
        clear h h3
        go_wp2_with (with_reducible refine num_load rfl _ rfl _ rfl _ hs.a rfl ?_)
        refine (CM.out _ (by omega) _).mono ?_
        rintro e w3 ⟨rfl, hb3⟩
        replace hs := hs.on hb3
        clear hb3
        go_wp2_with fail
        go_ret
        exact ⟨congrArg (fun n => Ending.returned (.int .i64 n)) (by have := HR.out; omega), hs.below⟩
      · have a3 : decide ((3 : Int) < (b : Int)) = false := decide_eq_false (by omega)
        have a8 : decide ((8388608 : Int) ≤ (t : Int)) = true := decide_eq_true (by omega)
        have hr := HR.out
        rw [if_neg (by omega)] at hr
        replace HR := Lib.hid hr
        clear hr
        obtain ⟨u, hu⟩ : ∃ u, u = t / 256 := ⟨_, rfl⟩
        have HU := Lib.hid hu
        have eU : (t : Int) / 256 = (u : Nat) := by omega
        have hu2 : u < 16777216 := by omega
        clear hu
        clear h h3
        go_wp2_with (with_reducible refine num_load rfl _ rfl _ rfl _ hs.a rfl ?_)
        refine (CM.out _ (by omega) _).mono ?_
        rintro e w3 ⟨rfl, hb3⟩
        replace hs := hs.on hb3
        clear hb3
        go_wp2_with fail
        go_ret
        exact ⟨congrArg (fun n => Ending.returned (.int .i64 n)) (by have := HR.out; have := HU.out; omega), hs.below⟩
      · have a3 : decide ((3 : Int) < (b : Int)) = true := decide_eq_true (by omega)
        have a8 : decide ((8388608 : Int) ≤ (t : Int)) = false := decide_eq_false (by omega)
        have hr := HR.out
        rw [if_pos (by omega)] at hr
        replace HR := Lib.hid hr
        clear hr
        clear h h3
        go_wp2_with (with_reducible refine num_load rfl _ rfl _ rfl _ hs.a rfl ?_)
        refine (CM.out _ (by omega) _).mono ?_
        rintro e w3 ⟨rfl, hb3⟩
        replace hs := hs.on hb3
        clear hb3
        go_wp2_with (with_reducible refine num_load rfl _ rfl _ rfl _ hs.a rfl ?_)
        refine (CM.out _ (by omega) _).mono ?_
        rintro e w4 ⟨rfl, hb4⟩
        replace hs := hs.on hb4
        clear hb4
        go_wp2_with fail
        go_ret
        exact ⟨congrArg (fun n => Ending.returned (.int .i64 n)) (by have := HR.out; omega), hs.below⟩
      · have a3 : decide ((3 : Int) < (b : Int)) = true := decide_eq_true (by omega)
        have a8 : decide ((8388608 : Int) ≤ (t : Int)) = true := decide_eq_true (by omega)
        have hr := HR.out
        rw [if_neg (by omega)] at hr
        replace HR := Lib.hid hr
        clear hr
        obtain ⟨u, hu⟩ : ∃ u, u = t / 256 := ⟨_, rfl⟩
        have HU := Lib.hid hu
        have eU : (t : Int) / 256 = (u : Nat) := by omega
        have hu2 : u < 16777216 := by omega
        clear hu
        clear h h3
        go_wp2_with (with_reducible refine num_load rfl _ rfl _ rfl _ hs.a rfl ?_)
        refine (CM.out _ (by omega) _).mono ?_
        rintro e w3 ⟨rfl, hb3⟩
        replace hs := hs.on hb3
        clear hb3
        go_wp2_with (with_reducible refine num_load rfl _ rfl _ rfl _ hs.a rfl ?_)
        refine (CM.out _ (by omega) _).mono ?_
        rintro e w4 ⟨rfl, hb4⟩
        replace hs := hs.on hb4
        clear hb4
        go_wp2_with fail
        go_ret
        exact ⟨congrArg (fun n => Ending.returned (.int .i64 n)) (by have := HR.out; have := HU.out; omega), hs.below⟩
end Go.Proofs.Ytmemppkkchfphaa
