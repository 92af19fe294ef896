/-
  compact: Encode, at every number.
-/
import Derived.Test.YtmemppkkchfphaaCpDecode2
import Derived.Test.YtmemppkkchfphaaWLen
namespace Go.Proofs.Ytmemppkkchfphaa
open Go.RowKit
theorem idx_num0 (z : Nat) (w : World) : (Instr.index 26 (.agg (numC z)) (.int .i64 0)).run Try.prog w = .ok (.int .u64 (Nm.wd z 0 : Nat)) w := by
  kernel_rfl
theorem or_parts (b t : Nat) (hb : b ≤ 33) (ht : t < 16777216) : bits .or .i64 ((b : Int) * 16777216) (t : Int) = ((b * 16777216 + t : Nat) : Int) := by
  have h1 := orI (b * 16777216) t (by omega) (by omega)
  rw [show (b * 16777216 ||| t) = b * 16777216 + t from (by
    rw [Nat.mul_comm]; exact (Nat.two_pow_add_eq_or_of_lt (i := 24) ht b).symm)] at h1
  rw [← h1]; congr 1
set_option maxRecDepth 100000 in
set_option maxHeartbeats 1000000 in
theorem encode (x : Nat) (hx : x < Nm.big) (w : World) :
    Calls Try.prog 24 #[.agg (numC x)] w fun e w' => e = .returned (.int .i64 (Nm.enc x : Nat)) ∧ Below w.heap.size w w' := by
  obtain ⟨l, hl⟩ : ∃ l, l = Nm.len x := ⟨_, rfl⟩
  obtain ⟨b, hb⟩ : ∃ b, b = Nm.bl x := ⟨_, rfl⟩
  obtain ⟨t, ht⟩ : ∃ t, t = Nm.top3 x := ⟨_, rfl⟩
  have hl2 : l ≤ 256 := by rw [hl]; exact Nm.len_big hx
  have hb2 : b ≤ 32 := by rw [hb]; exact Nm.bl_le hx
  have hbl : b = (l + 7) / 8 := by rw [hb, hl]; rfl
  have ht2 : t < 16777216 := by rw [ht]; exact Nm.top3_small
  have cL := len x hx
  rw [← hl] at cL
  have cM := moved x (3 - (b : Nat)) hx (by omega) (by omega)
  obtain ⟨z, hz⟩ : ∃ z, z = Nm.mv x (3 - (b : Nat)) := ⟨_, rfl⟩
  have hwd : Nm.wd z 0 = t := by rw [ht, Nm.wd0, hz, hb]; rfl
  have hix := idx_num0 z
  rw [hwd] at hix
  rw [← hz] at cM
  have CL := Lib.hid cL
  have CM := Lib.hid cM
  have hE : Nm.enc x = if t < 8388608 then b * 16777216 + t else (b + 1) * 16777216 + t / 256 := by rw [ht, hb]; rfl
  rw [hE]
  have eB : ((l : Int) + 8 - 1) / 8 = (b : Nat) := by omega
  have eS := and_sign t (by omega)
  clear hl hb ht hz hwd hE cL cM hbl
  by_cases h : t < 8388608
  · rw [if_pos h]
    rw [show t / 8388608 % 2 * 8388608 = 0 by omega] at eS
    have eO := or_parts b t (by omega) ht2
    generalize b * 16777216 + t = r at *
    clear h
    go_enter Try.func24, Try.ntmps24
    go_upto_region 1 with fail
    generalize hw1 : World.alloc _ _ = w1
    have hA : Has w1 w.heap.size (numC x) 26 := by rw [← hw1]; exact Has.new _ _
    have hB : Below w.heap.size w w1 := by rw [← hw1]; exact (Below.refl _ _).alloc (Nat.le_refl _) _
    clear hw1
    go_wp2_with (with_reducible refine num_load rfl _ rfl _ rfl _ hA rfl ?_)
    refine (CL.out _).mono ?_
    rintro e w2 ⟨rfl, hb2⟩
    replace hA := hA.on hb2
    replace hB := hB.trans (hb2.mono hB.size)
    clear hb2
    go_wp2_with (with_reducible refine num_load rfl _ rfl _ rfl _ hA rfl ?_)
    refine (CM.out _).mono ?_
    rintro e w3 ⟨rfl, hb3⟩
    replace hA := hA.on hb3
    replace hB := hB.trans (hb3.mono hB.size)
    clear hb3
    go_wp2_with fail
    go_ret
    exact ⟨rfl, hB⟩
  · rw [if_neg h]
    rw [show t / 8388608 % 2 * 8388608 = 8388608 by omega] at eS
    obtain ⟨u, hu⟩ : ∃ u, u = t / 256 := ⟨_, rfl⟩
    obtain ⟨c, hc⟩ : ∃ c, c = b + 1 := ⟨_, rfl⟩
    rw [← hu, ← hc]
    have eU : (t : Int) / 256 = (u : Nat) := by omega
    have eC : (b : Int) + 1 = (c : Nat) := by omega
    have hc2 : c ≤ 33 := by omega
    have hu2 : u < 16777216 := by omega
    have eO := or_parts c u hc2 hu2
    generalize c * 16777216 + u = r at *
    clear h hu hc
    go_enter Try.func24, Try.ntmps24
    go_upto_region 1 with fail
    generalize hw1 : World.alloc _ _ = w1
    have hA : Has w1 w.heap.size (numC x) 26 := by rw [← hw1]; exact Has.new _ _
    have hB : Below w.heap.size w w1 := by rw [← hw1]; exact (Below.refl _ _).alloc (Nat.le_refl _) _
    clear hw1
    go_wp2_with (with_reducible refine num_load rfl _ rfl _ rfl _ hA rfl ?_)
    refine (CL.out _).mono ?_
    rintro e w2 ⟨rfl, hb2⟩
    replace hA := hA.on hb2
    replace hB := hB.trans (hb2.mono hB.size)
    clear hb2
    go_wp2_with (with_reducible refine num_load rfl _ rfl _ rfl _ hA rfl ?_)
    refine (CM.out _).mono ?_
    rintro e w3 ⟨rfl, hb3⟩
    replace hA := hA.on hb3
    replace hB := hB.trans (hb3.mono hB.size)
    clear hb3
    go_wp2_with fail
    go_ret
    exact ⟨rfl, hB⟩
end Go.Proofs.Ytmemppkkchfphaa
