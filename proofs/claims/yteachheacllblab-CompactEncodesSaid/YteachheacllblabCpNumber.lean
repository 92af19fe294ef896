/-
  compact: Meets; the reference's Number.
-/
import Derived.Test.YteachheacllblabCpAlive
import Derived.Test.YteachheacllblabWHash
import Derived.Test.YteachheacllblabWCompare
import Derived.Test.YteachheacllblabRefLess
namespace Go.Proofs.Yteachheacllblab
open Go.RowKit
theorem Nm.number_next (U j : Nat) : U / 2 ^ (8 * j) = U / 2 ^ (8 * (j + 1)) * 256 + U / 2 ^ (8 * j) % 256 := by
  rw [show 8 * (j + 1) = 8 * j + 8 by omega, Nat.pow_add, ← Nat.div_div_eq_div_mul]
  generalize U / 2 ^ (8 * j) = m
  omega
theorem Nm.up8 {U j : Nat} (hU : U < Nm.big) : Nm.up (U / 2 ^ (8 * (j + 1))) 8 = U / 2 ^ (8 * (j + 1)) * 256 := by
  rw [Nm.up_eq, Nat.mod_eq_of_lt]
  rw [show 8 * (j + 1) = 8 + 8 * j by omega, Nat.pow_add, ← Nat.div_div_eq_div_mul]
  have : U / 2 ^ 8 / 2 ^ (8 * j) ≤ U / 2 ^ 8 := Nat.div_le_self _ _
  generalize U / 2 ^ 8 / 2 ^ (8 * j) = m at *
  unfold Nm.big at *; omega
theorem numC_add0 (y b : Nat) (hb : b < 256) : (numC (y * 256)).setIfInBounds 0 (.int .u64 ((Nm.wd (y * 256) 0 + b : Nat) : Int)) = numC (y * 256 + b) := by
  unfold numC
  rw [cells4_set _ 0 _ (by omega)]
  apply cells4_congr
  intro j hj
  unfold upd
  rcases Nm.four hj with rfl | rfl | rfl | rfl
  · rw [if_pos rfl, Nm.wd0, Nm.wd0]; omega
  · rw [if_neg (by omega), Nm.wd1, Nm.wd1]; omega
  · rw [if_neg (by omega), Nm.wd2, Nm.wd2]; omega
  · rw [if_neg (by omega), Nm.wd3, Nm.wd3]; omega
structure Nb (w wr : World) (H R O : Nat) (f : Nat → Nat) (y : Nat) : Prop where
  below : Below w.heap.size w wr
  h : Has wr H (hashC f) 37
  r : Has wr R (numC 0) 24
  o : Has wr O (numC y) 24
theorem Nb.on {w wr w' : World} {H R O : Nat} {f : Nat → Nat} {y : Nat} (h : Nb w wr H R O f y) (hb : Below wr.heap.size wr w') : Nb w w' H R O f y :=
  ⟨h.below.trans (hb.mono h.below.size), h.h.on hb, h.r.on hb, h.o.on hb⟩
theorem Nb.row {w wr : World} {H R O : Nat} {f : Nat → Nat} {y : Nat} (h : Nb w wr H R O f y) (z : Nat) (hH : H ≠ O) (hR : R ≠ O) (hO : w.heap.size ≤ O) : Nb w (wr.setRow O (numC z)) H R O f z :=
  ⟨below_setRow h.below hO _, h.h.otherRow _ _ hH, h.r.otherRow _ _ hR, h.o.row _⟩
theorem Nb.add {w wr : World} {H R O : Nat} {f : Nat → Nat} {y b z : Nat} (h : Nb w wr H R O f (y * 256)) (hb : b < 256) (hz : z = y * 256 + b) (hH : H ≠ O) (hR : R ≠ O) (hO : w.heap.size ≤ O) : Nb w (wr.setCell ⟨O, 0, none⟩ (.int .u64 ((Nm.wd (y * 256) 0 + b : Nat) : Int))) H R O f z := by
  have e := h.o.set (i := 0) (.int .u64 ((Nm.wd (y * 256) 0 + b : Nat) : Int))
  rw [numC_add0 y b hb, ← hz] at e
  exact ⟨h.below.setCell hO _, h.h.other _ _ hH, h.r.other _ _ hR, e⟩
theorem Nb.drew {w wr : World} {H R O : Nat} {f : Nat → Nat} {y : Nat} (h : Nb w wr H R O f y) : Nb w wr.drew H R O f y := ⟨h.below.drew, h.h, h.r, h.o⟩
set_option maxRecDepth 100000 in
set_option maxHeartbeats 2000000 in
theorem ref_number (f : Nat → Nat) (hf : ∀ i, f i < 256) (w : World) :
    Calls Try.prog 18 #[.agg (hashC f)] w fun e w' => e = .returned (.agg (numC (Nm.unbytes f 32))) ∧ Below w.heap.size w w' := by
  obtain ⟨U, hU⟩ : ∃ U, U = Nm.unbytes f 32 := ⟨_, rfl⟩
  have hUb : U < Nm.big := by rw [hU]; exact Nm.unbytes_lt f hf 32
  have hby : ∀ k, k < 32 → U / 2 ^ (8 * k) % 256 = f k := fun k hk => by
    have := Nm.byteAt_unbytes f hf hk
    rw [← hU] at this
    exact this
  have HBY := Lib.hid hby
  have HF := Lib.hid hf
  have HUB := Lib.hid hUb
  rw [← hU]
  clear hU hby hf hUb
  go_enter Try.func18, Try.ntmps18
  go_upto_region 1 with fail
  generalize hw0 : World.alloc _ _ = w0
  have a1 : Has w0 w.heap.size (hashC f) 37 := by rw [← hw0]; exact (Has.new _ _).alloc _
  have a2 : Has w0 (w.heap.size + 1) (numC 0) 24 := by rw [← hw0]; exact Has.new1 _ _ _
  have a0 : Below w.heap.size w w0 := by rw [← hw0]; exact ((Below.refl _ _).alloc (Nat.le_refl _) _).alloc (by simp) _
  have asz : w0.heap.size = w.heap.size + 1 + 1 := by rw [← hw0]; simp
  clear hw0
  go_upto_region 2 with fail
  generalize hw1 : World.alloc _ _ = w1
  have h0 : Nb w w1 w.heap.size (w.heap.size + 1) (w.heap.size + 1 + 1) f 0 := by
    rw [← hw1]
    exact ⟨a0.alloc a0.size _, a1.alloc _, a2.alloc _, by have := Has.newz (w := w0) 24; rwa [asz] at this⟩
  clear hw1 a1 a2 a0
  generalize hO' : w.heap.size + 1 + 1 = O at *
  have hHO : w.heap.size ≠ O := by omega
  have hRO : w.heap.size + 1 ≠ O := by omega
  have hO : w.heap.size ≤ O := by omega
  have hR : w.heap.size ≤ w.heap.size + 1 := by omega
  have K1 := Lib.hid hHO
  have K2 := Lib.hid hRO
  have K3 := Lib.hid hO
  have K4 := Lib.hid hR
  clear hHO hRO hO hR asz hO'
  generalize hR' : w.heap.size + 1 = R at *
  generalize hH' : w.heap.size = H at *
  have K5 := Lib.hid hH'
  clear hR' hH'
  go_wp2_with fail
  go_loopw [4] (fun i wr => ∃ k : Nat, k ≤ 32 ∧ i = .int .i64 ((k : Int) - 1) ∧ Nb w wr H R O f (U / 2 ^ (8 * k))) (fun i _ => (intOf i + 1).toNat)
  case atStart => exact ⟨32, by omega, rfl, by rw [Nat.div_eq_of_lt (by rw [show 2 ^ (8 * 32) = Nm.big by decide]; exact HUB.out)]; exact h0⟩
  case round =>
    obtain ⟨k, hk, rfl, hs⟩ := hrel
    clear h0
    by_cases h0 : 0 < k
    · obtain ⟨j, rfl⟩ : ∃ j, k = j + 1 := ⟨k - 1, by omega⟩
      rw [show ((j + 1 : Nat) : Int) - 1 = (j : Nat) by omega]
      have hj : j < 32 := by omega
      have hjI : (j : Int) < 32 := by omega
      obtain ⟨y, hy⟩ : ∃ y, y = U / 2 ^ (8 * (j + 1)) := ⟨_, rfl⟩
      have e1 : Nm.up y 8 = y * 256 := by rw [hy]; exact Nm.up8 HUB.out
      have hyb : y < Nm.big := by rw [hy]; exact Nat.lt_of_le_of_lt (Nat.div_le_self _ _) HUB.out
      have e2 : U / 2 ^ (8 * j) = y * 256 + f j := by rw [Nm.number_next, HBY.out j hj, hy]
      have cM := ref_move_up y 8 hyb (by omega)
      rw [e1] at cM
      have CM := Lib.hid cM
      rw [← hy] at hs
      have E2 := Lib.hid e2
      have hfj := HF.out j
      have hcl : ∀ w', Has w' H (hashC f) 37 → w'.cell? ⟨H, j, none⟩ = some (.int .u8 (f j : Nat)) := fun w' h => (h.cell j).trans (hashC_get f hj)
      have HCL := Lib.hid hcl
      clear hy e1 e2 cM hyb hcl h0
      go_wp2_with (first | (with_reducible refine num_load rfl _ rfl _ rfl _ hs.o rfl ?_))
      refine (CM.out _).mono ?_
      rintro e w3 ⟨rfl, hb3⟩
      replace hs := hs.on hb3
      clear hb3
      go_upto_region 6 with (with_reducible refine num_store rfl _ _ rfl _ _ rfl rfl _ hs.o rfl ?_)
      replace hs := hs.row (y * 256) K1.out K2.out (by rw [K5.out]; exact K3.out)
      generalize World.setRow _ _ _ = w4 at *
      have c1 := hs.o.num (j := 0) (by omega)
      have c2 := HCL.out _ hs.h
      have c3 := hs.o.free 0
      have eW : IntKind.u64.wrap (((Nm.wd (y * 256) 0 : Nat) : Int) + ((f j : Nat) : Int)) = ((Nm.wd (y * 256) 0 + f j : Nat) : Int) := by
        rw [Nm.wd0, IntKind.wrap_u64]; omega
      have hs2 := hs.add (b := f j) (z := U / 2 ^ (8 * j)) hfj E2.out K1.out K2.out (by rw [K5.out]; exact K3.out)
      generalize Nm.wd (y * 256) 0 = g at *
      obtain ⟨fj, hfj'⟩ : ∃ fj, fj = f j := ⟨_, rfl⟩
      rw [← hfj'] at c2 eW hs2 hfj
      rw [← eW] at hs2
      clear hfj' E2 HCL eW
      go_wp2_with fail
      go_region
      all_goals
        first | go_wp2_with fail | skip
        go_roundw
        case rel => exact ⟨j, by omega, rfl, hs2.drew⟩
        case measure => simp [intOf]
    · obtain rfl : k = 0 := by omega
      rw [Nat.mul_zero, Nat.pow_zero, Nat.div_one] at hs
      go_wp2_with (first | (with_reducible refine num_load rfl _ rfl _ rfl _ hs.o rfl ?_) | (with_reducible refine num_store rfl _ _ rfl _ _ rfl rfl _ hs.r rfl ?_))
      exact bodyPost_ret (v := .agg (numC U)) (num_results Try.results18 _ _ _ rfl (hs.r.row _)) rfl ⟨rfl, below_setRow hs.below (by rw [K5.out]; exact K4.out) _⟩
end Go.Proofs.Yteachheacllblab
