/-
  compact: Meets; the reference's Number.
-/
import Derived.Test.YtmemppkkchfphaaCpAlive
import Derived.Test.YtmemppkkchfphaaWHash
import Derived.Test.YtmemppkkchfphaaWCompare
import Derived.Test.YtmemppkkchfphaaRefLess
namespace Go.Proofs.Ytmemppkkchfphaa
open Go.RowKit
theorem Nm.number_next (U j : Nat) : U / 2 ^ (8 * j) = U / 2 ^ (8 * (j + 1)) * 256 + U / 2 ^ (8 * j) % 256 := by
  rw [show 8 * (j + 1) = 8 * j + 8 by omega, Nat.pow_add, ← Nat.div_div_eq_div_mul]
  generalize U / 2 ^ (8 * j) = m
  omega
theorem Nm.up8 {U j : Nat} (hU : U < Nm.big) : Nm.up (U / 2 ^ (8 * (j + 1))) 8 = U / 2 ^ (8 * (j + 1)) * 256 := by
  rw [Nm.up_eq, Nat.mod_eq_of_lt]
  rw [show 8 * (j + 1) = 8 + 8 * j by omega, Nat.pow_add, ← Nat.div_div_eq_div_mul]
  have : U / 2 ^ 8 / 2 ^ (8 * j) ≤ U / 2 ^ 8 := Nat.div_le_self _ _
  generalize U / 2 ^ 8 / 2 ^ (8 * j) = m at *
  unfold Nm.big at *; omega
theorem numC_add0 (y b : Nat) (hb : b < 256) : (numC (y * 256)).setIfInBounds 0 (.int .u64 ((Nm.wd (y * 256) 0 + b : Nat) : Int)) = numC (y * 256 + b) := by
  unfold numC
  rw [cells4_set _ 0 _ (by omega)]
  apply cells4_congr
  intro j hj
  unfold upd
  rcases Nm.four hj with rfl | rfl | rfl | rfl
  · rw [if_pos rfl, Nm.wd0, Nm.wd0]; omega
  · rw [if_neg (by omega), Nm.wd1, Nm.wd1]; omega
  · rw [if_neg (by omega), Nm.wd2, Nm.wd2]; omega
  · rw [if_neg (by omega), Nm.wd3, Nm.wd3]; omega
structure Nb (w wr : World) (H R O : Nat) (f : Nat → Nat) (y : Nat) : Prop where
  below : Below w.heap.size w wr
  h : Has wr H (hashC f) 28
  r : Has wr R (numC 0) 26
  o : Has wr O (numC y) 26
theorem Nb.on {w wr w' : World} {H R O : Nat} {f : Nat → Nat} {y : Nat} (h : Nb w wr H R O f y) (hb : Below wr.heap.size wr w') : Nb w w' H R O f y :=
  ⟨h.below.trans (hb.mono h.below.size), h.h.on hb, h.r.on hb, h.o.on hb⟩
theorem Nb.row {w wr : World} {H R O : Nat} {f : Nat → Nat} {y : Nat} (h : Nb w wr H R O f y) (z : Nat) (hH : H ≠ O) (hR : R ≠ O) (hO : w.heap.size ≤ O) : Nb w (wr.setRow O (numC z)) H R O f z :=
  ⟨below_setRow h.below hO _, h.h.otherRow _ _ hH, h.r.otherRow _ _ hR, h.o.row _⟩
theorem Nb.add {w wr : World} {H R O : Nat} {f : Nat → Nat} {y b z : Nat} (h : Nb w wr H R O f (y * 256)) (hb : b < 256) (hz : z = y * 256 + b) (hH : H ≠ O) (hR : R ≠ O) (hO : w.heap.size ≤ O) : Nb w (wr.setCell ⟨O, 0, none⟩ (.int .u64 ((Nm.wd (y * 256) 0 + b : Nat) : Int))) H R O f z := by
  have e := h.o.set (i := 0) (.int .u64 ((Nm.wd (y * 256) 0 + b : Nat) : Int))
  rw [numC_add0 y b hb, ← hz] at e
  exact ⟨h.below.setCell hO _, h.h.other _ _ hH, h.r.other _ _ hR, e⟩
theorem Nb.drew {w wr : World} {H R O : Nat} {f : Nat → Nat} {y : Nat} (h : Nb w wr H R O f y) : Nb w wr.drew H R O f y := ⟨h.below.drew, h.h, h.r, h.o⟩
end Go.Proofs.Ytmemppkkchfphaa
