import Derived.Test.YtlednkbnhnjgcaaWAlive
import Derived.Test.YtlednkbnhnjgcaaWDown
import Derived.Test.YtlednkbnhnjgcaaWSub
import Derived.Test.YtlednkbnhnjgcaaNumRegion
import Derived.Test.YtlednkbnhnjgcaaLawMoves
namespace Go.Proofs.Ytlednkbnhnjgcaa
open Go.RowKit Rg2
theorem frame_back (a : Act) (n : Nat) (u : Nat → Value) (hs : a.tmps.size = n) (hd : a.defers = []) (hu : ∀ t, u t = a.eval (.tmp t)) : a = ⟨((List.range n).map u).toArray, []⟩ := by
  obtain ⟨tm, df⟩ := a
  obtain rfl : df = [] := hd
  congr 1
  apply Array.ext
  · simpa using hs
  · intro i h1 h2
    simp only [List.getElem_toArray, List.getElem_map, List.getElem_range, hu]
    simp [Act.eval, Array.getD_eq_getD_getElem?, h1]
/-- a load in a place that is guarded -/
theorem num_load_g {ops : Array Oper} {rest : List Oper} {o : Oper} {a : Act} {w : World} {Q : Exit → Act → World → Prop} (hw : Region.wanted o (yielded ops a.tmps) = true) (x : Operand) (ho : o.op = .load 24 x) (g : Nat) (hx : a.eval x = .pointer (some ⟨g, 0, none⟩)) (cs : Array Value) (hg : Has w g cs 24) (hs : cs.size = 4)
    (h : wpList Try.prog ops Q rest (a.put o.dst (.agg cs)) w) : wpList Try.prog ops Q (o :: rest) a w :=
  BigFrame.wpList_want hw fun _ hK => wp_load_row 24 x ho g hx 24 cs (0, 0) _ hg.out Try.underlying24 rfl (infoNum.trans (by rw [hs])) (hK _ _ h)
theorem up_any (x n : Nat) (hx : x < Nm.big) (hn : n ≤ 255) (w : World) :
    Calls Try.prog 26 #[.agg (numC x), .int .i64 (n : Int)] w fun e w' => e = .returned (.agg (numC (Nm.up x n))) ∧ Below w.heap.size w w' := by
  by_cases h : n = 0
  · subst h; rw [Nm.up_zero hx]; exact up_neg x 0 (by omega) w
  · exact up_pos x n hx (by omega) (by omega) w
theorem down_any (x n : Nat) (hx : x < Nm.big) (hn : n ≤ 255) (w : World) :
    Calls Try.prog 35 #[.agg (numC x), .int .i64 (n : Int)] w fun e w' => e = .returned (.agg (numC (Nm.down x n))) ∧ Below w.heap.size w w' := by
  by_cases h : n = 0
  · subst h; rw [Nm.down_zero]; exact down_neg x 0 (by omega) w
  · exact down_pos x n hx (by omega) (by omega) w
/-! ### the mathematics -/
theorem pow_parts {n : Nat} (hn : n ≤ 255) : Nm.big = 2 ^ n * 2 ^ (256 - n) := by rw [Nm.big_eq, ← Nat.pow_add, show n + (256 - n) = 256 by omega]
theorem up_eq (x n : Nat) (hn : n ≤ 255) : Nm.up x n = 2 ^ n * (x % 2 ^ (256 - n)) := by
  unfold Nm.up
  rw [Nat.shiftLeft_eq, pow_parts hn, Nat.mul_comm x, Nat.mul_mod_mul_left]
theorem back_up (x n : Nat) (hn : n ≤ 255) : Nm.down (Nm.up x n) n = x % 2 ^ (256 - n) := by
  rw [up_eq x n hn]
  unfold Nm.down
  rw [Nat.shiftRight_eq_div_pow, Nat.mul_div_cancel_left _ (Nat.pow_pos (by decide))]
theorem back_down {x n : Nat} (hx : x < Nm.big) (hn : n ≤ 255) : Nm.up (Nm.down x n) n = x - x % 2 ^ n := by
  have h1 : x / 2 ^ n < 2 ^ (256 - n) := by rw [Nat.div_lt_iff_lt_mul (Nat.pow_pos (by decide)), Nat.mul_comm, ← pow_parts hn]; exact hx
  rw [up_eq _ n hn]
  unfold Nm.down
  rw [Nat.shiftRight_eq_div_pow, Nat.mod_eq_of_lt h1]
  have := Nat.div_add_mod x (2 ^ n)
  omega
theorem high_up (x n : Nat) (hn : n ≤ 255) : Nm.up (x - x % 2 ^ (256 - n)) n = 0 := by
  rw [up_eq _ n hn]
  have h : x - x % 2 ^ (256 - n) = 2 ^ (256 - n) * (x / 2 ^ (256 - n)) := by have := Nat.div_add_mod x (2 ^ (256 - n)); omega
  rw [h, Nat.mul_mod_right, Nat.mul_zero]
theorem sub_mod {x y : Nat} (hx : x < Nm.big) (hy : y ≤ x) : (x + Nm.big - y) % Nm.big = x - y := by
  rw [show x + Nm.big - y = x - y + Nm.big by omega, Nat.add_mod_right, Nat.mod_eq_of_lt (by omega)]
/-! ### the region with two new numbers -/
def Dist (k1 : Nat) (p1 : Tmp) (k2 : Nat) (p2 : Tmp) (listed : Array Bool) (a : Act) : Prop := listed.getD k1 false = true → listed.getD k2 false = true → a.eval (.tmp p1) ≠ a.eval (.tmp p2)
theorem eval_put_ne (a : Act) (d : Option Tmp) (p : Tmp) (v : Value) (h : d ≠ some p) : (a.put d v).eval (.tmp p) = a.eval (.tmp p) :=
  Act.eval_put (fun d' hdd e => h (by rw [hdd]; cases e; rfl))
theorem Dist.keep {k1 k2 i : Nat} {p1 p2 : Tmp} {listed : Array Bool} {a : Act} {d : Option Tmp} {v : Value} (h : Dist k1 p1 k2 p2 listed a) (hi : i < listed.size) (h1 : i ≠ k1) (h2 : i ≠ k2) (d1 : d ≠ some p1) (d2 : d ≠ some p2) : Dist k1 p1 k2 p2 (listed.setIfInBounds i true) (a.put d v) := fun l1 l2 => by
  rw [getD_set _ _ _ hi, if_neg h1] at l1
  rw [getD_set _ _ _ hi, if_neg h2] at l2
  rw [eval_put_ne _ _ _ _ d1, eval_put_ne _ _ _ _ d2]
  exact h l1 l2
theorem Dist.fst {B k1 k2 : Nat} {p1 p2 : Tmp} {listed : Array Bool} {a : Act} {w : World} (hg : listed.getD k2 false = true → Slot.ptr.holds B (a.eval (.tmp p2)) w) (hi : k1 < listed.size) (hk : k1 ≠ k2) (hp : p1 ≠ p2) (hs : p1 < a.tmps.size) : Dist k1 p1 k2 p2 (listed.setIfInBounds k1 true) (a.put (some p1) (.pointer (some ⟨w.heap.size, 0, none⟩))) := fun _ l2 e => by
  rw [getD_set _ _ _ hi, if_neg hk] at l2
  obtain ⟨b, cs, _, hv, hh, _⟩ := hg l2
  rw [put_same _ _ _ hs, eval_put_ne _ _ _ _ (fun h => hp (Option.some.inj h)), hv] at e
  injection e with e; injection e with e; injection e with e
  have := hh.lt
  omega
theorem Dist.snd {B k1 k2 : Nat} {p1 p2 : Tmp} {listed : Array Bool} {a : Act} {w : World} (hg : listed.getD k1 false = true → Slot.ptr.holds B (a.eval (.tmp p1)) w) (hi : k2 < listed.size) (hk : k2 ≠ k1) (hp : p2 ≠ p1) (hs : p2 < a.tmps.size) : Dist k1 p1 k2 p2 (listed.setIfInBounds k2 true) (a.put (some p2) (.pointer (some ⟨w.heap.size, 0, none⟩))) := fun l1 _ e => by
  rw [getD_set _ _ _ hi, if_neg hk] at l1
  obtain ⟨b, cs, _, hv, hh, _⟩ := hg l1
  rw [put_same _ _ _ hs, eval_put_ne _ _ _ _ (fun h => hp (Option.some.inj h)), hv] at e
  injection e with e; injection e with e; injection e with e
  have := hh.lt
  omega
theorem OneN.row {w wr : World} {A x : Nat} (h : OneN w wr A x) (hA : A < w.heap.size) {b : Nat} (hb : w.heap.size ≤ b) (cs : Array Value) : OneN w (wr.setRow b cs) A x :=
  ⟨below_setRow h.below hb _, h.a.otherRow _ _ (by omega)⟩
def backTab (x n p q U D : Nat) : Nat → Slot
  | 0 => .val (.agg (numC x)) | 1 => .val (.int .i64 (n : Int)) | 2 => .val (.agg (numC p)) | 3 => .val (.int .i64 (n : Int)) | 4 => .val (.agg (numC U)) | 5 => .val (.agg (numC x)) | 6 => .val (.int .i64 (n : Int)) | 7 => .val (.agg (numC q))
  | 8 => .val (.int .i64 (n : Int)) | 9 => .val (.agg (numC D)) | 10 => .ptr | 11 => .ptr | _ => .any
end Go.Proofs.Ytlednkbnhnjgcaa
