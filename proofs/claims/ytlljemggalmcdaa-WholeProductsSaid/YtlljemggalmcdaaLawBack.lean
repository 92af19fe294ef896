import Derived.Test.YtlljemggalmcdaaWAlive
import Derived.Test.YtlljemggalmcdaaWDown
import Derived.Test.YtlljemggalmcdaaWSub
import Derived.Test.YtlljemggalmcdaaNumRegion
import Derived.Test.YtlljemggalmcdaaLawMoves
namespace Go.Proofs.Ytlljemggalmcdaa
open Go.RowKit Rg2
theorem frame_back (a : Act) (n : Nat) (u : Nat → Value) (hs : a.tmps.size = n) (hd : a.defers = []) (hu : ∀ t, u t = a.eval (.tmp t)) : a = ⟨((List.range n).map u).toArray, []⟩ := by
  obtain ⟨tm, df⟩ := a
  obtain rfl : df = [] := hd
  congr 1
  apply Array.ext
  · simpa using hs
  · intro i h1 h2
    simp only [List.getElem_toArray, List.getElem_map, List.getElem_range, hu]
    simp [Act.eval, Array.getD_eq_getD_getElem?, h1]
/-- a load in a place that is guarded -/
theorem num_load_g {ops : Array Oper} {rest : List Oper} {o : Oper} {a : Act} {w : World} {Q : Exit → Act → World → Prop} (hw : Region.wanted o (yielded ops a.tmps) = true) (x : Operand) (ho : o.op = .load 24 x) (g : Nat) (hx : a.eval x = .pointer (some ⟨g, 0, none⟩)) (cs : Array Value) (hg : Has w g cs 24) (hs : cs.size = 4)
    (h : wpList Try.prog ops Q rest (a.put o.dst (.agg cs)) w) : wpList Try.prog ops Q (o :: rest) a w :=
  BigFrame.wpList_want hw fun _ hK => wp_load_row 24 x ho g hx 24 cs (0, 0) _ hg.out Try.underlying24 rfl (infoNum.trans (by rw [hs])) (hK _ _ h)
theorem up_any (x n : Nat) (hx : x < Nm.big) (hn : n ≤ 255) (w : World) :
    Calls Try.prog 25 #[.agg (numC x), .int .i64 (n : Int)] w fun e w' => e = .returned (.agg (numC (Nm.up x n))) ∧ Below w.heap.size w w' := by
  by_cases h : n = 0
  · subst h; rw [Nm.up_zero hx]; exact up_neg x 0 (by omega) w
  · exact up_pos x n hx (by omega) (by omega) w
theorem down_any (x n : Nat) (hx : x < Nm.big) (hn : n ≤ 255) (w : World) :
    Calls Try.prog 27 #[.agg (numC x), .int .i64 (n : Int)] w fun e w' => e = .returned (.agg (numC (Nm.down x n))) ∧ Below w.heap.size w w' := by
  by_cases h : n = 0
  · subst h; rw [Nm.down_zero]; exact down_neg x 0 (by omega) w
  · exact down_pos x n hx (by omega) (by omega) w
/-! ### the mathematics -/
theorem pow_parts {n : Nat} (hn : n ≤ 255) : Nm.big = 2 ^ n * 2 ^ (256 - n) := by rw [Nm.big_eq, ← Nat.pow_add, show n + (256 - n) = 256 by omega]
theorem up_eq (x n : Nat) (hn : n ≤ 255) : Nm.up x n = 2 ^ n * (x % 2 ^ (256 - n)) := by
  unfold Nm.up
  rw [Nat.shiftLeft_eq, pow_parts hn, Nat.mul_comm x, Nat.mul_mod_mul_left]
theorem back_up (x n : Nat) (hn : n ≤ 255) : Nm.down (Nm.up x n) n = x % 2 ^ (256 - n) := by
  rw [up_eq x n hn]
  unfold Nm.down
  rw [Nat.shiftRight_eq_div_pow, Nat.mul_div_cancel_left _ (Nat.pow_pos (by decide))]
theorem back_down {x n : Nat} (hx : x < Nm.big) (hn : n ≤ 255) : Nm.up (Nm.down x n) n = x - x % 2 ^ n := by
  have h1 : x / 2 ^ n < 2 ^ (256 - n) := by rw [Nat.div_lt_iff_lt_mul (Nat.pow_pos (by decide)), Nat.mul_comm, ← pow_parts hn]; exact hx
  rw [up_eq _ n hn]
  unfold Nm.down
  rw [Nat.shiftRight_eq_div_pow, Nat.mod_eq_of_lt h1]
  have := Nat.div_add_mod x (2 ^ n)
  omega
theorem high_up (x n : Nat) (hn : n ≤ 255) : Nm.up (x - x % 2 ^ (256 - n)) n = 0 := by
  rw [up_eq _ n hn]
  have h : x - x % 2 ^ (256 - n) = 2 ^ (256 - n) * (x / 2 ^ (256 - n)) := by have := Nat.div_add_mod x (2 ^ (256 - n)); omega
  rw [h, Nat.mul_mod_right, Nat.mul_zero]
theorem sub_mod {x y : Nat} (hx : x < Nm.big) (hy : y ≤ x) : (x + Nm.big - y) % Nm.big = x - y := by
  rw [show x + Nm.big - y = x - y + Nm.big by omega, Nat.add_mod_right, Nat.mod_eq_of_lt (by omega)]
/-! ### the region with two new numbers -/
def Dist (k1 : Nat) (p1 : Tmp) (k2 : Nat) (p2 : Tmp) (listed : Array Bool) (a : Act) : Prop := listed.getD k1 false = true → listed.getD k2 false = true → a.eval (.tmp p1) ≠ a.eval (.tmp p2)
theorem eval_put_ne (a : Act) (d : Option Tmp) (p : Tmp) (v : Value) (h : d ≠ some p) : (a.put d v).eval (.tmp p) = a.eval (.tmp p) :=
  Act.eval_put (fun d' hdd e => h (by rw [hdd]; cases e; rfl))
theorem Dist.keep {k1 k2 i : Nat} {p1 p2 : Tmp} {listed : Array Bool} {a : Act} {d : Option Tmp} {v : Value} (h : Dist k1 p1 k2 p2 listed a) (hi : i < listed.size) (h1 : i ≠ k1) (h2 : i ≠ k2) (d1 : d ≠ some p1) (d2 : d ≠ some p2) : Dist k1 p1 k2 p2 (listed.setIfInBounds i true) (a.put d v) := fun l1 l2 => by
  rw [getD_set _ _ _ hi, if_neg h1] at l1
  rw [getD_set _ _ _ hi, if_neg h2] at l2
  rw [eval_put_ne _ _ _ _ d1, eval_put_ne _ _ _ _ d2]
  exact h l1 l2
theorem Dist.fst {B k1 k2 : Nat} {p1 p2 : Tmp} {listed : Array Bool} {a : Act} {w : World} (hg : listed.getD k2 false = true → Slot.ptr.holds B (a.eval (.tmp p2)) w) (hi : k1 < listed.size) (hk : k1 ≠ k2) (hp : p1 ≠ p2) (hs : p1 < a.tmps.size) : Dist k1 p1 k2 p2 (listed.setIfInBounds k1 true) (a.put (some p1) (.pointer (some ⟨w.heap.size, 0, none⟩))) := fun _ l2 e => by
  rw [getD_set _ _ _ hi, if_neg hk] at l2
  obtain ⟨b, cs, _, hv, hh, _⟩ := hg l2
  rw [put_same _ _ _ hs, eval_put_ne _ _ _ _ (fun h => hp (Option.some.inj h)), hv] at e
  injection e with e; injection e with e; injection e with e
  have := hh.lt
  omega
theorem Dist.snd {B k1 k2 : Nat} {p1 p2 : Tmp} {listed : Array Bool} {a : Act} {w : World} (hg : listed.getD k1 false = true → Slot.ptr.holds B (a.eval (.tmp p1)) w) (hi : k2 < listed.size) (hk : k2 ≠ k1) (hp : p2 ≠ p1) (hs : p2 < a.tmps.size) : Dist k1 p1 k2 p2 (listed.setIfInBounds k2 true) (a.put (some p2) (.pointer (some ⟨w.heap.size, 0, none⟩))) := fun l1 _ e => by
  rw [getD_set _ _ _ hi, if_neg hk] at l1
  obtain ⟨b, cs, _, hv, hh, _⟩ := hg l1
  rw [put_same _ _ _ hs, eval_put_ne _ _ _ _ (fun h => hp (Option.some.inj h)), hv] at e
  injection e with e; injection e with e; injection e with e
  have := hh.lt
  omega
theorem OneN.row {w wr : World} {A x : Nat} (h : OneN w wr A x) (hA : A < w.heap.size) {b : Nat} (hb : w.heap.size ≤ b) (cs : Array Value) : OneN w (wr.setRow b cs) A x :=
  ⟨below_setRow h.below hb _, h.a.otherRow _ _ (by omega)⟩
def backTab (x n p q U D : Nat) : Nat → Slot
  | 0 => .val (.agg (numC x)) | 1 => .val (.int .i64 (n : Int)) | 2 => .val (.agg (numC p)) | 3 => .val (.int .i64 (n : Int)) | 4 => .val (.agg (numC U)) | 5 => .val (.agg (numC x)) | 6 => .val (.int .i64 (n : Int)) | 7 => .val (.agg (numC q))
  | 8 => .val (.int .i64 (n : Int)) | 9 => .val (.agg (numC D)) | 10 => .ptr | 11 => .ptr | _ => .any
set_option maxRecDepth 100000 in
set_option maxHeartbeats 2000000 in
theorem back_in (x n : Nat) (hx : x < Nm.big) (hn : n ≤ 255) (w : World) :
    Calls Try.prog 9 #[.agg (numC x), .int .i64 (n : Int)] w fun e w' => e = .returned (.bool true) ∧ Below w.heap.size w w' := by
  have hP1 : 0 < 2 ^ n := Nat.pow_pos (by decide)
  have hP2 : 0 < 2 ^ (256 - n) := Nat.pow_pos (by decide)
  obtain ⟨p, hp⟩ : ∃ p, p = Nm.up x n := ⟨_, rfl⟩
  obtain ⟨q, hq⟩ : ∃ q, q = Nm.down x n := ⟨_, rfl⟩
  obtain ⟨U, hU⟩ : ∃ U, U = x % 2 ^ (256 - n) := ⟨_, rfl⟩
  obtain ⟨D, hD⟩ : ∃ D, D = x - x % 2 ^ n := ⟨_, rfl⟩
  have hUx : U ≤ x := by rw [hU]; exact Nat.mod_le _ _
  have hDx : D ≤ x := by rw [hD]; omega
  have cUp := fun w => up_any x n hx hn w
  have cDown := fun w => down_any p n (by rw [hp]; exact Nm.up_lt _ _) hn w
  have cDown2 := fun w => down_any x n hx hn w
  have cUp2 := fun w => up_any q n (by rw [hq]; exact Nm.down_lt hx _) hn w
  rw [← hp] at cUp
  rw [← hq] at cDown2
  rw [hp, back_up x n hn, ← hU, ← hp] at cDown
  rw [hq, back_down hx hn, ← hD, ← hq] at cUp2
  have cSub1 := fun w => sub x U hx (by omega) w
  have cSub2 := fun w => sub x D hx (by omega) w
  rw [sub_mod hx hUx, show decide (x < U) = false by simp; omega] at cSub1
  rw [sub_mod hx hDx, show decide (x < D) = false by simp; omega] at cSub2
  have cUp3 := fun w => up_any (x - U) n (by omega) hn w
  rw [hU, high_up x n hn, ← hU] at cUp3
  have cLenL := fun w => len (x - D) (by omega) w
  have cLenU := fun w => len U (by omega) w
  have cLenX := fun w => len x hx w
  obtain ⟨l1, hl1⟩ : ∃ l, l = Nm.len (x - D) := ⟨_, rfl⟩
  obtain ⟨l2, hl2⟩ : ∃ l, l = Nm.len U := ⟨_, rfl⟩
  obtain ⟨l3, hl3⟩ : ∃ l, l = Nm.len x := ⟨_, rfl⟩
  have b1 : l1 ≤ n := by rw [hl1, show x - D = x % 2 ^ n by have := Nat.mod_le x (2 ^ n); omega]; exact Nm.len_le (Nat.mod_lt _ hP1)
  have b2 : l2 ≤ 256 - n := by rw [hl2, hU]; exact Nm.len_le (Nat.mod_lt _ hP2)
  have b3 : l3 ≤ 256 := by rw [hl3]; exact Nm.len_le (by rw [← Nm.big_eq]; exact hx)
  have b4 : l3 ≤ 256 - n → U = x := fun h => by rw [hU]; exact Nat.mod_eq_of_lt (Nm.lt_len (by rw [← hl3]; exact h))
  rw [← hl1] at cLenL
  rw [← hl2] at cLenU
  rw [← hl3] at cLenX
  have KUp := Lib.hid cUp
  have KDown := Lib.hid cDown
  have KDown2 := Lib.hid cDown2
  have KUp2 := Lib.hid cUp2
  have KSub1 := Lib.hid cSub1
  have KSub2 := Lib.hid cSub2
  have KUp3 := Lib.hid cUp3
  have KLenL := Lib.hid cLenL
  have KLenU := Lib.hid cLenU
  have KLenX := Lib.hid cLenX
  have B4 := Lib.hid b4
  clear cUp cDown cDown2 cUp2 cSub1 cSub2 cUp3 cLenL cLenU cLenX hl1 hl2 hl3 b4 hU hD hp hq hP1 hP2 hUx hDx hx
  go_enter Try.func9, Try.ntmps9
  go_upto_region 1 with fail
  generalize hw1 : World.alloc _ _ = w1
  have h0 : OneN w w1 w.heap.size x := by rw [← hw1]; exact ⟨(Below.refl _ _).alloc (Nat.le_refl _) _, Has.new _ _⟩
  clear hw1
  generalize hC : w.heap.size = b_A at *
  have HC := Lib.hid hC
  clear hC
  go_wp2_with fail
  refine (alive _).mono ?_
  rintro e v1 ⟨rfl, hb1⟩
  replace h0 := h0.on hb1
  clear hb1
  go_wp2_with fail
  have hT : OneN v1 v1 b_A x := ⟨Below.refl _ _, h0.a⟩
  have hAw := h0.a.lt
  refine Rg2.wp_region_inv (by kernel_rfl) (fun w' => OneN v1 w' b_A x) (fun i v w' => (backTab x n p q U D i).holds v1.heap.size v w') (fun l a w' => (Done 12 5 v1.heap.size U l a w' ∧ Done 13 6 v1.heap.size D l a w') ∧ Dist 10 5 11 6 l a) (NumStep v1.heap.size) (fun _ _ => NumStep.refl _ _) (fun _ _ _ _ _ hs h => Slot.stays _ _ _ _ hs h) (by kernel_rfl) (hT.on (Below.refl _ _).drew) ?_ ?_ ?_
  · exact fun l hl => ⟨⟨fun hk => (by rw [hl] at hk; cases hk), fun hk => (by rw [hl] at hk; cases hk)⟩, fun hk _ => (by rw [hl] at hk; cases hk)⟩
  · intro i o listed a wx ho hn' hdep hinv
    have hC := hinv.c
    have hI := hinv.i
    have hi : i < 14 := (Array.getElem?_eq_some_iff.1 ho).1
    obtain rfl | rfl | rfl | rfl | rfl | rfl | rfl | rfl | rfl | rfl | rfl | rfl | rfl | rfl : i = 0 ∨ i = 1 ∨ i = 2 ∨ i = 3 ∨ i = 4 ∨ i = 5 ∨ i = 6 ∨ i = 7 ∨ i = 8 ∨ i = 9 ∨ i = 10 ∨ i = 11 ∨ i = 12 ∨ i = 13 := by omega
    all_goals obtain rfl := Option.some.inj ho
    · exact duty_value ((fun _ _ => NumStep.refl _ _)) hC (wanted_free rfl) (ex_load_num rfl (hinv.old' 2 (by kernel_rfl)) hC.a) rfl (⟨⟨Done.pre (hinv.aheadT 3 (by kernel_rfl) hn' (by decide) (by decide)), Done.pre (hinv.aheadT 3 (by kernel_rfl) hn' (by decide) (by decide))⟩, Dist.keep hI.2 (by rw [hinv.size]; decide) (by decide) (by decide) (by decide) (by decide)⟩)
    · exact duty_value ((fun _ _ => NumStep.refl _ _)) hC (wanted_free rfl) (ex_move rfl) (hinv.old' 1 (by kernel_rfl)) (⟨⟨Done.pre (hinv.aheadT 3 (by kernel_rfl) hn' (by decide) (by decide)), Done.pre (hinv.aheadT 3 (by kernel_rfl) hn' (by decide) (by decide))⟩, Dist.keep hI.2 (by rw [hinv.size]; decide) (by decide) (by decide) (by decide) (by decide)⟩)
    · have e19 := hinv.got 0 _ 19 rfl (hdep ⟨0, .data⟩ (by simp) rfl) rfl; have e20 := hinv.got 1 _ 20 rfl (hdep ⟨1, .data⟩ (by simp) rfl) rfl
      exact duty_call (wanted_free rfl) (f := 25) (args := #[a.eval (.tmp 19), a.eval (.tmp 20)]) (by kernel_rfl) (by rw [show a.eval (.tmp 19) = _ from e19]; rw [show a.eval (.tmp 20) = _ from e20];  exact KUp.out wx) (fun w' hb => ⟨hC.on hb, NumStep.below hb, rfl, ⟨⟨Done.pre (hinv.aheadT 3 (by kernel_rfl) hn' (by decide) (by decide)), Done.pre (hinv.aheadT 3 (by kernel_rfl) hn' (by decide) (by decide))⟩, Dist.keep hI.2 (by rw [hinv.size]; decide) (by decide) (by decide) (by decide) (by decide)⟩⟩)
    · exact duty_value ((fun _ _ => NumStep.refl _ _)) hC (wanted_free rfl) (ex_move rfl) (hinv.old' 1 (by kernel_rfl)) (⟨⟨Done.pre (hinv.aheadT 3 (by kernel_rfl) hn' (by decide) (by decide)), Done.pre (hinv.aheadT 3 (by kernel_rfl) hn' (by decide) (by decide))⟩, Dist.keep hI.2 (by rw [hinv.size]; decide) (by decide) (by decide) (by decide) (by decide)⟩)
    · have e21 := hinv.got 2 _ 21 rfl (hdep ⟨2, .data⟩ (by simp) rfl) rfl; have e22 := hinv.got 3 _ 22 rfl (hdep ⟨3, .data⟩ (by simp) rfl) rfl
      exact duty_call (wanted_free rfl) (f := 27) (args := #[a.eval (.tmp 21), a.eval (.tmp 22)]) (by kernel_rfl) (by rw [show a.eval (.tmp 21) = _ from e21]; rw [show a.eval (.tmp 22) = _ from e22];  exact KDown.out wx) (fun w' hb => ⟨hC.on hb, NumStep.below hb, rfl, ⟨⟨Done.pre (hinv.aheadT 3 (by kernel_rfl) hn' (by decide) (by decide)), Done.pre (hinv.aheadT 3 (by kernel_rfl) hn' (by decide) (by decide))⟩, Dist.keep hI.2 (by rw [hinv.size]; decide) (by decide) (by decide) (by decide) (by decide)⟩⟩)
    · exact duty_value ((fun _ _ => NumStep.refl _ _)) hC (wanted_free rfl) (ex_load_num rfl (hinv.old' 2 (by kernel_rfl)) hC.a) rfl (⟨⟨Done.pre (hinv.aheadT 3 (by kernel_rfl) hn' (by decide) (by decide)), Done.pre (hinv.aheadT 3 (by kernel_rfl) hn' (by decide) (by decide))⟩, Dist.keep hI.2 (by rw [hinv.size]; decide) (by decide) (by decide) (by decide) (by decide)⟩)
    · exact duty_value ((fun _ _ => NumStep.refl _ _)) hC (wanted_free rfl) (ex_move rfl) (hinv.old' 1 (by kernel_rfl)) (⟨⟨Done.pre (hinv.aheadT 3 (by kernel_rfl) hn' (by decide) (by decide)), Done.pre (hinv.aheadT 3 (by kernel_rfl) hn' (by decide) (by decide))⟩, Dist.keep hI.2 (by rw [hinv.size]; decide) (by decide) (by decide) (by decide) (by decide)⟩)
    · have e24 := hinv.got 5 _ 24 rfl (hdep ⟨5, .data⟩ (by simp) rfl) rfl; have e25 := hinv.got 6 _ 25 rfl (hdep ⟨6, .data⟩ (by simp) rfl) rfl
      exact duty_call (wanted_free rfl) (f := 27) (args := #[a.eval (.tmp 24), a.eval (.tmp 25)]) (by kernel_rfl) (by rw [show a.eval (.tmp 24) = _ from e24]; rw [show a.eval (.tmp 25) = _ from e25];  exact KDown2.out wx) (fun w' hb => ⟨hC.on hb, NumStep.below hb, rfl, ⟨⟨Done.pre (hinv.aheadT 3 (by kernel_rfl) hn' (by decide) (by decide)), Done.pre (hinv.aheadT 3 (by kernel_rfl) hn' (by decide) (by decide))⟩, Dist.keep hI.2 (by rw [hinv.size]; decide) (by decide) (by decide) (by decide) (by decide)⟩⟩)
    · exact duty_value ((fun _ _ => NumStep.refl _ _)) hC (wanted_free rfl) (ex_move rfl) (hinv.old' 1 (by kernel_rfl)) (⟨⟨Done.pre (hinv.aheadT 3 (by kernel_rfl) hn' (by decide) (by decide)), Done.pre (hinv.aheadT 3 (by kernel_rfl) hn' (by decide) (by decide))⟩, Dist.keep hI.2 (by rw [hinv.size]; decide) (by decide) (by decide) (by decide) (by decide)⟩)
    · have e26 := hinv.got 7 _ 26 rfl (hdep ⟨7, .data⟩ (by simp) rfl) rfl; have e27 := hinv.got 8 _ 27 rfl (hdep ⟨8, .data⟩ (by simp) rfl) rfl
      exact duty_call (wanted_free rfl) (f := 25) (args := #[a.eval (.tmp 26), a.eval (.tmp 27)]) (by kernel_rfl) (by rw [show a.eval (.tmp 26) = _ from e26]; rw [show a.eval (.tmp 27) = _ from e27];  exact KUp2.out wx) (fun w' hb => ⟨hC.on hb, NumStep.below hb, rfl, ⟨⟨Done.pre (hinv.aheadT 3 (by kernel_rfl) hn' (by decide) (by decide)), Done.pre (hinv.aheadT 3 (by kernel_rfl) hn' (by decide) (by decide))⟩, Dist.keep hI.2 (by rw [hinv.size]; decide) (by decide) (by decide) (by decide) (by decide)⟩⟩)
    · have hbel : Below wx.heap.size wx (wx.alloc (.cells (numC 0) 24)) := (Below.refl _ _).alloc (Nat.le_refl _) _
      exact duty_made (wanted_free rfl) (ex_alloc_num rfl) (hC.on hbel) (NumStep.below hbel) ⟨wx.heap.size, numC 0, hC.below.size, rfl, Has.new _ _, rfl⟩ ⟨⟨Done.pre (hinv.aheadT 3 (by kernel_rfl) hn' (by decide) (by decide)), Done.pre (hinv.aheadT 3 (by kernel_rfl) hn' (by decide) (by decide))⟩, Dist.fst (B := v1.heap.size) (fun l => hinv.got 11 _ 6 rfl l rfl) (by rw [hinv.size]; decide) (by decide) (by decide) (by rw [hinv.tsize]; exact (by decide : 5 < 75))⟩
    · have hbel : Below wx.heap.size wx (wx.alloc (.cells (numC 0) 24)) := (Below.refl _ _).alloc (Nat.le_refl _) _
      exact duty_made (wanted_free rfl) (ex_alloc_num rfl) (hC.on hbel) (NumStep.below hbel) ⟨wx.heap.size, numC 0, hC.below.size, rfl, Has.new _ _, rfl⟩ ⟨⟨Done.pre (hinv.aheadT 3 (by kernel_rfl) hn' (by decide) (by decide)), Done.pre (hinv.aheadT 3 (by kernel_rfl) hn' (by decide) (by decide))⟩, Dist.snd (B := v1.heap.size) (fun l => hinv.got 10 _ 5 rfl l rfl) (by rw [hinv.size]; decide) (by decide) (by decide) (by rw [hinv.tsize]; exact (by decide : 6 < 75))⟩
    · obtain ⟨b, cs, hb, he, hh, hsz⟩ : Slot.ptr.holds v1.heap.size (a.eval (.tmp 5)) wx := hinv.got 10 _ 5 rfl (hdep ⟨10, .data⟩ (by simp) rfl) rfl
      exact duty_store (wanted_free rfl) (ex_store_num rfl he (hinv.got 4 _ 23 rfl (hdep ⟨4, .data⟩ (by simp) rfl) rfl) hh hsz) (hC.row hAw hb _) (NumStep.row hh) trivial ⟨⟨fun _ => ⟨b, hb, he, hh.row _⟩, Done.pre (hinv.aheadT 3 (by kernel_rfl) hn' (by decide) (by decide))⟩, Dist.keep hI.2 (by rw [hinv.size]; decide) (by decide) (by decide) (by decide) (by decide)⟩
    · obtain ⟨b, cs, hb, he, hh, hsz⟩ : Slot.ptr.holds v1.heap.size (a.eval (.tmp 6)) wx := hinv.got 11 _ 6 rfl (hdep ⟨11, .data⟩ (by simp) rfl) rfl
      have l10 : listed.getD 10 false = true := hinv.after (k := 12) (by kernel_rfl) (hdep ⟨12, .phase⟩ (by simp) rfl)
      have l11 : listed.getD 11 false = true := hdep ⟨11, .data⟩ (by simp) rfl
      have hne := hI.2 l10 l11
      refine duty_store (wanted_free rfl) (ex_store_num rfl he (hinv.got 9 _ 28 rfl (hdep ⟨9, .data⟩ (by simp) rfl) rfl) hh hsz) (hC.row hAw hb _) (NumStep.row hh) trivial ⟨⟨fun hl => ?_, fun _ => ⟨b, hb, he, hh.row _⟩⟩, Dist.keep hI.2 (by rw [hinv.size]; decide) (by decide) (by decide) (by decide) (by decide)⟩
      rw [getD_set _ _ _ (by rw [hinv.size]; decide), if_neg (by decide)] at hl
      obtain ⟨b', hb', he', hh'⟩ := hI.1.1 hl
      exact ⟨b', hb', he', hh'.otherRow _ _ (fun e => hne (by rw [he', he, e]))⟩
  · intro listed a wx hall hinv
    obtain ⟨bU, hbU, e5, hSU⟩ := hinv.i.1.1 (hall 12 (by decide))
    obtain ⟨bD, hbD, e6, hSD⟩ := hinv.i.1.2 (hall 13 (by decide))
    have e1 : a.eval (.tmp 1) = .int .i64 (n : Int) := hinv.old' 1 (by kernel_rfl)
    have e2 : a.eval (.tmp 2) = .pointer (some ⟨b_A, 0, none⟩) := hinv.old' 2 (by kernel_rfl)
    have hA := hinv.c.a
    have hbel := h0.below.trans (hinv.c.below.mono h0.below.size)
    obtain ⟨u, hu⟩ : ∃ u : Nat → Value, ∀ t, u t = a.eval (.tmp t) := ⟨_, fun _ => rfl⟩
    rw [frame_back a 75 u hinv.tsize hinv.defers hu]
    rw [← hu] at e1 e2 e5 e6
    clear hu hinv hall hbU hbD hT hAw h0
    show Exit.then _ _ _ (⟨#[u 0, u 1, u 2, u 3, u 4, u 5, u 6, u 7, u 8, u 9, u 10, u 11, u 12, u 13, u 14, u 15, u 16, u 17, u 18, u 19, u 20, u 21, u 22, u 23, u 24, u 25, u 26, u 27, u 28, u 29, u 30, u 31, u 32, u 33, u 34, u 35, u 36, u 37, u 38, u 39, u 40, u 41, u 42, u 43, u 44, u 45, u 46, u 47, u 48, u 49, u 50, u 51, u 52, u 53, u 54, u 55, u 56, u 57, u 58, u 59, u 60, u 61, u 62, u 63, u 64, u 65, u 66, u 67, u 68, u 69, u 70, u 71, u 72, u 73, u 74], []⟩ : Act) _
    rw [e1, e2, e5, e6]
    clear e1 e2 e5 e6
    go_wp2_with (first | fail | (with_reducible refine num_load rfl _ rfl _ rfl _ hA rfl ?_) | (with_reducible refine num_load rfl _ rfl _ rfl _ hSU rfl ?_) | (with_reducible refine num_load rfl _ rfl _ rfl _ hSD rfl ?_))
    refine (KSub1.out _).mono ?_
    rintro e v1 ⟨rfl, hb1⟩
    replace hA := hA.on hb1
    replace hSU := hSU.on hb1
    replace hSD := hSD.on hb1
    replace hbel := hbel.trans (hb1.mono hbel.size)
    clear hb1
    go_upto_region 7 with (with_reducible refine num_store rfl _ _ rfl _ _ rfl rfl _ (Has.newz _) rfl ?_)
    generalize hw2 : World.setRow _ _ _ = v2
    have hb2 : Below v1.heap.size v1 v2 := by rw [← hw2]; exact below_setRow ((Below.refl _ _).alloc (Nat.le_refl _) _) (Nat.le_refl _) _
    have hHigh : Has v2 v1.heap.size (numC (x - U)) 24 := by rw [← hw2]; exact (Has.newz _).row _
    replace hA := hA.on hb2
    replace hSU := hSU.on hb2
    replace hSD := hSD.on hb2
    replace hbel := hbel.trans (hb2.mono hbel.size)
    clear hw2 hb2
    generalize v1.heap.size = b_hHigh at hHigh ⊢
    go_wp2_with (first | fail | (with_reducible refine num_load rfl _ rfl _ rfl _ hA rfl ?_) | (with_reducible refine num_load rfl _ rfl _ rfl _ hSU rfl ?_) | (with_reducible refine num_load rfl _ rfl _ rfl _ hSD rfl ?_) | (with_reducible refine num_load rfl _ rfl _ rfl _ hHigh rfl ?_))
    refine (KSub2.out _).mono ?_
    rintro e v3 ⟨rfl, hb3⟩
    replace hA := hA.on hb3
    replace hSU := hSU.on hb3
    replace hSD := hSD.on hb3
    replace hHigh := hHigh.on hb3
    replace hbel := hbel.trans (hb3.mono hbel.size)
    clear hb3
    go_upto_region 8 with (with_reducible refine num_store rfl _ _ rfl _ _ rfl rfl _ (Has.newz _) rfl ?_)
    generalize hw4 : World.setRow _ _ _ = v4
    have hb4 : Below v3.heap.size v3 v4 := by rw [← hw4]; exact below_setRow ((Below.refl _ _).alloc (Nat.le_refl _) _) (Nat.le_refl _) _
    have hLow : Has v4 v3.heap.size (numC (x - D)) 24 := by rw [← hw4]; exact (Has.newz _).row _
    replace hA := hA.on hb4
    replace hSU := hSU.on hb4
    replace hSD := hSD.on hb4
    replace hHigh := hHigh.on hb4
    replace hbel := hbel.trans (hb4.mono hbel.size)
    clear hw4 hb4
    generalize v3.heap.size = b_hLow at hLow ⊢
    have qz : ∀ w, (binOp .eql 24 (.agg (numC 0)) (.agg #[.int .u64 0, .int .u64 0, .int .u64 0, .int .u64 0])).run Try.prog w = .ok (.bool true) w := fun w => eql_same'' 0 w
    have qs := eql_same''
    have hi1 : (l1 : Int) ≤ (n : Int) := by omega
    have hi2 : (l2 : Int) ≤ 256 - (n : Int) := by omega
    go_wp2_with (first | fail | (with_reducible refine num_load rfl _ rfl _ rfl _ hA rfl ?_) | (with_reducible refine num_load rfl _ rfl _ rfl _ hSU rfl ?_) | (with_reducible refine num_load rfl _ rfl _ rfl _ hSD rfl ?_) | (with_reducible refine num_load rfl _ rfl _ rfl _ hHigh rfl ?_) | (with_reducible refine num_load rfl _ rfl _ rfl _ hLow rfl ?_) | (with_reducible refine num_load_g (by with_unfolding_all rfl) _ rfl _ rfl _ hA rfl ?_) | (with_reducible refine num_load_g (by with_unfolding_all rfl) _ rfl _ rfl _ hSU rfl ?_) | (with_reducible refine num_load_g (by with_unfolding_all rfl) _ rfl _ rfl _ hSD rfl ?_) | (with_reducible refine num_load_g (by with_unfolding_all rfl) _ rfl _ rfl _ hHigh rfl ?_) | (with_reducible refine num_load_g (by with_unfolding_all rfl) _ rfl _ rfl _ hLow rfl ?_))
    refine (KLenL.out _).mono ?_
    rintro e v5 ⟨rfl, hb5⟩
    replace hA := hA.on hb5
    replace hSU := hSU.on hb5
    replace hSD := hSD.on hb5
    replace hHigh := hHigh.on hb5
    replace hLow := hLow.on hb5
    replace hbel := hbel.trans (hb5.mono hbel.size)
    clear hb5
    go_wp2_with (first | fail | (with_reducible refine num_load rfl _ rfl _ rfl _ hA rfl ?_) | (with_reducible refine num_load rfl _ rfl _ rfl _ hSU rfl ?_) | (with_reducible refine num_load rfl _ rfl _ rfl _ hSD rfl ?_) | (with_reducible refine num_load rfl _ rfl _ rfl _ hHigh rfl ?_) | (with_reducible refine num_load rfl _ rfl _ rfl _ hLow rfl ?_) | (with_reducible refine num_load_g (by with_unfolding_all rfl) _ rfl _ rfl _ hA rfl ?_) | (with_reducible refine num_load_g (by with_unfolding_all rfl) _ rfl _ rfl _ hSU rfl ?_) | (with_reducible refine num_load_g (by with_unfolding_all rfl) _ rfl _ rfl _ hSD rfl ?_) | (with_reducible refine num_load_g (by with_unfolding_all rfl) _ rfl _ rfl _ hHigh rfl ?_) | (with_reducible refine num_load_g (by with_unfolding_all rfl) _ rfl _ rfl _ hLow rfl ?_))
    refine (KLenU.out _).mono ?_
    rintro e v6 ⟨rfl, hb6⟩
    replace hA := hA.on hb6
    replace hSU := hSU.on hb6
    replace hSD := hSD.on hb6
    replace hHigh := hHigh.on hb6
    replace hLow := hLow.on hb6
    replace hbel := hbel.trans (hb6.mono hbel.size)
    clear hb6
    go_wp2_with (first | fail | (with_reducible refine num_load rfl _ rfl _ rfl _ hA rfl ?_) | (with_reducible refine num_load rfl _ rfl _ rfl _ hSU rfl ?_) | (with_reducible refine num_load rfl _ rfl _ rfl _ hSD rfl ?_) | (with_reducible refine num_load rfl _ rfl _ rfl _ hHigh rfl ?_) | (with_reducible refine num_load rfl _ rfl _ rfl _ hLow rfl ?_) | (with_reducible refine num_load_g (by with_unfolding_all rfl) _ rfl _ rfl _ hA rfl ?_) | (with_reducible refine num_load_g (by with_unfolding_all rfl) _ rfl _ rfl _ hSU rfl ?_) | (with_reducible refine num_load_g (by with_unfolding_all rfl) _ rfl _ rfl _ hSD rfl ?_) | (with_reducible refine num_load_g (by with_unfolding_all rfl) _ rfl _ rfl _ hHigh rfl ?_) | (with_reducible refine num_load_g (by with_unfolding_all rfl) _ rfl _ rfl _ hLow rfl ?_))
    refine (KUp3.out _).mono ?_
    rintro e v7 ⟨rfl, hb7⟩
    replace hA := hA.on hb7
    replace hSU := hSU.on hb7
    replace hSD := hSD.on hb7
    replace hHigh := hHigh.on hb7
    replace hLow := hLow.on hb7
    replace hbel := hbel.trans (hb7.mono hbel.size)
    clear hb7
    go_wp2_with (first | fail | (with_reducible refine num_load rfl _ rfl _ rfl _ hA rfl ?_) | (with_reducible refine num_load rfl _ rfl _ rfl _ hSU rfl ?_) | (with_reducible refine num_load rfl _ rfl _ rfl _ hSD rfl ?_) | (with_reducible refine num_load rfl _ rfl _ rfl _ hHigh rfl ?_) | (with_reducible refine num_load rfl _ rfl _ rfl _ hLow rfl ?_) | (with_reducible refine num_load_g (by with_unfolding_all rfl) _ rfl _ rfl _ hA rfl ?_) | (with_reducible refine num_load_g (by with_unfolding_all rfl) _ rfl _ rfl _ hSU rfl ?_) | (with_reducible refine num_load_g (by with_unfolding_all rfl) _ rfl _ rfl _ hSD rfl ?_) | (with_reducible refine num_load_g (by with_unfolding_all rfl) _ rfl _ rfl _ hHigh rfl ?_) | (with_reducible refine num_load_g (by with_unfolding_all rfl) _ rfl _ rfl _ hLow rfl ?_))
    refine (KLenX.out _).mono ?_
    rintro e v8 ⟨rfl, hb8⟩
    replace hA := hA.on hb8
    replace hSU := hSU.on hb8
    replace hSD := hSD.on hb8
    replace hHigh := hHigh.on hb8
    replace hLow := hLow.on hb8
    replace hbel := hbel.trans (hb8.mono hbel.size)
    clear hb8
    by_cases hgt : 256 < (l3 : Int) + (n : Int)
    · go_wp2_with (first | fail | (with_reducible refine num_load rfl _ rfl _ rfl _ hA rfl ?_) | (with_reducible refine num_load rfl _ rfl _ rfl _ hSU rfl ?_) | (with_reducible refine num_load rfl _ rfl _ rfl _ hSD rfl ?_) | (with_reducible refine num_load rfl _ rfl _ rfl _ hHigh rfl ?_) | (with_reducible refine num_load rfl _ rfl _ rfl _ hLow rfl ?_) | (with_reducible refine num_load_g (by with_unfolding_all rfl) _ rfl _ rfl _ hA rfl ?_) | (with_reducible refine num_load_g (by with_unfolding_all rfl) _ rfl _ rfl _ hSU rfl ?_) | (with_reducible refine num_load_g (by with_unfolding_all rfl) _ rfl _ rfl _ hSD rfl ?_) | (with_reducible refine num_load_g (by with_unfolding_all rfl) _ rfl _ rfl _ hHigh rfl ?_) | (with_reducible refine num_load_g (by with_unfolding_all rfl) _ rfl _ rfl _ hLow rfl ?_))
      go_ret
      exact ⟨rfl, hbel⟩
    · obtain rfl := B4.out (by omega)
      have hd : decide (256 < (l3 : Int) + (n : Int)) = false := by simpa using hgt
      clear hgt
      go_wp2_with (first | fail | (with_reducible refine num_load rfl _ rfl _ rfl _ hA rfl ?_) | (with_reducible refine num_load rfl _ rfl _ rfl _ hSU rfl ?_) | (with_reducible refine num_load rfl _ rfl _ rfl _ hSD rfl ?_) | (with_reducible refine num_load rfl _ rfl _ rfl _ hHigh rfl ?_) | (with_reducible refine num_load rfl _ rfl _ rfl _ hLow rfl ?_) | (with_reducible refine num_load_g (by with_unfolding_all rfl) _ rfl _ rfl _ hA rfl ?_) | (with_reducible refine num_load_g (by with_unfolding_all rfl) _ rfl _ rfl _ hSU rfl ?_) | (with_reducible refine num_load_g (by with_unfolding_all rfl) _ rfl _ rfl _ hSD rfl ?_) | (with_reducible refine num_load_g (by with_unfolding_all rfl) _ rfl _ rfl _ hHigh rfl ?_) | (with_reducible refine num_load_g (by with_unfolding_all rfl) _ rfl _ rfl _ hLow rfl ?_))
      go_ret
      exact ⟨rfl, hbel⟩
theorem back_walk (x : Nat) (n : Int) (hx : x < Nm.big) (_ : (Lit.int .i64 n).wf = true) (w : World) :
    Calls Try.prog 9 #[.agg (numC x), .int .i64 n] w fun e w' => e = .returned (.bool true) ∧ Below w.heap.size w w' := by
  by_cases hn : 0 ≤ n ∧ n ≤ 255
  · obtain ⟨m, rfl⟩ := Int.eq_ofNat_of_zero_le hn.1
    exact back_in x m hx (by omega) w
  · have hc : n < 0 ∨ (¬ n < 0 ∧ 255 < n) := by omega
    clear hn
    rcases hc with h | ⟨h, h2⟩
    all_goals
      go_enter Try.func9, Try.ntmps9
      go_upto_region 1 with fail
      generalize hw1 : World.alloc _ _ = w1
      have h0 : OneN w w1 w.heap.size x := by rw [← hw1]; exact ⟨(Below.refl _ _).alloc (Nat.le_refl _) _, Has.new _ _⟩
      clear hw1
      go_wp2_with fail
      refine (alive _).mono ?_
      rintro e v1 ⟨rfl, hb1⟩
      replace h0 := h0.on hb1
      go_wp2_with fail
      go_ret
      exact ⟨rfl, h0.below⟩
end Go.Proofs.Ytlljemggalmcdaa
