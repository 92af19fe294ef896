/-
  Texts of this seat, one behind the other.
-/
import Derived.Test.YtfnicmmebphpkaaDoorBunP
import Derived.Test.YtfnicmmebphpkaaDoorBunR
import Derived.Test.YtfnicmmebphpkaaDoorBunQ
/-
  compact: tooGreat, moved, Good, Decode, at every number.
-/
namespace Go.Proofs.YtfnicmmebphpkaaDoor.NN
open Go.RowKit
def ovr (s v : Nat) : Bool := decide (0 < v ∧ 34 < s ∨ 255 < v ∧ 33 < s ∨ 65535 < v ∧ 32 < s)
theorem ovr_dec (n : Nat) : Nm.decOver n = ovr (n / 16777216) (n % 8388608) := rfl
set_option maxRecDepth 100000 in
set_option maxHeartbeats 1000000 in
theorem tooGreat (s v : Nat) (hs : s < 256) (hv : v < 8388608) (w : World) :
    Calls Tryd.prog 50 #[.int .i64 (s : Int), .int .i64 (v : Int)] w fun e w' => e = .returned (.bool (ovr s v)) ∧ w = w' := by
  by_cases h0 : v = 0
  · subst h0
    have hr : ovr s 0 = false := by unfold ovr; exact decide_eq_false (by omega)
    rw [hr]
    go_enter Tryd.func50, Tryd.ntmps50
    go_wp2_with fail
    go_ret
    exact ⟨rfl, rfl⟩
  have b0 : ((v : Int) != 0) = true := by simp; omega
  obtain h | h | h | h | h | h : (34 < s) ∨ (s = 34 ∧ 255 < v) ∨ (s = 34 ∧ v ≤ 255) ∨ (s = 33 ∧ 65535 < v) ∨ (s = 33 ∧ v ≤ 65535) ∨ s ≤ 32 := by omega
  · have hr : ovr s v = true := by unfold ovr; exact decide_eq_true (by omega)
    have b1 : decide ((34 : Int) < (s : Int)) = true := decide_eq_true (by omega)
    rw [hr]
    clear h h0 hr
    go_enter Tryd.func50, Tryd.ntmps50
    go_wp2_with fail
    go_ret
    exact ⟨rfl, rfl⟩
  · have hr : ovr s v = true := by unfold ovr; exact decide_eq_true (by omega)
    have b1 : decide ((34 : Int) < (s : Int)) = false := decide_eq_false (by omega)
    have b2 : decide ((33 : Int) < (s : Int)) = true := decide_eq_true (by omega)
    have b3 : decide ((255 : Int) < (v : Int)) = true := decide_eq_true (by omega)
    rw [hr]
    clear h h0 hr
    go_enter Tryd.func50, Tryd.ntmps50
    go_wp2_with fail
    go_ret
    exact ⟨rfl, rfl⟩
  · have hr : ovr s v = false := by unfold ovr; exact decide_eq_false (by omega)
    have b1 : decide ((34 : Int) < (s : Int)) = false := decide_eq_false (by omega)
    have b2 : decide ((33 : Int) < (s : Int)) = true := decide_eq_true (by omega)
    have b3 : decide ((255 : Int) < (v : Int)) = false := decide_eq_false (by omega)
    have b4 : decide ((32 : Int) < (s : Int)) = true := decide_eq_true (by omega)
    have b5 : decide ((65535 : Int) < (v : Int)) = false := decide_eq_false (by omega)
    rw [hr]
    clear h h0 hr
    go_enter Tryd.func50, Tryd.ntmps50
    go_wp2_with fail
    go_ret
    exact ⟨rfl, rfl⟩
  · have hr : ovr s v = true := by unfold ovr; exact decide_eq_true (by omega)
    have b1 : decide ((34 : Int) < (s : Int)) = false := decide_eq_false (by omega)
    have b2 : decide ((33 : Int) < (s : Int)) = false := decide_eq_false (by omega)
    have b4 : decide ((32 : Int) < (s : Int)) = true := decide_eq_true (by omega)
    have b5 : decide ((65535 : Int) < (v : Int)) = true := decide_eq_true (by omega)
    rw [hr]
    clear h h0 hr
    go_enter Tryd.func50, Tryd.ntmps50
    go_wp2_with fail
    go_ret
    exact ⟨rfl, rfl⟩
  · have hr : ovr s v = false := by unfold ovr; exact decide_eq_false (by omega)
    have b1 : decide ((34 : Int) < (s : Int)) = false := decide_eq_false (by omega)
    have b2 : decide ((33 : Int) < (s : Int)) = false := decide_eq_false (by omega)
    have b4 : decide ((32 : Int) < (s : Int)) = true := decide_eq_true (by omega)
    have b5 : decide ((65535 : Int) < (v : Int)) = false := decide_eq_false (by omega)
    rw [hr]
    clear h h0 hr
    go_enter Tryd.func50, Tryd.ntmps50
    go_wp2_with fail
    go_ret
    exact ⟨rfl, rfl⟩
  · have hr : ovr s v = false := by unfold ovr; exact decide_eq_false (by omega)
    have b1 : decide ((34 : Int) < (s : Int)) = false := decide_eq_false (by omega)
    have b2 : decide ((33 : Int) < (s : Int)) = false := decide_eq_false (by omega)
    have b4 : decide ((32 : Int) < (s : Int)) = false := decide_eq_false (by omega)
    rw [hr]
    clear h h0 hr
    go_enter Tryd.func50, Tryd.ntmps50
    go_wp2_with fail
    go_ret
    exact ⟨rfl, rfl⟩
/-- a number that came in, and the result's block -/
structure Bx (w wr : World) (A x R : Nat) : Prop where
  below : Below w.heap.size w wr
  a : Has wr A (numC x) 54
  r : Has wr R (numC 0) 54
theorem Bx.on {w wr w' : World} {A x R : Nat} (h : Bx w wr A x R) (hb : Below wr.heap.size wr w') : Bx w w' A x R := ⟨h.below.trans (hb.mono h.below.size), h.a.on hb, h.r.on hb⟩
theorem Bx.start (w : World) (x : Nat) : Bx w ((w.alloc (.cells (numC x) 54)).alloc (.cells (numC 0) 54)) w.heap.size x (w.heap.size + 1) :=
  ⟨((Below.refl _ _).alloc (Nat.le_refl _) _).alloc (by simp) _, (Has.new _ _).alloc _, Has.new1 _ _ _⟩
theorem down_at (x k : Nat) (hx : x < Nm.big) (hk : 0 < k) (hm : k ≤ 300) (n : Int) (hn : n = ((8 * k : Nat) : Int)) (w : World) :
    Calls Tryd.prog 60 #[.agg (numC x), .int .i64 n] w fun e w' => e = .returned (.agg (numC (Nm.down x (8 * k)))) ∧ Below w.heap.size w w' := by
  subst hn; exact down_pos x (8 * k) hx (by omega) (by omega) w
theorem up_at (x k : Nat) (hx : x < Nm.big) (hm : k ≤ 300) (n : Int) (hn : n = ((8 * k : Nat) : Int)) (w : World) :
    Calls Tryd.prog 61 #[.agg (numC x), .int .i64 n] w fun e w' => e = .returned (.agg (numC (Nm.up x (8 * k)))) ∧ Below w.heap.size w w' := by
  subst hn
  by_cases h0 : k = 0
  · subst h0
    rw [Nm.up_zero hx]
    exact up_neg x _ (by omega) w
  · exact up_pos x (8 * k) hx (by omega) (by omega) w
set_option maxRecDepth 100000 in
set_option maxHeartbeats 1000000 in
theorem moved (x : Nat) (b : Int) (hx : x < Nm.big) (hl : -300 ≤ b) (hh : b ≤ 300) (w : World) :
    Calls Tryd.prog 48 #[.agg (numC x), .int .i64 b] w fun e w' => e = .returned (.agg (numC (Nm.mv x b))) ∧ Below w.heap.size w w' := by
  by_cases hb : b < 0
  · obtain ⟨k, rfl⟩ : ∃ k : Nat, b = -(k : Int) := ⟨(-b).toNat, by omega⟩
    have hr : Nm.mv x (-(k : Int)) = Nm.down x (8 * k) := by unfold Nm.mv; rw [if_pos hb, Int.neg_neg, Int.toNat_natCast]
    rw [hr]
    go_enter Tryd.func48, Tryd.ntmps48
    go_upto_region 1 with fail
    generalize hw1 : World.alloc _ _ = w1
    have h0 : Bx w w1 w.heap.size x (w.heap.size + 1) := by rw [← hw1]; exact Bx.start w x
    have hR : w.heap.size ≤ w.heap.size + 1 := by omega
    have HR := Lib.hid hR
    clear hw1 hR hr
    go_wp2_with (with_reducible refine num_load rfl _ rfl _ rfl _ h0.a rfl ?_)
    refine (down_at x k hx (by omega) (by omega) _ (by omega) _).mono ?_
    rintro e w2 ⟨rfl, hb2⟩
    have h2 := h0.on hb2
    go_wp2_with (with_reducible refine num_store rfl _ _ rfl _ _ rfl rfl _ h2.r rfl ?_)
    exact bodyPost_ret (v := .agg (numC (Nm.down x (8 * k)))) (num_results Tryd.results48 _ _ _ rfl (h2.r.row _)) rfl ⟨rfl, below_setRow h2.below HR.out _⟩
  · obtain ⟨k, rfl⟩ : ∃ k : Nat, b = (k : Int) := ⟨b.toNat, by omega⟩
    have hr : Nm.mv x (k : Int) = Nm.up x (8 * k) := by unfold Nm.mv; rw [if_neg hb, Int.toNat_natCast]
    rw [hr]
    go_enter Tryd.func48, Tryd.ntmps48
    go_upto_region 1 with fail
    generalize hw1 : World.alloc _ _ = w1
    have h0 : Bx w w1 w.heap.size x (w.heap.size + 1) := by rw [← hw1]; exact Bx.start w x
    have hR : w.heap.size ≤ w.heap.size + 1 := by omega
    have HR := Lib.hid hR
    clear hw1 hR hr hb
    go_wp2_with (with_reducible refine num_load rfl _ rfl _ rfl _ h0.a rfl ?_)
    refine (up_at x k hx (by omega) _ (by omega) _).mono ?_
    rintro e w2 ⟨rfl, hb2⟩
    have h2 := h0.on hb2
    go_wp2_with (with_reducible refine num_store rfl _ _ rfl _ _ rfl rfl _ h2.r rfl ?_)
    exact bodyPost_ret (v := .agg (numC (Nm.up x (8 * k)))) (num_results Tryd.results48 _ _ _ rfl (h2.r.row _)) rfl ⟨rfl, below_setRow h2.below HR.out _⟩
theorem results_cell_tmp2 {fn : Func} {p u v : Tmp} {ty : TypeId} (h : fn.results = #[.cell p ty, .tmp u, .tmp v]) (tmps : Array Value) (P : Program) (w : World) :
    (results fn tmps).run P w =
      ((asAddr (tmps.getD p undef)).run P w).andThen fun a w₁ => ((loadVar ty a).run P w₁).andThen fun x w₂ => .ok (.tuple #[x, tmps.getD u undef, tmps.getD v undef]) w₂ := by
  simp only [results, h]
  simp [Sem.run_bind, Result.andThen]
/-- a number's result with two more beside it -/
theorem num_results3 {w : World} {fn : Func} {p u v : Tmp} (h : fn.results = #[.cell p 54, .tmp u, .tmp v]) (tmps : Array Value) (g x : Nat) (y z : Value) (hp : tmps.getD p undef = .pointer (some ⟨g, 0, none⟩)) (hy : tmps.getD u undef = y) (hz : tmps.getD v undef = z) (hg : Has w g (numC x) 54) :
    (results fn tmps).run Tryd.prog w = .ok (.tuple #[.agg (numC x), y, z]) w := by
  rw [results_cell_tmp2 h, hp, hy, hz]
  have hl : (loadVar 54 ⟨g, 0, none⟩).run Tryd.prog w = .ok (.agg (numC x)) w := run_loadVar_row w g 54 54 (numC x) (0, 0) _ hg.out Tryd.underlying54 rfl infoNum
  simp [asAddr, hl, Result.andThen]
set_option maxRecDepth 100000 in
theorem good (b : Int) (w : World) :
    Calls Tryd.prog 47 #[.int .i64 b] w fun e w' => e = .returned (.bool (decide (0 ≤ b ∧ b ≤ 4294967295))) ∧ w = w' := by
  by_cases h0 : 0 ≤ b
  · have hr : decide (0 ≤ b ∧ b ≤ 4294967295) = decide (b ≤ 4294967295) := decide_eq_decide.2 (by omega)
    rw [hr]
    go_enter Tryd.func47, Tryd.ntmps47
    go_wp2_with fail
    go_ret
    exact ⟨rfl, rfl⟩
  · have hr : decide (0 ≤ b ∧ b ≤ 4294967295) = false := decide_eq_false (by omega)
    rw [hr]
    go_enter Tryd.func47, Tryd.ntmps47
    go_wp2_with fail
    go_ret
    exact ⟨rfl, rfl⟩
theorem good_no (b : Int) (h : ¬ (0 ≤ b ∧ b ≤ 4294967295)) (w : World) :
    Calls Tryd.prog 47 #[.int .i64 b] w fun e w' => e = .returned (.bool false) ∧ w = w' := by
  have := good b w; rwa [decide_eq_false h] at this
theorem good_yes (b : Int) (h : 0 ≤ b ∧ b ≤ 4294967295) (w : World) :
    Calls Tryd.prog 47 #[.int .i64 b] w fun e w' => e = .returned (.bool true) ∧ w = w' := by
  have := good b w; rwa [decide_eq_true h] at this
set_option maxRecDepth 100000 in
set_option maxHeartbeats 1000000 in
theorem decode_no (b : Int) (h : ¬ (0 ≤ b ∧ b ≤ 4294967295)) (w : World) :
    Calls Tryd.prog 38 #[.int .i64 b] w fun e w' => e = .returned (.tuple #[.agg (numC 0), .bool false, .bool false]) ∧ Below w.heap.size w w' := by
  have hg := Lib.hid (good_no b h)
  clear h
  go_enter Tryd.func38, Tryd.ntmps38
  go_upto_region 1 with fail
  generalize hw1 : World.alloc _ _ = w1
  have hN : Has w1 w.heap.size (numC 0) 54 := by rw [← hw1]; exact Has.newz _
  have hb : Below w.heap.size w w1 := by rw [← hw1]; exact (Below.refl _ _).alloc (Nat.le_refl _) _
  clear hw1
  go_wp2_with fail
  refine (hg.out _).mono ?_
  rintro e w2 ⟨rfl, rfl⟩
  go_wp2_with (with_reducible refine num_store_eq rfl _ _ rfl _ 0 _ rfl rfl zero4 _ hN rfl ?_)
  exact bodyPost_ret (v := .tuple #[.agg (numC 0), .bool false, .bool false]) (num_results3 Tryd.results38 _ _ _ _ _ rfl rfl rfl (hN.row _)) rfl ⟨rfl, below_setRow hb (Nat.le_refl _) _⟩
end Go.Proofs.YtfnicmmebphpkaaDoor.NN
/-
  compact: Decode of a target in short.
-/
namespace Go.Proofs.YtfnicmmebphpkaaDoor.NN
open Go.RowKit
theorem andI (a b : Nat) (ha : a < 9223372036854775808) (hb : b < 9223372036854775808) : bits .and .i64 (a : Int) (b : Int) = ((a &&& b : Nat) : Int) := by
  have h : a &&& b ≤ a := Nat.and_le_left
  show IntKind.i64.wrap ((BitVec.ofInt 64 (a : Int) &&& BitVec.ofInt 64 (b : Int)).toNat : Int) = _
  rw [BitVec.ofInt_natCast, BitVec.ofInt_natCast, BitVec.toNat_and, BitVec.toNat_ofNat, BitVec.toNat_ofNat, Nat.mod_eq_of_lt (by omega), Nat.mod_eq_of_lt (by omega), IntKind.wrap_i64]
  omega
theorem orI (a b : Nat) (ha : a < 9223372036854775808) (hb : b < 9223372036854775808) : bits .or .i64 (a : Int) (b : Int) = ((a ||| b : Nat) : Int) := by
  have h : a ||| b < 2 ^ 63 := Nat.or_lt_two_pow ha hb
  show IntKind.i64.wrap ((BitVec.ofInt 64 (a : Int) ||| BitVec.ofInt 64 (b : Int)).toNat : Int) = _
  rw [BitVec.ofInt_natCast, BitVec.ofInt_natCast, BitVec.toNat_or, BitVec.toNat_ofNat, BitVec.toNat_ofNat, Nat.mod_eq_of_lt (by omega), Nat.mod_eq_of_lt (by omega), IntKind.wrap_i64]
  omega
theorem and_two_pow' (n i : Nat) : n &&& 2 ^ i = n / 2 ^ i % 2 * 2 ^ i := by
  apply Nat.eq_of_testBit_eq
  intro j
  rw [Nat.testBit_and, Nat.testBit_two_pow, ← Nat.toNat_testBit]
  cases h : n.testBit i
  · by_cases hj : i = j
    · subst hj; simp [h]
    · simp [hj]
  · by_cases hj : i = j
    · subst hj; simp [h]
    · simp [hj]
theorem and_word (n : Nat) (hn : n < 4294967296) : bits .and .i64 (n : Int) 8388607 = ((n % 8388608 : Nat) : Int) := by
  have := andI n 8388607 (by omega) (by omega)
  rw [show n &&& 8388607 = n % 8388608 from Nat.and_two_pow_sub_one_eq_mod n 23] at this
  exact this
theorem and_sign (n : Nat) (hn : n < 4294967296) : bits .and .i64 (n : Int) 8388608 = ((n / 8388608 % 2 * 8388608 : Nat) : Int) := by
  have := andI n 8388608 (by omega) (by omega)
  rw [show n &&& 8388608 = n / 8388608 % 2 * 8388608 from and_two_pow' n 23] at this
  exact this
set_option maxRecDepth 100000 in
set_option maxHeartbeats 1000000 in
theorem decode_yes (n : Nat) (hn : n < 4294967296) (w : World) :
    Calls Tryd.prog 38 #[.int .i64 (n : Int)] w fun e w' => e = .returned (.tuple #[.agg (numC (Nm.decN n)), .bool (Nm.decLow n), .bool (Nm.decOver n)]) ∧ Below w.heap.size w w' := by
  have hg := Lib.hid (good_yes (n : Int) (by omega))
  obtain ⟨s, hs⟩ : ∃ s, s = n / 16777216 := ⟨_, rfl⟩
  obtain ⟨v, hv⟩ : ∃ v, v = n % 8388608 := ⟨_, rfl⟩
  have eA := and_word n hn
  have eS := and_sign n hn
  have eD : (n : Int) / 16777216 = (s : Nat) := by omega
  have hs2 : s < 256 := by omega
  have hv2 : v < 8388608 := by omega
  have hL : Nm.decLow n = (decide (0 < v) && decide (n / 8388608 % 2 = 1)) := by rw [hv]; rfl
  have hO : Nm.decOver n = ovr s v := by rw [hv, hs]; rfl
  have hM : Nm.decN n = Nm.mv v ((s : Nat) - 3) := by rw [hv, hs]; rfl
  rw [hL, hO, hM]
  rw [← hv] at eA
  have hq : n / 8388608 % 2 < 2 := by omega
  generalize n / 8388608 % 2 = q at *
  have hvb : v < Nm.big := by unfold Nm.big; omega
  have cT := Lib.hid (tooGreat s v hs2 hv2)
  have cM := Lib.hid (moved v ((s : Nat) - 3) hvb (by omega) (by omega))
  have cO := Lib.hid (of v (by omega))
  generalize Nm.mv v ((s : Nat) - 3) = z at *
  generalize ovr s v = ov at *
  clear hL hO hM hs hvb hv
  obtain rfl | ⟨h0, rfl⟩ | ⟨h0, rfl⟩ : v = 0 ∨ (v ≠ 0 ∧ q = 0) ∨ (v ≠ 0 ∧ q = 1) := by omega
  · rw [show (decide (0 < 0) && decide (q = 1)) = false from rfl]
    clear eS hq
    go_enter Tryd.func38, Tryd.ntmps38
    go_upto_region 1 with fail
    generalize hw1 : World.alloc _ _ = w1
    have hN : Has w1 w.heap.size (numC 0) 54 := by rw [← hw1]; exact Has.newz _
    have hb : Below w.heap.size w w1 := by rw [← hw1]; exact (Below.refl _ _).alloc (Nat.le_refl _) _
    clear hw1
    go_wp2_with fail
    refine (hg.out _).mono ?_
    rintro e w2 ⟨rfl, rfl⟩
    go_wp2_with fail
    refine (cO.out _).mono ?_
    rintro e w3 ⟨rfl, hb3⟩
    replace hN := hN.on hb3
    replace hb := hb.trans (hb3.mono hb.size)
    clear hb3
    go_wp2_with fail
    refine (cM.out _).mono ?_
    rintro e w4 ⟨rfl, hb4⟩
    replace hN := hN.on hb4
    replace hb := hb.trans (hb4.mono hb.size)
    clear hb4
    go_wp2_with fail
    refine (cT.out _).mono ?_
    rintro e w5 ⟨rfl, rfl⟩
    go_wp2_with (with_reducible refine num_store rfl _ _ rfl _ _ rfl rfl _ hN rfl ?_)
    exact bodyPost_ret (v := .tuple #[.agg (numC z), .bool false, .bool ov]) (num_results3 Tryd.results38 _ _ _ _ _ rfl rfl rfl (hN.row _)) rfl ⟨rfl, below_setRow hb (Nat.le_refl _) _⟩
  · rw [show (decide (0 < v) && decide (0 = 1)) = false by simp]
    have b0 : ((v : Int) != 0) = true := by simp; omega
    clear h0 hq
    go_enter Tryd.func38, Tryd.ntmps38
    go_upto_region 1 with fail
    generalize hw1 : World.alloc _ _ = w1
    have hN : Has w1 w.heap.size (numC 0) 54 := by rw [← hw1]; exact Has.newz _
    have hb : Below w.heap.size w w1 := by rw [← hw1]; exact (Below.refl _ _).alloc (Nat.le_refl _) _
    clear hw1
    go_wp2_with fail
    refine (hg.out _).mono ?_
    rintro e w2 ⟨rfl, rfl⟩
    go_wp2_with fail
    refine (cO.out _).mono ?_
    rintro e w3 ⟨rfl, hb3⟩
    replace hN := hN.on hb3
    replace hb := hb.trans (hb3.mono hb.size)
    clear hb3
    go_wp2_with fail
    refine (cM.out _).mono ?_
    rintro e w4 ⟨rfl, hb4⟩
    replace hN := hN.on hb4
    replace hb := hb.trans (hb4.mono hb.size)
    clear hb4
    go_wp2_with fail
    refine (cT.out _).mono ?_
    rintro e w5 ⟨rfl, rfl⟩
    go_wp2_with (with_reducible refine num_store rfl _ _ rfl _ _ rfl rfl _ hN rfl ?_)
    exact bodyPost_ret (v := .tuple #[.agg (numC z), .bool false, .bool ov]) (num_results3 Tryd.results38 _ _ _ _ _ rfl rfl rfl (hN.row _)) rfl ⟨rfl, below_setRow hb (Nat.le_refl _) _⟩
  · rw [show (decide (0 < v) && decide (1 = 1)) = true by simp; omega]
    have b0 : ((v : Int) != 0) = true := by simp; omega
    clear h0 hq
    go_enter Tryd.func38, Tryd.ntmps38
    go_upto_region 1 with fail
    generalize hw1 : World.alloc _ _ = w1
    have hN : Has w1 w.heap.size (numC 0) 54 := by rw [← hw1]; exact Has.newz _
    have hb : Below w.heap.size w w1 := by rw [← hw1]; exact (Below.refl _ _).alloc (Nat.le_refl _) _
    clear hw1
    go_wp2_with fail
    refine (hg.out _).mono ?_
    rintro e w2 ⟨rfl, rfl⟩
    go_wp2_with fail
    refine (cO.out _).mono ?_
    rintro e w3 ⟨rfl, hb3⟩
    replace hN := hN.on hb3
    replace hb := hb.trans (hb3.mono hb.size)
    clear hb3
    go_wp2_with fail
    refine (cM.out _).mono ?_
    rintro e w4 ⟨rfl, hb4⟩
    replace hN := hN.on hb4
    replace hb := hb.trans (hb4.mono hb.size)
    clear hb4
    go_wp2_with fail
    refine (cT.out _).mono ?_
    rintro e w5 ⟨rfl, rfl⟩
    go_wp2_with (with_reducible refine num_store rfl _ _ rfl _ _ rfl rfl _ hN rfl ?_)
    exact bodyPost_ret (v := .tuple #[.agg (numC z), .bool true, .bool ov]) (num_results3 Tryd.results38 _ _ _ _ _ rfl rfl rfl (hN.row _)) rfl ⟨rfl, below_setRow hb (Nat.le_refl _) _⟩
end Go.Proofs.YtfnicmmebphpkaaDoor.NN
/-
  The reference's Decode (layer 3), at every number.
-/
namespace Go.Proofs.YtfnicmmebphpkaaDoor.NN
open Go.RowKit
theorem ref_mv (x : Nat) (b : Int) (hx : x < Nm.big) (hl : -300 ≤ b) (hh : b ≤ 300) (m : Int) (hm : m = 8 * b) (w : World) :
    Calls Tryd.prog 40 #[.agg (numC x), .int .i64 m] w fun e w' => e = .returned (.agg (numC (Nm.mv x b))) ∧ Below w.heap.size w w' := by
  subst hm
  by_cases hb : b < 0
  · obtain ⟨k, rfl⟩ : ∃ k : Nat, b = -(k : Int) := ⟨(-b).toNat, by omega⟩
    have hr : Nm.mv x (-(k : Int)) = Nm.down x (8 * k) := by unfold Nm.mv; rw [if_pos hb, Int.neg_neg, Int.toNat_natCast]
    rw [hr, show (8 * -(k : Int)) = -((8 * k : Nat) : Int) by omega]
    exact ref_move_down x (8 * k) hx (by omega) (by omega) w
  · obtain ⟨k, rfl⟩ : ∃ k : Nat, b = (k : Int) := ⟨b.toNat, by omega⟩
    have hr : Nm.mv x (k : Int) = Nm.up x (8 * k) := by unfold Nm.mv; rw [if_neg hb, Int.toNat_natCast]
    rw [hr, show (8 * (k : Int)) = ((8 * k : Nat) : Int) by omega]
    exact ref_move_up x (8 * k) hx (by omega) w
theorem ref_mv_small (v : Nat) (b : Int) (hv : v < 18446744073709551616) (hl : -300 ≤ b) (hh : b ≤ 300) (m : Int) (hm : m = 8 * b) (w : World) :
    Calls Tryd.prog 40 #[.agg #[.int .u64 (v : Int), .int .u64 0, .int .u64 0, .int .u64 0], .int .i64 m] w fun e w' => e = .returned (.agg (numC (Nm.mv v b))) ∧ Below w.heap.size w w' := by
  rw [small_cells v hv]; exact ref_mv v b (by unfold Nm.big; omega) hl hh m hm w
set_option maxRecDepth 100000 in
set_option maxHeartbeats 1000000 in
theorem ref_decode_no (b : Int) (h : ¬ (0 ≤ b ∧ b ≤ 4294967295)) (w : World) :
    Calls Tryd.prog 24 #[.int .i64 b] w fun e w' => e = .returned (.tuple #[.agg (numC 0), .bool false, .bool false]) ∧ Below w.heap.size w w' := by
  obtain ⟨b0, b1⟩ | b0 : (decide (b < 0) = false ∧ decide (4294967295 < b) = true) ∨ decide (b < 0) = true := by
    simp; omega
  all_goals
    clear h
    go_enter Tryd.func24, Tryd.ntmps24
    go_upto_region 1 with fail
    generalize hw1 : World.alloc _ _ = w1
    have hN : Has w1 w.heap.size (numC 0) 54 := by rw [← hw1]; exact Has.newz _
    have hb : Below w.heap.size w w1 := by rw [← hw1]; exact (Below.refl _ _).alloc (Nat.le_refl _) _
    clear hw1
    go_wp2_with (with_reducible refine num_store_eq rfl _ _ rfl _ 0 _ rfl rfl zero4 _ hN rfl ?_)
    exact bodyPost_ret (v := .tuple #[.agg (numC 0), .bool false, .bool false]) (num_results3 Tryd.results24 _ _ _ _ _ rfl rfl rfl (hN.row _)) rfl ⟨rfl, below_setRow hb (Nat.le_refl _) _⟩
set_option maxRecDepth 100000 in
set_option maxHeartbeats 1000000 in
theorem ref_decode_yes (n : Nat) (hn : n < 4294967296) (w : World) :
    Calls Tryd.prog 24 #[.int .i64 (n : Int)] w fun e w' => e = .returned (.tuple #[.agg (numC (Nm.decN n)), .bool (Nm.decLow n), .bool (Nm.decOver n)]) ∧ Below w.heap.size w w' := by
  obtain ⟨s, hs⟩ : ∃ s, s = n / 16777216 := ⟨_, rfl⟩
  obtain ⟨v, hv⟩ : ∃ v, v = n % 8388608 := ⟨_, rfl⟩
  obtain ⟨qb, hqb⟩ : ∃ qb, qb = decide (n / 8388608 % 2 = 1) := ⟨_, rfl⟩
  have g0 : decide ((n : Int) < 0) = false := decide_eq_false (by omega)
  have g1 : decide ((4294967295 : Int) < (n : Int)) = false := decide_eq_false (by omega)
  have hs2 : s < 256 := by omega
  have hv2 : v < 8388608 := by omega
  have hL : Nm.decLow n = (decide (0 < v) && qb) := by rw [hv, hqb]; rfl
  have hO : Nm.decOver n = ovr s v := by rw [hv, hs]; rfl
  have hM : Nm.decN n = Nm.mv v ((s : Nat) - 3) := by rw [hv, hs]; rfl
  rw [hL, hO, hM]
  have cM := Lib.hid (ref_mv_small v ((s : Nat) - 3) (by omega) (by omega) (by omega) _ rfl)
  generalize Nm.mv v ((s : Nat) - 3) = z at *
  have eD : (n : Int) / 16777216 = (s : Nat) := by omega
  have eV : (n : Int) % 8388608 = (v : Nat) := by omega
  have eQ : ((n : Int) / 8388608 % 2 == 1) = qb := by
    rw [hqb, show (n : Int) / 8388608 % 2 = ((n / 8388608 % 2 : Nat) : Int) by omega]
    generalize n / 8388608 % 2 = k
    rw [Bool.eq_iff_iff]; simp; omega
  clear hL hO hM hs hv hqb
  obtain rfl | h | h | h | h | h | h : v = 0 ∨ (0 < v ∧ 34 < s) ∨ (0 < v ∧ v ≤ 255 ∧ s ≤ 34) ∨ (255 < v ∧ s = 34) ∨ (255 < v ∧ v ≤ 65535 ∧ s ≤ 33) ∨ (65535 < v ∧ s = 33) ∨ (65535 < v ∧ s ≤ 32) := by omega
  · have hr : ovr s 0 = false := by unfold ovr; exact decide_eq_false (by omega)
    have hl : (decide (0 < 0) && qb) = false := by simp
    rw [hr, hl]
    clear hr hl
    go_enter Tryd.func24, Tryd.ntmps24
    go_upto_region 1 with fail
    generalize hw1 : World.alloc _ _ = w1
    have hN : Has w1 w.heap.size (numC 0) 54 := by rw [← hw1]; exact Has.newz _
    have hb : Below w.heap.size w w1 := by rw [← hw1]; exact (Below.refl _ _).alloc (Nat.le_refl _) _
    clear hw1
    go_wp2_with fail
    refine (cM.out _).mono ?_
    rintro e w3 ⟨rfl, hb3⟩
    replace hN := hN.on hb3
    replace hb := hb.trans (hb3.mono hb.size)
    clear hb3
    have hZ := Has.newz (w := w3) 54
    go_upto_region 7 with (with_reducible refine num_store rfl _ _ rfl _ _ rfl rfl _ hZ rfl ?_)
    generalize hw4 : World.setRow _ _ _ = w4
    have hb4 : Below w3.heap.size w3 w4 := by rw [← hw4]; exact below_setRow ((Below.refl _ _).alloc (Nat.le_refl _) _) (Nat.le_refl _) _
    have hD : Has w4 w3.heap.size (numC z) 54 := by rw [← hw4]; exact hZ.row _
    replace hN := hN.on hb4
    replace hb := hb.trans (hb4.mono hb.size)
    generalize w3.heap.size = D at *
    clear hw4 hb4 hZ
    go_wp2_with (first | (with_reducible refine num_load rfl _ rfl _ rfl _ hD rfl ?_) | (with_reducible refine num_store rfl _ _ rfl _ _ rfl rfl _ hN rfl ?_))
    exact bodyPost_ret (v := .tuple #[.agg (numC z), .bool false, .bool false]) (num_results3 Tryd.results24 _ _ _ _ _ rfl rfl rfl (hN.row _)) rfl ⟨rfl, below_setRow hb (Nat.le_refl _) _⟩
  · have hr : ovr s v = true := by unfold ovr; exact decide_eq_true (by omega)
    have hl : (decide (0 < v) && qb) = qb := by rw [decide_eq_true (show 0 < v by omega), Bool.true_and]
    have b0 : 0 < v := by omega
    have b1 : decide ((34 : Int) < (s : Int)) = true := decide_eq_true (by omega)
    rw [hr, hl]
    clear h hr hl
    go_enter Tryd.func24, Tryd.ntmps24
    go_upto_region 1 with fail
    generalize hw1 : World.alloc _ _ = w1
    have hN : Has w1 w.heap.size (numC 0) 54 := by rw [← hw1]; exact Has.newz _
    have hb : Below w.heap.size w w1 := by rw [← hw1]; exact (Below.refl _ _).alloc (Nat.le_refl _) _
    clear hw1
    go_wp2_with fail
    refine (cM.out _).mono ?_
    rintro e w3 ⟨rfl, hb3⟩
    replace hN := hN.on hb3
    replace hb := hb.trans (hb3.mono hb.size)
    clear hb3
    have hZ := Has.newz (w := w3) 54
    go_upto_region 7 with (with_reducible refine num_store rfl _ _ rfl _ _ rfl rfl _ hZ rfl ?_)
    generalize hw4 : World.setRow _ _ _ = w4
    have hb4 : Below w3.heap.size w3 w4 := by rw [← hw4]; exact below_setRow ((Below.refl _ _).alloc (Nat.le_refl _) _) (Nat.le_refl _) _
    have hD : Has w4 w3.heap.size (numC z) 54 := by rw [← hw4]; exact hZ.row _
    replace hN := hN.on hb4
    replace hb := hb.trans (hb4.mono hb.size)
    generalize w3.heap.size = D at *
    clear hw4 hb4 hZ
    go_wp2_with (first | (with_reducible refine num_load rfl _ rfl _ rfl _ hD rfl ?_) | (with_reducible refine num_store rfl _ _ rfl _ _ rfl rfl _ hN rfl ?_))
    exact bodyPost_ret (v := .tuple #[.agg (numC z), .bool qb, .bool true]) (num_results3 Tryd.results24 _ _ _ _ _ rfl rfl rfl (hN.row _)) rfl ⟨rfl, below_setRow hb (Nat.le_refl _) _⟩
  · have hr : ovr s v = false := by unfold ovr; exact decide_eq_false (by omega)
    have hl : (decide (0 < v) && qb) = qb := by rw [decide_eq_true (show 0 < v by omega), Bool.true_and]
    have b0 : 0 < v := by omega
    have b1 : decide ((34 : Int) < (s : Int)) = false := decide_eq_false (by omega)
    have b2 : decide ((255 : Int) < (v : Int)) = false := decide_eq_false (by omega)
    have b3 : decide ((65535 : Int) < (v : Int)) = false := decide_eq_false (by omega)
    rw [hr, hl]
    clear h hr hl
    go_enter Tryd.func24, Tryd.ntmps24
    go_upto_region 1 with fail
    generalize hw1 : World.alloc _ _ = w1
    have hN : Has w1 w.heap.size (numC 0) 54 := by rw [← hw1]; exact Has.newz _
    have hb : Below w.heap.size w w1 := by rw [← hw1]; exact (Below.refl _ _).alloc (Nat.le_refl _) _
    clear hw1
    go_wp2_with fail
    refine (cM.out _).mono ?_
    rintro e w3 ⟨rfl, hb3⟩
    replace hN := hN.on hb3
    replace hb := hb.trans (hb3.mono hb.size)
    clear hb3
    have hZ := Has.newz (w := w3) 54
    go_upto_region 7 with (with_reducible refine num_store rfl _ _ rfl _ _ rfl rfl _ hZ rfl ?_)
    generalize hw4 : World.setRow _ _ _ = w4
    have hb4 : Below w3.heap.size w3 w4 := by rw [← hw4]; exact below_setRow ((Below.refl _ _).alloc (Nat.le_refl _) _) (Nat.le_refl _) _
    have hD : Has w4 w3.heap.size (numC z) 54 := by rw [← hw4]; exact hZ.row _
    replace hN := hN.on hb4
    replace hb := hb.trans (hb4.mono hb.size)
    generalize w3.heap.size = D at *
    clear hw4 hb4 hZ
    go_wp2_with (first | (with_reducible refine num_load rfl _ rfl _ rfl _ hD rfl ?_) | (with_reducible refine num_store rfl _ _ rfl _ _ rfl rfl _ hN rfl ?_))
    exact bodyPost_ret (v := .tuple #[.agg (numC z), .bool qb, .bool false]) (num_results3 Tryd.results24 _ _ _ _ _ rfl rfl rfl (hN.row _)) rfl ⟨rfl, below_setRow hb (Nat.le_refl _) _⟩
  · have hr : ovr s v = true := by unfold ovr; exact decide_eq_true (by omega)
    have hl : (decide (0 < v) && qb) = qb := by rw [decide_eq_true (show 0 < v by omega), Bool.true_and]
    have b0 : 0 < v := by omega
    have b1 : decide ((34 : Int) < (s : Int)) = false := decide_eq_false (by omega)
    have b2 : decide ((255 : Int) < (v : Int)) = true := decide_eq_true (by omega)
    have b3 : decide ((33 : Int) < (s : Int)) = true := decide_eq_true (by omega)
    rw [hr, hl]
    clear h hr hl
    go_enter Tryd.func24, Tryd.ntmps24
    go_upto_region 1 with fail
    generalize hw1 : World.alloc _ _ = w1
    have hN : Has w1 w.heap.size (numC 0) 54 := by rw [← hw1]; exact Has.newz _
    have hb : Below w.heap.size w w1 := by rw [← hw1]; exact (Below.refl _ _).alloc (Nat.le_refl _) _
    clear hw1
    go_wp2_with fail
    refine (cM.out _).mono ?_
    rintro e w3 ⟨rfl, hb3⟩
    replace hN := hN.on hb3
    replace hb := hb.trans (hb3.mono hb.size)
    clear hb3
    have hZ := Has.newz (w := w3) 54
    go_upto_region 7 with (with_reducible refine num_store rfl _ _ rfl _ _ rfl rfl _ hZ rfl ?_)
    generalize hw4 : World.setRow _ _ _ = w4
    have hb4 : Below w3.heap.size w3 w4 := by rw [← hw4]; exact below_setRow ((Below.refl _ _).alloc (Nat.le_refl _) _) (Nat.le_refl _) _
    have hD : Has w4 w3.heap.size (numC z) 54 := by rw [← hw4]; exact hZ.row _
    replace hN := hN.on hb4
    replace hb := hb.trans (hb4.mono hb.size)
    generalize w3.heap.size = D at *
    clear hw4 hb4 hZ
    go_wp2_with (first | (with_reducible refine num_load rfl _ rfl _ rfl _ hD rfl ?_) | (with_reducible refine num_store rfl _ _ rfl _ _ rfl rfl _ hN rfl ?_))
    exact bodyPost_ret (v := .tuple #[.agg (numC z), .bool qb, .bool true]) (num_results3 Tryd.results24 _ _ _ _ _ rfl rfl rfl (hN.row _)) rfl ⟨rfl, below_setRow hb (Nat.le_refl _) _⟩
  · have hr : ovr s v = false := by unfold ovr; exact decide_eq_false (by omega)
    have hl : (decide (0 < v) && qb) = qb := by rw [decide_eq_true (show 0 < v by omega), Bool.true_and]
    have b0 : 0 < v := by omega
    have b1 : decide ((34 : Int) < (s : Int)) = false := decide_eq_false (by omega)
    have b2 : decide ((255 : Int) < (v : Int)) = true := decide_eq_true (by omega)
    have b3 : decide ((33 : Int) < (s : Int)) = false := decide_eq_false (by omega)
    have b4 : decide ((65535 : Int) < (v : Int)) = false := decide_eq_false (by omega)
    rw [hr, hl]
    clear h hr hl
    go_enter Tryd.func24, Tryd.ntmps24
    go_upto_region 1 with fail
    generalize hw1 : World.alloc _ _ = w1
    have hN : Has w1 w.heap.size (numC 0) 54 := by rw [← hw1]; exact Has.newz _
    have hb : Below w.heap.size w w1 := by rw [← hw1]; exact (Below.refl _ _).alloc (Nat.le_refl _) _
    clear hw1
    go_wp2_with fail
    refine (cM.out _).mono ?_
    rintro e w3 ⟨rfl, hb3⟩
    replace hN := hN.on hb3
    replace hb := hb.trans (hb3.mono hb.size)
    clear hb3
    have hZ := Has.newz (w := w3) 54
    go_upto_region 7 with (with_reducible refine num_store rfl _ _ rfl _ _ rfl rfl _ hZ rfl ?_)
    generalize hw4 : World.setRow _ _ _ = w4
    have hb4 : Below w3.heap.size w3 w4 := by rw [← hw4]; exact below_setRow ((Below.refl _ _).alloc (Nat.le_refl _) _) (Nat.le_refl _) _
    have hD : Has w4 w3.heap.size (numC z) 54 := by rw [← hw4]; exact hZ.row _
    replace hN := hN.on hb4
    replace hb := hb.trans (hb4.mono hb.size)
    generalize w3.heap.size = D at *
    clear hw4 hb4 hZ
    go_wp2_with (first | (with_reducible refine num_load rfl _ rfl _ rfl _ hD rfl ?_) | (with_reducible refine num_store rfl _ _ rfl _ _ rfl rfl _ hN rfl ?_))
    exact bodyPost_ret (v := .tuple #[.agg (numC z), .bool qb, .bool false]) (num_results3 Tryd.results24 _ _ _ _ _ rfl rfl rfl (hN.row _)) rfl ⟨rfl, below_setRow hb (Nat.le_refl _) _⟩
  · have hr : ovr s v = true := by unfold ovr; exact decide_eq_true (by omega)
    have hl : (decide (0 < v) && qb) = qb := by rw [decide_eq_true (show 0 < v by omega), Bool.true_and]
    have b0 : 0 < v := by omega
    have b1 : decide ((34 : Int) < (s : Int)) = false := decide_eq_false (by omega)
    have b2 : decide ((255 : Int) < (v : Int)) = true := decide_eq_true (by omega)
    have b3 : decide ((33 : Int) < (s : Int)) = false := decide_eq_false (by omega)
    have b4 : decide ((65535 : Int) < (v : Int)) = true := decide_eq_true (by omega)
    have b5 : decide ((32 : Int) < (s : Int)) = true := decide_eq_true (by omega)
    rw [hr, hl]
    clear h hr hl
    go_enter Tryd.func24, Tryd.ntmps24
    go_upto_region 1 with fail
    generalize hw1 : World.alloc _ _ = w1
    have hN : Has w1 w.heap.size (numC 0) 54 := by rw [← hw1]; exact Has.newz _
    have hb : Below w.heap.size w w1 := by rw [← hw1]; exact (Below.refl _ _).alloc (Nat.le_refl _) _
    clear hw1
    go_wp2_with fail
    refine (cM.out _).mono ?_
    rintro e w3 ⟨rfl, hb3⟩
    replace hN := hN.on hb3
    replace hb := hb.trans (hb3.mono hb.size)
    clear hb3
    have hZ := Has.newz (w := w3) 54
    go_upto_region 7 with (with_reducible refine num_store rfl _ _ rfl _ _ rfl rfl _ hZ rfl ?_)
    generalize hw4 : World.setRow _ _ _ = w4
    have hb4 : Below w3.heap.size w3 w4 := by rw [← hw4]; exact below_setRow ((Below.refl _ _).alloc (Nat.le_refl _) _) (Nat.le_refl _) _
    have hD : Has w4 w3.heap.size (numC z) 54 := by rw [← hw4]; exact hZ.row _
    replace hN := hN.on hb4
    replace hb := hb.trans (hb4.mono hb.size)
    generalize w3.heap.size = D at *
    clear hw4 hb4 hZ
    go_wp2_with (first | (with_reducible refine num_load rfl _ rfl _ rfl _ hD rfl ?_) | (with_reducible refine num_store rfl _ _ rfl _ _ rfl rfl _ hN rfl ?_))
    exact bodyPost_ret (v := .tuple #[.agg (numC z), .bool qb, .bool true]) (num_results3 Tryd.results24 _ _ _ _ _ rfl rfl rfl (hN.row _)) rfl ⟨rfl, below_setRow hb (Nat.le_refl _) _⟩
  · have hr : ovr s v = false := by unfold ovr; exact decide_eq_false (by omega)
    have hl : (decide (0 < v) && qb) = qb := by rw [decide_eq_true (show 0 < v by omega), Bool.true_and]
    have b0 : 0 < v := by omega
    have b1 : decide ((34 : Int) < (s : Int)) = false := decide_eq_false (by omega)
    have b2 : decide ((255 : Int) < (v : Int)) = true := decide_eq_true (by omega)
    have b3 : decide ((33 : Int) < (s : Int)) = false := decide_eq_false (by omega)
    have b4 : decide ((65535 : Int) < (v : Int)) = true := decide_eq_true (by omega)
    have b5 : decide ((32 : Int) < (s : Int)) = false := decide_eq_false (by omega)
    rw [hr, hl]
    clear h hr hl
    go_enter Tryd.func24, Tryd.ntmps24
    go_upto_region 1 with fail
    generalize hw1 : World.alloc _ _ = w1
    have hN : Has w1 w.heap.size (numC 0) 54 := by rw [← hw1]; exact Has.newz _
    have hb : Below w.heap.size w w1 := by rw [← hw1]; exact (Below.refl _ _).alloc (Nat.le_refl _) _
    clear hw1
    go_wp2_with fail
    refine (cM.out _).mono ?_
    rintro e w3 ⟨rfl, hb3⟩
    replace hN := hN.on hb3
    replace hb := hb.trans (hb3.mono hb.size)
    clear hb3
    have hZ := Has.newz (w := w3) 54
    go_upto_region 7 with (with_reducible refine num_store rfl _ _ rfl _ _ rfl rfl _ hZ rfl ?_)
    generalize hw4 : World.setRow _ _ _ = w4
    have hb4 : Below w3.heap.size w3 w4 := by rw [← hw4]; exact below_setRow ((Below.refl _ _).alloc (Nat.le_refl _) _) (Nat.le_refl _) _
    have hD : Has w4 w3.heap.size (numC z) 54 := by rw [← hw4]; exact hZ.row _
    replace hN := hN.on hb4
    replace hb := hb.trans (hb4.mono hb.size)
    generalize w3.heap.size = D at *
    clear hw4 hb4 hZ
    go_wp2_with (first | (with_reducible refine num_load rfl _ rfl _ rfl _ hD rfl ?_) | (with_reducible refine num_store rfl _ _ rfl _ _ rfl rfl _ hN rfl ?_))
    exact bodyPost_ret (v := .tuple #[.agg (numC z), .bool qb, .bool false]) (num_results3 Tryd.results24 _ _ _ _ _ rfl rfl rfl (hN.row _)) rfl ⟨rfl, below_setRow hb (Nat.le_refl _) _⟩
end Go.Proofs.YtfnicmmebphpkaaDoor.NN
/-
  Layer 3's laws: what the document tells, first.
-/
namespace Go.Proofs.YtfnicmmebphpkaaDoor.NN
open Go.RowKit
theorem eql_same'' (z : Nat) (w : World) : (binOp .eql 54 (.agg (numC z)) (.agg (numC z))).run Tryd.prog w = .ok (.bool true) w := by
  rw [numC_wds, run_eql_ints w .u64 54 52 4 Tryd.underlying54 Tryd.underlying52 wordSize _ _ rfl rfl]; simp
theorem decode_alive (z : Nat) (hz : z = Nm.mv 65535 26) (w : World) :
    Calls Tryd.prog 38 #[.int .i64 486604799] w fun e w' => e = .returned (.tuple #[.agg (numC z), .bool false, .bool false]) ∧ Below w.heap.size w w' := by
  have h := decode_yes 486604799 (by omega) w
  have e1 : Nm.decN 486604799 = z := by rw [hz]; decide
  have e2 : Nm.decLow 486604799 = false := by decide
  have e3 : Nm.decOver 486604799 = false := by decide
  rw [e1, e2, e3] at h
  exact h
theorem move_alive (z : Nat) (hz : z = Nm.mv 65535 26) (w : World) :
    Calls Tryd.prog 40 #[.agg #[.int .u64 65535, .int .u64 0, .int .u64 0, .int .u64 0], .int .i64 208] w fun e w' => e = .returned (.agg (numC z)) ∧ Below w.heap.size w w' := by
  rw [hz]; exact ref_mv_small 65535 26 (by omega) (by omega) (by omega) 208 (by omega) w
theorem good_one (w : World) : Calls Tryd.prog 47 #[.int .i64 1] w fun e w' => e = .returned (.bool true) ∧ Below w.heap.size w w' :=
  (good_yes 1 (by omega) w).mono fun _ _ ⟨he, hw⟩ => ⟨he, by rw [← hw]; exact Below.refl _ _⟩
end Go.Proofs.YtfnicmmebphpkaaDoor.NN
/-
  compact: Meets; the reference's Number.
-/
namespace Go.Proofs.YtfnicmmebphpkaaDoor.NN
open Go.RowKit
theorem Nm.number_next (U j : Nat) : U / 2 ^ (8 * j) = U / 2 ^ (8 * (j + 1)) * 256 + U / 2 ^ (8 * j) % 256 := by
  rw [show 8 * (j + 1) = 8 * j + 8 by omega, Nat.pow_add, ← Nat.div_div_eq_div_mul]
  generalize U / 2 ^ (8 * j) = m
  omega
theorem Nm.up8 {U j : Nat} (hU : U < Nm.big) : Nm.up (U / 2 ^ (8 * (j + 1))) 8 = U / 2 ^ (8 * (j + 1)) * 256 := by
  rw [Nm.up_eq, Nat.mod_eq_of_lt]
  rw [show 8 * (j + 1) = 8 + 8 * j by omega, Nat.pow_add, ← Nat.div_div_eq_div_mul]
  have : U / 2 ^ 8 / 2 ^ (8 * j) ≤ U / 2 ^ 8 := Nat.div_le_self _ _
  generalize U / 2 ^ 8 / 2 ^ (8 * j) = m at *
  unfold Nm.big at *; omega
theorem numC_add0 (y b : Nat) (hb : b < 256) : (numC (y * 256)).setIfInBounds 0 (.int .u64 ((Nm.wd (y * 256) 0 + b : Nat) : Int)) = numC (y * 256 + b) := by
  unfold numC
  rw [cells4_set _ 0 _ (by omega)]
  apply cells4_congr
  intro j hj
  unfold upd
  rcases Nm.four hj with rfl | rfl | rfl | rfl
  · rw [if_pos rfl, Nm.wd0, Nm.wd0]; omega
  · rw [if_neg (by omega), Nm.wd1, Nm.wd1]; omega
  · rw [if_neg (by omega), Nm.wd2, Nm.wd2]; omega
  · rw [if_neg (by omega), Nm.wd3, Nm.wd3]; omega
structure Nb (w wr : World) (H R O : Nat) (f : Nat → Nat) (y : Nat) : Prop where
  below : Below w.heap.size w wr
  h : Has wr H (hashC f) 23
  r : Has wr R (numC 0) 54
  o : Has wr O (numC y) 54
theorem Nb.on {w wr w' : World} {H R O : Nat} {f : Nat → Nat} {y : Nat} (h : Nb w wr H R O f y) (hb : Below wr.heap.size wr w') : Nb w w' H R O f y :=
  ⟨h.below.trans (hb.mono h.below.size), h.h.on hb, h.r.on hb, h.o.on hb⟩
theorem Nb.row {w wr : World} {H R O : Nat} {f : Nat → Nat} {y : Nat} (h : Nb w wr H R O f y) (z : Nat) (hH : H ≠ O) (hR : R ≠ O) (hO : w.heap.size ≤ O) : Nb w (wr.setRow O (numC z)) H R O f z :=
  ⟨below_setRow h.below hO _, h.h.otherRow _ _ hH, h.r.otherRow _ _ hR, h.o.row _⟩
theorem Nb.add {w wr : World} {H R O : Nat} {f : Nat → Nat} {y b z : Nat} (h : Nb w wr H R O f (y * 256)) (hb : b < 256) (hz : z = y * 256 + b) (hH : H ≠ O) (hR : R ≠ O) (hO : w.heap.size ≤ O) : Nb w (wr.setCell ⟨O, 0, none⟩ (.int .u64 ((Nm.wd (y * 256) 0 + b : Nat) : Int))) H R O f z := by
  have e := h.o.set (i := 0) (.int .u64 ((Nm.wd (y * 256) 0 + b : Nat) : Int))
  rw [numC_add0 y b hb, ← hz] at e
  exact ⟨h.below.setCell hO _, h.h.other _ _ hH, h.r.other _ _ hR, e⟩
theorem Nb.drew {w wr : World} {H R O : Nat} {f : Nat → Nat} {y : Nat} (h : Nb w wr H R O f y) : Nb w wr.drew H R O f y := ⟨h.below.drew, h.h, h.r, h.o⟩
set_option maxRecDepth 100000 in
set_option maxHeartbeats 2000000 in
theorem ref_number (f : Nat → Nat) (hf : ∀ i, f i < 256) (w : World) :
    Calls Tryd.prog 26 #[.agg (hashC f)] w fun e w' => e = .returned (.agg (numC (Nm.unbytes f 32))) ∧ Below w.heap.size w w' := by
  obtain ⟨U, hU⟩ : ∃ U, U = Nm.unbytes f 32 := ⟨_, rfl⟩
  have hUb : U < Nm.big := by rw [hU]; exact Nm.unbytes_lt f hf 32
  have hby : ∀ k, k < 32 → U / 2 ^ (8 * k) % 256 = f k := fun k hk => by
    have := Nm.byteAt_unbytes f hf hk
    rw [← hU] at this
    exact this
  have HBY := Lib.hid hby
  have HF := Lib.hid hf
  have HUB := Lib.hid hUb
  rw [← hU]
  clear hU hby hf hUb
  go_enter Tryd.func26, Tryd.ntmps26
  go_upto_region 1 with fail
  generalize hw0 : World.alloc _ _ = w0
  have a1 : Has w0 w.heap.size (hashC f) 23 := by rw [← hw0]; exact (Has.new _ _).alloc _
  have a2 : Has w0 (w.heap.size + 1) (numC 0) 54 := by rw [← hw0]; exact Has.new1 _ _ _
  have a0 : Below w.heap.size w w0 := by rw [← hw0]; exact ((Below.refl _ _).alloc (Nat.le_refl _) _).alloc (by simp) _
  have asz : w0.heap.size = w.heap.size + 1 + 1 := by rw [← hw0]; simp
  clear hw0
  go_upto_region 2 with fail
  generalize hw1 : World.alloc _ _ = w1
  have h0 : Nb w w1 w.heap.size (w.heap.size + 1) (w.heap.size + 1 + 1) f 0 := by
    rw [← hw1]
    exact ⟨a0.alloc a0.size _, a1.alloc _, a2.alloc _, by have := Has.newz (w := w0) 54; rwa [asz] at this⟩
  clear hw1 a1 a2 a0
  generalize hO' : w.heap.size + 1 + 1 = O at *
  have hHO : w.heap.size ≠ O := by omega
  have hRO : w.heap.size + 1 ≠ O := by omega
  have hO : w.heap.size ≤ O := by omega
  have hR : w.heap.size ≤ w.heap.size + 1 := by omega
  have K1 := Lib.hid hHO
  have K2 := Lib.hid hRO
  have K3 := Lib.hid hO
  have K4 := Lib.hid hR
  clear hHO hRO hO hR asz hO'
  generalize hR' : w.heap.size + 1 = R at *
  generalize hH' : w.heap.size = H at *
  have K5 := Lib.hid hH'
  clear hR' hH'
  go_wp2_with fail
  go_loopw [4] (fun i wr => ∃ k : Nat, k ≤ 32 ∧ i = .int .i64 ((k : Int) - 1) ∧ Nb w wr H R O f (U / 2 ^ (8 * k))) (fun i _ => (intOf i + 1).toNat)
  case atStart => exact ⟨32, by omega, rfl, by rw [Nat.div_eq_of_lt (by rw [show 2 ^ (8 * 32) = Nm.big by decide]; exact HUB.out)]; exact h0⟩
  case round =>
    obtain ⟨k, hk, rfl, hs⟩ := hrel
    clear h0
    by_cases h0 : 0 < k
    · obtain ⟨j, rfl⟩ : ∃ j, k = j + 1 := ⟨k - 1, by omega⟩
      rw [show ((j + 1 : Nat) : Int) - 1 = (j : Nat) by omega]
      have hj : j < 32 := by omega
      have hjI : (j : Int) < 32 := by omega
      obtain ⟨y, hy⟩ : ∃ y, y = U / 2 ^ (8 * (j + 1)) := ⟨_, rfl⟩
      have e1 : Nm.up y 8 = y * 256 := by rw [hy]; exact Nm.up8 HUB.out
      have hyb : y < Nm.big := by rw [hy]; exact Nat.lt_of_le_of_lt (Nat.div_le_self _ _) HUB.out
      have e2 : U / 2 ^ (8 * j) = y * 256 + f j := by rw [Nm.number_next, HBY.out j hj, hy]
      have cM := ref_move_up y 8 hyb (by omega)
      rw [e1] at cM
      have CM := Lib.hid cM
      rw [← hy] at hs
      have E2 := Lib.hid e2
      have hfj := HF.out j
      have hcl : ∀ w', Has w' H (hashC f) 23 → w'.cell? ⟨H, j, none⟩ = some (.int .u8 (f j : Nat)) := fun w' h => (h.cell j).trans (hashC_get f hj)
      have HCL := Lib.hid hcl
      clear hy e1 e2 cM hyb hcl h0
      go_wp2_with (first | (with_reducible refine num_load rfl _ rfl _ rfl _ hs.o rfl ?_))
      refine (CM.out _).mono ?_
      rintro e w3 ⟨rfl, hb3⟩
      replace hs := hs.on hb3
      clear hb3
      go_upto_region 6 with (with_reducible refine num_store rfl _ _ rfl _ _ rfl rfl _ hs.o rfl ?_)
      replace hs := hs.row (y * 256) K1.out K2.out (by rw [K5.out]; exact K3.out)
      generalize World.setRow _ _ _ = w4 at *
      have c1 := hs.o.num (j := 0) (by omega)
      have c2 := HCL.out _ hs.h
      have c3 := hs.o.free 0
      have eW : IntKind.u64.wrap (((Nm.wd (y * 256) 0 : Nat) : Int) + ((f j : Nat) : Int)) = ((Nm.wd (y * 256) 0 + f j : Nat) : Int) := by
        rw [Nm.wd0, IntKind.wrap_u64]; omega
      have hs2 := hs.add (b := f j) (z := U / 2 ^ (8 * j)) hfj E2.out K1.out K2.out (by rw [K5.out]; exact K3.out)
      generalize Nm.wd (y * 256) 0 = g at *
      obtain ⟨fj, hfj'⟩ : ∃ fj, fj = f j := ⟨_, rfl⟩
      rw [← hfj'] at c2 eW hs2 hfj
      rw [← eW] at hs2
      clear hfj' E2 HCL eW
      go_wp2_with fail
      go_region
      all_goals
        first | go_wp2_with fail | skip
        go_roundw
        case rel => exact ⟨j, by omega, rfl, hs2.drew⟩
        case measure => simp [intOf]
    · obtain rfl : k = 0 := by omega
      rw [Nat.mul_zero, Nat.pow_zero, Nat.div_one] at hs
      go_wp2_with (first | (with_reducible refine num_load rfl _ rfl _ rfl _ hs.o rfl ?_) | (with_reducible refine num_store rfl _ _ rfl _ _ rfl rfl _ hs.r rfl ?_))
      exact bodyPost_ret (v := .agg (numC U)) (num_results Tryd.results26 _ _ _ rfl (hs.r.row _)) rfl ⟨rfl, below_setRow hs.below (by rw [K5.out]; exact K4.out) _⟩
end Go.Proofs.YtfnicmmebphpkaaDoor.NN
/-
  compact: Meets, inRange, Target; the reference's Target.
-/
namespace Go.Proofs.YtfnicmmebphpkaaDoor.NN
open Go.RowKit
/-- a load in a place that is guarded -/
theorem num_load_g {ops : Array Oper} {rest : List Oper} {o : Oper} {a : Act} {w : World} {Q : Exit → Act → World → Prop} (hw : Region.wanted o (yielded ops a.tmps) = true) (x : Operand) (ho : o.op = .load 54 x) (g : Nat) (hx : a.eval x = .pointer (some ⟨g, 0, none⟩)) (cs : Array Value) (hg : Has w g cs 54) (hs : cs.size = 4)
    (h : wpList Tryd.prog ops Q rest (a.put o.dst (.agg cs)) w) : wpList Tryd.prog ops Q (o :: rest) a w :=
  BigFrame.wpList_want hw fun _ hK => wp_load_row 54 x ho g hx 54 cs (0, 0) _ hg.out Tryd.underlying54 rfl (infoNum.trans (by rw [hs])) (hK _ _ h)
theorem hash_load_g {ops : Array Oper} {rest : List Oper} {o : Oper} {a : Act} {w : World} {Q : Exit → Act → World → Prop} (hw : Region.wanted o (yielded ops a.tmps) = true) (x : Operand) (ho : o.op = .load 23 x) (g : Nat) (hx : a.eval x = .pointer (some ⟨g, 0, none⟩)) (f : Nat → Nat) (hg : Has w g (hashC f) 23)
    (h : wpList Tryd.prog ops Q rest (a.put o.dst (.agg (hashC f))) w) : wpList Tryd.prog ops Q (o :: rest) a w :=
  BigFrame.wpList_want hw fun _ hK => wp_load_row 23 x ho g hx 23 (hashC f) (0, 0) _ hg.out Tryd.underlying23 rfl (infoHash.trans (by rw [hashC_size])) (hK _ _ h)
/-- a name is loaded whole in a region that draws its order -/
theorem quiet_load_hash {C : World → Prop} {a : Act} {o : Oper} {K : Act → Prop} (x : Operand) (ho : o.op = .load 23 x) (g : Nat) (hx : a.eval x = .pointer (some ⟨g, 0, none⟩)) (f : Nat → Nat) (hC : ∀ w', C w' → Has w' g (hashC f) 23)
    (hk : K (a.put o.dst (.agg (hashC f)))) : o.quiet Tryd.prog a C K :=
  ⟨_, fun w' hw' => by
    unfold Oper.quietAt
    have hl : (loadVar 23 ⟨g, 0, none⟩).run Tryd.prog w' = .ok (.agg (hashC f)) w' := run_loadVar_row w' g 23 23 (hashC f) (0, 0) _ (hC w' hw').out Tryd.underlying23 rfl (infoHash.trans (by rw [hashC_size]))
    have : (execOp a.eval o).run Tryd.prog w' = .ok (.value (.agg (hashC f))) w' := by
      unfold execOp
      simp only [ho, hx, Instr.loadAt, Instr.sureAddr, Sem.run_bind, Sem.run_pure, Result.andThen_ok, hl]
    rw [this]
    exact ⟨rfl, rfl⟩, hk⟩
set_option maxRecDepth 100000 in
set_option maxHeartbeats 2000000 in
theorem meets (f : Nat → Nat) (a : Nat) (hf : ∀ i, f i < 256) (ha : a < Nm.big) (w : World) :
    Calls Tryd.prog 39 #[.agg (hashC f), .agg (numC a)] w fun e w' => e = .returned (.bool !decide (a < Nm.unbytes f 32)) ∧ Below w.heap.size w w' := by
  have KF := Lib.hid (fromHash f hf)
  have hU : Nm.unbytes f 32 < Nm.big := Nm.unbytes_lt f hf 32
  have KL := Lib.hid (less a _ ha hU)
  generalize Nm.unbytes f 32 = U at *
  clear hf ha hU
  go_enter Tryd.func39, Tryd.ntmps39
  go_upto_region 1 with fail
  generalize hw1 : World.alloc _ _ = w1
  have hB : Below w.heap.size w w1 := by rw [← hw1]; exact ((Below.refl _ _).alloc (Nat.le_refl _) _).alloc (by simp) _
  have h1 : Has w1 w.heap.size (hashC f) 23 := by rw [← hw1]; exact (Has.new _ _).alloc _
  have h2 : Has w1 (w.heap.size + 1) (numC a) 54 := by rw [← hw1]; exact Has.new1 _ _ _
  clear hw1
  refine wp_region_quiet_below (by kernel_rfl) (by kernel_rfl) ?_
  repeat (first
    | (go_big_quiet_want; (with_reducible refine quiet_load_num _ rfl _ rfl _ h2.cls ?_); (simp only [Act.put, List.setIfInBounds_toArray, List.set_cons_zero, List.set_cons_succ]); go_big_quiet_on)
    | (go_big_quiet_want; (with_reducible refine quiet_load_hash _ rfl _ rfl _ h1.cls ?_); (simp only [Act.put, List.setIfInBounds_toArray, List.set_cons_zero, List.set_cons_succ]); go_big_quiet_on)
    | go_big_quiet_step (first | (go_at_call 52; exact Calls.regrown_of (KF.out _)) | (go_at_call 51; exact Calls.regrown_of (KL.out _))))
  refine wpQuiet_nil ?_
  intro _ hw'
  obtain ⟨p, hw''⟩ := hw'
  subst hw''
  have hB2 := hB.trans ((below_regrown w1 p.d p.os).mono hB.size)
  go_wp2_with fail
  go_ret
  exact ⟨rfl, hB2⟩
end Go.Proofs.YtfnicmmebphpkaaDoor.NN
