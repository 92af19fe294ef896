/-
  compact: tooGreat, moved, Good, Decode, at every number.
-/
import Derived.Test.YtmemppkkchfphaaCpMath
import Derived.Test.YtmemppkkchfphaaWUp
import Derived.Test.YtmemppkkchfphaaWDown
import Derived.Test.YtmemppkkchfphaaWSmall
import Derived.Test.YtmemppkkchfphaaRefMove
namespace Go.Proofs.Ytmemppkkchfphaa
open Go.RowKit
def ovr (s v : Nat) : Bool := decide (0 < v ∧ 34 < s ∨ 255 < v ∧ 33 < s ∨ 65535 < v ∧ 32 < s)
theorem ovr_dec (n : Nat) : Nm.decOver n = ovr (n / 16777216) (n % 8388608) := rfl
set_option maxRecDepth 100000 in
set_option maxHeartbeats 1000000 in
theorem tooGreat (s v : Nat) (hs : s < 256) (hv : v < 8388608) (w : World) :
    Calls Try.prog 42 #[.int .i64 (s : Int), .int .i64 (v : Int)] w fun e w' => e = .returned (.bool (ovr s v)) ∧ w = w' := by
  by_cases h0 : v = 0
  · subst h0
    have hr : ovr s 0 = false := by unfold ovr; exact decide_eq_false (by omega)
    rw [hr]
    go_enter Try.func42, Try.ntmps42
    go_wp2_with fail
    go_ret
    exact ⟨rfl, rfl⟩
  have b0 : ((v : Int) != 0) = true := by simp; omega
  obtain h | h | h | h | h | h : (34 < s) ∨ (s = 34 ∧ 255 < v) ∨ (s = 34 ∧ v ≤ 255) ∨ (s = 33 ∧ 65535 < v) ∨ (s = 33 ∧ v ≤ 65535) ∨ s ≤ 32 := by omega
  · have hr : ovr s v = true := by unfold ovr; exact decide_eq_true (by omega)
    have b1 : decide ((34 : Int) < (s : Int)) = true := decide_eq_true (by omega)
    rw [hr]
    clear h h0 hr
    go_enter Try.func42, Try.ntmps42
    go_wp2_with fail
    go_ret
    exact ⟨rfl, rfl⟩
  · have hr : ovr s v = true := by unfold ovr; exact decide_eq_true (by omega)
    have b1 : decide ((34 : Int) < (s : Int)) = false := decide_eq_false (by omega)
    have b2 : decide ((33 : Int) < (s : Int)) = true := decide_eq_true (by omega)
    have b3 : decide ((255 : Int) < (v : Int)) = true := decide_eq_true (by omega)
    rw [hr]
    clear h h0 hr
    go_enter Try.func42, Try.ntmps42
    go_wp2_with fail
    go_ret
    exact ⟨rfl, rfl⟩
  · have hr : ovr s v = false := by unfold ovr; exact decide_eq_false (by omega)
    have b1 : decide ((34 : Int) < (s : Int)) = false := decide_eq_false (by omega)
    have b2 : decide ((33 : Int) < (s : Int)) = true := decide_eq_true (by omega)
    have b3 : decide ((255 : Int) < (v : Int)) = false := decide_eq_false (by omega)
    have b4 : decide ((32 : Int) < (s : Int)) = true := decide_eq_true (by omega)
    have b5 : decide ((65535 : Int) < (v : Int)) = false := decide_eq_false (by omega)
    rw [hr]
    clear h h0 hr
    go_enter Try.func42, Try.ntmps42
    go_wp2_with fail
    go_ret
    exact ⟨rfl, rfl⟩
  · have hr : ovr s v = true := by unfold ovr; exact decide_eq_true (by omega)
    have b1 : decide ((34 : Int) < (s : Int)) = false := decide_eq_false (by omega)
    have b2 : decide ((33 : Int) < (s : Int)) = false := decide_eq_false (by omega)
    have b4 : decide ((32 : Int) < (s : Int)) = true := decide_eq_true (by omega)
    have b5 : decide ((65535 : Int) < (v : Int)) = true := decide_eq_true (by omega)
    rw [hr]
    clear h h0 hr
    go_enter Try.func42, Try.ntmps42
    go_wp2_with fail
    go_ret
    exact ⟨rfl, rfl⟩
  · have hr : ovr s v = false := by unfold ovr; exact decide_eq_false (by omega)
    have b1 : decide ((34 : Int) < (s : Int)) = false := decide_eq_false (by omega)
    have b2 : decide ((33 : Int) < (s : Int)) = false := decide_eq_false (by omega)
    have b4 : decide ((32 : Int) < (s : Int)) = true := decide_eq_true (by omega)
    have b5 : decide ((65535 : Int) < (v : Int)) = false := decide_eq_false (by omega)
    rw [hr]
    clear h h0 hr
    go_enter Try.func42, Try.ntmps42
    go_wp2_with fail
    go_ret
    exact ⟨rfl, rfl⟩
  · have hr : ovr s v = false := by unfold ovr; exact decide_eq_false (by omega)
    have b1 : decide ((34 : Int) < (s : Int)) = false := decide_eq_false (by omega)
    have b2 : decide ((33 : Int) < (s : Int)) = false := decide_eq_false (by omega)
    have b4 : decide ((32 : Int) < (s : Int)) = false := decide_eq_false (by omega)
    rw [hr]
    clear h h0 hr
    go_enter Try.func42, Try.ntmps42
    go_wp2_with fail
    go_ret
    exact ⟨rfl, rfl⟩
/-- a number that came in, and the result's block -/
structure Bx (w wr : World) (A x R : Nat) : Prop where
  below : Below w.heap.size w wr
  a : Has wr A (numC x) 26
  r : Has wr R (numC 0) 26
theorem Bx.on {w wr w' : World} {A x R : Nat} (h : Bx w wr A x R) (hb : Below wr.heap.size wr w') : Bx w w' A x R := ⟨h.below.trans (hb.mono h.below.size), h.a.on hb, h.r.on hb⟩
theorem Bx.start (w : World) (x : Nat) : Bx w ((w.alloc (.cells (numC x) 26)).alloc (.cells (numC 0) 26)) w.heap.size x (w.heap.size + 1) :=
  ⟨((Below.refl _ _).alloc (Nat.le_refl _) _).alloc (by simp) _, (Has.new _ _).alloc _, Has.new1 _ _ _⟩
theorem down_at (x k : Nat) (hx : x < Nm.big) (hk : 0 < k) (hm : k ≤ 300) (n : Int) (hn : n = ((8 * k : Nat) : Int)) (w : World) :
    Calls Try.prog 39 #[.agg (numC x), .int .i64 n] w fun e w' => e = .returned (.agg (numC (Nm.down x (8 * k)))) ∧ Below w.heap.size w w' := by
  subst hn; exact down_pos x (8 * k) hx (by omega) (by omega) w
theorem up_at (x k : Nat) (hx : x < Nm.big) (hm : k ≤ 300) (n : Int) (hn : n = ((8 * k : Nat) : Int)) (w : World) :
    Calls Try.prog 40 #[.agg (numC x), .int .i64 n] w fun e w' => e = .returned (.agg (numC (Nm.up x (8 * k)))) ∧ Below w.heap.size w w' := by
  subst hn
  by_cases h0 : k = 0
  · subst h0
    rw [Nm.up_zero hx]
    exact up_neg x _ (by omega) w
  · exact up_pos x (8 * k) hx (by omega) (by omega) w
set_option maxRecDepth 100000 in
set_option maxHeartbeats 1000000 in
theorem moved (x : Nat) (b : Int) (hx : x < Nm.big) (hl : -300 ≤ b) (hh : b ≤ 300) (w : World) :
    Calls Try.prog 32 #[.agg (numC x), .int .i64 b] w fun e w' => e = .returned (.agg (numC (Nm.mv x b))) ∧ Below w.heap.size w w' := by
  by_cases hb : b < 0
  · obtain ⟨k, rfl⟩ : ∃ k : Nat, b = -(k : Int) := ⟨(-b).toNat, by omega⟩
    have hr : Nm.mv x (-(k : Int)) = Nm.down x (8 * k) := by unfold Nm.mv; rw [if_pos hb, Int.neg_neg, Int.toNat_natCast]
    rw [hr]
    go_enter Try.func32, Try.ntmps32
    go_upto_region 1 with fail
    generalize hw1 : World.alloc _ _ = w1
    have h0 : Bx w w1 w.heap.size x (w.heap.size + 1) := by rw [← hw1]; exact Bx.start w x
    have hR : w.heap.size ≤ w.heap.size + 1 := by omega
    have HR := Lib.hid hR
    clear hw1 hR hr
    go_wp2_with (with_reducible refine num_load rfl _ rfl _ rfl _ h0.a rfl ?_)
    refine (down_at x k hx (by omega) (by omega) _ (by omega) _).mono ?_
    rintro e w2 ⟨rfl, hb2⟩
    have h2 := h0.on hb2
    go_wp2_with (with_reducible refine num_store rfl _ _ rfl _ _ rfl rfl _ h2.r rfl ?_)
    exact bodyPost_ret (v := .agg (numC (Nm.down x (8 * k)))) (num_results Try.results32 _ _ _ rfl (h2.r.row _)) rfl ⟨rfl, below_setRow h2.below HR.out _⟩
  · obtain ⟨k, rfl⟩ : ∃ k : Nat, b = (k : Int) := ⟨b.toNat, by omega⟩
    have hr : Nm.mv x (k : Int) = Nm.up x (8 * k) := by unfold Nm.mv; rw [if_neg hb, Int.toNat_natCast]
    rw [hr]
    go_enter Try.func32, Try.ntmps32
    go_upto_region 1 with fail
    generalize hw1 : World.alloc _ _ = w1
    have h0 : Bx w w1 w.heap.size x (w.heap.size + 1) := by rw [← hw1]; exact Bx.start w x
    have hR : w.heap.size ≤ w.heap.size + 1 := by omega
    have HR := Lib.hid hR
    clear hw1 hR hr hb
    go_wp2_with (with_reducible refine num_load rfl _ rfl _ rfl _ h0.a rfl ?_)
    refine (up_at x k hx (by omega) _ (by omega) _).mono ?_
    rintro e w2 ⟨rfl, hb2⟩
    have h2 := h0.on hb2
    go_wp2_with (with_reducible refine num_store rfl _ _ rfl _ _ rfl rfl _ h2.r rfl ?_)
    exact bodyPost_ret (v := .agg (numC (Nm.up x (8 * k)))) (num_results Try.results32 _ _ _ rfl (h2.r.row _)) rfl ⟨rfl, below_setRow h2.below HR.out _⟩
theorem results_cell_tmp2 {fn : Func} {p u v : Tmp} {ty : TypeId} (h : fn.results = #[.cell p ty, .tmp u, .tmp v]) (tmps : Array Value) (P : Program) (w : World) :
    (results fn tmps).run P w =
      ((asAddr (tmps.getD p undef)).run P w).andThen fun a w₁ => ((loadVar ty a).run P w₁).andThen fun x w₂ => .ok (.tuple #[x, tmps.getD u undef, tmps.getD v undef]) w₂ := by
  simp only [results, h]
  simp [Sem.run_bind, Result.andThen]
/-- a number's result with two more beside it -/
theorem num_results3 {w : World} {fn : Func} {p u v : Tmp} (h : fn.results = #[.cell p 26, .tmp u, .tmp v]) (tmps : Array Value) (g x : Nat) (y z : Value) (hp : tmps.getD p undef = .pointer (some ⟨g, 0, none⟩)) (hy : tmps.getD u undef = y) (hz : tmps.getD v undef = z) (hg : Has w g (numC x) 26) :
    (results fn tmps).run Try.prog w = .ok (.tuple #[.agg (numC x), y, z]) w := by
  rw [results_cell_tmp2 h, hp, hy, hz]
  have hl : (loadVar 26 ⟨g, 0, none⟩).run Try.prog w = .ok (.agg (numC x)) w := run_loadVar_row w g 26 26 (numC x) (0, 0) _ hg.out Try.underlying26 rfl infoNum
  simp [asAddr, hl, Result.andThen]
set_option maxRecDepth 100000 in
theorem good (b : Int) (w : World) :
    Calls Try.prog 41 #[.int .i64 b] w fun e w' => e = .returned (.bool (decide (0 ≤ b ∧ b ≤ 4294967295))) ∧ w = w' := by
  by_cases h0 : 0 ≤ b
  · have hr : decide (0 ≤ b ∧ b ≤ 4294967295) = decide (b ≤ 4294967295) := decide_eq_decide.2 (by omega)
    rw [hr]
    go_enter Try.func41, Try.ntmps41
    go_wp2_with fail
    go_ret
    exact ⟨rfl, rfl⟩
  · have hr : decide (0 ≤ b ∧ b ≤ 4294967295) = false := decide_eq_false (by omega)
    rw [hr]
    go_enter Try.func41, Try.ntmps41
    go_wp2_with fail
    go_ret
    exact ⟨rfl, rfl⟩
theorem good_no (b : Int) (h : ¬ (0 ≤ b ∧ b ≤ 4294967295)) (w : World) :
    Calls Try.prog 41 #[.int .i64 b] w fun e w' => e = .returned (.bool false) ∧ w = w' := by
  have := good b w; rwa [decide_eq_false h] at this
theorem good_yes (b : Int) (h : 0 ≤ b ∧ b ≤ 4294967295) (w : World) :
    Calls Try.prog 41 #[.int .i64 b] w fun e w' => e = .returned (.bool true) ∧ w = w' := by
  have := good b w; rwa [decide_eq_true h] at this
set_option maxRecDepth 100000 in
set_option maxHeartbeats 1000000 in
theorem decode_no (b : Int) (h : ¬ (0 ≤ b ∧ b ≤ 4294967295)) (w : World) :
    Calls Try.prog 33 #[.int .i64 b] w fun e w' => e = .returned (.tuple #[.agg (numC 0), .bool false, .bool false]) ∧ Below w.heap.size w w' := by
  have hg := Lib.hid (good_no b h)
  clear h
  go_enter Try.func33, Try.ntmps33
  go_upto_region 1 with fail
  generalize hw1 : World.alloc _ _ = w1
  have hN : Has w1 w.heap.size (numC 0) 26 := by rw [← hw1]; exact Has.newz _
  have hb : Below w.heap.size w w1 := by rw [← hw1]; exact (Below.refl _ _).alloc (Nat.le_refl _) _
  clear hw1
  go_wp2_with fail
  refine (hg.out _).mono ?_
  rintro e w2 ⟨rfl, rfl⟩
  go_wp2_with (with_reducible refine num_store_eq rfl _ _ rfl _ 0 _ rfl rfl zero4 _ hN rfl ?_)
  exact bodyPost_ret (v := .tuple #[.agg (numC 0), .bool false, .bool false]) (num_results3 Try.results33 _ _ _ _ _ rfl rfl rfl (hN.row _)) rfl ⟨rfl, below_setRow hb (Nat.le_refl _) _⟩
end Go.Proofs.Ytmemppkkchfphaa
