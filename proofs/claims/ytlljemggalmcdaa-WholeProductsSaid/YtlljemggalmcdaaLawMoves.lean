import Derived.Test.YtlljemggalmcdaaWAlive
import Derived.Test.YtlljemggalmcdaaRefMoveD
import Derived.OpenShut
namespace Go.Proofs.Ytlljemggalmcdaa
open Go.RowKit
theorem eql_same'' (z : Nat) (w : World) : (binOp .eql 24 (.agg (numC z)) (.agg (numC z))).run Try.prog w = .ok (.bool true) w := by
  rw [numC_wds, run_eql_ints w .u64 24 22 4 Try.underlying24 Try.underlying22 wordSize _ _ rfl rfl]; simp
structure OneN (w wr : World) (A x : Nat) : Prop where
  below : Below w.heap.size w wr
  a : Has wr A (numC x) 24
theorem OneN.on {w wr w' : World} {A x : Nat} (h : OneN w wr A x) (hb : Below wr.heap.size wr w') : OneN w w' A x := ⟨h.below.trans (hb.mono h.below.size), h.a.on hb⟩
set_option maxRecDepth 100000 in
set_option maxHeartbeats 1000000 in
theorem moves_pos (x n : Nat) (hx : x < Nm.big) (hn : 0 < n) (hm : n ≤ 9223372036854775807) (w : World) :
    Calls Try.prog 5 #[.agg (numC x), .int .i64 (n : Int)] w fun e w' => e = .returned (.bool true) ∧ Below w.heap.size w w' := by
  have cUp := fun w => up_pos x n hx hn hm w
  have cRUp := fun w => ref_move_up x n hx hm w
  have cDown := fun w => down_pos x n hx hn hm w
  have cRDown := fun w => ref_move_down x n hx hn hm w
  have KUp := Lib.hid cUp
  have KRUp := Lib.hid cRUp
  have KDown := Lib.hid cDown
  have KRDown := Lib.hid cRDown
  clear cUp cRUp cDown cRDown
  go_enter Try.func5, Try.ntmps5
  go_upto_region 1 with fail
  generalize hw1 : World.alloc _ _ = w1
  have h0 : OneN w w1 w.heap.size x := by rw [← hw1]; exact ⟨(Below.refl _ _).alloc (Nat.le_refl _) _, Has.new _ _⟩
  clear hw1
  generalize hC : w.heap.size = b_A at *
  have HC := Lib.hid hC
  clear hC
  go_wp2_with fail
  refine (alive _).mono ?_
  rintro e v1 ⟨rfl, hb1⟩
  replace h0 := h0.on hb1
  clear hb1
  go_wp2_with fail
  have hq := eql_same''
  refine wp_region_quiet_below (by kernel_rfl) (by kernel_rfl) ?_
  repeat (first
    | (go_big_quiet_want; (with_reducible refine quiet_load_num _ rfl _ rfl _ h0.a.cls ?_); (simp only [Act.put, List.setIfInBounds_toArray, List.set_cons_zero, List.set_cons_succ]); go_big_quiet_on)
    | go_big_quiet_step (first | (go_at_call 25; exact Calls.regrown_of (KUp.out _)) | (go_at_call 27; exact Calls.regrown_of (KDown.out _)) | (go_at_call 26; (with_reducible exact Calls.regrown_of (KRUp.out _))) | (go_at_call 26; (with_reducible exact Calls.regrown_of (KRDown.out _)))))
  refine wpQuiet_nil ?_
  intro _ hw'
  obtain ⟨p, hw''⟩ := hw'
  subst hw''
  have hs2 := h0.on (below_regrown v1 p.d p.os)
  clear hq
  go_wp2_with fail
  go_ret
  exact ⟨rfl, hs2.below⟩
set_option maxRecDepth 100000 in
set_option maxHeartbeats 1000000 in
theorem moves_neg (x : Nat) (n : Int) (hx : x < Nm.big) (hn : n ≤ 0) (w : World) :
    Calls Try.prog 5 #[.agg (numC x), .int .i64 n] w fun e w' => e = .returned (.bool true) ∧ Below w.heap.size w w' := by
  have cUp := fun w => up_neg x n hn w
  have cRUp : ∀ w, Calls Try.prog 26 #[.agg (numC x), .int .i64 0] w fun e w' => e = .returned (.agg (numC x)) ∧ Below w.heap.size w w' := fun w => by
    have := ref_move_up x 0 hx (by decide) w
    rw [Nm.up_zero hx] at this
    exact this
  have cDown := fun w => down_neg x n hn w
  have KUp := Lib.hid cUp
  have KRUp := Lib.hid cRUp
  have KDown := Lib.hid cDown
  clear cUp cRUp cDown
  go_enter Try.func5, Try.ntmps5
  go_upto_region 1 with fail
  generalize hw1 : World.alloc _ _ = w1
  have h0 : OneN w w1 w.heap.size x := by rw [← hw1]; exact ⟨(Below.refl _ _).alloc (Nat.le_refl _) _, Has.new _ _⟩
  clear hw1
  generalize hC : w.heap.size = b_A at *
  have HC := Lib.hid hC
  clear hC
  go_wp2_with fail
  refine (alive _).mono ?_
  rintro e v1 ⟨rfl, hb1⟩
  replace h0 := h0.on hb1
  clear hb1
  go_wp2_with fail
  rw [show max n 0 = 0 by omega]
  have hq := eql_same''
  refine wp_region_quiet_below (by kernel_rfl) (by kernel_rfl) ?_
  repeat (first
    | (go_big_quiet_want; (with_reducible refine quiet_load_num _ rfl _ rfl _ h0.a.cls ?_); (simp only [Act.put, List.setIfInBounds_toArray, List.set_cons_zero, List.set_cons_succ]); go_big_quiet_on)
    | go_big_quiet_step (first | (go_at_call 25; exact Calls.regrown_of (KUp.out _)) | (go_at_call 27; exact Calls.regrown_of (KDown.out _)) | (go_at_call 26; (exact Calls.regrown_of (KRUp.out _)))))
  refine wpQuiet_nil ?_
  intro _ hw'
  obtain ⟨p, hw''⟩ := hw'
  subst hw''
  have hs2 := h0.on (below_regrown v1 p.d p.os)
  clear hq
  go_wp2_with fail
  go_ret
  exact ⟨rfl, hs2.below⟩
theorem moves_walk (x : Nat) (n : Int) (hx : x < Nm.big) (hw : (Lit.int .i64 n).wf = true) (w : World) :
    Calls Try.prog 5 #[.agg (numC x), .int .i64 n] w fun e w' => e = .returned (.bool true) ∧ Below w.heap.size w w' := by
  by_cases hn : n ≤ 0
  · exact moves_neg x n hx hn w
  · have hb := bounds_i64 hw
    obtain ⟨m, rfl⟩ := Int.eq_ofNat_of_zero_le (show 0 ≤ n by omega)
    exact moves_pos x m hx (by omega) (by omega) w
end Go.Proofs.Ytlljemggalmcdaa
