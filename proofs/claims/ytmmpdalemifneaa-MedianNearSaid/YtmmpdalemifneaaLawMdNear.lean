/-
  MedianNear: the walk.
-/
import Derived.Test.YtmmpdalemifneaaMdAlive
namespace Go.Proofs.Ytmmpdalemifneaa
open Go.RowKit Mem Md
set_option maxRecDepth 100000 in
set_option maxHeartbeats 1000000 in
theorem near_out (t now future : Int) (h : t < 0 ∨ now < 0) (w : World) :
    Calls Try.prog 6 #[.int .i64 t, .int .i64 now, .int .i64 future] w fun r w' => r = .returned (.bool true) ∧ Below w.heap.size w w' := by
  by_cases h1 : t < 0
  · have d1 : decide (t < 0) = true := decide_eq_true h1
    clear h h1
    go_enter Try.func6, Try.ntmps6
    go_wp2_with fail
    refine (alive9 w).mono ?_
    rintro r w1 ⟨rfl, hB⟩
    go_wp2_with fail
    go_ret
    exact ⟨rfl, hB⟩
  · have d1 : decide (t < 0) = false := decide_eq_false h1
    have d2 : decide (now < 0) = true := decide_eq_true (by omega)
    clear h h1
    go_enter Try.func6, Try.ntmps6
    go_wp2_with fail
    refine (alive9 w).mono ?_
    rintro r w1 ⟨rfl, hB⟩
    go_wp2_with fail
    go_ret
    exact ⟨rfl, hB⟩
set_option maxRecDepth 100000 in
set_option maxHeartbeats 1000000 in
theorem near_in (t now future : Int) (h1 : ¬ t < 0) (h2 : ¬ now < 0) (b0 : t ≤ 9223372036854775807) (b1 : now ≤ 9223372036854775807) (b2 : future ≤ 9223372036854775807) (w : World) :
    Calls Try.prog 6 #[.int .i64 t, .int .i64 now, .int .i64 future] w fun r w' => r = .returned (.bool true) ∧ Below w.heap.size w w' := by
  have d1 : decide (t < 0) = false := decide_eq_false h1
  have d2 : decide (now < 0) = false := decide_eq_false h2
  have KN := Lib.hid (fun w => near_at t now future (t - now) (by rw [IntKind.wrap_i64]; omega) w)
  by_cases h3 : 0 ≤ future
  · have d3 : decide (0 ≤ future) = true := decide_eq_true h3
    have u1 : IntKind.u64.wrap t = t := by rw [IntKind.wrap_u64]; omega
    have u2 : IntKind.u64.wrap now = now := by rw [IntKind.wrap_u64]; omega
    have u3 : IntKind.u64.wrap future = future := by rw [IntKind.wrap_u64]; omega
    obtain ⟨s, hs⟩ : ∃ s, s = now + future := ⟨_, rfl⟩
    have u4 : IntKind.u64.wrap (now + future) = s := by rw [IntKind.wrap_u64]; omega
    have hd : decide (t - now ≤ future) = decide (t ≤ s) := by rw [hs, decide_eq_decide]; omega
    rw [d3, hd, Bool.true_and] at KN
    by_cases h4 : t ≤ s
    · have d4 : decide (t ≤ s) = true := decide_eq_true h4
      rw [d4] at KN
      clear h1 h2 h3 hs hd h4 b0 b1 b2
      go_enter Try.func6, Try.ntmps6
      go_wp2_with fail
      refine (alive9 w).mono ?_
      rintro r w1 ⟨rfl, hB⟩
      go_wp2_with fail
      refine (KN.out w1).mono ?_
      rintro r w2 ⟨rfl, rfl⟩
      go_wp2_with fail
      go_ret
      exact ⟨rfl, hB⟩
    · have d4 : decide (t ≤ s) = false := decide_eq_false h4
      rw [d4] at KN
      clear h1 h2 h3 hs hd h4 b0 b1 b2
      go_enter Try.func6, Try.ntmps6
      go_wp2_with fail
      refine (alive9 w).mono ?_
      rintro r w1 ⟨rfl, hB⟩
      go_wp2_with fail
      refine (KN.out w1).mono ?_
      rintro r w2 ⟨rfl, rfl⟩
      go_wp2_with fail
      go_ret
      exact ⟨rfl, hB⟩
  · have d3 : decide (0 ≤ future) = false := decide_eq_false h3
    rw [d3, Bool.false_and] at KN
    clear h1 h2 h3 b0 b1 b2
    go_enter Try.func6, Try.ntmps6
    go_wp2_with fail
    refine (alive9 w).mono ?_
    rintro r w1 ⟨rfl, hB⟩
    go_wp2_with fail
    refine (KN.out w1).mono ?_
    rintro r w2 ⟨rfl, rfl⟩
    go_wp2_with fail
    go_ret
    exact ⟨rfl, hB⟩
theorem law_near (t now future : Int) (b0 : -9223372036854775808 ≤ t ∧ t ≤ 9223372036854775807) (b1 : -9223372036854775808 ≤ now ∧ now ≤ 9223372036854775807) (b2 : -9223372036854775808 ≤ future ∧ future ≤ 9223372036854775807) (w : World) :
    Calls Try.prog 6 #[.int .i64 t, .int .i64 now, .int .i64 future] w fun r w' => r = .returned (.bool true) ∧ Below w.heap.size w w' := by
  by_cases h : t < 0 ∨ now < 0
  · exact near_out t now future h w
  · exact near_in t now future (by omega) (by omega) b0.2 b1.2 b2.2 w
end Go.Proofs.Ytmmpdalemifneaa
