import Derived.Test.YtlednkbnhnjgcaaRefBit
import Derived.Test.YtlednkbnhnjgcaaNumEq
namespace Go.Proofs.Ytlednkbnhnjgcaa
open Go.RowKit

theorem most_cells : (#[.int .u64 18446744073709551615, .int .u64 18446744073709551615, .int .u64 18446744073709551615, .int .u64 18446744073709551615] : Array Value) = numC (Nm.big - 1) := by
  unfold numC cells4
  rw [show Nm.wd (Nm.big - 1) 0 = 18446744073709551615 by decide +kernel, show Nm.wd (Nm.big - 1) 1 = 18446744073709551615 by decide +kernel, show Nm.wd (Nm.big - 1) 2 = 18446744073709551615 by decide +kernel, show Nm.wd (Nm.big - 1) 3 = 18446744073709551615 by decide +kernel]
  rfl
theorem small_cells (n : Nat) (hn : n < 18446744073709551616) : (#[.int .u64 (n : Int), .int .u64 0, .int .u64 0, .int .u64 0] : Array Value) = numC n := by
  unfold numC cells4
  rw [Nm.wd0, Nm.wd1, Nm.wd2, Nm.wd3, Nat.mod_eq_of_lt hn, Nat.div_eq_of_lt hn, Nat.div_eq_of_lt (by omega), Nat.div_eq_of_lt (by omega)]
  rfl
set_option maxRecDepth 100000 in
set_option maxHeartbeats 400000 in
theorem most (w : World) : Calls Try.prog 28 #[] w fun e w' => e = .returned (.agg (numC (Nm.big - 1))) ∧ Below w.heap.size w w' := by
  go_enter Try.func28, Try.ntmps28
  go_wp2_with fail
  rw [most_cells]
  exact bodyPost_ret (v := .agg (numC (Nm.big - 1))) (num_results Try.results28 _ _ _ rfl (Has.new _ _)) rfl ⟨rfl, (Below.refl _ _).alloc (Nat.le_refl _) _⟩
theorem of (n : Nat) (hn : n < 18446744073709551616) (w : World) : Calls Try.prog 16 #[.int .u64 (n : Int)] w fun e w' => e = .returned (.agg (numC n)) ∧ Below w.heap.size w w' := by
  go_enter Try.func16, Try.ntmps16
  go_wp2_with fail
  rw [small_cells n hn]
  exact bodyPost_ret (v := .agg (numC n)) (num_results Try.results16 _ _ _ rfl (Has.new _ _)) rfl ⟨rfl, (Below.refl _ _).alloc (Nat.le_refl _) _⟩
theorem zero (x : Nat) (hx : x < Nm.big) (w : World) : Calls Try.prog 21 #[.agg (numC x)] w fun e w' => e = .returned (.bool (decide (x = 0))) ∧ Below w.heap.size w w' := by
  have hq := eql_num hx (show 0 < Nm.big by decide)
  rw [← zero4] at hq
  go_enter Try.func21, Try.ntmps21
  go_wp2_with (with_reducible refine num_load rfl _ rfl _ rfl _ (Has.new _ _) rfl ?_)
  go_ret
  exact ⟨rfl, (Below.refl _ _).alloc (Nat.le_refl _) _⟩
end Go.Proofs.Ytlednkbnhnjgcaa
