import Derived.Test.YtmemppkkchfphaaRefBit
import Derived.Test.YtmemppkkchfphaaNumEq
namespace Go.Proofs.Ytmemppkkchfphaa
open Go.RowKit

theorem most_cells : (#[.int .u64 18446744073709551615, .int .u64 18446744073709551615, .int .u64 18446744073709551615, .int .u64 18446744073709551615] : Array Value) = numC (Nm.big - 1) := by
  unfold numC cells4
  rw [show Nm.wd (Nm.big - 1) 0 = 18446744073709551615 by decide +kernel, show Nm.wd (Nm.big - 1) 1 = 18446744073709551615 by decide +kernel, show Nm.wd (Nm.big - 1) 2 = 18446744073709551615 by decide +kernel, show Nm.wd (Nm.big - 1) 3 = 18446744073709551615 by decide +kernel]
  rfl
theorem small_cells (n : Nat) (hn : n < 18446744073709551616) : (#[.int .u64 (n : Int), .int .u64 0, .int .u64 0, .int .u64 0] : Array Value) = numC n := by
  unfold numC cells4
  rw [Nm.wd0, Nm.wd1, Nm.wd2, Nm.wd3, Nat.mod_eq_of_lt hn, Nat.div_eq_of_lt hn, Nat.div_eq_of_lt (by omega), Nat.div_eq_of_lt (by omega)]
  rfl
theorem of (n : Nat) (hn : n < 18446744073709551616) (w : World) : Calls Try.prog 23 #[.int .u64 (n : Int)] w fun e w' => e = .returned (.agg (numC n)) ∧ Below w.heap.size w w' := by
  go_enter Try.func23, Try.ntmps23
  go_wp2_with fail
  rw [small_cells n hn]
  exact bodyPost_ret (v := .agg (numC n)) (num_results Try.results23 _ _ _ rfl (Has.new _ _)) rfl ⟨rfl, (Below.refl _ _).alloc (Nat.le_refl _) _⟩
theorem zero (x : Nat) (hx : x < Nm.big) (w : World) : Calls Try.prog 22 #[.agg (numC x)] w fun e w' => e = .returned (.bool (decide (x = 0))) ∧ Below w.heap.size w w' := by
  have hq := eql_num hx (show 0 < Nm.big by decide)
  rw [← zero4] at hq
  go_enter Try.func22, Try.ntmps22
  go_wp2_with (with_reducible refine num_load rfl _ rfl _ rfl _ (Has.new _ _) rfl ?_)
  go_ret
  exact ⟨rfl, (Below.refl _ _).alloc (Nat.le_refl _) _⟩
end Go.Proofs.Ytmemppkkchfphaa
