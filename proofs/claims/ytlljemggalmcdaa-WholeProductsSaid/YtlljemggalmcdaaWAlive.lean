import Derived.Test.YtlljemggalmcdaaWAdd
import Derived.Test.YtlljemggalmcdaaWSmall
import Derived.Test.YtlljemggalmcdaaWLen
namespace Go.Proofs.Ytlljemggalmcdaa
open Go.RowKit

theorem of_one (w : World) : Calls Try.prog 24 #[.int .u64 1] w fun e w' => e = .returned (.agg (numC 1)) ∧ Below w.heap.size w w' := of 1 (by decide) w
theorem add_alive (w : World) : Calls Try.prog 11 #[.agg (numC (Nm.big - 1)), .agg (numC 1)] w fun e w' => e = .returned (.tuple #[.agg (numC 0), .bool true]) ∧ Below w.heap.size w w' :=
  (add (Nm.big - 1) 1 (by decide) (by decide) w).mono fun _ _ ⟨he, hb⟩ => ⟨by rw [he, show (Nm.big - 1 + 1) % Nm.big = 0 by decide, show decide (Nm.big ≤ Nm.big - 1 + 1) = true by decide], hb⟩
theorem len_most (w : World) : Calls Try.prog 23 #[.agg (numC (Nm.big - 1))] w fun e w' => e = .returned (.int .i64 256) ∧ Below w.heap.size w w' :=
  (len (Nm.big - 1) (by decide) w).mono fun _ _ ⟨he, hb⟩ => ⟨by
    rw [he, ← Nm.len_of (x := Nm.big - 1) (n := 256) ⟨by decide, fun _ => by decide⟩]; rfl, hb⟩
set_option maxRecDepth 100000 in
set_option maxHeartbeats 400000 in
theorem alive (w : World) : Calls Try.prog 10 #[] w fun e w' => e = .returned (.bool true) ∧ Below w.heap.size w w' := by
  have hq := fun w => eql_num (show 0 < Nm.big by decide) (show 0 < Nm.big by decide) w
  have hq' : ∀ w, (binOp .eql 24 (.agg (numC 0)) (.agg #[.int .u64 0, .int .u64 0, .int .u64 0, .int .u64 0])).run Try.prog w = .ok (.bool true) w := hq
  clear hq
  go_enter Try.func10, Try.ntmps10
  go_wp2_with fail
  refine (most _).mono ?_
  rintro e w1 ⟨rfl, hb1⟩
  go_wp2_with fail
  refine (of_one _).mono ?_
  rintro e w2 ⟨rfl, hb2⟩
  go_wp2_with fail
  refine (add_alive _).mono ?_
  rintro e w3 ⟨rfl, hb3⟩
  have hB3 : Below w.heap.size w w3 := (hb1.trans (hb2.mono hb1.size)).trans (hb3.mono (Nat.le_trans hb1.size hb2.size))
  clear hb1 hb2 hb3
  have hN := Has.newz (w := w3) 24
  go_upto_region 2 with (with_reducible refine num_store rfl _ _ rfl _ _ rfl rfl _ hN rfl ?_)
  generalize hw4 : World.setRow _ _ _ = w4
  have hS : Has w4 w3.heap.size (numC 0) 24 := by rw [← hw4]; exact hN.row _
  have hB4 : Below w.heap.size w w4 := by rw [← hw4]; exact below_setRow (hB3.alloc hB3.size _) hB3.size _
  clear hw4 hN
  go_wp2_with (with_reducible refine num_load rfl _ rfl _ rfl _ hS rfl ?_)
  refine (most _).mono ?_
  rintro e w5 ⟨rfl, hb5⟩
  go_wp2_with fail
  refine (len_most _).mono ?_
  rintro e w6 ⟨rfl, hb6⟩
  have hB6 := (hB4.trans (hb5.mono hB4.size)).trans (hb6.mono (Nat.le_trans hB4.size hb5.size))
  clear hB4 hb5 hb6
  go_wp2_with fail
  go_ret
  exact ⟨rfl, hB6⟩
end Go.Proofs.Ytlljemggalmcdaa
