/-
  Layer 3's laws: what the document tells, first.
-/
import Derived.Test.YtmemppkkchfphaaCpRefDec
namespace Go.Proofs.Ytmemppkkchfphaa
open Go.RowKit
theorem eql_same'' (z : Nat) (w : World) : (binOp .eql 26 (.agg (numC z)) (.agg (numC z))).run Try.prog w = .ok (.bool true) w := by
  rw [numC_wds, run_eql_ints w .u64 26 24 4 Try.underlying26 Try.underlying24 wordSize _ _ rfl rfl]; simp
theorem decode_alive (z : Nat) (hz : z = Nm.mv 65535 26) (w : World) :
    Calls Try.prog 33 #[.int .i64 486604799] w fun e w' => e = .returned (.tuple #[.agg (numC z), .bool false, .bool false]) ∧ Below w.heap.size w w' := by
  have h := decode_yes 486604799 (by omega) w
  have e1 : Nm.decN 486604799 = z := by rw [hz]; decide
  have e2 : Nm.decLow 486604799 = false := by decide
  have e3 : Nm.decOver 486604799 = false := by decide
  rw [e1, e2, e3] at h
  exact h
theorem move_alive (z : Nat) (hz : z = Nm.mv 65535 26) (w : World) :
    Calls Try.prog 14 #[.agg #[.int .u64 65535, .int .u64 0, .int .u64 0, .int .u64 0], .int .i64 208] w fun e w' => e = .returned (.agg (numC z)) ∧ Below w.heap.size w w' := by
  rw [hz]; exact ref_mv_small 65535 26 (by omega) (by omega) (by omega) 208 (by omega) w
theorem good_one (w : World) : Calls Try.prog 41 #[.int .i64 1] w fun e w' => e = .returned (.bool true) ∧ Below w.heap.size w w' :=
  (good_yes 1 (by omega) w).mono fun _ _ ⟨he, hw⟩ => ⟨he, by rw [← hw]; exact Below.refl _ _⟩
end Go.Proofs.Ytmemppkkchfphaa
