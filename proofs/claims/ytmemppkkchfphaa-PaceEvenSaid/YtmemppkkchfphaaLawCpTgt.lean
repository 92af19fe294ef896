import Derived.Test.YtmemppkkchfphaaCpTarget
namespace Go.Proofs.Ytmemppkkchfphaa
open Go.RowKit
theorem eql_bool_same (b : Bool) (w : World) : (binOp .eql 4 (.bool b) (.bool b)).run Try.prog w = .ok (.bool true) w := by
  cases b <;> kernel_rfl
theorem decode_both (b : Int) : ∃ (z : Nat) (low over : Bool), z < Nm.big ∧ (∀ w, Calls Try.prog 33 #[.int .i64 b] w fun e w' => e = .returned (.tuple #[.agg (numC z), .bool low, .bool over]) ∧ Below w.heap.size w w') ∧ (∀ w, Calls Try.prog 18 #[.int .i64 b] w fun e w' => e = .returned (.tuple #[.agg (numC z), .bool low, .bool over]) ∧ Below w.heap.size w w') := by
  by_cases h : 0 ≤ b ∧ b ≤ 4294967295
  · obtain ⟨n, rfl⟩ := Int.eq_ofNat_of_zero_le h.1
    exact ⟨_, _, _, Nm.mv_lt (by unfold Nm.big; omega) _, fun w => decode_yes n (by omega) w, fun w => ref_decode_yes n (by omega) w⟩
  · exact ⟨0, false, false, by decide, fun w => decode_no b h w, fun w => ref_decode_no b h w⟩
def tgt (z y : Nat) (low over low2 over2 : Bool) : Bool := !low && !over && !low2 && !over2 && !decide (z = 0) && !decide (y < z)
theorem target_any (b c : Int) (z y : Nat) (low over low2 over2 : Bool) (hz : z < Nm.big) (hy : y < Nm.big)
    (KD : Hid (∀ w, Calls Try.prog 33 #[.int .i64 b] w fun e w' => e = .returned (.tuple #[.agg (numC z), .bool low, .bool over]) ∧ Below w.heap.size w w'))
    (KD2 : Hid (∀ w, Calls Try.prog 33 #[.int .i64 c] w fun e w' => e = .returned (.tuple #[.agg (numC y), .bool low2, .bool over2]) ∧ Below w.heap.size w w')) (w : World) :
    Calls Try.prog 19 #[.int .i64 b, .int .i64 c] w fun e w' => e = .returned (.tuple #[.agg (numC (if tgt z y low over low2 over2 then z else 0)), .bool (tgt z y low over low2 over2)]) ∧ Below w.heap.size w w' := by
  have i1 := fun g hg => Lib.hid (inRange_is b z low over g hg KD)
  have i2 := fun g hg => Lib.hid (inRange_is c y low2 over2 g hg KD2)
  by_cases h1 : (!low && !over) = false
  · have e : tgt z y low over low2 over2 = false := by unfold tgt; rw [h1]; simp
    rw [e, if_neg (by simp)]
    exact target_c1 b c _ z y (i1 false h1) (i2 _ rfl) w
  have h1' : (!low && !over) = true := by simpa using h1
  by_cases h2 : (!low2 && !over2) = false
  · have e : tgt z y low over low2 over2 = false := by unfold tgt; rw [h1']; revert h2; cases low2 <;> cases over2 <;> simp
    rw [e, if_neg (by simp)]
    exact target_c2 b c z y (i1 true h1') (i2 false h2) w
  have h2' : (!low2 && !over2) = true := by simpa using h2
  have ht : tgt z y low over low2 over2 = (!decide (z = 0) && !decide (y < z)) := by
    revert h1' h2'; unfold tgt; cases low <;> cases over <;> cases low2 <;> cases over2 <;> simp
  by_cases h3 : z = 0
  · have e : tgt z y low over low2 over2 = false := by rw [ht, decide_eq_true h3]; simp
    rw [e, if_neg (by simp)]
    exact target_c3 b c z y (i1 true h1') (i2 true h2') (Lib.hid (zero_is z hz true (decide_eq_true h3))) w
  by_cases h4 : y < z
  · have e : tgt z y low over low2 over2 = false := by rw [ht, decide_eq_true h4]; simp
    rw [e, if_neg (by simp)]
    exact target_c4 b c z y (i1 true h1') (i2 true h2') (Lib.hid (zero_is z hz false (decide_eq_false h3))) (Lib.hid (less_is y z hy hz true (decide_eq_true h4))) w
  · have e : tgt z y low over low2 over2 = true := by rw [ht, decide_eq_false h4, decide_eq_false h3]; rfl
    rw [e, if_pos rfl]
    exact target_c5 b c z y (i1 true h1') (i2 true h2') (Lib.hid (zero_is z hz false (decide_eq_false h3))) (Lib.hid (less_is y z hy hz false (decide_eq_false h4))) w
theorem rtarget_any (b c : Int) (z y : Nat) (low over low2 over2 : Bool) (hz : z < Nm.big) (hy : y < Nm.big)
    (KD : Hid (∀ w, Calls Try.prog 18 #[.int .i64 b] w fun e w' => e = .returned (.tuple #[.agg (numC z), .bool low, .bool over]) ∧ Below w.heap.size w w'))
    (KD2 : Hid (∀ w, Calls Try.prog 18 #[.int .i64 c] w fun e w' => e = .returned (.tuple #[.agg (numC y), .bool low2, .bool over2]) ∧ Below w.heap.size w w')) (w : World) :
    Calls Try.prog 10 #[.int .i64 b, .int .i64 c] w fun e w' => e = .returned (.tuple #[.agg (numC (if tgt z y low over low2 over2 then z else 0)), .bool (tgt z y low over low2 over2)]) ∧ Below w.heap.size w w' := by
  cases low
  case true => exact rtarget_c1 b c z y _ _ _ KD KD2 w
  cases over
  case true => exact rtarget_c2 b c z y _ _ KD KD2 w
  cases low2
  case true => exact rtarget_c3 b c z y _ KD KD2 w
  cases over2
  case true => exact rtarget_c4 b c z y KD KD2 w
  have ht : tgt z y false false false false = (!decide (z = 0) && !decide (y < z)) := rfl
  by_cases h3 : z = 0
  · have e : tgt z y false false false false = false := by rw [ht, decide_eq_true h3]; simp
    rw [e, if_neg (by simp)]
    exact rtarget_c5 b c z y KD KD2 (eql_zero z hz true (decide_eq_true h3)) w
  by_cases h4 : y < z
  · have e : tgt z y false false false false = false := by rw [ht, decide_eq_true h4]; simp
    rw [e, if_neg (by simp)]
    exact rtarget_c6 b c z y KD KD2 (eql_zero z hz false (decide_eq_false h3)) (Lib.hid (ref_less_is y z hy hz true (decide_eq_true h4))) w
  · have e : tgt z y false false false false = true := by rw [ht, decide_eq_false h4, decide_eq_false h3]; rfl
    rw [e, if_pos rfl]
    exact rtarget_c7 b c z y KD KD2 (eql_zero z hz false (decide_eq_false h3)) (Lib.hid (ref_less_is y z hy hz false (decide_eq_false h4))) w
theorem neq_zero (z : Nat) (hz : z < Nm.big) (g : Bool) (hg : (!decide (z = 0)) = g) (w : World) : (binOp .neq 26 (.agg (numC z)) (.agg #[.int .u64 0, .int .u64 0, .int .u64 0, .int .u64 0])).run Try.prog w = .ok (.bool g) w := by
  rw [← hg]; exact neq_num hz (show 0 < Nm.big by decide) w
end Go.Proofs.Ytmemppkkchfphaa
