/-
  Layer 3's laws: what the document tells, first.
-/
import Derived.Test.YteachheacllblabCpRefDec
namespace Go.Proofs.Yteachheacllblab
open Go.RowKit
theorem eql_same'' (z : Nat) (w : World) : (binOp .eql 24 (.agg (numC z)) (.agg (numC z))).run Try.prog w = .ok (.bool true) w := by
  rw [numC_wds, run_eql_ints w .u64 24 22 4 Try.underlying24 Try.underlying22 wordSize _ _ rfl rfl]; simp
theorem decode_alive (z : Nat) (hz : z = Nm.mv 65535 26) (w : World) :
    Calls Try.prog 10 #[.int .i64 486604799] w fun e w' => e = .returned (.tuple #[.agg (numC z), .bool false, .bool false]) ∧ Below w.heap.size w w' := by
  have h := decode_yes 486604799 (by omega) w
  have e1 : Nm.decN 486604799 = z := by rw [hz]; decide
  have e2 : Nm.decLow 486604799 = false := by decide
  have e3 : Nm.decOver 486604799 = false := by decide
  rw [e1, e2, e3] at h
  exact h
theorem move_alive (z : Nat) (hz : z = Nm.mv 65535 26) (w : World) :
    Calls Try.prog 14 #[.agg #[.int .u64 65535, .int .u64 0, .int .u64 0, .int .u64 0], .int .i64 208] w fun e w' => e = .returned (.agg (numC z)) ∧ Below w.heap.size w w' := by
  rw [hz]; exact ref_mv_small 65535 26 (by omega) (by omega) (by omega) 208 (by omega) w
theorem good_one (w : World) : Calls Try.prog 20 #[.int .i64 1] w fun e w' => e = .returned (.bool true) ∧ Below w.heap.size w w' :=
  (good_yes 1 (by omega) w).mono fun _ _ ⟨he, hw⟩ => ⟨he, by rw [← hw]; exact Below.refl _ _⟩
set_option maxRecDepth 100000 in
set_option maxHeartbeats 1000000 in
theorem alive (w : World) : Calls Try.prog 8 #[] w fun e w' => e = .returned (.bool true) ∧ Below w.heap.size w w' := by
  obtain ⟨z, hz⟩ : ∃ z, z = Nm.mv 65535 26 := ⟨_, rfl⟩
  have KD := Lib.hid (decode_alive z hz)
  have KM := Lib.hid (move_alive z hz)
  have KG := Lib.hid good_one
  clear hz
  go_enter Try.func8, Try.ntmps8
  go_wp2_with fail
  refine (KD.out _).mono ?_
  rintro e v1 ⟨rfl, hb1⟩
  have hZ := Has.newz (w := v1) 24
  go_upto_region 2 with (with_reducible refine num_store rfl _ _ rfl _ _ rfl rfl _ hZ rfl ?_)
  generalize hw2 : World.setRow _ _ _ = v2
  have hD : Has v2 v1.heap.size (numC z) 24 := by rw [← hw2]; exact hZ.row _
  have hB : Below w.heap.size w v2 := by rw [← hw2]; exact below_setRow (hb1.alloc hb1.size _) hb1.size _
  clear hw2 hb1 hZ
  generalize v1.heap.size = D at *
  have hq := eql_same''
  refine wp_region_quiet_below (by kernel_rfl) (by kernel_rfl) ?_
  repeat (first
    | (go_big_quiet_want; (with_reducible refine quiet_load_num _ rfl _ rfl _ hD.cls ?_); (simp only [Act.put, List.setIfInBounds_toArray, List.set_cons_zero, List.set_cons_succ]); go_big_quiet_on)
    | go_big_quiet_step (first | (go_at_call 14; exact Calls.regrown_of (KM.out _)) | (go_at_call 20; exact Calls.regrown_of (KG.out _))))
  refine wpQuiet_nil ?_
  intro _ hw'
  obtain ⟨p, hw''⟩ := hw'
  subst hw''
  have hB2 := hB.trans ((below_regrown v2 p.d p.os).mono hB.size)
  clear hq
  go_wp2_with fail
  go_ret
  exact ⟨rfl, hB2⟩
end Go.Proofs.Yteachheacllblab
