import Derived.Test.YtlednkbnhnjgcaaRefBit
namespace Go.Proofs.Ytlednkbnhnjgcaa
open Go.RowKit

set_option maxRecDepth 100000 in
set_option maxHeartbeats 400000 in
theorem ref_add (x y : Nat) (hx : x < Nm.big) (hy : y < Nm.big) (w : World) :
    Calls Try.prog 6 #[.agg (numC x), .agg (numC y)] w fun e w' => e = .returned (.tuple #[.agg (numC ((x + y) % Nm.big)), .bool (decide (Nm.big ≤ x + y))]) ∧ Below w.heap.size w w' := by
  go_enter Try.func6, Try.ntmps6
  go_wp2_with fail
  generalize hw1 : World.alloc _ _ = w1
  have h0 : Acc w w1 w.heap.size (w.heap.size + 1) (w.heap.size + 1 + 1) (w.heap.size + 1 + 1 + 1) x y (numC 0) := by
    rw [← hw1]; exact Acc.start w x y (numC 0)
  clear hw1
  generalize hA : w.heap.size + 1 + 1 + 1 = O at *
  generalize hB : w.heap.size + 1 + 1 = R at *
  generalize hC : w.heap.size + 1 = B at *
  generalize hD : w.heap.size = A at *
  have h1 : A < B := by omega
  have h2 : B < R := by omega
  have h3 : R < O := by omega
  have hAO : A ≠ O := by omega
  have hBO : B ≠ O := by omega
  have hRO : R ≠ O := by omega
  have hO : w.heap.size ≤ O := by omega
  have HO := Lib.hid hO
  have hR : w.heap.size ≤ R := by omega
  have HR := Lib.hid hR
  have H1 := Lib.hid hAO
  have H2 := Lib.hid hBO
  have H3 := Lib.hid hRO
  clear hA hB hC hO hD hR h1 h2 h3 hAO hBO hRO
  go_loopw [7, 8] (fun c i wr => ∃ k : Nat, k ≤ 256 ∧ i = .int .i64 k ∧ c = .int .i64 (Nm.bcarry x y k : Nat) ∧ Acc w wr A B R O x y (numC (Nm.bsum x y k))) (fun _ i _ => 256 - (intOf i).toNat)
  case atStart => exact ⟨0, by omega, rfl, by rw [(Nm.bzero x y).1]; rfl, by rw [(Nm.bzero x y).2]; exact h0⟩
  case round =>
    obtain ⟨k, hk, rfl, rfl, hs⟩ := hrel
    by_cases hlt : k < 256
    · have g1 := Nm.bit_lt x k
      have g2 := Nm.bit_lt y k
      have g3 := Nm.bcarry_le x y k
      go_wp2_with fail
      refine wp_region_quiet_below (by kernel_rfl) (by kernel_rfl) ?_
      repeat (first
        | (go_big_quiet_want; (with_reducible refine quiet_load_num _ rfl _ rfl _ hs.a.cls ?_); (simp only [Act.put, List.setIfInBounds_toArray, List.set_cons_zero, List.set_cons_succ]); go_big_quiet_on)
        | (go_big_quiet_want; (with_reducible refine quiet_load_num _ rfl _ rfl _ hs.b.cls ?_); (simp only [Act.put, List.setIfInBounds_toArray, List.set_cons_zero, List.set_cons_succ]); go_big_quiet_on)
        | go_big_quiet_step ((go_at_call 12; exact Calls.regrown_of (ref_bit _ _ (by omega) _))))
      refine wpQuiet_nil ?_
      intro _ hw'
      obtain ⟨p, hw''⟩ := hw'
      subst hw''
      have hs2 := hs.on (below_regrown wr p.d p.os)
      clear hs
      generalize Sort.grow (redrawn wr p.d) p.os = w2 at *
      clear p
      by_cases hn : ((Nm.bit x k : Int) + (Nm.bit y k : Int) + (Nm.bcarry x y k : Int)) % 2 = 1
      · have e1 := Nm.bsum_one (x := x) (y := y) (i := k) (by omega)
        have E1 := Lib.hid e1
        have e2 := Nm.bcarry_next x y k
        have E2 := Lib.hid e2
        clear e1 e2
        go_wp2_with (first
          | (with_reducible refine num_load rfl _ rfl _ rfl _ hs2.o rfl ?_)
          | (go_at_call 13; refine (ref_set _ _ (by omega) _).mono ?_; rintro e w3 ⟨rfl, hb3⟩)
          | (with_reducible refine num_store rfl _ _ rfl _ _ rfl rfl _ (hs2.on hb3).o rfl ?_))
        go_roundw
        case rel => exact ⟨k + 1, by omega, by go_num, congrArg (Value.int .i64) (by rw [E2.out]; omega), by rw [E1.out]; exact (hs2.on hb3).put _ H1.out H2.out H3.out HO.out⟩
        case measure => simp [intOf]; omega
      · have e1 := Nm.bsum_none (x := x) (y := y) (i := k) (by omega)
        have E1 := Lib.hid e1
        have e2 := Nm.bcarry_next x y k
        have E2 := Lib.hid e2
        clear e1 e2
        go_wp2_with fail
        go_roundw
        case rel => exact ⟨k + 1, by omega, by go_num, congrArg (Value.int .i64) (by rw [E2.out]; omega), by rw [← E1.out]; exact hs2⟩
        case measure => simp [intOf]; omega
    · obtain rfl : k = 256 := by omega
      go_wp2_with (first
        | (with_reducible refine num_load rfl _ rfl _ rfl _ hs.o rfl ?_)
        | (with_reducible refine num_store rfl _ _ rfl _ _ rfl rfl _ hs.r rfl ?_))
      refine bodyPost_ret (v := .tuple #[.agg (numC (Nm.bsum x y 256)), .bool (decide ((Nm.bcarry x y 256 : Int) = 1))]) (num_results2 Try.results6 _ _ _ _ rfl rfl (hs.r.row _)) rfl ⟨?_, below_setRow hs.below HR.out _⟩
      rw [Nm.bsum_all hx hy, Nm.bcarry_all hx hy]
      exact congrArg (fun b => Ending.returned (.tuple #[.agg (numC ((x + y) % Nm.big)), .bool b])) (decide_eq_decide.2 (by unfold Nm.big at *; omega))
end Go.Proofs.Ytlednkbnhnjgcaa
