import Derived.Test.YteachheacllblabRefBit
import Derived.Test.YteachheacllblabNum2
import Derived.Test.YteachheacllblabNumMem2
namespace Go.Proofs.Yteachheacllblab
open Go.RowKit

set_option maxRecDepth 100000 in
set_option maxHeartbeats 400000 in
theorem ref_not (x : Nat) (hx : x < Nm.big) (w : World) :
    Calls Try.prog 27 #[.agg (numC x)] w fun e w' => e = .returned (.agg (numC (Nm.big - 1 - x))) ∧ Below w.heap.size w w' := by
  go_enter Try.func27, Try.ntmps27
  go_wp2_with fail
  generalize hw1 : World.alloc _ _ = w1
  have h0 : Acc w w1 w.heap.size w.heap.size (w.heap.size + 1) (w.heap.size + 1 + 1) x x (numC 0) := by
    rw [← hw1]; exact Acc.start1 w x (numC 0)
  clear hw1
  generalize hA : w.heap.size + 1 + 1 = O at *
  generalize hB : w.heap.size + 1 = R at *
  generalize hC : w.heap.size = A at *
  have hAO : A ≠ O := by omega
  have hRO : R ≠ O := by omega
  have hO : w.heap.size ≤ O := by omega
  have hR : w.heap.size ≤ R := by omega
  have HO := Lib.hid hO
  have HR := Lib.hid hR
  have H1 := Lib.hid hAO
  have H3 := Lib.hid hRO
  clear hA hB hC hO hR hAO hRO
  go_loopw [4] (fun i wr => ∃ k : Nat, k ≤ 256 ∧ i = .int .i64 k ∧ Acc w wr A A R O x x (numC (Nm.bnot x k))) (fun i _ => 256 - (intOf i).toNat)
  case atStart => exact ⟨0, by omega, rfl, by rw [Nm.bnot_zero]; exact h0⟩
  case round =>
    obtain ⟨k, hk, rfl, hs⟩ := hrel
    by_cases hlt : k < 256
    · have g1 := Nm.bit_lt x k
      by_cases hn : Nm.bit x k = 0
      · have e1 := Nm.bnot_none hn
        have E1 := Lib.hid e1
        have hc := fun w => ref_bit x k hlt w
        rw [hn] at hc
        have HC := Lib.hid hc
        clear e1 hn hc g1
        go_wp2_with (with_reducible refine num_load rfl _ rfl _ rfl _ hs.a rfl ?_)
        refine (HC.out _).mono ?_
        rintro e w2 ⟨rfl, hb2⟩
        have hs2 := hs.on hb2
        go_wp2_with (with_reducible refine num_load rfl _ rfl _ rfl _ hs2.o rfl ?_)
        refine (ref_set _ _ (by omega) _).mono ?_
        rintro e w3 ⟨rfl, hb3⟩
        have hs3 := hs2.on hb3
        go_wp2_with (with_reducible refine num_store rfl _ _ rfl _ _ rfl rfl _ hs3.o rfl ?_)
        go_roundw
        case rel => exact ⟨k + 1, by omega, by go_num, by rw [E1.out]; exact hs3.put _ H1.out H1.out H3.out HO.out⟩
        case measure => simp [intOf]; omega
      · have e1 := Nm.bnot_one hn
        have E1 := Lib.hid e1
        have hc := fun w => ref_bit x k hlt w
        rw [show Nm.bit x k = 1 by omega] at hc
        have HC := Lib.hid hc
        clear e1 hn hc g1
        go_wp2_with (with_reducible refine num_load rfl _ rfl _ rfl _ hs.a rfl ?_)
        refine (HC.out _).mono ?_
        rintro e w2 ⟨rfl, hb2⟩
        have hs2 := hs.on hb2
        go_wp2_with fail
        go_roundw
        case rel => exact ⟨k + 1, by omega, by go_num, by rw [← E1.out]; exact hs2⟩
        case measure => simp [intOf]; omega
    · obtain rfl : k = 256 := by omega
      go_wp2_with (first
        | (with_reducible refine num_load rfl _ rfl _ rfl _ hs.o rfl ?_)
        | (with_reducible refine num_store rfl _ _ rfl _ _ rfl rfl _ hs.r rfl ?_))
      refine bodyPost_ret (v := .agg (numC (Nm.bnot x 256))) (num_results Try.results27 _ _ _ rfl (hs.r.row _)) rfl ⟨?_, below_setRow hs.below HR.out _⟩
      rw [Nm.bnot_all hx]
end Go.Proofs.Yteachheacllblab
