import Derived.Test.YtlednkbnhnjgcaaRefBit
import Derived.Shelf.Spec.BitsCarry
namespace Go.Proofs.Ytlednkbnhnjgcaa
open Go.RowKit

theorem sub64 (x y k : Nat) (hx : x < Nm.big) (hy : y < Nm.big) (hk : k < 4) (w : World) :
    (callFunc 34 #[.int .u64 (Nm.wd x k : Nat), .int .u64 (Nm.wd y k : Nat), .int .u64 (Nm.borrow x y k : Nat)]).run Try.prog w =
      .ok (.value (.tuple #[.int .u64 (Nm.wd (x + Nm.big - y) k : Nat), .int .u64 (Nm.borrow x y (k + 1) : Nat)])) w := by
  rw [Nm.wd_sub x y hx hy hk, Nm.borrow_next, run_callFunc_extern Try.func34 (by kernel_rfl) (by kernel_rfl) (by kernel_rfl) (e := sub64Entry) (by kernel_rfl), run_sub64 _ _ _ (Nm.borrow_le x y k)]
  rfl

set_option maxRecDepth 100000 in
set_option maxHeartbeats 400000 in
theorem sub (x y : Nat) (hx : x < Nm.big) (hy : y < Nm.big) (w : World) :
    Calls Try.prog 25 #[.agg (numC x), .agg (numC y)] w fun e w' => e = .returned (.tuple #[.agg (numC ((x + Nm.big - y) % Nm.big)), .bool (decide (x < y))]) ∧ Below w.heap.size w w' := by
  go_enter Try.func25, Try.ntmps25
  go_wp2_with fail
  generalize hw1 : World.alloc _ _ = w1
  have h0 : Acc w w1 w.heap.size (w.heap.size + 1) (w.heap.size + 1 + 1) (w.heap.size + 1 + 1 + 1) x y (cells4 fun _ => 0) := by
    rw [← hw1]; exact Acc.start w x y (cells4 fun _ => 0)
  clear hw1
  generalize hA : w.heap.size + 1 + 1 + 1 = O at *
  generalize hB : w.heap.size + 1 + 1 = R at *
  generalize hC : w.heap.size + 1 = B at *
  generalize hD : w.heap.size = A at *
  have h1 : A < B := by omega
  have h2 : B < R := by omega
  have h3 : R < O := by omega
  have hAO : A ≠ O := by omega
  have hBO : B ≠ O := by omega
  have hRO : R ≠ O := by omega
  have hO : w.heap.size ≤ O := by omega
  have HO := Lib.hid hO
  have hR : w.heap.size ≤ R := by omega
  have HR := Lib.hid hR
  have H1 := Lib.hid hAO
  have H2 := Lib.hid hBO
  have H3 := Lib.hid hRO
  clear hA hB hC hO hD hR h1 h2 h3 hAO hBO hRO
  go_loopw [7, 9] (fun c i wr => ∃ (k : Nat) (g : Nat → Nat), k ≤ 4 ∧ i = .int .i64 k ∧ c = .int .u64 (Nm.borrow x y k : Nat) ∧ Acc w wr A B R O x y (cells4 g) ∧ Hid (∀ j, j < k → g j = Nm.wd (x + Nm.big - y) j)) (fun _ i _ => 4 - (intOf i).toNat)
  case atStart => exact ⟨0, fun _ => 0, by omega, rfl, by rw [Nm.borrow_zero]; rfl, h0, Lib.hid fun j hj => by omega⟩
  case round =>
    obtain ⟨k, g, hk, rfl, rfl, hs, HG⟩ := hrel
    by_cases hlt : k < 4
    · have hcr := Nm.borrow_le x y k
      have hsub := sub64 x y k hx hy hlt
      have ca := hs.a.num hlt
      have cb := hs.b.num hlt
      have co := hs.o.word hlt
      have fo := hs.o.free k
      go_wp2_with fail
      go_region
      go_wp2_with fail
      go_roundw
      case rel => exact ⟨k + 1, _, by omega, by go_num, rfl, (hs.setWord k (Nm.wd (x + Nm.big - y) k) hlt H1.out H2.out H3.out HO.out).drew, upd_next HG⟩
      case measure => simp [intOf]; omega
    · obtain rfl : k = 4 := by omega
      have e := cells4_done HG
      rw [e] at hs
      clear e
      go_wp2_with (first
        | (with_reducible refine num_load rfl _ rfl _ rfl _ hs.o rfl ?_)
        | (with_reducible refine num_store rfl _ _ rfl _ _ rfl rfl _ hs.r rfl ?_))
      refine bodyPost_ret (v := .tuple #[.agg (numC (x + Nm.big - y)), .bool (!decide ((Nm.borrow x y 4 : Int) = 0))]) (num_results2 Try.results25 _ _ _ _ rfl rfl (hs.r.row _)) rfl ⟨?_, below_setRow hs.below HR.out _⟩
      rw [Nm.borrow_four hx hy, numC_mod]
      exact congrArg (fun b => Ending.returned (.tuple #[.agg (numC (x + Nm.big - y)), .bool b])) (by rw [← decide_not]; exact decide_eq_decide.2 (by split <;> omega))
end Go.Proofs.Ytlednkbnhnjgcaa
