import Derived.Test.YtpophaejeklaoaaGreatDoorBunQ20
import Derived.Shelf.Spec.BitsCarry
namespace Go.Proofs.YtpophaejeklaoaaGreatDoor.NN
open Go.RowKit

theorem add64 (x y c : Nat) (hc : c ≤ 1) (w : World) :
    (callFunc 86 #[.int .u64 (x : Int), .int .u64 (y : Int), .int .u64 (c : Int)]).run Tryz.prog w =
      .ok (.value (.tuple #[.int .u64 (((x + y + c) % 18446744073709551616 : Nat) : Int), .int .u64 (((x + y + c) / 18446744073709551616 : Nat) : Int)])) w := by
  rw [run_callFunc_extern Tryz.func86 (by kernel_rfl) (by kernel_rfl) (by kernel_rfl) (e := add64Entry) (by kernel_rfl), run_add64 x y c (by omega) (by omega) (by omega) (by omega)]
  simp only [Result.andThen]
  congr 5 <;> omega

set_option maxRecDepth 100000 in
set_option maxHeartbeats 400000 in
theorem add (x y : Nat) (hx : x < Nm.big) (hy : y < Nm.big) (w : World) :
    Calls Tryz.prog 69 #[.agg (numC x), .agg (numC y)] w fun e w' => e = .returned (.tuple #[.agg (numC ((x + y) % Nm.big)), .bool (decide (Nm.big ≤ x + y))]) ∧ Below w.heap.size w w' := by
  go_enter Tryz.func69, Tryz.ntmps69
  go_wp2_with fail
  generalize hw1 : World.alloc _ _ = w1
  have h0 : Acc w w1 w.heap.size (w.heap.size + 1) (w.heap.size + 1 + 1) (w.heap.size + 1 + 1 + 1) x y (cells4 fun _ => 0) := by
    rw [← hw1]; exact Acc.start w x y (cells4 fun _ => 0)
  clear hw1
  generalize hA : w.heap.size + 1 + 1 + 1 = O at *
  generalize hB : w.heap.size + 1 + 1 = R at *
  generalize hC : w.heap.size + 1 = B at *
  generalize hD : w.heap.size = A at *
  have h1 : A < B := by omega
  have h2 : B < R := by omega
  have h3 : R < O := by omega
  have hAO : A ≠ O := by omega
  have hBO : B ≠ O := by omega
  have hRO : R ≠ O := by omega
  have hO : w.heap.size ≤ O := by omega
  have HO := Lib.hid hO
  have hR : w.heap.size ≤ R := by omega
  have HR := Lib.hid hR
  have H1 := Lib.hid hAO
  have H2 := Lib.hid hBO
  have H3 := Lib.hid hRO
  clear hA hB hC hO hD hR h1 h2 h3 hAO hBO hRO
  go_loopw [7, 9] (fun c i wr => ∃ (k : Nat) (g : Nat → Nat), k ≤ 4 ∧ i = .int .i64 k ∧ c = .int .u64 (Nm.carry x y k : Nat) ∧ Acc w wr A B R O x y (cells4 g) ∧ Hid (∀ j, j < k → g j = Nm.wd (x + y) j)) (fun _ i _ => 4 - (intOf i).toNat)
  case atStart => exact ⟨0, fun _ => 0, by omega, rfl, by rw [Nm.carry_zero]; rfl, h0, Lib.hid fun j hj => by omega⟩
  case round =>
    obtain ⟨k, g, hk, rfl, rfl, hs, HG⟩ := hrel
    by_cases hlt : k < 4
    · have hcr := Nm.carry_le x y k
      have hadd := add64 (Nm.wd x k) (Nm.wd y k) (Nm.carry x y k) hcr
      simp only [← Nm.wd_add, ← Nm.carry_next] at hadd
      have ca := hs.a.num hlt
      have cb := hs.b.num hlt
      have co := hs.o.word hlt
      have fo := hs.o.free k
      go_wp2_with fail
      go_region
      go_wp2_with fail
      go_roundw
      case rel => exact ⟨k + 1, _, by omega, by go_num, rfl, (hs.setWord k (Nm.wd (x + y) k) hlt H1.out H2.out H3.out HO.out).drew, upd_next HG⟩
      case measure => simp [intOf]; omega
    · obtain rfl : k = 4 := by omega
      have e := cells4_done HG
      rw [e] at hs
      clear e
      go_wp2_with (first
        | (with_reducible refine num_load rfl _ rfl _ rfl _ hs.o rfl ?_)
        | (with_reducible refine num_store rfl _ _ rfl _ _ rfl rfl _ hs.r rfl ?_))
      refine bodyPost_ret (v := .tuple #[.agg (numC (x + y)), .bool (!decide ((Nm.carry x y 4 : Int) = 0))]) (num_results2 Tryz.results69 _ _ _ _ rfl rfl (hs.r.row _)) rfl ⟨?_, below_setRow hs.below HR.out _⟩
      rw [Nm.carry_four hx hy, numC_mod]
      exact congrArg (fun b => Ending.returned (.tuple #[.agg (numC (x + y)), .bool b])) (by rw [← decide_not]; exact decide_eq_decide.2 (by unfold Nm.big at *; omega))
end Go.Proofs.YtpophaejeklaoaaGreatDoor.NN
