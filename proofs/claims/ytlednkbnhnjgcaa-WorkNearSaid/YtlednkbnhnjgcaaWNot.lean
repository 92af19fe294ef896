import Derived.Test.YtlednkbnhnjgcaaRefBit
import Derived.Test.YtlednkbnhnjgcaaNumMem2
namespace Go.Proofs.Ytlednkbnhnjgcaa
open Go.RowKit

theorem wd_not {x k : Nat} (hx : x < Nm.big) (hk : k < 4) : Nm.wd (Nm.big - 1 - x) k = 18446744073709551615 - Nm.wd x k := by
  unfold Nm.big at *
  rcases Nm.four hk with rfl | rfl | rfl | rfl
  · rw [Nm.wd0, Nm.wd0]; omega
  · rw [Nm.wd1, Nm.wd1]; omega
  · rw [Nm.wd2, Nm.wd2]; omega
  · rw [Nm.wd3, Nm.wd3]; omega
theorem xor64 (v : Nat) (hv : v < 18446744073709551616) : bits .xor .u64 (if IntKind.u64.signed = true then -1 else IntKind.u64.max) (v : Int) = ((18446744073709551615 - v : Nat) : Int) := by
  show IntKind.u64.wrap ((BitVec.ofInt 64 (if IntKind.u64.signed = true then -1 else IntKind.u64.max) ^^^ BitVec.ofInt 64 (v : Int)).toNat : Int) = _
  rw [show BitVec.ofInt 64 (if IntKind.u64.signed = true then -1 else IntKind.u64.max) = BitVec.allOnes 64 by decide, BitVec.allOnes_xor, BitVec.ofInt_natCast, BitVec.toNat_not, BitVec.toNat_ofNat, Nat.mod_eq_of_lt hv, IntKind.wrap_u64]
  omega
theorem idx_num (x : Nat) {k : Nat} (hk : k < 4) (w : World) : (Instr.index 24 (.agg (numC x)) (.int .i64 (k : Int))).run Try.prog w = .ok (.int .u64 (Nm.wd x k : Nat)) w := by
  rcases Nm.four hk with rfl | rfl | rfl | rfl <;> rfl
set_option maxRecDepth 100000 in
set_option maxHeartbeats 400000 in
theorem not (x : Nat) (hx : x < Nm.big) (w : World) :
    Calls Try.prog 18 #[.agg (numC x)] w fun e w' => e = .returned (.agg (numC (Nm.big - 1 - x))) ∧ Below w.heap.size w w' := by
  go_enter Try.func18, Try.ntmps18
  go_upto_region 2 with fail
  generalize hw1 : World.alloc _ _ = w1
  have h0 : Acc w w1 w.heap.size w.heap.size (w.heap.size + 1) (w.heap.size + 1 + 1) x x (cells4 fun _ => 0) := by
    rw [← hw1]; exact Acc.start1 w x (cells4 fun _ => 0)
  clear hw1
  generalize hA : w.heap.size + 1 + 1 = O at *
  generalize hB : w.heap.size + 1 = R at *
  generalize hC : w.heap.size = A at *
  have hAO : A ≠ O := by omega
  have hRO : R ≠ O := by omega
  have hO : w.heap.size ≤ O := by omega
  have hR : w.heap.size ≤ R := by omega
  have HO := Lib.hid hO
  have HR := Lib.hid hR
  have H1 := Lib.hid hAO
  have H3 := Lib.hid hRO
  clear hA hB hC hO hR hAO hRO
  go_wp2_with (with_reducible refine num_load rfl _ rfl _ rfl _ h0.a rfl ?_)
  go_loopw [7] (fun i wr => ∃ (k : Nat) (g : Nat → Nat), k ≤ 4 ∧ i = .int .i64 k ∧ Acc w wr A A R O x x (cells4 g) ∧ Hid (∀ j, j < k → g j = Nm.wd (Nm.big - 1 - x) j)) (fun i _ => 4 - (intOf i).toNat)
  case atStart => exact ⟨0, fun _ => 0, by omega, rfl, h0, Lib.hid fun j hj => by omega⟩
  case round =>
    obtain ⟨k, g, hk, rfl, hs, HG⟩ := hrel
    by_cases hlt : k < 4
    · have hidx := idx_num x hlt
      have fo := hs.o.free k
      have co := hs.o.word hlt
      have hwl := Nm.wd_lt x k
      have hn := wd_not hx hlt
      generalize Nm.wd x k = v at *
      have HN := Lib.hid hn
      have HW := Lib.hid hwl
      clear hn hwl
      go_wp2_with fail
      rw [xor64 v HW.out, ← HN.out]
      exact ⟨⟨k + 1, _, by omega, by go_num, hs.setWord k (Nm.wd (Nm.big - 1 - x) k) hlt H1.out H1.out H3.out HO.out, upd_next HG⟩, by simp [intOf]; omega⟩
    · obtain rfl : k = 4 := by omega
      have e := cells4_done HG
      rw [e] at hs
      clear e
      go_wp2_with (first
        | (with_reducible refine num_load rfl _ rfl _ rfl _ hs.o rfl ?_)
        | (with_reducible refine num_store rfl _ _ rfl _ _ rfl rfl _ hs.r rfl ?_))
      exact bodyPost_ret (v := .agg (numC (Nm.big - 1 - x))) (num_results Try.results18 _ _ _ rfl (hs.r.row _)) rfl ⟨rfl, below_setRow hs.below HR.out _⟩
end Go.Proofs.Ytlednkbnhnjgcaa
