import Derived.Test.YtmemppkkchfphaaRefMove
namespace Go.Proofs.Ytmemppkkchfphaa
open Go.RowKit

set_option maxRecDepth 100000 in
set_option maxHeartbeats 1000000 in
theorem ref_move_down (x n : Nat) (hx : x < Nm.big) (hn : 0 < n) (hm : n ≤ 9223372036854775807) (w : World) :
    Calls Try.prog 14 #[.agg (numC x), .int .i64 (-(n : Int))] w fun e w' => e = .returned (.agg (numC (Nm.down x n))) ∧ Below w.heap.size w w' := by
  by_cases hbg : 256 ≤ n
  · have e := Nm.down_big hx hbg
    rw [e]
    clear e
    go_enter Try.func14, Try.ntmps14
    go_upto_region 2 with fail
    generalize hw1 : World.alloc _ _ = w1
    have h0 : Mv w w1 w.heap.size (w.heap.size + 1) (w.heap.size + 1 + 1) x (cells4 fun _ => 0) := by rw [← hw1]; exact Mv.start w x
    clear hw1
    have ho : Has w1 (w.heap.size + 1 + 1) (numC 0) 26 := h0.o
    go_wp2_with (first
      | (with_reducible refine num_load rfl _ rfl _ rfl _ ho rfl ?_)
      | (with_reducible refine num_store rfl _ _ rfl _ _ rfl rfl _ h0.r rfl ?_))
    exact bodyPost_ret (v := .agg (numC 0)) (num_results Try.results14 _ _ _ rfl (h0.r.row _)) rfl ⟨rfl, below_setRow h0.below (by omega) _⟩
  · go_enter Try.func14, Try.ntmps14
    go_upto_region 2 with fail
    generalize hw1 : World.alloc _ _ = w1
    have h0 : Mv w w1 w.heap.size (w.heap.size + 1) (w.heap.size + 1 + 1) x (cells4 fun _ => 0) := by rw [← hw1]; exact Mv.start w x
    clear hw1
    generalize hB : w.heap.size + 1 + 1 = O at *
    generalize hC : w.heap.size + 1 = R at *
    generalize hD : w.heap.size = A at *
    have HA : Hid (w.heap.size ≤ A) := Lib.hid (by omega)
    have HO : Hid (w.heap.size ≤ O) := Lib.hid (by omega)
    have HR : Hid (w.heap.size ≤ R) := Lib.hid (by omega)
    have H1 : Hid (A ≠ O) := Lib.hid (by omega)
    have H3 : Hid (R ≠ O) := Lib.hid (by omega)
    have H4 : Hid (R ≠ A) := Lib.hid (by omega)
    have H5 : Hid (O ≠ A) := Lib.hid (by omega)
    have HX := Lib.hid hx
    clear hB hC hD hx hm
    go_wp2_with fail
    go_loopw [1] (fun s wr => s = .int .i64 (-(n : Int)) ∧ Mv w wr A R O x (cells4 fun _ => 0)) (fun _ _ => 0)
    case atStart => exact ⟨rfl, h0⟩
    case round =>
      obtain ⟨rfl, hs⟩ := hrel
      go_wp2_with fail
      go_loopw [1] (fun s wr => ∃ (m y : Nat), m < 256 ∧ s = .int .i64 (-(m : Int)) ∧ Hid (Nm.down y m = Nm.down x n ∧ y < Nm.big) ∧ Mv w wr A R O y (cells4 fun _ => 0)) (fun s _ => (-intOf s).toNat)
      case atStart => exact ⟨n, x, by omega, rfl, Lib.hid ⟨rfl, HX.out⟩, hs⟩
      case round =>
        obtain ⟨m, y, hm, rfl, HM, hs⟩ := hrel
        by_cases hge : 64 ≤ m
        · have c1 := hs.a.num (j := 1) (by omega)
          have c2 := hs.a.num (j := 2) (by omega)
          have c3 := hs.a.num (j := 3) (by omega)
          have HE := Lib.hid (down64_cells HM.out.2)
          go_wp2_with (with_reducible refine num_store_eq rfl _ _ rfl _ (Nm.down y 64) _ rfl rfl HE.out _ hs.a rfl ?_)
          go_roundw
          case rel => exact ⟨m - 64, Nm.down y 64, by omega, congrArg (Value.int .i64) (by omega), Lib.hid ⟨by rw [Nm.down_add, show 64 + (m - 64) = m by omega]; exact HM.out.1, Nm.down_lt HM.out.2 _⟩, hs.put _ H4.out H5.out HA.out⟩
          case measure => simp [intOf]; omega
        · have hlt : m < 64 := by omega
          clear hm hge
          by_cases hm0 : m = 0
          · subst hm0
            have e := HM.out.1
            rw [Nm.down_zero] at e
            subst e
            go_wp2_with (first
              | (with_reducible refine num_load rfl _ rfl _ rfl _ hs.a rfl ?_)
              | (with_reducible refine num_store rfl _ _ rfl _ _ rfl rfl _ hs.r rfl ?_))
            exact bodyPost_ret (v := .agg (numC (Nm.down x n))) (num_results Try.results14 _ _ _ rfl (hs.r.row _)) rfl ⟨rfl, below_setRow hs.below HR.out _⟩
          · have hmp : 0 < m := by omega
            clear hm0
            go_wp2_with fail
            go_loopw [6] (fun i wr => ∃ (k : Nat) (g : Nat → Nat), k ≤ 4 ∧ i = .int .i64 k ∧ Mv w wr A R O y (cells4 g) ∧ Hid (Filled (Nm.down y m) k g)) (fun i _ => 4 - (intOf i).toNat)
            case atStart => exact ⟨0, _, by omega, rfl, hs, Lib.hid fun j hj => by omega⟩
            case round =>
              obtain ⟨k, g, hk, rfl, hs3, HG⟩ := hrel
              by_cases hk4 : k < 4
              · have c1 := hs3.a.num (j := k) (by omega)
                have co := hs3.o.word (j := k) (by omega)
                have fo := hs3.o.free k
                have hset : ∀ v1 v2 : Nat, Mv w ((wr.setCell ⟨O, k, none⟩ (.int .u64 (v1 : Nat))).setCell ⟨O, k, none⟩ (.int .u64 (v2 : Nat))).drew A R O y (cells4 (upd g k v2)) := fun v1 v2 => by
                  rw [← upd2 g k v1 v2]
                  exact ((hs3.set k v1 (by omega) H1.out H3.out HO.out).set k v2 (by omega) H1.out H3.out HO.out).drew
                have hset1 : ∀ v : Nat, Mv w (wr.setCell ⟨O, k, none⟩ (.int .u64 (v : Nat))) A R O y (cells4 (upd g k v)) := fun v => hs3.set k v (by omega) H1.out H3.out HO.out
                have HSET := Lib.hid hset
                have HSET1 := Lib.hid hset1
                clear hset hset1
                by_cases hk0 : k = 3
                · subst hk0
                  have hv := Nm.wd_down_top HM.out.2 m 3 (by omega)
                  rw [show m % 64 = m by omega, show 3 + m / 64 = 3 by omega] at hv
                  have HV := Lib.hid hv
                  clear hv
                  go_wp2_with fail
                  rw [downW, ← HV.out]
                  exact ⟨⟨_, _, by decide, rfl, HSET1.out _, Filled.next HG⟩, by decide⟩
                · have hv := Nm.wd_down y m k
                  rw [show m % 64 = m by omega, show k + m / 64 = k by omega] at hv
                  have c2 := hs3.a.num (j := k + 1) (by omega)
                  have HV := Lib.hid hv
                  clear hv
                  obtain rfl | rfl | rfl : k = 0 ∨ k = 1 ∨ k = 2 := by omega
                  all_goals
                    go_wp2_with fail
                    go_region
                    have e := HV.out
                    simp only [Nat.reduceAdd] at e
                    rw [downW, upW, show (64 + -(m : Int)).toNat = 64 - m by omega, downSum _ _ _ (by omega) (Nm.wd_lt _ _), ← e]
                    clear e c1 c2 co fo
                    go_wp2_with fail
                    go_roundw
                    case rel => exact ⟨_, _, by decide, rfl, HSET.out _ _, Filled.next HG⟩
                    case measure => decide
              · obtain rfl : k = 4 := by omega
                have e := cells4_done HG
                rw [e, HM.out.1] at hs3
                clear e
                go_wp2_with (first
                  | (with_reducible refine num_load rfl _ rfl _ rfl _ hs3.o rfl ?_)
                  | (with_reducible refine num_store rfl _ _ rfl _ _ rfl rfl _ hs3.r rfl ?_))
                exact bodyPost_ret (v := .agg (numC (Nm.down x n))) (num_results Try.results14 _ _ _ rfl (hs3.r.row _)) rfl ⟨rfl, below_setRow hs3.below HR.out _⟩
end Go.Proofs.Ytmemppkkchfphaa
