import Derived.Test.YtmemppkkchfphaaRefBit
import Derived.Test.YtmemppkkchfphaaNum2
import Derived.Test.YtmemppkkchfphaaNumMem2
namespace Go.Proofs.Ytmemppkkchfphaa
open Go.RowKit

set_option maxRecDepth 100000 in
set_option maxHeartbeats 400000 in
theorem ref_less (x y : Nat) (hx : x < Nm.big) (hy : y < Nm.big) (w : World) :
    Calls Try.prog 12 #[.agg (numC x), .agg (numC y)] w fun e w' => e = .returned (.bool (decide (x < y))) ∧ Below w.heap.size w w' := by
  go_enter Try.func12, Try.ntmps12
  go_wp2_with fail
  generalize hw1 : World.alloc _ _ = w1
  have h0 : Two w w1 w.heap.size (w.heap.size + 1) x y := by
    rw [← hw1]; exact Two.start w x y
  clear hw1
  generalize w.heap.size + 1 = B at *
  generalize hC : w.heap.size = A at *
  have HC := Lib.hid hC
  clear hC
  go_loopw [5] (fun i wr => Two w wr A B x y ∧ ((∃ k : Nat, k ≤ 255 ∧ i = .int .i64 k ∧ Hid (x / 2 ^ (k + 1) = y / 2 ^ (k + 1))) ∨ (i = .int .i64 (-1) ∧ Hid (x = y)))) (fun i _ => (intOf i + 1).toNat)
  case atStart => exact ⟨h0, .inl ⟨255, by omega, rfl, Lib.hid (Nm.top_all hx hy)⟩⟩
  case round =>
    obtain ⟨hs, ⟨k, hk, rfl, HK⟩ | ⟨rfl, HK⟩⟩ := hrel
    · have g1 := Nm.bit_lt x k
      have g2 := Nm.bit_lt y k
      have hk' : k < 256 := by omega
      go_wp2_with fail
      refine wp_region_quiet_below (by kernel_rfl) (by kernel_rfl) ?_
      repeat (first
        | (go_big_quiet_want; (with_reducible refine quiet_load_num _ rfl _ rfl _ hs.a.cls ?_); (simp only [Act.put, List.setIfInBounds_toArray, List.set_cons_zero, List.set_cons_succ]); go_big_quiet_on)
        | (go_big_quiet_want; (with_reducible refine quiet_load_num _ rfl _ rfl _ hs.b.cls ?_); (simp only [Act.put, List.setIfInBounds_toArray, List.set_cons_zero, List.set_cons_succ]); go_big_quiet_on)
        | go_big_quiet_step ((go_at_call 25; exact Calls.regrown_of (ref_bit _ _ (by omega) _))))
      refine wpQuiet_nil ?_
      intro _ hw'
      obtain ⟨p, hw''⟩ := hw'
      subst hw''
      have hs2 := hs.on (below_regrown wr p.d p.os)
      clear hs
      generalize Sort.grow (redrawn wr p.d) p.os = w2 at *
      clear p
      by_cases hb : Nm.bit x k = Nm.bit y k
      · have hq : ((Nm.bit x k : Int) != (Nm.bit y k : Int)) = false := by rw [hb]; simp
        have hn := Nm.top_same HK.out hb
        have HN := Lib.hid hn
        clear hb hn
        go_wp2_with fail
        go_roundw
        case rel =>
          by_cases hk0 : k = 0
          · subst hk0
            exact ⟨hs2, .inr ⟨rfl, Lib.hid (by have := HN.out; simpa using this)⟩⟩
          · exact ⟨hs2, .inl ⟨k - 1, by omega, congrArg (Value.int .i64) (by omega), by rw [show k - 1 + 1 = k by omega]; exact HN⟩⟩
        case measure => first | (simp [intOf]; done) | (simp [intOf]; omega)
      · have hq : ((Nm.bit x k : Int) != (Nm.bit y k : Int)) = true := by simp; omega
        have hn : decide (Nm.bit x k < Nm.bit y k) = decide (x < y) := decide_eq_decide.2 ⟨fun h => Nm.top_less HK.out h, fun h => by
          rcases Nat.lt_or_ge (Nm.bit y k) (Nm.bit x k) with h' | h'
          · exact absurd h (Nm.top_more HK.out h')
          · omega⟩
        have HN := Lib.hid hn
        clear hb hn
        go_wp2_with fail
        refine wp_region_quiet_below (by kernel_rfl) (by kernel_rfl) ?_
        repeat (first
          | (go_big_quiet_want; (with_reducible refine quiet_load_num _ rfl _ rfl _ hs2.a.cls ?_); (simp only [Act.put, List.setIfInBounds_toArray, List.set_cons_zero, List.set_cons_succ]); go_big_quiet_on)
          | (go_big_quiet_want; (with_reducible refine quiet_load_num _ rfl _ rfl _ hs2.b.cls ?_); (simp only [Act.put, List.setIfInBounds_toArray, List.set_cons_zero, List.set_cons_succ]); go_big_quiet_on)
          | go_big_quiet_step ((go_at_call 25; exact Calls.regrown_of (ref_bit _ _ (by omega) _))))
        refine wpQuiet_nil ?_
        intro _ hw'
        obtain ⟨p, hw''⟩ := hw'
        subst hw''
        have hs3 := hs2.on (below_regrown w2 p.d p.os)
        go_wp2_with fail
        go_ret
        exact ⟨congrArg (fun b => Ending.returned (.bool b)) HN.out, hs3.below⟩
    · go_wp2_with fail
      go_ret
      exact ⟨congrArg (fun b => Ending.returned (.bool b)) (by rw [HK.out]; simp), hs.below⟩
end Go.Proofs.Ytmemppkkchfphaa
