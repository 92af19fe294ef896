import Derived.Test.YtmemppkkchfphaaRefBit
import Derived.Test.YtmemppkkchfphaaNum2
import Derived.Test.YtmemppkkchfphaaNumMem2
namespace Go.Proofs.Ytmemppkkchfphaa
open Go.RowKit

theorem quiet_eq {P : Program} {f : FuncId} {args : Array Value} {w : World} {n : Nat} {v : Value}
    (h : Calls P f args (w.drewN n) fun e w' => e = .returned v ∧ w.drewN n = w') : Calls P f args (w.drewN n) fun e w'' => e = .returned v ∧ ∃ m, w'' = w.drewN m :=
  h.mono fun _ _ ⟨he, hm⟩ => ⟨he, n, hm.symm⟩
theorem isNaN (x : Nat) (w : World) : Calls Try.prog 44 #[.int .u64 (x : Int)] w fun e w' => e = .returned (.bool false) ∧ w = w' := by
  go_enter Try.func44, Try.ntmps44
  go_wp2_with fail
  go_ret
  simp
set_option maxRecDepth 100000 in
theorem cmp64 (x y : Nat) (w : World) : Calls Try.prog 37 #[.int .u64 (x : Int), .int .u64 (y : Int)] w fun e w' => e = .returned (.int .i64 (Nm.cmp x y)) ∧ w = w' := by
  have h : (x < y ∧ Nm.cmp x y = -1) ∨ (¬ x < y ∧ y < x ∧ Nm.cmp x y = 1) ∨ (¬ x < y ∧ ¬ y < x ∧ Nm.cmp x y = 0) := by
    unfold Nm.cmp
    rcases Nat.lt_trichotomy x y with h | h | h
    · exact .inl ⟨h, by rw [if_pos h]⟩
    · subst h; exact .inr (.inr ⟨by omega, by omega, by rw [if_neg (by omega), if_neg (by omega)]⟩)
    · exact .inr (.inl ⟨by omega, h, by rw [if_neg (by omega), if_pos h]⟩)
  rcases h with ⟨h1, h2⟩ | ⟨h1, h2, h3⟩ | ⟨h1, h2, h3⟩
  all_goals
    first | rw [h2] | rw [h3]
    first | clear h3 | clear h2
    go_enter Try.func37, Try.ntmps37
    go_wp2_with (go_at_call 44; refine (isNaN _ _).mono ?_; rintro e w' ⟨rfl, rfl⟩)
    go_ret
    exact ⟨rfl, rfl⟩
set_option maxRecDepth 100000 in
set_option maxHeartbeats 400000 in
theorem compare (x y : Nat) (hx : x < Nm.big) (hy : y < Nm.big) (w : World) :
    Calls Try.prog 30 #[.agg (numC x), .agg (numC y)] w fun e w' => e = .returned (.int .i64 (Nm.cmp x y)) ∧ Below w.heap.size w w' := by
  go_enter Try.func30, Try.ntmps30
  go_wp2_with fail
  generalize hw1 : World.alloc _ _ = w1
  have h0 : Two w w1 w.heap.size (w.heap.size + 1) x y := by rw [← hw1]; exact Two.start w x y
  clear hw1
  generalize w.heap.size + 1 = B at *
  generalize hC : w.heap.size = A at *
  have HC := Lib.hid hC
  clear hC
  have hst : x / 2 ^ (64 * (3 + 1)) = y / 2 ^ (64 * (3 + 1)) := Nm.top_all hx hy
  have HST := Lib.hid hst
  clear hst
  go_loopw [5] (fun i wr => ∃ k : Nat, k ≤ 3 ∧ i = .int .i64 k ∧ Two w wr A B x y ∧ Hid (x / 2 ^ (64 * (k + 1)) = y / 2 ^ (64 * (k + 1)))) (fun i _ => (intOf i).toNat)
  case atStart => exact ⟨3, by omega, rfl, h0, HST⟩
  case round =>
    obtain ⟨k, hk, rfl, hs, HK⟩ := hrel
    by_cases hk0 : 0 < k
    · have ca := hs.a.num (j := k) (by omega)
      have cb := hs.b.num (j := k) (by omega)
      by_cases he : Nm.wd x k = Nm.wd y k
      · have hn := Nm.word_same HK.out he
        have HN := Lib.hid hn
        have hq : ((Nm.wd x k : Int) != (Nm.wd y k : Int)) = false := by rw [he]; simp
        clear hn he
        generalize Nm.wd x k = a at *
        generalize Nm.wd y k = b at *
        go_wp2_with fail
        go_quiet (fail)
        have hs2 := hs.on (below_drewN (Below.refl _ wr) nq)
        go_wp2_with fail
        go_roundw
        case rel => exact ⟨k - 1, by omega, congrArg (Value.int .i64) (by omega), hs2, by rw [show k - 1 + 1 = k by omega]; exact HN⟩
        case measure => simp [intOf]; omega
      · have hn := Nm.cmp_word HK.out he
        have HN := Lib.hid hn
        have hq : ((Nm.wd x k : Int) != (Nm.wd y k : Int)) = true := by simp; omega
        have hcmp := fun w => cmp64 (Nm.wd x k) (Nm.wd y k) w
        clear hn he
        generalize Nm.wd x k = a at *
        generalize Nm.wd y k = b at *
        have HCM := Lib.hid hcmp
        clear hcmp
        go_wp2_with fail
        go_quiet (fail)
        have hs2 := hs.on (below_drewN (Below.refl _ wr) nq)
        have ca2 := (below_drewN (Below.refl wr.heap.size wr) nq).cell (p := ⟨A, k, none⟩) hs.a.lt
        have cb2 := (below_drewN (Below.refl wr.heap.size wr) nq).cell (p := ⟨B, k, none⟩) hs.b.lt
        rw [ca] at ca2
        rw [cb] at cb2
        clear ca cb hs
        generalize wr.drewN nq = w2 at *
        go_wp2_with fail
        go_quiet ((go_at_call 37; exact quiet_eq (HCM.out _)))
        have hs3 := hs2.on (below_drewN (Below.refl _ w2) nq)
        go_wp2_with fail
        go_ret
        exact ⟨congrArg (fun n => Ending.returned (.int .i64 n)) HN.out, hs3.below⟩
    · obtain rfl : k = 0 := by omega
      have ca := hs.a.num (j := 0) (by omega)
      have cb := hs.b.num (j := 0) (by omega)
      have hn := Nm.cmp_zero HK.out
      have HN := Lib.hid hn
      have hcmp := fun w => cmp64 (Nm.wd x 0) (Nm.wd y 0) w
      clear hn
      generalize Nm.wd x 0 = a at *
      generalize Nm.wd y 0 = b at *
      have HCM := Lib.hid hcmp
      clear hcmp
      go_wp2_with (go_at_call 37; ((with_reducible refine (HCM.out _).mono ?_)); rintro e w' ⟨rfl, rfl⟩)
      go_ret
      exact ⟨congrArg (fun n => Ending.returned (.int .i64 n)) HN.out, hs.below⟩
theorem cmp_lt (x y : Nat) : decide (Nm.cmp x y < 0) = decide (x < y) := by
  unfold Nm.cmp
  apply decide_eq_decide.2
  split
  · simp [*]
  · split <;> simp [*]
set_option maxRecDepth 100000 in
theorem less (x y : Nat) (hx : x < Nm.big) (hy : y < Nm.big) (w : World) :
    Calls Try.prog 21 #[.agg (numC x), .agg (numC y)] w fun e w' => e = .returned (.bool (decide (x < y))) ∧ Below w.heap.size w w' := by
  have hq := cmp_lt x y
  have hc := fun w => compare x y hx hy w
  generalize Nm.cmp x y = c at *
  have HQ := Lib.hid hq
  have HC := Lib.hid hc
  clear hq hc
  go_enter Try.func21, Try.ntmps21
  go_upto_region 1 with fail
  generalize hw1 : World.alloc _ _ = w1
  have h0 : Two w w1 w.heap.size (w.heap.size + 1) x y := by rw [← hw1]; exact Two.start w x y
  clear hw1
  go_wp2_with (first | (with_reducible refine num_load rfl _ rfl _ rfl _ h0.a rfl ?_) | (with_reducible refine num_load rfl _ rfl _ rfl _ h0.b rfl ?_))
  refine (HC.out _).mono ?_
  rintro e w2 ⟨rfl, hb⟩
  have h2 := h0.on hb
  go_wp2_with fail
  go_ret
  exact ⟨congrArg (fun b => Ending.returned (.bool b)) HQ.out, h2.below⟩
end Go.Proofs.Ytmemppkkchfphaa
