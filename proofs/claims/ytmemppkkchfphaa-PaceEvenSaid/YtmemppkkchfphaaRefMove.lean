import Derived.Test.YtmemppkkchfphaaWDown
import Derived.Test.YtmemppkkchfphaaMoveMath2
namespace Go.Proofs.Ytmemppkkchfphaa
open Go.RowKit

theorem num_store_eq {ops : Array Oper} {rest : List Oper} {o : Oper} {a : Act} {w : World} {Q : Exit → Act → World → Prop} (hgd : o.guard = none) (x y : Operand) (ho : o.op = .store 26 x y) (g : Nat) (z : Nat) (cz : Array Value) (hx : a.eval x = .pointer (some ⟨g, 0, none⟩)) (hy : a.eval y = .agg cz) (e : cz = numC z) (cs : Array Value) (hg : Has w g cs 26) (hs : cs.size = 4)
    (h : wpList Try.prog ops Q rest (a.put o.dst undef) (w.setRow g (numC z))) : wpList Try.prog ops Q (o :: rest) a w := by
  subst e; exact num_store hgd x y ho g z hx hy cs hg hs h
theorem up64_cells (y : Nat) : (#[.int .u64 0, .int .u64 (Nm.wd y 0 : Nat), .int .u64 (Nm.wd y 1 : Nat), .int .u64 (Nm.wd y 2 : Nat)] : Array Value) = numC (Nm.up y 64) := by
  obtain ⟨h0, h1, h2, h3⟩ := Nm.wd_up64 y
  unfold numC cells4
  rw [h0, h1, h2, h3]; rfl
theorem down64_cells {y : Nat} (hy : y < Nm.big) : (#[.int .u64 (Nm.wd y 1 : Nat), .int .u64 (Nm.wd y 2 : Nat), .int .u64 (Nm.wd y 3 : Nat), .int .u64 0] : Array Value) = numC (Nm.down y 64) := by
  obtain ⟨h0, h1, h2, h3⟩ := Nm.wd_down64 hy
  unfold numC cells4
  rw [h0, h1, h2, h3]; rfl
/-- a number that is moved, a result, a number that grows -/
structure Mv (w wr : World) (A R O y : Nat) (cs : Array Value) : Prop where
  below : Below w.heap.size w wr
  a : Has wr A (numC y) 26
  r : Has wr R (numC 0) 26
  o : Has wr O cs 26
theorem Mv.put {w wr : World} {A R O y : Nat} {cs : Array Value} (h : Mv w wr A R O y cs) (y' : Nat) (hR : R ≠ A) (hO : O ≠ A) (hA : w.heap.size ≤ A) : Mv w (wr.setRow A (numC y')) A R O y' cs :=
  ⟨below_setRow h.below hA _, h.a.row _, h.r.otherRow _ _ hR, h.o.otherRow _ _ hO⟩
theorem Mv.set {w wr : World} {A R O y : Nat} {g : Nat → Nat} (h : Mv w wr A R O y (cells4 g)) (i v : Nat) (hi : i < 4) (hA : A ≠ O) (hR : R ≠ O) (hO : w.heap.size ≤ O) : Mv w (wr.setCell ⟨O, i, none⟩ (.int .u64 (v : Nat))) A R O y (cells4 (upd g i v)) :=
  ⟨h.below.setCell hO _, h.a.other _ _ hA, h.r.other _ _ hR, by rw [← cells4_set g i v hi]; exact h.o.set _⟩
theorem Mv.drew {w wr : World} {A R O y : Nat} {cs : Array Value} (h : Mv w wr A R O y cs) : Mv w wr.drew A R O y cs := ⟨h.below.drew, h.a, h.r, h.o⟩
theorem Mv.start (w : World) (x : Nat) : Mv w (((w.alloc (.cells (numC x) 26)).alloc (.cells (numC 0) 26)).alloc (.cells (cells4 fun _ => 0) 26)) w.heap.size (w.heap.size + 1) (w.heap.size + 1 + 1) x (cells4 fun _ => 0) :=
  ⟨(((Below.refl _ _).alloc (Nat.le_refl _) _).alloc (by simp) _).alloc (by simp; omega) _, ((Has.new _ _).alloc _).alloc _, (Has.new1 _ _ _).alloc _, Has.new2 _ _ _ _⟩
theorem upSum (a b m : Nat) (hm : m ≤ 64) (hb : b < 18446744073709551616) : IntKind.u64.wrap (((a <<< m % 18446744073709551616 : Nat) : Int) + ((b >>> (64 - m) : Nat) : Int)) = ((a <<< m % 18446744073709551616 ||| b >>> (64 - m) : Nat) : Int) := by
  have h := Nm.add_up a b m hm hb
  have h2 := Nm.or_lt64 (a := a <<< m % 18446744073709551616) (b := b >>> (64 - m)) (Nat.mod_lt _ (by decide)) (by rw [Nat.shiftRight_eq_div_pow]; exact Nat.lt_of_le_of_lt (Nat.div_le_self _ _) hb)
  rw [← h] at h2 ⊢
  rw [IntKind.wrap_u64]; omega
theorem downSum (a b m : Nat) (hm : m ≤ 64) (ha : a < 18446744073709551616) : IntKind.u64.wrap (((a >>> m : Nat) : Int) + ((b <<< (64 - m) % 18446744073709551616 : Nat) : Int)) = ((a >>> m ||| b <<< (64 - m) % 18446744073709551616 : Nat) : Int) := by
  have h := Nm.add_down a b m hm ha
  have h2 := Nm.or_lt64 (a := a >>> m) (b := b <<< (64 - m) % 18446744073709551616) (by rw [Nat.shiftRight_eq_div_pow]; exact Nat.lt_of_le_of_lt (Nat.div_le_self _ _) ha) (Nat.mod_lt _ (by decide))
  rw [← h] at h2 ⊢
  rw [IntKind.wrap_u64]; omega
/-- words filled from the lowest on, of whatever number -/
def Filled (z k : Nat) (g : Nat → Nat) : Prop := ∀ j, j < k → g j = Nm.wd z j
theorem Filled.next {z k : Nat} {g : Nat → Nat} (h : Hid (Filled z k g)) : Hid (Filled z (k + 1) (upd g k (Nm.wd z k))) := Lib.hid fun j h1 => by
    unfold upd
    split
    · rename_i e; rw [e]
    · exact h.out j (by omega)
set_option maxRecDepth 100000 in
set_option maxHeartbeats 1000000 in
theorem ref_move_up (x n : Nat) (hx : x < Nm.big) (hm : n ≤ 9223372036854775807) (w : World) :
    Calls Try.prog 14 #[.agg (numC x), .int .i64 (n : Int)] w fun e w' => e = .returned (.agg (numC (Nm.up x n))) ∧ Below w.heap.size w w' := by
  by_cases hbg : 256 ≤ n
  · have e := Nm.up_big x hbg
    rw [e]
    clear e
    go_enter Try.func14, Try.ntmps14
    go_upto_region 2 with fail
    generalize hw1 : World.alloc _ _ = w1
    have h0 : Mv w w1 w.heap.size (w.heap.size + 1) (w.heap.size + 1 + 1) x (cells4 fun _ => 0) := by rw [← hw1]; exact Mv.start w x
    clear hw1
    have ho : Has w1 (w.heap.size + 1 + 1) (numC 0) 26 := h0.o
    go_wp2_with (first
      | (with_reducible refine num_load rfl _ rfl _ rfl _ ho rfl ?_)
      | (with_reducible refine num_store rfl _ _ rfl _ _ rfl rfl _ h0.r rfl ?_))
    exact bodyPost_ret (v := .agg (numC 0)) (num_results Try.results14 _ _ _ rfl (h0.r.row _)) rfl ⟨rfl, below_setRow h0.below (by omega) _⟩
  · go_enter Try.func14, Try.ntmps14
    go_upto_region 2 with fail
    generalize hw1 : World.alloc _ _ = w1
    have h0 : Mv w w1 w.heap.size (w.heap.size + 1) (w.heap.size + 1 + 1) x (cells4 fun _ => 0) := by rw [← hw1]; exact Mv.start w x
    clear hw1
    generalize hB : w.heap.size + 1 + 1 = O at *
    generalize hC : w.heap.size + 1 = R at *
    generalize hD : w.heap.size = A at *
    have HA : Hid (w.heap.size ≤ A) := Lib.hid (by omega)
    have HO : Hid (w.heap.size ≤ O) := Lib.hid (by omega)
    have HR : Hid (w.heap.size ≤ R) := Lib.hid (by omega)
    have H1 : Hid (A ≠ O) := Lib.hid (by omega)
    have H3 : Hid (R ≠ O) := Lib.hid (by omega)
    have H4 : Hid (R ≠ A) := Lib.hid (by omega)
    have H5 : Hid (O ≠ A) := Lib.hid (by omega)
    have HX := Lib.hid hx
    clear hB hC hD hx hm
    go_wp2_with fail
    go_loopw [1] (fun s wr => ∃ (m y : Nat), m < 256 ∧ s = .int .i64 m ∧ Hid (Nm.up y m = Nm.up x n ∧ y < Nm.big) ∧ Mv w wr A R O y (cells4 fun _ => 0)) (fun s _ => (intOf s).toNat)
    case atStart => exact ⟨n, x, by omega, rfl, Lib.hid ⟨rfl, HX.out⟩, h0⟩
    case round =>
      obtain ⟨m, y, hm, rfl, HM, hs⟩ := hrel
      by_cases hge : 64 ≤ m
      · have c0 := hs.a.num (j := 0) (by omega)
        have c1 := hs.a.num (j := 1) (by omega)
        have c2 := hs.a.num (j := 2) (by omega)
        have HE := Lib.hid (up64_cells y)
        go_wp2_with (with_reducible refine num_store_eq rfl _ _ rfl _ (Nm.up y 64) _ rfl rfl HE.out _ hs.a rfl ?_)
        go_roundw
        case rel => exact ⟨m - 64, Nm.up y 64, by omega, congrArg (Value.int .i64) (by omega), Lib.hid ⟨by rw [Nm.up_add, show 64 + (m - 64) = m by omega]; exact HM.out.1, Nm.up_lt _ _⟩, hs.put _ H4.out H5.out HA.out⟩
        case measure => simp [intOf]; omega
      · have hlt : m < 64 := by omega
        clear hm hge
        go_wp2_with fail
        go_loopw [1] (fun s wr => s = .int .i64 (m : Nat) ∧ Mv w wr A R O y (cells4 fun _ => 0)) (fun _ _ => 0)
        case atStart => exact ⟨rfl, hs⟩
        case round =>
          obtain ⟨rfl, hs2⟩ := hrel
          by_cases hm0 : m = 0
          · subst hm0
            have e := HM.out.1
            rw [Nm.up_zero HM.out.2] at e
            subst e
            go_wp2_with (first
              | (with_reducible refine num_load rfl _ rfl _ rfl _ hs2.a rfl ?_)
              | (with_reducible refine num_store rfl _ _ rfl _ _ rfl rfl _ hs2.r rfl ?_))
            exact bodyPost_ret (v := .agg (numC (Nm.up x n))) (num_results Try.results14 _ _ _ rfl (hs2.r.row _)) rfl ⟨rfl, below_setRow hs2.below HR.out _⟩
          · have hmp : 0 < m := by omega
            clear hm0
            go_wp2_with fail
            go_loopw [6] (fun i wr => ∃ (k : Nat) (g : Nat → Nat), k ≤ 4 ∧ i = .int .i64 k ∧ Mv w wr A R O y (cells4 g) ∧ Hid (Filled (Nm.up y m) k g)) (fun i _ => 4 - (intOf i).toNat)
            case atStart => exact ⟨0, _, by omega, rfl, hs2, Lib.hid fun j hj => by omega⟩
            case round =>
              obtain ⟨k, g, hk, rfl, hs3, HG⟩ := hrel
              by_cases hk4 : k < 4
              · have c1 := hs3.a.num (j := k) (by omega)
                have c2 := hs3.a.num (j := k - 1) (by omega)
                have co := hs3.o.word (j := k) (by omega)
                have fo := hs3.o.free k
                have hset : ∀ v1 v2 : Nat, Mv w ((wr.setCell ⟨O, k, none⟩ (.int .u64 (v1 : Nat))).setCell ⟨O, k, none⟩ (.int .u64 (v2 : Nat))).drew A R O y (cells4 (upd g k v2)) := fun v1 v2 => by
                  rw [← upd2 g k v1 v2]
                  exact ((hs3.set k v1 (by omega) H1.out H3.out HO.out).set k v2 (by omega) H1.out H3.out HO.out).drew
                have hset1 : ∀ v : Nat, Mv w (wr.setCell ⟨O, k, none⟩ (.int .u64 (v : Nat))) A R O y (cells4 (upd g k v)) := fun v => hs3.set k v (by omega) H1.out H3.out HO.out
                have HSET := Lib.hid hset
                have HSET1 := Lib.hid hset1
                clear hset hset1
                by_cases hk0 : k = 0
                · subst hk0
                  have hv := Nm.wd_up_low y m 0 (by omega) (by omega)
                  rw [show m % 64 = m by omega, show 0 - m / 64 = 0 by omega] at hv
                  have HV := Lib.hid hv
                  clear hv
                  go_wp2_with fail
                  rw [upW, ← HV.out]
                  exact ⟨⟨_, _, by decide, rfl, HSET1.out _, Filled.next HG⟩, by decide⟩
                · have hv := Nm.wd_up y m k (by omega) (by omega)
                  rw [show m % 64 = m by omega, show k - m / 64 = k by omega] at hv
                  have HV := Lib.hid hv
                  clear hv
                  obtain rfl | rfl | rfl : k = 1 ∨ k = 2 ∨ k = 3 := by omega
                  all_goals
                    go_wp2_with fail
                    go_region
                    have e := HV.out
                    simp only [Nat.reduceSub] at e
                    rw [upW, downW, upSum _ _ _ (by omega) (Nm.wd_lt _ _), ← e]
                    clear e c1 c2 co fo
                    go_wp2_with fail
                    go_roundw
                    case rel => exact ⟨_, _, by decide, rfl, HSET.out _ _, Filled.next HG⟩
                    case measure => decide
              · obtain rfl : k = 4 := by omega
                have e := cells4_done HG
                rw [e, HM.out.1] at hs3
                clear e
                go_wp2_with (first
                  | (with_reducible refine num_load rfl _ rfl _ rfl _ hs3.o rfl ?_)
                  | (with_reducible refine num_store rfl _ _ rfl _ _ rfl rfl _ hs3.r rfl ?_))
                exact bodyPost_ret (v := .agg (numC (Nm.up x n))) (num_results Try.results14 _ _ _ rfl (hs3.r.row _)) rfl ⟨rfl, below_setRow hs3.below HR.out _⟩
end Go.Proofs.Ytmemppkkchfphaa
