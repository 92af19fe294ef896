import Derived.Test.YtmemppkkchfphaaWUp
namespace Go.Proofs.Ytmemppkkchfphaa
open Go.RowKit

theorem downOr (a b N M : Nat) (ha : a < 18446744073709551616) : bits .or .u64 ((a : Int) / 2 ^ N) (IntKind.u64.wrap ((b : Int) * 2 ^ M)) = ((a >>> N ||| b <<< M % 18446744073709551616 : Nat) : Int) := by
  have e : (a : Int) / 2 ^ N = ((a >>> N : Nat) : Int) := by rw [Nat.shiftRight_eq_div_pow]; simp
  rw [e, upW, or64 _ _ (by rw [Nat.shiftRight_eq_div_pow]; exact Nat.lt_of_le_of_lt (Nat.div_le_self _ _) ha) (Nat.mod_lt _ (by decide))]
theorem downW (a N : Nat) : (a : Int) / 2 ^ N = ((a >>> N : Nat) : Int) := by rw [Nat.shiftRight_eq_div_pow]; simp
/-- what holds of the words while they are filled from the lowest on -/
def FromLow (x n k : Nat) (g : Nat → Nat) : Prop := (∀ j, j < k → g j = Nm.wd (Nm.down x n) j) ∧ ∀ j, k ≤ j → g j = 0
theorem FromLow.next {x n k : Nat} {g : Nat → Nat} (h : Hid (FromLow x n k g)) : Hid (FromLow x n (k + 1) (upd g k (Nm.wd (Nm.down x n) k))) := Lib.hid ⟨fun j h1 => by
    unfold upd
    split
    · rename_i e; rw [e]
    · exact h.out.1 j (by omega), fun j h1 => by
    unfold upd
    rw [if_neg (by omega)]; exact h.out.2 j (by omega)⟩
theorem FromLow.done {x n k : Nat} {g : Nat → Nat} (hx : x < Nm.big) (h : Hid (FromLow x n k g)) (hn : 4 ≤ k + n / 64) : Hid (∀ j, j < 4 → g j = Nm.wd (Nm.down x n) j) := Lib.hid fun j _ => by
    by_cases hj : j < k
    · exact h.out.1 j hj
    · rw [h.out.2 j (by omega), Nm.wd_down_none hx n j (by omega)]
set_option maxRecDepth 100000 in
set_option maxHeartbeats 1000000 in
theorem down_pos (x n : Nat) (hx : x < Nm.big) (hn : 0 < n) (hm : n ≤ 9223372036854775807) (w : World) :
    Calls Try.prog 39 #[.agg (numC x), .int .i64 (n : Int)] w fun e w' => e = .returned (.agg (numC (Nm.down x n))) ∧ Below w.heap.size w w' := by
  go_enter Try.func39, Try.ntmps39
  go_upto_region 1 with fail
  generalize hw1 : World.alloc _ _ = w1
  have hbel : Below w.heap.size w w1 := by rw [← hw1]; exact ((Below.refl _ _).alloc (Nat.le_refl _) _).alloc (by simp) _
  have hA : Has w1 w.heap.size (numC x) 26 := by rw [← hw1]; exact (Has.new _ _).alloc _
  have hR : Has w1 (w.heap.size + 1) (numC 0) 26 := by rw [← hw1]; exact Has.new1 _ (numC 0) _
  clear hw1
  go_wp2_with fail
  generalize hw2 : World.alloc _ _ = w2
  have h0 : Acc w w2 w.heap.size w.heap.size (w.heap.size + 1) w1.heap.size x x (cells4 fun _ => 0) := by
    rw [← hw2]; exact ⟨hbel.alloc hbel.size _, hA.alloc _, hA.alloc _, hR.alloc _, Has.new _ _⟩
  have hs := hbel.size
  have hsR := hR.lt
  clear hw2 hbel hA hR
  generalize hB : w1.heap.size = O at *
  generalize hC : w.heap.size + 1 = R at *
  generalize hD : w.heap.size = A at *
  have HO : Hid (w.heap.size ≤ O) := Lib.hid (by omega)
  have HR : Hid (w.heap.size ≤ R) := Lib.hid (by omega)
  have H1 : Hid (A ≠ O) := Lib.hid (by omega)
  have H3 : Hid (R ≠ O) := Lib.hid (by omega)
  clear hB hC hD hs hsR
  obtain ⟨F, hF⟩ : ∃ F, F = n / 64 := ⟨_, rfl⟩
  obtain ⟨N, hN⟩ : ∃ N, N = n % 64 := ⟨_, rfl⟩
  have eF : (n : Int) / 64 = (F : Int) := by omega
  have eN : (n : Int) % 64 = (N : Int) := by omega
  rw [eF, eN]
  have hNl : N < 64 := by omega
  have hFl : F ≤ 144115188075855872 := by omega
  have HF := Lib.hid hF
  have HN := Lib.hid hN
  have HX := Lib.hid hx
  clear hF hN eF eN hm hx
  go_loopw [8] (fun i wr => ∃ (k : Nat) (g : Nat → Nat), k ≤ 4 ∧ i = .int .i64 k ∧ Acc w wr A A R O x x (cells4 g) ∧ Hid (FromLow x n k g)) (fun i _ => 4 - (intOf i).toNat)
  case atStart => exact ⟨0, _, by omega, rfl, h0, Lib.hid ⟨fun j h1 => by omega, fun _ _ => rfl⟩⟩
  case round =>
    obtain ⟨k, g, hk, rfl, hs, HG⟩ := hrel
    by_cases hlt : k + F + 1 < 4
    · have hv := Nm.wd_down x n k
      rw [← HF.out, ← HN.out] at hv
      have c1 := hs.a.num (j := k + F) (by omega)
      have c2 := hs.a.num (j := k + F + 1) (by omega)
      have co := hs.o.word (j := k) (by omega)
      have fo := hs.o.free k
      have HV := Lib.hid hv
      have hset : ∀ v1 v2 : Nat, Acc w ((wr.setCell ⟨O, k, none⟩ (.int .u64 (v1 : Nat))).setCell ⟨O, k, none⟩ (.int .u64 (v2 : Nat))).drew A A R O x x (cells4 (upd g k v2)) := fun v1 v2 => by
        rw [← upd2 g k v1 v2]
        exact ((hs.setWord k v1 (by omega) H1.out H1.out H3.out HO.out).setWord k v2 (by omega) H1.out H1.out H3.out HO.out).drew
      have HSET := Lib.hid hset
      clear hv hset
      obtain ⟨rfl, rfl⟩ | ⟨rfl, rfl⟩ | ⟨rfl, rfl⟩ | ⟨rfl, rfl⟩ | ⟨rfl, rfl⟩ | ⟨rfl, rfl⟩ : (F = 0 ∧ k = 0) ∨ (F = 0 ∧ k = 1) ∨ (F = 0 ∧ k = 2) ∨ (F = 1 ∧ k = 0) ∨ (F = 1 ∧ k = 1) ∨ (F = 2 ∧ k = 0) := by omega
      all_goals
        go_wp2_with fail
        go_region
        have e := HV.out
        simp only [Nat.reduceAdd] at e
        rw [downOr _ _ _ _ (Nm.wd_lt _ _), downW, ← e]
        clear e c1 c2 co fo
        go_wp2_with fail
        go_roundw
        case rel => exact ⟨_, _, by decide, rfl, HSET.out _ _, FromLow.next HG⟩
        case measure => decide
    · by_cases heq : k + F = 3
      · have hv := Nm.wd_down_top HX.out n k (by rw [← HF.out]; exact heq)
        rw [← HF.out, ← HN.out] at hv
        have c1 := hs.a.num (j := k + F) (by omega)
        have co := hs.o.word (j := k) (by omega)
        have fo := hs.o.free k
        have HV := Lib.hid hv
        have hset : ∀ v : Nat, Acc w (wr.setCell ⟨O, k, none⟩ (.int .u64 (v : Nat))) A A R O x x (cells4 (upd g k v)) := fun v => hs.setWord k v (by omega) H1.out H1.out H3.out HO.out
        have HSET := Lib.hid hset
        clear hv hset
        obtain ⟨rfl, rfl⟩ | ⟨rfl, rfl⟩ | ⟨rfl, rfl⟩ | ⟨rfl, rfl⟩ : (F = 0 ∧ k = 3) ∨ (F = 1 ∧ k = 2) ∨ (F = 2 ∧ k = 1) ∨ (F = 3 ∧ k = 0) := by omega
        all_goals
          go_wp2_with fail
          have e := HV.out
          simp only [Nat.reduceAdd] at e
          rw [downW, ← e]
          exact ⟨⟨_, _, by decide, rfl, HSET.out _, FromLow.next HG⟩, by decide⟩
      · have hge : 4 ≤ k + F := by omega
        have HD := FromLow.done HX.out HG (by rw [← HF.out]; exact hge)
        have e := cells4_done HD
        rw [e] at hs
        clear e
        go_wp2_with (first
          | (with_reducible refine num_load rfl _ rfl _ rfl _ hs.o rfl ?_)
          | (with_reducible refine num_store rfl _ _ rfl _ _ rfl rfl _ hs.r rfl ?_))
        exact bodyPost_ret (v := .agg (numC (Nm.down x n))) (num_results Try.results39 _ _ _ rfl (hs.r.row _)) rfl ⟨rfl, below_setRow hs.below HR.out _⟩
set_option maxRecDepth 100000 in
theorem up_neg (x : Nat) (n : Int) (hn : n ≤ 0) (w : World) :
    Calls Try.prog 40 #[.agg (numC x), .int .i64 n] w fun e w' => e = .returned (.agg (numC x)) ∧ Below w.heap.size w w' := by
  go_enter Try.func40, Try.ntmps40
  go_upto_region 1 with fail
  generalize hw1 : World.alloc _ _ = w1
  have hbel : Below w.heap.size w w1 := by rw [← hw1]; exact ((Below.refl _ _).alloc (Nat.le_refl _) _).alloc (by simp) _
  have hA : Has w1 w.heap.size (numC x) 26 := by rw [← hw1]; exact (Has.new _ _).alloc _
  have hR : Has w1 (w.heap.size + 1) (numC 0) 26 := by rw [← hw1]; exact Has.new1 _ (numC 0) _
  clear hw1
  go_wp2_with (first
    | (with_reducible refine num_load rfl _ rfl _ rfl _ hA rfl ?_)
    | (with_reducible refine num_store rfl _ _ rfl _ _ rfl rfl _ hR rfl ?_))
  exact bodyPost_ret (v := .agg (numC x)) (num_results Try.results40 _ _ _ rfl (hR.row _)) rfl ⟨rfl, below_setRow hbel (by omega) _⟩
set_option maxRecDepth 100000 in
theorem down_neg (x : Nat) (n : Int) (hn : n ≤ 0) (w : World) :
    Calls Try.prog 39 #[.agg (numC x), .int .i64 n] w fun e w' => e = .returned (.agg (numC x)) ∧ Below w.heap.size w w' := by
  go_enter Try.func39, Try.ntmps39
  go_upto_region 1 with fail
  generalize hw1 : World.alloc _ _ = w1
  have hbel : Below w.heap.size w w1 := by rw [← hw1]; exact ((Below.refl _ _).alloc (Nat.le_refl _) _).alloc (by simp) _
  have hA : Has w1 w.heap.size (numC x) 26 := by rw [← hw1]; exact (Has.new _ _).alloc _
  have hR : Has w1 (w.heap.size + 1) (numC 0) 26 := by rw [← hw1]; exact Has.new1 _ (numC 0) _
  clear hw1
  go_wp2_with (first
    | (with_reducible refine num_load rfl _ rfl _ rfl _ hA rfl ?_)
    | (with_reducible refine num_store rfl _ _ rfl _ _ rfl rfl _ hR rfl ?_))
  exact bodyPost_ret (v := .agg (numC x)) (num_results Try.results39 _ _ _ rfl (hR.row _)) rfl ⟨rfl, below_setRow hbel (by omega) _⟩
end Go.Proofs.Ytmemppkkchfphaa
