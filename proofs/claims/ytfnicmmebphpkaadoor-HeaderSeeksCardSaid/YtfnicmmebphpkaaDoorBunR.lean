/-
  Texts of this seat, one behind the other.
-/
import Derived.Test.YtfnicmmebphpkaaDoorBunQ
import Derived.Test.YtfnicmmebphpkaaDoorBunP
namespace Go.Proofs.YtfnicmmebphpkaaDoor.NN
open Go.RowKit

theorem upW (a N : Nat) : IntKind.u64.wrap ((a : Int) * 2 ^ N) = ((a <<< N % 18446744073709551616 : Nat) : Int) := by
  have e : (a : Int) * 2 ^ N = ((a <<< N : Nat) : Int) := by rw [Nat.shiftLeft_eq]; simp
  rw [e, IntKind.wrap_u64]; omega
theorem upOr (u b M : Nat) (hu : u < 18446744073709551616) (hb : b < 18446744073709551616) : bits .or .u64 (u : Int) ((b : Int) / 2 ^ M) = ((u ||| b >>> M : Nat) : Int) := by
  have e : (b : Int) / 2 ^ M = ((b >>> M : Nat) : Int) := by rw [Nat.shiftRight_eq_div_pow]; simp
  rw [e, or64 u _ hu (by rw [Nat.shiftRight_eq_div_pow]; exact Nat.lt_of_le_of_lt (Nat.div_le_self _ _) hb)]
theorem upd2 (g : Nat → Nat) (k a b : Nat) : upd (upd g k a) k b = upd g k b := by
  funext j
  unfold upd
  split <;> rfl
/-- what holds of the words while they are filled from the highest on -/
def FromTop (x n k : Nat) (g : Nat → Nat) : Prop := (∀ j, k < j → j < 4 → g j = Nm.wd (Nm.up x n) j) ∧ ∀ j, j ≤ k → g j = 0
theorem FromTop.next {x n k : Nat} {g : Nat → Nat} (h : Hid (FromTop x n k g)) (hk : 0 < k) : Hid (FromTop x n (k - 1) (upd g k (Nm.wd (Nm.up x n) k))) := Lib.hid ⟨fun j h1 h2 => by
    unfold upd
    split
    · rename_i e; rw [e]
    · exact h.out.1 j (by omega) h2, fun j h1 => by
    unfold upd
    rw [if_neg (by omega)]; exact h.out.2 j (by omega)⟩
theorem FromTop.last {x n : Nat} {g : Nat → Nat} (h : Hid (FromTop x n 0 g)) : Hid (∀ j, j < 4 → upd g 0 (Nm.wd (Nm.up x n) 0) j = Nm.wd (Nm.up x n) j) := Lib.hid fun j h2 => by
    unfold upd
    split
    · rename_i e; rw [e]
    · exact h.out.1 j (by omega) h2
theorem FromTop.done {x n k : Nat} {g : Nat → Nat} (h : Hid (FromTop x n k g)) (hn : k < n / 64) : Hid (∀ j, j < 4 → g j = Nm.wd (Nm.up x n) j) := Lib.hid fun j h2 => by
    by_cases hj : k < j
    · exact h.out.1 j hj h2
    · rw [h.out.2 j (by omega), Nm.wd_up_none x n j h2 (by omega)]
set_option maxRecDepth 100000 in
set_option maxHeartbeats 1000000 in
theorem up_pos (x n : Nat) (hx : x < Nm.big) (hn : 0 < n) (hm : n ≤ 9223372036854775807) (w : World) :
    Calls Tryd.prog 61 #[.agg (numC x), .int .i64 (n : Int)] w fun e w' => e = .returned (.agg (numC (Nm.up x n))) ∧ Below w.heap.size w w' := by
  go_enter Tryd.func61, Tryd.ntmps61
  go_upto_region 1 with fail
  generalize hw1 : World.alloc _ _ = w1
  have hbel : Below w.heap.size w w1 := by rw [← hw1]; exact ((Below.refl _ _).alloc (Nat.le_refl _) _).alloc (by simp) _
  have hA : Has w1 w.heap.size (numC x) 54 := by rw [← hw1]; exact (Has.new _ _).alloc _
  have hR : Has w1 (w.heap.size + 1) (numC 0) 54 := by rw [← hw1]; exact Has.new1 _ (numC 0) _
  clear hw1
  go_wp2_with fail
  generalize hw2 : World.alloc _ _ = w2
  have h0 : Acc w w2 w.heap.size w.heap.size (w.heap.size + 1) w1.heap.size x x (cells4 fun _ => 0) := by
    rw [← hw2]; exact ⟨hbel.alloc hbel.size _, hA.alloc _, hA.alloc _, hR.alloc _, Has.new _ _⟩
  have hs := hbel.size
  have hsR := hR.lt
  clear hw2 hbel hA hR
  generalize hB : w1.heap.size = O at *
  generalize hC : w.heap.size + 1 = R at *
  generalize hD : w.heap.size = A at *
  have HO : Hid (w.heap.size ≤ O) := Lib.hid (by omega)
  have HR : Hid (w.heap.size ≤ R) := Lib.hid (by omega)
  have H1 : Hid (A ≠ O) := Lib.hid (by omega)
  have H3 : Hid (R ≠ O) := Lib.hid (by omega)
  clear hB hC hD hs hsR
  obtain ⟨F, hF⟩ : ∃ F, F = n / 64 := ⟨_, rfl⟩
  obtain ⟨N, hN⟩ : ∃ N, N = n % 64 := ⟨_, rfl⟩
  have eF : (n : Int) / 64 = (F : Int) := by omega
  have eN : (n : Int) % 64 = (N : Int) := by omega
  rw [eF, eN]
  have hNl : N < 64 := by omega
  have HF := Lib.hid hF
  have HN := Lib.hid hN
  have HX := Lib.hid hx
  clear hF hN eF eN hm hx
  go_loopw [8] (fun i wr => ∃ g : Nat → Nat, Acc w wr A A R O x x (cells4 g) ∧ ((∃ k : Nat, k ≤ 3 ∧ i = .int .i64 k ∧ Hid (FromTop x n k g)) ∨ (i = .int .i64 (-1) ∧ Hid (∀ j, j < 4 → g j = Nm.wd (Nm.up x n) j)))) (fun i _ => (intOf i + 1).toNat)
  case atStart => exact ⟨_, h0, .inl ⟨3, by omega, rfl, Lib.hid ⟨fun j h1 h2 => by omega, fun _ _ => rfl⟩⟩⟩
  case round =>
    obtain ⟨g, hs, ⟨k, hk, rfl, HG⟩ | ⟨rfl, HG⟩⟩ := hrel
    · by_cases hlt : F < k
      · have hv := Nm.wd_up x n k (by omega) (by rw [← HF.out]; exact hlt)
        rw [← HF.out, ← HN.out] at hv
        have c1 := hs.a.num (j := k - F) (by omega)
        have c2 := hs.a.num (j := k - F - 1) (by omega)
        have co := hs.o.word (j := k) (by omega)
        have fo := hs.o.free k
        have HV := Lib.hid hv
        have hset : ∀ v1 v2 : Nat, Acc w ((wr.setCell ⟨O, k, none⟩ (.int .u64 (v1 : Nat))).setCell ⟨O, k, none⟩ (.int .u64 (v2 : Nat))).drew A A R O x x (cells4 (upd g k v2)) := fun v1 v2 => by
          rw [← upd2 g k v1 v2]
          exact ((hs.setWord k v1 (by omega) H1.out H1.out H3.out HO.out).setWord k v2 (by omega) H1.out H1.out H3.out HO.out).drew
        have HSET := Lib.hid hset
        clear hv hset
        obtain ⟨rfl, rfl⟩ | ⟨rfl, rfl⟩ | ⟨rfl, rfl⟩ | ⟨rfl, rfl⟩ | ⟨rfl, rfl⟩ | ⟨rfl, rfl⟩ : (F = 0 ∧ k = 1) ∨ (F = 0 ∧ k = 2) ∨ (F = 0 ∧ k = 3) ∨ (F = 1 ∧ k = 2) ∨ (F = 1 ∧ k = 3) ∨ (F = 2 ∧ k = 3) := by omega
        all_goals
          go_wp2_with fail
          go_region
          have e := HV.out
          simp only [Nat.reduceSub] at e
          rw [upW, upOr _ _ _ (Nat.mod_lt _ (by decide)) (Nm.wd_lt _ _), ← e]
          clear e c1 c2 co fo
          go_wp2_with fail
          go_roundw
          case rel => exact ⟨_, HSET.out _ _, .inl ⟨_, by decide, rfl, FromTop.next HG (by decide)⟩⟩
          case measure => decide
      · by_cases heq : F = k
        · have hv := Nm.wd_up_low x n k (by omega) (by rw [← HF.out]; exact heq)
          rw [← HF.out, ← HN.out] at hv
          have c1 := hs.a.num (j := k - F) (by omega)
          have co := hs.o.word (j := k) (by omega)
          have fo := hs.o.free k
          have HV := Lib.hid hv
          have hset : ∀ v : Nat, Acc w (wr.setCell ⟨O, k, none⟩ (.int .u64 (v : Nat))) A A R O x x (cells4 (upd g k v)) := fun v => hs.setWord k v (by omega) H1.out H1.out H3.out HO.out
          have HSET := Lib.hid hset
          clear hv hset
          obtain ⟨rfl, rfl⟩ | ⟨rfl, rfl⟩ | ⟨rfl, rfl⟩ | ⟨rfl, rfl⟩ : (F = 0 ∧ k = 0) ∨ (F = 1 ∧ k = 1) ∨ (F = 2 ∧ k = 2) ∨ (F = 3 ∧ k = 3) := by omega
          all_goals
            go_wp2_with fail
            have e := HV.out
            simp only [Nat.reduceSub] at e
            rw [upW, ← e]
            first
              | exact ⟨⟨_, HSET.out _, .inl ⟨_, by decide, rfl, FromTop.next HG (by decide)⟩⟩, by decide⟩
              | exact ⟨⟨_, HSET.out _, .inr ⟨rfl, FromTop.last HG⟩⟩, by decide⟩
        · have hlt2 : k < F := by omega
          have HD := FromTop.done HG (by rw [← HF.out]; exact hlt2)
          have e := cells4_done HD
          rw [e] at hs
          clear e
          go_wp2_with (first
            | (with_reducible refine num_load rfl _ rfl _ rfl _ hs.o rfl ?_)
            | (with_reducible refine num_store rfl _ _ rfl _ _ rfl rfl _ hs.r rfl ?_))
          exact bodyPost_ret (v := .agg (numC (Nm.up x n))) (num_results Tryd.results61 _ _ _ rfl (hs.r.row _)) rfl ⟨rfl, below_setRow hs.below HR.out _⟩
    · have e := cells4_done HG
      rw [e] at hs
      clear e
      go_wp2_with (first
        | (with_reducible refine num_load rfl _ rfl _ rfl _ hs.o rfl ?_)
        | (with_reducible refine num_store rfl _ _ rfl _ _ rfl rfl _ hs.r rfl ?_))
      exact bodyPost_ret (v := .agg (numC (Nm.up x n))) (num_results Tryd.results61 _ _ _ rfl (hs.r.row _)) rfl ⟨rfl, below_setRow hs.below HR.out _⟩
end Go.Proofs.YtfnicmmebphpkaaDoor.NN
namespace Go.Proofs.YtfnicmmebphpkaaDoor.NN
open Go.RowKit

theorem downOr (a b N M : Nat) (ha : a < 18446744073709551616) : bits .or .u64 ((a : Int) / 2 ^ N) (IntKind.u64.wrap ((b : Int) * 2 ^ M)) = ((a >>> N ||| b <<< M % 18446744073709551616 : Nat) : Int) := by
  have e : (a : Int) / 2 ^ N = ((a >>> N : Nat) : Int) := by rw [Nat.shiftRight_eq_div_pow]; simp
  rw [e, upW, or64 _ _ (by rw [Nat.shiftRight_eq_div_pow]; exact Nat.lt_of_le_of_lt (Nat.div_le_self _ _) ha) (Nat.mod_lt _ (by decide))]
theorem downW (a N : Nat) : (a : Int) / 2 ^ N = ((a >>> N : Nat) : Int) := by rw [Nat.shiftRight_eq_div_pow]; simp
/-- what holds of the words while they are filled from the lowest on -/
def FromLow (x n k : Nat) (g : Nat → Nat) : Prop := (∀ j, j < k → g j = Nm.wd (Nm.down x n) j) ∧ ∀ j, k ≤ j → g j = 0
theorem FromLow.next {x n k : Nat} {g : Nat → Nat} (h : Hid (FromLow x n k g)) : Hid (FromLow x n (k + 1) (upd g k (Nm.wd (Nm.down x n) k))) := Lib.hid ⟨fun j h1 => by
    unfold upd
    split
    · rename_i e; rw [e]
    · exact h.out.1 j (by omega), fun j h1 => by
    unfold upd
    rw [if_neg (by omega)]; exact h.out.2 j (by omega)⟩
theorem FromLow.done {x n k : Nat} {g : Nat → Nat} (hx : x < Nm.big) (h : Hid (FromLow x n k g)) (hn : 4 ≤ k + n / 64) : Hid (∀ j, j < 4 → g j = Nm.wd (Nm.down x n) j) := Lib.hid fun j _ => by
    by_cases hj : j < k
    · exact h.out.1 j hj
    · rw [h.out.2 j (by omega), Nm.wd_down_none hx n j (by omega)]
set_option maxRecDepth 100000 in
set_option maxHeartbeats 1000000 in
theorem down_pos (x n : Nat) (hx : x < Nm.big) (hn : 0 < n) (hm : n ≤ 9223372036854775807) (w : World) :
    Calls Tryd.prog 60 #[.agg (numC x), .int .i64 (n : Int)] w fun e w' => e = .returned (.agg (numC (Nm.down x n))) ∧ Below w.heap.size w w' := by
  go_enter Tryd.func60, Tryd.ntmps60
  go_upto_region 1 with fail
  generalize hw1 : World.alloc _ _ = w1
  have hbel : Below w.heap.size w w1 := by rw [← hw1]; exact ((Below.refl _ _).alloc (Nat.le_refl _) _).alloc (by simp) _
  have hA : Has w1 w.heap.size (numC x) 54 := by rw [← hw1]; exact (Has.new _ _).alloc _
  have hR : Has w1 (w.heap.size + 1) (numC 0) 54 := by rw [← hw1]; exact Has.new1 _ (numC 0) _
  clear hw1
  go_wp2_with fail
  generalize hw2 : World.alloc _ _ = w2
  have h0 : Acc w w2 w.heap.size w.heap.size (w.heap.size + 1) w1.heap.size x x (cells4 fun _ => 0) := by
    rw [← hw2]; exact ⟨hbel.alloc hbel.size _, hA.alloc _, hA.alloc _, hR.alloc _, Has.new _ _⟩
  have hs := hbel.size
  have hsR := hR.lt
  clear hw2 hbel hA hR
  generalize hB : w1.heap.size = O at *
  generalize hC : w.heap.size + 1 = R at *
  generalize hD : w.heap.size = A at *
  have HO : Hid (w.heap.size ≤ O) := Lib.hid (by omega)
  have HR : Hid (w.heap.size ≤ R) := Lib.hid (by omega)
  have H1 : Hid (A ≠ O) := Lib.hid (by omega)
  have H3 : Hid (R ≠ O) := Lib.hid (by omega)
  clear hB hC hD hs hsR
  obtain ⟨F, hF⟩ : ∃ F, F = n / 64 := ⟨_, rfl⟩
  obtain ⟨N, hN⟩ : ∃ N, N = n % 64 := ⟨_, rfl⟩
  have eF : (n : Int) / 64 = (F : Int) := by omega
  have eN : (n : Int) % 64 = (N : Int) := by omega
  rw [eF, eN]
  have hNl : N < 64 := by omega
  have hFl : F ≤ 144115188075855872 := by omega
  have HF := Lib.hid hF
  have HN := Lib.hid hN
  have HX := Lib.hid hx
  clear hF hN eF eN hm hx
  go_loopw [8] (fun i wr => ∃ (k : Nat) (g : Nat → Nat), k ≤ 4 ∧ i = .int .i64 k ∧ Acc w wr A A R O x x (cells4 g) ∧ Hid (FromLow x n k g)) (fun i _ => 4 - (intOf i).toNat)
  case atStart => exact ⟨0, _, by omega, rfl, h0, Lib.hid ⟨fun j h1 => by omega, fun _ _ => rfl⟩⟩
  case round =>
    obtain ⟨k, g, hk, rfl, hs, HG⟩ := hrel
    by_cases hlt : k + F + 1 < 4
    · have hv := Nm.wd_down x n k
      rw [← HF.out, ← HN.out] at hv
      have c1 := hs.a.num (j := k + F) (by omega)
      have c2 := hs.a.num (j := k + F + 1) (by omega)
      have co := hs.o.word (j := k) (by omega)
      have fo := hs.o.free k
      have HV := Lib.hid hv
      have hset : ∀ v1 v2 : Nat, Acc w ((wr.setCell ⟨O, k, none⟩ (.int .u64 (v1 : Nat))).setCell ⟨O, k, none⟩ (.int .u64 (v2 : Nat))).drew A A R O x x (cells4 (upd g k v2)) := fun v1 v2 => by
        rw [← upd2 g k v1 v2]
        exact ((hs.setWord k v1 (by omega) H1.out H1.out H3.out HO.out).setWord k v2 (by omega) H1.out H1.out H3.out HO.out).drew
      have HSET := Lib.hid hset
      clear hv hset
      obtain ⟨rfl, rfl⟩ | ⟨rfl, rfl⟩ | ⟨rfl, rfl⟩ | ⟨rfl, rfl⟩ | ⟨rfl, rfl⟩ | ⟨rfl, rfl⟩ : (F = 0 ∧ k = 0) ∨ (F = 0 ∧ k = 1) ∨ (F = 0 ∧ k = 2) ∨ (F = 1 ∧ k = 0) ∨ (F = 1 ∧ k = 1) ∨ (F = 2 ∧ k = 0) := by omega
      all_goals
        go_wp2_with fail
        go_region
        have e := HV.out
        simp only [Nat.reduceAdd] at e
        rw [downOr _ _ _ _ (Nm.wd_lt _ _), downW, ← e]
        clear e c1 c2 co fo
        go_wp2_with fail
        go_roundw
        case rel => exact ⟨_, _, by decide, rfl, HSET.out _ _, FromLow.next HG⟩
        case measure => decide
    · by_cases heq : k + F = 3
      · have hv := Nm.wd_down_top HX.out n k (by rw [← HF.out]; exact heq)
        rw [← HF.out, ← HN.out] at hv
        have c1 := hs.a.num (j := k + F) (by omega)
        have co := hs.o.word (j := k) (by omega)
        have fo := hs.o.free k
        have HV := Lib.hid hv
        have hset : ∀ v : Nat, Acc w (wr.setCell ⟨O, k, none⟩ (.int .u64 (v : Nat))) A A R O x x (cells4 (upd g k v)) := fun v => hs.setWord k v (by omega) H1.out H1.out H3.out HO.out
        have HSET := Lib.hid hset
        clear hv hset
        obtain ⟨rfl, rfl⟩ | ⟨rfl, rfl⟩ | ⟨rfl, rfl⟩ | ⟨rfl, rfl⟩ : (F = 0 ∧ k = 3) ∨ (F = 1 ∧ k = 2) ∨ (F = 2 ∧ k = 1) ∨ (F = 3 ∧ k = 0) := by omega
        all_goals
          go_wp2_with fail
          have e := HV.out
          simp only [Nat.reduceAdd] at e
          rw [downW, ← e]
          exact ⟨⟨_, _, by decide, rfl, HSET.out _, FromLow.next HG⟩, by decide⟩
      · have hge : 4 ≤ k + F := by omega
        have HD := FromLow.done HX.out HG (by rw [← HF.out]; exact hge)
        have e := cells4_done HD
        rw [e] at hs
        clear e
        go_wp2_with (first
          | (with_reducible refine num_load rfl _ rfl _ rfl _ hs.o rfl ?_)
          | (with_reducible refine num_store rfl _ _ rfl _ _ rfl rfl _ hs.r rfl ?_))
        exact bodyPost_ret (v := .agg (numC (Nm.down x n))) (num_results Tryd.results60 _ _ _ rfl (hs.r.row _)) rfl ⟨rfl, below_setRow hs.below HR.out _⟩
set_option maxRecDepth 100000 in
theorem up_neg (x : Nat) (n : Int) (hn : n ≤ 0) (w : World) :
    Calls Tryd.prog 61 #[.agg (numC x), .int .i64 n] w fun e w' => e = .returned (.agg (numC x)) ∧ Below w.heap.size w w' := by
  go_enter Tryd.func61, Tryd.ntmps61
  go_upto_region 1 with fail
  generalize hw1 : World.alloc _ _ = w1
  have hbel : Below w.heap.size w w1 := by rw [← hw1]; exact ((Below.refl _ _).alloc (Nat.le_refl _) _).alloc (by simp) _
  have hA : Has w1 w.heap.size (numC x) 54 := by rw [← hw1]; exact (Has.new _ _).alloc _
  have hR : Has w1 (w.heap.size + 1) (numC 0) 54 := by rw [← hw1]; exact Has.new1 _ (numC 0) _
  clear hw1
  go_wp2_with (first
    | (with_reducible refine num_load rfl _ rfl _ rfl _ hA rfl ?_)
    | (with_reducible refine num_store rfl _ _ rfl _ _ rfl rfl _ hR rfl ?_))
  exact bodyPost_ret (v := .agg (numC x)) (num_results Tryd.results61 _ _ _ rfl (hR.row _)) rfl ⟨rfl, below_setRow hbel (by omega) _⟩
set_option maxRecDepth 100000 in
theorem down_neg (x : Nat) (n : Int) (hn : n ≤ 0) (w : World) :
    Calls Tryd.prog 60 #[.agg (numC x), .int .i64 n] w fun e w' => e = .returned (.agg (numC x)) ∧ Below w.heap.size w w' := by
  go_enter Tryd.func60, Tryd.ntmps60
  go_upto_region 1 with fail
  generalize hw1 : World.alloc _ _ = w1
  have hbel : Below w.heap.size w w1 := by rw [← hw1]; exact ((Below.refl _ _).alloc (Nat.le_refl _) _).alloc (by simp) _
  have hA : Has w1 w.heap.size (numC x) 54 := by rw [← hw1]; exact (Has.new _ _).alloc _
  have hR : Has w1 (w.heap.size + 1) (numC 0) 54 := by rw [← hw1]; exact Has.new1 _ (numC 0) _
  clear hw1
  go_wp2_with (first
    | (with_reducible refine num_load rfl _ rfl _ rfl _ hA rfl ?_)
    | (with_reducible refine num_store rfl _ _ rfl _ _ rfl rfl _ hR rfl ?_))
  exact bodyPost_ret (v := .agg (numC x)) (num_results Tryd.results60 _ _ _ rfl (hR.row _)) rfl ⟨rfl, below_setRow hbel (by omega) _⟩
end Go.Proofs.YtfnicmmebphpkaaDoor.NN
namespace Go.Proofs.YtfnicmmebphpkaaDoor.NN
open Go.RowKit

theorem num_store_eq {ops : Array Oper} {rest : List Oper} {o : Oper} {a : Act} {w : World} {Q : Exit → Act → World → Prop} (hgd : o.guard = none) (x y : Operand) (ho : o.op = .store 54 x y) (g : Nat) (z : Nat) (cz : Array Value) (hx : a.eval x = .pointer (some ⟨g, 0, none⟩)) (hy : a.eval y = .agg cz) (e : cz = numC z) (cs : Array Value) (hg : Has w g cs 54) (hs : cs.size = 4)
    (h : wpList Tryd.prog ops Q rest (a.put o.dst undef) (w.setRow g (numC z))) : wpList Tryd.prog ops Q (o :: rest) a w := by
  subst e; exact num_store hgd x y ho g z hx hy cs hg hs h
theorem up64_cells (y : Nat) : (#[.int .u64 0, .int .u64 (Nm.wd y 0 : Nat), .int .u64 (Nm.wd y 1 : Nat), .int .u64 (Nm.wd y 2 : Nat)] : Array Value) = numC (Nm.up y 64) := by
  obtain ⟨h0, h1, h2, h3⟩ := Nm.wd_up64 y
  unfold numC cells4
  rw [h0, h1, h2, h3]; rfl
theorem down64_cells {y : Nat} (hy : y < Nm.big) : (#[.int .u64 (Nm.wd y 1 : Nat), .int .u64 (Nm.wd y 2 : Nat), .int .u64 (Nm.wd y 3 : Nat), .int .u64 0] : Array Value) = numC (Nm.down y 64) := by
  obtain ⟨h0, h1, h2, h3⟩ := Nm.wd_down64 hy
  unfold numC cells4
  rw [h0, h1, h2, h3]; rfl
/-- a number that is moved, a result, a number that grows -/
structure Mv (w wr : World) (A R O y : Nat) (cs : Array Value) : Prop where
  below : Below w.heap.size w wr
  a : Has wr A (numC y) 54
  r : Has wr R (numC 0) 54
  o : Has wr O cs 54
theorem Mv.put {w wr : World} {A R O y : Nat} {cs : Array Value} (h : Mv w wr A R O y cs) (y' : Nat) (hR : R ≠ A) (hO : O ≠ A) (hA : w.heap.size ≤ A) : Mv w (wr.setRow A (numC y')) A R O y' cs :=
  ⟨below_setRow h.below hA _, h.a.row _, h.r.otherRow _ _ hR, h.o.otherRow _ _ hO⟩
theorem Mv.set {w wr : World} {A R O y : Nat} {g : Nat → Nat} (h : Mv w wr A R O y (cells4 g)) (i v : Nat) (hi : i < 4) (hA : A ≠ O) (hR : R ≠ O) (hO : w.heap.size ≤ O) : Mv w (wr.setCell ⟨O, i, none⟩ (.int .u64 (v : Nat))) A R O y (cells4 (upd g i v)) :=
  ⟨h.below.setCell hO _, h.a.other _ _ hA, h.r.other _ _ hR, by rw [← cells4_set g i v hi]; exact h.o.set _⟩
theorem Mv.drew {w wr : World} {A R O y : Nat} {cs : Array Value} (h : Mv w wr A R O y cs) : Mv w wr.drew A R O y cs := ⟨h.below.drew, h.a, h.r, h.o⟩
theorem Mv.start (w : World) (x : Nat) : Mv w (((w.alloc (.cells (numC x) 54)).alloc (.cells (numC 0) 54)).alloc (.cells (cells4 fun _ => 0) 54)) w.heap.size (w.heap.size + 1) (w.heap.size + 1 + 1) x (cells4 fun _ => 0) :=
  ⟨(((Below.refl _ _).alloc (Nat.le_refl _) _).alloc (by simp) _).alloc (by simp; omega) _, ((Has.new _ _).alloc _).alloc _, (Has.new1 _ _ _).alloc _, Has.new2 _ _ _ _⟩
theorem upSum (a b m : Nat) (hm : m ≤ 64) (hb : b < 18446744073709551616) : IntKind.u64.wrap (((a <<< m % 18446744073709551616 : Nat) : Int) + ((b >>> (64 - m) : Nat) : Int)) = ((a <<< m % 18446744073709551616 ||| b >>> (64 - m) : Nat) : Int) := by
  have h := Nm.add_up a b m hm hb
  have h2 := Nm.or_lt64 (a := a <<< m % 18446744073709551616) (b := b >>> (64 - m)) (Nat.mod_lt _ (by decide)) (by rw [Nat.shiftRight_eq_div_pow]; exact Nat.lt_of_le_of_lt (Nat.div_le_self _ _) hb)
  rw [← h] at h2 ⊢
  rw [IntKind.wrap_u64]; omega
theorem downSum (a b m : Nat) (hm : m ≤ 64) (ha : a < 18446744073709551616) : IntKind.u64.wrap (((a >>> m : Nat) : Int) + ((b <<< (64 - m) % 18446744073709551616 : Nat) : Int)) = ((a >>> m ||| b <<< (64 - m) % 18446744073709551616 : Nat) : Int) := by
  have h := Nm.add_down a b m hm ha
  have h2 := Nm.or_lt64 (a := a >>> m) (b := b <<< (64 - m) % 18446744073709551616) (by rw [Nat.shiftRight_eq_div_pow]; exact Nat.lt_of_le_of_lt (Nat.div_le_self _ _) ha) (Nat.mod_lt _ (by decide))
  rw [← h] at h2 ⊢
  rw [IntKind.wrap_u64]; omega
/-- words filled from the lowest on, of whatever number -/
def Filled (z k : Nat) (g : Nat → Nat) : Prop := ∀ j, j < k → g j = Nm.wd z j
theorem Filled.next {z k : Nat} {g : Nat → Nat} (h : Hid (Filled z k g)) : Hid (Filled z (k + 1) (upd g k (Nm.wd z k))) := Lib.hid fun j h1 => by
    unfold upd
    split
    · rename_i e; rw [e]
    · exact h.out j (by omega)
set_option maxRecDepth 100000 in
set_option maxHeartbeats 1000000 in
theorem ref_move_up (x n : Nat) (hx : x < Nm.big) (hm : n ≤ 9223372036854775807) (w : World) :
    Calls Tryd.prog 40 #[.agg (numC x), .int .i64 (n : Int)] w fun e w' => e = .returned (.agg (numC (Nm.up x n))) ∧ Below w.heap.size w w' := by
  by_cases hbg : 256 ≤ n
  · have e := Nm.up_big x hbg
    rw [e]
    clear e
    go_enter Tryd.func40, Tryd.ntmps40
    go_upto_region 2 with fail
    generalize hw1 : World.alloc _ _ = w1
    have h0 : Mv w w1 w.heap.size (w.heap.size + 1) (w.heap.size + 1 + 1) x (cells4 fun _ => 0) := by rw [← hw1]; exact Mv.start w x
    clear hw1
    have ho : Has w1 (w.heap.size + 1 + 1) (numC 0) 54 := h0.o
    go_wp2_with (first
      | (with_reducible refine num_load rfl _ rfl _ rfl _ ho rfl ?_)
      | (with_reducible refine num_store rfl _ _ rfl _ _ rfl rfl _ h0.r rfl ?_))
    exact bodyPost_ret (v := .agg (numC 0)) (num_results Tryd.results40 _ _ _ rfl (h0.r.row _)) rfl ⟨rfl, below_setRow h0.below (by omega) _⟩
  · go_enter Tryd.func40, Tryd.ntmps40
    go_upto_region 2 with fail
    generalize hw1 : World.alloc _ _ = w1
    have h0 : Mv w w1 w.heap.size (w.heap.size + 1) (w.heap.size + 1 + 1) x (cells4 fun _ => 0) := by rw [← hw1]; exact Mv.start w x
    clear hw1
    generalize hB : w.heap.size + 1 + 1 = O at *
    generalize hC : w.heap.size + 1 = R at *
    generalize hD : w.heap.size = A at *
    have HA : Hid (w.heap.size ≤ A) := Lib.hid (by omega)
    have HO : Hid (w.heap.size ≤ O) := Lib.hid (by omega)
    have HR : Hid (w.heap.size ≤ R) := Lib.hid (by omega)
    have H1 : Hid (A ≠ O) := Lib.hid (by omega)
    have H3 : Hid (R ≠ O) := Lib.hid (by omega)
    have H4 : Hid (R ≠ A) := Lib.hid (by omega)
    have H5 : Hid (O ≠ A) := Lib.hid (by omega)
    have HX := Lib.hid hx
    clear hB hC hD hx hm
    go_wp2_with fail
    go_loopw [1] (fun s wr => ∃ (m y : Nat), m < 256 ∧ s = .int .i64 m ∧ Hid (Nm.up y m = Nm.up x n ∧ y < Nm.big) ∧ Mv w wr A R O y (cells4 fun _ => 0)) (fun s _ => (intOf s).toNat)
    case atStart => exact ⟨n, x, by omega, rfl, Lib.hid ⟨rfl, HX.out⟩, h0⟩
    case round =>
      obtain ⟨m, y, hm, rfl, HM, hs⟩ := hrel
      by_cases hge : 64 ≤ m
      · have c0 := hs.a.num (j := 0) (by omega)
        have c1 := hs.a.num (j := 1) (by omega)
        have c2 := hs.a.num (j := 2) (by omega)
        have HE := Lib.hid (up64_cells y)
        go_wp2_with (with_reducible refine num_store_eq rfl _ _ rfl _ (Nm.up y 64) _ rfl rfl HE.out _ hs.a rfl ?_)
        go_roundw
        case rel => exact ⟨m - 64, Nm.up y 64, by omega, congrArg (Value.int .i64) (by omega), Lib.hid ⟨by rw [Nm.up_add, show 64 + (m - 64) = m by omega]; exact HM.out.1, Nm.up_lt _ _⟩, hs.put _ H4.out H5.out HA.out⟩
        case measure => simp [intOf]; omega
      · have hlt : m < 64 := by omega
        clear hm hge
        go_wp2_with fail
        go_loopw [1] (fun s wr => s = .int .i64 (m : Nat) ∧ Mv w wr A R O y (cells4 fun _ => 0)) (fun _ _ => 0)
        case atStart => exact ⟨rfl, hs⟩
        case round =>
          obtain ⟨rfl, hs2⟩ := hrel
          by_cases hm0 : m = 0
          · subst hm0
            have e := HM.out.1
            rw [Nm.up_zero HM.out.2] at e
            subst e
            go_wp2_with (first
              | (with_reducible refine num_load rfl _ rfl _ rfl _ hs2.a rfl ?_)
              | (with_reducible refine num_store rfl _ _ rfl _ _ rfl rfl _ hs2.r rfl ?_))
            exact bodyPost_ret (v := .agg (numC (Nm.up x n))) (num_results Tryd.results40 _ _ _ rfl (hs2.r.row _)) rfl ⟨rfl, below_setRow hs2.below HR.out _⟩
          · have hmp : 0 < m := by omega
            clear hm0
            go_wp2_with fail
            go_loopw [6] (fun i wr => ∃ (k : Nat) (g : Nat → Nat), k ≤ 4 ∧ i = .int .i64 k ∧ Mv w wr A R O y (cells4 g) ∧ Hid (Filled (Nm.up y m) k g)) (fun i _ => 4 - (intOf i).toNat)
            case atStart => exact ⟨0, _, by omega, rfl, hs2, Lib.hid fun j hj => by omega⟩
            case round =>
              obtain ⟨k, g, hk, rfl, hs3, HG⟩ := hrel
              by_cases hk4 : k < 4
              · have c1 := hs3.a.num (j := k) (by omega)
                have c2 := hs3.a.num (j := k - 1) (by omega)
                have co := hs3.o.word (j := k) (by omega)
                have fo := hs3.o.free k
                have hset : ∀ v1 v2 : Nat, Mv w ((wr.setCell ⟨O, k, none⟩ (.int .u64 (v1 : Nat))).setCell ⟨O, k, none⟩ (.int .u64 (v2 : Nat))).drew A R O y (cells4 (upd g k v2)) := fun v1 v2 => by
                  rw [← upd2 g k v1 v2]
                  exact ((hs3.set k v1 (by omega) H1.out H3.out HO.out).set k v2 (by omega) H1.out H3.out HO.out).drew
                have hset1 : ∀ v : Nat, Mv w (wr.setCell ⟨O, k, none⟩ (.int .u64 (v : Nat))) A R O y (cells4 (upd g k v)) := fun v => hs3.set k v (by omega) H1.out H3.out HO.out
                have HSET := Lib.hid hset
                have HSET1 := Lib.hid hset1
                clear hset hset1
                by_cases hk0 : k = 0
                · subst hk0
                  have hv := Nm.wd_up_low y m 0 (by omega) (by omega)
                  rw [show m % 64 = m by omega, show 0 - m / 64 = 0 by omega] at hv
                  have HV := Lib.hid hv
                  clear hv
                  go_wp2_with fail
                  rw [upW, ← HV.out]
                  exact ⟨⟨_, _, by decide, rfl, HSET1.out _, Filled.next HG⟩, by decide⟩
                · have hv := Nm.wd_up y m k (by omega) (by omega)
                  rw [show m % 64 = m by omega, show k - m / 64 = k by omega] at hv
                  have HV := Lib.hid hv
                  clear hv
                  obtain rfl | rfl | rfl : k = 1 ∨ k = 2 ∨ k = 3 := by omega
                  all_goals
                    go_wp2_with fail
                    go_region
                    have e := HV.out
                    simp only [Nat.reduceSub] at e
                    rw [upW, downW, upSum _ _ _ (by omega) (Nm.wd_lt _ _), ← e]
                    clear e c1 c2 co fo
                    go_wp2_with fail
                    go_roundw
                    case rel => exact ⟨_, _, by decide, rfl, HSET.out _ _, Filled.next HG⟩
                    case measure => decide
              · obtain rfl : k = 4 := by omega
                have e := cells4_done HG
                rw [e, HM.out.1] at hs3
                clear e
                go_wp2_with (first
                  | (with_reducible refine num_load rfl _ rfl _ rfl _ hs3.o rfl ?_)
                  | (with_reducible refine num_store rfl _ _ rfl _ _ rfl rfl _ hs3.r rfl ?_))
                exact bodyPost_ret (v := .agg (numC (Nm.up x n))) (num_results Tryd.results40 _ _ _ rfl (hs3.r.row _)) rfl ⟨rfl, below_setRow hs3.below HR.out _⟩
end Go.Proofs.YtfnicmmebphpkaaDoor.NN
namespace Go.Proofs.YtfnicmmebphpkaaDoor.NN
open Go.RowKit

set_option maxRecDepth 100000 in
set_option maxHeartbeats 1000000 in
theorem ref_move_down (x n : Nat) (hx : x < Nm.big) (hn : 0 < n) (hm : n ≤ 9223372036854775807) (w : World) :
    Calls Tryd.prog 40 #[.agg (numC x), .int .i64 (-(n : Int))] w fun e w' => e = .returned (.agg (numC (Nm.down x n))) ∧ Below w.heap.size w w' := by
  by_cases hbg : 256 ≤ n
  · have e := Nm.down_big hx hbg
    rw [e]
    clear e
    go_enter Tryd.func40, Tryd.ntmps40
    go_upto_region 2 with fail
    generalize hw1 : World.alloc _ _ = w1
    have h0 : Mv w w1 w.heap.size (w.heap.size + 1) (w.heap.size + 1 + 1) x (cells4 fun _ => 0) := by rw [← hw1]; exact Mv.start w x
    clear hw1
    have ho : Has w1 (w.heap.size + 1 + 1) (numC 0) 54 := h0.o
    go_wp2_with (first
      | (with_reducible refine num_load rfl _ rfl _ rfl _ ho rfl ?_)
      | (with_reducible refine num_store rfl _ _ rfl _ _ rfl rfl _ h0.r rfl ?_))
    exact bodyPost_ret (v := .agg (numC 0)) (num_results Tryd.results40 _ _ _ rfl (h0.r.row _)) rfl ⟨rfl, below_setRow h0.below (by omega) _⟩
  · go_enter Tryd.func40, Tryd.ntmps40
    go_upto_region 2 with fail
    generalize hw1 : World.alloc _ _ = w1
    have h0 : Mv w w1 w.heap.size (w.heap.size + 1) (w.heap.size + 1 + 1) x (cells4 fun _ => 0) := by rw [← hw1]; exact Mv.start w x
    clear hw1
    generalize hB : w.heap.size + 1 + 1 = O at *
    generalize hC : w.heap.size + 1 = R at *
    generalize hD : w.heap.size = A at *
    have HA : Hid (w.heap.size ≤ A) := Lib.hid (by omega)
    have HO : Hid (w.heap.size ≤ O) := Lib.hid (by omega)
    have HR : Hid (w.heap.size ≤ R) := Lib.hid (by omega)
    have H1 : Hid (A ≠ O) := Lib.hid (by omega)
    have H3 : Hid (R ≠ O) := Lib.hid (by omega)
    have H4 : Hid (R ≠ A) := Lib.hid (by omega)
    have H5 : Hid (O ≠ A) := Lib.hid (by omega)
    have HX := Lib.hid hx
    clear hB hC hD hx hm
    go_wp2_with fail
    go_loopw [1] (fun s wr => s = .int .i64 (-(n : Int)) ∧ Mv w wr A R O x (cells4 fun _ => 0)) (fun _ _ => 0)
    case atStart => exact ⟨rfl, h0⟩
    case round =>
      obtain ⟨rfl, hs⟩ := hrel
      go_wp2_with fail
      go_loopw [1] (fun s wr => ∃ (m y : Nat), m < 256 ∧ s = .int .i64 (-(m : Int)) ∧ Hid (Nm.down y m = Nm.down x n ∧ y < Nm.big) ∧ Mv w wr A R O y (cells4 fun _ => 0)) (fun s _ => (-intOf s).toNat)
      case atStart => exact ⟨n, x, by omega, rfl, Lib.hid ⟨rfl, HX.out⟩, hs⟩
      case round =>
        obtain ⟨m, y, hm, rfl, HM, hs⟩ := hrel
        by_cases hge : 64 ≤ m
        · have c1 := hs.a.num (j := 1) (by omega)
          have c2 := hs.a.num (j := 2) (by omega)
          have c3 := hs.a.num (j := 3) (by omega)
          have HE := Lib.hid (down64_cells HM.out.2)
          go_wp2_with (with_reducible refine num_store_eq rfl _ _ rfl _ (Nm.down y 64) _ rfl rfl HE.out _ hs.a rfl ?_)
          go_roundw
          case rel => exact ⟨m - 64, Nm.down y 64, by omega, congrArg (Value.int .i64) (by omega), Lib.hid ⟨by rw [Nm.down_add, show 64 + (m - 64) = m by omega]; exact HM.out.1, Nm.down_lt HM.out.2 _⟩, hs.put _ H4.out H5.out HA.out⟩
          case measure => simp [intOf]; omega
        · have hlt : m < 64 := by omega
          clear hm hge
          by_cases hm0 : m = 0
          · subst hm0
            have e := HM.out.1
            rw [Nm.down_zero] at e
            subst e
            go_wp2_with (first
              | (with_reducible refine num_load rfl _ rfl _ rfl _ hs.a rfl ?_)
              | (with_reducible refine num_store rfl _ _ rfl _ _ rfl rfl _ hs.r rfl ?_))
            exact bodyPost_ret (v := .agg (numC (Nm.down x n))) (num_results Tryd.results40 _ _ _ rfl (hs.r.row _)) rfl ⟨rfl, below_setRow hs.below HR.out _⟩
          · have hmp : 0 < m := by omega
            clear hm0
            go_wp2_with fail
            go_loopw [6] (fun i wr => ∃ (k : Nat) (g : Nat → Nat), k ≤ 4 ∧ i = .int .i64 k ∧ Mv w wr A R O y (cells4 g) ∧ Hid (Filled (Nm.down y m) k g)) (fun i _ => 4 - (intOf i).toNat)
            case atStart => exact ⟨0, _, by omega, rfl, hs, Lib.hid fun j hj => by omega⟩
            case round =>
              obtain ⟨k, g, hk, rfl, hs3, HG⟩ := hrel
              by_cases hk4 : k < 4
              · have c1 := hs3.a.num (j := k) (by omega)
                have co := hs3.o.word (j := k) (by omega)
                have fo := hs3.o.free k
                have hset : ∀ v1 v2 : Nat, Mv w ((wr.setCell ⟨O, k, none⟩ (.int .u64 (v1 : Nat))).setCell ⟨O, k, none⟩ (.int .u64 (v2 : Nat))).drew A R O y (cells4 (upd g k v2)) := fun v1 v2 => by
                  rw [← upd2 g k v1 v2]
                  exact ((hs3.set k v1 (by omega) H1.out H3.out HO.out).set k v2 (by omega) H1.out H3.out HO.out).drew
                have hset1 : ∀ v : Nat, Mv w (wr.setCell ⟨O, k, none⟩ (.int .u64 (v : Nat))) A R O y (cells4 (upd g k v)) := fun v => hs3.set k v (by omega) H1.out H3.out HO.out
                have HSET := Lib.hid hset
                have HSET1 := Lib.hid hset1
                clear hset hset1
                by_cases hk0 : k = 3
                · subst hk0
                  have hv := Nm.wd_down_top HM.out.2 m 3 (by omega)
                  rw [show m % 64 = m by omega, show 3 + m / 64 = 3 by omega] at hv
                  have HV := Lib.hid hv
                  clear hv
                  go_wp2_with fail
                  rw [downW, ← HV.out]
                  exact ⟨⟨_, _, by decide, rfl, HSET1.out _, Filled.next HG⟩, by decide⟩
                · have hv := Nm.wd_down y m k
                  rw [show m % 64 = m by omega, show k + m / 64 = k by omega] at hv
                  have c2 := hs3.a.num (j := k + 1) (by omega)
                  have HV := Lib.hid hv
                  clear hv
                  obtain rfl | rfl | rfl : k = 0 ∨ k = 1 ∨ k = 2 := by omega
                  all_goals
                    go_wp2_with fail
                    go_region
                    have e := HV.out
                    simp only [Nat.reduceAdd] at e
                    rw [downW, upW, show (64 + -(m : Int)).toNat = 64 - m by omega, downSum _ _ _ (by omega) (Nm.wd_lt _ _), ← e]
                    clear e c1 c2 co fo
                    go_wp2_with fail
                    go_roundw
                    case rel => exact ⟨_, _, by decide, rfl, HSET.out _ _, Filled.next HG⟩
                    case measure => decide
              · obtain rfl : k = 4 := by omega
                have e := cells4_done HG
                rw [e, HM.out.1] at hs3
                clear e
                go_wp2_with (first
                  | (with_reducible refine num_load rfl _ rfl _ rfl _ hs3.o rfl ?_)
                  | (with_reducible refine num_store rfl _ _ rfl _ _ rfl rfl _ hs3.r rfl ?_))
                exact bodyPost_ret (v := .agg (numC (Nm.down x n))) (num_results Tryd.results40 _ _ _ rfl (hs3.r.row _)) rfl ⟨rfl, below_setRow hs3.below HR.out _⟩
end Go.Proofs.YtfnicmmebphpkaaDoor.NN
