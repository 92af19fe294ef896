import Derived.Test.YtmemppkkchfphaaRefBit
import Derived.Test.YtmemppkkchfphaaMoveMath
import Derived.Test.YtmemppkkchfphaaNumMem2
namespace Go.Proofs.Ytmemppkkchfphaa
open Go.RowKit

theorem upW (a N : Nat) : IntKind.u64.wrap ((a : Int) * 2 ^ N) = ((a <<< N % 18446744073709551616 : Nat) : Int) := by
  have e : (a : Int) * 2 ^ N = ((a <<< N : Nat) : Int) := by rw [Nat.shiftLeft_eq]; simp
  rw [e, IntKind.wrap_u64]; omega
theorem upOr (u b M : Nat) (hu : u < 18446744073709551616) (hb : b < 18446744073709551616) : bits .or .u64 (u : Int) ((b : Int) / 2 ^ M) = ((u ||| b >>> M : Nat) : Int) := by
  have e : (b : Int) / 2 ^ M = ((b >>> M : Nat) : Int) := by rw [Nat.shiftRight_eq_div_pow]; simp
  rw [e, or64 u _ hu (by rw [Nat.shiftRight_eq_div_pow]; exact Nat.lt_of_le_of_lt (Nat.div_le_self _ _) hb)]
theorem upd2 (g : Nat → Nat) (k a b : Nat) : upd (upd g k a) k b = upd g k b := by
  funext j
  unfold upd
  split <;> rfl
/-- what holds of the words while they are filled from the highest on -/
def FromTop (x n k : Nat) (g : Nat → Nat) : Prop := (∀ j, k < j → j < 4 → g j = Nm.wd (Nm.up x n) j) ∧ ∀ j, j ≤ k → g j = 0
theorem FromTop.next {x n k : Nat} {g : Nat → Nat} (h : Hid (FromTop x n k g)) (hk : 0 < k) : Hid (FromTop x n (k - 1) (upd g k (Nm.wd (Nm.up x n) k))) := Lib.hid ⟨fun j h1 h2 => by
    unfold upd
    split
    · rename_i e; rw [e]
    · exact h.out.1 j (by omega) h2, fun j h1 => by
    unfold upd
    rw [if_neg (by omega)]; exact h.out.2 j (by omega)⟩
theorem FromTop.last {x n : Nat} {g : Nat → Nat} (h : Hid (FromTop x n 0 g)) : Hid (∀ j, j < 4 → upd g 0 (Nm.wd (Nm.up x n) 0) j = Nm.wd (Nm.up x n) j) := Lib.hid fun j h2 => by
    unfold upd
    split
    · rename_i e; rw [e]
    · exact h.out.1 j (by omega) h2
theorem FromTop.done {x n k : Nat} {g : Nat → Nat} (h : Hid (FromTop x n k g)) (hn : k < n / 64) : Hid (∀ j, j < 4 → g j = Nm.wd (Nm.up x n) j) := Lib.hid fun j h2 => by
    by_cases hj : k < j
    · exact h.out.1 j hj h2
    · rw [h.out.2 j (by omega), Nm.wd_up_none x n j h2 (by omega)]
set_option maxRecDepth 100000 in
set_option maxHeartbeats 1000000 in
theorem up_pos (x n : Nat) (hx : x < Nm.big) (hn : 0 < n) (hm : n ≤ 9223372036854775807) (w : World) :
    Calls Try.prog 40 #[.agg (numC x), .int .i64 (n : Int)] w fun e w' => e = .returned (.agg (numC (Nm.up x n))) ∧ Below w.heap.size w w' := by
  go_enter Try.func40, Try.ntmps40
  go_upto_region 1 with fail
  generalize hw1 : World.alloc _ _ = w1
  have hbel : Below w.heap.size w w1 := by rw [← hw1]; exact ((Below.refl _ _).alloc (Nat.le_refl _) _).alloc (by simp) _
  have hA : Has w1 w.heap.size (numC x) 26 := by rw [← hw1]; exact (Has.new _ _).alloc _
  have hR : Has w1 (w.heap.size + 1) (numC 0) 26 := by rw [← hw1]; exact Has.new1 _ (numC 0) _
  clear hw1
  go_wp2_with fail
  generalize hw2 : World.alloc _ _ = w2
  have h0 : Acc w w2 w.heap.size w.heap.size (w.heap.size + 1) w1.heap.size x x (cells4 fun _ => 0) := by
    rw [← hw2]; exact ⟨hbel.alloc hbel.size _, hA.alloc _, hA.alloc _, hR.alloc _, Has.new _ _⟩
  have hs := hbel.size
  have hsR := hR.lt
  clear hw2 hbel hA hR
  generalize hB : w1.heap.size = O at *
  generalize hC : w.heap.size + 1 = R at *
  generalize hD : w.heap.size = A at *
  have HO : Hid (w.heap.size ≤ O) := Lib.hid (by omega)
  have HR : Hid (w.heap.size ≤ R) := Lib.hid (by omega)
  have H1 : Hid (A ≠ O) := Lib.hid (by omega)
  have H3 : Hid (R ≠ O) := Lib.hid (by omega)
  clear hB hC hD hs hsR
  obtain ⟨F, hF⟩ : ∃ F, F = n / 64 := ⟨_, rfl⟩
  obtain ⟨N, hN⟩ : ∃ N, N = n % 64 := ⟨_, rfl⟩
  have eF : (n : Int) / 64 = (F : Int) := by omega
  have eN : (n : Int) % 64 = (N : Int) := by omega
  rw [eF, eN]
  have hNl : N < 64 := by omega
  have HF := Lib.hid hF
  have HN := Lib.hid hN
  have HX := Lib.hid hx
  clear hF hN eF eN hm hx
  go_loopw [8] (fun i wr => ∃ g : Nat → Nat, Acc w wr A A R O x x (cells4 g) ∧ ((∃ k : Nat, k ≤ 3 ∧ i = .int .i64 k ∧ Hid (FromTop x n k g)) ∨ (i = .int .i64 (-1) ∧ Hid (∀ j, j < 4 → g j = Nm.wd (Nm.up x n) j)))) (fun i _ => (intOf i + 1).toNat)
  case atStart => exact ⟨_, h0, .inl ⟨3, by omega, rfl, Lib.hid ⟨fun j h1 h2 => by omega, fun _ _ => rfl⟩⟩⟩
  case round =>
    obtain ⟨g, hs, ⟨k, hk, rfl, HG⟩ | ⟨rfl, HG⟩⟩ := hrel
    · by_cases hlt : F < k
      · have hv := Nm.wd_up x n k (by omega) (by rw [← HF.out]; exact hlt)
        rw [← HF.out, ← HN.out] at hv
        have c1 := hs.a.num (j := k - F) (by omega)
        have c2 := hs.a.num (j := k - F - 1) (by omega)
        have co := hs.o.word (j := k) (by omega)
        have fo := hs.o.free k
        have HV := Lib.hid hv
        have hset : ∀ v1 v2 : Nat, Acc w ((wr.setCell ⟨O, k, none⟩ (.int .u64 (v1 : Nat))).setCell ⟨O, k, none⟩ (.int .u64 (v2 : Nat))).drew A A R O x x (cells4 (upd g k v2)) := fun v1 v2 => by
          rw [← upd2 g k v1 v2]
          exact ((hs.setWord k v1 (by omega) H1.out H1.out H3.out HO.out).setWord k v2 (by omega) H1.out H1.out H3.out HO.out).drew
        have HSET := Lib.hid hset
        clear hv hset
        obtain ⟨rfl, rfl⟩ | ⟨rfl, rfl⟩ | ⟨rfl, rfl⟩ | ⟨rfl, rfl⟩ | ⟨rfl, rfl⟩ | ⟨rfl, rfl⟩ : (F = 0 ∧ k = 1) ∨ (F = 0 ∧ k = 2) ∨ (F = 0 ∧ k = 3) ∨ (F = 1 ∧ k = 2) ∨ (F = 1 ∧ k = 3) ∨ (F = 2 ∧ k = 3) := by omega
        all_goals
          go_wp2_with fail
          go_region
          have e := HV.out
          simp only [Nat.reduceSub] at e
          rw [upW, upOr _ _ _ (Nat.mod_lt _ (by decide)) (Nm.wd_lt _ _), ← e]
          clear e c1 c2 co fo
          go_wp2_with fail
          go_roundw
          case rel => exact ⟨_, HSET.out _ _, .inl ⟨_, by decide, rfl, FromTop.next HG (by decide)⟩⟩
          case measure => decide
      · by_cases heq : F = k
        · have hv := Nm.wd_up_low x n k (by omega) (by rw [← HF.out]; exact heq)
          rw [← HF.out, ← HN.out] at hv
          have c1 := hs.a.num (j := k - F) (by omega)
          have co := hs.o.word (j := k) (by omega)
          have fo := hs.o.free k
          have HV := Lib.hid hv
          have hset : ∀ v : Nat, Acc w (wr.setCell ⟨O, k, none⟩ (.int .u64 (v : Nat))) A A R O x x (cells4 (upd g k v)) := fun v => hs.setWord k v (by omega) H1.out H1.out H3.out HO.out
          have HSET := Lib.hid hset
          clear hv hset
          obtain ⟨rfl, rfl⟩ | ⟨rfl, rfl⟩ | ⟨rfl, rfl⟩ | ⟨rfl, rfl⟩ : (F = 0 ∧ k = 0) ∨ (F = 1 ∧ k = 1) ∨ (F = 2 ∧ k = 2) ∨ (F = 3 ∧ k = 3) := by omega
          all_goals
            go_wp2_with fail
            have e := HV.out
            simp only [Nat.reduceSub] at e
            rw [upW, ← e]
            first
              | exact ⟨⟨_, HSET.out _, .inl ⟨_, by decide, rfl, FromTop.next HG (by decide)⟩⟩, by decide⟩
              | exact ⟨⟨_, HSET.out _, .inr ⟨rfl, FromTop.last HG⟩⟩, by decide⟩
        · have hlt2 : k < F := by omega
          have HD := FromTop.done HG (by rw [← HF.out]; exact hlt2)
          have e := cells4_done HD
          rw [e] at hs
          clear e
          go_wp2_with (first
            | (with_reducible refine num_load rfl _ rfl _ rfl _ hs.o rfl ?_)
            | (with_reducible refine num_store rfl _ _ rfl _ _ rfl rfl _ hs.r rfl ?_))
          exact bodyPost_ret (v := .agg (numC (Nm.up x n))) (num_results Try.results40 _ _ _ rfl (hs.r.row _)) rfl ⟨rfl, below_setRow hs.below HR.out _⟩
    · have e := cells4_done HG
      rw [e] at hs
      clear e
      go_wp2_with (first
        | (with_reducible refine num_load rfl _ rfl _ rfl _ hs.o rfl ?_)
        | (with_reducible refine num_store rfl _ _ rfl _ _ rfl rfl _ hs.r rfl ?_))
      exact bodyPost_ret (v := .agg (numC (Nm.up x n))) (num_results Try.results40 _ _ _ rfl (hs.r.row _)) rfl ⟨rfl, below_setRow hs.below HR.out _⟩
end Go.Proofs.Ytmemppkkchfphaa
