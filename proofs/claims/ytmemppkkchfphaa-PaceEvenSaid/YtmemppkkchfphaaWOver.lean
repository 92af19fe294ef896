import Derived.Test.YtmemppkkchfphaaDiv64
namespace Go.Proofs.Ytmemppkkchfphaa
open Go.RowKit
/-- one word of a quotient, and what is left for the next -/
theorem Nm.over_step {x b : Nat} (k : Nat) (hb : 0 < b) :
    Nm.wd (x / b) k = (x / 2 ^ (64 * (k + 1)) % b * 18446744073709551616 + Nm.wd x k) / b ∧ x / 2 ^ (64 * k) % b = (x / 2 ^ (64 * (k + 1)) % b * 18446744073709551616 + Nm.wd x k) % b := by
  have e1 : x / 2 ^ (64 * (k + 1)) = x / 2 ^ (64 * k) / 18446744073709551616 := by rw [Nat.div_div_eq_div_mul, show (18446744073709551616 : Nat) = 2 ^ 64 from rfl, ← Nat.pow_add, Nat.mul_add]
  have e2 : x / b / 2 ^ (64 * k) = x / 2 ^ (64 * k) / b := by rw [Nat.div_div_eq_div_mul, Nat.div_div_eq_div_mul, Nat.mul_comm]
  unfold Nm.wd
  rw [e1, e2]
  generalize x / 2 ^ (64 * k) = n
  have hM := Nat.div_add_mod n 18446744073709551616
  have hd := Nat.mod_lt n (show 18446744073709551616 > 0 by decide)
  generalize n / 18446744073709551616 = M at *
  generalize n % 18446744073709551616 = d at *
  have hr := Nat.mod_lt M hb
  have hQ := Nat.div_add_mod M b
  have e : n = b * (M / b * 18446744073709551616) + (M % b * 18446744073709551616 + d) := by
    rw [← Nat.mul_assoc]
    generalize b * (M / b) = z at *
    omega
  have hs : (M % b * 18446744073709551616 + d) / b < 18446744073709551616 := (Nat.div_lt_iff_lt_mul hb).2 (by omega)
  rw [e, Nat.mul_add_div hb, Nat.mul_add_mod]
  refine ⟨?_, rfl⟩
  rw [Nat.add_comm, Nat.add_mul_mod_self_right, Nat.mod_eq_of_lt hs]
theorem Tm.on {w wr w' : World} {A R O x : Nat} {g : Nat → Nat} (h : Tm w wr A R O x g) (hb : Below wr.heap.size wr w') : Tm w w' A R O x g := ⟨h.below.trans (hb.mono h.below.size), h.a.on hb, h.r.on hb, h.o.on hb⟩
/-- the words from k on are the quotient's -/
def FromHigh (z k : Nat) (g : Nat → Nat) : Prop := ∀ j, k ≤ j → j < 4 → g j = Nm.wd z j
theorem FromHigh.next {z k : Nat} {g : Nat → Nat} (h : FromHigh z (k + 1) g) : FromHigh z k (upd g k (Nm.wd z k)) := fun j h1 h2 => by
  unfold upd
  split
  · rename_i e; rw [e]
  · rename_i e; exact h j (by omega) h2
set_option maxRecDepth 100000 in
set_option maxHeartbeats 1000000 in
theorem over (x b : Nat) (hx : x < Nm.big) (hb : b < 18446744073709551616) (w : World) :
    Calls Try.prog 27 #[.agg (numC x), .int .u64 (b : Int)] w fun e w' => e = .returned (.tuple #[.agg (numC (x / b)), .int .u64 ((if b = 0 then 0 else x % b : Nat) : Int)]) ∧ Below w.heap.size w w' := by
  by_cases h0 : b = 0
  · subst h0
    have hz : numC (x / 0) = numC 0 := by rw [Nat.div_zero]
    rw [if_pos rfl, hz]
    clear hz
    go_enter Try.func27, Try.ntmps27
    go_wp2_with fail
    generalize hw1 : World.alloc _ _ = w1
    have hr : Has w1 (w.heap.size + 1) (numC 0) 26 := by rw [← hw1]; exact Has.new1 _ (numC 0) _
    have hbel : Below w.heap.size w w1 := by rw [← hw1]; exact ((Below.refl _ _).alloc (Nat.le_refl _) _).alloc (by simp) _
    clear hw1
    exact bodyPost_ret (v := .tuple #[.agg (numC 0), .int .u64 0]) (num_results2 Try.results27 _ _ _ _ rfl rfl hr) rfl ⟨rfl, hbel⟩
  · rw [if_neg h0]
    have hb0 : ¬ (b : Int) = 0 := by omega
    have hbz : ((b : Int) == 0) = false := by simp; omega
    have HB0 : Hid (0 < b) := Lib.hid (by omega)
    have HBB := Lib.hid hb
    have HX := Lib.hid hx
    clear hb hx h0
    go_enter Try.func27, Try.ntmps27
    go_upto_region 5 with fail
    generalize hw1 : World.alloc _ _ = w1
    have h0 : Tm w w1 w.heap.size (w.heap.size + 1) (w.heap.size + 1 + 1) x (fun _ => 0) := by
      rw [← hw1]; exact ⟨(((Below.refl _ _).alloc (Nat.le_refl _) _).alloc (by simp) _).alloc (by simp; omega) _, ((Has.new _ _).alloc _).alloc _, (Has.new1 _ (numC 0) _).alloc _, Has.new2 _ _ (cells4 fun _ => 0) _⟩
    clear hw1
    generalize hB : w.heap.size + 1 + 1 = O at *
    generalize hC : w.heap.size + 1 = R at *
    generalize hD : w.heap.size = A at *
    have HO : Hid (w.heap.size ≤ O) := Lib.hid (by omega)
    have HR : Hid (w.heap.size ≤ R) := Lib.hid (by omega)
    have H1 : Hid (A ≠ O) := Lib.hid (by omega)
    have H3 : Hid (R ≠ O) := Lib.hid (by omega)
    clear hB hC hD
    go_wp2_with fail
    go_loopw [7, 8] (fun c i wr => ∃ g : Nat → Nat, Tm w wr A R O x g ∧ ((∃ k : Nat, k ≤ 3 ∧ i = .int .i64 k ∧ c = .int .u64 ((x / 2 ^ (64 * (k + 1)) % b : Nat) : Int) ∧ Hid (FromHigh (x / b) (k + 1) g)) ∨ (i = .int .i64 (-1) ∧ c = .int .u64 ((x % b : Nat) : Int) ∧ Hid (FromHigh (x / b) 0 g)))) (fun _ i _ => (intOf i + 1).toNat)
    case atStart => exact ⟨_, h0, .inl ⟨3, by omega, rfl, by rw [Nat.div_eq_of_lt (by have := HX.out; rw [Nm.big_eq] at this; exact this), Nat.zero_mod]; rfl, Lib.hid (fun j h1 h2 => by omega)⟩⟩
    case round =>
      obtain ⟨g, hs, ⟨k, hk, rfl, rfl, HG⟩ | ⟨rfl, rfl, HG⟩⟩ := hrel
      · have hst := Nm.over_step (x := x) k HB0.out
        have hrl := Nat.mod_lt (x / 2 ^ (64 * (k + 1))) HB0.out
        generalize x / 2 ^ (64 * (k + 1)) % b = r at *
        have cD := fun w => div64 r (Nm.wd x k) b hrl (Nm.wd_lt x k) HBB.out w
        rw [← hst.1, ← hst.2] at cD
        have KD := Lib.hid cD
        have c1 := hs.a.num (j := k) (by omega)
        clear cD hst hrl
        go_wp2_with fail
        refine (KD.out _).mono ?_
        rintro e w' ⟨rfl, hbw⟩
        have hs2 := hs.on hbw
        have co := hs2.o.word (j := k) (by omega)
        have fo := hs2.o.free k
        clear c1 hs hbw
        go_wp2_with fail
        have hs3 := hs2.set k (Nm.wd (x / b) k) (by omega) H1.out H3.out HO.out
        clear hs2 co fo
        generalize World.setCell _ _ _ = w4 at *
        go_wp2_with fail
        go_roundw
        case rel =>
          refine ⟨_, hs3, ?_⟩
          by_cases hk0 : k = 0
          · subst hk0
            exact .inr ⟨rfl, by simp, Lib.hid (FromHigh.next HG.out)⟩
          · exact .inl ⟨k - 1, by omega, congrArg (Value.int .i64) (by omega), by rw [show k - 1 + 1 = k by omega]; simp, by rw [show k - 1 + 1 = k by omega]; exact Lib.hid (FromHigh.next HG.out)⟩
        case measure => first | (simp [intOf]; done) | (simp [intOf]; omega)
      · have e := cells4_done (g := g) (x := x / b) (Lib.hid fun j hj => HG.out j (by omega) hj)
        have ho := hs.o
        have hr := hs.r
        have hbel := hs.below
        rw [e] at ho
        clear e hs
        go_wp2_with (first
          | (with_reducible refine num_load rfl _ rfl _ rfl _ ho rfl ?_)
          | (with_reducible refine num_store rfl _ _ rfl _ _ rfl rfl _ hr rfl ?_))
        exact bodyPost_ret (v := .tuple #[.agg (numC (x / b)), .int .u64 ((x % b : Nat) : Int)]) (num_results2 Try.results27 _ _ _ _ rfl rfl (hr.row _)) rfl ⟨rfl, below_setRow hbel HR.out _⟩
end Go.Proofs.Ytmemppkkchfphaa
