import Derived.Test.YthcebnfdapcllaaGreatDoorRBunQ31
import Derived.Test.YthcebnfdapcllaaGreatDoorRBunQ21
import Derived.Test.YthcebnfdapcllaaGreatDoorRBunQ27
namespace Go.Proofs.YthcebnfdapcllaaGreatDoor.NN
open Go.RowKit
theorem mul64 (x y : Nat) (hx : x < 18446744073709551616) (hy : y < 18446744073709551616) (w : World) :
    Calls Tryz.prog 151 #[.int .u64 (x : Int), .int .u64 (y : Int)] w fun e w' => e = .returned (.tuple #[.int .u64 ((x * y / 18446744073709551616 : Nat) : Int), .int .u64 ((x * y % 18446744073709551616 : Nat) : Int)]) ∧ w = w' :=
  (Tryz.bits_Mul64 x y hx hy w).mono fun _ _ ⟨he, hw⟩ => ⟨he, hw.symm⟩
theorem carry_in (a b c : Nat) (ha : a < 18446744073709551616) (hc : c < b ∨ b = 0 ∧ c = 0) (hb : b < 18446744073709551616) :
    a * b / 18446744073709551616 + (a * b % 18446744073709551616 + c) / 18446744073709551616 = (a * b + c) / 18446744073709551616 ∧ (a * b + c) / 18446744073709551616 < 18446744073709551616 := by
  have h1 : a * b ≤ 18446744073709551615 * b := Nat.mul_le_mul_right b (by omega)
  generalize a * b = p at *
  omega
theorem over_ok (x b k : Nat) : Nm.over x b k < b ∨ b = 0 ∧ Nm.over x b k = 0 := by
  by_cases h : b = 0
  · exact .inr ⟨h, by subst h; simp [Nm.over]⟩
  · exact .inl (Nm.over_lt x b k (by omega))
structure Tm (w wr : World) (A R O x : Nat) (g : Nat → Nat) : Prop where
  below : Below w.heap.size w wr
  a : Has wr A (numC x) 26
  r : Has wr R (numC 0) 26
  o : Has wr O (cells4 g) 26
theorem Tm.set {w wr : World} {A R O x : Nat} {g : Nat → Nat} (h : Tm w wr A R O x g) (i v : Nat) (hi : i < 4) (hA : A ≠ O) (hR : R ≠ O) (hO : w.heap.size ≤ O) : Tm w (wr.setCell ⟨O, i, none⟩ (.int .u64 (v : Nat))) A R O x (upd g i v) :=
  ⟨h.below.setCell hO _, h.a.other _ _ hA, h.r.other _ _ hR, by rw [← cells4_set g i v hi]; exact h.o.set _⟩
theorem Tm.drew {w wr : World} {A R O x : Nat} {g : Nat → Nat} (h : Tm w wr A R O x g) : Tm w wr.drew A R O x g := ⟨h.below.drew, h.a, h.r, h.o⟩
set_option maxRecDepth 100000 in
set_option maxHeartbeats 1000000 in
theorem times (x b : Nat) (hx : x < Nm.big) (hb : b < 18446744073709551616) (w : World) :
    Calls Tryz.prog 147 #[.agg (numC x), .int .u64 (b : Int)] w fun e w' => e = .returned (.tuple #[.agg (numC (x * b % Nm.big)), .bool (decide (Nm.big ≤ x * b))]) ∧ Below w.heap.size w w' := by
  have HBB := Lib.hid hb
  have HX := Lib.hid hx
  clear hb hx
  go_enter Tryz.func147, Tryz.ntmps147
  go_upto_region 3 with fail
  generalize hw1 : World.alloc _ _ = w1
  have h0 : Tm w w1 w.heap.size (w.heap.size + 1) (w.heap.size + 1 + 1) x (fun _ => 0) := by
    rw [← hw1]; exact ⟨(((Below.refl _ _).alloc (Nat.le_refl _) _).alloc (by simp) _).alloc (by simp; omega) _, ((Has.new _ _).alloc _).alloc _, (Has.new1 _ (numC 0) _).alloc _, Has.new2 _ _ (cells4 fun _ => 0) _⟩
  clear hw1
  generalize hB : w.heap.size + 1 + 1 = O at *
  generalize hC : w.heap.size + 1 = R at *
  generalize hD : w.heap.size = A at *
  have HO : Hid (w.heap.size ≤ O) := Lib.hid (by omega)
  have HR : Hid (w.heap.size ≤ R) := Lib.hid (by omega)
  have H1 : Hid (A ≠ O) := Lib.hid (by omega)
  have H3 : Hid (R ≠ O) := Lib.hid (by omega)
  clear hB hC hD
  go_wp2_with (with_reducible refine num_load rfl _ rfl _ rfl _ h0.a rfl ?_)
  go_loopw [7, 15] (fun c i wr => ∃ (k : Nat) (g : Nat → Nat), k ≤ 4 ∧ i = .int .i64 k ∧ c = .int .u64 (Nm.over x b k : Nat) ∧ Tm w wr A R O x g ∧ Hid (∀ j, j < k → g j = Nm.wd (x * b) j)) (fun _ i _ => 4 - (intOf i).toNat)
  case atStart => exact ⟨0, fun _ => 0, by omega, rfl, by rw [Nm.over_zero]; rfl, h0, Lib.hid fun j hj => by omega⟩
  case round =>
    obtain ⟨k, g, hk, rfl, rfl, hs, HG⟩ := hrel
    by_cases hlt : k < 4
    · have hidx := idx_num x hlt
      have co := hs.o.word hlt
      have fo := hs.o.free k
      have hmul := fun w => mul64 (Nm.wd x k) b (Nm.wd_lt x k) HBB.out w
      obtain ⟨ec, hc⟩ := carry_in (Nm.wd x k) b (Nm.over x b k) (Nm.wd_lt x k) (over_ok x b k) HBB.out
      rw [← Nm.over_next] at ec hc
      obtain ⟨hi, hhi⟩ : ∃ hi, hi = Nm.wd x k * b / 18446744073709551616 := ⟨_, rfl⟩
      obtain ⟨lo, hlo⟩ : ∃ lo, lo = Nm.wd x k * b % 18446744073709551616 := ⟨_, rfl⟩
      have hadd : ∀ w, (callFunc 132 #[.int .u64 (lo : Int), .int .u64 (Nm.over x b k : Nat), .int .u64 0]).run Tryz.prog w = .ok (.value (.tuple #[.int .u64 (((lo + Nm.over x b k + 0) % 18446744073709551616 : Nat) : Int), .int .u64 (((lo + Nm.over x b k + 0) / 18446744073709551616 : Nat) : Int)])) w := fun w => add64 lo (Nm.over x b k) 0 (by omega) w
      have es : (lo + Nm.over x b k + 0) % 18446744073709551616 = Nm.wd (x * b) k := by
        rw [Nm.wd_mul, hlo]; omega
      obtain ⟨ov, hov⟩ : ∃ ov, ov = (lo + Nm.over x b k + 0) / 18446744073709551616 := ⟨_, rfl⟩
      rw [← hhi, ← hlo] at hmul ec
      have ec2 : hi + ov = Nm.over x b (k + 1) := by rw [hov]; exact ec
      have hw2 : IntKind.u64.wrap ((hi : Int) + (ov : Int)) = (Nm.over x b (k + 1) : Nat) := by
        rw [← ec2, IntKind.wrap_u64]; omega
      simp only [es, ← hov] at hadd
      generalize Nm.wd x k = v at *
      generalize Nm.over x b k = c at *
      have KMul := Lib.hid hmul
      have HW2 := Lib.hid hw2
      clear hmul hw2 ec ec2 es hov hhi hlo hc
      go_wp2_with fail
      refine (KMul.out _).mono ?_
      rintro e w' ⟨rfl, rfl⟩
      go_wp2_with fail
      rw [HW2.out]
      exact ⟨⟨k + 1, _, by omega, by go_num, rfl, hs.set k (Nm.wd (x * b) k) hlt H1.out H3.out HO.out, upd_next HG⟩, by simp [intOf]; omega⟩
    · obtain rfl : k = 4 := by omega
      have e := cells4_done HG
      have hr := hs.r
      have ho := hs.o
      have hbel := hs.below
      rw [e] at ho
      clear e hs
      go_wp2_with (first
        | (with_reducible refine num_load rfl _ rfl _ rfl _ ho rfl ?_)
        | (with_reducible refine num_store rfl _ _ rfl _ _ rfl rfl _ hr rfl ?_))
      refine bodyPost_ret (v := .tuple #[.agg (numC (x * b)), .bool (!decide ((Nm.over x b 4 : Int) = 0))]) (num_results2 Tryz.results147 _ _ _ _ rfl rfl (hr.row _)) rfl ⟨?_, below_setRow hbel HR.out _⟩
      rw [Nm.over_four HX.out, numC_mod]
      have hbg : 0 < Nm.big := by decide
      exact congrArg (fun q => Ending.returned (.tuple #[.agg (numC (x * b)), .bool q])) (by
        rw [← decide_not]; apply decide_eq_decide.2
        rw [show (¬ ((x * b / Nm.big : Nat) : Int) = 0) ↔ 0 < x * b / Nm.big by generalize x * b / Nm.big = q; omega, Nat.div_pos_iff]
        exact ⟨fun h => h.2, fun h => ⟨hbg, h⟩⟩)
end Go.Proofs.YthcebnfdapcllaaGreatDoor.NN
