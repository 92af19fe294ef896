/-
  Texts of this seat, one behind the other.
-/
import Derived.Test.YtcgnohndfedodaaDoorBunQ21
import Derived.Test.YtcgnohndfedodaaDoorZWTimes
import Derived.Test.YtcgnohndfedodaaDoorBunQ20
import Derived.Test.YtcgnohndfedodaaDoorBunQ25
namespace Go.Proofs.YtcgnohndfedodaaDoor.NN
open Go.RowKit
theorem wrap_nat (z : Int) : ∃ n : Nat, IntKind.u64.wrap z = (n : Nat) := ⟨(z % 18446744073709551616).toNat, by rw [IntKind.wrap_u64]; omega⟩
theorem wrap_same {n : Nat} (h : n < 18446744073709551616) : IntKind.u64.wrap (n : Int) = (n : Nat) := by rw [IntKind.wrap_u64]; omega
theorem maskD (a : Nat) (ha : a < 18446744073709551616) : bits .and .u64 (a : Int) 4294967295 = ((a % 4294967296 : Nat) : Int) := by
  have h := bits_and_u64_nat a 4294967295 ha (by omega)
  have e : a &&& 4294967295 = a % 4294967296 := Nat.and_two_pow_sub_one_eq_mod a 32
  rw [e] at h
  exact h
theorem shifted (hi lo s : Nat) (hs : s < 64) : (hi * 18446744073709551616 + lo) * 2 ^ s = (hi * 2 ^ s + lo / 2 ^ (64 - s)) * 18446744073709551616 + lo * 2 ^ s % 18446744073709551616 := by
  have e : (18446744073709551616 : Nat) = 2 ^ (64 - s) * 2 ^ s := by rw [← Nat.pow_add, show 64 - s + s = 64 by omega]
  have h : lo * 2 ^ s / 18446744073709551616 = lo / 2 ^ (64 - s) := by rw [e, Nat.mul_div_mul_right _ _ (Nat.pow_pos (by decide))]
  have h2 := Nat.div_add_mod' (lo * 2 ^ s) 18446744073709551616
  rw [h] at h2
  have e1 : hi * 18446744073709551616 * 2 ^ s = hi * 2 ^ s * 18446744073709551616 := Nat.mul_right_comm _ _ _
  rw [Nat.add_mul, Nat.add_mul, e1, Nat.add_assoc, h2]
theorem or_hi (hi lo s : Nat) (hs : s < 64) (hl : lo < 18446744073709551616) : hi * 2 ^ s ||| lo / 2 ^ (64 - s) = hi * 2 ^ s + lo / 2 ^ (64 - s) := by
  have h : lo / 2 ^ (64 - s) < 2 ^ s := by
    refine (Nat.div_lt_iff_lt_mul (Nat.pow_pos (by decide))).2 ?_
    rw [← Nat.pow_add, show s + (64 - s) = 64 by omega]; exact hl
  rw [Nat.mul_comm, Nat.two_pow_add_eq_or_of_lt h]
theorem start_facts {u d y1 y0 : Nat} (k : Nm.KY u d y1 y0) : ∃ q r m : Nat, IntKind.u64.wrap ((u : Int) / (y1 : Int)) = (q : Nat) ∧ IntKind.u64.wrap ((q : Int) * (y1 : Int)) = (m : Nat) ∧ IntKind.u64.wrap ((u : Int) - (m : Int)) = (r : Nat) ∧ Nm.KI u d y1 y0 q r ∧ r < 4294967296 := by
  have h1 := k.h1
  have h2 := k.h2
  have h0 := k.h0
  have hu := k.hu
  have hm := Nat.div_add_mod' u y1
  have hl := Nat.mod_lt u (show 0 < y1 by omega)
  refine ⟨u / y1, u % y1, u / y1 * y1, ?_, ?_, ?_, k.start, by omega⟩
  · rw [← Int.natCast_ediv]; exact wrap_same (Nat.lt_of_le_of_lt (Nat.div_le_self _ _) (by omega))
  · rw [← Int.natCast_mul]; exact wrap_same (by omega)
  · rw [IntKind.wrap_u64]; omega
theorem test_facts {q r y0 d : Nat} (hq : q < 4294967296) (hr : r < 4294967296) (hy : y0 < 4294967296) (hd : d < 4294967296) : ∃ P R S : Nat, IntKind.u64.wrap ((q : Int) * (y0 : Int)) = (P : Nat) ∧ IntKind.u64.wrap ((4294967296 : Int) * (r : Int)) = (R : Nat) ∧ IntKind.u64.wrap ((R : Int) + (d : Int)) = (S : Nat) ∧ P = q * y0 ∧ S = 4294967296 * r + d := by
  refine ⟨q * y0, 4294967296 * r, 4294967296 * r + d, ?_, ?_, ?_, rfl, rfl⟩
  · rw [← Int.natCast_mul]; exact wrap_same (by have := Nat.mul_le_mul (show q ≤ 4294967295 by omega) (show y0 ≤ 4294967295 by omega); omega)
  · rw [IntKind.wrap_u64]; omega
  · rw [IntKind.wrap_u64]; omega
theorem next_facts {q r y1 : Nat} (hq : 0 < q) (hq2 : q ≤ 4294967297) (hr : r < 4294967296) (hy : y1 < 4294967296) : ∃ p t : Nat, IntKind.u64.wrap ((q : Int) - 1) = (p : Nat) ∧ IntKind.u64.wrap ((r : Int) + (y1 : Int)) = (t : Nat) ∧ p = q - 1 ∧ t = r + y1 := by
  refine ⟨q - 1, r + y1, ?_, ?_, rfl, rfl⟩
  · rw [IntKind.wrap_u64]; omega
  · rw [IntKind.wrap_u64]; omega
theorem left_facts {u d Y q : Nat} (hy : 0 < Y) (hy2 : Y < 18446744073709551616) (hq : q = (u * 4294967296 + d) / Y) : ∃ m1 m2 m3 v : Nat, IntKind.u64.wrap ((u : Int) * 4294967296) = (m1 : Nat) ∧ IntKind.u64.wrap ((m1 : Int) + (d : Int)) = (m2 : Nat) ∧ IntKind.u64.wrap ((q : Int) * (Y : Int)) = (m3 : Nat) ∧ IntKind.u64.wrap ((m2 : Int) - (m3 : Int)) = (v : Nat) ∧ v = (u * 4294967296 + d) % Y := by
  obtain ⟨m1, e1⟩ := wrap_nat ((u : Int) * 4294967296)
  obtain ⟨m2, e2⟩ := wrap_nat ((m1 : Int) + (d : Int))
  obtain ⟨m3, e3⟩ := wrap_nat ((q : Int) * (Y : Int))
  have e4 := Nm.digit_left hy hy2 hq
  rw [e1, e2, e3] at e4
  exact ⟨m1, m2, m3, _, e1, e2, e3, e4, rfl⟩
theorem quo_facts {q p quo : Nat} (h : quo = q * 4294967296 + p) (hl : quo < 18446744073709551616) : ∃ m : Nat, IntKind.u64.wrap ((q : Int) * 4294967296) = (m : Nat) ∧ IntKind.u64.wrap ((m : Int) + (p : Int)) = (quo : Nat) := by
  refine ⟨q * 4294967296, ?_, ?_⟩
  · rw [IntKind.wrap_u64]; omega
  · rw [IntKind.wrap_u64]; omega
theorem final {u d1 d0 Y v q p quo rem s : Nat} (hv : v = (u * 4294967296 + d1) % Y) (hq : q = (u * 4294967296 + d1) / Y) (hp : p = (v * 4294967296 + d0) / Y) (hd : quo = (u * 18446744073709551616 + d1 * 4294967296 + d0) / Y ∧ rem = (u * 18446744073709551616 + d1 * 4294967296 + d0) % Y / 2 ^ s) (hY : 0 < Y) :
    quo = q * 4294967296 + p ∧ rem = (v * 4294967296 + d0) % Y / 2 ^ s := by
  obtain ⟨t1, t2⟩ := Nm.two_digits (u := u) (d1 := d1) (d0 := d0) hY
  rw [hd.1, hd.2, t1, t2, hq, hp, hv]
  exact ⟨rfl, rfl⟩
end Go.Proofs.YtcgnohndfedodaaDoor.NN
namespace Go.Proofs.YtcgnohndfedodaaDoor.NN
open Go.RowKit
/-- one word of a quotient, and what is left for the next -/
theorem Nm.over_step {x b : Nat} (k : Nat) (hb : 0 < b) :
    Nm.wd (x / b) k = (x / 2 ^ (64 * (k + 1)) % b * 18446744073709551616 + Nm.wd x k) / b ∧ x / 2 ^ (64 * k) % b = (x / 2 ^ (64 * (k + 1)) % b * 18446744073709551616 + Nm.wd x k) % b := by
  have e1 : x / 2 ^ (64 * (k + 1)) = x / 2 ^ (64 * k) / 18446744073709551616 := by rw [Nat.div_div_eq_div_mul, show (18446744073709551616 : Nat) = 2 ^ 64 from rfl, ← Nat.pow_add, Nat.mul_add]
  have e2 : x / b / 2 ^ (64 * k) = x / 2 ^ (64 * k) / b := by rw [Nat.div_div_eq_div_mul, Nat.div_div_eq_div_mul, Nat.mul_comm]
  unfold Nm.wd
  rw [e1, e2]
  generalize x / 2 ^ (64 * k) = n
  have hM := Nat.div_add_mod n 18446744073709551616
  have hd := Nat.mod_lt n (show 18446744073709551616 > 0 by decide)
  generalize n / 18446744073709551616 = M at *
  generalize n % 18446744073709551616 = d at *
  have hr := Nat.mod_lt M hb
  have hQ := Nat.div_add_mod M b
  have e : n = b * (M / b * 18446744073709551616) + (M % b * 18446744073709551616 + d) := by
    rw [← Nat.mul_assoc]
    generalize b * (M / b) = z at *
    omega
  have hs : (M % b * 18446744073709551616 + d) / b < 18446744073709551616 := (Nat.div_lt_iff_lt_mul hb).2 (by omega)
  rw [e, Nat.mul_add_div hb, Nat.mul_add_mod]
  refine ⟨?_, rfl⟩
  rw [Nat.add_comm, Nat.add_mul_mod_self_right, Nat.mod_eq_of_lt hs]
theorem Tm.on {w wr w' : World} {A R O x : Nat} {g : Nat → Nat} (h : Tm w wr A R O x g) (hb : Below wr.heap.size wr w') : Tm w w' A R O x g := ⟨h.below.trans (hb.mono h.below.size), h.a.on hb, h.r.on hb, h.o.on hb⟩
/-- the words from k on are the quotient's -/
def FromHigh (z k : Nat) (g : Nat → Nat) : Prop := ∀ j, k ≤ j → j < 4 → g j = Nm.wd z j
theorem FromHigh.next {z k : Nat} {g : Nat → Nat} (h : FromHigh z (k + 1) g) : FromHigh z k (upd g k (Nm.wd z k)) := fun j h1 h2 => by
  unfold upd
  split
  · rename_i e; rw [e]
  · rename_i e; exact h j (by omega) h2
end Go.Proofs.YtcgnohndfedodaaDoor.NN
namespace Go.Proofs.YtcgnohndfedodaaDoor.NN
open Go.RowKit

theorem of_one (w : World) : Calls Tryd.prog 46 #[.int .u64 1] w fun e w' => e = .returned (.agg (numC 1)) ∧ Below w.heap.size w w' := of 1 (by decide) w
theorem add_alive (w : World) : Calls Tryd.prog 48 #[.agg (numC (Nm.big - 1)), .agg (numC 1)] w fun e w' => e = .returned (.tuple #[.agg (numC 0), .bool true]) ∧ Below w.heap.size w w' :=
  (add (Nm.big - 1) 1 (by decide) (by decide) w).mono fun _ _ ⟨he, hb⟩ => ⟨by rw [he, show (Nm.big - 1 + 1) % Nm.big = 0 by decide, show decide (Nm.big ≤ Nm.big - 1 + 1) = true by decide], hb⟩
theorem len_most (w : World) : Calls Tryd.prog 61 #[.agg (numC (Nm.big - 1))] w fun e w' => e = .returned (.int .i64 256) ∧ Below w.heap.size w w' :=
  (len (Nm.big - 1) (by decide) w).mono fun _ _ ⟨he, hb⟩ => ⟨by
    rw [he, ← Nm.len_of (x := Nm.big - 1) (n := 256) ⟨by decide, fun _ => by decide⟩]; rfl, hb⟩
end Go.Proofs.YtcgnohndfedodaaDoor.NN
