/-
  pace: plain mathematics: targets in short of any number; a number by a small one, divided by another one; what is set anew.
-/
import Derived.Test.YtmemppkkchfphaaLawCpTgt
namespace Go.Proofs.Ytmemppkkchfphaa
open Go.RowKit
def dN (b : Int) : Nat := if 0 ≤ b ∧ b ≤ 4294967295 then Nm.decN b.toNat else 0
def dLow (b : Int) : Bool := if 0 ≤ b ∧ b ≤ 4294967295 then Nm.decLow b.toNat else false
def dOver (b : Int) : Bool := if 0 ≤ b ∧ b ≤ 4294967295 then Nm.decOver b.toNat else false
theorem dN_lt (b : Int) : dN b < Nm.big := by
  unfold dN
  split
  · exact Nm.mv_lt (by unfold Nm.big; omega) _
  · decide
/-- is a number in short a target by a limit in short? -/
def tok (b c : Int) : Bool := tgt (dN b) (dN c) (dLow b) (dOver b) (dLow c) (dOver c)
/-- .. which one (0, if it is none) -/
def tg (b c : Int) : Nat := if tok b c then dN b else 0
theorem tok_iff {b c : Int} : tok b c = true ↔ dLow b = false ∧ dOver b = false ∧ dLow c = false ∧ dOver c = false ∧ dN b ≠ 0 ∧ dN b ≤ dN c := by
  unfold tok tgt
  simp only [Bool.and_eq_true, Bool.not_eq_true', decide_eq_false_iff_not]
  constructor
  · rintro ⟨⟨⟨⟨⟨h1, h2⟩, h3⟩, h4⟩, h5⟩, h6⟩
    exact ⟨h1, h2, h3, h4, h5, by omega⟩
  · rintro ⟨h1, h2, h3, h4, h5, h6⟩
    exact ⟨⟨⟨⟨⟨h1, h2⟩, h3⟩, h4⟩, h5⟩, by omega⟩
theorem tok_self {b c : Int} (h : tok b c = true) : tok b b = true := by
  rw [tok_iff] at h ⊢; exact ⟨h.1, h.2.1, h.1, h.2.1, h.2.2.2.2.1, Nat.le_refl _⟩
theorem tok_lim {b c : Int} (h : tok b c = true) : tok c c = true := by
  rw [tok_iff] at h ⊢; exact ⟨h.2.2.1, h.2.2.2.1, h.2.2.1, h.2.2.2.1, by omega, Nat.le_refl _⟩
theorem tg_yes {b c : Int} (h : tok b c = true) : tg b c = dN b := by unfold tg; rw [if_pos h]
theorem tg_lt (b c : Int) : tg b c < Nm.big := by
  unfold tg
  split
  · exact dN_lt b
  · decide
theorem dN_enc {x : Nat} (hx : x < Nm.big) : dN (Nm.enc x : Nat) = Nm.rd x := by
  have := Nm.enc_lt hx
  unfold dN
  rw [if_pos (by omega), Int.toNat_natCast, Nm.dec_enc hx]
theorem dLow_enc {x : Nat} (hx : x < Nm.big) : dLow (Nm.enc x : Nat) = false := by
  have := Nm.enc_lt hx
  unfold dLow
  rw [if_pos (by omega), Int.toNat_natCast, Nm.enc_low]
theorem dOver_enc {x : Nat} (hx : x < Nm.big) : dOver (Nm.enc x : Nat) = false := by
  have := Nm.enc_lt hx
  unfold dOver
  rw [if_pos (by omega), Int.toNat_natCast, Nm.enc_over hx]
theorem tok_enc {x : Nat} {c : Int} (hx : x < Nm.big) (h0 : x ≠ 0) (hc : tok c c = true) (hle : x ≤ dN c) : tok (Nm.enc x : Nat) c = true := by
  have h := tok_iff.1 hc
  rw [tok_iff, dN_enc hx, dLow_enc hx, dOver_enc hx]
  exact ⟨rfl, rfl, h.1, h.2.1, Nm.rd_ne h0, Nat.le_trans (Nm.rd_le x) hle⟩
theorem dec_at (b : Int) (w : World) : Calls Try.prog 33 #[.int .i64 b] w fun e w' => e = .returned (.tuple #[.agg (numC (dN b)), .bool (dLow b), .bool (dOver b)]) ∧ Below w.heap.size w w' := by
  unfold dN dLow dOver
  by_cases h : 0 ≤ b ∧ b ≤ 4294967295
  · rw [if_pos h, if_pos h, if_pos h]
    obtain ⟨n, rfl⟩ := Int.eq_ofNat_of_zero_le h.1
    rw [Int.toNat_natCast]
    exact decode_yes n (by omega) w
  · rw [if_neg h, if_neg h, if_neg h]
    exact decode_no b h w
theorem rdec_at (b : Int) (w : World) : Calls Try.prog 18 #[.int .i64 b] w fun e w' => e = .returned (.tuple #[.agg (numC (dN b)), .bool (dLow b), .bool (dOver b)]) ∧ Below w.heap.size w w' := by
  unfold dN dLow dOver
  by_cases h : 0 ≤ b ∧ b ≤ 4294967295
  · rw [if_pos h, if_pos h, if_pos h]
    obtain ⟨n, rfl⟩ := Int.eq_ofNat_of_zero_le h.1
    rw [Int.toNat_natCast]
    exact ref_decode_yes n (by omega) w
  · rw [if_neg h, if_neg h, if_neg h]
    exact ref_decode_no b h w
/-- compact.Target -/
theorem tgt_at (b c : Int) (w : World) : Calls Try.prog 19 #[.int .i64 b, .int .i64 c] w fun e w' => e = .returned (.tuple #[.agg (numC (tg b c)), .bool (tok b c)]) ∧ Below w.heap.size w w' :=
  target_any b c (dN b) (dN c) (dLow b) (dOver b) (dLow c) (dOver c) (dN_lt b) (dN_lt c) (Lib.hid (dec_at b)) (Lib.hid (dec_at c)) w
/-- the reference's Target -/
theorem rtgt_at (b c : Int) (w : World) : Calls Try.prog 10 #[.int .i64 b, .int .i64 c] w fun e w' => e = .returned (.tuple #[.agg (numC (tg b c)), .bool (tok b c)]) ∧ Below w.heap.size w w' :=
  rtarget_any b c (dN b) (dN c) (dLow b) (dOver b) (dLow c) (dOver c) (dN_lt b) (dN_lt c) (Lib.hid (rdec_at b)) (Lib.hid (rdec_at c)) w
/-! ### a number by a small one, divided by another one -/
theorem parts_quo (n a o : Nat) (h : 0 < o) : n * a / o = n / o * a + n % o * a / o := by
  have e : n * a = o * (n / o * a) + n % o * a := by
    have := Nat.div_add_mod n o
    calc n * a = (o * (n / o) + n % o) * a := by rw [this]
      _ = o * (n / o * a) + n % o * a := by rw [Nat.add_mul, Nat.mul_assoc]
  rw [e, Nat.mul_add_div h]
theorem parts_mod (q m : Nat) : (q % Nm.big + m) % Nm.big = (q + m) % Nm.big := Nat.mod_add_mod _ _ _
theorem parts_over (q m : Nat) : (decide (Nm.big ≤ q) || decide (Nm.big ≤ q % Nm.big + m)) = decide (Nm.big ≤ q + m) := by
  by_cases h : Nm.big ≤ q
  · rw [decide_eq_true h, decide_eq_true (by omega : Nm.big ≤ q + m)]; rfl
  · rw [decide_eq_false h, Nat.mod_eq_of_lt (by omega)]; rfl
/-- how long a period counts, that should take s -/
def tk (s : Nat) (d : Int) : Nat := (min (max d ((s / 4 : Nat) : Int)) ((s * 4 : Nat) : Int)).toNat
theorem tk_le (s : Nat) (d : Int) : tk s d ≤ s * 4 := by unfold tk; omega
theorem tk_ge (s : Nat) (d : Int) : s / 4 ≤ tk s d := by unfold tk; omega
theorem tk_int (s : Nat) (d : Int) : (tk s d : Int) = min (max d ((s / 4 : Nat) : Int)) ((s * 4 : Nat) : Int) := by unfold tk; omega
theorem tk_mono {s : Nat} {d e : Int} (h : d ≤ e) : tk s d ≤ tk s e := by unfold tk; omega
theorem tk_same (s : Nat) : tk s (s : Int) = s := by unfold tk; omega
theorem tk_long {s : Nat} {d : Int} (h : ((s * 4 : Nat) : Int) ≤ d) : tk s d = s * 4 := by unfold tk; omega
/-- the target set anew, ahead of the limit -/
def anew (t s : Nat) (d : Int) : Nat := t * tk s d / s
theorem anew_mono {t s : Nat} {d e : Int} (h : d ≤ e) : anew t s d ≤ anew t s e := Nat.div_le_div_right (Nat.mul_le_mul_left _ (tk_mono h))
theorem anew_le {t s : Nat} (d : Int) : anew t s d ≤ 4 * t := by
  unfold anew
  refine Nat.div_le_of_le_mul ?_
  have := Nat.mul_le_mul_left t (tk_le s d)
  calc t * tk s d ≤ t * (s * 4) := this
    _ = s * (4 * t) := by rw [Nat.mul_comm 4 t, ← Nat.mul_assoc, ← Nat.mul_assoc, Nat.mul_comm t s]
theorem anew_same {t s : Nat} (hs : 0 < s) : anew t s (s : Int) = t := by unfold anew; rw [tk_same, Nat.mul_div_cancel _ hs]
theorem anew_long {t s : Nat} (hs : 0 < s) {d : Int} (h : ((s * 4 : Nat) : Int) ≤ d) : anew t s d = 4 * t := by
  unfold anew
  rw [tk_long h, Nat.mul_comm s 4, ← Nat.mul_assoc, Nat.mul_div_cancel _ hs, Nat.mul_comm]
end Go.Proofs.Ytmemppkkchfphaa
