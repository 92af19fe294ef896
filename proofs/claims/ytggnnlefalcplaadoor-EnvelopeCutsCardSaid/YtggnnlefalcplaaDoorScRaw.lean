/-
  scroll's Eye: Raw, number, Get, Wide.
-/
import Derived.Test.YtggnnlefalcplaaDoorScEye
import Derived.IntWalk
namespace Go.Proofs.YtggnnlefalcplaaDoor
open Go.RowKit Mem Sc
/-- what a call that reads an eye leaves -/
def ReadPost (b : Nat) (w : World) (v : Value) (e' : Ey) (r : Ending) (w' : World) : Prop := r = .returned v ∧ EyeAt w' b e' ∧ w.grownBy w' (some b)
set_option maxHeartbeats 400000 in
theorem raw_at (b : Nat) (e : Ey) (n : Int) (w : World) (h : EyeAt w b e) : Calls Tryd.prog 27 #[.pointer (some ⟨b, 0, none⟩), .int .i64 n] w fun r w' => ReadPost b w (.string (e.raw n).1) (e.raw n).2 r w' := by
  have C1 := Lib.hid (bad_at b e w h)
  have C2 := Lib.hid (blind_at b e w h)
  obtain ⟨s, bd⟩ := e
  cases bd
  · by_cases hn : n < 0
    · rw [raw_no rfl (.inl hn)]
      go_enter Tryd.func27, Tryd.ntmps27
      go_wp2_with fail
      refine C1.out.mono ?_
      rintro r w' ⟨rfl, rfl⟩
      go_wp2_with fail
      refine C2.out.mono ?_
      rintro r w' ⟨rfl, hE, hg⟩
      go_wp2_with fail
      go_ret
      exact ⟨rfl, hE, hg⟩
    · have c0 := h.c0
      have f0 := h.has.free 0
      obtain ⟨k, rfl⟩ := Int.eq_ofNat_of_zero_le (show 0 ≤ n by omega)
      have e1 : decide ((k : Int) < 0) = false := decide_eq_false hn
      by_cases hk : k ≤ s.size
      · rw [raw_yes rfl hk]
        have e2 : decide (s.size < k) = false := decide_eq_false (by omega)
        have hk' : (k : Int) ≤ (s.size : Int) := by omega
        have hE := EyeAt.set h (s.extract k s.size)
        clear hn
        go_enter Tryd.func27, Tryd.ntmps27
        go_wp2_with fail
        refine C1.out.mono ?_
        rintro r w' ⟨rfl, rfl⟩
        go_wp2_with fail
        go_ret
        exact ⟨rfl, hE, gb_setCell (gb_refl _ _) 0 _⟩
      · rw [raw_no rfl (.inr (by show (s.size : Int) < _; omega))]
        have e2 : decide (s.size < k) = true := decide_eq_true (by omega)
        clear hn hk
        go_enter Tryd.func27, Tryd.ntmps27
        go_wp2_with fail
        refine C1.out.mono ?_
        rintro r w' ⟨rfl, rfl⟩
        go_wp2_with fail
        refine C2.out.mono ?_
        rintro r w' ⟨rfl, hE, hg⟩
        go_wp2_with fail
        go_ret
        exact ⟨rfl, hE, hg⟩
  · rw [raw_bad rfl]
    go_enter Tryd.func27, Tryd.ntmps27
    go_wp2_with fail
    refine C1.out.mono ?_
    rintro r w' ⟨rfl, rfl⟩
    go_wp2_with fail
    go_ret
    exact ⟨rfl, h, gb_refl _ _⟩
set_option maxHeartbeats 400000 in
theorem raw_nil (n : Int) (w : World) : Calls Tryd.prog 27 #[.pointer none, .int .i64 n] w fun r w' => r = .returned (.string E0) ∧ w = w' := by
  go_enter Tryd.func27, Tryd.ntmps27
  go_wp2_with fail
  refine (bad_nil w).mono ?_
  rintro r w' ⟨rfl, rfl⟩
  go_wp2_with fail
  go_ret
  exact ⟨rfl, rfl⟩
/-! ### the number that bytes are -/
theorem or_next (a x i : Nat) (ha : a < 256 ^ i) : a ||| x * 256 ^ i = a + 256 ^ i * x := by
  have h : 256 ^ i = 2 ^ (8 * i) := by rw [Nat.pow_mul]
  rw [h] at ha ⊢
  have := Nat.two_pow_add_eq_or_of_lt ha x
  rw [Nat.or_comm, Nat.mul_comm x, ← this]; omega
theorem or_u64 (a c : Nat) (ha : a < 18446744073709551616) (hc : c < 18446744073709551616) : bits .or .u64 (a : Int) (c : Int) = ((a ||| c : Nat) : Int) := by
  have h : a ||| c < 2 ^ 64 := Nat.or_lt_two_pow ha hc
  show IntKind.u64.wrap ((BitVec.ofInt 64 (a : Int) ||| BitVec.ofInt 64 (c : Int)).toNat : Int) = _
  rw [BitVec.ofInt_natCast, BitVec.ofInt_natCast, BitVec.toNat_or, BitVec.toNat_ofNat, BitVec.toNat_ofNat, Nat.mod_eq_of_lt (by omega), Nat.mod_eq_of_lt (by omega), IntKind.wrap_u64]
  omega
theorem val_take_succ (l : List UInt8) (k : Nat) (hk : k < l.length) : val (l.take (k + 1)) = val (l.take k) + 256 ^ k * l[k].toNat := by
  rw [List.take_succ_eq_append_getElem hk, val_snoc, List.length_take, Nat.min_eq_left (by omega)]
theorem or_step (l : List UInt8) (k : Nat) (hl : k < l.length) (h8 : k < 8) (x : Nat) (hx : x = l[k].toNat) :
    bits .or .u64 (val (l.take k) : Nat) (IntKind.u64.wrap (IntKind.u64.wrap (x : Int) * 2 ^ (8 * k))) = ((val (l.take (k + 1)) : Nat) : Int) := by
  have hb := l[k].toNat_lt
  rw [← hx] at hb
  have hv := val_lt (l.take k)
  rw [List.length_take, Nat.min_eq_left (by omega)] at hv
  have h256 : 256 ^ k = 2 ^ (8 * k) := by rw [Nat.pow_mul]
  have hp : 256 ^ k ≤ 256 ^ 7 := Nat.pow_le_pow_right (by omega) (by omega)
  have hm : x * 256 ^ k < 18446744073709551616 := by
    have : x * 256 ^ k ≤ 255 * 256 ^ 7 := Nat.mul_le_mul (by omega) hp
    omega
  have e1 : IntKind.u64.wrap (x : Int) = (x : Int) := by rw [IntKind.wrap_u64]; omega
  have e2 : (x : Int) * 2 ^ (8 * k) = ((x * 256 ^ k : Nat) : Int) := by rw [h256]; simp
  have e3 : IntKind.u64.wrap ((x * 256 ^ k : Nat) : Int) = ((x * 256 ^ k : Nat) : Int) := by rw [IntKind.wrap_u64]; omega
  rw [e1, e2, e3, or_u64 _ _ (by omega) hm, or_next _ _ _ hv, val_take_succ l k hl, hx]
set_option maxHeartbeats 400000 in
theorem number_at (s : ByteArray) (hs : s.size ≤ 8) (w : World) : Calls Tryd.prog 41 #[.string s] w fun r w' => r = .returned (.int .u64 (val s.data.toList : Int)) ∧ w = w' := by
  go_enter Tryd.func41, Tryd.ntmps41
  go_wp2_with fail
  go_loop [3, 7] (fun o i => ∃ k : Nat, k ≤ s.size ∧ i = .int .i64 k ∧ o = .int .u64 (val (s.data.toList.take k) : Nat)) (fun _ i => s.size - (intOf i).toNat)
  case atStart => exact ⟨0, Nat.zero_le _, rfl, rfl⟩
  case round =>
    obtain ⟨k, hk, rfl, rfl⟩ := hrel
    by_cases hlt : k < s.size
    · have hl : k < s.data.toList.length := by rw [← Lib.size_eq]; exact hlt
      go_wp2_with fail
      exact ⟨⟨k + 1, hlt, by go_num, congrArg (Value.int .u64) (or_step s.data.toList k hl (by omega) _ rfl)⟩, by simp [intOf]; omega⟩
    · obtain rfl : k = s.size := by omega
      go_wp2_with fail
      go_ret
      exact ⟨congrArg (fun l => Ending.returned (.int .u64 (val l : Int))) (List.take_of_length_le (by rw [← Lib.size_eq]; omega)), rfl⟩
/-! ### numbers that are read -/
set_option maxHeartbeats 400000 in
theorem get_at (b : Nat) (e : Ey) (n : Int) (w : World) (h : EyeAt w b e) : Calls Tryd.prog 24 #[.pointer (some ⟨b, 0, none⟩), .int .i64 n] w fun r w' => ReadPost b w (.int .i64 ((e.get n).1 : Nat)) (e.get n).2 r w' := by
  have hlt := get_lt e n
  have hsz := raw_size e (near n 7)
  have hn7 := (near_le n 7 (by omega)).2
  have C1 := Lib.hid (near_at n 7 (by omega) w)
  have C2 := Lib.hid (raw_at b e (near n 7 : Nat) w h)
  have C3 := Lib.hid (number_at (e.raw (near n 7 : Nat)).1 (by omega))
  unfold Ey.get at *
  clear hsz hn7 h
  generalize near n 7 = m at *
  generalize e.raw (m : Nat) = q at *
  obtain ⟨s, e'⟩ := q
  simp only at *
  generalize val s.data.toList = v at *
  go_enter Tryd.func24, Tryd.ntmps24
  go_wp2_with fail
  refine C1.out.mono ?_
  rintro r w' ⟨rfl, rfl⟩
  go_wp2_with fail
  refine C2.out.mono ?_
  rintro r w2 ⟨rfl, hE, hg⟩
  go_wp2_with fail
  refine (C3.out _).mono ?_
  rintro r w3 ⟨rfl, rfl⟩
  go_wp2_with fail
  go_ret
  exact ⟨rfl, hE, hg⟩
set_option maxHeartbeats 400000 in
theorem get_nil (n : Int) (w : World) : Calls Tryd.prog 24 #[.pointer none, .int .i64 n] w fun r w' => r = .returned (.int .i64 0) ∧ w = w' := by
  have C1 := Lib.hid (near_at n 7 (by omega) w)
  have C3 := Lib.hid (number_at E0 (by decide) w)
  generalize near n 7 = m at *
  go_enter Tryd.func24, Tryd.ntmps24
  go_wp2_with fail
  refine C1.out.mono ?_
  rintro r w' ⟨rfl, rfl⟩
  go_wp2_with fail
  refine (raw_nil _ _).mono ?_
  rintro r w' ⟨rfl, rfl⟩
  go_wp2_with fail
  refine C3.out.mono ?_
  rintro r w' ⟨rfl, rfl⟩
  rw [val_E0]
  go_wp2_with fail
  go_ret
  exact ⟨rfl, rfl⟩
end Go.Proofs.YtggnnlefalcplaaDoor
