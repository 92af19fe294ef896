/-
  Texts of this seat, one behind the other.
-/
import Derived.Test.YteblphnpealefaaZScEye
import Derived.IntWalk
/-
  scroll's Eye: Raw, number, Get, Wide.
-/
namespace Go.Proofs.Yteblphnpealefaa
open Go.RowKit Mem Sc
/-! ### the number that bytes are -/
theorem or_next (a x i : Nat) (ha : a < 256 ^ i) : a ||| x * 256 ^ i = a + 256 ^ i * x := by
  have h : 256 ^ i = 2 ^ (8 * i) := by rw [Nat.pow_mul]
  rw [h] at ha ⊢
  have := Nat.two_pow_add_eq_or_of_lt ha x
  rw [Nat.or_comm, Nat.mul_comm x, ← this]; omega
theorem or_u64 (a c : Nat) (ha : a < 18446744073709551616) (hc : c < 18446744073709551616) : bits .or .u64 (a : Int) (c : Int) = ((a ||| c : Nat) : Int) := by
  have h : a ||| c < 2 ^ 64 := Nat.or_lt_two_pow ha hc
  show IntKind.u64.wrap ((BitVec.ofInt 64 (a : Int) ||| BitVec.ofInt 64 (c : Int)).toNat : Int) = _
  rw [BitVec.ofInt_natCast, BitVec.ofInt_natCast, BitVec.toNat_or, BitVec.toNat_ofNat, BitVec.toNat_ofNat, Nat.mod_eq_of_lt (by omega), Nat.mod_eq_of_lt (by omega), IntKind.wrap_u64]
  omega
theorem val_take_succ (l : List UInt8) (k : Nat) (hk : k < l.length) : val (l.take (k + 1)) = val (l.take k) + 256 ^ k * l[k].toNat := by
  rw [List.take_succ_eq_append_getElem hk, val_snoc, List.length_take, Nat.min_eq_left (by omega)]
theorem or_step (l : List UInt8) (k : Nat) (hl : k < l.length) (h8 : k < 8) (x : Nat) (hx : x = l[k].toNat) :
    bits .or .u64 (val (l.take k) : Nat) (IntKind.u64.wrap (IntKind.u64.wrap (x : Int) * 2 ^ (8 * k))) = ((val (l.take (k + 1)) : Nat) : Int) := by
  have hb := l[k].toNat_lt
  rw [← hx] at hb
  have hv := val_lt (l.take k)
  rw [List.length_take, Nat.min_eq_left (by omega)] at hv
  have h256 : 256 ^ k = 2 ^ (8 * k) := by rw [Nat.pow_mul]
  have hp : 256 ^ k ≤ 256 ^ 7 := Nat.pow_le_pow_right (by omega) (by omega)
  have hm : x * 256 ^ k < 18446744073709551616 := by
    have : x * 256 ^ k ≤ 255 * 256 ^ 7 := Nat.mul_le_mul (by omega) hp
    omega
  have e1 : IntKind.u64.wrap (x : Int) = (x : Int) := by rw [IntKind.wrap_u64]; omega
  have e2 : (x : Int) * 2 ^ (8 * k) = ((x * 256 ^ k : Nat) : Int) := by rw [h256]; simp
  have e3 : IntKind.u64.wrap ((x * 256 ^ k : Nat) : Int) = ((x * 256 ^ k : Nat) : Int) := by rw [IntKind.wrap_u64]; omega
  rw [e1, e2, e3, or_u64 _ _ (by omega) hm, or_next _ _ _ hv, val_take_succ l k hl, hx]
/-! ### numbers that are read -/
end Go.Proofs.Yteblphnpealefaa
/-
  scroll's Eye: Count.
-/
namespace Go.Proofs.Yteblphnpealefaa
open Go.RowKit Mem Sc
/-- as the program counts: the number, the least one that may stand there, the eye -/
def Sc.Ey.body (e : Ey) : Nat × Nat × Ey :=
  if (e.get 1).1 = 253 then (((e.get 1).2.get 2).1, 253, ((e.get 1).2.get 2).2) else
  if (e.get 1).1 = 254 then (((e.get 1).2.get 4).1, 65536, ((e.get 1).2.get 4).2) else
  if (e.get 1).1 = 255 then ((e.get 1).2.wide.1, 4294967296, (e.get 1).2.wide.2) else ((e.get 1).1, 0, (e.get 1).2)
def Sc.Ey.count' (e : Ey) (most : Int) : Nat × Ey := if e.body.1 < e.body.2.1 ∨ most < (e.body.1 : Int) then (0, dark) else (e.body.1, e.body.2.2)
theorem ba_ext {a b : ByteArray} (h : a.data.toList = b.data.toList) : a = b := by
  apply ByteArray.ext
  exact Array.toList_inj.1 h
theorem body_bad {e : Ey} (h : e.bad = true) : e.body = (0, 0, e) := by
  have h1 : e.get 1 = (0, e) := by unfold Ey.get; rw [raw_bad h]; rfl
  simp [Ey.body, h1]
theorem body_none {e : Ey} (h : e.bad = false) (hs : e.s.size = 0) : e.body = (0, 0, dark) := by
  have h1 : e.get 1 = (0, dark) := by
    unfold Ey.get
    rw [show ((near 1 7 : Nat) : Int) = 1 from rfl, raw_no h (.inr (by omega))]; rfl
  simp [Ey.body, h1]
theorem get1_some {s : ByteArray} {b : UInt8} {r : List UInt8} (hs : s.data.toList = b :: r) : Ey.get ⟨s, false⟩ 1 = (b.toNat, ⟨s.extract 1 s.size, false⟩) := by
  have hsz : s.size = r.length + 1 := by rw [Lib.size_eq, hs, List.length_cons]
  unfold Ey.get
  rw [show ((near 1 7 : Nat) : Int) = ((1 : Nat) : Int) from rfl, raw_yes rfl (by show 1 ≤ s.size; omega)]
  show (val (s.extract 0 1).data.toList, _) = _
  rw [Lib.extract_data, hs]
  simp [val]
theorem rest1 {s : ByteArray} {b : UInt8} {r : List UInt8} (hs : s.data.toList = b :: r) : (s.extract 1 s.size).data.toList = r := by
  rw [Lib.extract_to_end, hs]; rfl
theorem rest_more {s t : ByteArray} {r : List UInt8} {b : UInt8} (k : Nat) (hs : s.data.toList = b :: r) (ht : t.data.toList = r) : t.extract k t.size = s.extract (1 + k) s.size := by
  apply ba_ext
  rw [Lib.extract_to_end, Lib.extract_to_end, hs, ht, Nat.add_comm 1 k]; rfl
theorem get_rest {t : ByteArray} {r : List UInt8} (ht : t.data.toList = r) (k : Nat) (h1 : 1 ≤ k) (h7 : k ≤ 7) :
    Ey.get ⟨t, false⟩ k = if r.length < k then (0, dark) else (val (r.take k), ⟨t.extract k t.size, false⟩) := by
  have hsz : t.size = r.length := by rw [Lib.size_eq, ht]
  have hn : near k 7 = k := by rw [near_self _ _ (by omega) (by omega)]; rfl
  unfold Ey.get
  rw [hn]
  by_cases h : r.length < k
  · rw [if_pos h, raw_no rfl (.inr (by show (t.size : Int) < _; omega))]; rfl
  · rw [if_neg h, raw_yes rfl (by show k ≤ t.size; omega)]
    show (val (t.extract 0 k).data.toList, _) = _
    rw [Lib.extract_data, ht]; rfl
theorem wide_rest {t : ByteArray} {r : List UInt8} (ht : t.data.toList = r) :
    Ey.wide ⟨t, false⟩ = if r.length < 8 then (0, dark) else if 9223372036854775808 ≤ val (r.take 8) then (0, dark) else (val (r.take 8), ⟨t.extract 8 t.size, false⟩) := by
  have hsz : t.size = r.length := by rw [Lib.size_eq, ht]
  unfold Ey.wide
  by_cases h : r.length < 8
  · rw [if_pos h, raw_no rfl (.inr (by show (t.size : Int) < _; omega))]; rfl
  · have e8 : Ey.raw ⟨t, false⟩ 8 = (t.extract 0 8, ⟨t.extract 8 t.size, false⟩) := raw_yes (n := 8) rfl (by show 8 ≤ t.size; omega)
    have e9 : val (t.extract 0 8).data.toList = val (r.take 8) := by rw [Lib.extract_data, ht]; rfl
    rw [if_neg h, e8]
    simp only [e9]
theorem toNat_253 : (253 : UInt8).toNat = 253 := rfl
theorem toNat_254 : (254 : UInt8).toNat = 254 := rfl
theorem toNat_255 : (255 : UInt8).toNat = 255 := rfl
theorem count_eq (e : Ey) (hok : e.ok) (most : Int) : e.count' most = e.count most := by
  obtain ⟨s, bd⟩ := e
  cases bd
  · unfold Ey.count
    rw [if_neg (by simp)]
    show _ = behind s (counted s.data.toList most)
    cases hs : s.data.toList with
    | nil =>
      unfold Ey.count'
      rw [body_none rfl (by show s.size = 0; rw [Lib.size_eq, hs]; rfl)]
      show (if _ then _ else (0, dark)) = (0, dark)
      split <;> rfl
    | cons b r =>
      have ht := rest1 hs
      have g1 := get1_some hs
      have hm := fun k => rest_more k hs ht
      generalize s.extract 1 s.size = t at *
      rcases byte_cases b with hb | rfl | rfl | rfl
      · have hbody : Ey.body ⟨s, false⟩ = (b.toNat, 0, ⟨t, false⟩) := by
          unfold Ey.body
          rw [g1, if_neg (by show b.toNat ≠ _; omega), if_neg (by show b.toNat ≠ _; omega), if_neg (by show b.toNat ≠ _; omega)]
        unfold Ey.count'
        rw [hbody]
        have ht1 : t = s.extract (1 + 0) s.size := by
          rw [← hm 0]
          apply ba_ext
          rw [Lib.extract_to_end]; rfl
        have h0 := szOf_other hb
        have e1 := told_few h0 r
        have e2 := least_few hb
        by_cases hq : most < (b.toNat : Int)
        · rw [counted_no (by omega) (.inr (by rw [e1]; exact hq)), behind_none, if_pos (.inr hq)]
        · rw [counted_yes (by omega) (by omega) (by omega) (by omega), h0, behind_some, e1, ← ht1, if_neg (by show ¬ (b.toNat < 0 ∨ most < (b.toNat : Int)); omega)]
      · have hbody : Ey.body ⟨s, false⟩ = ((Ey.get ⟨t, false⟩ 2).1, 253, (Ey.get ⟨t, false⟩ 2).2) := by
          unfold Ey.body
          rw [g1]
          show (if (253 : Nat) = 253 then _ else if (253 : Nat) = 254 then _ else if (253 : Nat) = 255 then _ else _) = _
          rw [if_pos (by decide)]
        unfold Ey.count'
        rw [hbody, show Ey.get ⟨t, false⟩ 2 = _ from get_rest ht 2 (by omega) (by omega)]
        have e1 : told 253 r = val (r.take 2) := told_many szOf_253 (by omega) r
        have e2 : least 253 = 253 := rfl
        have e3 := szOf_253
        by_cases hl : r.length < 2
        · rw [counted_short most (by omega), behind_none, if_pos hl]
          rw [if_pos (.inl (by show 0 < 253; omega))]
        · rw [if_neg hl]
          have hv := val_lt (r.take 2)
          rw [List.length_take, Nat.min_eq_left (by omega)] at hv
          by_cases hq : val (r.take 2) < 253 ∨ most < (val (r.take 2) : Int)
          · rw [counted_no (by omega) (by rw [e1, e2]; exact hq), behind_none, if_pos hq]
          · rw [counted_yes (by omega) (by omega) (by omega) (by omega), e3, behind_some, e1, ← hm, if_neg hq]
      · have hbody : Ey.body ⟨s, false⟩ = ((Ey.get ⟨t, false⟩ 4).1, 65536, (Ey.get ⟨t, false⟩ 4).2) := by
          unfold Ey.body
          rw [g1]
          show (if (254 : Nat) = 253 then _ else if (254 : Nat) = 254 then _ else if (254 : Nat) = 255 then _ else _) = _
          rw [if_neg (by decide), if_pos (by decide)]
        unfold Ey.count'
        rw [hbody, show Ey.get ⟨t, false⟩ 4 = _ from get_rest ht 4 (by omega) (by omega)]
        have e1 : told 254 r = val (r.take 4) := told_many szOf_254 (by omega) r
        have e2 : least 254 = 65536 := rfl
        have e3 := szOf_254
        by_cases hl : r.length < 4
        · rw [counted_short most (by omega), behind_none, if_pos hl]
          rw [if_pos (.inl (by show 0 < 65536; omega))]
        · rw [if_neg hl]
          have hv := val_lt (r.take 4)
          rw [List.length_take, Nat.min_eq_left (by omega)] at hv
          by_cases hq : val (r.take 4) < 65536 ∨ most < (val (r.take 4) : Int)
          · rw [counted_no (by omega) (by rw [e1, e2]; exact hq), behind_none, if_pos hq]
          · rw [counted_yes (by omega) (by omega) (by omega) (by omega), e3, behind_some, e1, ← hm, if_neg hq]
      · have hbody : Ey.body ⟨s, false⟩ = ((Ey.wide ⟨t, false⟩).1, 4294967296, (Ey.wide ⟨t, false⟩).2) := by
          unfold Ey.body
          rw [g1]
          show (if (255 : Nat) = 253 then _ else if (255 : Nat) = 254 then _ else if (255 : Nat) = 255 then _ else _) = _
          rw [if_neg (by decide), if_neg (by decide), if_pos (by decide)]
        unfold Ey.count'
        rw [hbody, wide_rest ht]
        have e1 : told 255 r = val (r.take 8) := told_many szOf_255 (by omega) r
        have e2 : least 255 = 4294967296 := rfl
        have e3 := szOf_255
        by_cases hl : r.length < 8
        · rw [counted_short most (by omega), behind_none, if_pos hl]
          rw [if_pos (.inl (by show 0 < 4294967296; omega))]
        · rw [if_neg hl]
          by_cases h63 : 9223372036854775808 ≤ val (r.take 8)
          · rw [counted_great most (by omega) (by omega), behind_none, if_pos h63]
            rw [if_pos (.inl (by show 0 < 4294967296; omega))]
          rw [if_neg h63]
          by_cases hq : val (r.take 8) < 4294967296 ∨ most < (val (r.take 8) : Int)
          · rw [counted_no (by omega) (by rw [e1, e2]; exact hq), behind_none, if_pos hq]
          · rw [counted_yes (by omega) (by omega) (by omega) (by omega), e3, behind_some, e1, ← hm, if_neg hq]
  · have hs0 : s = E0 := hok rfl
    subst hs0
    unfold Ey.count Ey.count'
    rw [if_pos rfl, body_bad rfl]
    by_cases h : most < ((0 : Nat) : Int)
    · rw [if_pos (.inr h)]
    · rw [if_neg (by show ¬ (0 < 0 ∨ most < ((0 : Nat) : Int)); omega)]; rfl
end Go.Proofs.Yteblphnpealefaa
