/-
  Plain mathematics: what is put is read again.
-/
import Derived.Test.YtmpllagaeoolaaaDoorZScPutL
namespace Go.Proofs.YtmpllagaeoolaaaDoor
open Go.RowKit Mem Sc
theorem cnt_head (n : Int) (hn : n < 253) : ∃ b : UInt8, cnt n = [b] ∧ b.toNat = (max n 0).toNat := by
  rw [cnt_low n hn]
  refine ⟨byteU (u64 (max n 0)) 0, rfl, ?_⟩
  rw [byteU_toNat]
  unfold u64
  omega
theorem many_read (b : UInt8) (k : Nat) (hb : szOf b = k) (hk0 : k ≠ 0) (n : Int) (hn0 : 0 ≤ n) (hn : n < 9223372036854775808) (hk : n < (256 ^ k : Nat)) (hl : least b ≤ n.toNat) (r : List UInt8) (most : Int) (hm : n ≤ most) :
    counted (b :: (num k n ++ r)) most = (n.toNat, 1 + k) := by
  have ht : told b (num k n ++ r) = n.toNat := by
    rw [told_many hb hk0, List.take_left' (num_length k n), val_num, Nat.mod_eq_of_lt]
    · unfold u64; omega
    · unfold u64; omega
  rw [counted_yes (by rw [hb, List.length_append, num_length]; omega) (by rw [ht]; omega) (by rw [ht]; exact hl) (by rw [ht]; omega), ht, hb]
theorem cnt_read (n : Int) (hn : n < 9223372036854775808) (r : List UInt8) (most : Int) (hm : max n 0 ≤ most) : counted (cnt n ++ r) most = ((max n 0).toNat, (cnt n).length) := by
  by_cases h1 : n < 253
  · obtain ⟨b, hb, hv⟩ := cnt_head n h1
    have h0 := szOf_other (b := b) (by rw [hv]; omega)
    have e1 := told_few h0 r
    rw [hb, List.cons_append, List.nil_append, counted_yes (by omega) (by omega) (by rw [least_few (by rw [hv]; omega)]; omega) (by rw [e1, hv]; omega), h0, e1, hv]
    rfl
  · have hmax : max n 0 = n := by omega
    rw [hmax] at hm ⊢
    by_cases h2 : n ≤ 65535
    · rw [cnt_2 n (by omega) h2]
      exact many_read 253 2 rfl (by omega) n (by omega) hn (by show n < ((65536 : Nat) : Int); omega) (by show 253 ≤ _; omega) r most hm
    · by_cases h3 : n ≤ 4294967295
      · rw [cnt_4 n (by omega) h3]
        exact many_read 254 4 rfl (by omega) n (by omega) hn (by show n < ((4294967296 : Nat) : Int); omega) (by show 65536 ≤ _; omega) r most hm
      · rw [cnt_8 n (by omega)]
        exact many_read 255 8 rfl (by omega) n (by omega) hn (by show n < ((18446744073709551616 : Nat) : Int); omega) (by show 4294967296 ≤ _; omega) r most hm
theorem txt_drop (a r : List UInt8) (k : Nat) (hk : a.length = k) : (txt (a ++ r)).extract k (txt (a ++ r)).size = txt r := by
  apply ba_ext
  rw [Lib.extract_to_end, txt_list, txt_list]
  exact List.drop_left' hk
theorem txt_take (a r : List UInt8) (k : Nat) (hk : a.length = k) : (txt (a ++ r)).extract 0 k = txt a := by
  apply ba_ext
  rw [Lib.extract_data, txt_list, txt_list]
  exact List.take_left' hk
theorem raw_txt (a r : List UInt8) (n : Int) (hn : n = (a.length : Nat)) : Ey.raw ⟨txt (a ++ r), false⟩ n = (txt a, ⟨txt r, false⟩) := by
  subst hn
  rw [raw_yes rfl (by show a.length ≤ (txt (a ++ r)).size; rw [txt_size, List.length_append]; omega)]
  show ((txt (a ++ r)).extract 0 a.length, (⟨(txt (a ++ r)).extract a.length (txt (a ++ r)).size, false⟩ : Ey)) = _
  rw [txt_take _ _ _ rfl, txt_drop _ _ _ rfl]
theorem count_txt (n : Int) (hn : n < 9223372036854775808) (r : List UInt8) (most : Int) (hm : max n 0 ≤ most) : Ey.count ⟨txt (cnt n ++ r), false⟩ most = ((max n 0).toNat, ⟨txt r, false⟩) := by
  unfold Ey.count
  rw [if_neg (by simp)]
  show behind (txt (cnt n ++ r)) (counted (txt (cnt n ++ r)).data.toList most) = _
  rw [txt_list, cnt_read n hn r most hm]
  unfold behind
  rw [if_neg (by have := (cnt_length n).1; show (cnt n).length ≠ 0; omega)]
  show ((max n 0).toNat, (⟨(txt (cnt n ++ r)).extract (cnt n).length (txt (cnt n ++ r)).size, false⟩ : Ey)) = _
  rw [txt_drop _ _ _ rfl]
theorem get_txt (size n : Int) (h1 : 1 ≤ size) (h7 : size ≤ 7) (r : List UInt8) : Ey.get ⟨txt (num (near size 8) n ++ r), false⟩ size = (val (num (near size 8) n), ⟨txt r, false⟩) := by
  have e : near size 7 = near size 8 := by unfold near; omega
  unfold Ey.get
  rw [e, raw_txt _ _ _ (by rw [num_length])]
  rfl
theorem name_txt (a r : List UInt8) (ha : a.length = 32) : Ey.name ⟨txt (a ++ r), false⟩ = (a, ⟨txt r, false⟩) := by
  unfold Ey.name
  rw [raw_txt a r 32 (by rw [ha]; rfl)]
  show (name32 (txt a).data.toList, _) = _
  rw [txt_list]
  unfold name32
  rw [if_pos ha]
theorem val7 (size n : Int) (h1 : 1 ≤ size) (h7 : size ≤ 7) : val (num (near size 8) n) < 72057594037927936 := by
  have h := val_lt (num (near size 8) n)
  rw [num_length] at h
  have h2 : 256 ^ near size 8 ≤ 256 ^ 7 := Nat.pow_le_pow_right (by omega) (by unfold near; omega)
  omega
theorem counted_none (l : List UInt8) (most : Int) : (counted l most).2 = 0 → (counted l most).1 = 0 := by
  cases l with
  | nil => intro _; rfl
  | cons b r =>
    rw [counted_cons]
    split
    · intro _; rfl
    · split
      · intro _; rfl
      · split
        · intro _; rfl
        · intro h
          have : 1 + szOf b = 0 := h
          omega
theorem counted_len (l : List UInt8) (most : Int) : (counted l most).2 ≤ l.length := by
  cases l with
  | nil => exact Nat.le_refl _
  | cons b r =>
    rw [counted_cons]
    split
    · exact Nat.zero_le _
    · split
      · exact Nat.zero_le _
      · split
        · exact Nat.zero_le _
        · show 1 + szOf b ≤ r.length + 1; omega
theorem counted_lt (l : List UInt8) (most : Int) : (counted l most).1 < 9223372036854775808 := by
  cases l with
  | nil => show 0 < 9223372036854775808; decide
  | cons b r =>
    rw [counted_cons]
    split
    · decide
    · split
      · decide
      · split
        · decide
        · show told b r < _; omega
end Go.Proofs.YtmpllagaeoolaaaDoor
