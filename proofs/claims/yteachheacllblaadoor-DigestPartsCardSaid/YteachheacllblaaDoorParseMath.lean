/-
  Plain mathematics of digits that are parsed.
-/
import Derived.Test.YteachheacllblaaDoorDigDigit
import Derived.Lib.OthersKept
namespace Go.Proofs.YteachheacllblaaDoor
open Go.RowKit Mem Sha
def dv (s : List UInt8) (j : Nat) : Nat := (digV ((s.getD j 0).toNat : Int)).toNat
def pval (s : List UInt8) (k m : Nat) : Nat := if 2 * m + 1 < k then 16 * dv s (2 * m) + dv s (2 * m + 1) else if 2 * m < k then dv s (2 * m) else 0
def parsed (s : List UInt8) (k : Nat) : List UInt8 := (List.range 32).map fun at_ => UInt8.ofNat (pval s k (31 - at_))
theorem digV_lt (r : Int) : 0 ≤ digV r ∧ digV r < 16 := by unfold digV; split <;> (try split) <;> omega
theorem dv_lt (s : List UInt8) (j : Nat) : dv s j < 16 := by have := digV_lt ((s.getD j 0).toNat : Int); unfold dv; omega
theorem dv_int (s : List UInt8) (j : Nat) : digV ((s.getD j 0).toNat : Int) = (dv s j : Nat) := by have := digV_lt ((s.getD j 0).toNat : Int); unfold dv; omega
theorem pval_lt (s : List UInt8) (k m : Nat) : pval s k m < 256 := by
  have := dv_lt s (2 * m); have := dv_lt s (2 * m + 1)
  unfold pval; split <;> (try split) <;> omega
theorem parsed_length (s : List UInt8) (k : Nat) : (parsed s k).length = 32 := by simp [parsed]
theorem parsed_get (s : List UInt8) (k i : Nat) (hi : i < (parsed s k).length) : (parsed s k)[i] = UInt8.ofNat (pval s k (31 - i)) := by simp [parsed]
theorem parsed_start (s : List UInt8) : parsed s 0 = List.replicate 32 0 := by
  unfold parsed pval
  simp
  decide
theorem parsed_next (s : List UInt8) (k : Nat) (hk : k < 64) : (parsed s k).set (31 - k / 2) (UInt8.ofNat (pval s (k + 1) (k / 2))) = parsed s (k + 1) := by
  apply List.ext_getElem
  · simp [parsed_length]
  · intro i h1 h2
    rw [parsed_length] at h2
    rw [List.getElem_set]
    split
    · rename_i e
      rw [parsed_get, ← e, show 31 - (31 - k / 2) = k / 2 by omega]
    · rename_i e
      rw [parsed_get, parsed_get]
      congr 1
      unfold pval
      have h3 : ¬ (31 - i = k / 2) := by omega
      generalize 31 - i = m at *
      by_cases a : 2 * m + 1 < k
      · rw [if_pos a, if_pos (by omega)]
      · have b : ¬ 2 * m < k := by omega
        rw [if_neg a, if_neg b, if_neg (by omega), if_neg (by omega)]
theorem pval_even (s : List UInt8) (k : Nat) (h : k % 2 = 0) : pval s k (k / 2) = 0 ∧ pval s (k + 1) (k / 2) = dv s k := by
  unfold pval
  rw [if_neg (by omega), if_neg (by omega), if_neg (by omega), if_pos (by omega), show 2 * (k / 2) = k by omega]
  exact ⟨rfl, rfl⟩
theorem pval_odd (s : List UInt8) (k : Nat) (h : k % 2 = 1) : pval s k (k / 2) < 16 ∧ pval s (k + 1) (k / 2) = 16 * pval s k (k / 2) + dv s k := by
  have := dv_lt s (2 * (k / 2))
  unfold pval
  rw [if_neg (by omega), if_pos (by omega), if_pos (by omega), show 2 * (k / 2) + 1 = k by omega]
  exact ⟨this, rfl⟩
theorem pval_next (s : List UInt8) (k : Nat) : (pval s k (k / 2) <<< 4) % 256 ||| dv s k = pval s (k + 1) (k / 2) := by
  have hd := dv_lt s k
  rw [Nat.shiftLeft_eq]
  obtain h | h : k % 2 = 0 ∨ k % 2 = 1 := by omega
  · obtain ⟨h1, h2⟩ := pval_even s k h
    rw [h1, h2]; simp
  · obtain ⟨h1, h2⟩ := pval_odd s k h
    rw [h2, Nat.mod_eq_of_lt (by omega), Nat.mul_comm, show 16 * pval s k (k / 2) = 2 ^ 4 * pval s k (k / 2) from rfl]
    exact (Nat.two_pow_add_eq_or_of_lt (i := 4) hd _).symm
/-- a digit's byte is the digit of its worth -/
theorem dig_digV (b : UInt8) (h : digOk (b.toNat : Int) = true) : dig (digV (b.toNat : Int)).toNat = b := by
  have e : ∀ n : Fin 256, digOk ((UInt8.ofNat n.val).toNat : Int) = true → dig (digV ((UInt8.ofNat n.val).toNat : Int)).toNat = UInt8.ofNat n.val := by decide +kernel
  have := e ⟨b.toNat, b.toNat_lt⟩
  simp only [UInt8.ofNat_toNat] at this
  exact this h
theorem digs_get (l : List UInt8) : ∀ (n j : Nat), j < 2 * n → (digs l n).getD j 0 = if j % 2 = 0 then dig ((l.getD (n - 1 - j / 2) 0).toNat / 16) else dig ((l.getD (n - 1 - j / 2) 0).toNat % 16)
  | 0, j, h => by omega
  | n + 1, j, h => by
    rw [digs]
    match j, h with
    | 0, _ => rfl
    | 1, _ => rfl
    | j + 2, h =>
      rw [List.getD_cons_succ, List.getD_cons_succ, digs_get l n j (by omega), show (j + 2) % 2 = j % 2 by omega, show n + 1 - 1 - (j + 2) / 2 = n - 1 - j / 2 by omega]
theorem digs_parsed (s : List UInt8) (hs : s.length = 64) (hok : ∀ j, j < 64 → digOk ((s.getD j 0).toNat : Int) = true) : digs (parsed s 64) 32 = s := by
  apply List.ext_getElem?
  intro j
  by_cases hj : j < 64
  · have e1 : (digs (parsed s 64) 32).length = 64 := digs_length _ _
    rw [List.getElem?_eq_getElem (by omega), List.getElem?_eq_getElem (by omega)]
    have h1 := digs_get (parsed s 64) 32 j (by omega)
    rw [List.getD_eq_getElem?_getD, List.getElem?_eq_getElem (by omega), Option.getD_some] at h1
    rw [h1]
    have h2 : (parsed s 64).getD (32 - 1 - j / 2) 0 = UInt8.ofNat (pval s 64 (j / 2)) := by
      rw [List.getD_eq_getElem?_getD, List.getElem?_eq_getElem (by rw [parsed_length]; omega), Option.getD_some, parsed_get, show 31 - (32 - 1 - j / 2) = j / 2 by omega]
    rw [h2]
    have h3 : (UInt8.ofNat (pval s 64 (j / 2))).toNat = 16 * dv s (2 * (j / 2)) + dv s (2 * (j / 2) + 1) := by
      rw [UInt8.toNat_ofNat', Nat.mod_eq_of_lt (pval_lt _ _ _)]
      unfold pval; rw [if_pos (by omega)]
    rw [h3]
    have l1 := dv_lt s (2 * (j / 2)); have l2 := dv_lt s (2 * (j / 2) + 1)
    have h4 := dig_digV (s.getD j 0) (hok j hj)
    have h5 : (digV ((s.getD j 0).toNat : Int)).toNat = dv s j := rfl
    rw [h5, List.getD_eq_getElem?_getD, List.getElem?_eq_getElem (by omega), Option.getD_some] at h4
    have h6 : (if j % 2 = 0 then dig ((16 * dv s (2 * (j / 2)) + dv s (2 * (j / 2) + 1)) / 16) else dig ((16 * dv s (2 * (j / 2)) + dv s (2 * (j / 2) + 1)) % 16)) = s[j] := by
      split
      · rw [show (16 * dv s (2 * (j / 2)) + dv s (2 * (j / 2) + 1)) / 16 = dv s (2 * (j / 2)) by omega, show 2 * (j / 2) = j by omega, h4]
      · rw [show (16 * dv s (2 * (j / 2)) + dv s (2 * (j / 2) + 1)) % 16 = dv s (2 * (j / 2) + 1) by omega, show 2 * (j / 2) + 1 = j by omega, h4]
    rw [h6]
  · rw [List.getElem?_eq_none (by rw [digs_length]; omega), List.getElem?_eq_none (by omega)]
theorem digs_ok (l : List UInt8) (j : Nat) (hj : j < 64) : digOk (((digs l 32).getD j 0).toNat : Int) = true := by
  rw [digs_get l 32 j (by omega)]
  have h := (l.getD (32 - 1 - j / 2) 0).toNat_lt
  split
  · exact (dig_val _ (by omega)).2
  · exact (dig_val _ (by omega)).2
/-- a name's digits tell the name -/
theorem digs_inj {l l' : List UInt8} (h : l.length = 32) (h' : l'.length = 32) (e : digs l 32 = digs l' 32) : l = l' := by
  have key : ∀ i, i < 32 → l.getD i 0 = l'.getD i 0 := fun i hi => by
    have a := digs_get l 32 (2 * (31 - i)) (by omega)
    have b := digs_get l 32 (2 * (31 - i) + 1) (by omega)
    have a' := digs_get l' 32 (2 * (31 - i)) (by omega)
    have b' := digs_get l' 32 (2 * (31 - i) + 1) (by omega)
    rw [e, a', if_pos (by omega), if_pos (by omega), show 32 - 1 - 2 * (31 - i) / 2 = i by omega] at a
    rw [e, b', if_neg (by omega), if_neg (by omega), show 32 - 1 - (2 * (31 - i) + 1) / 2 = i by omega] at b
    have x := (l.getD i 0).toNat_lt
    have y := (l'.getD i 0).toNat_lt
    have v1 := (dig_val ((l.getD i 0).toNat / 16) (by omega)).1
    have v2 := (dig_val ((l.getD i 0).toNat % 16) (by omega)).1
    have v3 := (dig_val ((l'.getD i 0).toNat / 16) (by omega)).1
    have v4 := (dig_val ((l'.getD i 0).toNat % 16) (by omega)).1
    rw [← a] at v1
    rw [← b] at v2
    apply UInt8.toNat_inj.1
    omega
  apply List.ext_getElem?
  intro i
  by_cases hi : i < 32
  · have := key i hi
    rw [List.getD_eq_getElem?_getD, List.getD_eq_getElem?_getD, List.getElem?_eq_getElem (by omega), List.getElem?_eq_getElem (by omega), Option.getD_some, Option.getD_some] at this
    rw [List.getElem?_eq_getElem (by omega), List.getElem?_eq_getElem (by omega), this]
  · rw [List.getElem?_eq_none (by omega), List.getElem?_eq_none (by omega)]
theorem digOk_high (r : Int) (h : 128 ≤ r) : digOk r = false := by unfold digOk; rw [if_neg (by omega), if_neg (by omega)]
/-- a rune is a digit just if the byte is -/
theorem rune_ok (s : ByteArray) (k : Nat) (h : k < s.size) (b : UInt8) (hb : b = s.data.toList.getD k 0) : (digOk ((Utf8.decode s k).1 : Int) = digOk (b.toNat : Int)) ∧ (digOk (b.toNat : Int) = true → Utf8.decode s k = (b.toNat, 1)) := by
  have e : s[k]'h = b := by
    rw [hb, List.getD_eq_getElem?_getD, List.getElem?_eq_getElem (by rw [← Lib.size_eq]; exact h), Option.getD_some]
    simp; rfl
  by_cases ha : (s[k]'h).toNat < 128
  · rw [decode_ascii s k h ha, e]
    exact ⟨rfl, fun _ => rfl⟩
  · have hd := (decode_high s k h (by omega)).1
    rw [e] at ha
    rw [digOk_high _ (by omega), digOk_high (b.toNat : Int) (by omega)]
    exact ⟨rfl, fun h => by cases h⟩
end Go.Proofs.YteachheacllblaaDoor
