/-
  Plain mathematics: numbers as bytes, the lowest first; counts; what an eye reads.
-/
import Derived.Lib.IndexBytes
namespace Go.Proofs.Yteblphnpealefaa.Sc
def byteU (u i : Nat) : UInt8 := UInt8.ofNat (u / 256 ^ i % 256)
/-- the k lowest bytes of u -/
def le (k u : Nat) : List UInt8 := (List.range k).map (byteU u)
/-- a number as one of 64 bits from 0 on -/
def u64 (n : Int) : Nat := (n % 18446744073709551616).toNat
def near (size : Int) (most : Nat) : Nat := (min (max size 1) (most : Int)).toNat
/-- a number of so many bytes -/
def num (k : Nat) (n : Int) : List UInt8 := le k (u64 n)
/-- the number that bytes are -/
def val : List UInt8 → Nat
  | [] => 0
  | b :: l => b.toNat + 256 * val l
/-- a count -/
def cnt (n : Int) : List UInt8 :=
  if n < 0 then [0] else if n < 253 then num 1 n else if n < 65536 then 253 :: num 2 n else if n < 4294967296 then 254 :: num 4 n else 255 :: num 8 n
theorem byteU_toNat (u i : Nat) : (byteU u i).toNat = u / 256 ^ i % 256 := by rw [byteU, UInt8.toNat_ofNat']; omega
theorem le_length (k u : Nat) : (le k u).length = k := by simp [le]
theorem le_succ (k u : Nat) : le (k + 1) u = le k u ++ [byteU u k] := by simp [le, List.range_succ]
theorem num_length (k : Nat) (n : Int) : (num k n).length = k := le_length _ _
theorem num_succ (k : Nat) (n : Int) : num (k + 1) n = num k n ++ [byteU (u64 n) k] := le_succ _ _
theorem num_zero (n : Int) : num 0 n = [] := rfl
theorem near_le (size : Int) (most : Nat) (h : 1 ≤ most) : 1 ≤ near size most ∧ near size most ≤ most := by unfold near; omega
theorem near_self (size : Int) (most : Nat) (h1 : 1 ≤ size) (h2 : size ≤ most) : near size most = size.toNat := by unfold near; omega
theorem u64_lt (n : Int) : u64 n < 18446744073709551616 := by unfold u64; omega
theorem u64_nat (n : Nat) (h : n < 18446744073709551616) : u64 n = n := by unfold u64; omega
/-- byte i, as the program cuts it out -/
theorem byte_cut (n : Int) (i : Nat) (hi : i < 8) : n / 2 ^ (8 * i) % 256 = ((byteU (u64 n) i).toNat : Int) := by
  rw [byteU_toNat]
  unfold u64
  obtain rfl | rfl | rfl | rfl | rfl | rfl | rfl | rfl : i = 0 ∨ i = 1 ∨ i = 2 ∨ i = 3 ∨ i = 4 ∨ i = 5 ∨ i = 6 ∨ i = 7 := by omega
  all_goals
    simp only [Nat.reduceMul, Nat.reducePow, Int.reducePow]
    omega
theorem val_snoc (l : List UInt8) (b : UInt8) : val (l ++ [b]) = val l + 256 ^ l.length * b.toNat := by
  induction l with
  | nil => simp [val]
  | cons c l ih =>
    simp only [List.cons_append, val, ih, List.length_cons, Nat.pow_succ, Nat.mul_add]
    rw [Nat.mul_comm (256 ^ l.length) 256, Nat.mul_assoc]
    omega
theorem val_lt (l : List UInt8) : val l < 256 ^ l.length := by
  induction l with
  | nil => simp [val]
  | cons b l ih =>
    have := b.toNat_lt
    simp only [val, List.length_cons, Nat.pow_succ]
    omega
theorem val_le (k u : Nat) : val (le k u) = u % 256 ^ k := by
  induction k with
  | zero => simp [le, val, Nat.mod_one]
  | succ k ih => rw [le_succ, val_snoc, ih, le_length, byteU_toNat, Nat.pow_succ, Nat.mod_mul]
theorem val_inj : ∀ (a b : List UInt8), a.length = b.length → val a = val b → a = b
  | [], [], _, _ => rfl
  | [], _ :: _, h, _ => by simp at h
  | _ :: _, [], h, _ => by simp at h
  | x :: a, y :: b, h, hv => by
    have h1 := x.toNat_lt
    have h2 := y.toNat_lt
    simp only [val] at hv
    have e1 : x.toNat = y.toNat := by omega
    have e2 : val a = val b := by omega
    rw [val_inj a b (by simpa using h) e2, UInt8.toNat_inj.1 e1]
theorem le_val (l : List UInt8) : le l.length (val l) = l :=
  val_inj _ _ (le_length _ _) (by rw [val_le, Nat.mod_eq_of_lt (val_lt l)])
theorem val_num (k : Nat) (n : Int) : val (num k n) = u64 n % 256 ^ k := val_le k _
theorem val_num8 (n : Int) : val (num 8 n) = u64 n := by rw [val_num, Nat.mod_eq_of_lt (u64_lt n)]
/-! ### an eye: what is left, and whether it is blind -/
structure Ey where
  s : ByteArray
  bad : Bool
def E0 : ByteArray := ⟨#[]⟩
def dark : Ey := ⟨E0, true⟩
/-- what is blind has nothing left -/
def Ey.ok (e : Ey) : Prop := e.bad = true → e.s = E0
def Ey.raw (e : Ey) (n : Int) : ByteArray × Ey :=
  if e.bad = true then (E0, e) else if n < 0 ∨ (e.s.size : Int) < n then (E0, dark) else (e.s.extract 0 n.toNat, ⟨e.s.extract n.toNat e.s.size, false⟩)
def Ey.get (e : Ey) (size : Int) : Nat × Ey := (val (e.raw (near size 7)).1.data.toList, (e.raw (near size 7)).2)
def Ey.wide (e : Ey) : Nat × Ey :=
  if 9223372036854775808 ≤ val (e.raw 8).1.data.toList then (0, dark) else (val (e.raw 8).1.data.toList, (e.raw 8).2)
/-- how many bytes tell a count that begins with b -/
def szOf (b : UInt8) : Nat := if b = 253 then 2 else if b = 254 then 4 else if b = 255 then 8 else 0
/-- the count with which bytes begin, and how many bytes it has; 0: none -/
def counted : List UInt8 → Int → Nat × Nat
  | [], _ => (0, 0)
  | b :: r, most =>
    if r.length < szOf b then (0, 0) else
    let v := if szOf b = 0 then b.toNat else val (r.take (szOf b))
    if 9223372036854775808 ≤ v then (0, 0) else if most < (v : Int) ∨ cnt (v : Int) ≠ b :: r.take (szOf b) then (0, 0) else (v, 1 + szOf b)
/-- what is left behind a count -/
def behind (s : ByteArray) (c : Nat × Nat) : Nat × Ey := if c.2 = 0 then (0, dark) else (c.1, ⟨s.extract c.2 s.size, false⟩)
def Ey.count (e : Ey) (most : Int) : Nat × Ey := if e.bad = true then (0, dark) else behind e.s (counted e.s.data.toList most)
/-- 32 bytes, or noughts -/
def name32 (l : List UInt8) : List UInt8 := if l.length = 32 then l else List.replicate 32 0
def Ey.name (e : Ey) : List UInt8 × Ey := (name32 (e.raw 32).1.data.toList, (e.raw 32).2)
theorem name32_length (l : List UInt8) : (name32 l).length = 32 := by unfold name32; split <;> simp_all
theorem E0_list : E0.data.toList = [] := rfl
theorem E0_size : E0.size = 0 := rfl
theorem val_E0 : val E0.data.toList = 0 := rfl
theorem raw_bad {e : Ey} (h : e.bad = true) (n : Int) : e.raw n = (E0, e) := by simp [Ey.raw, h]
theorem raw_no {e : Ey} (h : e.bad = false) {n : Int} (hn : n < 0 ∨ (e.s.size : Int) < n) : e.raw n = (E0, dark) := by simp [Ey.raw, h, hn]
theorem raw_yes {e : Ey} (h : e.bad = false) {n : Nat} (hn : n ≤ e.s.size) : e.raw n = (e.s.extract 0 n, ⟨e.s.extract n e.s.size, false⟩) := by
  unfold Ey.raw
  rw [if_neg (by simp [h]), if_neg (by omega)]
  rfl
theorem raw_size (e : Ey) (n : Nat) : (e.raw n).1.size ≤ n := by
  unfold Ey.raw
  split
  · exact Nat.zero_le _
  · split
    · exact Nat.zero_le _
    · simp only [ByteArray.size_extract, Int.toNat_natCast]; omega
theorem ok_dark : dark.ok := fun _ => rfl
theorem ok_raw {e : Ey} (h : e.ok) (n : Int) : (e.raw n).2.ok := by
  unfold Ey.raw
  split
  · exact h
  · split
    · exact ok_dark
    · intro h; cases h
theorem ok_get {e : Ey} (h : e.ok) (n : Int) : (e.get n).2.ok := ok_raw h _
theorem ok_wide {e : Ey} (h : e.ok) : e.wide.2.ok := by
  unfold Ey.wide
  split
  · exact ok_dark
  · exact ok_raw h 8
theorem ok_count (e : Ey) (most : Int) : (e.count most).2.ok := by
  unfold Ey.count
  split
  · exact ok_dark
  · unfold behind
    split
    · exact ok_dark
    · intro h; cases h
theorem behind_none (s : ByteArray) : behind s (0, 0) = (0, dark) := rfl
theorem behind_some (s : ByteArray) (v k : Nat) : behind s (v, 1 + k) = (v, ⟨s.extract (1 + k) s.size, false⟩) := by
  unfold behind; rw [if_neg (by show 1 + k ≠ 0; omega)]
/-- the number that is told behind the first byte -/
def told (b : UInt8) (r : List UInt8) : Nat := if szOf b = 0 then b.toNat else val (r.take (szOf b))
theorem counted_cons (b : UInt8) (r : List UInt8) (most : Int) : counted (b :: r) most = if r.length < szOf b then (0, 0) else if 9223372036854775808 ≤ told b r then (0, 0) else
    if most < (told b r : Int) ∨ cnt (told b r : Int) ≠ b :: r.take (szOf b) then (0, 0) else (told b r, 1 + szOf b) := rfl
theorem counted_short {b : UInt8} {r : List UInt8} (most : Int) (h : r.length < szOf b) : counted (b :: r) most = (0, 0) := by
  rw [counted_cons, if_pos h]
theorem counted_great {b : UInt8} {r : List UInt8} (most : Int) (h : ¬ r.length < szOf b) (hv : 9223372036854775808 ≤ told b r) : counted (b :: r) most = (0, 0) := by
  rw [counted_cons, if_neg h, if_pos hv]
theorem ok_name {e : Ey} (h : e.ok) : e.name.2.ok := ok_raw h 32
theorem get_lt (e : Ey) (size : Int) : (e.get size).1 < 72057594037927936 := by
  have h1 := raw_size e (near size 7)
  have h2 := val_lt (e.raw (near size 7)).1.data.toList
  rw [← Lib.size_eq] at h2
  have h3 := (near_le size 7 (by omega)).2
  have h4 : 256 ^ (e.raw (near size 7)).1.size ≤ 256 ^ 7 := Nat.pow_le_pow_right (by omega) (by omega)
  show val (e.raw (near size 7)).1.data.toList < _
  omega
theorem wide_lt (e : Ey) : e.wide.1 < 9223372036854775808 := by
  unfold Ey.wide
  split
  · decide
  · omega
theorem val_8 {s : ByteArray} (h : s.size ≤ 8) : val s.data.toList < 18446744073709551616 := by
  have h2 := val_lt s.data.toList
  rw [← Lib.size_eq] at h2
  have h4 : 256 ^ s.size ≤ 256 ^ 8 := Nat.pow_le_pow_right (by omega) h
  omega
/-! ### counts -/
theorem szOf_253 : szOf 253 = 2 := rfl
theorem szOf_254 : szOf 254 = 4 := rfl
theorem szOf_255 : szOf 255 = 8 := rfl
theorem szOf_other {b : UInt8} (h : b.toNat < 253) : szOf b = 0 := by
  unfold szOf
  rw [if_neg (by intro e; subst e; exact absurd h (by decide)), if_neg (by intro e; subst e; exact absurd h (by decide)), if_neg (by intro e; subst e; exact absurd h (by decide))]
theorem byte_cases (b : UInt8) : b.toNat < 253 ∨ b = 253 ∨ b = 254 ∨ b = 255 := by
  have h := b.toNat_lt
  by_cases h0 : b.toNat < 253
  · exact .inl h0
  · right
    obtain h1 | h1 | h1 : b.toNat = 253 ∨ b.toNat = 254 ∨ b.toNat = 255 := by omega
    · exact .inl (UInt8.toNat_inj.1 h1)
    · exact .inr (.inl (UInt8.toNat_inj.1 h1))
    · exact .inr (.inr (UInt8.toNat_inj.1 h1))
theorem szOf_le (b : UInt8) : szOf b ≤ 8 := by
  rcases byte_cases b with h | rfl | rfl | rfl
  · rw [szOf_other h]; omega
  · decide
  · decide
  · decide
theorem cnt_one {b : UInt8} (h : b.toNat < 253) : cnt (b.toNat : Int) = [b] := by
  unfold cnt
  rw [if_neg (by omega), if_pos (by omega)]
  exact val_inj _ _ rfl (by rw [val_num, u64_nat _ (by omega), Nat.mod_eq_of_lt (by omega)]; simp [val])
theorem cnt_len1 {v : Nat} (h : v < 253) : (cnt (v : Int)).length = 1 := by
  unfold cnt; rw [if_neg (by omega), if_pos (by omega), num_length]
theorem cnt_len3 {v : Nat} (h1 : 253 ≤ v) (h2 : v < 65536) : cnt (v : Int) = 253 :: le 2 v := by
  unfold cnt; rw [if_neg (by omega), if_neg (by omega), if_pos (by omega), num, u64_nat _ (by omega)]
theorem cnt_len5 {v : Nat} (h1 : 65536 ≤ v) (h2 : v < 4294967296) : cnt (v : Int) = 254 :: le 4 v := by
  unfold cnt; rw [if_neg (by omega), if_neg (by omega), if_neg (by omega), if_pos (by omega), num, u64_nat _ (by omega)]
theorem cnt_len9 {v : Nat} (h1 : 4294967296 ≤ v) (h2 : v < 18446744073709551616) : cnt (v : Int) = 255 :: le 8 v := by
  unfold cnt; rw [if_neg (by omega), if_neg (by omega), if_neg (by omega), if_neg (by omega), num, u64_nat _ h2]
/-- the least number that so many bytes may tell -/
def least (b : UInt8) : Nat := if b = 253 then 253 else if b = 254 then 65536 else if b = 255 then 4294967296 else 0
theorem cnt_iff (b : UInt8) (r : List UInt8) (v : Nat) (hr : szOf b ≤ r.length) (hv : v = if szOf b = 0 then b.toNat else val (r.take (szOf b))) : cnt (v : Int) = b :: r.take (szOf b) ↔ least b ≤ v := by
  rcases byte_cases b with h | rfl | rfl | rfl
  · rw [szOf_other h, if_pos rfl] at hv
    subst hv
    have hl : least b = 0 := by
      unfold least
      rw [if_neg (by intro e; subst e; exact absurd h (by decide)), if_neg (by intro e; subst e; exact absurd h (by decide)), if_neg (by intro e; subst e; exact absurd h (by decide))]
    rw [szOf_other h, cnt_one h, hl]
    simp
  · rw [szOf_253, if_neg (by omega)] at hv
    rw [szOf_253] at hr ⊢
    have hl : (r.take 2).length = 2 := by rw [List.length_take]; omega
    have h2 := val_lt (r.take 2)
    rw [hl, ← hv] at h2
    have e := le_val (r.take 2)
    rw [hl, ← hv] at e
    show _ ↔ 253 ≤ v
    constructor
    · intro h
      by_cases hc : v < 253
      · have h3 := cnt_len1 hc
        rw [h, List.length_cons, hl] at h3
        omega
      · omega
    · intro h; rw [cnt_len3 h (by omega), e]
  · rw [szOf_254, if_neg (by omega)] at hv
    rw [szOf_254] at hr ⊢
    have hl : (r.take 4).length = 4 := by rw [List.length_take]; omega
    have h2 := val_lt (r.take 4)
    rw [hl, ← hv] at h2
    have e := le_val (r.take 4)
    rw [hl, ← hv] at e
    show _ ↔ 65536 ≤ v
    constructor
    · intro h
      by_cases hc : v < 253
      · have h3 := cnt_len1 hc
        rw [h, List.length_cons, hl] at h3
        omega
      · by_cases hc2 : v < 65536
        · rw [cnt_len3 (by omega) hc2] at h
          have h3 := congrArg List.length h
          rw [List.length_cons, List.length_cons, le_length, hl] at h3
          omega
        · omega
    · intro h; rw [cnt_len5 h (by omega), e]
  · rw [szOf_255, if_neg (by omega)] at hv
    rw [szOf_255] at hr ⊢
    have hl : (r.take 8).length = 8 := by rw [List.length_take]; omega
    have h2 := val_lt (r.take 8)
    rw [hl, ← hv] at h2
    have e := le_val (r.take 8)
    rw [hl, ← hv] at e
    show _ ↔ 4294967296 ≤ v
    constructor
    · intro h
      by_cases hc : v < 253
      · have h3 := cnt_len1 hc
        rw [h, List.length_cons, hl] at h3
        omega
      · by_cases hc2 : v < 65536
        · rw [cnt_len3 (by omega) hc2] at h
          have h3 := congrArg List.length h
          rw [List.length_cons, List.length_cons, le_length, hl] at h3
          omega
        · by_cases hc3 : v < 4294967296
          · rw [cnt_len5 (by omega) hc3] at h
            have h3 := congrArg List.length h
            rw [List.length_cons, List.length_cons, le_length, hl] at h3
            omega
          · omega
    · intro h; rw [cnt_len9 h (by omega), e]
theorem counted_no {b : UInt8} {r : List UInt8} {most : Int} (h : ¬ r.length < szOf b) (hn : told b r < least b ∨ most < (told b r : Int)) : counted (b :: r) most = (0, 0) := by
  have hc := cnt_iff b r (told b r) (by omega) rfl
  rw [counted_cons, if_neg h]
  split
  · rfl
  · rw [if_pos]
    rcases hn with h1 | h1
    · exact .inr (fun e => absurd (hc.1 e) (by omega))
    · exact .inl h1
theorem counted_yes {b : UInt8} {r : List UInt8} {most : Int} (h : ¬ r.length < szOf b) (hv : told b r < 9223372036854775808) (hl : least b ≤ told b r) (hm : (told b r : Int) ≤ most) : counted (b :: r) most = (told b r, 1 + szOf b) := by
  have hc := cnt_iff b r (told b r) (by omega) rfl
  rw [counted_cons, if_neg h, if_neg (by omega), if_neg]
  · rintro (h1 | h1)
    · omega
    · exact h1 (hc.2 hl)
theorem told_few {b : UInt8} (h : szOf b = 0) (r : List UInt8) : told b r = b.toNat := by unfold told; rw [if_pos h]
theorem told_many {b : UInt8} {k : Nat} (h : szOf b = k) (h0 : k ≠ 0) (r : List UInt8) : told b r = val (r.take k) := by unfold told; rw [if_neg (by omega), h]
theorem least_few {b : UInt8} (h : b.toNat < 253) : least b = 0 := by
  unfold least
  rw [if_neg (by intro e; subst e; exact absurd h (by decide)), if_neg (by intro e; subst e; exact absurd h (by decide)), if_neg (by intro e; subst e; exact absurd h (by decide))]
end Go.Proofs.Yteblphnpealefaa.Sc
