/-
  Texts of this seat, one behind the other.
-/
import Derived.Lib.IndexBytes
import Derived.Test.YtmpllagaeoolaaaDoorRows
import Derived.Test.YtmpllagaeoolaaaDoorZMem
import Derived.Deep.RegionHeld3
import Derived.Lib.QuietBelow
import Derived.Laws.IdiomStrings
import Derived.Laws.DeepStrings4
import Derived.IntWalk
import Derived.Laws.ResultCell
import Derived.Stop.BytesEq
import Derived.Deep.MidRow
import Derived.Great.BuildSlice
import Derived.Maps.AppendAt
import Derived.Deep.AppendLies
import Derived.Lib.AppendStr
/-
  Plain mathematics: numbers as bytes, the lowest first; counts; what an eye reads.
-/
namespace Go.Proofs.YtmpllagaeoolaaaDoor.Sc
def byteU (u i : Nat) : UInt8 := UInt8.ofNat (u / 256 ^ i % 256)
/-- the k lowest bytes of u -/
def le (k u : Nat) : List UInt8 := (List.range k).map (byteU u)
/-- a number as one of 64 bits from 0 on -/
def u64 (n : Int) : Nat := (n % 18446744073709551616).toNat
def near (size : Int) (most : Nat) : Nat := (min (max size 1) (most : Int)).toNat
/-- a number of so many bytes -/
def num (k : Nat) (n : Int) : List UInt8 := le k (u64 n)
/-- the number that bytes are -/
def val : List UInt8 → Nat
  | [] => 0
  | b :: l => b.toNat + 256 * val l
/-- a count -/
def cnt (n : Int) : List UInt8 :=
  if n < 0 then [0] else if n < 253 then num 1 n else if n < 65536 then 253 :: num 2 n else if n < 4294967296 then 254 :: num 4 n else 255 :: num 8 n
theorem byteU_toNat (u i : Nat) : (byteU u i).toNat = u / 256 ^ i % 256 := by rw [byteU, UInt8.toNat_ofNat']; omega
theorem le_length (k u : Nat) : (le k u).length = k := by simp [le]
theorem le_succ (k u : Nat) : le (k + 1) u = le k u ++ [byteU u k] := by simp [le, List.range_succ]
theorem num_length (k : Nat) (n : Int) : (num k n).length = k := le_length _ _
theorem num_succ (k : Nat) (n : Int) : num (k + 1) n = num k n ++ [byteU (u64 n) k] := le_succ _ _
theorem num_zero (n : Int) : num 0 n = [] := rfl
theorem near_le (size : Int) (most : Nat) (h : 1 ≤ most) : 1 ≤ near size most ∧ near size most ≤ most := by unfold near; omega
theorem near_self (size : Int) (most : Nat) (h1 : 1 ≤ size) (h2 : size ≤ most) : near size most = size.toNat := by unfold near; omega
theorem u64_lt (n : Int) : u64 n < 18446744073709551616 := by unfold u64; omega
theorem u64_nat (n : Nat) (h : n < 18446744073709551616) : u64 n = n := by unfold u64; omega
/-- byte i, as the program cuts it out -/
theorem byte_cut (n : Int) (i : Nat) (hi : i < 8) : n / 2 ^ (8 * i) % 256 = ((byteU (u64 n) i).toNat : Int) := by
  rw [byteU_toNat]
  unfold u64
  obtain rfl | rfl | rfl | rfl | rfl | rfl | rfl | rfl : i = 0 ∨ i = 1 ∨ i = 2 ∨ i = 3 ∨ i = 4 ∨ i = 5 ∨ i = 6 ∨ i = 7 := by omega
  all_goals
    simp only [Nat.reduceMul, Nat.reducePow, Int.reducePow]
    omega
theorem val_snoc (l : List UInt8) (b : UInt8) : val (l ++ [b]) = val l + 256 ^ l.length * b.toNat := by
  induction l with
  | nil => simp [val]
  | cons c l ih =>
    simp only [List.cons_append, val, ih, List.length_cons, Nat.pow_succ, Nat.mul_add]
    rw [Nat.mul_comm (256 ^ l.length) 256, Nat.mul_assoc]
    omega
theorem val_lt (l : List UInt8) : val l < 256 ^ l.length := by
  induction l with
  | nil => simp [val]
  | cons b l ih =>
    have := b.toNat_lt
    simp only [val, List.length_cons, Nat.pow_succ]
    omega
theorem val_le (k u : Nat) : val (le k u) = u % 256 ^ k := by
  induction k with
  | zero => simp [le, val, Nat.mod_one]
  | succ k ih => rw [le_succ, val_snoc, ih, le_length, byteU_toNat, Nat.pow_succ, Nat.mod_mul]
theorem val_inj : ∀ (a b : List UInt8), a.length = b.length → val a = val b → a = b
  | [], [], _, _ => rfl
  | [], _ :: _, h, _ => by simp at h
  | _ :: _, [], h, _ => by simp at h
  | x :: a, y :: b, h, hv => by
    have h1 := x.toNat_lt
    have h2 := y.toNat_lt
    simp only [val] at hv
    have e1 : x.toNat = y.toNat := by omega
    have e2 : val a = val b := by omega
    rw [val_inj a b (by simpa using h) e2, UInt8.toNat_inj.1 e1]
theorem le_val (l : List UInt8) : le l.length (val l) = l :=
  val_inj _ _ (le_length _ _) (by rw [val_le, Nat.mod_eq_of_lt (val_lt l)])
theorem val_num (k : Nat) (n : Int) : val (num k n) = u64 n % 256 ^ k := val_le k _
theorem val_num8 (n : Int) : val (num 8 n) = u64 n := by rw [val_num, Nat.mod_eq_of_lt (u64_lt n)]
/-! ### an eye: what is left, and whether it is blind -/
structure Ey where
  s : ByteArray
  bad : Bool
def E0 : ByteArray := ⟨#[]⟩
def dark : Ey := ⟨E0, true⟩
/-- what is blind has nothing left -/
def Ey.ok (e : Ey) : Prop := e.bad = true → e.s = E0
def Ey.raw (e : Ey) (n : Int) : ByteArray × Ey :=
  if e.bad = true then (E0, e) else if n < 0 ∨ (e.s.size : Int) < n then (E0, dark) else (e.s.extract 0 n.toNat, ⟨e.s.extract n.toNat e.s.size, false⟩)
def Ey.get (e : Ey) (size : Int) : Nat × Ey := (val (e.raw (near size 7)).1.data.toList, (e.raw (near size 7)).2)
def Ey.wide (e : Ey) : Nat × Ey :=
  if 9223372036854775808 ≤ val (e.raw 8).1.data.toList then (0, dark) else (val (e.raw 8).1.data.toList, (e.raw 8).2)
/-- how many bytes tell a count that begins with b -/
def szOf (b : UInt8) : Nat := if b = 253 then 2 else if b = 254 then 4 else if b = 255 then 8 else 0
/-- the count with which bytes begin, and how many bytes it has; 0: none -/
def counted : List UInt8 → Int → Nat × Nat
  | [], _ => (0, 0)
  | b :: r, most =>
    if r.length < szOf b then (0, 0) else
    let v := if szOf b = 0 then b.toNat else val (r.take (szOf b))
    if 9223372036854775808 ≤ v then (0, 0) else if most < (v : Int) ∨ cnt (v : Int) ≠ b :: r.take (szOf b) then (0, 0) else (v, 1 + szOf b)
/-- what is left behind a count -/
def behind (s : ByteArray) (c : Nat × Nat) : Nat × Ey := if c.2 = 0 then (0, dark) else (c.1, ⟨s.extract c.2 s.size, false⟩)
def Ey.count (e : Ey) (most : Int) : Nat × Ey := if e.bad = true then (0, dark) else behind e.s (counted e.s.data.toList most)
/-- 32 bytes, or noughts -/
def name32 (l : List UInt8) : List UInt8 := if l.length = 32 then l else List.replicate 32 0
def Ey.name (e : Ey) : List UInt8 × Ey := (name32 (e.raw 32).1.data.toList, (e.raw 32).2)
theorem name32_length (l : List UInt8) : (name32 l).length = 32 := by unfold name32; split <;> simp_all
theorem E0_list : E0.data.toList = [] := rfl
theorem E0_size : E0.size = 0 := rfl
theorem val_E0 : val E0.data.toList = 0 := rfl
theorem raw_bad {e : Ey} (h : e.bad = true) (n : Int) : e.raw n = (E0, e) := by simp [Ey.raw, h]
theorem raw_no {e : Ey} (h : e.bad = false) {n : Int} (hn : n < 0 ∨ (e.s.size : Int) < n) : e.raw n = (E0, dark) := by simp [Ey.raw, h, hn]
theorem raw_yes {e : Ey} (h : e.bad = false) {n : Nat} (hn : n ≤ e.s.size) : e.raw n = (e.s.extract 0 n, ⟨e.s.extract n e.s.size, false⟩) := by
  unfold Ey.raw
  rw [if_neg (by simp [h]), if_neg (by omega)]
  rfl
theorem raw_size (e : Ey) (n : Nat) : (e.raw n).1.size ≤ n := by
  unfold Ey.raw
  split
  · exact Nat.zero_le _
  · split
    · exact Nat.zero_le _
    · simp only [ByteArray.size_extract, Int.toNat_natCast]; omega
theorem ok_dark : dark.ok := fun _ => rfl
theorem ok_raw {e : Ey} (h : e.ok) (n : Int) : (e.raw n).2.ok := by
  unfold Ey.raw
  split
  · exact h
  · split
    · exact ok_dark
    · intro h; cases h
theorem ok_get {e : Ey} (h : e.ok) (n : Int) : (e.get n).2.ok := ok_raw h _
theorem ok_wide {e : Ey} (h : e.ok) : e.wide.2.ok := by
  unfold Ey.wide
  split
  · exact ok_dark
  · exact ok_raw h 8
theorem ok_count (e : Ey) (most : Int) : (e.count most).2.ok := by
  unfold Ey.count
  split
  · exact ok_dark
  · unfold behind
    split
    · exact ok_dark
    · intro h; cases h
theorem behind_none (s : ByteArray) : behind s (0, 0) = (0, dark) := rfl
theorem behind_some (s : ByteArray) (v k : Nat) : behind s (v, 1 + k) = (v, ⟨s.extract (1 + k) s.size, false⟩) := by
  unfold behind; rw [if_neg (by show 1 + k ≠ 0; omega)]
/-- the number that is told behind the first byte -/
def told (b : UInt8) (r : List UInt8) : Nat := if szOf b = 0 then b.toNat else val (r.take (szOf b))
theorem counted_cons (b : UInt8) (r : List UInt8) (most : Int) : counted (b :: r) most = if r.length < szOf b then (0, 0) else if 9223372036854775808 ≤ told b r then (0, 0) else
    if most < (told b r : Int) ∨ cnt (told b r : Int) ≠ b :: r.take (szOf b) then (0, 0) else (told b r, 1 + szOf b) := rfl
theorem counted_short {b : UInt8} {r : List UInt8} (most : Int) (h : r.length < szOf b) : counted (b :: r) most = (0, 0) := by
  rw [counted_cons, if_pos h]
theorem counted_great {b : UInt8} {r : List UInt8} (most : Int) (h : ¬ r.length < szOf b) (hv : 9223372036854775808 ≤ told b r) : counted (b :: r) most = (0, 0) := by
  rw [counted_cons, if_neg h, if_pos hv]
theorem ok_name {e : Ey} (h : e.ok) : e.name.2.ok := ok_raw h 32
theorem get_lt (e : Ey) (size : Int) : (e.get size).1 < 72057594037927936 := by
  have h1 := raw_size e (near size 7)
  have h2 := val_lt (e.raw (near size 7)).1.data.toList
  rw [← Lib.size_eq] at h2
  have h3 := (near_le size 7 (by omega)).2
  have h4 : 256 ^ (e.raw (near size 7)).1.size ≤ 256 ^ 7 := Nat.pow_le_pow_right (by omega) (by omega)
  show val (e.raw (near size 7)).1.data.toList < _
  omega
theorem wide_lt (e : Ey) : e.wide.1 < 9223372036854775808 := by
  unfold Ey.wide
  split
  · decide
  · omega
theorem val_8 {s : ByteArray} (h : s.size ≤ 8) : val s.data.toList < 18446744073709551616 := by
  have h2 := val_lt s.data.toList
  rw [← Lib.size_eq] at h2
  have h4 : 256 ^ s.size ≤ 256 ^ 8 := Nat.pow_le_pow_right (by omega) h
  omega
/-! ### counts -/
theorem szOf_253 : szOf 253 = 2 := rfl
theorem szOf_254 : szOf 254 = 4 := rfl
theorem szOf_255 : szOf 255 = 8 := rfl
theorem szOf_other {b : UInt8} (h : b.toNat < 253) : szOf b = 0 := by
  unfold szOf
  rw [if_neg (by intro e; subst e; exact absurd h (by decide)), if_neg (by intro e; subst e; exact absurd h (by decide)), if_neg (by intro e; subst e; exact absurd h (by decide))]
theorem byte_cases (b : UInt8) : b.toNat < 253 ∨ b = 253 ∨ b = 254 ∨ b = 255 := by
  have h := b.toNat_lt
  by_cases h0 : b.toNat < 253
  · exact .inl h0
  · right
    obtain h1 | h1 | h1 : b.toNat = 253 ∨ b.toNat = 254 ∨ b.toNat = 255 := by omega
    · exact .inl (UInt8.toNat_inj.1 h1)
    · exact .inr (.inl (UInt8.toNat_inj.1 h1))
    · exact .inr (.inr (UInt8.toNat_inj.1 h1))
theorem szOf_le (b : UInt8) : szOf b ≤ 8 := by
  rcases byte_cases b with h | rfl | rfl | rfl
  · rw [szOf_other h]; omega
  · decide
  · decide
  · decide
theorem cnt_one {b : UInt8} (h : b.toNat < 253) : cnt (b.toNat : Int) = [b] := by
  unfold cnt
  rw [if_neg (by omega), if_pos (by omega)]
  exact val_inj _ _ rfl (by rw [val_num, u64_nat _ (by omega), Nat.mod_eq_of_lt (by omega)]; simp [val])
theorem cnt_len1 {v : Nat} (h : v < 253) : (cnt (v : Int)).length = 1 := by
  unfold cnt; rw [if_neg (by omega), if_pos (by omega), num_length]
theorem cnt_len3 {v : Nat} (h1 : 253 ≤ v) (h2 : v < 65536) : cnt (v : Int) = 253 :: le 2 v := by
  unfold cnt; rw [if_neg (by omega), if_neg (by omega), if_pos (by omega), num, u64_nat _ (by omega)]
theorem cnt_len5 {v : Nat} (h1 : 65536 ≤ v) (h2 : v < 4294967296) : cnt (v : Int) = 254 :: le 4 v := by
  unfold cnt; rw [if_neg (by omega), if_neg (by omega), if_neg (by omega), if_pos (by omega), num, u64_nat _ (by omega)]
theorem cnt_len9 {v : Nat} (h1 : 4294967296 ≤ v) (h2 : v < 18446744073709551616) : cnt (v : Int) = 255 :: le 8 v := by
  unfold cnt; rw [if_neg (by omega), if_neg (by omega), if_neg (by omega), if_neg (by omega), num, u64_nat _ h2]
/-- the least number that so many bytes may tell -/
def least (b : UInt8) : Nat := if b = 253 then 253 else if b = 254 then 65536 else if b = 255 then 4294967296 else 0
theorem cnt_iff (b : UInt8) (r : List UInt8) (v : Nat) (hr : szOf b ≤ r.length) (hv : v = if szOf b = 0 then b.toNat else val (r.take (szOf b))) : cnt (v : Int) = b :: r.take (szOf b) ↔ least b ≤ v := by
  rcases byte_cases b with h | rfl | rfl | rfl
  · rw [szOf_other h, if_pos rfl] at hv
    subst hv
    have hl : least b = 0 := by
      unfold least
      rw [if_neg (by intro e; subst e; exact absurd h (by decide)), if_neg (by intro e; subst e; exact absurd h (by decide)), if_neg (by intro e; subst e; exact absurd h (by decide))]
    rw [szOf_other h, cnt_one h, hl]
    simp
  · rw [szOf_253, if_neg (by omega)] at hv
    rw [szOf_253] at hr ⊢
    have hl : (r.take 2).length = 2 := by rw [List.length_take]; omega
    have h2 := val_lt (r.take 2)
    rw [hl, ← hv] at h2
    have e := le_val (r.take 2)
    rw [hl, ← hv] at e
    show _ ↔ 253 ≤ v
    constructor
    · intro h
      by_cases hc : v < 253
      · have h3 := cnt_len1 hc
        rw [h, List.length_cons, hl] at h3
        omega
      · omega
    · intro h; rw [cnt_len3 h (by omega), e]
  · rw [szOf_254, if_neg (by omega)] at hv
    rw [szOf_254] at hr ⊢
    have hl : (r.take 4).length = 4 := by rw [List.length_take]; omega
    have h2 := val_lt (r.take 4)
    rw [hl, ← hv] at h2
    have e := le_val (r.take 4)
    rw [hl, ← hv] at e
    show _ ↔ 65536 ≤ v
    constructor
    · intro h
      by_cases hc : v < 253
      · have h3 := cnt_len1 hc
        rw [h, List.length_cons, hl] at h3
        omega
      · by_cases hc2 : v < 65536
        · rw [cnt_len3 (by omega) hc2] at h
          have h3 := congrArg List.length h
          rw [List.length_cons, List.length_cons, le_length, hl] at h3
          omega
        · omega
    · intro h; rw [cnt_len5 h (by omega), e]
  · rw [szOf_255, if_neg (by omega)] at hv
    rw [szOf_255] at hr ⊢
    have hl : (r.take 8).length = 8 := by rw [List.length_take]; omega
    have h2 := val_lt (r.take 8)
    rw [hl, ← hv] at h2
    have e := le_val (r.take 8)
    rw [hl, ← hv] at e
    show _ ↔ 4294967296 ≤ v
    constructor
    · intro h
      by_cases hc : v < 253
      · have h3 := cnt_len1 hc
        rw [h, List.length_cons, hl] at h3
        omega
      · by_cases hc2 : v < 65536
        · rw [cnt_len3 (by omega) hc2] at h
          have h3 := congrArg List.length h
          rw [List.length_cons, List.length_cons, le_length, hl] at h3
          omega
        · by_cases hc3 : v < 4294967296
          · rw [cnt_len5 (by omega) hc3] at h
            have h3 := congrArg List.length h
            rw [List.length_cons, List.length_cons, le_length, hl] at h3
            omega
          · omega
    · intro h; rw [cnt_len9 h (by omega), e]
theorem counted_no {b : UInt8} {r : List UInt8} {most : Int} (h : ¬ r.length < szOf b) (hn : told b r < least b ∨ most < (told b r : Int)) : counted (b :: r) most = (0, 0) := by
  have hc := cnt_iff b r (told b r) (by omega) rfl
  rw [counted_cons, if_neg h]
  split
  · rfl
  · rw [if_pos]
    rcases hn with h1 | h1
    · exact .inr (fun e => absurd (hc.1 e) (by omega))
    · exact .inl h1
theorem counted_yes {b : UInt8} {r : List UInt8} {most : Int} (h : ¬ r.length < szOf b) (hv : told b r < 9223372036854775808) (hl : least b ≤ told b r) (hm : (told b r : Int) ≤ most) : counted (b :: r) most = (told b r, 1 + szOf b) := by
  have hc := cnt_iff b r (told b r) (by omega) rfl
  rw [counted_cons, if_neg h, if_neg (by omega), if_neg]
  · rintro (h1 | h1)
    · omega
    · exact h1 (hc.2 hl)
theorem told_few {b : UInt8} (h : szOf b = 0) (r : List UInt8) : told b r = b.toNat := by unfold told; rw [if_pos h]
theorem told_many {b : UInt8} {k : Nat} (h : szOf b = k) (h0 : k ≠ 0) (r : List UInt8) : told b r = val (r.take k) := by unfold told; rw [if_neg (by omega), h]
theorem least_few {b : UInt8} (h : b.toNat < 253) : least b = 0 := by
  unfold least
  rw [if_neg (by intro e; subst e; exact absurd h (by decide)), if_neg (by intro e; subst e; exact absurd h (by decide)), if_neg (by intro e; subst e; exact absurd h (by decide))]
end Go.Proofs.YtmpllagaeoolaaaDoor.Sc
/-
  scroll's Eye: what it holds in memory; its small calls.
-/
namespace Go.Proofs.YtmpllagaeoolaaaDoor
open Go.RowKit Mem Sc
/-- block b is an eye in this state -/
def EyeAt (w : World) (b : Nat) (e : Ey) : Prop := Has w b #[.string e.s, .bool e.bad] 84
theorem EyeAt.has {w : World} {b : Nat} {e : Ey} (h : EyeAt w b e) : Has w b #[.string e.s, .bool e.bad] 84 := h
theorem EyeAt.lt {w : World} {b : Nat} {e : Ey} (h : EyeAt w b e) : b < w.heap.size := Has.lt h
theorem EyeAt.c0 {w : World} {b : Nat} {e : Ey} (h : EyeAt w b e) : w.cell? ⟨b, 0, none⟩ = some (.string e.s) := h.has.cell 0
theorem EyeAt.c1 {w : World} {b : Nat} {e : Ey} (h : EyeAt w b e) : w.cell? ⟨b, 1, none⟩ = some (.bool e.bad) := h.has.cell 1
theorem EyeAt.below {w w' : World} {b B : Nat} {e : Ey} (h : EyeAt w b e) (hb : Below B w w') (hB : b < B) : EyeAt w' b e := below_has hb h hB
theorem EyeAt.on {w w' : World} {b : Nat} {e : Ey} (h : EyeAt w b e) (hb : Below w.heap.size w w') : EyeAt w' b e := below_has hb h h.lt
theorem EyeAt.grown {w w' : World} {b : Nat} {e : Ey} {r : Option Nat} (h : EyeAt w b e) (hg : w.grownBy w' r) (hn : some b ≠ r) : EyeAt w' b e := gb_has hg h hn
theorem EyeAt.set {w : World} {b : Nat} {e : Ey} (h : EyeAt w b e) (s : ByteArray) : EyeAt (w.setCell ⟨b, 0, none⟩ (.string s)) b ⟨s, e.bad⟩ := h.has.set _
set_option maxHeartbeats 400000 in
theorem nearer (n m : Int) (w : World) : Calls Tryd.prog 61 #[.int .i64 n, .int .i64 m] w fun e w' => e = .returned (.int .i64 (min (max n 1) m)) ∧ w = w' := by
  go_enter Tryd.func61, Tryd.ntmps61
  go_wp2_with fail
  all_goals
    go_ret
    exact ⟨congrArg (fun z => Ending.returned (.int .i64 z)) (by omega), rfl⟩
theorem near_at (n : Int) (most : Nat) (h : 1 ≤ most) (w : World) : Calls Tryd.prog 61 #[.int .i64 n, .int .i64 (most : Int)] w fun e w' => e = .returned (.int .i64 (near n most : Nat)) ∧ w = w' := by
  have := nearer n most w
  rwa [show min (max n 1) (most : Int) = ((near n most : Nat) : Int) by unfold near; omega] at this
set_option maxHeartbeats 400000 in
theorem bad_at (b : Nat) (e : Ey) (w : World) (h : EyeAt w b e) : Calls Tryd.prog 58 #[.pointer (some ⟨b, 0, none⟩)] w fun r w' => r = .returned (.bool e.bad) ∧ w = w' := by
  have c1 := h.c1
  go_enter Tryd.func58, Tryd.ntmps58
  go_wp2_with fail
  go_ret
  exact ⟨rfl, rfl⟩
set_option maxHeartbeats 400000 in
theorem bad_nil (w : World) : Calls Tryd.prog 58 #[.pointer none] w fun r w' => r = .returned (.bool true) ∧ w = w' := by
  go_enter Tryd.func58, Tryd.ntmps58
  go_wp2_with fail
  go_ret
  exact ⟨rfl, rfl⟩
set_option maxHeartbeats 400000 in
theorem left_at (b : Nat) (e : Ey) (w : World) (h : EyeAt w b e) : Calls Tryd.prog 59 #[.pointer (some ⟨b, 0, none⟩)] w fun r w' => r = .returned (.int .i64 (e.s.size : Int)) ∧ w = w' := by
  have c0 := h.c0
  go_enter Tryd.func59, Tryd.ntmps59
  go_wp2_with fail
  go_ret
  exact ⟨rfl, rfl⟩
set_option maxHeartbeats 400000 in
theorem left_nil (w : World) : Calls Tryd.prog 59 #[.pointer none] w fun r w' => r = .returned (.int .i64 0) ∧ w = w' := by
  go_enter Tryd.func59, Tryd.ntmps59
  go_wp2_with fail
  go_ret
  exact ⟨rfl, rfl⟩
set_option maxHeartbeats 400000 in
theorem done_at (b : Nat) (e : Ey) (w : World) (h : EyeAt w b e) (d : Bool) (hd : d = (!e.bad && decide (e.s.size = 0))) : Calls Tryd.prog 37 #[.pointer (some ⟨b, 0, none⟩)] w fun r w' => r = .returned (.bool d) ∧ w = w' := by
  have C1 := Lib.hid (bad_at b e w h)
  have C2 := Lib.hid (left_at b e w h)
  clear h
  subst hd
  obtain ⟨s, bd⟩ := e
  cases bd
  · by_cases hs : s.size = 0
    · have e1 : (((s.size : Nat) : Int) == 0) = true := by rw [beq_iff_eq]; omega
      have e2 : decide (s.size = 0) = true := by simpa using hs
      simp only [e2]
      clear e2 hs
      go_enter Tryd.func37, Tryd.ntmps37
      go_wp2_with fail
      refine C1.out.mono ?_
      rintro r w' ⟨rfl, rfl⟩
      go_wp2_with fail
      refine C2.out.mono ?_
      rintro r w' ⟨rfl, rfl⟩
      go_wp2_with fail
      go_ret
      exact ⟨rfl, rfl⟩
    · have e1 : (((s.size : Nat) : Int) == 0) = false := by rw [beq_eq_false_iff_ne]; omega
      have e2 : decide (s.size = 0) = false := by simpa using hs
      simp only [e2]
      clear e2 hs
      go_enter Tryd.func37, Tryd.ntmps37
      go_wp2_with fail
      refine C1.out.mono ?_
      rintro r w' ⟨rfl, rfl⟩
      go_wp2_with fail
      refine C2.out.mono ?_
      rintro r w' ⟨rfl, rfl⟩
      go_wp2_with fail
      go_ret
      exact ⟨rfl, rfl⟩
  · go_enter Tryd.func37, Tryd.ntmps37
    go_wp2_with fail
    refine C1.out.mono ?_
    rintro r w' ⟨rfl, rfl⟩
    go_wp2_with fail
    go_ret
    exact ⟨rfl, rfl⟩
set_option maxHeartbeats 400000 in
theorem done_nil (w : World) : Calls Tryd.prog 37 #[.pointer none] w fun r w' => r = .returned (.bool false) ∧ w = w' := by
  go_enter Tryd.func37, Tryd.ntmps37
  go_wp2_with fail
  refine (bad_nil w).mono ?_
  rintro r w' ⟨rfl, rfl⟩
  go_wp2_with fail
  go_ret
  exact ⟨rfl, rfl⟩
set_option maxHeartbeats 400000 in
theorem blind_at (b : Nat) (e : Ey) (w : World) (h : EyeAt w b e) : Calls Tryd.prog 76 #[.pointer (some ⟨b, 0, none⟩)] w fun r w' => r = .returned (.tuple #[]) ∧ EyeAt w' b dark ∧ w.grownBy w' (some b) := by
  have c0 := h.c0
  have c1 := h.c1
  have f0 := h.has.free 0
  have f1 := h.has.free 1
  go_enter Tryd.func76, Tryd.ntmps76
  go_wp2_with fail
  go_end0
  exact ⟨rfl, (h.has.set (i := 0) (.string ⟨#[]⟩)).set (i := 1) (.bool true), gb_setCell (gb_setCell (gb_refl _ _) 0 _) 1 _⟩
set_option maxHeartbeats 400000 in
theorem blind_nil (w : World) : Calls Tryd.prog 76 #[.pointer none] w fun r w' => r = .returned (.tuple #[]) ∧ w = w' := by
  go_enter Tryd.func76, Tryd.ntmps76
  go_wp2_with fail
  go_end0
  exact ⟨rfl, rfl⟩
set_option maxHeartbeats 400000 in
theorem on_ (s : ByteArray) (w : World) : Calls Tryd.prog 35 #[.string s] w fun r w' => r = .returned (.pointer (some ⟨w.heap.size, 0, none⟩)) ∧ EyeAt w' w.heap.size ⟨s, false⟩ ∧ Below w.heap.size w w' := by
  go_enter Tryd.func35, Tryd.ntmps35
  go_wp2_with fail
  go_ret
  exact ⟨rfl, Has.new _ _, (Below.refl _ _).alloc (Nat.le_refl _) _⟩
end Go.Proofs.YtmpllagaeoolaaaDoor
/-
  scroll's Eye: Raw, number, Get, Wide.
-/
namespace Go.Proofs.YtmpllagaeoolaaaDoor
open Go.RowKit Mem Sc
/-- what a call that reads an eye leaves -/
def ReadPost (b : Nat) (w : World) (v : Value) (e' : Ey) (r : Ending) (w' : World) : Prop := r = .returned v ∧ EyeAt w' b e' ∧ w.grownBy w' (some b)
set_option maxHeartbeats 400000 in
theorem raw_at (b : Nat) (e : Ey) (n : Int) (w : World) (h : EyeAt w b e) : Calls Tryd.prog 73 #[.pointer (some ⟨b, 0, none⟩), .int .i64 n] w fun r w' => ReadPost b w (.string (e.raw n).1) (e.raw n).2 r w' := by
  have C1 := Lib.hid (bad_at b e w h)
  have C2 := Lib.hid (blind_at b e w h)
  obtain ⟨s, bd⟩ := e
  cases bd
  · by_cases hn : n < 0
    · rw [raw_no rfl (.inl hn)]
      go_enter Tryd.func73, Tryd.ntmps73
      go_wp2_with fail
      refine C1.out.mono ?_
      rintro r w' ⟨rfl, rfl⟩
      go_wp2_with fail
      refine C2.out.mono ?_
      rintro r w' ⟨rfl, hE, hg⟩
      go_wp2_with fail
      go_ret
      exact ⟨rfl, hE, hg⟩
    · have c0 := h.c0
      have f0 := h.has.free 0
      obtain ⟨k, rfl⟩ := Int.eq_ofNat_of_zero_le (show 0 ≤ n by omega)
      have e1 : decide ((k : Int) < 0) = false := decide_eq_false hn
      by_cases hk : k ≤ s.size
      · rw [raw_yes rfl hk]
        have e2 : decide (s.size < k) = false := decide_eq_false (by omega)
        have hk' : (k : Int) ≤ (s.size : Int) := by omega
        have hE := EyeAt.set h (s.extract k s.size)
        clear hn
        go_enter Tryd.func73, Tryd.ntmps73
        go_wp2_with fail
        refine C1.out.mono ?_
        rintro r w' ⟨rfl, rfl⟩
        go_wp2_with fail
        go_ret
        exact ⟨rfl, hE, gb_setCell (gb_refl _ _) 0 _⟩
      · rw [raw_no rfl (.inr (by show (s.size : Int) < _; omega))]
        have e2 : decide (s.size < k) = true := decide_eq_true (by omega)
        clear hn hk
        go_enter Tryd.func73, Tryd.ntmps73
        go_wp2_with fail
        refine C1.out.mono ?_
        rintro r w' ⟨rfl, rfl⟩
        go_wp2_with fail
        refine C2.out.mono ?_
        rintro r w' ⟨rfl, hE, hg⟩
        go_wp2_with fail
        go_ret
        exact ⟨rfl, hE, hg⟩
  · rw [raw_bad rfl]
    go_enter Tryd.func73, Tryd.ntmps73
    go_wp2_with fail
    refine C1.out.mono ?_
    rintro r w' ⟨rfl, rfl⟩
    go_wp2_with fail
    go_ret
    exact ⟨rfl, h, gb_refl _ _⟩
set_option maxHeartbeats 400000 in
theorem raw_nil (n : Int) (w : World) : Calls Tryd.prog 73 #[.pointer none, .int .i64 n] w fun r w' => r = .returned (.string E0) ∧ w = w' := by
  go_enter Tryd.func73, Tryd.ntmps73
  go_wp2_with fail
  refine (bad_nil w).mono ?_
  rintro r w' ⟨rfl, rfl⟩
  go_wp2_with fail
  go_ret
  exact ⟨rfl, rfl⟩
/-! ### the number that bytes are -/
theorem or_next (a x i : Nat) (ha : a < 256 ^ i) : a ||| x * 256 ^ i = a + 256 ^ i * x := by
  have h : 256 ^ i = 2 ^ (8 * i) := by rw [Nat.pow_mul]
  rw [h] at ha ⊢
  have := Nat.two_pow_add_eq_or_of_lt ha x
  rw [Nat.or_comm, Nat.mul_comm x, ← this]; omega
theorem or_u64 (a c : Nat) (ha : a < 18446744073709551616) (hc : c < 18446744073709551616) : bits .or .u64 (a : Int) (c : Int) = ((a ||| c : Nat) : Int) := by
  have h : a ||| c < 2 ^ 64 := Nat.or_lt_two_pow ha hc
  show IntKind.u64.wrap ((BitVec.ofInt 64 (a : Int) ||| BitVec.ofInt 64 (c : Int)).toNat : Int) = _
  rw [BitVec.ofInt_natCast, BitVec.ofInt_natCast, BitVec.toNat_or, BitVec.toNat_ofNat, BitVec.toNat_ofNat, Nat.mod_eq_of_lt (by omega), Nat.mod_eq_of_lt (by omega), IntKind.wrap_u64]
  omega
theorem val_take_succ (l : List UInt8) (k : Nat) (hk : k < l.length) : val (l.take (k + 1)) = val (l.take k) + 256 ^ k * l[k].toNat := by
  rw [List.take_succ_eq_append_getElem hk, val_snoc, List.length_take, Nat.min_eq_left (by omega)]
theorem or_step (l : List UInt8) (k : Nat) (hl : k < l.length) (h8 : k < 8) (x : Nat) (hx : x = l[k].toNat) :
    bits .or .u64 (val (l.take k) : Nat) (IntKind.u64.wrap (IntKind.u64.wrap (x : Int) * 2 ^ (8 * k))) = ((val (l.take (k + 1)) : Nat) : Int) := by
  have hb := l[k].toNat_lt
  rw [← hx] at hb
  have hv := val_lt (l.take k)
  rw [List.length_take, Nat.min_eq_left (by omega)] at hv
  have h256 : 256 ^ k = 2 ^ (8 * k) := by rw [Nat.pow_mul]
  have hp : 256 ^ k ≤ 256 ^ 7 := Nat.pow_le_pow_right (by omega) (by omega)
  have hm : x * 256 ^ k < 18446744073709551616 := by
    have : x * 256 ^ k ≤ 255 * 256 ^ 7 := Nat.mul_le_mul (by omega) hp
    omega
  have e1 : IntKind.u64.wrap (x : Int) = (x : Int) := by rw [IntKind.wrap_u64]; omega
  have e2 : (x : Int) * 2 ^ (8 * k) = ((x * 256 ^ k : Nat) : Int) := by rw [h256]; simp
  have e3 : IntKind.u64.wrap ((x * 256 ^ k : Nat) : Int) = ((x * 256 ^ k : Nat) : Int) := by rw [IntKind.wrap_u64]; omega
  rw [e1, e2, e3, or_u64 _ _ (by omega) hm, or_next _ _ _ hv, val_take_succ l k hl, hx]
set_option maxHeartbeats 400000 in
theorem number_at (s : ByteArray) (hs : s.size ≤ 8) (w : World) : Calls Tryd.prog 72 #[.string s] w fun r w' => r = .returned (.int .u64 (val s.data.toList : Int)) ∧ w = w' := by
  go_enter Tryd.func72, Tryd.ntmps72
  go_wp2_with fail
  go_loop [3, 7] (fun o i => ∃ k : Nat, k ≤ s.size ∧ i = .int .i64 k ∧ o = .int .u64 (val (s.data.toList.take k) : Nat)) (fun _ i => s.size - (intOf i).toNat)
  case atStart => exact ⟨0, Nat.zero_le _, rfl, rfl⟩
  case round =>
    obtain ⟨k, hk, rfl, rfl⟩ := hrel
    by_cases hlt : k < s.size
    · have hl : k < s.data.toList.length := by rw [← Lib.size_eq]; exact hlt
      go_wp2_with fail
      exact ⟨⟨k + 1, hlt, by go_num, congrArg (Value.int .u64) (or_step s.data.toList k hl (by omega) _ rfl)⟩, by simp [intOf]; omega⟩
    · obtain rfl : k = s.size := by omega
      go_wp2_with fail
      go_ret
      exact ⟨congrArg (fun l => Ending.returned (.int .u64 (val l : Int))) (List.take_of_length_le (by rw [← Lib.size_eq]; omega)), rfl⟩
/-! ### numbers that are read -/
set_option maxHeartbeats 400000 in
theorem get_at (b : Nat) (e : Ey) (n : Int) (w : World) (h : EyeAt w b e) : Calls Tryd.prog 52 #[.pointer (some ⟨b, 0, none⟩), .int .i64 n] w fun r w' => ReadPost b w (.int .i64 ((e.get n).1 : Nat)) (e.get n).2 r w' := by
  have hlt := get_lt e n
  have hsz := raw_size e (near n 7)
  have hn7 := (near_le n 7 (by omega)).2
  have C1 := Lib.hid (near_at n 7 (by omega) w)
  have C2 := Lib.hid (raw_at b e (near n 7 : Nat) w h)
  have C3 := Lib.hid (number_at (e.raw (near n 7 : Nat)).1 (by omega))
  unfold Ey.get at *
  clear hsz hn7 h
  generalize near n 7 = m at *
  generalize e.raw (m : Nat) = q at *
  obtain ⟨s, e'⟩ := q
  simp only at *
  generalize val s.data.toList = v at *
  go_enter Tryd.func52, Tryd.ntmps52
  go_wp2_with fail
  refine C1.out.mono ?_
  rintro r w' ⟨rfl, rfl⟩
  go_wp2_with fail
  refine C2.out.mono ?_
  rintro r w2 ⟨rfl, hE, hg⟩
  go_wp2_with fail
  refine (C3.out _).mono ?_
  rintro r w3 ⟨rfl, rfl⟩
  go_wp2_with fail
  go_ret
  exact ⟨rfl, hE, hg⟩
set_option maxHeartbeats 400000 in
theorem get_nil (n : Int) (w : World) : Calls Tryd.prog 52 #[.pointer none, .int .i64 n] w fun r w' => r = .returned (.int .i64 0) ∧ w = w' := by
  have C1 := Lib.hid (near_at n 7 (by omega) w)
  have C3 := Lib.hid (number_at E0 (by decide) w)
  generalize near n 7 = m at *
  go_enter Tryd.func52, Tryd.ntmps52
  go_wp2_with fail
  refine C1.out.mono ?_
  rintro r w' ⟨rfl, rfl⟩
  go_wp2_with fail
  refine (raw_nil _ _).mono ?_
  rintro r w' ⟨rfl, rfl⟩
  go_wp2_with fail
  refine C3.out.mono ?_
  rintro r w' ⟨rfl, rfl⟩
  rw [val_E0]
  go_wp2_with fail
  go_ret
  exact ⟨rfl, rfl⟩
set_option maxHeartbeats 400000 in
theorem wide_at (b : Nat) (e : Ey) (w : World) (h : EyeAt w b e) : Calls Tryd.prog 87 #[.pointer (some ⟨b, 0, none⟩)] w fun r w' => ReadPost b w (.int .i64 (e.wide.1 : Nat)) e.wide.2 r w' := by
  have hsz : (e.raw 8).1.size ≤ 8 := raw_size e 8
  have hv8 := val_8 hsz
  have C2 := Lib.hid (raw_at b e 8 w h)
  have C3 := Lib.hid (number_at (e.raw 8).1 hsz)
  unfold Ey.wide at *
  clear hsz h
  generalize e.raw 8 = q at *
  obtain ⟨s, e'⟩ := q
  simp only at *
  generalize val s.data.toList = v at *
  by_cases hv : 9223372036854775808 ≤ v
  · rw [if_pos hv]
    have t1 : decide ((9223372036854775807 : Int) < (v : Int)) = true := decide_eq_true (by omega)
    clear hv
    go_enter Tryd.func87, Tryd.ntmps87
    go_wp2_with fail
    refine C2.out.mono ?_
    rintro r w2 ⟨rfl, hE, hg⟩
    go_wp2_with fail
    refine (C3.out _).mono ?_
    rintro r w3 ⟨rfl, rfl⟩
    go_wp2_with fail
    refine (blind_at b e' _ hE).mono ?_
    rintro r w3 ⟨rfl, hE3, hg3⟩
    go_wp2_with fail
    go_ret
    exact ⟨rfl, hE3, gb_trans hg hg3⟩
  · rw [if_neg hv]
    have t1 : decide ((9223372036854775807 : Int) < (v : Int)) = false := decide_eq_false (by omega)
    have hv' : v ≤ 9223372036854775807 := by omega
    clear hv
    go_enter Tryd.func87, Tryd.ntmps87
    go_wp2_with fail
    refine C2.out.mono ?_
    rintro r w2 ⟨rfl, hE, hg⟩
    go_wp2_with fail
    refine (C3.out _).mono ?_
    rintro r w3 ⟨rfl, rfl⟩
    go_wp2_with fail
    go_ret
    exact ⟨rfl, hE, hg⟩
set_option maxHeartbeats 400000 in
theorem wide_nil (w : World) : Calls Tryd.prog 87 #[.pointer none] w fun r w' => r = .returned (.int .i64 0) ∧ w = w' := by
  have C3 := Lib.hid (number_at E0 (by decide) w)
  go_enter Tryd.func87, Tryd.ntmps87
  go_wp2_with fail
  refine (raw_nil _ _).mono ?_
  rintro r w' ⟨rfl, rfl⟩
  go_wp2_with fail
  refine C3.out.mono ?_
  rintro r w' ⟨rfl, rfl⟩
  rw [val_E0]
  go_wp2_with fail
  go_ret
  exact ⟨rfl, rfl⟩
end Go.Proofs.YtmpllagaeoolaaaDoor
/-
  scroll's Eye: Count.
-/
namespace Go.Proofs.YtmpllagaeoolaaaDoor
open Go.RowKit Mem Sc
/-- as the program counts: the number, the least one that may stand there, the eye -/
def Sc.Ey.body (e : Ey) : Nat × Nat × Ey :=
  if (e.get 1).1 = 253 then (((e.get 1).2.get 2).1, 253, ((e.get 1).2.get 2).2) else
  if (e.get 1).1 = 254 then (((e.get 1).2.get 4).1, 65536, ((e.get 1).2.get 4).2) else
  if (e.get 1).1 = 255 then ((e.get 1).2.wide.1, 4294967296, (e.get 1).2.wide.2) else ((e.get 1).1, 0, (e.get 1).2)
def Sc.Ey.count' (e : Ey) (most : Int) : Nat × Ey := if e.body.1 < e.body.2.1 ∨ most < (e.body.1 : Int) then (0, dark) else (e.body.1, e.body.2.2)
theorem ba_ext {a b : ByteArray} (h : a.data.toList = b.data.toList) : a = b := by
  apply ByteArray.ext
  exact Array.toList_inj.1 h
theorem body_bad {e : Ey} (h : e.bad = true) : e.body = (0, 0, e) := by
  have h1 : e.get 1 = (0, e) := by unfold Ey.get; rw [raw_bad h]; rfl
  simp [Ey.body, h1]
theorem body_none {e : Ey} (h : e.bad = false) (hs : e.s.size = 0) : e.body = (0, 0, dark) := by
  have h1 : e.get 1 = (0, dark) := by
    unfold Ey.get
    rw [show ((near 1 7 : Nat) : Int) = 1 from rfl, raw_no h (.inr (by omega))]; rfl
  simp [Ey.body, h1]
theorem get1_some {s : ByteArray} {b : UInt8} {r : List UInt8} (hs : s.data.toList = b :: r) : Ey.get ⟨s, false⟩ 1 = (b.toNat, ⟨s.extract 1 s.size, false⟩) := by
  have hsz : s.size = r.length + 1 := by rw [Lib.size_eq, hs, List.length_cons]
  unfold Ey.get
  rw [show ((near 1 7 : Nat) : Int) = ((1 : Nat) : Int) from rfl, raw_yes rfl (by show 1 ≤ s.size; omega)]
  show (val (s.extract 0 1).data.toList, _) = _
  rw [Lib.extract_data, hs]
  simp [val]
theorem rest1 {s : ByteArray} {b : UInt8} {r : List UInt8} (hs : s.data.toList = b :: r) : (s.extract 1 s.size).data.toList = r := by
  rw [Lib.extract_to_end, hs]; rfl
theorem rest_more {s t : ByteArray} {r : List UInt8} {b : UInt8} (k : Nat) (hs : s.data.toList = b :: r) (ht : t.data.toList = r) : t.extract k t.size = s.extract (1 + k) s.size := by
  apply ba_ext
  rw [Lib.extract_to_end, Lib.extract_to_end, hs, ht, Nat.add_comm 1 k]; rfl
theorem get_rest {t : ByteArray} {r : List UInt8} (ht : t.data.toList = r) (k : Nat) (h1 : 1 ≤ k) (h7 : k ≤ 7) :
    Ey.get ⟨t, false⟩ k = if r.length < k then (0, dark) else (val (r.take k), ⟨t.extract k t.size, false⟩) := by
  have hsz : t.size = r.length := by rw [Lib.size_eq, ht]
  have hn : near k 7 = k := by rw [near_self _ _ (by omega) (by omega)]; rfl
  unfold Ey.get
  rw [hn]
  by_cases h : r.length < k
  · rw [if_pos h, raw_no rfl (.inr (by show (t.size : Int) < _; omega))]; rfl
  · rw [if_neg h, raw_yes rfl (by show k ≤ t.size; omega)]
    show (val (t.extract 0 k).data.toList, _) = _
    rw [Lib.extract_data, ht]; rfl
theorem wide_rest {t : ByteArray} {r : List UInt8} (ht : t.data.toList = r) :
    Ey.wide ⟨t, false⟩ = if r.length < 8 then (0, dark) else if 9223372036854775808 ≤ val (r.take 8) then (0, dark) else (val (r.take 8), ⟨t.extract 8 t.size, false⟩) := by
  have hsz : t.size = r.length := by rw [Lib.size_eq, ht]
  unfold Ey.wide
  by_cases h : r.length < 8
  · rw [if_pos h, raw_no rfl (.inr (by show (t.size : Int) < _; omega))]; rfl
  · have e8 : Ey.raw ⟨t, false⟩ 8 = (t.extract 0 8, ⟨t.extract 8 t.size, false⟩) := raw_yes (n := 8) rfl (by show 8 ≤ t.size; omega)
    have e9 : val (t.extract 0 8).data.toList = val (r.take 8) := by rw [Lib.extract_data, ht]; rfl
    rw [if_neg h, e8]
    simp only [e9]
theorem toNat_253 : (253 : UInt8).toNat = 253 := rfl
theorem toNat_254 : (254 : UInt8).toNat = 254 := rfl
theorem toNat_255 : (255 : UInt8).toNat = 255 := rfl
theorem count_eq (e : Ey) (hok : e.ok) (most : Int) : e.count' most = e.count most := by
  obtain ⟨s, bd⟩ := e
  cases bd
  · unfold Ey.count
    rw [if_neg (by simp)]
    show _ = behind s (counted s.data.toList most)
    cases hs : s.data.toList with
    | nil =>
      unfold Ey.count'
      rw [body_none rfl (by show s.size = 0; rw [Lib.size_eq, hs]; rfl)]
      show (if _ then _ else (0, dark)) = (0, dark)
      split <;> rfl
    | cons b r =>
      have ht := rest1 hs
      have g1 := get1_some hs
      have hm := fun k => rest_more k hs ht
      generalize s.extract 1 s.size = t at *
      rcases byte_cases b with hb | rfl | rfl | rfl
      · have hbody : Ey.body ⟨s, false⟩ = (b.toNat, 0, ⟨t, false⟩) := by
          unfold Ey.body
          rw [g1, if_neg (by show b.toNat ≠ _; omega), if_neg (by show b.toNat ≠ _; omega), if_neg (by show b.toNat ≠ _; omega)]
        unfold Ey.count'
        rw [hbody]
        have ht1 : t = s.extract (1 + 0) s.size := by
          rw [← hm 0]
          apply ba_ext
          rw [Lib.extract_to_end]; rfl
        have h0 := szOf_other hb
        have e1 := told_few h0 r
        have e2 := least_few hb
        by_cases hq : most < (b.toNat : Int)
        · rw [counted_no (by omega) (.inr (by rw [e1]; exact hq)), behind_none, if_pos (.inr hq)]
        · rw [counted_yes (by omega) (by omega) (by omega) (by omega), h0, behind_some, e1, ← ht1, if_neg (by show ¬ (b.toNat < 0 ∨ most < (b.toNat : Int)); omega)]
      · have hbody : Ey.body ⟨s, false⟩ = ((Ey.get ⟨t, false⟩ 2).1, 253, (Ey.get ⟨t, false⟩ 2).2) := by
          unfold Ey.body
          rw [g1]
          show (if (253 : Nat) = 253 then _ else if (253 : Nat) = 254 then _ else if (253 : Nat) = 255 then _ else _) = _
          rw [if_pos (by decide)]
        unfold Ey.count'
        rw [hbody, show Ey.get ⟨t, false⟩ 2 = _ from get_rest ht 2 (by omega) (by omega)]
        have e1 : told 253 r = val (r.take 2) := told_many szOf_253 (by omega) r
        have e2 : least 253 = 253 := rfl
        have e3 := szOf_253
        by_cases hl : r.length < 2
        · rw [counted_short most (by omega), behind_none, if_pos hl]
          rw [if_pos (.inl (by show 0 < 253; omega))]
        · rw [if_neg hl]
          have hv := val_lt (r.take 2)
          rw [List.length_take, Nat.min_eq_left (by omega)] at hv
          by_cases hq : val (r.take 2) < 253 ∨ most < (val (r.take 2) : Int)
          · rw [counted_no (by omega) (by rw [e1, e2]; exact hq), behind_none, if_pos hq]
          · rw [counted_yes (by omega) (by omega) (by omega) (by omega), e3, behind_some, e1, ← hm, if_neg hq]
      · have hbody : Ey.body ⟨s, false⟩ = ((Ey.get ⟨t, false⟩ 4).1, 65536, (Ey.get ⟨t, false⟩ 4).2) := by
          unfold Ey.body
          rw [g1]
          show (if (254 : Nat) = 253 then _ else if (254 : Nat) = 254 then _ else if (254 : Nat) = 255 then _ else _) = _
          rw [if_neg (by decide), if_pos (by decide)]
        unfold Ey.count'
        rw [hbody, show Ey.get ⟨t, false⟩ 4 = _ from get_rest ht 4 (by omega) (by omega)]
        have e1 : told 254 r = val (r.take 4) := told_many szOf_254 (by omega) r
        have e2 : least 254 = 65536 := rfl
        have e3 := szOf_254
        by_cases hl : r.length < 4
        · rw [counted_short most (by omega), behind_none, if_pos hl]
          rw [if_pos (.inl (by show 0 < 65536; omega))]
        · rw [if_neg hl]
          have hv := val_lt (r.take 4)
          rw [List.length_take, Nat.min_eq_left (by omega)] at hv
          by_cases hq : val (r.take 4) < 65536 ∨ most < (val (r.take 4) : Int)
          · rw [counted_no (by omega) (by rw [e1, e2]; exact hq), behind_none, if_pos hq]
          · rw [counted_yes (by omega) (by omega) (by omega) (by omega), e3, behind_some, e1, ← hm, if_neg hq]
      · have hbody : Ey.body ⟨s, false⟩ = ((Ey.wide ⟨t, false⟩).1, 4294967296, (Ey.wide ⟨t, false⟩).2) := by
          unfold Ey.body
          rw [g1]
          show (if (255 : Nat) = 253 then _ else if (255 : Nat) = 254 then _ else if (255 : Nat) = 255 then _ else _) = _
          rw [if_neg (by decide), if_neg (by decide), if_pos (by decide)]
        unfold Ey.count'
        rw [hbody, wide_rest ht]
        have e1 : told 255 r = val (r.take 8) := told_many szOf_255 (by omega) r
        have e2 : least 255 = 4294967296 := rfl
        have e3 := szOf_255
        by_cases hl : r.length < 8
        · rw [counted_short most (by omega), behind_none, if_pos hl]
          rw [if_pos (.inl (by show 0 < 4294967296; omega))]
        · rw [if_neg hl]
          by_cases h63 : 9223372036854775808 ≤ val (r.take 8)
          · rw [counted_great most (by omega) (by omega), behind_none, if_pos h63]
            rw [if_pos (.inl (by show 0 < 4294967296; omega))]
          rw [if_neg h63]
          by_cases hq : val (r.take 8) < 4294967296 ∨ most < (val (r.take 8) : Int)
          · rw [counted_no (by omega) (by rw [e1, e2]; exact hq), behind_none, if_pos hq]
          · rw [counted_yes (by omega) (by omega) (by omega) (by omega), e3, behind_some, e1, ← hm, if_neg hq]
  · have hs0 : s = E0 := hok rfl
    subst hs0
    unfold Ey.count Ey.count'
    rw [if_pos rfl, body_bad rfl]
    by_cases h : most < ((0 : Nat) : Int)
    · rw [if_pos (.inr h)]
    · rw [if_neg (by show ¬ (0 < 0 ∨ most < ((0 : Nat) : Int)); omega)]; rfl
set_option maxHeartbeats 400000 in
theorem count_nil (most : Int) (w : World) : Calls Tryd.prog 74 #[.pointer none, .int .i64 most] w fun r w' => r = .returned (.int .i64 0) ∧ w = w' := by
  by_cases hm : most < 0
  · have t2 : decide (most < 0) = true := decide_eq_true hm
    go_enter Tryd.func74, Tryd.ntmps74
    go_wp2_with fail
    refine (get_nil _ _).mono ?_
    rintro r w' ⟨rfl, rfl⟩
    go_wp2_with fail
    refine (blind_nil _).mono ?_
    rintro r w' ⟨rfl, rfl⟩
    go_wp2_with fail
    go_ret
    exact ⟨rfl, rfl⟩
  · have t2 : decide (most < 0) = false := decide_eq_false hm
    go_enter Tryd.func74, Tryd.ntmps74
    go_wp2_with fail
    refine (get_nil _ _).mono ?_
    rintro r w' ⟨rfl, rfl⟩
    go_wp2_with fail
    go_ret
    exact ⟨rfl, rfl⟩
set_option maxHeartbeats 400000 in
theorem count_one_over (b : Nat) (most : Int) (w : World) (e : Ey) (v1 : Nat) (e1 : Ey) (h1 : e.get 1 = (v1, e1)) (hv1 : v1 < 253 ∨ 255 < v1) (hq :  (most < (v1 : Int))) (h : EyeAt w b e) :
    Calls Tryd.prog 74 #[.pointer (some ⟨b, 0, none⟩), .int .i64 most] w fun r w' => ReadPost b w (.int .i64 0) dark r w' := by
  have C1 := Lib.hid (get_at b e 1 w h)
  rw [h1] at C1
  clear h1 h
  have t253 : ((v1 : Int) == 253) = false := by rw [beq_eq_false_iff_ne]; omega
  have t254 : ((v1 : Int) == 254) = false := by rw [beq_eq_false_iff_ne]; omega
  have t255 : ((v1 : Int) == 255) = false := by rw [beq_eq_false_iff_ne]; omega
  have t1 : decide ((v1 : Int) < 0) = false := decide_eq_false (by omega)
  have t2 : decide (most < (v1 : Int)) = true := decide_eq_true hq
  clear hv1 hq
  go_enter Tryd.func74, Tryd.ntmps74
  go_wp2_with fail
  refine C1.out.mono ?_
  rintro r w1 ⟨rfl, hE, hg⟩
  go_wp2_with fail
  refine (blind_at b _ _ hE).mono ?_
  rintro r w3 ⟨rfl, hE3, hg3⟩
  go_wp2_with fail
  go_ret
  exact ⟨rfl, hE3, gb_trans (hg) hg3⟩
set_option maxHeartbeats 400000 in
theorem count_one_good (b : Nat) (most : Int) (w : World) (e : Ey) (v1 : Nat) (e1 : Ey) (h1 : e.get 1 = (v1, e1)) (hv1 : v1 < 253 ∨ 255 < v1) (hq : ¬ (most < (v1 : Int))) (h : EyeAt w b e) :
    Calls Tryd.prog 74 #[.pointer (some ⟨b, 0, none⟩), .int .i64 most] w fun r w' => ReadPost b w (.int .i64 (v1 : Nat)) e1 r w' := by
  have C1 := Lib.hid (get_at b e 1 w h)
  rw [h1] at C1
  clear h1 h
  have t253 : ((v1 : Int) == 253) = false := by rw [beq_eq_false_iff_ne]; omega
  have t254 : ((v1 : Int) == 254) = false := by rw [beq_eq_false_iff_ne]; omega
  have t255 : ((v1 : Int) == 255) = false := by rw [beq_eq_false_iff_ne]; omega
  have t1 : decide ((v1 : Int) < 0) = false := decide_eq_false (by omega)
  have t2 : decide (most < (v1 : Int)) = false := decide_eq_false hq
  clear hv1 hq
  go_enter Tryd.func74, Tryd.ntmps74
  go_wp2_with fail
  refine C1.out.mono ?_
  rintro r w1 ⟨rfl, hE, hg⟩
  go_wp2_with fail
  go_ret
  exact ⟨rfl, hE, hg⟩
set_option maxHeartbeats 400000 in
theorem count_253_low (b : Nat) (most : Int) (w : World) (e : Ey) (v1 : Nat) (e1 : Ey) (h1 : e.get 1 = (v1, e1)) (hv1 : v1 = 253) (v : Nat) (e2 : Ey) (h2 : e1.get 2 = (v, e2)) (hl : v < 253) (_ : v < 9223372036854775808) (h : EyeAt w b e) :
    Calls Tryd.prog 74 #[.pointer (some ⟨b, 0, none⟩), .int .i64 most] w fun r w' => ReadPost b w (.int .i64 0) dark r w' := by
  have C1 := Lib.hid (get_at b e 1 w h)
  rw [h1] at C1
  clear h1 h
  subst hv1
  have C2 : Hid (∀ w, EyeAt w b e1 → Calls Tryd.prog 52 #[.pointer (some ⟨b, 0, none⟩), .int .i64 2] w fun r w' => ReadPost b w (.int .i64 (v : Nat)) e2 r w') := Lib.hid (fun w h => by
    have := get_at b e1 2 w h
    rwa [h2] at this)
  clear h2
  have t1 : decide ((v : Int) < 253) = true := decide_eq_true (by omega)
  clear hl
  go_enter Tryd.func74, Tryd.ntmps74
  go_wp2_with fail
  refine C1.out.mono ?_
  rintro r w1 ⟨rfl, hE, hg⟩
  go_wp2_with fail
  refine (C2.out _ hE).mono ?_
  rintro r w2 ⟨rfl, hE2, hg2⟩
  go_wp2_with fail
  refine (blind_at b _ _ hE2).mono ?_
  rintro r w3 ⟨rfl, hE3, hg3⟩
  go_wp2_with fail
  go_ret
  exact ⟨rfl, hE3, gb_trans (gb_trans hg hg2) hg3⟩
set_option maxHeartbeats 400000 in
theorem count_253_over (b : Nat) (most : Int) (w : World) (e : Ey) (v1 : Nat) (e1 : Ey) (h1 : e.get 1 = (v1, e1)) (hv1 : v1 = 253) (v : Nat) (e2 : Ey) (h2 : e1.get 2 = (v, e2)) (hl : 253 ≤ v) (hq :  (most < (v : Int))) (_ : v < 9223372036854775808) (h : EyeAt w b e) :
    Calls Tryd.prog 74 #[.pointer (some ⟨b, 0, none⟩), .int .i64 most] w fun r w' => ReadPost b w (.int .i64 0) dark r w' := by
  have C1 := Lib.hid (get_at b e 1 w h)
  rw [h1] at C1
  clear h1 h
  subst hv1
  have C2 : Hid (∀ w, EyeAt w b e1 → Calls Tryd.prog 52 #[.pointer (some ⟨b, 0, none⟩), .int .i64 2] w fun r w' => ReadPost b w (.int .i64 (v : Nat)) e2 r w') := Lib.hid (fun w h => by
    have := get_at b e1 2 w h
    rwa [h2] at this)
  clear h2
  have t1 : decide ((v : Int) < 253) = false := decide_eq_false (by omega)
  have t2 : decide (most < (v : Int)) = true := decide_eq_true hq
  clear hl hq
  go_enter Tryd.func74, Tryd.ntmps74
  go_wp2_with fail
  refine C1.out.mono ?_
  rintro r w1 ⟨rfl, hE, hg⟩
  go_wp2_with fail
  refine (C2.out _ hE).mono ?_
  rintro r w2 ⟨rfl, hE2, hg2⟩
  go_wp2_with fail
  refine (blind_at b _ _ hE2).mono ?_
  rintro r w3 ⟨rfl, hE3, hg3⟩
  go_wp2_with fail
  go_ret
  exact ⟨rfl, hE3, gb_trans (gb_trans hg hg2) hg3⟩
set_option maxHeartbeats 400000 in
theorem count_253_good (b : Nat) (most : Int) (w : World) (e : Ey) (v1 : Nat) (e1 : Ey) (h1 : e.get 1 = (v1, e1)) (hv1 : v1 = 253) (v : Nat) (e2 : Ey) (h2 : e1.get 2 = (v, e2)) (hl : 253 ≤ v) (hq : ¬ (most < (v : Int))) (_ : v < 9223372036854775808) (h : EyeAt w b e) :
    Calls Tryd.prog 74 #[.pointer (some ⟨b, 0, none⟩), .int .i64 most] w fun r w' => ReadPost b w (.int .i64 (v : Nat)) e2 r w' := by
  have C1 := Lib.hid (get_at b e 1 w h)
  rw [h1] at C1
  clear h1 h
  subst hv1
  have C2 : Hid (∀ w, EyeAt w b e1 → Calls Tryd.prog 52 #[.pointer (some ⟨b, 0, none⟩), .int .i64 2] w fun r w' => ReadPost b w (.int .i64 (v : Nat)) e2 r w') := Lib.hid (fun w h => by
    have := get_at b e1 2 w h
    rwa [h2] at this)
  clear h2
  have t1 : decide ((v : Int) < 253) = false := decide_eq_false (by omega)
  have t2 : decide (most < (v : Int)) = false := decide_eq_false hq
  clear hl hq
  go_enter Tryd.func74, Tryd.ntmps74
  go_wp2_with fail
  refine C1.out.mono ?_
  rintro r w1 ⟨rfl, hE, hg⟩
  go_wp2_with fail
  refine (C2.out _ hE).mono ?_
  rintro r w2 ⟨rfl, hE2, hg2⟩
  go_wp2_with fail
  go_ret
  exact ⟨rfl, hE2, gb_trans hg hg2⟩
set_option maxHeartbeats 400000 in
theorem count_254_low (b : Nat) (most : Int) (w : World) (e : Ey) (v1 : Nat) (e1 : Ey) (h1 : e.get 1 = (v1, e1)) (hv1 : v1 = 254) (v : Nat) (e2 : Ey) (h2 : e1.get 4 = (v, e2)) (hl : v < 65536) (_ : v < 9223372036854775808) (h : EyeAt w b e) :
    Calls Tryd.prog 74 #[.pointer (some ⟨b, 0, none⟩), .int .i64 most] w fun r w' => ReadPost b w (.int .i64 0) dark r w' := by
  have C1 := Lib.hid (get_at b e 1 w h)
  rw [h1] at C1
  clear h1 h
  subst hv1
  have C2 : Hid (∀ w, EyeAt w b e1 → Calls Tryd.prog 52 #[.pointer (some ⟨b, 0, none⟩), .int .i64 4] w fun r w' => ReadPost b w (.int .i64 (v : Nat)) e2 r w') := Lib.hid (fun w h => by
    have := get_at b e1 4 w h
    rwa [h2] at this)
  clear h2
  have t1 : decide ((v : Int) < 65536) = true := decide_eq_true (by omega)
  clear hl
  go_enter Tryd.func74, Tryd.ntmps74
  go_wp2_with fail
  refine C1.out.mono ?_
  rintro r w1 ⟨rfl, hE, hg⟩
  go_wp2_with fail
  refine (C2.out _ hE).mono ?_
  rintro r w2 ⟨rfl, hE2, hg2⟩
  go_wp2_with fail
  refine (blind_at b _ _ hE2).mono ?_
  rintro r w3 ⟨rfl, hE3, hg3⟩
  go_wp2_with fail
  go_ret
  exact ⟨rfl, hE3, gb_trans (gb_trans hg hg2) hg3⟩
set_option maxHeartbeats 400000 in
theorem count_254_over (b : Nat) (most : Int) (w : World) (e : Ey) (v1 : Nat) (e1 : Ey) (h1 : e.get 1 = (v1, e1)) (hv1 : v1 = 254) (v : Nat) (e2 : Ey) (h2 : e1.get 4 = (v, e2)) (hl : 65536 ≤ v) (hq :  (most < (v : Int))) (_ : v < 9223372036854775808) (h : EyeAt w b e) :
    Calls Tryd.prog 74 #[.pointer (some ⟨b, 0, none⟩), .int .i64 most] w fun r w' => ReadPost b w (.int .i64 0) dark r w' := by
  have C1 := Lib.hid (get_at b e 1 w h)
  rw [h1] at C1
  clear h1 h
  subst hv1
  have C2 : Hid (∀ w, EyeAt w b e1 → Calls Tryd.prog 52 #[.pointer (some ⟨b, 0, none⟩), .int .i64 4] w fun r w' => ReadPost b w (.int .i64 (v : Nat)) e2 r w') := Lib.hid (fun w h => by
    have := get_at b e1 4 w h
    rwa [h2] at this)
  clear h2
  have t1 : decide ((v : Int) < 65536) = false := decide_eq_false (by omega)
  have t2 : decide (most < (v : Int)) = true := decide_eq_true hq
  clear hl hq
  go_enter Tryd.func74, Tryd.ntmps74
  go_wp2_with fail
  refine C1.out.mono ?_
  rintro r w1 ⟨rfl, hE, hg⟩
  go_wp2_with fail
  refine (C2.out _ hE).mono ?_
  rintro r w2 ⟨rfl, hE2, hg2⟩
  go_wp2_with fail
  refine (blind_at b _ _ hE2).mono ?_
  rintro r w3 ⟨rfl, hE3, hg3⟩
  go_wp2_with fail
  go_ret
  exact ⟨rfl, hE3, gb_trans (gb_trans hg hg2) hg3⟩
set_option maxHeartbeats 400000 in
theorem count_254_good (b : Nat) (most : Int) (w : World) (e : Ey) (v1 : Nat) (e1 : Ey) (h1 : e.get 1 = (v1, e1)) (hv1 : v1 = 254) (v : Nat) (e2 : Ey) (h2 : e1.get 4 = (v, e2)) (hl : 65536 ≤ v) (hq : ¬ (most < (v : Int))) (_ : v < 9223372036854775808) (h : EyeAt w b e) :
    Calls Tryd.prog 74 #[.pointer (some ⟨b, 0, none⟩), .int .i64 most] w fun r w' => ReadPost b w (.int .i64 (v : Nat)) e2 r w' := by
  have C1 := Lib.hid (get_at b e 1 w h)
  rw [h1] at C1
  clear h1 h
  subst hv1
  have C2 : Hid (∀ w, EyeAt w b e1 → Calls Tryd.prog 52 #[.pointer (some ⟨b, 0, none⟩), .int .i64 4] w fun r w' => ReadPost b w (.int .i64 (v : Nat)) e2 r w') := Lib.hid (fun w h => by
    have := get_at b e1 4 w h
    rwa [h2] at this)
  clear h2
  have t1 : decide ((v : Int) < 65536) = false := decide_eq_false (by omega)
  have t2 : decide (most < (v : Int)) = false := decide_eq_false hq
  clear hl hq
  go_enter Tryd.func74, Tryd.ntmps74
  go_wp2_with fail
  refine C1.out.mono ?_
  rintro r w1 ⟨rfl, hE, hg⟩
  go_wp2_with fail
  refine (C2.out _ hE).mono ?_
  rintro r w2 ⟨rfl, hE2, hg2⟩
  go_wp2_with fail
  go_ret
  exact ⟨rfl, hE2, gb_trans hg hg2⟩
set_option maxHeartbeats 400000 in
theorem count_255_low (b : Nat) (most : Int) (w : World) (e : Ey) (v1 : Nat) (e1 : Ey) (h1 : e.get 1 = (v1, e1)) (hv1 : v1 = 255) (v : Nat) (e2 : Ey) (h2 : e1.wide = (v, e2)) (hl : v < 4294967296) (_ : v < 9223372036854775808) (h : EyeAt w b e) :
    Calls Tryd.prog 74 #[.pointer (some ⟨b, 0, none⟩), .int .i64 most] w fun r w' => ReadPost b w (.int .i64 0) dark r w' := by
  have C1 := Lib.hid (get_at b e 1 w h)
  rw [h1] at C1
  clear h1 h
  subst hv1
  have C2 : Hid (∀ w, EyeAt w b e1 → Calls Tryd.prog 87 #[.pointer (some ⟨b, 0, none⟩)] w fun r w' => ReadPost b w (.int .i64 (v : Nat)) e2 r w') := Lib.hid (fun w h => by
    have := wide_at b e1 w h
    rwa [h2] at this)
  clear h2
  have t1 : decide ((v : Int) < 4294967296) = true := decide_eq_true (by omega)
  clear hl
  go_enter Tryd.func74, Tryd.ntmps74
  go_wp2_with fail
  refine C1.out.mono ?_
  rintro r w1 ⟨rfl, hE, hg⟩
  go_wp2_with fail
  refine (C2.out _ hE).mono ?_
  rintro r w2 ⟨rfl, hE2, hg2⟩
  go_wp2_with fail
  refine (blind_at b _ _ hE2).mono ?_
  rintro r w3 ⟨rfl, hE3, hg3⟩
  go_wp2_with fail
  go_ret
  exact ⟨rfl, hE3, gb_trans (gb_trans hg hg2) hg3⟩
set_option maxHeartbeats 400000 in
theorem count_255_over (b : Nat) (most : Int) (w : World) (e : Ey) (v1 : Nat) (e1 : Ey) (h1 : e.get 1 = (v1, e1)) (hv1 : v1 = 255) (v : Nat) (e2 : Ey) (h2 : e1.wide = (v, e2)) (hl : 4294967296 ≤ v) (hq :  (most < (v : Int))) (_ : v < 9223372036854775808) (h : EyeAt w b e) :
    Calls Tryd.prog 74 #[.pointer (some ⟨b, 0, none⟩), .int .i64 most] w fun r w' => ReadPost b w (.int .i64 0) dark r w' := by
  have C1 := Lib.hid (get_at b e 1 w h)
  rw [h1] at C1
  clear h1 h
  subst hv1
  have C2 : Hid (∀ w, EyeAt w b e1 → Calls Tryd.prog 87 #[.pointer (some ⟨b, 0, none⟩)] w fun r w' => ReadPost b w (.int .i64 (v : Nat)) e2 r w') := Lib.hid (fun w h => by
    have := wide_at b e1 w h
    rwa [h2] at this)
  clear h2
  have t1 : decide ((v : Int) < 4294967296) = false := decide_eq_false (by omega)
  have t2 : decide (most < (v : Int)) = true := decide_eq_true hq
  clear hl hq
  go_enter Tryd.func74, Tryd.ntmps74
  go_wp2_with fail
  refine C1.out.mono ?_
  rintro r w1 ⟨rfl, hE, hg⟩
  go_wp2_with fail
  refine (C2.out _ hE).mono ?_
  rintro r w2 ⟨rfl, hE2, hg2⟩
  go_wp2_with fail
  refine (blind_at b _ _ hE2).mono ?_
  rintro r w3 ⟨rfl, hE3, hg3⟩
  go_wp2_with fail
  go_ret
  exact ⟨rfl, hE3, gb_trans (gb_trans hg hg2) hg3⟩
set_option maxHeartbeats 400000 in
theorem count_255_good (b : Nat) (most : Int) (w : World) (e : Ey) (v1 : Nat) (e1 : Ey) (h1 : e.get 1 = (v1, e1)) (hv1 : v1 = 255) (v : Nat) (e2 : Ey) (h2 : e1.wide = (v, e2)) (hl : 4294967296 ≤ v) (hq : ¬ (most < (v : Int))) (_ : v < 9223372036854775808) (h : EyeAt w b e) :
    Calls Tryd.prog 74 #[.pointer (some ⟨b, 0, none⟩), .int .i64 most] w fun r w' => ReadPost b w (.int .i64 (v : Nat)) e2 r w' := by
  have C1 := Lib.hid (get_at b e 1 w h)
  rw [h1] at C1
  clear h1 h
  subst hv1
  have C2 : Hid (∀ w, EyeAt w b e1 → Calls Tryd.prog 87 #[.pointer (some ⟨b, 0, none⟩)] w fun r w' => ReadPost b w (.int .i64 (v : Nat)) e2 r w') := Lib.hid (fun w h => by
    have := wide_at b e1 w h
    rwa [h2] at this)
  clear h2
  have t1 : decide ((v : Int) < 4294967296) = false := decide_eq_false (by omega)
  have t2 : decide (most < (v : Int)) = false := decide_eq_false hq
  clear hl hq
  go_enter Tryd.func74, Tryd.ntmps74
  go_wp2_with fail
  refine C1.out.mono ?_
  rintro r w1 ⟨rfl, hE, hg⟩
  go_wp2_with fail
  refine (C2.out _ hE).mono ?_
  rintro r w2 ⟨rfl, hE2, hg2⟩
  go_wp2_with fail
  go_ret
  exact ⟨rfl, hE2, gb_trans hg hg2⟩
theorem count_at (b : Nat) (e : Ey) (hok : e.ok) (most : Int) (w : World) (h : EyeAt w b e) : Calls Tryd.prog 74 #[.pointer (some ⟨b, 0, none⟩), .int .i64 most] w fun r w' => ReadPost b w (.int .i64 ((e.count most).1 : Nat)) (e.count most).2 r w' := by
  rw [← count_eq e hok most]
  unfold Ey.count' Ey.body
  rcases hq1 : e.get 1 with ⟨v1, e1⟩
  simp only
  by_cases hw253 : v1 = 253
  · have hw := hw253
    simp only [if_pos hw]
    have hlt := get_lt e1 2
    rcases hq2 : e1.get 2 with ⟨v, e2⟩
    rw [hq2] at hlt
    simp only at hlt ⊢
    by_cases hl : v < 253
    · rw [if_pos (.inl hl)]; exact count_253_low b most w e v1 e1 hq1 hw v e2 hq2 hl (by omega) h
    by_cases hq : most < (v : Int)
    · rw [if_pos (.inr hq)]; exact count_253_over b most w e v1 e1 hq1 hw v e2 hq2 (by omega) hq (by omega) h
    · rw [if_neg (by omega)]; exact count_253_good b most w e v1 e1 hq1 hw v e2 hq2 (by omega) hq (by omega) h
  simp only [if_neg hw253]
  by_cases hw254 : v1 = 254
  · have hw := hw254
    simp only [if_pos hw]
    have hlt := get_lt e1 4
    rcases hq2 : e1.get 4 with ⟨v, e2⟩
    rw [hq2] at hlt
    simp only at hlt ⊢
    by_cases hl : v < 65536
    · rw [if_pos (.inl hl)]; exact count_254_low b most w e v1 e1 hq1 hw v e2 hq2 hl (by omega) h
    by_cases hq : most < (v : Int)
    · rw [if_pos (.inr hq)]; exact count_254_over b most w e v1 e1 hq1 hw v e2 hq2 (by omega) hq (by omega) h
    · rw [if_neg (by omega)]; exact count_254_good b most w e v1 e1 hq1 hw v e2 hq2 (by omega) hq (by omega) h
  simp only [if_neg hw254]
  by_cases hw255 : v1 = 255
  · have hw := hw255
    simp only [if_pos hw]
    have hlt := wide_lt e1
    rcases hq2 : e1.wide with ⟨v, e2⟩
    rw [hq2] at hlt
    simp only at hlt ⊢
    by_cases hl : v < 4294967296
    · rw [if_pos (.inl hl)]; exact count_255_low b most w e v1 e1 hq1 hw v e2 hq2 hl (by omega) h
    by_cases hq : most < (v : Int)
    · rw [if_pos (.inr hq)]; exact count_255_over b most w e v1 e1 hq1 hw v e2 hq2 (by omega) hq (by omega) h
    · rw [if_neg (by omega)]; exact count_255_good b most w e v1 e1 hq1 hw v e2 hq2 (by omega) hq (by omega) h
  simp only [if_neg hw255]
  by_cases hq : most < (v1 : Int)
  · rw [if_pos (.inr hq)]; exact count_one_over b most w e v1 e1 hq1 (by omega) hq h
  · rw [if_neg (by omega)]; exact count_one_good b most w e v1 e1 hq1 (by omega) hq h
end Go.Proofs.YtmpllagaeoolaaaDoor
/-
  Names in memory: blocks that hold one; loaded and stored whole; a result that is one; copy from a string into one; two are compared.
-/
namespace Go.Proofs.YtmpllagaeoolaaaDoor
open Go.RowKit Mem
theorem hinfo : (Tryd.prog.info? 24).map (·.size) = some 32 := by kernel_rfl
theorem hinfo8 : (Tryd.prog.info? 5).map (·.size) = some 1 := by kernel_rfl
def h0 : Array Value := bytesV (List.replicate 32 0)
theorem h0_lit : (#[.int .u8 0, .int .u8 0, .int .u8 0, .int .u8 0, .int .u8 0, .int .u8 0, .int .u8 0, .int .u8 0, .int .u8 0, .int .u8 0, .int .u8 0, .int .u8 0, .int .u8 0, .int .u8 0, .int .u8 0, .int .u8 0, .int .u8 0, .int .u8 0, .int .u8 0, .int .u8 0, .int .u8 0, .int .u8 0, .int .u8 0, .int .u8 0, .int .u8 0, .int .u8 0, .int .u8 0, .int .u8 0, .int .u8 0, .int .u8 0, .int .u8 0, .int .u8 0] : Array Value) = h0 := rfl
theorem h0_new (w : World) (t : TypeId) : Has (w.alloc (.cells #[.int .u8 0, .int .u8 0, .int .u8 0, .int .u8 0, .int .u8 0, .int .u8 0, .int .u8 0, .int .u8 0, .int .u8 0, .int .u8 0, .int .u8 0, .int .u8 0, .int .u8 0, .int .u8 0, .int .u8 0, .int .u8 0, .int .u8 0, .int .u8 0, .int .u8 0, .int .u8 0, .int .u8 0, .int .u8 0, .int .u8 0, .int .u8 0, .int .u8 0, .int .u8 0, .int .u8 0, .int .u8 0, .int .u8 0, .int .u8 0, .int .u8 0, .int .u8 0] t)) w.heap.size h0 t := Has.new h0 t
section
variable {w : World} {ops : Array Oper} {rest : List Oper} {o : Oper} {a : Act} {Q : Exit → Act → World → Prop}
theorem hl_load (hgd : o.guard = none) (x : Operand) (ho : o.op = .load 24 x) (g : Nat) (hx : a.eval x = .pointer (some ⟨g, 0, none⟩)) (cs : Array Value) (hg : Has w g cs 24) (hs : cs.size = 32)
    (h : wpList Tryd.prog ops Q rest (a.put o.dst (.agg cs)) w) : wpList Tryd.prog ops Q (o :: rest) a w :=
  wpList_load_row hgd 24 x ho g hx 24 cs (0, 0) _ hg.out Tryd.underlying24 rfl (hinfo.trans (by rw [hs])) h
theorem hl_load_mid (hgd : o.guard = none) (x : Operand) (ho : o.op = .load 24 x) (g off : Nat) (hx : a.eval x = .pointer (some ⟨g, off, none⟩)) (l : List UInt8) (hg : w.rangeAt g off (Lib.byteCells l)) (hs : (Lib.byteCells l).length = 32)
    (h : wpList Tryd.prog ops Q rest (a.put o.dst (.agg (bytesV l))) w) : wpList Tryd.prog ops Q (o :: rest) a w :=
  wpList_load_mid hgd 24 x ho g off hx (Lib.byteCells l) _ hg Tryd.underlying24 rfl (hinfo.trans (by rw [hs])) h
theorem hl_store (hgd : o.guard = none) (x y : Operand) (ho : o.op = .store 24 x y) (g : Nat) (cz cs' : Array Value) (hx : a.eval x = .pointer (some ⟨g, 0, none⟩)) (hy : a.eval y = .agg cz) (e : cz = cs') (hs' : cs'.size = 32) (h1 : cs'.all (·.oneCell') = true) (cs : Array Value) (hg : Has w g cs 24) (hs : cs.size = 32)
    (h : wpList Tryd.prog ops Q rest (a.put o.dst undef) (w.setRow g cs')) : wpList Tryd.prog ops Q (o :: rest) a w := by
  subst e
  exact wpList_store_row hgd 24 x y ho g cz hx hy 24 cs hg.out (hinfo.trans (by rw [hs'])) (by rw [hs, hs']) h1 h
end
theorem hl_results {w : World} {fn : Func} {p : Tmp} (h : fn.results = #[.cell p 24]) (tmps : Array Value) (g : Nat) (cs : Array Value) (hp : tmps.getD p undef = .pointer (some ⟨g, 0, none⟩)) (hg : Has w g cs 24) (hs : cs.size = 32) :
    (results fn tmps).run Tryd.prog w = .ok (.agg cs) w :=
  results_cell_row h tmps w g 24 cs (0, 0) _ hp hg.out Tryd.underlying24 rfl (hinfo.trans (by rw [hs]))
theorem Mem.Has.new1 {w : World} (o : Obj) (cs : Array Value) (t : TypeId) : Mem.Has ((w.alloc o).alloc (.cells cs t)) (w.heap.size + 1) cs t := by
  have := Mem.Has.new (w := w.alloc o) cs t
  rwa [World.size_alloc] at this
theorem Mem.Has.new2 {w : World} (o o' : Obj) (cs : Array Value) (t : TypeId) : Mem.Has (((w.alloc o).alloc o').alloc (.cells cs t)) (w.heap.size + 1 + 1) cs t := by
  have := Mem.Has.new (w := (w.alloc o).alloc o') cs t
  rwa [World.size_alloc, World.size_alloc] at this
theorem gb_setRowNew {a b : World} {r : Option Nat} (h : a.grownBy b r) (g : Nat) (hg : a.heap.size ≤ g) (cs : Array Value) : a.grownBy (b.setRow g cs) r :=
  ⟨h.os, h.tape, h.output, by simpa [World.setRow] using h.size, fun k hk hn => (setRow_other b g k cs (by omega)).trans (h.block k hk hn)⟩
/-- something is made, and appended to a row that is new -/
theorem gb_own {a c d : World} {r row : Option Nat} (h : a.grownBy c r) (o : Obj) (hd : (c.alloc o).grownBy d row) (hrow : ∀ k, row = some k → a.heap.size ≤ k) : a.grownBy d r :=
  ⟨hd.os.trans h.os, hd.tape.trans h.tape, hd.output.trans h.output, by have h1 := hd.size; have h2 := h.size; simp only [World.size_alloc] at h1; omega,
    fun k hk hn => (hd.block k (by have := h.size; simp only [World.size_alloc]; omega) (fun e => by have := hrow k e.symm; omega)).trans ((heap_alloc_old c o (by have := h.size; omega)).trans (h.block k hk hn))⟩
theorem gb_none_below {a b : World} (h : a.grownBy b none) : Below a.heap.size a b := ⟨h.os, h.tape, h.output, h.size, fun k hk => h.block k hk (by simp)⟩
theorem hv_size {l : List UInt8} (h : l.length = 32) : (bytesV l).size = 32 := by rw [bytesV_size, h]
theorem wp_copy_min {P : Program} {o : Oper} {a : Act} {w : World} {K : Act → World → Prop} {Q : Exit → Act → World → Prop}
    (d x : Operand) (dT sT : TypeId) (hop : o.op = Op.call { callee := Callee.builtin Builtin.copy, args := #[d, x], argTypes := #[dT, sT] })
    (elem : TypeId) (hu : P.underlying dT = some (.slice elem)) (hz : (P.info? elem).map (·.size) = some 1)
    (b off dLen dCap n : Nat) (hd : a.eval d = .slice (some ⟨b, off, none⟩) dLen dCap) (t : ByteArray) (hx : a.eval x = .string t) (cur : Array Value) (ty : TypeId) (hh : w.heap[b]? = some (.cells cur ty (0, 0)))
    (hn : n = Nat.min t.size dLen) (hfit : off + n ≤ cur.size)
    (hK : K (a.put o.dst (goInt n)) (w.setRow b (cur.toList.take off ++ (Lib.byteCells (t.data.toList.take n) ++ cur.toList.drop (off + n))).toArray)) : o.wp P a w K Q := by
  have hrun := run_copy_min (P := P) w dT sT o.type elem b off dLen dCap n t cur ty hu hz hh hn hfit
  unfold Oper.wp execOp
  simp only [hop, resolve, invoke, builtin, Sem.run_bind, Sem.run_pure, Result.andThen_ok, List.map_toArray, List.map_cons, List.map_nil, hd, hx, hrun]
  exact hK
theorem name_splice (x : List UInt8) (hx : x.length = 32 ∨ x = []) (n : Nat) (hn : n = Nat.min x.length 32) :
    (h0.toList.take 0 ++ (Lib.byteCells (x.take n) ++ h0.toList.drop (0 + n))).toArray = bytesV (if x.length = 32 then x else List.replicate 32 0) := by
  have h0l : h0.toList = Lib.byteCells (List.replicate 32 0) := bytesV_list _
  rcases hx with hx | rfl
  · obtain rfl : n = 32 := by rw [hn, hx]; rfl
    rw [if_pos hx, List.take_of_length_le (l := x) (by omega), h0l, List.take_zero, List.nil_append, List.drop_eq_nil_of_le (by rw [Lib.byteCells_length]; simp), List.append_nil]
    rfl
  · obtain rfl : n = 0 := by rw [hn]; rfl
    rw [if_neg (by simp), h0l]
    rfl
end Go.Proofs.YtmpllagaeoolaaaDoor
/-
  scroll's Eye: Name.
-/
namespace Go.Proofs.YtmpllagaeoolaaaDoor
open Go.RowKit Mem Sc
theorem raw32 (e : Ey) : (e.raw 32).1.data.toList.length = 32 ∨ (e.raw 32).1 = E0 := by
  unfold Ey.raw
  split
  · exact .inr rfl
  · split
    · exact .inr rfl
    · left
      rw [← Lib.size_eq]
      simp only [ByteArray.size_extract]
      omega
set_option maxRecDepth 100000 in
set_option maxHeartbeats 1000000 in
theorem name_at (b : Nat) (e : Ey) (w : World) (h : EyeAt w b e) : Calls Tryd.prog 54 #[.pointer (some ⟨b, 0, none⟩)] w fun r w' => ReadPost b w (.agg (bytesV e.name.1)) e.name.2 r w' := by
  have h32 := raw32 e
  have C1 := Lib.hid (fun w h => raw_at b e 32 w h)
  have hlt := h.lt
  unfold Ey.name
  generalize e.raw 32 = q at *
  obtain ⟨s, e'⟩ := q
  simp only at *
  have hn32 := name32_length s.data.toList
  have hsp := fun n hn => name_splice s.data.toList (by rcases h32 with h | h; exact .inl h; exact .inr (by rw [h]; rfl)) n hn
  change ∀ n (_ : n = Nat.min s.data.toList.length 32), _ = bytesV (name32 s.data.toList) at hsp
  have hsz := hv_size hn32
  have hone := bytesV_one (name32 s.data.toList)
  have HSP := Lib.hid hsp
  have HSZ := Lib.hid hsz
  clear hn32 hsp hsz h32
  generalize bytesV (name32 s.data.toList) = cs at *
  go_enter Tryd.func54, Tryd.ntmps54
  go_wp2_with fail
  generalize hw1 : World.alloc _ _ = w1
  have hR : Has w1 w.heap.size h0 24 := by rw [← hw1]; exact (h0_new _ _).alloc _
  have hN : Has w1 (w.heap.size + 1) h0 24 := by rw [← hw1]; exact Has.new1 _ h0 _
  have hE : EyeAt w1 b e := by rw [← hw1]; exact (Has.alloc h _).alloc _
  have hg : w.grownBy w1 (some b) := by rw [← hw1]; exact gb_below (((Below.refl _ _).alloc (Nat.le_refl _) _).alloc (by simp) _) _
  clear hw1
  obtain ⟨R, hRe⟩ : ∃ R, R = w.heap.size := ⟨_, rfl⟩
  rw [← hRe] at hlt hR hN ⊢
  have hRl : w.heap.size ≤ R := by omega
  clear hRe
  have hEd : EyeAt w1.drew b e := hE
  have hne : some (R + 1) ≠ some b := by simp; omega
  obtain ⟨n, hn⟩ : ∃ n, n = Nat.min s.size 32 := ⟨_, rfl⟩
  have hfit : 0 + n ≤ h0.size := by rw [hn]; exact (Nat.zero_add _).symm ▸ Nat.min_le_right _ _
  have HNN := Lib.hid hn
  clear hn
  go_region_held3 (fun _ => True) (trivial)
    (first
      | (go_at_call 73; (with_reducible refine (C1.out _ hEd).mono ?_); rintro r w3 ⟨rfl, hE3, hg3⟩; have hN3 := gb_has hg3 (Has.drew hN) hne)
      | (refine wp_copy_min _ _ 51 9 (by rfl) 5 Tryd.underlying51 hinfo8 (R + 1) 0 32 32 n (by rfl) s (by rfl) h0 24 hN3.out HNN.out hfit ?_))
  rw [HSP.out n (by rw [HNN.out, Lib.size_eq])]
  have hR3 := gb_has hg3 (Has.drew hR) (by simp; omega)
  have hg4 : w.grownBy (w3.setRow (R + 1) (cs)) (some b) := gb_setRowNew (gb_trans hg (gb_trans (gb_drewN (gb_refl _ _) 1) hg3)) _ (by omega) _
  have hN4 := hN3.row (cs)
  have hR4 := hR3.otherRow (R + 1) (cs) (by omega)
  have hE4 : EyeAt (w3.setRow (R + 1) (cs)) b e' := Has.otherRow hE3 (R + 1) (cs) (by omega)
  generalize World.setRow _ _ _ = w4 at *
  have h0s : h0.size = 32 := rfl
  clear hE3 hN3 hR3 hR hN hE hg hg3 hEd C1 HNN HSP hfit
  have hZ := Lib.hid h0s
  clear h0s
  go_wp2_with (first
    | (with_reducible refine hl_load rfl _ rfl _ rfl cs hN4 HSZ.out ?_)
    | (with_reducible refine hl_store rfl _ _ rfl _ _ cs rfl rfl rfl HSZ.out hone h0 hR4 hZ.out ?_))
  exact bodyPost_ret (v := .agg cs) (hl_results Tryd.results54 _ _ _ rfl (hR4.row _) HSZ.out) rfl ⟨rfl, Has.otherRow hE4 _ _ (by omega), gb_setRowNew hg4 _ hRl _⟩
set_option maxRecDepth 100000 in
set_option maxHeartbeats 1000000 in
theorem name_nil (w : World) : Calls Tryd.prog 54 #[.pointer none] w fun r w' => r = .returned (.agg h0) ∧ Below w.heap.size w w' := by
  have C1 := Lib.hid (fun w => raw_nil 32 w)
  obtain ⟨s, hs⟩ : ∃ s, s = E0 := ⟨_, rfl⟩
  have hn32 : name32 s.data.toList = List.replicate 32 0 := by rw [hs]; rfl
  have h32 : s.data.toList.length = 32 ∨ s = E0 := .inr hs
  rw [← hs] at C1
  clear hs
  have hsp := fun n hn => name_splice s.data.toList (by rcases h32 with h | h; exact .inl h; exact .inr (by rw [h]; rfl)) n hn
  change ∀ n (_ : n = Nat.min s.data.toList.length 32), _ = bytesV (name32 s.data.toList) at hsp
  rw [hn32] at hsp
  have hsz : h0.size = 32 := rfl
  have hone : h0.all (·.oneCell') = true := bytesV_one _
  change ∀ n (_ : n = Nat.min s.data.toList.length 32), _ = h0 at hsp
  have HSP := Lib.hid hsp
  have HSZ := Lib.hid hsz
  clear hn32 hsp hsz h32
  obtain ⟨cs, hcs⟩ : ∃ cs, cs = h0 := ⟨_, rfl⟩
  rw [← hcs] at hone ⊢
  have HSP2 : Hid (∀ n (_ : n = Nat.min s.data.toList.length 32), (h0.toList.take 0 ++ (Lib.byteCells (s.data.toList.take n) ++ h0.toList.drop (0 + n))).toArray = cs) := by rw [hcs]; exact HSP
  have HSZ2 : Hid (cs.size = 32) := by rw [hcs]; exact HSZ
  clear HSP HSZ hcs
  go_enter Tryd.func54, Tryd.ntmps54
  go_wp2_with fail
  generalize hw1 : World.alloc _ _ = w1
  have hR : Has w1 w.heap.size h0 24 := by rw [← hw1]; exact (h0_new _ _).alloc _
  have hN : Has w1 (w.heap.size + 1) h0 24 := by rw [← hw1]; exact Has.new1 _ h0 _
  have hg : w.grownBy w1 none := by rw [← hw1]; exact gb_below (((Below.refl _ _).alloc (Nat.le_refl _) _).alloc (by simp) _) _
  clear hw1
  obtain ⟨R, hRe⟩ : ∃ R, R = w.heap.size := ⟨_, rfl⟩
  rw [← hRe] at hR hN ⊢
  have hRl : w.heap.size ≤ R := by omega
  clear hRe
  obtain ⟨n, hn⟩ : ∃ n, n = Nat.min s.size 32 := ⟨_, rfl⟩
  have hfit : 0 + n ≤ h0.size := by rw [hn]; exact (Nat.zero_add _).symm ▸ Nat.min_le_right _ _
  have HNN := Lib.hid hn
  clear hn
  go_region_held3 (fun _ => True) (trivial)
    (first
      | (go_at_call 73; (with_reducible refine (C1.out _).mono ?_); rintro r w3 ⟨rfl, hw3⟩; have hN3 : Has w3 (R + 1) h0 24 := hw3 ▸ Has.drew hN)
      | (refine wp_copy_min _ _ 51 9 (by rfl) 5 Tryd.underlying51 hinfo8 (R + 1) 0 32 32 n (by rfl) s (by rfl) h0 24 hN3.out HNN.out hfit ?_))
  rw [HSP2.out n (by rw [HNN.out, Lib.size_eq])]
  have hR3 : Has w3 R h0 24 := hw3 ▸ Has.drew hR
  have hg3 : w.grownBy w3 none := hw3 ▸ gb_drewN hg 1
  have hg4 : w.grownBy (w3.setRow (R + 1) (cs)) none := gb_setRowNew hg3 _ (by omega) _
  have hN4 := hN3.row (cs)
  have hR4 := hR3.otherRow (R + 1) (cs) (by omega)
  generalize World.setRow _ _ _ = w4 at *
  have h0s : h0.size = 32 := rfl
  clear hN3 hR3 hR hN hg hg3 hw3 C1 HNN HSP2 hfit
  have hZ := Lib.hid h0s
  clear h0s
  go_wp2_with (first
    | (with_reducible refine hl_load rfl _ rfl _ rfl cs hN4 HSZ2.out ?_)
    | (with_reducible refine hl_store rfl _ _ rfl _ _ cs rfl rfl rfl HSZ2.out hone h0 hR4 hZ.out ?_))
  exact bodyPost_ret (v := .agg cs) (hl_results Tryd.results54 _ _ _ rfl (hR4.row _) HSZ2.out) rfl ⟨rfl, gb_none_below (gb_setRowNew hg4 _ hRl _)⟩
end Go.Proofs.YtmpllagaeoolaaaDoor
/-
  scroll's Eye: Names.
-/
namespace Go.Proofs.YtmpllagaeoolaaaDoor
open Go.RowKit Mem Sc
/-! ### a slice of one name is made -/
theorem foldl_set (o : Nat) : ∀ (l : List Value) (k : Nat) (b : Array Value) (j : Nat),
    ((l.zipIdx k).foldl (fun (cs : Array Value) (x : Value × Nat) => match x with | (c, j) => cs.setIfInBounds (o + j) c) b)[j]? = if o + k ≤ j ∧ j < o + k + l.length ∧ j < b.size then l[j - (o + k)]? else b[j]?
  | [], k, b, j => by simp; omega
  | x :: l, k, b, j => by
    rw [List.zipIdx_cons, List.foldl_cons, foldl_set o l (k + 1), Array.size_setIfInBounds, List.length_cons]
    by_cases h1 : j = o + k
    · subst h1
      rw [if_neg (by omega)]
      by_cases h2 : o + k < b.size
      · rw [if_pos (by omega)]; simp [h2]
      · rw [if_neg (by omega)]; simp [h2]
    · by_cases h2 : o + (k + 1) ≤ j ∧ j < o + (k + 1) + l.length ∧ j < b.size
      · rw [if_pos h2, if_pos (by omega), show j - (o + k) = (j - (o + (k + 1))) + 1 by omega, List.getElem?_cons_succ]
      · rw [if_neg h2, if_neg (by omega), Array.getElem?_setIfInBounds, if_neg (by omega)]
theorem fill_one (n : Nat) (z cs : Array Value) (hz : z.size = n) (hc : cs.size = n) : Instr.fill (fun i => some (i * n, n)) z [(0, .agg cs)] = some cs := by
  have hsz : (Value.agg cs).cells.size = n := hc
  unfold Instr.fill
  simp only [hsz, Nat.zero_mul, Nat.zero_add, hz]
  rw [if_neg (by simp)]
  unfold Instr.fill
  congr 1
  apply Array.ext_getElem?
  intro j
  rw [← Array.foldl_toList, Array.toList_zipIdx]
  have h := foldl_set 0 cs.toList 0 z j
  simp only [Nat.zero_add] at h
  show (List.foldl _ z (cs.toList.zipIdx 0))[j]? = _
  refine h.trans ?_
  rw [Array.length_toList, hc, hz]
  by_cases hj : j < n
  · rw [if_pos ⟨by omega, hj, hj⟩]; simp
  · rw [if_neg (by omega), Array.getElem?_eq_none (by omega), Array.getElem?_eq_none (by omega)]
theorem hzero : ((Tryd.prog.info? 24).bind (·.zero)).map (·.cells.size) = some 32 := by kernel_rfl
theorem hbytes32 : (Tryd.prog.info? 24).map (·.bytes) = some 32 := by kernel_rfl
theorem hash_info : ∃ i z, Tryd.prog.info? 24 = some i ∧ i.zero = some z ∧ i.size = 32 ∧ i.bytes = 32 ∧ z.cells.size = 32 := by
  have h1 := hinfo
  have h2 := hzero
  have h3 := hbytes32
  cases hi : Tryd.prog.info? 24 with
  | none => rw [hi] at h1; cases h1
  | some i =>
    rw [hi] at h1 h2 h3
    simp only [Option.map_some, Option.some.injEq, Option.bind_some] at h1 h2 h3
    cases hz : i.zero with
    | none => rw [hz] at h2; cases h2
    | some z =>
      rw [hz] at h2
      simp only [Option.map_some, Option.some.injEq] at h2
      exact ⟨i, z, rfl, hz, h1, h3, h2⟩
theorem build_name (cs : Array Value) (h : cs.size = 32) (w : World) : (Instr.buildSlice 22 1 #[(0, .agg cs)]).run Tryd.prog w = .ok (.slice (some ⟨w.heap.size, 0, none⟩) 1 1) (w.alloc (.cells cs 24)) := by
  obtain ⟨i, z, hi, hz, h1, h2, h3⟩ := hash_info
  refine run_buildSlice w 22 24 1 _ cs i z Tryd.underlying22 hi hz (by rw [h1]; decide) (by rw [h1]; decide) ?_
  rw [h1]
  exact fill_one 32 _ cs (by simp) h
theorem build_hl {ops : Array Oper} {rest : List Oper} {o : Oper} {a : Act} {w : World} {Q : Exit → Act → World → Prop} (hgd : o.guard = none) (p : Operand) (ho : o.op = .buildSlice 22 1 #[(0, p)]) (cs : Array Value) (hp : a.eval p = .agg cs) (hs : cs.size = 32)
    (h : wpList Tryd.prog ops Q rest (a.put o.dst (.slice (some ⟨w.heap.size, 0, none⟩) 1 1)) (w.alloc (.cells cs 24))) : wpList Tryd.prog ops Q (o :: rest) a w :=
  wpList_plain hgd fun _ hK => by
    unfold Oper.wp execOp
    simp only [ho, Sem.run_bind]
    rw [show (#[(0, p)] : Array (Nat × Operand)).map (fun (i, x) => (i, a.eval x)) = #[(0, .agg cs)] by simp [hp]]
    rw [build_name cs hs w]
    exact hK _ _ h
theorem news_bytes (w : World) (l : List UInt8) (t : TypeId) : ∀ j u, (Lib.byteCells l)[j]? = some u → (w.alloc (.cells (bytesV l) t)).cell? ((⟨w.heap.size, 0, none⟩ : Addr).add j) = some u := by
  rw [← bytesV_list]
  exact World.news_of_block (heap_alloc_new w _)
/-! ### names that are read -/
def namesC (ls : List (List UInt8)) : List Value := ls.flatMap Lib.byteCells
def Sc.Ey.nameTo (e : Ey) : Nat → List (List UInt8) × Ey
  | 0 => ([], e)
  | k + 1 => ((e.nameTo k).1 ++ [(e.nameTo k).2.name.1], (e.nameTo k).2.name.2)
def Sc.Ey.names (e : Ey) (n : Int) : List (List UInt8) × Ey := if (e.s.size : Int) / 32 < n then ([], dark) else e.nameTo n.toNat
theorem nmTo_length (e : Ey) (k : Nat) : (e.nameTo k).1.length = k := by
  induction k with
  | zero => rfl
  | succ k ih => simp [Ey.nameTo, ih]
def NamesPost (b : Nat) (w : World) (ls : List (List UInt8)) (e' : Ey) (r : Ending) (w' : World) : Prop :=
  ∃ v, r = .returned v ∧ w'.ownsRow w.heap.size 24 32 v ls.length (namesC ls) ∧ EyeAt w' b e' ∧ w.grownBy w' (some b)
end Go.Proofs.YtmpllagaeoolaaaDoor
/-
  scroll's Pen: what it holds in memory; Put.
-/
namespace Go.Proofs.YtmpllagaeoolaaaDoor
open Go.RowKit Mem Sc
/-- block b is a pen that has written l; v: the slice of its bytes -/
structure PenAt (w : World) (b : Nat) (v : Value) (l : List UInt8) : Prop where
  cell : Has w b #[v] 53
  own : w.ownsRow (b + 1) 5 1 v l.length (Lib.byteCells l)
/-- what a call that writes leaves: all blocks but the pen's and its bytes'; the bytes lie where they lay, or in a new block -/
structure PenStep (w w' : World) (b : Nat) (v v' : Value) : Prop where
  os : w'.os = w.os
  tape : w'.tape = w.tape
  output : w'.output = w.output
  size : w.heap.size ≤ w'.heap.size
  block : ∀ k, k < w.heap.size → k ≠ b → v.ownBlock ≠ some k → w'.heap[k]? = w.heap[k]?
  lies : ∀ k, v'.ownBlock = some k → v.ownBlock = some k ∨ w.heap.size ≤ k
variable {w w1 w2 w' : World} {b : Nat} {v v1 v2 v' : Value} {l : List UInt8}
theorem PenAt.lt (h : PenAt w b v l) : b < w.heap.size := h.cell.lt
theorem PenAt.ownLt (h : PenAt w b v l) {k : Nat} (hk : v.ownBlock = some k) : b + 1 ≤ k ∧ k < w.heap.size := h.own.lt k hk
theorem PenAt.c0 (h : PenAt w b v l) : w.cell? ⟨b, 0, none⟩ = some v := h.cell.cell 0
theorem PenStep.refl (w : World) (b : Nat) (v : Value) : PenStep w w b v v := ⟨rfl, rfl, rfl, Nat.le_refl _, fun _ _ _ _ => rfl, fun _ h => .inl h⟩
theorem PenStep.trans (h : PenStep w w1 b v v1) (h2 : PenStep w1 w2 b v1 v2) : PenStep w w2 b v v2 :=
  ⟨h2.os.trans h.os, h2.tape.trans h.tape, h2.output.trans h.output, Nat.le_trans h.size h2.size,
    fun k hk hb hv => (h2.block k (Nat.lt_of_lt_of_le hk h.size) hb (fun e => by
      rcases h.lies k e with e | e
      · exact hv e
      · omega)).trans (h.block k hk hb hv),
    fun k hk => by
      rcases h2.lies k hk with e | e
      · exact h.lies k e
      · exact .inr (Nat.le_trans h.size e)⟩
/-- memory is made, or an order drawn, ahead of it -/
theorem PenStep.below (h : Below w.heap.size w w1) (h2 : PenStep w1 w2 b v v1) : PenStep w w2 b v v1 :=
  ⟨h2.os.trans h.os, h2.tape.trans h.tape, h2.output.trans h.output, Nat.le_trans h.size h2.size,
    fun k hk hb hv => (h2.block k (Nat.lt_of_lt_of_le hk h.size) hb hv).trans (h.block k hk),
    fun k hk => by
      rcases h2.lies k hk with e | e
      · exact .inl e
      · exact .inr (Nat.le_trans h.size e)⟩
theorem PenAt.below (h : PenAt w b v l) (hb : Below w.heap.size w w') : PenAt w' b v l :=
  ⟨below_has hb h.cell h.lt, h.own.kept (gb_below hb none) (by cases hv : v.ownBlock <;> simp)⟩
theorem PenStep.has (h : PenStep w w' b v v') {g : Nat} {cs : Array Value} {t : TypeId} (hg : Has w g cs t) (hb : g ≠ b) (hv : v.ownBlock ≠ some g) : Has w' g cs t := (h.block g hg.lt hb hv).trans hg
theorem PenStep.toBelow (h : PenStep w w' b v v') (hp : PenAt w b v l) : Below b w w' :=
  ⟨h.os, h.tape, h.output, h.size, fun k hk => h.block k (by have := hp.lt; omega) (by omega) (fun e => by have := (hp.ownLt e).1; omega)⟩
theorem PenStep.cell (h : PenStep w w' b v v') {a : Addr} (hlt : a.block < w.heap.size) (hb : a.block ≠ b) (hv : v.ownBlock ≠ some a.block) : w'.cell? a = w.cell? a :=
  World.cell?_of_block (h.block a.block hlt hb hv)
/-- what a new pen is -/
theorem pen_new (w : World) : PenAt (w.alloc (.cells #[.slice none 0 0] 53)) w.heap.size (.slice none 0 0) [] := ⟨Has.new _ _, World.ownsRow_nil _ _ _ _⟩
def PenPost (w : World) (b : Nat) (v : Value) (l : List UInt8) (r : Ending) (w' : World) : Prop := ∃ v', r = .returned (.tuple #[]) ∧ PenAt w' b v' l ∧ PenStep w w' b v v'
theorem byte_info : ∃ i z, Tryd.prog.info? 5 = some i ∧ i.zero = some z ∧ i.size = 1 ∧ i.bytes = 1 ∧ z.cells.size = 1 := by
  have h2 : ((Tryd.prog.info? 5).bind (·.zero)).map (·.cells.size) = some 1 := by kernel_rfl
  have h3 : (Tryd.prog.info? 5).map (·.bytes) = some 1 := by kernel_rfl
  have h1 := hinfo8
  cases hi : Tryd.prog.info? 5 with
  | none => rw [hi] at h1; cases h1
  | some i =>
    rw [hi] at h1 h2 h3
    simp only [Option.map_some, Option.some.injEq, Option.bind_some] at h1 h2 h3
    cases hz : i.zero with
    | none => rw [hz] at h2; cases h2
    | some z =>
      rw [hz] at h2
      simp only [Option.map_some, Option.some.injEq] at h2
      exact ⟨i, z, rfl, hz, h1, h3, h2⟩
/-- bytes are appended to the pen's, and the new slice is stored -/
theorem PenAt.put (h : PenAt w b v l) {x : List UInt8} {w3 w4 : World} (hb : Below w.heap.size w w3) (hown : w4.ownsRow (b + 1) 5 1 v' (l.length + x.length) (Lib.byteCells l ++ Lib.byteCells x)) (hg : w3.grownBy w4 v.ownBlock)
    (hat : ∀ k, v'.ownBlock = some k → v.ownBlock = some k ∨ w.heap.size ≤ k) :
    PenAt (w4.setCell ⟨b, 0, none⟩ v') b v' (l ++ x) ∧ PenStep w (w4.setCell ⟨b, 0, none⟩ v') b v v' := by
  have hlt := h.lt
  have hc3 := below_has hb h.cell hlt
  have hc4 : Has w4 b #[v] 53 := gb_has hg hc3 (fun e => by have := (h.ownLt e.symm).1; omega)
  have h3 := hb.size
  have h4 := hg.size
  refine ⟨⟨hc4.set (i := 0) v', ?_⟩, hg.os.trans hb.os, hg.tape.trans hb.tape, hg.output.trans hb.output, by simp only [World.setCell, Array.size_modify]; omega, fun k hk hkb hkv => ?_, hat⟩
  · rw [List.length_append, Lib.byteCells_append]
    refine hown.kept (row := some b) ⟨rfl, rfl, rfl, by simp [World.setCell], fun k _ hn => Below.heap_setCell _ _ _ _ (fun e => hn (by rw [e]))⟩ ?_
    refine .inr (fun e => ?_)
    have := (hown.lt b e).1
    omega
  · exact (Below.heap_setCell _ _ _ _ (by simpa using hkb)).trans ((hg.block k (by omega) (fun e => hkv e.symm)).trans (hb.block k hk))
end Go.Proofs.YtmpllagaeoolaaaDoor
/-
  scroll's Pen: Put.
-/
namespace Go.Proofs.YtmpllagaeoolaaaDoor
open Go.RowKit Mem Sc
/-- whole numbers lie where a slice says, apart from a pen -/
def IntsAt (w : World) (b : Nat) (v : Value) (a : Option Addr) (ns : List Int) : Prop :=
  0 < ns.length → ∃ ab ao, a = some ⟨ab, ao, none⟩ ∧ ab ≠ b ∧ v.ownBlock ≠ some ab ∧ ab < w.heap.size ∧ ∀ i (hi : i < ns.length), w.cell? ⟨ab, ao + i, none⟩ = some (.int .i64 ns[i])
def nums (k : Nat) (ns : List Int) : List UInt8 := ns.flatMap (num k)
theorem nums_next (m : Nat) (ns : List Int) (k : Nat) (hk : k < ns.length) : nums m (ns.take (k + 1)) = nums m (ns.take k) ++ num m ns[k] := by
  unfold nums
  rw [List.take_succ_eq_append_getElem hk, List.flatMap_append]
  simp
theorem nums_length (m : Nat) (ns : List Int) : (nums m ns).length = m * ns.length := by
  induction ns with
  | nil => rfl
  | cons x ns ih =>
    show (num m x ++ nums m ns).length = _
    rw [List.length_append, ih, num_length, List.length_cons, Nat.mul_succ]; omega
set_option maxRecDepth 100000 in
set_option maxHeartbeats 1000000 in
theorem put_at (b : Nat) (v : Value) (l : List UInt8) (size : Int) (a : Option Addr) (ns : List Int) (n c : Nat) (hn : n = ns.length) (w : World) (h : PenAt w b v l) (hA : IntsAt w b v a ns) (hsz : l.length + 8 * n ≤ 70368744177664) :
    Calls Tryd.prog 41 #[.pointer (some ⟨b, 0, none⟩), .int .i64 size, .slice a n c] w fun r w' => PenPost w b v (l ++ nums (near size 8) ns) r w' := by
  have HN := Lib.hid hn
  have HA := Lib.hid hA
  clear hn hA
  have C1 := Lib.hid (near_at size 8 (by omega))
  have hm := near_le size 8 (by omega)
  generalize near size 8 = m at *
  go_enter Tryd.func41, Tryd.ntmps41
  go_wp2_with fail
  refine (C1.out _).mono ?_
  rintro r w' ⟨rfl, rfl⟩
  clear C1
  go_wp2_with fail
  go_loopw [15] (fun i wr => ∃ (k : Nat) (v1 : Value), k ≤ n ∧ i = .int .i64 k ∧ PenAt wr b v1 (l ++ nums m (ns.take k)) ∧ PenStep w wr b v v1) (fun i _ => n - (intOf i).toNat)
  case atStart => exact ⟨0, v, Nat.zero_le _, rfl, by simpa [nums] using h, PenStep.refl _ _ _⟩
  case round =>
    obtain ⟨k, v1, hk, rfl, hP, hS⟩ := hrel
    by_cases hlt : k < n
    · have hkl : k < ns.length := by rw [← HN.out]; exact hlt
      obtain ⟨ab, ao, rfl, hab, hav, habl, hc⟩ := HA.out (by omega)
      have ck := (hS.cell (a := ⟨ab, ao + k, none⟩) habl hab hav).trans (hc k hkl)
      have hnx := nums_next m ns k hkl
      have hle : (nums m (ns.take k)).length ≤ 8 * k := by
        rw [nums_length, List.length_take, Nat.min_eq_left (by omega)]
        exact Nat.mul_le_mul_right _ hm.2
      generalize ns[k] = x at *
      have HNX := Lib.hid hnx
      have HP := Lib.hid hP
      have HS := Lib.hid hS
      have Hh := Lib.hid h
      clear hnx hc hP hS h
      go_wp2_with fail
      clear ck
      go_loopw [20] (fun i wr => ∃ (j : Nat) (v2 : Value), j ≤ m ∧ i = .int .i64 j ∧ PenAt wr b v2 (l ++ nums m (ns.take k) ++ num j x) ∧ PenStep w wr b v v2) (fun i _ => m - (intOf i).toNat)
      case atStart => exact ⟨0, v1, Nat.zero_le _, rfl, by rw [num_zero, List.append_nil]; exact HP.out, HS.out⟩
      case round =>
        clear HP HS
        obtain ⟨j, v2, hj, rfl, hP, hS⟩ := hrel
        by_cases hlt2 : j < m
        · have hb := byte_cut x j (by omega)
          have hd := num_succ j x
          obtain ⟨i, z, hi, hz, hi1, hi2, hi3⟩ := byte_info
          obtain ⟨L, hL⟩ : ∃ L, L = l ++ nums m (ns.take k) ++ num j x := ⟨_, rfl⟩
          have hLn : L.length ≤ 70368744177664 := by rw [hL]; simp only [List.length_append, num_length]; omega
          rw [← hL] at hP
          have hnew : l ++ nums m (ns.take k) ++ num (j + 1) x = L ++ [byteU (u64 x) j] := by rw [hd, ← List.append_assoc, ← hL]
          have HNEW := Lib.hid hnew
          clear hd hL hnew
          obtain ⟨p, hp⟩ : ∃ p, p = 8 * j := ⟨_, rfl⟩
          rw [← hp] at hb
          replace hb : IntKind.u8.wrap (x / 2 ^ p) = ((byteU (u64 x) j).toNat : Int) := by rw [IntKind.wrap_u8]; exact hb
          generalize byteU (u64 x) j = y at *
          have c1 := hP.c0
          have hne : some b ≠ v2.ownBlock := fun e => by have := (hP.ownLt e.symm).1; omega
          have hPl := hP.lt
          have h63 : L.length + 1 ≤ maxLen := by unfold maxLen; omega
          have hby : (L.length + 1) * 1 ≤ 140737488355328 := by omega
          have hbase : b + 1 ≤ ((wr.alloc (.cells #[.int .u8 (y.toNat : Int)] 5)).drew).heap.size := by show b + 1 ≤ (wr.alloc _).heap.size; rw [World.size_alloc]; omega
          have e1 : IntKind.i64.wrap (8 * (j : Int)) = (p : Int) := (IntWalk.i64_in _ (by omega)).trans (by omega)
          have e2 : (0 : Int) ≤ (p : Int) := Int.natCast_nonneg _
          have e3 : (p : Int) ≤ 64 := by omega
          have hm8 := hm.2
          clear hp hm
          go_wp2_with fail
          go_region_law
            ((refine step_append_lies _ (by rfl) _ _ 51 (by rfl) (b + 1) 5 i z 1 1 Tryd.underlying51 hi hz hi1 hi2 hi3 (by decide) v2 L.length (Lib.byteCells L) (by rfl) ((hP.own.alloc _).drew)
                  ⟨wr.heap.size, 0, none⟩ 1 1 [.int .u8 (y.toNat : Int)] (by rfl) (by rfl) (World.news_of_block (cs := #[.int .u8 (y.toNat : Int)]) (t := 5) (fr := (0, 0)) (heap_alloc_new wr _)) (by simp [Value.oneCell']) (by decide) h63 hby hbase (wr.heap.size + 1) (by show (wr.alloc _).heap.size = _; rw [World.size_alloc]) ?_; intro g cap w4 hown4 hgr4 hat4 hlt4; have hc4 := gb_has hgr4 ((hP.cell.alloc _).drew) hne; have c4 := hc4.cell 0; have f4 := hc4.free 0))
          all_goals
            have hBd : Below wr.heap.size wr ((wr.alloc (.cells #[.int .u8 (y.toNat : Int)] 5)).drew) := ((Below.refl _ _).alloc (Nat.le_refl _) _).drew
            obtain ⟨hP5, hS5⟩ := hP.put (x := [y]) hBd hown4 hgr4 (fun k' hk' => by
              rcases hat4 with e | e
              · exact .inl (e.trans hk')
              · obtain rfl : g = k' := Option.some.inj hk'
                exact .inr (by omega))
            go_wp2_with fail
            go_roundw
            case rel => exact ⟨j + 1, _, by omega, by go_num, by rw [HNEW.out]; exact hP5, hS.trans hS5⟩
            case measure => simp [intOf]; omega
        · obtain rfl : j = m := by omega
          go_wp2_with fail
          go_roundw
          case rel => exact ⟨k + 1, v2, by omega, by go_num, by rw [HNX.out, ← List.append_assoc]; exact hP, hS⟩
          case measure => simp [intOf]; omega
    · obtain rfl : k = n := by omega
      rw [HN.out, List.take_length] at hP
      go_wp2_with fail
      go_end0
      exact ⟨v1, rfl, hP, hS⟩
theorem put_nil (size : Int) (a : Option Addr) (n c : Nat) (w : World) : Calls Tryd.prog 41 #[.pointer none, .int .i64 size, .slice a n c] w fun r w' => r = .returned (.tuple #[]) ∧ w = w' := by
  go_enter Tryd.func41, Tryd.ntmps41
  go_wp2_with fail
  exact bodyPost_ret (v := .tuple #[]) (by simp [results, Tryd.results41, go_sem]) rfl ⟨rfl, rfl⟩
end Go.Proofs.YtmpllagaeoolaaaDoor
/-
  scroll's Pen: Count, Names, Raw, Text.
-/
namespace Go.Proofs.YtmpllagaeoolaaaDoor
open Go.RowKit Mem Sc
theorem IntsAt.new (w : World) {b : Nat} {v : Value} {l : List UInt8} (h : PenAt w b v l) (cs : Array Value) (ns : List Int) (t : TypeId) (hcs : cs = (ns.map (Value.int .i64)).toArray) : IntsAt (w.alloc (.cells cs t)) b v (some ⟨w.heap.size, 0, none⟩) ns := fun _ => by
  have hlt := h.lt
  refine ⟨w.heap.size, 0, rfl, by omega, fun e => by have := (h.ownLt e).2; omega, by rw [World.size_alloc]; omega, fun i hi => ?_⟩
  rw [(Has.new cs t).cell, hcs]
  simp [hi]
theorem nums_one (k : Nat) (x : Int) : nums k [x] = num k x := by simp [nums]
/-- one number is put -/
theorem put1 (b : Nat) (v : Value) (l : List UInt8) (size : Int) (m : Nat) (hm : near size 8 = m) (x : Int) (w : World) (h : PenAt w b v l) (hsz : l.length ≤ 70368744177600) :
    Calls Tryd.prog 41 #[.pointer (some ⟨b, 0, none⟩), .int .i64 size, .slice (some ⟨w.heap.size, 0, none⟩) 1 1] (w.alloc (.cells #[.int .i64 x] 3)) fun r w' => PenPost w b v (l ++ num m x) r w' := by
  subst hm
  have hb : Below w.heap.size w (w.alloc (.cells #[.int .i64 x] 3)) := (Below.refl _ _).alloc (Nat.le_refl _) _
  refine (put_at b v l size _ [x] 1 1 rfl _ (h.below hb) (IntsAt.new w h _ [x] _ rfl) (by omega)).mono ?_
  rintro r w' ⟨v', rfl, hP, hS⟩
  rw [nums_one] at hP
  exact ⟨v', rfl, hP, hS.below hb⟩
/-- .. where the world's size is spelt out -/
theorem put1_at (b : Nat) (v : Value) (l : List UInt8) (size : Int) (m : Nat) (hm : near size 8 = m) (x : Int) (w : World) (H : Nat) (hH : w.heap.size = H) (h : PenAt w b v l) (hsz : l.length ≤ 70368744177600) :
    Calls Tryd.prog 41 #[.pointer (some ⟨b, 0, none⟩), .int .i64 size, .slice (some ⟨H, 0, none⟩) 1 1] (w.alloc (.cells #[.int .i64 x] 3)) fun r w' => PenPost w b v (l ++ num m x) r w' := by
  subst hH; exact put1 b v l size m hm x w h hsz
theorem cnt_low (n : Int) (h : n < 253) : cnt n = num 1 (max n 0) := by
  unfold cnt
  by_cases h0 : n < 0
  · rw [if_pos h0, show max n 0 = 0 by omega]; rfl
  · rw [if_neg h0, if_pos h, show max n 0 = n by omega]
theorem cnt_2 (n : Int) (h1 : 253 ≤ n) (h2 : n ≤ 65535) : cnt n = num 1 253 ++ num 2 n := by
  unfold cnt
  rw [if_neg (by omega), if_neg (by omega), if_pos (by omega)]; rfl
theorem cnt_4 (n : Int) (h1 : 65535 < n) (h2 : n ≤ 4294967295) : cnt n = num 1 254 ++ num 4 n := by
  unfold cnt
  rw [if_neg (by omega), if_neg (by omega), if_neg (by omega), if_pos (by omega)]; rfl
theorem cnt_8 (n : Int) (h1 : 4294967295 < n) : cnt n = num 1 255 ++ num 8 n := by
  unfold cnt
  rw [if_neg (by omega), if_neg (by omega), if_neg (by omega), if_neg (by omega)]; rfl
theorem cnt_length (n : Int) : 1 ≤ (cnt n).length ∧ (cnt n).length ≤ 9 := by
  unfold cnt
  split
  · simp
  · split
    · simp [num_length]
    · split
      · simp [num_length]
      · split <;> simp [num_length]
set_option maxHeartbeats 400000 in
theorem pcount_low (b : Nat) (v : Value) (l : List UInt8) (n : Int) (hn : n < 253) (w : World) (h : PenAt w b v l) (hsz : l.length ≤ 70368744177536) :
    Calls Tryd.prog 42 #[.pointer (some ⟨b, 0, none⟩), .int .i64 n] w fun r w' => PenPost w b v (l ++ cnt n) r w' := by
  rw [cnt_low n hn]
  have C := Lib.hid (put1 b v l 1 1 rfl (max n 0) w h (by omega))
  have t1 : decide (n < 253) = true := decide_eq_true hn
  by_cases h0 : n < 0
  · rw [show max n 0 = 0 by omega] at C ⊢
    go_enter Tryd.func42, Tryd.ntmps42
    go_wp2_with fail
    refine C.out.mono ?_
    rintro r w' ⟨v', rfl, hP, hS⟩
    go_wp2_with fail
    go_end0
    exact ⟨v', rfl, hP, hS⟩
  · rw [show max n 0 = n by omega] at C ⊢
    go_enter Tryd.func42, Tryd.ntmps42
    go_wp2_with fail
    refine C.out.mono ?_
    rintro r w' ⟨v', rfl, hP, hS⟩
    go_wp2_with fail
    go_end0
    exact ⟨v', rfl, hP, hS⟩
set_option maxHeartbeats 400000 in
theorem pcount_2 (b : Nat) (v : Value) (l : List UInt8) (n : Int) (h1 : 253 ≤ n) (h2 : n ≤ 65535) (w : World) (h : PenAt w b v l) (hsz : l.length ≤ 70368744177536) :
    Calls Tryd.prog 42 #[.pointer (some ⟨b, 0, none⟩), .int .i64 n] w fun r w' => PenPost w b v (l ++ cnt n) r w' := by
  rw [cnt_2 n h1 h2, ← List.append_assoc]
  have C1 := Lib.hid (put1 b v l 1 1 rfl 253 w h (by omega))
  have C2 := Lib.hid (fun v w h => put1 b v (l ++ num 1 253) 2 2 rfl n w h (by rw [List.length_append, num_length]; omega))
  have t1 : decide (n < 253) = false := decide_eq_false (by omega)
  have t2 : decide (n ≤ 65535) = true := decide_eq_true (by omega)
  clear h1 h2 hsz
  go_enter Tryd.func42, Tryd.ntmps42
  go_wp2_with fail
  refine C1.out.mono ?_
  rintro r w1 ⟨v1, rfl, hP, hS⟩
  go_wp2_with fail
  refine (C2.out v1 w1 hP).mono ?_
  rintro r w2 ⟨v2, rfl, hP2, hS2⟩
  go_wp2_with fail
  go_end0
  exact ⟨v2, rfl, hP2, hS.trans hS2⟩
set_option maxHeartbeats 400000 in
theorem pcount_4 (b : Nat) (v : Value) (l : List UInt8) (n : Int) (h1 : 65535 < n) (h2 : n ≤ 4294967295) (w : World) (h : PenAt w b v l) (hsz : l.length ≤ 70368744177536) :
    Calls Tryd.prog 42 #[.pointer (some ⟨b, 0, none⟩), .int .i64 n] w fun r w' => PenPost w b v (l ++ cnt n) r w' := by
  rw [cnt_4 n h1 h2, ← List.append_assoc]
  have C1 := Lib.hid (put1 b v l 1 1 rfl 254 w h (by omega))
  have C2 := Lib.hid (fun v w h => put1 b v (l ++ num 1 254) 4 4 rfl n w h (by rw [List.length_append, num_length]; omega))
  have t1 : decide (n < 253) = false := decide_eq_false (by omega)
  have t2 : decide (n ≤ 65535) = false := decide_eq_false (by omega)
  have t3 : decide (n ≤ 4294967295) = true := decide_eq_true (by omega)
  clear h1 h2 hsz
  go_enter Tryd.func42, Tryd.ntmps42
  go_wp2_with fail
  refine C1.out.mono ?_
  rintro r w1 ⟨v1, rfl, hP, hS⟩
  go_wp2_with fail
  refine (C2.out v1 w1 hP).mono ?_
  rintro r w2 ⟨v2, rfl, hP2, hS2⟩
  go_wp2_with fail
  go_end0
  exact ⟨v2, rfl, hP2, hS.trans hS2⟩
set_option maxHeartbeats 400000 in
theorem pcount_8 (b : Nat) (v : Value) (l : List UInt8) (n : Int) (h1 : 4294967295 < n) (w : World) (h : PenAt w b v l) (hsz : l.length ≤ 70368744177536) :
    Calls Tryd.prog 42 #[.pointer (some ⟨b, 0, none⟩), .int .i64 n] w fun r w' => PenPost w b v (l ++ cnt n) r w' := by
  rw [cnt_8 n h1, ← List.append_assoc]
  have C1 := Lib.hid (put1 b v l 1 1 rfl 255 w h (by omega))
  have C2 := Lib.hid (fun v w h => put1 b v (l ++ num 1 255) 8 8 rfl n w h (by rw [List.length_append, num_length]; omega))
  have t1 : decide (n < 253) = false := decide_eq_false (by omega)
  have t2 : decide (n ≤ 65535) = false := decide_eq_false (by omega)
  have t3 : decide (n ≤ 4294967295) = false := decide_eq_false (by omega)
  clear h1 hsz
  go_enter Tryd.func42, Tryd.ntmps42
  go_wp2_with fail
  refine C1.out.mono ?_
  rintro r w1 ⟨v1, rfl, hP, hS⟩
  go_wp2_with fail
  refine (C2.out v1 w1 hP).mono ?_
  rintro r w2 ⟨v2, rfl, hP2, hS2⟩
  go_wp2_with fail
  go_end0
  exact ⟨v2, rfl, hP2, hS.trans hS2⟩
theorem pcount_at (b : Nat) (v : Value) (l : List UInt8) (n : Int) (w : World) (h : PenAt w b v l) (hsz : l.length ≤ 70368744177536) :
    Calls Tryd.prog 42 #[.pointer (some ⟨b, 0, none⟩), .int .i64 n] w fun r w' => PenPost w b v (l ++ cnt n) r w' := by
  by_cases h1 : n < 253
  · exact pcount_low b v l n h1 w h hsz
  · by_cases h2 : n ≤ 65535
    · exact pcount_2 b v l n (by omega) h2 w h hsz
    · by_cases h3 : n ≤ 4294967295
      · exact pcount_4 b v l n (by omega) h3 w h hsz
      · exact pcount_8 b v l n (by omega) w h hsz
/-- where the new slice lies, when a string's bytes are appended -/
theorem append_string_lies {P : Program} (w : World) (base : Nat) (t u ty e : TypeId) (i : TypeInfo) (ht : P.underlying t = some (.slice e)) (hu : P.underlying u = some .string) (hi : P.info? e = some i) (hz : i.zero = some (.int .u8 0))
    (hsize : i.size = 1) (hby : i.bytes = 1) (v : Value) (n : Nat) (xs : List Value) (hown : w.ownsRow base e 1 v n xs) (s : ByteArray) (hbytes : n + s.size ≤ 140737488355328) (v' : Value) (w' : World)
    (hr : (Builtin.append_ #[t, u] ty #[v, .string s]).run P w = .ok v' w') (hnil : v' = .slice none 0 0 ↔ v = .slice none 0 0 ∧ s.size = 0) : ∀ k, v'.ownBlock = some k → v.ownBlock = some k ∨ w.heap.size ≤ k := by
  intro k hk
  have hxl : xs.length = n := by simpa using hown.1
  rcases hown.2 with ⟨rfl, rfl⟩ | ⟨g, cap, cur, rfl, hbg, hg, hnc, hcm, hcs, htake⟩
  · by_cases hm : s.size = 0
    · rw [hnil.2 ⟨rfl, hm⟩] at hk; cases hk
    · have h := hr.symm.trans (run_append_nil_string (P := P) w t u ty e i (.int .u8 0) ht hu hi hz s (by omega) (by omega) (by rw [hby]; omega))
      injection h with h1 _
      rw [h1] at hk
      exact .inr (Nat.le_of_eq (Option.some.inj hk))
  · by_cases hroom : n + s.size ≤ cap
    · have hcs' : cur.size = cap := by simpa using hcs
      have h := hr.symm.trans (Lib.run_append_room_string (P := P) w t u ty e i ht hu hi hsize g n cap cur hg s hroom (by omega))
      injection h with h1 _
      rw [h1] at hk
      exact .inl hk
    · have holds : ∀ j u, xs[j]? = some u → w.cell? ((⟨g, 0, none⟩ : Addr).add j) = some u := hown.cells (g := g) rfl
      have h := hr.symm.trans (Lib.run_append_grow_string (P := P) w t u ty e i (.int .u8 0) ht hu hi hz ⟨g, 0, none⟩ n cap xs (by rw [hsize]; simpa using hxl) holds s (by omega) (by omega) (by rw [hby]; exact growslice_fits (by omega) (by omega)))
      injection h with h1 _
      rw [h1] at hk
      exact .inr (Nat.le_of_eq (Option.some.inj hk))
theorem ownsRow_slice {w : World} {base : Nat} {e : TypeId} {size : Nat} {v : Value} {n : Nat} {xs : List Value} (h : w.ownsRow base e size v n xs) : ∃ a m c, v = .slice a m c := by
  rcases h.2 with ⟨h, _⟩ | ⟨g, cap, cur, h, _⟩
  · exact ⟨_, _, _, h⟩
  · exact ⟨_, _, _, h⟩
theorem append_string_op {P : Program} {w : World} {ops : Array Oper} {rest : List Oper} {o : Oper} {a : Act} {Q : Exit → Act → World → Prop} (hgd : o.guard = none) (sl x : Operand) (t u : TypeId)
    (ho : o.op = .call { callee := .builtin .append, args := #[sl, x], argTypes := #[t, u] })
    (base : Nat) (e : TypeId) (i : TypeInfo) (ht : P.underlying t = some (.slice e)) (hu : P.underlying u = some .string) (hi : P.info? e = some i) (hz : i.zero = some (.int .u8 0))
    (hsize : i.size = 1) (hby : i.bytes = 1) (v : Value) (n : Nat) (xs : List Value) (hs : a.eval sl = v) (hown : w.ownsRow base e 1 v n xs) (s : ByteArray) (hx : a.eval x = .string s)
    (h63 : n + s.size ≤ maxLen) (hbytes : n + s.size ≤ 140737488355328) (hbase : base ≤ w.heap.size)
    (h : ∀ v' w', w'.ownsRow base e 1 v' (n + s.size) (xs ++ Lib.strCells s) → w.grownBy w' v.ownBlock → (∀ k, v'.ownBlock = some k → v.ownBlock = some k ∨ w.heap.size ≤ k) → wpList P ops Q rest (a.put o.dst v') w') : wpList P ops Q (o :: rest) a w := by
  refine wpList_plain hgd fun K hK => ?_
  obtain ⟨v', w', hr, h2, h3, h4⟩ := Lib.run_append_own_string (P := P) w base t u o.type e i ht hu hi hz hsize hby v n xs hown s h63 hbytes hbase
  have h5 := append_string_lies w base t u o.type e i ht hu hi hz hsize hby v n xs hown s hbytes v' w' hr h4
  unfold Oper.wp execOp
  simp only [ho, resolve, invoke, builtin, Sem.run_bind, Sem.run_pure, Result.andThen_ok, List.map_toArray, List.map_cons, List.map_nil, hs, hx, hr]
  exact hK _ _ (h v' w' h2 h3 h5)
set_option maxHeartbeats 400000 in
theorem praw_at (b : Nat) (v : Value) (l : List UInt8) (s : ByteArray) (w : World) (h : PenAt w b v l) (hsz : l.length + s.size ≤ 70368744177664) :
    Calls Tryd.prog 46 #[.pointer (some ⟨b, 0, none⟩), .string s] w fun r w' => PenPost w b v (l ++ s.data.toList) r w' := by
  obtain ⟨i, z, hi, hz, hi1, hi2, hi3⟩ := byte_info
  have hz0 : (Tryd.prog.info? 5).bind (·.zero) = some (.int .u8 0) := by kernel_rfl
  rw [hi] at hz0
  simp only [Option.bind_some] at hz0
  have c1 := h.c0
  have hne : some b ≠ v.ownBlock := fun e => by have := (h.ownLt e.symm).1; omega
  have hlt := h.lt
  have h63 : l.length + s.size ≤ maxLen := by unfold maxLen; omega
  clear hz hi3
  go_enter Tryd.func46, Tryd.ntmps46
  go_wp2_with ((with_reducible refine append_string_op rfl _ _ 51 9 rfl (b + 1) 5 i Tryd.underlying51 Tryd.underlying9 hi hz0 hi1 hi2 v l.length _ rfl h.own s rfl h63 (by omega) (by omega) ?_); intro v' w4 hown4 hgr4 hat4; obtain ⟨a5, n5, c5, rfl⟩ := ownsRow_slice hown4; have hc4 := gb_has hgr4 h.cell hne; have c4 := hc4.cell 0; have f4 := hc4.free 0)
  obtain ⟨hP5, hS5⟩ := h.put (x := s.data.toList) (Below.refl _ _) (by rw [← Lib.size_eq]; exact hown4) hgr4 hat4
  go_end0
  exact ⟨_, rfl, hP5, hS5⟩
end Go.Proofs.YtmpllagaeoolaaaDoor
/-
  scroll's Pen: Names, Text.
-/
namespace Go.Proofs.YtmpllagaeoolaaaDoor
open Go.RowKit Mem Sc
/-- names lie where a slice says -/
def NamesAt (w : World) (a : Option Addr) (ls : List (List UInt8)) : Prop :=
  0 < ls.length → ∃ ab ao, a = some ⟨ab, ao, none⟩ ∧ ab < w.heap.size ∧ ∀ i (hi : i < ls.length), ls[i].length = 32 ∧ w.rangeAt ab (ao + i * 32) (Lib.byteCells ls[i])
/-- .. apart from a pen -/
def Apart (b : Nat) (v : Value) (a : Option Addr) : Prop := ∀ p, a = some p → p.block ≠ b ∧ v.ownBlock ≠ some p.block
theorem names_take (ls : List (List UInt8)) (k : Nat) (hk : k < ls.length) : (ls.take (k + 1)).flatten = (ls.take k).flatten ++ ls[k] := by
  rw [List.take_succ_eq_append_getElem hk, List.flatten_append]; simp
theorem flatten_le (ls : List (List UInt8)) (h : ∀ x ∈ ls, x.length = 32) (k : Nat) : (ls.take k).flatten.length ≤ 32 * k := by
  rw [List.length_flatten]
  have : ∀ (m : List (List UInt8)), (∀ x ∈ m, x.length = 32) → (m.map List.length).sum = 32 * m.length := by
    intro m hm
    induction m with
    | nil => rfl
    | cons x m ih =>
      simp only [List.map_cons, List.sum_cons, List.length_cons]
      rw [ih (fun y hy => hm y (by simp [hy])), hm x (by simp)]; omega
  rw [this _ (fun x hx => h x (List.mem_of_mem_take hx)), List.length_take]
  exact Nat.mul_le_mul_left _ (Nat.min_le_left _ _)
set_option maxRecDepth 100000 in
set_option maxHeartbeats 1000000 in
theorem pnames_at (b : Nat) (v : Value) (l : List UInt8) (a : Option Addr) (ls : List (List UInt8)) (n c : Nat) (hn : n = ls.length) (w : World) (h : PenAt w b v l) (hA : NamesAt w a ls) (hap : 0 < ls.length → Apart b v a) (h32 : ∀ x ∈ ls, x.length = 32) (hsz : l.length + 32 * n ≤ 70368744177664) :
    Calls Tryd.prog 43 #[.pointer (some ⟨b, 0, none⟩), .slice a n c] w fun r w' => PenPost w b v (l ++ ls.flatten) r w' := by
  have HN := Lib.hid hn
  have HA := Lib.hid hA
  have HP := Lib.hid hap
  have H32 := Lib.hid h32
  clear hn hA hap h32
  go_enter Tryd.func43, Tryd.ntmps43
  go_wp2_with fail
  go_loopw [10] (fun i wr => ∃ (k : Nat) (v1 : Value), k ≤ n ∧ i = .int .i64 k ∧ PenAt wr b v1 (l ++ (ls.take k).flatten) ∧ PenStep w wr b v v1) (fun i _ => n - (intOf i).toNat)
  case atStart => exact ⟨0, v, Nat.zero_le _, rfl, by simpa using h, PenStep.refl _ _ _⟩
  case round =>
    obtain ⟨k, v1, hk, rfl, hP, hS⟩ := hrel
    by_cases hlt : k < n
    · have hkl : k < ls.length := by rw [← HN.out]; exact hlt
      obtain ⟨ab, ao, rfl, habl, hc⟩ := HA.out (by omega)
      obtain ⟨hab, hav⟩ := HP.out (by omega) _ rfl
      obtain ⟨hx32, hcx⟩ := hc k hkl
      have hr : wr.rangeAt ab (ao + k * 32) (Lib.byteCells ls[k]) := fun j u hu => (hS.cell (a := ⟨ab, ao + k * 32 + j, none⟩) habl hab hav).trans (hcx j u hu)
      have hnx := names_take ls k hkl
      have hle := flatten_le ls H32.out k
      generalize ls[k] = x at *
      have hsx : (Lib.byteCells x).length = 32 := by rw [Lib.byteCells_length, hx32]
      have HX := Lib.hid hsx
      have HNX := Lib.hid hnx
      clear hsx hc hcx hnx
      obtain ⟨i, z, hi, hz, hi1, hi2, hi3⟩ := byte_info
      have hone := bytesV_one x
      have hsz32 : (bytesV x).size = 32 := hv_size hx32
      have h0s : h0.size = 32 := rfl
      obtain ⟨L, hL⟩ : ∃ L, L = l ++ (ls.take k).flatten := ⟨_, rfl⟩
      have hLn : L.length + 32 ≤ 70368744177664 := by rw [hL]; simp only [List.length_append]; omega
      rw [← hL] at hP
      have hnew : l ++ (ls.take (k + 1)).flatten = L ++ x := by rw [HNX.out, ← List.append_assoc, ← hL]
      have HNEW := Lib.hid hnew
      clear hL hnew HNX
      have hP0 := hP.c0
      have HS := Lib.hid hsz32
      have H0 := Lib.hid h0s
      have HX32 := Lib.hid hx32
      clear hsz32 h0s hx32
      go_wp2_with (first
        | (with_reducible refine hl_load_mid rfl _ rfl ab (ao + k * 32) rfl x hr HX.out ?_)
        | (with_reducible refine hl_store rfl _ _ rfl _ _ (bytesV x) rfl rfl rfl HS.out hone h0 (h0_new _ _) H0.out ?_))
      generalize hw3 : World.setRow _ _ _ = w3
      have hX3 : Has w3 wr.heap.size (bytesV x) 24 := by rw [← hw3]; exact (h0_new _ _).row _
      have hB3 : Below wr.heap.size wr w3 := by rw [← hw3]; exact below_setRow ((Below.refl _ _).alloc (Nat.le_refl _) _) (Nat.le_refl _) _
      clear hw3
      have hP3 := hP.below hB3
      have c1 := hP3.c0
      have hne : some b ≠ v1.ownBlock := fun e => by have := (hP3.ownLt e.symm).1; omega
      have hPl := hP3.lt
      have h63 : L.length + 32 ≤ maxLen := by unfold maxLen; omega
      have hby : (L.length + 32) * 1 ≤ 140737488355328 := by omega
      have hbase : b + 1 ≤ w3.drew.heap.size := by show b + 1 ≤ w3.heap.size; omega
      have hnl : (Lib.byteCells x).length = 32 * 1 := HX.out
      have hnews : ∀ j u, (Lib.byteCells x)[j]? = some u → w3.drew.cell? ((⟨wr.heap.size, 0, none⟩ : Addr).add j) = some u := by
        rw [← bytesV_list]; exact World.news_of_block (Has.drew hX3).out
      have HNL := Lib.hid hnl
      have HNW := Lib.hid hnews
      clear hnl hnews
      go_region_law
        ((refine step_append_lies _ (by rfl) _ _ 51 (by rfl) (b + 1) 5 i z 1 1 Tryd.underlying51 hi hz hi1 hi2 hi3 (by decide) v1 L.length (Lib.byteCells L) (by rfl) hP3.own.drew
              ⟨wr.heap.size, 0, none⟩ 32 32 (Lib.byteCells x) (by rfl) HNL.out HNW.out (Lib.byteCells_one _) (by decide) h63 hby hbase w3.heap.size (by rfl) ?_; intro g cap w4 hown4 hgr4 hat4 hlt4; have hc4 := gb_has hgr4 hP3.cell.drew hne; have c4 := hc4.cell 0; have f4 := hc4.free 0))
      all_goals
        have hBd : Below wr.heap.size wr w3.drew := hB3.drew
        obtain ⟨hP5, hS5⟩ := hP.put (x := x) hBd (by rw [HX32.out]; exact hown4) hgr4 (fun k' hk' => by
          rcases hat4 with e | e
          · exact .inl (e.trans hk')
          · obtain rfl : g = k' := Option.some.inj hk'
            have := hB3.size
            exact .inr (by omega))
        go_wp2_with fail
        go_roundw
        case rel => exact ⟨k + 1, _, by omega, by go_num, by rw [HNEW.out]; exact hP5, hS.trans hS5⟩
        case measure => simp [intOf]; omega
    · obtain rfl : k = n := by omega
      rw [HN.out, List.take_length] at hP
      go_wp2_with fail
      go_end0
      exact ⟨v1, rfl, hP, hS⟩
/-- a slice of bytes that is owned, as a text -/
theorem conv_owned {w : World} {base : Nat} {v : Value} {l : List UInt8} (h : w.ownsRow base 5 1 v l.length (Lib.byteCells l)) : (Go.convert 51 9 v).run Tryd.prog w = .ok (.string ⟨l.toArray⟩) w := by
  rcases h.2 with ⟨rfl, h0⟩ | ⟨g, cap, cur, rfl, hb, hg, hn, hm, hcs, ht⟩
  · obtain rfl : l = [] := List.eq_nil_of_length_eq_zero h0
    kernel_rfl
  · have hH : Has w g cur 5 := hg
    refine run_convert_bytes_back w 51 9 5 ⟨g, 0, none⟩ cap l Tryd.underlying51 Tryd.underlying5 Tryd.underlying9 (fun j hj => ?_)
    have e : cur[j]? = (Lib.byteCells l)[j]? := by rw [← ht, List.getElem?_take_of_lt (by omega), Array.getElem?_toList]
    rw [Addr.add_mid, Nat.zero_add, hH.cell j, e]
    simp [Lib.byteCells, hj]
set_option maxHeartbeats 400000 in
theorem text_at (b : Nat) (v : Value) (l : List UInt8) (w : World) (h : PenAt w b v l) : Calls Tryd.prog 26 #[.pointer (some ⟨b, 0, none⟩)] w fun r w' => r = .returned (.string ⟨l.toArray⟩) ∧ w = w' := by
  have c0 := h.c0
  have hcv : (Go.convert 51 9 v).run Tryd.prog w = .ok (.string ⟨l.toArray⟩) w := by
    exact conv_owned h.own
  go_enter Tryd.func26, Tryd.ntmps26
  go_wp2_with fail
  go_ret
  exact ⟨rfl, rfl⟩
end Go.Proofs.YtmpllagaeoolaaaDoor
/-
  The reference of layer 5: Number, Count, Name, Back.
-/
namespace Go.Proofs.YtmpllagaeoolaaaDoor
open Go.RowKit Mem Sc
/-- a text of bytes -/
def txt (l : List UInt8) : ByteArray := ⟨l.toArray⟩
theorem txt_size (l : List UInt8) : (txt l).size = l.length := by show l.toArray.size = _; simp
theorem txt_list (l : List UInt8) : (txt l).data.toList = l := rfl
theorem txt_of (s : ByteArray) : txt s.data.toList = s := ba_ext rfl
theorem txt_append (a b : List UInt8) : txt a ++ txt b = txt (a ++ b) := by
  apply ba_ext
  simp [txt]
/-- one byte, made and turned into a text -/
theorem conv_one (y : UInt8) (w : World) : (Go.convert 51 9 (.slice (some ⟨w.heap.size, 0, none⟩) 1 1)).run Tryd.prog (w.alloc (.cells #[.int .u8 (y.toNat : Int)] 5)) = .ok (.string (txt [y])) (w.alloc (.cells #[.int .u8 (y.toNat : Int)] 5)) := by
  refine run_convert_bytes_back (w.alloc (.cells #[.int .u8 (y.toNat : Int)] 5)) 51 9 5 ⟨w.heap.size, 0, none⟩ 1 [y] Tryd.underlying51 Tryd.underlying5 Tryd.underlying9 (fun j hj => ?_)
  obtain rfl : j = 0 := by simpa using hj
  simp [Addr.add]
theorem byte_u64 (u k : Nat) : (u / 256 ^ k) % 256 = (byteU u k).toNat := (byteU_toNat u k).symm
theorem three_ways (size : Int) : (size < 1 ∧ near size 8 = 1) ∨ (8 < size ∧ near size 8 = 8) ∨ ((size : Int) = (near size 8 : Nat) ∧ 1 ≤ size ∧ size ≤ 8) := by unfold near; omega
set_option maxRecDepth 100000 in
set_option maxHeartbeats 1000000 in
theorem rnumber (size n : Int) (w : World) : Calls Tryd.prog 31 #[.int .i64 size, .int .i64 n] w fun r w' => r = .returned (.string (txt (num (near size 8) n))) ∧ Below w.heap.size w w' := by
  have hm := near_le size 8 (by omega)
  have H3 := Lib.hid (three_ways size)
  have hu := u64_lt n
  have e0 : IntKind.u64.wrap n = (u64 n : Nat) := by rw [IntKind.wrap_u64]; unfold u64; omega
  generalize near size 8 = m at *
  unfold num
  generalize u64 n = u at *
  go_enter Tryd.func31, Tryd.ntmps31
  go_wp2_with fail
  clear e0
  go_loopw [5, 6, 7] (fun q s i wr => ∃ k q' : Nat, k ≤ m ∧ i = .int .i64 k ∧ Hid (q' = u / 256 ^ k) ∧ q = .int .u64 (q' : Int) ∧ s = .string (txt (le k u)) ∧ Below w.heap.size w wr) (fun _ _ i _ => m - (intOf i).toNat)
  case atStart => exact ⟨0, u, Nat.zero_le _, rfl, Lib.hid (by simp), rfl, rfl, Below.refl _ _⟩
  case round =>
    obtain ⟨k, q, hk, rfl, HQ, rfl, rfl, hb⟩ := hrel
    have hq : q < 18446744073709551616 := by rw [HQ.out]; exact Nat.lt_of_le_of_lt (Nat.div_le_self _ _) hu
    obtain ⟨q1, hq1⟩ : ∃ q1, q1 = q / 256 := ⟨_, rfl⟩
    have HQ1 : Hid (q1 = u / 256 ^ (k + 1)) := Lib.hid (by rw [hq1, HQ.out, Nat.pow_succ, Nat.div_div_eq_div_mul])
    have hy : (byteU u k).toNat = q % 256 := by rw [byteU_toNat, ← HQ.out]
    have hy2 := (byteU u k).toNat_lt
    have hs1 := txt_size (le k u)
    rw [le_length] at hs1
    have hs3 := txt_append (le k u) [byteU u k]
    rw [← le_succ k u] at hs3
    have hs4 : (txt [byteU u k]).size = 1 := txt_size _
    have HS3 := Lib.hid hs3
    have hcv := conv_one (byteU u k)
    have hb2 : ∀ cs t, Below w.heap.size w (wr.alloc (.cells cs t)) := fun cs t => hb.alloc hb.size _
    have HB2 := Lib.hid hb2
    generalize hyy : byteU u k = y at *
    generalize hss : txt (le k u) = s at *
    have f1 : (q : Int) % 256 = (y.toNat : Int) := by omega
    have f2 : (y.toNat : Int) % 256 = (y.toNat : Int) := by omega
    have f3 : (q : Int) / 256 = (q1 : Int) := by omega
    have f4 : (q : Int).tmod 256 = (y.toNat : Int) := by rw [Int.tmod_eq_emod_of_nonneg (by omega)]; exact f1
    have f5 : (q : Int).tdiv 256 = (q1 : Int) := by rw [Int.tdiv_eq_ediv_of_nonneg (by omega)]; exact f3
    have hq1l : q1 < 18446744073709551616 := by omega
    have hs5 : s.size ≤ 8 := by omega
    have hs6 : (txt [y]).size ≤ 1 := by omega
    have HSS := Lib.hid hss
    clear hq1 hy hs3 hb2 hs1 hs4 hyy hss
    have H3o := H3.out
    by_cases hlt : k < m
    · have hk7 : k ≤ 7 := by omega
      rcases H3o with ⟨h1, rfl⟩ | ⟨h1, rfl⟩ | ⟨h1, h2, h3⟩
      · obtain rfl : k = 0 := by omega
        clear hlt hk
        go_wp2_with fail
        exact ⟨⟨1, q1, by omega, rfl, HQ1, rfl, congrArg Value.string HS3.out, HB2.out _ _⟩, by simp [intOf]⟩
      · have h4 : ¬ size < 1 := by omega
        have h5 : decide ((k : Int) < 8) = true := decide_eq_true (by omega)
        clear hlt hk
        go_wp2_with fail
        exact ⟨⟨k + 1, q1, by omega, by go_num, HQ1, rfl, congrArg Value.string HS3.out, HB2.out _ _⟩, by simp [intOf]; omega⟩
      · have h4 : ¬ size < 1 := by omega
        have h5 : ¬ 8 < size := by omega
        subst h1
        have h6 : decide (k < m) = true := decide_eq_true hlt
        have hlt2 := Lib.hid hlt
        clear hlt hk
        go_wp2_with fail
        exact ⟨⟨k + 1, q1, hlt2.out, by go_num, HQ1, rfl, congrArg Value.string HS3.out, HB2.out _ _⟩, by have := hlt2.out; simp [intOf]; omega⟩
    · clear hcv HB2 HS3 HQ1 HQ f1 f2 f3 f4 f5
      rcases H3o with ⟨h1, rfl⟩ | ⟨h1, rfl⟩ | ⟨h1, h2, h3⟩
      · obtain rfl : k = 1 := by omega
        go_wp2_with fail
        go_ret
        exact ⟨congrArg (fun s => Ending.returned (.string s)) HSS.out.symm, hb⟩
      · obtain rfl : k = 8 := by omega
        have h4 : ¬ size < 1 := by omega
        go_wp2_with fail
        go_ret
        exact ⟨congrArg (fun s => Ending.returned (.string s)) HSS.out.symm, hb⟩
      · obtain rfl : k = m := by omega
        have h4 : ¬ size < 1 := by omega
        have h5 : ¬ 8 < size := by omega
        subst h1
        clear hlt hk
        go_wp2_with fail
        go_ret
        exact ⟨congrArg (fun s => Ending.returned (.string s)) HSS.out.symm, hb⟩
end Go.Proofs.YtmpllagaeoolaaaDoor
/-
  The reference of layer 5: Name, Back, Count.
-/
namespace Go.Proofs.YtmpllagaeoolaaaDoor
open Go.RowKit Mem Sc
set_option maxRecDepth 100000 in
set_option maxHeartbeats 1000000 in
theorem rname (l : List UInt8) (hl : l.length = 32) (w : World) : Calls Tryd.prog 33 #[.agg (bytesV l)] w fun r w' => r = .returned (.string (txt l)) ∧ Below w.heap.size w w' := by
  have HL := Lib.hid hl
  clear hl
  go_enter Tryd.func33, Tryd.ntmps33
  go_wp2_with fail
  generalize hw1 : World.alloc _ _ = w1
  have hA : Has w1 w.heap.size (bytesV l) 24 := by rw [← hw1]; exact Has.new _ _
  have hB : Below w.heap.size w w1 := by rw [← hw1]; exact (Below.refl _ _).alloc (Nat.le_refl _) _
  have hR : w.heap.size < w1.heap.size := hA.lt
  clear hw1
  go_loopw [3, 4] (fun s i wr => ∃ k : Nat, k ≤ 32 ∧ i = .int .i64 k ∧ s = .string (txt (l.take k)) ∧ Below w.heap.size w wr ∧ Has wr w.heap.size (bytesV l) 24) (fun _ i _ => 32 - (intOf i).toNat)
  case atStart => exact ⟨0, Nat.zero_le _, rfl, rfl, hB, hA⟩
  case round =>
    clear hA hB
    obtain ⟨k, hk, rfl, rfl, hB, hA⟩ := hrel
    by_cases hlt : k < 32
    · have hkl : k < l.length := by rw [HL.out]; exact hlt
      have c1 := hA.byte k hkl
      have hs1 := txt_size (l.take k)
      have hs3 := txt_append (l.take k) [l[k]]
      rw [← List.take_succ_eq_append_getElem hkl] at hs3
      have hs4 : (txt [l[k]]).size = 1 := txt_size _
      have HS3 := Lib.hid hs3
      have hcv := conv_one l[k]
      have hb2 : ∀ cs t, Below w.heap.size w (wr.alloc (.cells cs t)) ∧ Has (wr.alloc (.cells cs t)) w.heap.size (bytesV l) 24 := fun cs t => ⟨hB.alloc hB.size _, hA.alloc _⟩
      have HB2 := Lib.hid hb2
      have hs5 : (txt (l.take k)).size ≤ 32 := by rw [hs1, List.length_take]; omega
      have hs6 : (txt [l[k]]).size ≤ 1 := by omega
      generalize txt (l.take k) = s at *
      generalize l[k] = y at *
      clear hs3 hb2 hs1 hs4 hA hB
      go_wp2_with fail
      exact ⟨⟨k + 1, by omega, by go_num, congrArg Value.string HS3.out, (HB2.out _ _).1, (HB2.out _ _).2⟩, by simp [intOf]; omega⟩
    · obtain rfl : k = 32 := by omega
      have hT : l.take 32 = l := List.take_of_length_le (by rw [HL.out]; omega)
      have HT := Lib.hid hT
      clear hT
      go_wp2_with fail
      go_ret
      exact ⟨congrArg (fun m => Ending.returned (.string (txt m))) HT.out, hB⟩
theorem val_drop (l : List UInt8) (k : Nat) (hk : k < l.length) : val (l.drop k) = l[k].toNat + 256 * val (l.drop (k + 1)) := by
  rw [List.drop_eq_getElem_cons hk]; rfl
theorem val_drop_lt (l : List UInt8) (k : Nat) (h8 : l.length ≤ 8) (hk : 1 ≤ k) : val (l.drop k) < 72057594037927936 := by
  have h1 := val_lt (l.drop k)
  have h2 : 256 ^ (l.drop k).length ≤ 256 ^ 7 := Nat.pow_le_pow_right (by omega) (by rw [List.length_drop]; omega)
  omega
theorem txt_cons (b : UInt8) (l : List UInt8) : txt [b] ++ txt l = txt (b :: l) := txt_append [b] l
set_option maxHeartbeats 400000 in
theorem rcount_neg (n : Int) (h1 : n < 0) (w : World) : Calls Tryd.prog 32 #[.int .i64 n] w fun r w' => r = .returned (.string (txt (cnt n))) ∧ Below w.heap.size w w' := by
  have hc : cnt n = [0] := by unfold cnt; rw [if_pos h1]
  rw [hc]
  go_enter Tryd.func32, Tryd.ntmps32
  go_wp2_with fail
  go_ret
  exact ⟨rfl, Below.refl _ _⟩
set_option maxHeartbeats 400000 in
theorem rcount_1 (n : Int) (h0 : 0 ≤ n) (h1 : n < 253) (w : World) : Calls Tryd.prog 32 #[.int .i64 n] w fun r w' => r = .returned (.string (txt (cnt n))) ∧ Below w.heap.size w w' := by
  have hc : cnt n = num 1 n := by unfold cnt; rw [if_neg (by omega), if_pos h1]
  have C := Lib.hid (rnumber 1 n w)
  rw [show near 1 8 = 1 from rfl] at C
  rw [hc]
  have t1 : decide (n < 0) = false := decide_eq_false (by omega)
  have t2 : decide (n < 253) = true := decide_eq_true h1
  clear hc h0 h1
  generalize txt (num 1 n) = s at *
  go_enter Tryd.func32, Tryd.ntmps32
  go_wp2_with fail
  refine C.out.mono ?_
  rintro r w1 ⟨rfl, hb⟩
  go_wp2_with fail
  go_ret
  exact ⟨rfl, hb⟩
set_option maxHeartbeats 400000 in
theorem rcount_2 (n : Int) (h1 : 253 ≤ n) (h2 : n < 65536) (w : World) : Calls Tryd.prog 32 #[.int .i64 n] w fun r w' => r = .returned (.string (txt (cnt n))) ∧ Below w.heap.size w w' := by
  have hc : cnt n = 253 :: num 2 n := by unfold cnt; rw [if_neg (by omega), if_neg (by omega), if_pos (by omega)]
  rw [hc, ← txt_cons]
  have C := Lib.hid (rnumber 2 n w)
  have hs1 : (txt (num (near 2 8) n)).size ≤ 8 := by rw [txt_size, num_length]; decide
  have hs2 : (txt [253]).size ≤ 1 := by rw [txt_size]; decide
  rw [show near 2 8 = 2 from rfl] at C hs1
  have t1 : decide (n < 0) = false := decide_eq_false (by omega)
  have t2 : decide (n < 253) = false := decide_eq_false (by omega)
  have t3 : decide (n < 65536) = true := decide_eq_true (by omega)
  clear hc h1 h2
  generalize txt (num 2 n) = s at *
  go_enter Tryd.func32, Tryd.ntmps32
  go_wp2_with fail
  refine C.out.mono ?_
  rintro r w1 ⟨rfl, hb⟩
  go_wp2_with fail
  go_ret
  exact ⟨rfl, hb⟩
set_option maxHeartbeats 400000 in
theorem rcount_4 (n : Int) (h1 : 65536 ≤ n) (h2 : n < 4294967296) (w : World) : Calls Tryd.prog 32 #[.int .i64 n] w fun r w' => r = .returned (.string (txt (cnt n))) ∧ Below w.heap.size w w' := by
  have hc : cnt n = 254 :: num 4 n := by unfold cnt; rw [if_neg (by omega), if_neg (by omega), if_neg (by omega), if_pos (by omega)]
  rw [hc, ← txt_cons]
  have C := Lib.hid (rnumber 4 n w)
  have hs1 : (txt (num (near 4 8) n)).size ≤ 8 := by rw [txt_size, num_length]; decide
  have hs2 : (txt [254]).size ≤ 1 := by rw [txt_size]; decide
  rw [show near 4 8 = 4 from rfl] at C hs1
  have t1 : decide (n < 0) = false := decide_eq_false (by omega)
  have t2 : decide (n < 253) = false := decide_eq_false (by omega)
  have t3 : decide (n < 65536) = false := decide_eq_false (by omega)
  have t4 : decide (n < 4294967296) = true := decide_eq_true (by omega)
  clear hc h1 h2
  generalize txt (num 4 n) = s at *
  go_enter Tryd.func32, Tryd.ntmps32
  go_wp2_with fail
  refine C.out.mono ?_
  rintro r w1 ⟨rfl, hb⟩
  go_wp2_with fail
  go_ret
  exact ⟨rfl, hb⟩
set_option maxHeartbeats 400000 in
theorem rcount_8 (n : Int) (h1 : 4294967296 ≤ n) (w : World) : Calls Tryd.prog 32 #[.int .i64 n] w fun r w' => r = .returned (.string (txt (cnt n))) ∧ Below w.heap.size w w' := by
  have hc : cnt n = 255 :: num 8 n := by unfold cnt; rw [if_neg (by omega), if_neg (by omega), if_neg (by omega), if_neg (by omega)]
  rw [hc, ← txt_cons]
  have C := Lib.hid (rnumber 8 n w)
  have hs1 : (txt (num (near 8 8) n)).size ≤ 8 := by rw [txt_size, num_length]; decide
  have hs2 : (txt [255]).size ≤ 1 := by rw [txt_size]; decide
  rw [show near 8 8 = 8 from rfl] at C hs1
  have t1 : decide (n < 0) = false := decide_eq_false (by omega)
  have t2 : decide (n < 253) = false := decide_eq_false (by omega)
  have t3 : decide (n < 65536) = false := decide_eq_false (by omega)
  have t4 : decide (n < 4294967296) = false := decide_eq_false (by omega)
  clear hc h1
  generalize txt (num 8 n) = s at *
  go_enter Tryd.func32, Tryd.ntmps32
  go_wp2_with fail
  refine C.out.mono ?_
  rintro r w1 ⟨rfl, hb⟩
  go_wp2_with fail
  go_ret
  exact ⟨rfl, hb⟩
theorem rcount (n : Int) (w : World) : Calls Tryd.prog 32 #[.int .i64 n] w fun r w' => r = .returned (.string (txt (cnt n))) ∧ Below w.heap.size w w' := by
  by_cases h0 : n < 0
  · exact rcount_neg n h0 w
  · by_cases h1 : n < 253
    · exact rcount_1 n (by omega) h1 w
    · by_cases h2 : n < 65536
      · exact rcount_2 n (by omega) h2 w
      · by_cases h3 : n < 4294967296
        · exact rcount_4 n (by omega) h3 w
        · exact rcount_8 n (by omega) w
end Go.Proofs.YtmpllagaeoolaaaDoor
/-
  The reference of layer 5: Counted.
-/
namespace Go.Proofs.YtmpllagaeoolaaaDoor
open Go.RowKit Mem Sc
theorem head_byte {s : ByteArray} {b : UInt8} {r : List UInt8} (hs : s.data.toList = b :: r) (h : 0 < s.size) : s[0] = b := by
  have this : s.data.toList[0]? = some b := by rw [hs]; rfl
  have hd : 0 < s.data.size := h
  rw [Array.getElem?_toList, Array.getElem?_eq_getElem hd] at this
  exact Option.some.inj this
theorem ba_eq_list (a b : ByteArray) : (a.toList == b.toList) = decide (a.data.toList = b.data.toList) := by
  rw [ByteArray.toList_eq, ByteArray.toList_eq, Bool.eq_iff_iff]; simp
end Go.Proofs.YtmpllagaeoolaaaDoor
/-
  Layer 5's laws: alive.
-/
namespace Go.Proofs.YtmpllagaeoolaaaDoor
open Go.RowKit Mem Sc
theorem cnt253 : (⟨(([] : List UInt8) ++ cnt 253).toArray⟩ : ByteArray) = ⟨#[253, 253, 0]⟩ := by decide +kernel
/-- what a pen that the call made writes leaves old memory as it was -/
theorem pen_below {w w' : World} {b : Nat} {v v' : Value} {l : List UInt8} {W : World} (hB : Below W.heap.size W w) (hb : W.heap.size ≤ b) (hp : PenAt w b v l) (h : PenStep w w' b v v') : Below W.heap.size W w' :=
  hB.trans ((h.toBelow hp).mono hb)
theorem text_txt (b : Nat) (v : Value) (l : List UInt8) (w : World) (h : PenAt w b v l) : Calls Tryd.prog 26 #[.pointer (some ⟨b, 0, none⟩)] w fun r w' => r = .returned (.string (txt l)) ∧ w = w' := text_at b v l w h
end Go.Proofs.YtmpllagaeoolaaaDoor
