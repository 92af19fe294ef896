/-
  Texts of this seat, one behind the other.
-/
import Derived.WalkKit
import Derived.WalkSpells
import Derived.WalkLawsBesides
namespace Go.Proofs.Yteblphnpealefaa.Wd
open Go.RowKit

/-- a word as a number (closed to the walk) -/
def n (x : BitVec 32) : Int := (x.toNat : Int)
theorem n_nonneg (x : BitVec 32) : 0 ≤ n x := Int.natCast_nonneg _
theorem n_lt (x : BitVec 32) : n x < 4294967296 := by have := x.isLt; unfold n; omega
theorem n_inj {x y : BitVec 32} (h : n x = n y) : x = y := BitVec.eq_of_toNat_eq (by unfold n at h; omega)
theorem wrap_toNat (k : Nat) : IntKind.u32.wrap (k : Int) = n (BitVec.ofNat 32 k) := by
  unfold n; rw [IntKind.wrap_u32', BitVec.toNat_ofNat]; omega
theorem add (x y : BitVec 32) : IntKind.u32.wrap (n x + n y) = n (x + y) := by
  unfold n; rw [IntKind.wrap_u32', BitVec.toNat_add]; omega
theorem sub (x y : BitVec 32) : IntKind.u32.wrap (n x - n y) = n (x - y) := by
  unfold n; rw [IntKind.wrap_u32', BitVec.toNat_sub]; have := x.isLt; have := y.isLt; omega
theorem ofInt_n (x : BitVec 32) : BitVec.ofInt 32 (n x) = x := by unfold n; simp
theorem wrap_bv (x : BitVec 32) : IntKind.u32.wrap (x.toNat : Int) = n x := by
  unfold n; rw [IntKind.wrap_u32']; have := x.isLt; omega
theorem and (x y : BitVec 32) : bits .and .u32 (n x) (n y) = n (x &&& y) := by
  show IntKind.u32.wrap ((BitVec.ofInt 32 (n x) &&& BitVec.ofInt 32 (n y)).toNat : Int) = _
  rw [ofInt_n, ofInt_n, wrap_bv]
theorem or (x y : BitVec 32) : bits .or .u32 (n x) (n y) = n (x ||| y) := by
  show IntKind.u32.wrap ((BitVec.ofInt 32 (n x) ||| BitVec.ofInt 32 (n y)).toNat : Int) = _
  rw [ofInt_n, ofInt_n, wrap_bv]
theorem xor (x y : BitVec 32) : bits .xor .u32 (n x) (n y) = n (x ^^^ y) := by
  show IntKind.u32.wrap ((BitVec.ofInt 32 (n x) ^^^ BitVec.ofInt 32 (n y)).toNat : Int) = _
  rw [ofInt_n, ofInt_n, wrap_bv]
theorem shl (x : BitVec 32) (m : Nat) : n x * (2 : Int) ^ m % (4294967296 : Int) = n (x <<< m) := by
  unfold n
  rw [show (x.toNat : Int) * 2 ^ m = ((x.toNat * 2 ^ m : Nat) : Int) by simp, BitVec.toNat_shiftLeft, Nat.shiftLeft_eq]
  omega
theorem shr (x : BitVec 32) (m : Nat) : n x / (2 : Int) ^ m = n (x >>> m) := by
  unfold n
  simp [BitVec.toNat_ushiftRight, Nat.shiftRight_eq_div_pow]
theorem shl8 (x : BitVec 32) : n x * (256 : Int) % (4294967296 : Int) = n (x <<< 8) := by have := shl x 8; simpa using this
theorem shr3 (x : BitVec 32) : n x / (8 : Int) = n (x >>> 3) := by have := shr x 3; simpa using this
theorem shr10 (x : BitVec 32) : n x / (1024 : Int) = n (x >>> 10) := by have := shr x 10; simpa using this
theorem not (x : BitVec 32) : bits .xor .u32 (if IntKind.u32.signed = true then -1 else IntKind.u32.max) (n x) = n (~~~x) := by
  have e : (if IntKind.u32.signed = true then (-1 : Int) else IntKind.u32.max) = n (BitVec.allOnes 32) := by decide
  rw [e, xor, BitVec.allOnes_xor]
theorem not' (x : BitVec 32) : bits .xor .u32 4294967295 (n x) = n (~~~x) := by
  have e : (4294967295 : Int) = n (BitVec.allOnes 32) := by decide
  rw [e, xor, BitVec.allOnes_xor]
theorem notSub (x : BitVec 32) : IntKind.u32.wrap (4294967295 - n x) = n (~~~x) := by
  unfold n; rw [IntKind.wrap_u32', BitVec.toNat_not]; have := x.isLt; omega
/-- a byte as a word -/
def ofByte (b : UInt8) : BitVec 32 := BitVec.ofNat 32 b.toNat
theorem n_ofByte (b : UInt8) : n (ofByte b) = (b.toNat : Int) := by
  unfold n ofByte; rw [BitVec.toNat_ofNat]; have := b.toNat_lt; omega
theorem byte (b : UInt8) : IntKind.u32.wrap (b.toNat : Int) = n (ofByte b) := by
  unfold ofByte; rw [wrap_toNat]
theorem orByte (x : BitVec 32) (b : UInt8) : bits .or .u32 (n x) (b.toNat : Int) = n (x ||| ofByte b) := by
  rw [← or, n_ofByte]
theorem neg31 (k : Int) (h1 : 0 < k) (h2 : k < 32) : bits .and .u64 (IntKind.u64.wrap (-k)) 31 = ((32 - k.toNat : Nat) : Int) := by
  have h : ∀ j : Fin 32, 0 < j.val → bits .and .u64 (IntKind.u64.wrap (-(j.val : Int))) 31 = ((32 - j.val : Nat) : Int) := by decide +kernel
  have := h ⟨k.toNat, by omega⟩ (by show 0 < k.toNat; omega)
  rw [show (((⟨k.toNat, by omega⟩ : Fin 32).val : Nat) : Int) = k from by show (k.toNat : Int) = k; omega] at this
  exact this
theorem left_right (x : BitVec 32) (k : Int) (h1 : 0 < k) (h2 : k < 32) : x.rotateLeft (32 - k.toNat) = x.rotateRight k.toNat := by
  rw [BitVec.rotateLeft_def, BitVec.rotateRight_def, Nat.mod_eq_of_lt (by omega), Nat.mod_eq_of_lt (by omega), BitVec.or_comm, show 32 - (32 - k.toNat) = k.toNat by omega]
theorem rot_add (x : BitVec 32) (k : Nat) (h1 : 0 < k) (h2 : k < 32) : x >>> k + x <<< (32 - k) = x.rotateRight k := by
  rw [BitVec.rotateRight_def, Nat.mod_eq_of_lt h2]
  apply BitVec.add_eq_or_of_and_eq_zero
  apply BitVec.eq_of_getLsbD_eq
  intro i hi
  rw [BitVec.getLsbD_and, BitVec.getLsbD_ushiftRight, BitVec.getLsbD_shiftLeft, BitVec.getLsbD_zero]
  by_cases h : i < 32 - k
  · simp [h]
  · rw [BitVec.getLsbD_of_ge x (k + i) (by omega)]; simp
end Go.Proofs.Yteblphnpealefaa.Wd
/-
  Plain mathematics: SHA-256 on lists of bytes, over BitVec 32. No model's run in this text.
-/
namespace Go.Proofs.Yteblphnpealefaa.Sha

abbrev W32 := BitVec 32
/-- a byte as a word -/
abbrev ofByte := Wd.ofByte
/-- bytes as a word, the highest first -/
def wordOf (l : List UInt8) : W32 := l.foldl (fun acc b => acc <<< 8 ||| ofByte b) 0
/-- the i-th word of a block -/
def blockWord (l : List UInt8) (i : Nat) : W32 := wordOf ((l.drop (4 * i)).take 4)

def sig0 (x : W32) : W32 := x.rotateRight 7 ^^^ x.rotateRight 18 ^^^ x >>> 3
def sig1 (x : W32) : W32 := x.rotateRight 17 ^^^ x.rotateRight 19 ^^^ x >>> 10

def schedTo (m : Nat → W32) : Nat → List W32
  | 0 => (List.range 16).map m
  | n + 1 => schedTo m n ++ [(schedTo m n).getD n 0 + sig0 ((schedTo m n).getD (n + 1) 0) + (schedTo m n).getD (n + 9) 0 + sig1 ((schedTo m n).getD (n + 14) 0)]
/-- the words of a block: the sixteen told, the others reckoned -/
def sched (m : Nat → W32) (j : Nat) : W32 := (schedTo m 48).getD j 0

theorem schedTo_length (m : Nat → W32) : ∀ n, (schedTo m n).length = n + 16
  | 0 => by simp [schedTo]
  | n + 1 => by simp [schedTo, schedTo_length m n]
theorem schedTo_more (m : Nat → W32) (n j : Nat) (h : j < n + 16) : ∀ d, (schedTo m (n + d)).getD j 0 = (schedTo m n).getD j 0
  | 0 => rfl
  | d + 1 => by
    rw [← schedTo_more m n j h d]
    show (schedTo m (n + d) ++ _).getD j 0 = _
    rw [List.getD_eq_getElem?_getD, List.getElem?_append_left (by rw [schedTo_length]; omega), ← List.getD_eq_getElem?_getD]
theorem sched_first (m : Nat → W32) (j : Nat) (h : j < 16) : sched m j = m j := by
  have := schedTo_more m 0 j (by omega) 48
  rw [Nat.zero_add] at this
  unfold sched
  rw [this]
  simp [schedTo, h]
theorem sched_at (m : Nat → W32) (n j : Nat) (h : j < n + 16) (hn : n ≤ 48) : (schedTo m n).getD j 0 = sched m j := by
  have := schedTo_more m n j h (48 - n)
  rw [show n + (48 - n) = 48 by omega] at this
  exact this.symm
theorem sched_next (m : Nat → W32) (i : Nat) (h : 16 ≤ i) (h2 : i < 64) :
    sched m i = sched m (i - 16) + sig0 (sched m (i - 15)) + sched m (i - 7) + sig1 (sched m (i - 2)) := by
  obtain ⟨n, rfl⟩ : ∃ n, i = n + 16 := ⟨i - 16, by omega⟩
  rw [← sched_at m (n + 1) (n + 16) (by omega) (by omega)]
  show (schedTo m n ++ [_]).getD (n + 16) 0 = _
  have hl := schedTo_length m n
  rw [List.getD_eq_getElem?_getD, List.getElem?_append_right (by omega), hl, Nat.sub_self]
  rw [sched_at m n _ (by omega) (by omega), sched_at m n _ (by omega) (by omega), sched_at m n _ (by omega) (by omega), sched_at m n _ (by omega) (by omega)]
  rw [show n + 16 - 16 = n by omega, show n + 16 - 15 = n + 1 by omega, show n + 16 - 7 = n + 9 by omega, show n + 16 - 2 = n + 14 by omega]
  rfl

structure S8 where
  a : W32
  b : W32
  c : W32
  d : W32
  e : W32
  f : W32
  g : W32
  h : W32
def S8.at (s : S8) : Nat → W32
  | 0 => s.a | 1 => s.b | 2 => s.c | 3 => s.d | 4 => s.e | 5 => s.f | 6 => s.g | _ => s.h
def S8.of (f : Nat → W32) : S8 := ⟨f 0, f 1, f 2, f 3, f 4, f 5, f 6, f 7⟩
theorem S8.of_at (s : S8) : S8.of s.at = s := rfl
def kList : List W32 := [
    0x428a2f98, 0x71374491, 0xb5c0fbcf, 0xe9b5dba5, 0x3956c25b, 0x59f111f1, 0x923f82a4, 0xab1c5ed5,
    0xd807aa98, 0x12835b01, 0x243185be, 0x550c7dc3, 0x72be5d74, 0x80deb1fe, 0x9bdc06a7, 0xc19bf174,
    0xe49b69c1, 0xefbe4786, 0x0fc19dc6, 0x240ca1cc, 0x2de92c6f, 0x4a7484aa, 0x5cb0a9dc, 0x76f988da,
    0x983e5152, 0xa831c66d, 0xb00327c8, 0xbf597fc7, 0xc6e00bf3, 0xd5a79147, 0x06ca6351, 0x14292967,
    0x27b70a85, 0x2e1b2138, 0x4d2c6dfc, 0x53380d13, 0x650a7354, 0x766a0abb, 0x81c2c92e, 0x92722c85,
    0xa2bfe8a1, 0xa81a664b, 0xc24b8b70, 0xc76c51a3, 0xd192e819, 0xd6990624, 0xf40e3585, 0x106aa070,
    0x19a4c116, 0x1e376c08, 0x2748774c, 0x34b0bcb5, 0x391c0cb3, 0x4ed8aa4a, 0x5b9cca4f, 0x682e6ff3,
    0x748f82ee, 0x78a5636f, 0x84c87814, 0x8cc70208, 0x90befffa, 0xa4506ceb, 0xbef9a3f7, 0xc67178f2]
def kAt (i : Nat) : W32 := kList.getD i 0
def start : S8 := ⟨0x6a09e667, 0xbb67ae85, 0x3c6ef372, 0xa54ff53a, 0x510e527f, 0x9b05688c, 0x1f83d9ab, 0x5be0cd19⟩
def bigX (s : S8) (k w : W32) : W32 := s.h + (s.e.rotateRight 6 ^^^ s.e.rotateRight 11 ^^^ s.e.rotateRight 25) + (s.e &&& s.f ||| ~~~s.e &&& s.g) + k + w
def bigY (s : S8) : W32 := (s.a.rotateRight 2 ^^^ s.a.rotateRight 13 ^^^ s.a.rotateRight 22) + (s.a &&& s.b ||| s.a &&& s.c ||| s.b &&& s.c)
def round (s : S8) (k w : W32) : S8 := ⟨bigX s k w + bigY s, s.a, s.b, s.c, s.d + bigX s k w, s.e, s.f, s.g⟩
def rounds (s : S8) (w : Nat → W32) : Nat → S8
  | 0 => s
  | n + 1 => round (rounds s w n) (kAt n) (w n)
def S8.add (s t : S8) : S8 := ⟨s.a + t.a, s.b + t.b, s.c + t.c, s.d + t.d, s.e + t.e, s.f + t.f, s.g + t.g, s.h + t.h⟩
/-- the state behind a block of 64 bytes -/
def press (s : S8) (block : List UInt8) : S8 := s.add (rounds s (sched (blockWord block)) 64)
/-- the state behind so many whole blocks -/
def pressAll : Nat → S8 → List UInt8 → S8
  | 0, s, _ => s
  | n + 1, s, l => pressAll n (press s (l.take 64)) (l.drop 64)
def lenBytes (n : Nat) : List UInt8 := (List.range 8).map fun i => UInt8.ofNat (n * 8 / 2 ^ (8 * (7 - i)) % 256)
/-- what stands behind a text of n bytes -/
def ending (n : Nat) : List UInt8 := 0x80 :: (List.replicate ((119 - n % 64) % 64) 0 ++ lenBytes n)
def bytesOf (w : W32) : List UInt8 := (List.range 4).map fun j => UInt8.ofNat (w.toNat / 2 ^ (24 - 8 * j) % 256)
def nameOf (s : S8) : List UInt8 := (List.range 32).map fun i => UInt8.ofNat ((s.at (i / 4)).toNat / 2 ^ (24 - 8 * (i % 4)) % 256)
theorem pressAll_succ : ∀ (n : Nat) (s : S8) (l : List UInt8), pressAll (n + 1) s l = press (pressAll n s l) ((l.drop (64 * n)).take 64)
  | 0, s, l => by simp [pressAll]
  | n + 1, s, l => by
    show pressAll (n + 1) (press s (l.take 64)) (l.drop 64) = _
    rw [pressAll_succ n, List.drop_drop, show 64 + 64 * n = 64 * (n + 1) by omega]
    rfl
theorem pressAll_more : ∀ (n : Nat) (s : S8) (l x : List UInt8), 64 * n ≤ l.length → pressAll n s (l ++ x) = pressAll n s l
  | 0, _, _, _, _ => rfl
  | n + 1, s, l, x, h => by
    show pressAll n (press s ((l ++ x).take 64)) ((l ++ x).drop 64) = pressAll n (press s (l.take 64)) (l.drop 64)
    rw [List.take_append_of_le_length (by omega), List.drop_append_of_le_length (by omega)]
    exact pressAll_more n _ _ x (by rw [List.length_drop]; omega)
/-- SHA-256 -/
def sha (l : List UInt8) : List UInt8 := nameOf (pressAll ((l ++ ending l.length).length / 64) start (l ++ ending l.length))
theorem sha_abc : (sha [0x61, 0x62, 0x63]).getD 31 0 = 0xad ∧ (sha [0x61, 0x62, 0x63]).getD 0 0 = 0xba := by decide +kernel
end Go.Proofs.Yteblphnpealefaa.Sha
