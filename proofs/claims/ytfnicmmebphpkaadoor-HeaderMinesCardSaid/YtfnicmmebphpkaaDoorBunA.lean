/-
  Texts of this seat, one behind the other.
-/
import Derived.WalkKit
import Derived.WalkSpells
import Derived.WalkLawsBesides
import Derived.Lib.Hide
import Derived.Lib.LazyBuf
import Derived.Lib.BufferWrite
import Derived.Deep.RegionLaw
import Derived.Laws.CopyOwn
import Derived.Deep.MidRow
import Derived.BigQuiet
import Derived.Deep.QuietTactic
import Derived.BigRegion
namespace Go.Proofs.YtfnicmmebphpkaaDoor.Wd
open Go.RowKit

/-- a word as a number (closed to the walk) -/
def n (x : BitVec 32) : Int := (x.toNat : Int)
theorem n_nonneg (x : BitVec 32) : 0 ≤ n x := Int.natCast_nonneg _
theorem n_lt (x : BitVec 32) : n x < 4294967296 := by have := x.isLt; unfold n; omega
theorem n_inj {x y : BitVec 32} (h : n x = n y) : x = y := BitVec.eq_of_toNat_eq (by unfold n at h; omega)
theorem wrap_toNat (k : Nat) : IntKind.u32.wrap (k : Int) = n (BitVec.ofNat 32 k) := by
  unfold n; rw [IntKind.wrap_u32', BitVec.toNat_ofNat]; omega
theorem add (x y : BitVec 32) : IntKind.u32.wrap (n x + n y) = n (x + y) := by
  unfold n; rw [IntKind.wrap_u32', BitVec.toNat_add]; omega
theorem sub (x y : BitVec 32) : IntKind.u32.wrap (n x - n y) = n (x - y) := by
  unfold n; rw [IntKind.wrap_u32', BitVec.toNat_sub]; have := x.isLt; have := y.isLt; omega
theorem ofInt_n (x : BitVec 32) : BitVec.ofInt 32 (n x) = x := by unfold n; simp
theorem wrap_bv (x : BitVec 32) : IntKind.u32.wrap (x.toNat : Int) = n x := by
  unfold n; rw [IntKind.wrap_u32']; have := x.isLt; omega
theorem and (x y : BitVec 32) : bits .and .u32 (n x) (n y) = n (x &&& y) := by
  show IntKind.u32.wrap ((BitVec.ofInt 32 (n x) &&& BitVec.ofInt 32 (n y)).toNat : Int) = _
  rw [ofInt_n, ofInt_n, wrap_bv]
theorem or (x y : BitVec 32) : bits .or .u32 (n x) (n y) = n (x ||| y) := by
  show IntKind.u32.wrap ((BitVec.ofInt 32 (n x) ||| BitVec.ofInt 32 (n y)).toNat : Int) = _
  rw [ofInt_n, ofInt_n, wrap_bv]
theorem xor (x y : BitVec 32) : bits .xor .u32 (n x) (n y) = n (x ^^^ y) := by
  show IntKind.u32.wrap ((BitVec.ofInt 32 (n x) ^^^ BitVec.ofInt 32 (n y)).toNat : Int) = _
  rw [ofInt_n, ofInt_n, wrap_bv]
theorem shl (x : BitVec 32) (m : Nat) : n x * (2 : Int) ^ m % (4294967296 : Int) = n (x <<< m) := by
  unfold n
  rw [show (x.toNat : Int) * 2 ^ m = ((x.toNat * 2 ^ m : Nat) : Int) by simp, BitVec.toNat_shiftLeft, Nat.shiftLeft_eq]
  omega
theorem shr (x : BitVec 32) (m : Nat) : n x / (2 : Int) ^ m = n (x >>> m) := by
  unfold n
  simp [BitVec.toNat_ushiftRight, Nat.shiftRight_eq_div_pow]
theorem shl8 (x : BitVec 32) : n x * (256 : Int) % (4294967296 : Int) = n (x <<< 8) := by have := shl x 8; simpa using this
theorem shr3 (x : BitVec 32) : n x / (8 : Int) = n (x >>> 3) := by have := shr x 3; simpa using this
theorem shr10 (x : BitVec 32) : n x / (1024 : Int) = n (x >>> 10) := by have := shr x 10; simpa using this
theorem not (x : BitVec 32) : bits .xor .u32 (if IntKind.u32.signed = true then -1 else IntKind.u32.max) (n x) = n (~~~x) := by
  have e : (if IntKind.u32.signed = true then (-1 : Int) else IntKind.u32.max) = n (BitVec.allOnes 32) := by decide
  rw [e, xor, BitVec.allOnes_xor]
theorem not' (x : BitVec 32) : bits .xor .u32 4294967295 (n x) = n (~~~x) := by
  have e : (4294967295 : Int) = n (BitVec.allOnes 32) := by decide
  rw [e, xor, BitVec.allOnes_xor]
theorem notSub (x : BitVec 32) : IntKind.u32.wrap (4294967295 - n x) = n (~~~x) := by
  unfold n; rw [IntKind.wrap_u32', BitVec.toNat_not]; have := x.isLt; omega
/-- a byte as a word -/
def ofByte (b : UInt8) : BitVec 32 := BitVec.ofNat 32 b.toNat
theorem n_ofByte (b : UInt8) : n (ofByte b) = (b.toNat : Int) := by
  unfold n ofByte; rw [BitVec.toNat_ofNat]; have := b.toNat_lt; omega
theorem byte (b : UInt8) : IntKind.u32.wrap (b.toNat : Int) = n (ofByte b) := by
  unfold ofByte; rw [wrap_toNat]
theorem orByte (x : BitVec 32) (b : UInt8) : bits .or .u32 (n x) (b.toNat : Int) = n (x ||| ofByte b) := by
  rw [← or, n_ofByte]
theorem neg31 (k : Int) (h1 : 0 < k) (h2 : k < 32) : bits .and .u64 (IntKind.u64.wrap (-k)) 31 = ((32 - k.toNat : Nat) : Int) := by
  have h : ∀ j : Fin 32, 0 < j.val → bits .and .u64 (IntKind.u64.wrap (-(j.val : Int))) 31 = ((32 - j.val : Nat) : Int) := by decide +kernel
  have := h ⟨k.toNat, by omega⟩ (by show 0 < k.toNat; omega)
  rw [show (((⟨k.toNat, by omega⟩ : Fin 32).val : Nat) : Int) = k from by show (k.toNat : Int) = k; omega] at this
  exact this
theorem left_right (x : BitVec 32) (k : Int) (h1 : 0 < k) (h2 : k < 32) : x.rotateLeft (32 - k.toNat) = x.rotateRight k.toNat := by
  rw [BitVec.rotateLeft_def, BitVec.rotateRight_def, Nat.mod_eq_of_lt (by omega), Nat.mod_eq_of_lt (by omega), BitVec.or_comm, show 32 - (32 - k.toNat) = k.toNat by omega]
theorem rot_add (x : BitVec 32) (k : Nat) (h1 : 0 < k) (h2 : k < 32) : x >>> k + x <<< (32 - k) = x.rotateRight k := by
  rw [BitVec.rotateRight_def, Nat.mod_eq_of_lt h2]
  apply BitVec.add_eq_or_of_and_eq_zero
  apply BitVec.eq_of_getLsbD_eq
  intro i hi
  rw [BitVec.getLsbD_and, BitVec.getLsbD_ushiftRight, BitVec.getLsbD_shiftLeft, BitVec.getLsbD_zero]
  by_cases h : i < 32 - k
  · simp [h]
  · rw [BitVec.getLsbD_of_ge x (k + i) (by omega)]; simp
end Go.Proofs.YtfnicmmebphpkaaDoor.Wd
/-
  Plain mathematics: SHA-256 on lists of bytes, over BitVec 32. No model's run in this text.
-/
namespace Go.Proofs.YtfnicmmebphpkaaDoor.Sha

abbrev W32 := BitVec 32
/-- a byte as a word -/
abbrev ofByte := Wd.ofByte
/-- bytes as a word, the highest first -/
def wordOf (l : List UInt8) : W32 := l.foldl (fun acc b => acc <<< 8 ||| ofByte b) 0
/-- the i-th word of a block -/
def blockWord (l : List UInt8) (i : Nat) : W32 := wordOf ((l.drop (4 * i)).take 4)

def sig0 (x : W32) : W32 := x.rotateRight 7 ^^^ x.rotateRight 18 ^^^ x >>> 3
def sig1 (x : W32) : W32 := x.rotateRight 17 ^^^ x.rotateRight 19 ^^^ x >>> 10

def schedTo (m : Nat → W32) : Nat → List W32
  | 0 => (List.range 16).map m
  | n + 1 => schedTo m n ++ [(schedTo m n).getD n 0 + sig0 ((schedTo m n).getD (n + 1) 0) + (schedTo m n).getD (n + 9) 0 + sig1 ((schedTo m n).getD (n + 14) 0)]
/-- the words of a block: the sixteen told, the others reckoned -/
def sched (m : Nat → W32) (j : Nat) : W32 := (schedTo m 48).getD j 0

theorem schedTo_length (m : Nat → W32) : ∀ n, (schedTo m n).length = n + 16
  | 0 => by simp [schedTo]
  | n + 1 => by simp [schedTo, schedTo_length m n]
theorem schedTo_more (m : Nat → W32) (n j : Nat) (h : j < n + 16) : ∀ d, (schedTo m (n + d)).getD j 0 = (schedTo m n).getD j 0
  | 0 => rfl
  | d + 1 => by
    rw [← schedTo_more m n j h d]
    show (schedTo m (n + d) ++ _).getD j 0 = _
    rw [List.getD_eq_getElem?_getD, List.getElem?_append_left (by rw [schedTo_length]; omega), ← List.getD_eq_getElem?_getD]
theorem sched_first (m : Nat → W32) (j : Nat) (h : j < 16) : sched m j = m j := by
  have := schedTo_more m 0 j (by omega) 48
  rw [Nat.zero_add] at this
  unfold sched
  rw [this]
  simp [schedTo, h]
theorem sched_at (m : Nat → W32) (n j : Nat) (h : j < n + 16) (hn : n ≤ 48) : (schedTo m n).getD j 0 = sched m j := by
  have := schedTo_more m n j h (48 - n)
  rw [show n + (48 - n) = 48 by omega] at this
  exact this.symm
theorem sched_next (m : Nat → W32) (i : Nat) (h : 16 ≤ i) (h2 : i < 64) :
    sched m i = sched m (i - 16) + sig0 (sched m (i - 15)) + sched m (i - 7) + sig1 (sched m (i - 2)) := by
  obtain ⟨n, rfl⟩ : ∃ n, i = n + 16 := ⟨i - 16, by omega⟩
  rw [← sched_at m (n + 1) (n + 16) (by omega) (by omega)]
  show (schedTo m n ++ [_]).getD (n + 16) 0 = _
  have hl := schedTo_length m n
  rw [List.getD_eq_getElem?_getD, List.getElem?_append_right (by omega), hl, Nat.sub_self]
  rw [sched_at m n _ (by omega) (by omega), sched_at m n _ (by omega) (by omega), sched_at m n _ (by omega) (by omega), sched_at m n _ (by omega) (by omega)]
  rw [show n + 16 - 16 = n by omega, show n + 16 - 15 = n + 1 by omega, show n + 16 - 7 = n + 9 by omega, show n + 16 - 2 = n + 14 by omega]
  rfl

structure S8 where
  a : W32
  b : W32
  c : W32
  d : W32
  e : W32
  f : W32
  g : W32
  h : W32
def S8.at (s : S8) : Nat → W32
  | 0 => s.a | 1 => s.b | 2 => s.c | 3 => s.d | 4 => s.e | 5 => s.f | 6 => s.g | _ => s.h
def S8.of (f : Nat → W32) : S8 := ⟨f 0, f 1, f 2, f 3, f 4, f 5, f 6, f 7⟩
theorem S8.of_at (s : S8) : S8.of s.at = s := rfl
def kList : List W32 := [
    0x428a2f98, 0x71374491, 0xb5c0fbcf, 0xe9b5dba5, 0x3956c25b, 0x59f111f1, 0x923f82a4, 0xab1c5ed5,
    0xd807aa98, 0x12835b01, 0x243185be, 0x550c7dc3, 0x72be5d74, 0x80deb1fe, 0x9bdc06a7, 0xc19bf174,
    0xe49b69c1, 0xefbe4786, 0x0fc19dc6, 0x240ca1cc, 0x2de92c6f, 0x4a7484aa, 0x5cb0a9dc, 0x76f988da,
    0x983e5152, 0xa831c66d, 0xb00327c8, 0xbf597fc7, 0xc6e00bf3, 0xd5a79147, 0x06ca6351, 0x14292967,
    0x27b70a85, 0x2e1b2138, 0x4d2c6dfc, 0x53380d13, 0x650a7354, 0x766a0abb, 0x81c2c92e, 0x92722c85,
    0xa2bfe8a1, 0xa81a664b, 0xc24b8b70, 0xc76c51a3, 0xd192e819, 0xd6990624, 0xf40e3585, 0x106aa070,
    0x19a4c116, 0x1e376c08, 0x2748774c, 0x34b0bcb5, 0x391c0cb3, 0x4ed8aa4a, 0x5b9cca4f, 0x682e6ff3,
    0x748f82ee, 0x78a5636f, 0x84c87814, 0x8cc70208, 0x90befffa, 0xa4506ceb, 0xbef9a3f7, 0xc67178f2]
def kAt (i : Nat) : W32 := kList.getD i 0
def start : S8 := ⟨0x6a09e667, 0xbb67ae85, 0x3c6ef372, 0xa54ff53a, 0x510e527f, 0x9b05688c, 0x1f83d9ab, 0x5be0cd19⟩
def bigX (s : S8) (k w : W32) : W32 := s.h + (s.e.rotateRight 6 ^^^ s.e.rotateRight 11 ^^^ s.e.rotateRight 25) + (s.e &&& s.f ||| ~~~s.e &&& s.g) + k + w
def bigY (s : S8) : W32 := (s.a.rotateRight 2 ^^^ s.a.rotateRight 13 ^^^ s.a.rotateRight 22) + (s.a &&& s.b ||| s.a &&& s.c ||| s.b &&& s.c)
def round (s : S8) (k w : W32) : S8 := ⟨bigX s k w + bigY s, s.a, s.b, s.c, s.d + bigX s k w, s.e, s.f, s.g⟩
def rounds (s : S8) (w : Nat → W32) : Nat → S8
  | 0 => s
  | n + 1 => round (rounds s w n) (kAt n) (w n)
def S8.add (s t : S8) : S8 := ⟨s.a + t.a, s.b + t.b, s.c + t.c, s.d + t.d, s.e + t.e, s.f + t.f, s.g + t.g, s.h + t.h⟩
/-- the state behind a block of 64 bytes -/
def press (s : S8) (block : List UInt8) : S8 := s.add (rounds s (sched (blockWord block)) 64)
/-- the state behind so many whole blocks -/
def pressAll : Nat → S8 → List UInt8 → S8
  | 0, s, _ => s
  | n + 1, s, l => pressAll n (press s (l.take 64)) (l.drop 64)
def lenBytes (n : Nat) : List UInt8 := (List.range 8).map fun i => UInt8.ofNat (n * 8 / 2 ^ (8 * (7 - i)) % 256)
/-- what stands behind a text of n bytes -/
def ending (n : Nat) : List UInt8 := 0x80 :: (List.replicate ((119 - n % 64) % 64) 0 ++ lenBytes n)
def bytesOf (w : W32) : List UInt8 := (List.range 4).map fun j => UInt8.ofNat (w.toNat / 2 ^ (24 - 8 * j) % 256)
def nameOf (s : S8) : List UInt8 := (List.range 32).map fun i => UInt8.ofNat ((s.at (i / 4)).toNat / 2 ^ (24 - 8 * (i % 4)) % 256)
theorem pressAll_succ : ∀ (n : Nat) (s : S8) (l : List UInt8), pressAll (n + 1) s l = press (pressAll n s l) ((l.drop (64 * n)).take 64)
  | 0, s, l => by simp [pressAll]
  | n + 1, s, l => by
    show pressAll (n + 1) (press s (l.take 64)) (l.drop 64) = _
    rw [pressAll_succ n, List.drop_drop, show 64 + 64 * n = 64 * (n + 1) by omega]
    rfl
theorem pressAll_more : ∀ (n : Nat) (s : S8) (l x : List UInt8), 64 * n ≤ l.length → pressAll n s (l ++ x) = pressAll n s l
  | 0, _, _, _, _ => rfl
  | n + 1, s, l, x, h => by
    show pressAll n (press s ((l ++ x).take 64)) ((l ++ x).drop 64) = pressAll n (press s (l.take 64)) (l.drop 64)
    rw [List.take_append_of_le_length (by omega), List.drop_append_of_le_length (by omega)]
    exact pressAll_more n _ _ x (by rw [List.length_drop]; omega)
/-- SHA-256 -/
def sha (l : List UInt8) : List UInt8 := nameOf (pressAll ((l ++ ending l.length).length / 64) start (l ++ ending l.length))
theorem sha_abc : (sha [0x61, 0x62, 0x63]).getD 31 0 = 0xad ∧ (sha [0x61, 0x62, 0x63]).getD 0 0 = 0xba := by decide +kernel
end Go.Proofs.YtfnicmmebphpkaaDoor.Sha
namespace Go.Proofs.YtfnicmmebphpkaaDoor.Mem
open Go.RowKit Sha

/-- block b of w is a row of cells, none of them frozen -/
def Has (w : World) (b : Nat) (cs : Array Value) (t : TypeId) : Prop := w.heap[b]? = some (.cells cs t (0, 0))

def words (f : Nat → W32) (n : Nat) : Array Value := ((List.range n).map fun i => Value.int .u32 (Wd.n (f i))).toArray
def bytesV (l : List UInt8) : Array Value := (l.map fun b => Value.int .u8 (b.toNat : Int)).toArray
def upd (f : Nat → W32) (i : Nat) (x : W32) : Nat → W32 := fun j => if j = i then x else f j

theorem words_size (f n) : (words f n).size = n := by simp [words]
theorem bytesV_size (l) : (bytesV l).size = l.length := by simp [bytesV]
theorem words_get (f n j) (h : j < n) : (words f n)[j]? = some (.int .u32 (Wd.n (f j))) := by simp [words, h]
theorem words_congr {f g : Nat → W32} {n : Nat} (h : ∀ j, j < n → f j = g j) : words f n = words g n := by
  unfold words
  congr 1
  exact List.map_congr_left fun i hi => by rw [h i (by simpa using hi)]
theorem words_set (f n i x) : (words f n).setIfInBounds i (.int .u32 (Wd.n x)) = words (upd f i x) n := by
  apply Array.ext_getElem?
  intro j
  rw [Array.getElem?_setIfInBounds]
  by_cases hj : j < n
  · rw [words_get _ _ _ hj]
    by_cases hij : i = j
    · subst hij; rw [words_get _ _ _ hj]; simp [words_size, hj, upd]
    · rw [if_neg hij, words_get _ _ _ hj]
      have : j ≠ i := fun e => hij e.symm
      simp [upd, this]
  · have h1 : ∀ g, (words g n)[j]? = none := fun g => by simp [words]; omega
    rw [h1, h1]
    by_cases hij : i = j
    · subst hij; simp [words_size, hj]
    · simp [hij]

variable {w w' : World}
theorem Has.out {b : Nat} {cs : Array Value} {t : TypeId} (h : Has w b cs t) : w.heap[b]? = some (.cells cs t (0, 0)) := h
theorem Has.cell {b : Nat} {cs : Array Value} {t : TypeId} (h : Has w b cs t) (j : Nat) : w.cell? ⟨b, j, none⟩ = cs[j]? := cell_of_row w b j cs t (0, 0) h
theorem Has.word {b : Nat} {f n} {t : TypeId} (h : Has w b (words f n) t) (j : Nat) (hj : j < n) : w.cell? ⟨b, j, none⟩ = some (.int .u32 (Wd.n (f j))) := (h.cell j).trans (words_get f n j hj)
theorem Has.byte {b : Nat} {l : List UInt8} {t : TypeId} (h : Has w b (bytesV l) t) (j : Nat) (hj : j < l.length) : w.cell? ⟨b, j, none⟩ = some (.int .u8 (l[j].toNat : Int)) := by
  rw [h.cell j]; simp [bytesV, hj]
theorem Has.free {b : Nat} {cs : Array Value} {t : TypeId} (h : Has w b cs t) (j : Nat) : w.frozen? ⟨b, j, none⟩ = false := frozen_of_row w b j cs t h
theorem Has.lt {b : Nat} {cs : Array Value} {t : TypeId} (h : Has w b cs t) : b < w.heap.size := by
  unfold Has at h
  by_cases hb : b < w.heap.size
  · exact hb
  · simp [Array.getElem?_eq_none (by omega : w.heap.size ≤ b)] at h
theorem Has.drew {b : Nat} {cs : Array Value} {t : TypeId} (h : Has w b cs t) : Has w.drew b cs t := h
theorem Has.drewN {b : Nat} {cs : Array Value} {t : TypeId} (h : Has w b cs t) (n : Nat) : Has (w.drewN n) b cs t := by
  unfold Has at *; simpa using h
theorem Has.alloc {b : Nat} {cs : Array Value} {t : TypeId} (h : Has w b cs t) (o : Obj) : Has (w.alloc o) b cs t := by
  exact (heap_alloc_old w o h.lt).trans h
theorem Has.new (cs : Array Value) (t : TypeId) : Has (w.alloc (.cells cs t)) w.heap.size cs t := heap_alloc_new w _
theorem Has.set {b i : Nat} {cs : Array Value} {t : TypeId} (h : Has w b cs t) (v : Value) : Has (w.setCell ⟨b, i, none⟩ v) b (cs.setIfInBounds i v) t := heap_setCell_same w b i cs t v h
theorem Has.other {b : Nat} {cs : Array Value} {t : TypeId} (h : Has w b cs t) (a : Addr) (v : Value) (ha : b ≠ a.block) : Has (w.setCell a v) b cs t := by
  exact (heap_setCell_other w a b v ha).trans h
theorem Has.setWord {b i : Nat} {f n} {t : TypeId} (h : Has w b (words f n) t) (x : W32) : Has (w.setCell ⟨b, i, none⟩ (.int .u32 (Wd.n x))) b (words (upd f i x) n) t := by
  rw [← words_set]; exact h.set _
/-- a piece of an array that lies at the head of a block, one cell an element -/
theorem arr_slice_lh {P : Program} (t e n b l h : Nat) (hu : P.underlying t = some (.array n e)) (hc : ∀ w, (sizeOf e).run P w = .ok 1 w) (h1 : l ≤ h) (h2 : h ≤ n) (h3 : l < n) (w : World) :
    (Instr.sliceAt t (.pointer (some ⟨b, 0, none⟩)) (some (.int .i64 (l : Int))) (some (.int .i64 (h : Int))) none).run P w = .ok (.slice (some ⟨b, l, none⟩) (h - l) (n - l)) w := by
  have ha : P.arrayLen t = n := by simp [Program.arrayLen, hu]
  have he : P.elem t = e := by simp [Program.elem, hu]
  rw [run_sliceAt_array_lh w t ⟨b, 0, none⟩ (by rw [ha, he]; exact hu) .i64 .i64 l h (by omega) (by omega) (by rw [ha]; omega), he, hc]
  simp only [Result.andThen_ok, ha, slicedAt, Int.toNat_natCast]
  rw [if_neg (by omega)]
  unfold Addr.add
  by_cases hl : l = 0
  · subst hl; rfl
  · simp [hl]
theorem arr_slice_l {P : Program} (k : IntKind) (t e n b l : Nat) (hu : P.underlying t = some (.array n e)) (hc : ∀ w, (sizeOf e).run P w = .ok 1 w) (h3 : l < n) (o : Nat) (w : World) :
    (Instr.sliceAt t (.pointer (some ⟨b, o, none⟩)) (some (.int k (l : Int))) none none).run P w = .ok (.slice (some ⟨b, o + l, none⟩) (n - l) (n - l)) w := by
  have ha : P.arrayLen t = n := by simp [Program.arrayLen, hu]
  have he : P.elem t = e := by simp [Program.elem, hu]
  rw [run_sliceAt_array_l w t ⟨b, o, none⟩ (by rw [ha, he]; exact hu) k l (by omega) (by rw [ha]; omega), he, hc]
  simp only [Result.andThen_ok, ha, slicedAt, Int.toNat_natCast]
  rw [if_neg (by omega)]
  unfold Addr.add
  by_cases hl : l = 0
  · subst hl; rfl
  · simp [hl]
theorem words_one (f n) : (words f n).all (·.oneCell') = true := by
  rw [Array.all_eq_true_iff_forall_mem]
  intro v hv
  simp [words] at hv
  obtain ⟨i, _, rfl⟩ := hv
  rfl
theorem bytesV_one (l) : (bytesV l).all (·.oneCell') = true := by
  rw [Array.all_eq_true_iff_forall_mem]
  intro v hv
  simp [bytesV] at hv
  obtain ⟨i, _, rfl⟩ := hv
  rfl
theorem Has.row {b : Nat} {cs : Array Value} {t : TypeId} (h : Has w b cs t) (cs' : Array Value) : Has (w.setRow b cs') b cs' t := setRow_heap w b cs cs' t (0, 0) h
theorem Has.otherRow {b : Nat} {cs : Array Value} {t : TypeId} (h : Has w b cs t) (g : Nat) (cs' : Array Value) (ha : b ≠ g) : Has (w.setRow g cs') b cs t := (setRow_other w g b cs' ha).trans h
/-! ### what a call leaves: all blocks but one stand -/
theorem gb_trans {a b c : World} {r : Option Nat} (h : a.grownBy b r) (k : b.grownBy c r) : a.grownBy c r :=
  ⟨k.os.trans h.os, k.tape.trans h.tape, k.output.trans h.output, Nat.le_trans h.size k.size, fun i hi hn => (k.block i (Nat.lt_of_lt_of_le hi h.size) hn).trans (h.block i hi hn)⟩
theorem gb_refl (w : World) (r : Option Nat) : w.grownBy w r := ⟨rfl, rfl, rfl, Nat.le_refl _, fun _ _ _ => rfl⟩
theorem gb_below {a b : World} (h : Below a.heap.size a b) (r : Option Nat) : a.grownBy b r := ⟨h.os, h.tape, h.output, h.size, fun k hk _ => h.block k hk⟩
theorem gb_drewN {a b : World} {r : Option Nat} (h : a.grownBy b r) (n : Nat) : a.grownBy (b.drewN n) r := ⟨h.os, h.tape, h.output, h.size, h.block⟩
theorem gb_setCell {a b : World} {g : Nat} (h : a.grownBy b (some g)) (o : Nat) (v : Value) : a.grownBy (b.setCell ⟨g, o, none⟩ v) (some g) :=
  gb_trans h ⟨rfl, rfl, rfl, by simp [World.setCell], fun k _ hn => Below.heap_setCell _ _ _ _ (fun e => hn (by rw [e]))⟩
theorem gb_setRow {a b : World} {g : Nat} (h : a.grownBy b (some g)) (cs : Array Value) : a.grownBy (b.setRow g cs) (some g) :=
  gb_trans h ⟨rfl, rfl, rfl, by simp [World.setRow], fun k _ hn => setRow_other b g k cs (fun e => hn (by rw [e]))⟩
/-- a store into a block that is new -/
theorem gb_setCellNew {a b : World} {r : Option Nat} (h : a.grownBy b r) (p : Addr) (hp : a.heap.size ≤ p.block) (v : Value) : a.grownBy (b.setCell p v) r :=
  ⟨h.os, h.tape, h.output, by simpa [World.setCell] using h.size, fun k hk hn => (Below.heap_setCell _ _ _ _ (by omega)).trans (h.block k hk hn)⟩
theorem gb_has {a b : World} {r : Option Nat} (h : a.grownBy b r) {g : Nat} {cs : Array Value} {t : TypeId} (hg : Has a g cs t) (hn : some g ≠ r) : Has b g cs t := (h.block g hg.lt hn).trans hg
theorem gb_toBelow {a b : World} {g : Nat} {B : Nat} (h : a.grownBy b (some g)) (hB : B ≤ g) (hs : B ≤ a.heap.size) : Below B a b :=
  ⟨h.os, h.tape, h.output, h.size, fun k hk => h.block k (by omega) (by intro e; cases e; omega)⟩
theorem below_has {a b : World} {B : Nat} (h : Below B a b) {g : Nat} {cs : Array Value} {t : TypeId} (hg : Has a g cs t) (hB : g < B) : Has b g cs t := (h.block g hB).trans hg

/-! ### a hasher: eight words, 64 bytes, how many were taken -/
def hcells (f : Nat → W32) (l : List UInt8) (t : Nat) : Array Value := words f 8 ++ bytesV l ++ #[.int .u64 (t : Int)]
theorem hcells_state (f l t j) (h : j < 8) : (hcells f l t)[j]? = some (.int .u32 (Wd.n (f j))) := by
  unfold hcells
  rw [Array.getElem?_append, if_pos (by rw [Array.size_append, words_size]; omega), Array.getElem?_append, if_pos (by rw [words_size]; exact h), words_get f 8 j h]
theorem bytesV_get (l : List UInt8) (j : Nat) (h : j < l.length) : (bytesV l)[j]? = some (.int .u8 (l[j].toNat : Int)) := by simp [bytesV, h]
theorem hcells_rest (f l t j) (h : j < l.length) : (hcells f l t)[8 + j]? = some (.int .u8 (l[j].toNat : Int)) := by
  unfold hcells
  rw [Array.getElem?_append, if_pos (by rw [Array.size_append, words_size, bytesV_size]; omega), Array.getElem?_append, if_neg (by rw [words_size]; omega), words_size, Nat.add_sub_cancel_left, bytesV_get l j h]
theorem hcells_taken (f l t) (h : l.length = 64) : (hcells f l t)[72]? = some (.int .u64 (t : Int)) := by
  unfold hcells
  rw [Array.getElem?_append, if_neg (by rw [Array.size_append, words_size, bytesV_size]; omega), Array.size_append, words_size, bytesV_size, h]
  rfl
theorem hcells_size (f l t) : (hcells f l t).size = l.length + 9 := by unfold hcells; simp [words_size, bytesV_size]; omega
theorem set_append_left (a b : Array Value) (i : Nat) (v : Value) (h : i < a.size) : (a ++ b).setIfInBounds i v = a.setIfInBounds i v ++ b := by
  apply Array.ext_getElem?
  intro j
  simp only [Array.getElem?_setIfInBounds, Array.getElem?_append, Array.size_append, Array.size_setIfInBounds]
  by_cases hij : i = j
  · subst hij; rw [if_pos rfl, if_pos (by omega), if_pos h, if_pos rfl, if_pos h]
  · rw [if_neg hij, if_neg hij]
theorem set_append_right (a b : Array Value) (i : Nat) (v : Value) : (a ++ b).setIfInBounds (a.size + i) v = a ++ b.setIfInBounds i v := by
  apply Array.ext_getElem?
  intro j
  by_cases h : j < a.size
  · rw [Array.getElem?_setIfInBounds, if_neg (by omega), Array.getElem?_append, if_pos h, Array.getElem?_append, if_pos h]
  · obtain ⟨d, rfl⟩ := Nat.exists_eq_add_of_le (Nat.le_of_not_lt h)
    rw [Array.getElem?_append (xs := a) (ys := b.setIfInBounds i v), if_neg h, Nat.add_sub_cancel_left, Array.getElem?_setIfInBounds, Array.getElem?_setIfInBounds, Array.size_append,
      Array.getElem?_append (xs := a) (ys := b), if_neg h, Nat.add_sub_cancel_left]
    by_cases e : i = d
    · subst e; simp
    · rw [if_neg (by omega), if_neg e]
theorem hcells_setState (f l t i x) (h : i < 8) : (hcells f l t).setIfInBounds i (.int .u32 (Wd.n x)) = hcells (upd f i x) l t := by
  unfold hcells
  rw [set_append_left _ _ _ _ (by rw [Array.size_append, words_size]; omega), set_append_left _ _ _ _ (by rw [words_size]; exact h), words_set]
theorem hcells_setTaken (f l) (t t' : Nat) (h : l.length = 64) : (hcells f l t).setIfInBounds 72 (.int .u64 (t' : Int)) = hcells f l t' := by
  unfold hcells
  have := set_append_right (words f 8 ++ bytesV l) #[.int .u64 (t : Int)] 0 (.int .u64 (t' : Int))
  rw [Array.size_append, words_size, bytesV_size, h] at this
  rw [this]; rfl
theorem hcells_congr {f g : Nat → W32} (h : ∀ j, j < 8 → f j = g j) (l t) : hcells f l t = hcells g l t := by unfold hcells; rw [words_congr h]
/-! ### copy from a string, as much of it as there is room for -/
theorem run_copy_min {P : Program} (w : World) (dT sT ty elem : TypeId) (g o dLen dCap n : Nat) (s : ByteArray) (cur : Array Value) (t : TypeId)
    (hu : P.underlying dT = some (.slice elem)) (hs : (P.info? elem).map (·.size) = some 1) (hg : w.heap[g]? = some (.cells cur t (0, 0))) (hn : n = Nat.min s.size dLen) (hfit : o + n ≤ cur.size) :
    (Builtin.copy_ #[dT, sT] ty #[.slice (some ⟨g, o, none⟩) dLen dCap, .string s]).run P w =
      .ok (goInt n) (w.setRow g (cur.toList.take o ++ (Lib.byteCells (s.data.toList.take n) ++ cur.toList.drop (o + n))).toArray) := by
  have hl : (s.data.toList.take n).length = n := by rw [List.length_take, ← Lib.size_eq, hn]; simp only [Nat.min_def]; split <;> (try split) <;> omega
  have hlen : (Lib.byteCells (s.data.toList.take n)).length = n := by rw [Lib.byteCells_length, hl]
  have hst := run_storeCells_at P g o t (Lib.byteCells (s.data.toList.take n)) 0 cur w hg (by rw [hlen]; simpa using hfit) (Lib.byteCells_one _)
  have htk : List.take n (List.map (fun b : UInt8 => Value.int IntKind.u8 (b.toNat : Int)) s.data.toList) = Lib.byteCells (s.data.toList.take n) := by
    rw [← List.map_take]; rfl
  rw [hlen] at hst
  simp only [Nat.add_zero] at hst
  cases hq : P.info? elem with
  | none => simp [hq] at hs
  | some i =>
    simp [Builtin.copy_, run_underlying hu, Builtin.lenOf, Builtin.firstCells, sizeOf, typeInfo, hq, ← hn]
    rw [htk, hst]
    simp [Result.andThen]
theorem bytesV_list (l : List UInt8) : (bytesV l).toList = Lib.byteCells l := by simp [bytesV, Lib.byteCells]
theorem hcells_splice (f : Nat → W32) (l x : List UInt8) (t r n : Nat) (hx : x.length = n) (hr : r + n ≤ l.length) :
    ((hcells f l t).toList.take (8 + r) ++ (Lib.byteCells x ++ (hcells f l t).toList.drop (8 + r + n))).toArray = hcells f (l.take r ++ x ++ l.drop (r + n)) t := by
  have hw : (words f 8).toList.length = 8 := by rw [Array.length_toList, words_size]
  have hb : (Lib.byteCells l).length = l.length := Lib.byteCells_length l
  apply Array.toList_inj.1
  simp only [hcells, Array.toList_append, bytesV_list, Lib.byteCells, List.map_append, List.map_take, List.map_drop]
  have hb' : (List.map (fun b : UInt8 => Value.int IntKind.u8 (b.toNat : Int)) l).length = l.length := by simp
  generalize List.map (fun b : UInt8 => Value.int IntKind.u8 (b.toNat : Int)) l = L at *
  generalize (words f 8).toList = A at *
  rw [List.append_assoc A, List.take_append, hw, List.take_of_length_le (by omega), Nat.add_sub_cancel_left, List.take_append_of_le_length (by omega),
    List.drop_append, hw, List.drop_eq_nil_of_le (by omega), List.nil_append, show 8 + r + n - 8 = r + n by omega, List.drop_append_of_le_length (by omega)]
  simp only [List.append_assoc]
theorem step_copy_min {P : Program} {ops : Array Oper} {o : Oper} {a : Act} {w : World} {K : Act → World → Prop} {Q : Exit → Act → World → Prop} {E : Prop}
    (hg : o.guard = none) (d x : Operand) (dT sT : TypeId) (hop : o.op = Op.call { callee := Callee.builtin Builtin.copy, args := #[d, x], argTypes := #[dT, sT] })
    (elem : TypeId) (hu : P.underlying dT = some (.slice elem)) (hz : (P.info? elem).map (·.size) = some 1)
    (b off dLen dCap n : Nat) (hd : a.eval d = .slice (some ⟨b, off, none⟩) dLen dCap) (t : ByteArray) (hx : a.eval x = .string t) (cur : Array Value) (ty : TypeId) (hh : w.heap[b]? = some (.cells cur ty (0, 0)))
    (hn : n = Nat.min t.size dLen) (hfit : off + n ≤ cur.size)
    (hK : K (a.put o.dst (goInt n)) (w.setRow b (cur.toList.take off ++ (Lib.byteCells (t.data.toList.take n) ++ cur.toList.drop (off + n))).toArray)) :
    if Region.wanted o (yielded ops a.tmps) = true then Oper.wp P o a w K Q else E := by
  have hw : Region.wanted o (yielded ops a.tmps) = true := by simp [Region.wanted, hg]
  rw [if_pos hw]
  have hrun := run_copy_min (P := P) w dT sT o.type elem b off dLen dCap n t cur ty hu hz hh hn hfit
  unfold Oper.wp
  simp [execOp, hop, resolve, invoke, builtin, hd, hx, hrun, Result.andThen]
  exact hK
theorem quiet_eq {P : Program} {f : FuncId} {args : Array Value} {w : World} {n : Nat} {v : Value}
    (h : Calls P f args (w.drewN n) fun e w' => e = .returned v ∧ w.drewN n = w') : Calls P f args (w.drewN n) fun e w'' => e = .returned v ∧ ∃ m, w'' = w.drewN m :=
  h.mono fun _ _ ⟨he, hm⟩ => ⟨he, n, hm.symm⟩
end Go.Proofs.YtfnicmmebphpkaaDoor.Mem
