/-
  Texts of this seat, one behind the other.
-/
import Derived.Test.YteblphnpealefaaBunQ6
import Derived.Test.YteblphnpealefaaZScNames
import Derived.Deep.MidRow
import Derived.Test.YteblphnpealefaaBunQ5
/-
  scroll's Pen: Count, Names, Raw, Text.
-/
namespace Go.Proofs.Yteblphnpealefaa
open Go.RowKit Mem Sc
theorem nums_one (k : Nat) (x : Int) : nums k [x] = num k x := by simp [nums]
theorem cnt_low (n : Int) (h : n < 253) : cnt n = num 1 (max n 0) := by
  unfold cnt
  by_cases h0 : n < 0
  · rw [if_pos h0, show max n 0 = 0 by omega]; rfl
  · rw [if_neg h0, if_pos h, show max n 0 = n by omega]
theorem cnt_2 (n : Int) (h1 : 253 ≤ n) (h2 : n ≤ 65535) : cnt n = num 1 253 ++ num 2 n := by
  unfold cnt
  rw [if_neg (by omega), if_neg (by omega), if_pos (by omega)]; rfl
theorem cnt_4 (n : Int) (h1 : 65535 < n) (h2 : n ≤ 4294967295) : cnt n = num 1 254 ++ num 4 n := by
  unfold cnt
  rw [if_neg (by omega), if_neg (by omega), if_neg (by omega), if_pos (by omega)]; rfl
theorem cnt_8 (n : Int) (h1 : 4294967295 < n) : cnt n = num 1 255 ++ num 8 n := by
  unfold cnt
  rw [if_neg (by omega), if_neg (by omega), if_neg (by omega), if_neg (by omega)]; rfl
theorem cnt_length (n : Int) : 1 ≤ (cnt n).length ∧ (cnt n).length ≤ 9 := by
  unfold cnt
  split
  · simp
  · split
    · simp [num_length]
    · split
      · simp [num_length]
      · split <;> simp [num_length]
/-- where the new slice lies, when a string's bytes are appended -/
theorem append_string_lies {P : Program} (w : World) (base : Nat) (t u ty e : TypeId) (i : TypeInfo) (ht : P.underlying t = some (.slice e)) (hu : P.underlying u = some .string) (hi : P.info? e = some i) (hz : i.zero = some (.int .u8 0))
    (hsize : i.size = 1) (hby : i.bytes = 1) (v : Value) (n : Nat) (xs : List Value) (hown : w.ownsRow base e 1 v n xs) (s : ByteArray) (hbytes : n + s.size ≤ 140737488355328) (v' : Value) (w' : World)
    (hr : (Builtin.append_ #[t, u] ty #[v, .string s]).run P w = .ok v' w') (hnil : v' = .slice none 0 0 ↔ v = .slice none 0 0 ∧ s.size = 0) : ∀ k, v'.ownBlock = some k → v.ownBlock = some k ∨ w.heap.size ≤ k := by
  intro k hk
  have hxl : xs.length = n := by simpa using hown.1
  rcases hown.2 with ⟨rfl, rfl⟩ | ⟨g, cap, cur, rfl, hbg, hg, hnc, hcm, hcs, htake⟩
  · by_cases hm : s.size = 0
    · rw [hnil.2 ⟨rfl, hm⟩] at hk; cases hk
    · have h := hr.symm.trans (run_append_nil_string (P := P) w t u ty e i (.int .u8 0) ht hu hi hz s (by omega) (by omega) (by rw [hby]; omega))
      injection h with h1 _
      rw [h1] at hk
      exact .inr (Nat.le_of_eq (Option.some.inj hk))
  · by_cases hroom : n + s.size ≤ cap
    · have hcs' : cur.size = cap := by simpa using hcs
      have h := hr.symm.trans (Lib.run_append_room_string (P := P) w t u ty e i ht hu hi hsize g n cap cur hg s hroom (by omega))
      injection h with h1 _
      rw [h1] at hk
      exact .inl hk
    · have holds : ∀ j u, xs[j]? = some u → w.cell? ((⟨g, 0, none⟩ : Addr).add j) = some u := hown.cells (g := g) rfl
      have h := hr.symm.trans (Lib.run_append_grow_string (P := P) w t u ty e i (.int .u8 0) ht hu hi hz ⟨g, 0, none⟩ n cap xs (by rw [hsize]; simpa using hxl) holds s (by omega) (by omega) (by rw [hby]; exact growslice_fits (by omega) (by omega)))
      injection h with h1 _
      rw [h1] at hk
      exact .inr (Nat.le_of_eq (Option.some.inj hk))
theorem ownsRow_slice {w : World} {base : Nat} {e : TypeId} {size : Nat} {v : Value} {n : Nat} {xs : List Value} (h : w.ownsRow base e size v n xs) : ∃ a m c, v = .slice a m c := by
  rcases h.2 with ⟨h, _⟩ | ⟨g, cap, cur, h, _⟩
  · exact ⟨_, _, _, h⟩
  · exact ⟨_, _, _, h⟩
theorem append_string_op {P : Program} {w : World} {ops : Array Oper} {rest : List Oper} {o : Oper} {a : Act} {Q : Exit → Act → World → Prop} (hgd : o.guard = none) (sl x : Operand) (t u : TypeId)
    (ho : o.op = .call { callee := .builtin .append, args := #[sl, x], argTypes := #[t, u] })
    (base : Nat) (e : TypeId) (i : TypeInfo) (ht : P.underlying t = some (.slice e)) (hu : P.underlying u = some .string) (hi : P.info? e = some i) (hz : i.zero = some (.int .u8 0))
    (hsize : i.size = 1) (hby : i.bytes = 1) (v : Value) (n : Nat) (xs : List Value) (hs : a.eval sl = v) (hown : w.ownsRow base e 1 v n xs) (s : ByteArray) (hx : a.eval x = .string s)
    (h63 : n + s.size ≤ maxLen) (hbytes : n + s.size ≤ 140737488355328) (hbase : base ≤ w.heap.size)
    (h : ∀ v' w', w'.ownsRow base e 1 v' (n + s.size) (xs ++ Lib.strCells s) → w.grownBy w' v.ownBlock → (∀ k, v'.ownBlock = some k → v.ownBlock = some k ∨ w.heap.size ≤ k) → wpList P ops Q rest (a.put o.dst v') w') : wpList P ops Q (o :: rest) a w := by
  refine wpList_plain hgd fun K hK => ?_
  obtain ⟨v', w', hr, h2, h3, h4⟩ := Lib.run_append_own_string (P := P) w base t u o.type e i ht hu hi hz hsize hby v n xs hown s h63 hbytes hbase
  have h5 := append_string_lies w base t u o.type e i ht hu hi hz hsize hby v n xs hown s hbytes v' w' hr h4
  unfold Oper.wp execOp
  simp only [ho, resolve, invoke, builtin, Sem.run_bind, Sem.run_pure, Result.andThen_ok, List.map_toArray, List.map_cons, List.map_nil, hs, hx, hr]
  exact hK _ _ (h v' w' h2 h3 h5)
end Go.Proofs.Yteblphnpealefaa
/-
  scroll's Pen: Names, Text.
-/
namespace Go.Proofs.Yteblphnpealefaa
open Go.RowKit Mem Sc
/-- names lie where a slice says -/
def NamesAt (w : World) (a : Option Addr) (ls : List (List UInt8)) : Prop :=
  0 < ls.length → ∃ ab ao, a = some ⟨ab, ao, none⟩ ∧ ab < w.heap.size ∧ ∀ i (hi : i < ls.length), ls[i].length = 32 ∧ w.rangeAt ab (ao + i * 32) (Lib.byteCells ls[i])
/-- .. apart from a pen -/
def Apart (b : Nat) (v : Value) (a : Option Addr) : Prop := ∀ p, a = some p → p.block ≠ b ∧ v.ownBlock ≠ some p.block
theorem names_take (ls : List (List UInt8)) (k : Nat) (hk : k < ls.length) : (ls.take (k + 1)).flatten = (ls.take k).flatten ++ ls[k] := by
  rw [List.take_succ_eq_append_getElem hk, List.flatten_append]; simp
theorem flatten_le (ls : List (List UInt8)) (h : ∀ x ∈ ls, x.length = 32) (k : Nat) : (ls.take k).flatten.length ≤ 32 * k := by
  rw [List.length_flatten]
  have : ∀ (m : List (List UInt8)), (∀ x ∈ m, x.length = 32) → (m.map List.length).sum = 32 * m.length := by
    intro m hm
    induction m with
    | nil => rfl
    | cons x m ih =>
      simp only [List.map_cons, List.sum_cons, List.length_cons]
      rw [ih (fun y hy => hm y (by simp [hy])), hm x (by simp)]; omega
  rw [this _ (fun x hx => h x (List.mem_of_mem_take hx)), List.length_take]
  exact Nat.mul_le_mul_left _ (Nat.min_le_left _ _)
end Go.Proofs.Yteblphnpealefaa
/-
  The reference of layer 5: Number, Count, Name, Back.
-/
namespace Go.Proofs.Yteblphnpealefaa
open Go.RowKit Mem Sc
/-- a text of bytes -/
def txt (l : List UInt8) : ByteArray := ⟨l.toArray⟩
theorem txt_size (l : List UInt8) : (txt l).size = l.length := by show l.toArray.size = _; simp
theorem txt_list (l : List UInt8) : (txt l).data.toList = l := rfl
theorem txt_of (s : ByteArray) : txt s.data.toList = s := ba_ext rfl
theorem txt_append (a b : List UInt8) : txt a ++ txt b = txt (a ++ b) := by
  apply ba_ext
  simp [txt]
theorem byte_u64 (u k : Nat) : (u / 256 ^ k) % 256 = (byteU u k).toNat := (byteU_toNat u k).symm
theorem three_ways (size : Int) : (size < 1 ∧ near size 8 = 1) ∨ (8 < size ∧ near size 8 = 8) ∨ ((size : Int) = (near size 8 : Nat) ∧ 1 ≤ size ∧ size ≤ 8) := by unfold near; omega
end Go.Proofs.Yteblphnpealefaa
/-
  The reference of layer 5: Name, Back, Count.
-/
namespace Go.Proofs.Yteblphnpealefaa
open Go.RowKit Mem Sc
theorem val_drop (l : List UInt8) (k : Nat) (hk : k < l.length) : val (l.drop k) = l[k].toNat + 256 * val (l.drop (k + 1)) := by
  rw [List.drop_eq_getElem_cons hk]; rfl
theorem val_drop_lt (l : List UInt8) (k : Nat) (h8 : l.length ≤ 8) (hk : 1 ≤ k) : val (l.drop k) < 72057594037927936 := by
  have h1 := val_lt (l.drop k)
  have h2 : 256 ^ (l.drop k).length ≤ 256 ^ 7 := Nat.pow_le_pow_right (by omega) (by rw [List.length_drop]; omega)
  omega
theorem txt_cons (b : UInt8) (l : List UInt8) : txt [b] ++ txt l = txt (b :: l) := txt_append [b] l
end Go.Proofs.Yteblphnpealefaa
/-
  The reference of layer 5: Counted.
-/
namespace Go.Proofs.Yteblphnpealefaa
open Go.RowKit Mem Sc
theorem head_byte {s : ByteArray} {b : UInt8} {r : List UInt8} (hs : s.data.toList = b :: r) (h : 0 < s.size) : s[0] = b := by
  have this : s.data.toList[0]? = some b := by rw [hs]; rfl
  have hd : 0 < s.data.size := h
  rw [Array.getElem?_toList, Array.getElem?_eq_getElem hd] at this
  exact Option.some.inj this
theorem ba_eq_list (a b : ByteArray) : (a.toList == b.toList) = decide (a.data.toList = b.data.toList) := by
  rw [ByteArray.toList_eq, ByteArray.toList_eq, Bool.eq_iff_iff]; simp
end Go.Proofs.Yteblphnpealefaa
/-
  Layer 5's laws: alive.
-/
namespace Go.Proofs.Yteblphnpealefaa
open Go.RowKit Mem Sc
theorem cnt253 : (⟨(([] : List UInt8) ++ cnt 253).toArray⟩ : ByteArray) = ⟨#[253, 253, 0]⟩ := by decide +kernel
end Go.Proofs.Yteblphnpealefaa
