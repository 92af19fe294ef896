/-
  Texts of this seat, one behind the other.
-/
import Derived.Test.YteblphnpealefaaBunQ9
import Derived.Deep.DeepCutAuto
import Derived.Test.YteblphnpealefaaBunQ0
import Derived.Test.YteblphnpealefaaZScName
/-
  Layer 5's laws: the items of a script, in memory; great.
-/
namespace Go.Proofs.Yteblphnpealefaa
open Go.RowKit Mem Sc
structure It where
  kind : Int
  size : Int
  n : Int
  name : List UInt8
  text : ByteArray
def It.ok (x : It) : Prop := x.name.length = 32 ∧ x.text.size ≤ 4611686018427387904
def itemC (x : It) : List Value := .int .i64 x.kind :: .int .i64 x.size :: .int .i64 x.n :: (Lib.byteCells x.name ++ [.string x.text])
theorem itemC_length {x : It} (h : x.name.length = 32) : (itemC x).length = 36 := by simp [itemC, Lib.byteCells_length, h]
def itemA (x : It) : Array Value := (itemC x).toArray
theorem itemA_size {x : It} (h : x.name.length = 32) : (itemA x).size = 36 := by show (itemC x).toArray.size = 36; rw [List.size_toArray]; exact itemC_length h
theorem itemA_one (x : It) : (itemA x).all (·.oneCell') = true := by
  rw [Array.all_eq_true_iff_forall_mem]
  intro v hv
  simp only [itemA, itemC, List.mem_toArray, List.mem_cons, List.mem_append] at hv
  rcases hv with rfl | rfl | rfl | hv | hv
  · rfl
  · rfl
  · rfl
  · exact Lib.byteCells_one _ v hv
  · simp at hv; subst hv; rfl
def i0 : Array Value := itemA ⟨0, 0, 0, List.replicate 32 0, ⟨#[]⟩⟩
theorem i0_new (w : World) (t : TypeId) : Has (w.alloc (.cells #[.int .i64 0, .int .i64 0, .int .i64 0, .int .u8 0, .int .u8 0, .int .u8 0, .int .u8 0, .int .u8 0, .int .u8 0, .int .u8 0, .int .u8 0, .int .u8 0, .int .u8 0, .int .u8 0, .int .u8 0, .int .u8 0, .int .u8 0, .int .u8 0, .int .u8 0, .int .u8 0, .int .u8 0, .int .u8 0, .int .u8 0, .int .u8 0, .int .u8 0, .int .u8 0, .int .u8 0, .int .u8 0, .int .u8 0, .int .u8 0, .int .u8 0, .int .u8 0, .int .u8 0, .int .u8 0, .int .u8 0, .string ⟨#[]⟩] t)) w.heap.size i0 t := Has.new i0 t
theorem i0_size : i0.size = 36 := rfl
section
variable {w : World} {ops : Array Oper} {rest : List Oper} {o : Oper} {a : Act} {Q : Exit → Act → World → Prop}
end
/-- items lie where a slice says -/
def ItemsAt (w : World) (a : Option Addr) (its : List It) : Prop :=
  0 < its.length → ∃ ab ao, a = some ⟨ab, ao, none⟩ ∧ ∀ i (hi : i < its.length), its[i].ok ∧ w.rangeAt ab (ao + i * 36) (itemC its[i])
theorem range_block {w : World} {b o : Nat} {cs : List Value} (h : w.rangeAt b o cs) (h0 : 0 < cs.length) : b < w.heap.size := block_lt_of_cell (h 0 (cs[0]'h0) (List.getElem?_eq_getElem h0))
theorem range_below {w w' : World} {b o : Nat} {cs : List Value} (h : w.rangeAt b o cs) (hb : Below w.heap.size w w') (h0 : 0 < cs.length) : w'.rangeAt b o cs := fun j u hu => by
  have hlt := range_block h h0
  exact (hb.cell (p := ⟨b, o + j, none⟩) hlt).trans (h j u hu)
theorem ItemsAt.below {w w' : World} {a : Option Addr} {its : List It} (h : ItemsAt w a its) (hb : Below w.heap.size w w') : ItemsAt w' a its := fun h0 => by
  obtain ⟨ab, ao, ha, hc⟩ := h h0
  exact ⟨ab, ao, ha, fun i hi => ⟨(hc i hi).1, range_below (hc i hi).2 hb (by rw [itemC_length (hc i hi).1.1]; omega)⟩⟩
/-! ### great -/
def total (its : List It) : Nat := (its.map (·.text.size)).sum
theorem total_next (its : List It) (k : Nat) (hk : k < its.length) : total (its.take (k + 1)) = total (its.take k) + its[k].text.size := by
  unfold total
  rw [List.take_succ_eq_append_getElem hk, List.map_append, List.sum_append]
  simp
theorem total_le (its : List It) (k : Nat) : total (its.take k) ≤ total its := by
  unfold total
  conv => rhs; rw [← List.take_append_drop k its, List.map_append, List.sum_append]
  omega
def greatB (its : List It) : Bool := decide (4096 < total its) || decide (40 < its.length)
end Go.Proofs.Yteblphnpealefaa
/-
  Layer 5's laws: put: what a script's items come to.
-/
namespace Go.Proofs.Yteblphnpealefaa
open Go.RowKit Mem Sc
/-- what an item's bytes are -/
def encI (x : It) : List UInt8 :=
  if x.kind = 0 then num (near x.size 8) x.n ++ num (near x.size 8) x.n else if x.kind = 1 then cnt x.n else if x.kind = 2 then x.name else if x.kind = 3 then x.text.data.toList else []
def encL (its : List It) : List UInt8 := its.flatMap encI
theorem encL_next (its : List It) (k : Nat) (hk : k < its.length) : encL (its.take (k + 1)) = encL (its.take k) ++ encI its[k] := by
  unfold encL
  rw [List.take_succ_eq_append_getElem hk, List.flatMap_append]
  simp
theorem encI_le (x : It) (h : x.name.length = 32) : (encI x).length ≤ 32 + x.text.size := by
  have h1 := (near_le x.size 8 (by omega)).2
  have h2 := (cnt_length x.n).2
  unfold encI
  split
  · rw [List.length_append, num_length]; omega
  · split
    · omega
    · split
      · omega
      · split
        · rw [← Lib.size_eq]; omega
        · simp
theorem encL_le (its : List It) (h : ∀ x ∈ its, x.name.length = 32) : (encL its).length ≤ 32 * its.length + total its := by
  unfold encL total
  induction its with
  | nil => simp
  | cons x its ih =>
    have h1 := encI_le x (h x (by simp))
    have h2 := ih (fun y hy => h y (by simp [hy]))
    simp only [List.flatMap_cons, List.length_append, List.map_cons, List.sum_cons, List.length_cons]
    omega
end Go.Proofs.Yteblphnpealefaa
/-
  Plain mathematics: what is put is read again.
-/
namespace Go.Proofs.Yteblphnpealefaa
open Go.RowKit Mem Sc
theorem cnt_head (n : Int) (hn : n < 253) : ∃ b : UInt8, cnt n = [b] ∧ b.toNat = (max n 0).toNat := by
  rw [cnt_low n hn]
  refine ⟨byteU (u64 (max n 0)) 0, rfl, ?_⟩
  rw [byteU_toNat]
  unfold u64
  omega
theorem many_read (b : UInt8) (k : Nat) (hb : szOf b = k) (hk0 : k ≠ 0) (n : Int) (hn0 : 0 ≤ n) (hn : n < 9223372036854775808) (hk : n < (256 ^ k : Nat)) (hl : least b ≤ n.toNat) (r : List UInt8) (most : Int) (hm : n ≤ most) :
    counted (b :: (num k n ++ r)) most = (n.toNat, 1 + k) := by
  have ht : told b (num k n ++ r) = n.toNat := by
    rw [told_many hb hk0, List.take_left' (num_length k n), val_num, Nat.mod_eq_of_lt]
    · unfold u64; omega
    · unfold u64; omega
  rw [counted_yes (by rw [hb, List.length_append, num_length]; omega) (by rw [ht]; omega) (by rw [ht]; exact hl) (by rw [ht]; omega), ht, hb]
theorem cnt_read (n : Int) (hn : n < 9223372036854775808) (r : List UInt8) (most : Int) (hm : max n 0 ≤ most) : counted (cnt n ++ r) most = ((max n 0).toNat, (cnt n).length) := by
  by_cases h1 : n < 253
  · obtain ⟨b, hb, hv⟩ := cnt_head n h1
    have h0 := szOf_other (b := b) (by rw [hv]; omega)
    have e1 := told_few h0 r
    rw [hb, List.cons_append, List.nil_append, counted_yes (by omega) (by omega) (by rw [least_few (by rw [hv]; omega)]; omega) (by rw [e1, hv]; omega), h0, e1, hv]
    rfl
  · have hmax : max n 0 = n := by omega
    rw [hmax] at hm ⊢
    by_cases h2 : n ≤ 65535
    · rw [cnt_2 n (by omega) h2]
      exact many_read 253 2 rfl (by omega) n (by omega) hn (by show n < ((65536 : Nat) : Int); omega) (by show 253 ≤ _; omega) r most hm
    · by_cases h3 : n ≤ 4294967295
      · rw [cnt_4 n (by omega) h3]
        exact many_read 254 4 rfl (by omega) n (by omega) hn (by show n < ((4294967296 : Nat) : Int); omega) (by show 65536 ≤ _; omega) r most hm
      · rw [cnt_8 n (by omega)]
        exact many_read 255 8 rfl (by omega) n (by omega) hn (by show n < ((18446744073709551616 : Nat) : Int); omega) (by show 4294967296 ≤ _; omega) r most hm
theorem txt_drop (a r : List UInt8) (k : Nat) (hk : a.length = k) : (txt (a ++ r)).extract k (txt (a ++ r)).size = txt r := by
  apply ba_ext
  rw [Lib.extract_to_end, txt_list, txt_list]
  exact List.drop_left' hk
theorem txt_take (a r : List UInt8) (k : Nat) (hk : a.length = k) : (txt (a ++ r)).extract 0 k = txt a := by
  apply ba_ext
  rw [Lib.extract_data, txt_list, txt_list]
  exact List.take_left' hk
theorem raw_txt (a r : List UInt8) (n : Int) (hn : n = (a.length : Nat)) : Ey.raw ⟨txt (a ++ r), false⟩ n = (txt a, ⟨txt r, false⟩) := by
  subst hn
  rw [raw_yes rfl (by show a.length ≤ (txt (a ++ r)).size; rw [txt_size, List.length_append]; omega)]
  show ((txt (a ++ r)).extract 0 a.length, (⟨(txt (a ++ r)).extract a.length (txt (a ++ r)).size, false⟩ : Ey)) = _
  rw [txt_take _ _ _ rfl, txt_drop _ _ _ rfl]
theorem count_txt (n : Int) (hn : n < 9223372036854775808) (r : List UInt8) (most : Int) (hm : max n 0 ≤ most) : Ey.count ⟨txt (cnt n ++ r), false⟩ most = ((max n 0).toNat, ⟨txt r, false⟩) := by
  unfold Ey.count
  rw [if_neg (by simp)]
  show behind (txt (cnt n ++ r)) (counted (txt (cnt n ++ r)).data.toList most) = _
  rw [txt_list, cnt_read n hn r most hm]
  unfold behind
  rw [if_neg (by have := (cnt_length n).1; show (cnt n).length ≠ 0; omega)]
  show ((max n 0).toNat, (⟨(txt (cnt n ++ r)).extract (cnt n).length (txt (cnt n ++ r)).size, false⟩ : Ey)) = _
  rw [txt_drop _ _ _ rfl]
theorem get_txt (size n : Int) (h1 : 1 ≤ size) (h7 : size ≤ 7) (r : List UInt8) : Ey.get ⟨txt (num (near size 8) n ++ r), false⟩ size = (val (num (near size 8) n), ⟨txt r, false⟩) := by
  have e : near size 7 = near size 8 := by unfold near; omega
  unfold Ey.get
  rw [e, raw_txt _ _ _ (by rw [num_length])]
  rfl
theorem name_txt (a r : List UInt8) (ha : a.length = 32) : Ey.name ⟨txt (a ++ r), false⟩ = (a, ⟨txt r, false⟩) := by
  unfold Ey.name
  rw [raw_txt a r 32 (by rw [ha]; rfl)]
  show (name32 (txt a).data.toList, _) = _
  rw [txt_list]
  unfold name32
  rw [if_pos ha]
theorem val7 (size n : Int) (h1 : 1 ≤ size) (h7 : size ≤ 7) : val (num (near size 8) n) < 72057594037927936 := by
  have h := val_lt (num (near size 8) n)
  rw [num_length] at h
  have h2 : 256 ^ near size 8 ≤ 256 ^ 7 := Nat.pow_le_pow_right (by omega) (by unfold near; omega)
  omega
theorem counted_none (l : List UInt8) (most : Int) : (counted l most).2 = 0 → (counted l most).1 = 0 := by
  cases l with
  | nil => intro _; rfl
  | cons b r =>
    rw [counted_cons]
    split
    · intro _; rfl
    · split
      · intro _; rfl
      · split
        · intro _; rfl
        · intro h
          have : 1 + szOf b = 0 := h
          omega
theorem counted_len (l : List UInt8) (most : Int) : (counted l most).2 ≤ l.length := by
  cases l with
  | nil => exact Nat.le_refl _
  | cons b r =>
    rw [counted_cons]
    split
    · exact Nat.zero_le _
    · split
      · exact Nat.zero_le _
      · split
        · exact Nat.zero_le _
        · show 1 + szOf b ≤ r.length + 1; omega
theorem counted_lt (l : List UInt8) (most : Int) : (counted l most).1 < 9223372036854775808 := by
  cases l with
  | nil => show 0 < 9223372036854775808; decide
  | cons b r =>
    rw [counted_cons]
    split
    · decide
    · split
      · decide
      · split
        · decide
        · show told b r < _; omega
end Go.Proofs.Yteblphnpealefaa
/-
  Plain mathematics: headers, their bytes, their names, what is read.
-/
namespace Go.Proofs.Yteblphnpealefaa
open Go.RowKit Mem Sc
structure Hd where
  v : Int
  prev : List UInt8
  root : List UInt8
  time : Int
  bits : Int
  nonce : Int
def Hd.ok (h : Hd) : Prop := h.prev.length = 32 ∧ h.root.length = 32
/-- a header can be -/
def Hd.P (h : Hd) : Prop := -2147483648 ≤ h.v ∧ h.v ≤ 2147483647 ∧ 0 ≤ h.time ∧ h.time ≤ 4294967295 ∧ 0 ≤ h.bits ∧ h.bits ≤ 4294967295 ∧ 0 ≤ h.nonce ∧ h.nonce ≤ 4294967295
instance (h : Hd) : Decidable h.P := by unfold Hd.P; exact inferInstance
def z32 : List UInt8 := List.replicate 32 0
def hdZ : Hd := ⟨0, z32, z32, 0, 0, 0⟩
def Hd.enc (h : Hd) : List UInt8 := num 4 h.v ++ (h.prev ++ (h.root ++ (num 4 h.time ++ (num 4 h.bits ++ num 4 h.nonce))))
/-- what Write puts -/
def Hd.wr (h : Hd) : List UInt8 := if h.P then h.enc else hdZ.enc
def Hd.id (h : Hd) : List UInt8 := if h.P then Sha.sha (Sha.sha h.enc) else z32
def i32 (n : Nat) : Int := if n < 2147483648 then (n : Int) else (n : Int) - 4294967296
theorem z32_length : z32.length = 32 := rfl
theorem hdZ_ok : hdZ.ok := ⟨rfl, rfl⟩
theorem hdZ_P : hdZ.P := by decide
theorem Hd.enc_length {h : Hd} (ho : h.ok) : h.enc.length = 80 := by
  simp only [Hd.enc, List.length_append, num_length, ho.1, ho.2]
theorem Hd.wr_length {h : Hd} (ho : h.ok) : h.wr.length = 80 := by
  unfold Hd.wr
  split
  · exact Hd.enc_length ho
  · exact Hd.enc_length hdZ_ok
theorem Hd.wr_yes {h : Hd} (hp : h.P) : h.wr = h.enc := if_pos hp
theorem Hd.wr_no {h : Hd} (hp : ¬ h.P) : h.wr = hdZ.enc := if_neg hp
theorem Hd.id_yes {h : Hd} (hp : h.P) : h.id = Sha.sha (Sha.sha h.enc) := if_pos hp
theorem Hd.id_no {h : Hd} (hp : ¬ h.P) : h.id = z32 := if_neg hp
/-! ### what is read -/
def Sc.Ey.e1 (e : Ey) : Ey := (e.get 4).2
def Sc.Ey.e2 (e : Ey) : Ey := e.e1.name.2
def Sc.Ey.e3 (e : Ey) : Ey := e.e2.name.2
def Sc.Ey.e4 (e : Ey) : Ey := (e.e3.get 4).2
def Sc.Ey.e5 (e : Ey) : Ey := (e.e4.get 4).2
def Sc.Ey.e6 (e : Ey) : Ey := (e.e5.get 4).2
def Sc.Ey.header (e : Ey) : Hd × Ey := (if e.e6.bad = true then hdZ else ⟨i32 (e.get 4).1, e.e1.name.1, e.e2.name.1, (e.e3.get 4).1, (e.e4.get 4).1, (e.e5.get 4).1⟩, e.e6)
theorem get4_txt (a r : List UInt8) (ha : a.length = 4) : Ey.get ⟨txt (a ++ r), false⟩ 4 = (val a, ⟨txt r, false⟩) := by
  unfold Ey.get
  rw [raw_txt a r _ (by rw [ha]; rfl)]
  rfl
theorem header_txt (a p q b c d r : List UInt8) (ha : a.length = 4) (hp : p.length = 32) (hq : q.length = 32) (hb : b.length = 4) (hc : c.length = 4) (hd : d.length = 4) :
    Ey.header ⟨txt (a ++ (p ++ (q ++ (b ++ (c ++ (d ++ r)))))), false⟩ = (⟨i32 (val a), p, q, (val b : Nat), (val c : Nat), (val d : Nat)⟩, ⟨txt r, false⟩) := by
  unfold Ey.header Ey.e6 Ey.e5 Ey.e4 Ey.e3 Ey.e2 Ey.e1
  rw [get4_txt a _ ha]; simp only
  rw [name_txt p _ hp]; simp only
  rw [name_txt q _ hq]; simp only
  rw [get4_txt b _ hb]; simp only
  rw [get4_txt c _ hc]; simp only
  rw [get4_txt d _ hd]; simp
theorem i32_num {v : Int} (h1 : -2147483648 ≤ v) (h2 : v ≤ 2147483647) : i32 (val (num 4 v)) = v := by
  rw [val_num]
  unfold i32 u64
  split <;> omega
theorem val_num4 {n : Int} (h1 : 0 ≤ n) (h2 : n ≤ 4294967295) : ((val (num 4 n) : Nat) : Int) = n := by
  rw [val_num]; unfold u64; omega
theorem header_enc {h : Hd} (hp : h.P) (ho : h.ok) (r : List UInt8) : Ey.header ⟨txt (h.enc ++ r), false⟩ = (h, ⟨txt r, false⟩) := by
  obtain ⟨p1, p2, p3, p4, p5, p6, p7, p8⟩ := hp
  unfold Hd.enc
  simp only [List.append_assoc]
  rw [header_txt _ _ _ _ _ _ r (num_length _ _) ho.1 ho.2 (num_length _ _) (num_length _ _) (num_length _ _), i32_num p1 p2, val_num4 p3 p4, val_num4 p5 p6, val_num4 p7 p8]
theorem num_val4 {a : List UInt8} (ha : a.length = 4) {n : Int} (hn : u64 n % 4294967296 = val a) : num 4 n = a := by
  refine val_inj _ _ (by rw [num_length, ha]) ?_
  rw [val_num]
  exact hn
theorem val_lt4 {a : List UInt8} (ha : a.length = 4) : val a < 4294967296 := by
  have := val_lt a
  rw [ha] at this
  exact this
theorem read_P (a p q b c d : List UInt8) (ha : a.length = 4) (hb : b.length = 4) (hc : c.length = 4) (hd : d.length = 4) : (⟨i32 (val a), p, q, (val b : Nat), (val c : Nat), (val d : Nat)⟩ : Hd).P := by
  have h1 := val_lt4 ha
  have h2 := val_lt4 hb
  have h3 := val_lt4 hc
  have h4 := val_lt4 hd
  refine ⟨?_, ?_, ?_, ?_, ?_, ?_, ?_, ?_⟩ <;> simp only [i32] <;> (try split) <;> omega
theorem read_enc (a p q b c d : List UInt8) (ha : a.length = 4) (hb : b.length = 4) (hc : c.length = 4) (hd : d.length = 4) : (⟨i32 (val a), p, q, (val b : Nat), (val c : Nat), (val d : Nat)⟩ : Hd).enc = a ++ (p ++ (q ++ (b ++ (c ++ d)))) := by
  have h1 := val_lt4 ha
  have h2 := val_lt4 hb
  have h3 := val_lt4 hc
  have h4 := val_lt4 hd
  unfold Hd.enc
  simp only
  rw [num_val4 ha (by unfold i32 u64; split <;> omega), num_val4 hb (by unfold u64; omega), num_val4 hc (by unfold u64; omega), num_val4 hd (by unfold u64; omega)]
theorem cut_at (l : List UInt8) (k : Nat) : l = l.take k ++ l.drop k := (List.take_append_drop k l).symm
/-- what has 80 bytes, or more, begins with a header's -/
theorem header_long {l : List UInt8} (hl : 80 ≤ l.length) : ∃ (h : Hd) (r : List UInt8), l = h.enc ++ r ∧ h.ok ∧ h.P ∧ Ey.header ⟨txt l, false⟩ = (h, ⟨txt r, false⟩) := by
  obtain ⟨a, l1, rfl, ha⟩ : ∃ a l1, l = a ++ l1 ∧ a.length = 4 := ⟨_, _, cut_at l 4, by rw [List.length_take]; omega⟩
  rw [List.length_append, ha] at hl
  obtain ⟨p, l2, rfl, hp⟩ : ∃ a r, l1 = a ++ r ∧ a.length = 32 := ⟨_, _, cut_at l1 32, by rw [List.length_take]; omega⟩
  rw [List.length_append, hp] at hl
  obtain ⟨q, l3, rfl, hq⟩ : ∃ a r, l2 = a ++ r ∧ a.length = 32 := ⟨_, _, cut_at l2 32, by rw [List.length_take]; omega⟩
  rw [List.length_append, hq] at hl
  obtain ⟨b, l4, rfl, hb⟩ : ∃ a r, l3 = a ++ r ∧ a.length = 4 := ⟨_, _, cut_at l3 4, by rw [List.length_take]; omega⟩
  rw [List.length_append, hb] at hl
  obtain ⟨c, l5, rfl, hc⟩ : ∃ a r, l4 = a ++ r ∧ a.length = 4 := ⟨_, _, cut_at l4 4, by rw [List.length_take]; omega⟩
  rw [List.length_append, hc] at hl
  obtain ⟨d, r, rfl, hd⟩ : ∃ a r, l5 = a ++ r ∧ a.length = 4 := ⟨_, _, cut_at l5 4, by rw [List.length_take]; omega⟩
  exact ⟨⟨i32 (val a), p, q, (val b : Nat), (val c : Nat), (val d : Nat)⟩, r, by rw [read_enc a p q b c d ha hb hc hd]; simp only [List.append_assoc], ⟨hp, hq⟩, read_P a p q b c d ha hb hc hd, header_txt a p q b c d r ha hp hq hb hc hd⟩
theorem raw_step {e : Ey} {k : Nat} (h : (e.raw k).2.bad = false) : e.bad = false ∧ (e.raw k).2.s.size + k = e.s.size := by
  unfold Ey.raw at *
  split at h
  · rename_i hb; rw [hb] at h; cases h
  · rename_i hb
    rw [if_neg hb]
    split at h
    · cases h
    · rename_i hn
      rw [if_neg hn]
      refine ⟨by simpa using hb, ?_⟩
      simp only [ByteArray.size_extract, Int.toNat_natCast]
      omega
theorem get_step {e : Ey} (h : (e.get 4).2.bad = false) : e.bad = false ∧ (e.get 4).2.s.size + 4 = e.s.size := raw_step (k := 4) h
theorem name_step {e : Ey} (h : e.name.2.bad = false) : e.bad = false ∧ e.name.2.s.size + 32 = e.s.size := raw_step (k := 32) h
theorem ok_e6 {e : Ey} (h : e.ok) : e.e6.ok := ok_get (ok_get (ok_get (ok_name (ok_name (ok_get h 4))) 4) 4) 4
theorem e6_size {e : Ey} (h : e.e6.bad = false) : e.bad = false ∧ e.e6.s.size + 80 = e.s.size := by
  obtain ⟨h5, s5⟩ := get_step (e := e.e5) h
  obtain ⟨h4, s4⟩ := get_step (e := e.e4) h5
  obtain ⟨h3, s3⟩ := get_step (e := e.e3) h4
  obtain ⟨h2, s2⟩ := name_step (e := e.e2) h3
  obtain ⟨h1, s1⟩ := name_step (e := e.e1) h2
  obtain ⟨h0, s0⟩ := get_step (e := e) h1
  change e.e6.s.size + 4 = e.e5.s.size at s5
  change e.e5.s.size + 4 = e.e4.s.size at s4
  change e.e4.s.size + 4 = e.e3.s.size at s3
  change e.e3.s.size + 32 = e.e2.s.size at s2
  change e.e2.s.size + 32 = e.e1.s.size at s1
  change e.e1.s.size + 4 = e.s.size at s0
  exact ⟨h0, by omega⟩
theorem header_short {s : ByteArray} (h : s.size < 80) : Ey.header ⟨s, false⟩ = (hdZ, dark) := by
  have hb : (Ey.e6 ⟨s, false⟩).bad = true := by
    cases hb : (Ey.e6 ⟨s, false⟩).bad
    · have := (e6_size hb).2
      simp only at this
      omega
    · rfl
  have ho := ok_e6 (e := ⟨s, false⟩) (fun h => by cases h)
  have hs := ho hb
  unfold Ey.header
  rw [if_pos hb]
  generalize Ey.e6 ⟨s, false⟩ = e at *
  obtain ⟨s', b'⟩ := e
  simp only at hb hs
  rw [hb, hs]; rfl
theorem enc_inj {a b : Hd} (ha : a.P) (hb : b.P) (oa : a.ok) (ob : b.ok) (h : a.enc = b.enc) : a = b := by
  have h1 := header_enc ha oa []
  have h2 := header_enc hb ob []
  rw [h, h2] at h1
  exact (congrArg Prod.fst h1).symm
end Go.Proofs.Yteblphnpealefaa
/-
  Plain mathematics: messages, their payloads, what is read from a payload.
-/
namespace Go.Proofs.Yteblphnpealefaa
open Go.RowKit Mem Sc
structure Ms where
  kind : Int
  ver : Int
  serv : Int
  height : Int
  nb : Int
  names : List (List UInt8)
  stop : List UInt8
  heads : List Hd
def Ms.ok (m : Ms) : Prop := (∀ l ∈ m.names, l.length = 32) ∧ m.stop.length = 32 ∧ ∀ h ∈ m.heads, h.ok
def in4 (n : Int) : Prop := 0 ≤ n ∧ n < 4294967296
def in7 (n : Int) : Prop := 0 ≤ n ∧ n < 72057594037927936
instance (n : Int) : Decidable (in4 n) := by unfold in4; exact inferInstance
instance (n : Int) : Decidable (in7 n) := by unfold in7; exact inferInstance
/-- a message with nothing but what its kind has -/
def Ms.bare (m : Ms) : Ms :=
  if m.kind = 1 then ⟨m.kind, m.ver, m.serv, m.height, m.nb, [], z32, []⟩
  else if m.kind = 3 then ⟨m.kind, m.ver, 0, 0, 0, m.names, m.stop, []⟩
  else if m.kind = 4 then ⟨m.kind, 0, 0, 0, 0, [], z32, m.heads⟩
  else if m.kind = 5 then ⟨m.kind, 0, 0, 0, 0, m.names, z32, []⟩
  else if m.kind = 6 ∨ m.kind = 7 then ⟨m.kind, 0, 0, 0, m.nb, [], z32, []⟩
  else ⟨m.kind, 0, 0, 0, 0, [], z32, []⟩
/-- a message can be -/
def Ms.P (m : Ms) : Prop :=
  if m.kind = 1 then in4 m.ver ∧ in4 m.height ∧ in7 m.serv ∧ in7 m.nb
  else if m.kind = 3 then in4 m.ver ∧ m.names.length ≤ 32
  else if m.kind = 4 then (∀ h ∈ m.heads, h.P) ∧ m.heads.length ≤ 64
  else if m.kind = 5 then m.names.length ≤ 32
  else if m.kind = 6 ∨ m.kind = 7 then in7 m.nb
  else m.kind = 2 ∨ m.kind = 8
def blkL (l : List UInt8) : List UInt8 := num 4 2 ++ l
def hd0L (h : Hd) : List UInt8 := h.enc ++ [0]
def nameL (l : List UInt8) : List UInt8 := l
def Ms.pay (m : Ms) : List UInt8 :=
  if m.kind = 1 then num 4 m.ver ++ (num 4 m.height ++ (num 7 m.serv ++ num 7 m.nb))
  else if m.kind = 3 then num 4 m.ver ++ (cnt (m.names.length : Nat) ++ (m.names.flatMap nameL ++ m.stop))
  else if m.kind = 4 then cnt (m.heads.length : Nat) ++ m.heads.flatMap hd0L
  else if m.kind = 5 then cnt (m.names.length : Nat) ++ m.names.flatMap blkL
  else if m.kind = 6 ∨ m.kind = 7 then num 7 m.nb
  else []
/-! ### what is read -/
def many {α : Type} (f : Ey → α × Ey) : Nat → Ey → List α × Ey
  | 0, e => ([], e)
  | n + 1, e => ((f e).1 :: (many f n (f e).2).1, (many f n (f e).2).2)
theorem many_snoc {α : Type} (f : Ey → α × Ey) : ∀ (k : Nat) (e : Ey), many f (k + 1) e = ((many f k e).1 ++ [(f (many f k e).2).1], (f (many f k e).2).2)
  | 0, _ => rfl
  | k + 1, e => by
    show ((f e).1 :: (many f (k + 1) (f e).2).1, (many f (k + 1) (f e).2).2) = _
    rw [many_snoc f k (f e).2]
    rfl
theorem many_length {α : Type} (f : Ey → α × Ey) : ∀ (k : Nat) (e : Ey), (many f k e).1.length = k
  | 0, _ => rfl
  | k + 1, e => by show (many f k (f e).2).1.length + 1 = k + 1; rw [many_length f k]
def Sc.Ey.list {α : Type} (e : Ey) (most : Int) (f : Ey → α × Ey) : List α × Ey := many f (e.count most).1 (e.count most).2
/-- a block's name of an inv -/
def Sc.Ey.blk (e : Ey) : List UInt8 × Ey := (if (e.get 4).1 = 2 then (e.get 4).2 else dark).name
/-- a header of a list -/
def Sc.Ey.hd0 (e : Ey) : Hd × Ey := (e.header.1, (e.header.2.count 0).2)
def Sc.Ey.msg (e : Ey) (k : Int) : Ms × Ey :=
  if k = 1 then (⟨k, (e.get 4).1, ((e.get 4).2.get 4).2.get 7 |>.1, ((e.get 4).2.get 4).1, (((e.get 4).2.get 4).2.get 7).2.get 7 |>.1, [], z32, []⟩, (((e.get 4).2.get 4).2.get 7).2.get 7 |>.2)
  else if k = 3 then (⟨k, (e.get 4).1, 0, 0, 0, ((e.get 4).2.list 32 Ey.name).1, ((e.get 4).2.list 32 Ey.name).2.name.1, []⟩, ((e.get 4).2.list 32 Ey.name).2.name.2)
  else if k = 4 then (⟨k, 0, 0, 0, 0, [], z32, (e.list 64 Ey.hd0).1⟩, (e.list 64 Ey.hd0).2)
  else if k = 5 then (⟨k, 0, 0, 0, 0, (e.list 32 Ey.blk).1, z32, []⟩, (e.list 32 Ey.blk).2)
  else if k = 6 ∨ k = 7 then (⟨k, 0, 0, 0, (e.get 7).1, [], z32, []⟩, (e.get 7).2)
  else (⟨k, 0, 0, 0, 0, [], z32, []⟩, e)
/-! ### what is put is read -/
theorem get7_txt (a r : List UInt8) (ha : a.length = 7) : Ey.get ⟨txt (a ++ r), false⟩ 7 = (val a, ⟨txt r, false⟩) := by
  unfold Ey.get
  rw [raw_txt a r _ (by rw [ha]; rfl)]
  rfl
theorem val_num4' {n : Int} (h : in4 n) : ((val (num 4 n) : Nat) : Int) = n := val_num4 h.1 (by have := h.2; omega)
theorem val_num7 {n : Int} (h : in7 n) : ((val (num 7 n) : Nat) : Int) = n := by
  have h1 := h.1
  have h2 := h.2
  rw [val_num, show 256 ^ 7 = 72057594037927936 from rfl]; unfold u64; omega
theorem get4_in {n : Int} (h : in4 n) (r : List UInt8) : Ey.get ⟨txt (num 4 n ++ r), false⟩ 4 = (n.toNat, ⟨txt r, false⟩) := by
  rw [get4_txt _ r (num_length _ _)]
  have := val_num4' h
  congr 1
  omega
theorem get7_in {n : Int} (h : in7 n) (r : List UInt8) : Ey.get ⟨txt (num 7 n ++ r), false⟩ 7 = (n.toNat, ⟨txt r, false⟩) := by
  rw [get7_txt _ r (num_length _ _)]
  have := val_num7 h
  congr 1
  omega
theorem many_txt {α : Type} (f : Ey → α × Ey) (g : α → List UInt8) (xs : List α) (h : ∀ x ∈ xs, ∀ r, f ⟨txt (g x ++ r), false⟩ = (x, ⟨txt r, false⟩)) (r : List UInt8) :
    many f xs.length ⟨txt (xs.flatMap g ++ r), false⟩ = (xs, ⟨txt r, false⟩) := by
  induction xs with
  | nil => rfl
  | cons x xs ih =>
    have h1 := h x (by simp) (xs.flatMap g ++ r)
    have h2 := ih (fun y hy => h y (by simp [hy]))
    rw [List.flatMap_cons, List.append_assoc, List.length_cons]
    unfold many
    rw [h1]
    simp only
    rw [h2]
theorem count_nat (n : Nat) (most : Nat) (hm : n ≤ most) (h : most < 1000) (r : List UInt8) : Ey.count ⟨txt (cnt (n : Nat) ++ r), false⟩ (most : Nat) = (n, ⟨txt r, false⟩) := by
  rw [count_txt (n : Nat) (by omega) r _ (by omega)]
  congr 1
  omega
theorem list_txt {α : Type} (f : Ey → α × Ey) (g : α → List UInt8) (xs : List α) (most : Nat) (hm : xs.length ≤ most) (hm2 : most < 1000) (h : ∀ x ∈ xs, ∀ r, f ⟨txt (g x ++ r), false⟩ = (x, ⟨txt r, false⟩)) (r : List UInt8) :
    Ey.list ⟨txt (cnt (xs.length : Nat) ++ (xs.flatMap g ++ r)), false⟩ (most : Nat) f = (xs, ⟨txt r, false⟩) := by
  unfold Ey.list
  rw [count_nat xs.length most hm hm2]
  exact many_txt f g xs h r
theorem blk_txt (a r : List UInt8) (ha : a.length = 32) : Ey.blk ⟨txt (blkL a ++ r), false⟩ = (a, ⟨txt r, false⟩) := by
  unfold Ey.blk blkL
  rw [List.append_assoc, get4_in (n := 2) (by decide)]
  rw [if_pos (by rfl)]
  exact name_txt a r ha
theorem hd0_txt {h : Hd} (hp : h.P) (ho : h.ok) (r : List UInt8) : Ey.hd0 ⟨txt (hd0L h ++ r), false⟩ = (h, ⟨txt r, false⟩) := by
  unfold Ey.hd0 hd0L
  rw [List.append_assoc, header_enc hp ho]
  have := count_nat 0 0 (by omega) (by omega) r
  rw [show cnt ((0 : Nat) : Int) = [0] by decide] at this
  simp only
  rw [show ((0 : Nat) : Int) = 0 by rfl] at this
  rw [this]
/-- what has bytes is read from them -/
theorem read_pay {m : Ms} (hp : m.P) (ho : m.ok) (r : List UInt8) : Ey.msg ⟨txt (m.pay ++ r), false⟩ m.kind = (m.bare, ⟨txt r, false⟩) := by
  obtain ⟨k, ve, se, he, nu, ns, st, hs⟩ := m
  obtain ⟨o1, o2, o3⟩ := ho
  unfold Ms.P at hp
  unfold Ms.pay Ms.bare Ey.msg
  simp only at *
  by_cases h1 : k = 1
  · rw [if_pos h1] at hp
    obtain ⟨p1, p2, p3, p4⟩ := hp
    simp only [if_pos h1, List.append_assoc]
    rw [get4_in p1]; simp only
    rw [get4_in p2]; simp only
    rw [get7_in p3]; simp only
    rw [get7_in p4]; simp only
    have a1 := p1.1
    have a2 := p2.1
    have a3 := p3.1
    have a4 := p4.1
    rw [Int.toNat_of_nonneg a1, Int.toNat_of_nonneg a2, Int.toNat_of_nonneg a3, Int.toNat_of_nonneg a4]
  · by_cases h3 : k = 3
    · rw [if_neg h1, if_pos h3] at hp
      obtain ⟨p1, p2⟩ := hp
      simp only [if_neg h1, if_pos h3, List.append_assoc]
      rw [get4_in p1]; simp only
      rw [show (32 : Int) = ((32 : Nat) : Int) from rfl, list_txt Ey.name nameL ns 32 p2 (by omega) (fun x hx r => name_txt x r (o1 x hx))]; simp only
      rw [name_txt st r o2, Int.toNat_of_nonneg p1.1]
    · by_cases h4 : k = 4
      · rw [if_neg h1, if_neg h3, if_pos h4] at hp
        obtain ⟨p1, p2⟩ := hp
        simp only [if_neg h1, if_neg h3, if_pos h4, List.append_assoc]
        rw [show (64 : Int) = ((64 : Nat) : Int) from rfl, list_txt Ey.hd0 hd0L hs 64 p2 (by omega) (fun x hx r => hd0_txt (p1 x hx) (o3 x hx) r)]
      · by_cases h5 : k = 5
        · rw [if_neg h1, if_neg h3, if_neg h4, if_pos h5] at hp
          simp only [if_neg h1, if_neg h3, if_neg h4, if_pos h5, List.append_assoc]
          rw [show (32 : Int) = ((32 : Nat) : Int) from rfl, list_txt Ey.blk blkL ns 32 hp (by omega) (fun x hx r => blk_txt x r (o1 x hx))]
        · by_cases h6 : k = 6 ∨ k = 7
          · rw [if_neg h1, if_neg h3, if_neg h4, if_neg h5, if_pos h6] at hp
            simp only [if_neg h1, if_neg h3, if_neg h4, if_neg h5, if_pos h6]
            rw [get7_in hp, Int.toNat_of_nonneg hp.1]
          · simp only [if_neg h1, if_neg h3, if_neg h4, if_neg h5, if_neg h6, List.nil_append]
/-! ### what is read is what was put -/
/-- a reader: what it read stood ahead of what is left -/
def Reads {α : Type} (f : Ey → α × Ey) (g : α → List UInt8) (G : α → Prop) : Prop :=
  ∀ e, (f e).2.bad = false → e.bad = false ∧ G (f e).1 ∧ e.s.data.toList = g (f e).1 ++ (f e).2.s.data.toList
theorem raw_reads {e : Ey} {k : Nat} (h : (e.raw k).2.bad = false) : e.bad = false ∧ (e.raw k).1.data.toList.length = k ∧ e.s.data.toList = (e.raw k).1.data.toList ++ (e.raw k).2.s.data.toList := by
  have h0 := (raw_step h).1
  have h1 := (raw_step h).2
  have hk : k ≤ e.s.size := by omega
  rw [raw_yes h0 hk]
  refine ⟨h0, ?_, ?_⟩
  · rw [← Lib.size_eq, ByteArray.size_extract]; omega
  · simp only
    rw [Lib.extract_data, Lib.extract_to_end]
    exact (List.take_append_drop _ _).symm
theorem get_reads (k : Nat) (h1 : 1 ≤ k) (h7 : k ≤ 7) : Reads (fun e => e.get (k : Nat)) (fun v => num k (v : Nat)) (fun v => v < 256 ^ k) := by
  intro e h
  have hn : near ((k : Nat) : Int) 7 = k := by unfold near; omega
  unfold Ey.get at *
  rw [hn] at h ⊢
  obtain ⟨h2, h3, h4⟩ := raw_reads h
  have hv := val_lt (e.raw ((k : Nat) : Int)).1.data.toList
  rw [h3] at hv
  refine ⟨h2, hv, h4.trans ?_⟩
  simp only
  congr 1
  refine (val_inj _ _ (by rw [num_length, h3]) ?_).symm
  have h8 : 256 ^ k ≤ 256 ^ 7 := Nat.pow_le_pow_right (by omega) h7
  rw [val_num, u64_nat _ (by omega), Nat.mod_eq_of_lt hv]
theorem name_reads : Reads Ey.name nameL (fun l => l.length = 32) := by
  intro e h
  obtain ⟨h2, h3, h4⟩ := raw_reads (k := 32) h
  have h3' : (e.raw 32).1.data.toList.length = 32 := h3
  unfold Ey.name
  refine ⟨h2, name32_length _, ?_⟩
  unfold name32 nameL
  simp only
  rw [if_pos h3']
  exact h4
theorem header_reads : Reads Ey.header Hd.enc (fun h => h.ok ∧ h.P) := by
  intro e h
  obtain ⟨h2, h3⟩ := e6_size h
  obtain ⟨s, b⟩ := e
  simp only at h2
  subst h2
  by_cases hl : 80 ≤ s.data.toList.length
  · obtain ⟨x, r, e1, ho, hp, e2⟩ := header_long hl
    rw [txt_of] at e2
    rw [e2]
    exact ⟨rfl, ⟨ho, hp⟩, e1⟩
  · rw [header_short (by rw [Lib.size_eq]; omega)] at h
    cases h
theorem count_reads (most : Int) : Reads (fun e => e.count most) (fun v => cnt (v : Nat)) (fun v => (v : Int) ≤ most) := by
  intro e h
  unfold Ey.count at *
  simp only at h ⊢
  split at h
  · cases h
  · rename_i hb
    rw [if_neg hb]
    refine ⟨by simpa using hb, ?_⟩
    unfold behind at *
    split at h
    · cases h
    · rename_i hc
      rw [if_neg hc]
      simp only
      generalize hl : e.s.data.toList = l at *
      have hx := Lib.extract_to_end e.s (counted l most).2
      rw [hl] at hx
      rw [hx]
      clear hx hl
      cases l with
      | nil => exact absurd rfl hc
      | cons b r =>
        rw [counted_cons] at hc ⊢
        by_cases q1 : r.length < szOf b
        · rw [if_pos q1] at hc; exact absurd rfl hc
        · rw [if_neg q1] at hc ⊢
          by_cases q2 : 9223372036854775808 ≤ told b r
          · rw [if_pos q2] at hc; exact absurd rfl hc
          · rw [if_neg q2] at hc ⊢
            by_cases q3 : most < (told b r : Int) ∨ cnt (told b r : Int) ≠ b :: r.take (szOf b)
            · rw [if_pos q3] at hc; exact absurd rfl hc
            · rw [if_neg q3]
              have q4 : (told b r : Int) ≤ most := Int.not_lt.1 fun h => q3 (.inl h)
              have q5 : cnt (told b r : Int) = b :: r.take (szOf b) := Decidable.byContradiction fun h => q3 (.inr h)
              refine ⟨q4, ?_⟩
              simp only
              rw [q5, Nat.add_comm 1, List.drop_succ_cons, List.cons_append, List.take_append_drop]
theorem blk_reads : Reads Ey.blk blkL (fun l => l.length = 32) := by
  intro e h
  unfold Ey.blk at *
  by_cases hc : (e.get 4).1 = 2
  · rw [if_pos hc] at h ⊢
    obtain ⟨a1, a2, a3⟩ := name_reads _ h
    obtain ⟨b1, b2, b3⟩ := get_reads 4 (by omega) (by omega) e a1
    refine ⟨b1, a2, b3.trans ?_⟩
    show num 4 (((e.get 4).1 : Nat) : Int) ++ (e.get 4).2.s.data.toList = _
    rw [hc, a3]
    unfold blkL nameL
    rw [List.append_assoc]
    rfl
  · rw [if_neg hc] at h
    have := (name_step h).1
    cases this
theorem hd0_reads : Reads Ey.hd0 hd0L (fun h => h.ok ∧ h.P) := by
  intro e h
  obtain ⟨a1, a2, a3⟩ := count_reads 0 _ h
  obtain ⟨b1, b2, b3⟩ := header_reads e a1
  refine ⟨b1, b2, b3.trans ?_⟩
  unfold Ey.hd0 hd0L
  simp only at a2 a3 ⊢
  rw [a3]
  have hz : (e.header.2.count 0).1 = 0 := by omega
  rw [hz, List.append_assoc]
  congr 1
theorem many_reads {α : Type} {f : Ey → α × Ey} {g : α → List UInt8} {G : α → Prop} (hr : Reads f g G) : ∀ n, Reads (many f n) (fun xs => xs.flatMap g) (fun xs => ∀ x ∈ xs, G x)
  | 0, e, h => ⟨h, by simp [many], by simp [many]⟩
  | n + 1, e, h => by
    obtain ⟨a1, a2, a3⟩ := many_reads hr n (f e).2 h
    obtain ⟨b1, b2, b3⟩ := hr e a1
    refine ⟨b1, ?_, ?_⟩
    · intro x hx
      rcases List.mem_cons.1 hx with rfl | hx
      · exact b2
      · exact a2 x hx
    · show _ = ((f e).1 :: (many f n (f e).2).1).flatMap g ++ _
      rw [List.flatMap_cons, List.append_assoc, b3]
      congr 1
theorem list_reads {α : Type} {f : Ey → α × Ey} {g : α → List UInt8} {G : α → Prop} (hr : Reads f g G) (most : Int) :
    Reads (fun e => e.list most f) (fun xs => cnt (xs.length : Nat) ++ xs.flatMap g) (fun xs => (∀ x ∈ xs, G x) ∧ (xs.length : Int) ≤ most) := by
  intro e h
  obtain ⟨a1, a2, a3⟩ := many_reads hr _ _ h
  obtain ⟨b1, b2, b3⟩ := count_reads most e a1
  have hl : (e.list most f).1.length = (e.count most).1 := many_length _ _ _
  refine ⟨b1, ⟨a2, by simp only; rw [hl]; exact b2⟩, ?_⟩
  simp only
  rw [hl, b3, List.append_assoc]
  simp only
  rw [a3]
  rfl
/-- what is read, if it is read, is a message that can be, whose payload stood there -/
theorem msg_reads (k : Int) : Reads (fun e => e.msg k) Ms.pay (fun m => m.kind = k ∧ m.ok ∧ ((1 ≤ k ∧ k ≤ 8) → m.P)) := by
  intro e h
  unfold Ey.msg at h ⊢
  unfold Ms.P Ms.pay
  simp only at h ⊢
  by_cases h1 : k = 1
  · simp only [if_pos h1] at h ⊢
    obtain ⟨a1, a2, a3⟩ := get_reads 7 (by omega) (by omega) _ h
    obtain ⟨b1, b2, b3⟩ := get_reads 7 (by omega) (by omega) _ a1
    obtain ⟨c1, c2, c3⟩ := get_reads 4 (by omega) (by omega) _ b1
    obtain ⟨d1, d2, d3⟩ := get_reads 4 (by omega) (by omega) _ c1
    simp only [show ((4 : Nat) : Int) = 4 from rfl, show ((7 : Nat) : Int) = 7 from rfl] at *
    have e4 : (256 : Nat) ^ 4 = 4294967296 := rfl
    have e7 : (256 : Nat) ^ 7 = 72057594037927936 := rfl
    rw [e7] at a2 b2
    rw [e4] at c2 d2
    refine ⟨d1, ⟨trivial, ⟨by simp, z32_length, by simp⟩, fun _ => ⟨⟨by omega, by omega⟩, ⟨by omega, by omega⟩, ⟨by omega, by omega⟩, by omega, by omega⟩⟩, ?_⟩
    rw [d3, c3, b3, a3]
    simp only [List.append_assoc]
  · by_cases h3 : k = 3
    · simp only [if_neg h1, if_pos h3] at h ⊢
      obtain ⟨a1, a2, a3⟩ := name_reads _ h
      obtain ⟨b1, b2, b3⟩ := list_reads name_reads 32 _ a1
      obtain ⟨c1, c2, c3⟩ := get_reads 4 (by omega) (by omega) _ b1
      simp only [show ((4 : Nat) : Int) = 4 from rfl] at *
      have e4 : (256 : Nat) ^ 4 = 4294967296 := rfl
      rw [e4] at c2
      refine ⟨c1, ⟨trivial, ⟨b2.1, a2, by simp⟩, fun _ => ⟨⟨by omega, by omega⟩, by have := b2.2; omega⟩⟩, ?_⟩
      rw [c3, b3, a3]
      simp only [List.append_assoc]
      rfl
    · by_cases h4 : k = 4
      · simp only [if_neg h1, if_neg h3, if_pos h4] at h ⊢
        obtain ⟨b1, b2, b3⟩ := list_reads hd0_reads 64 _ h
        simp only at b2
        refine ⟨b1, ⟨trivial, ⟨by simp, z32_length, fun x hx => (b2.1 x hx).1⟩, fun _ => ⟨fun x hx => (b2.1 x hx).2, by have := b2.2; omega⟩⟩, b3⟩
      · by_cases h5 : k = 5
        · simp only [if_neg h1, if_neg h3, if_neg h4, if_pos h5] at h ⊢
          obtain ⟨b1, b2, b3⟩ := list_reads blk_reads 32 _ h
          simp only at b2
          refine ⟨b1, ⟨trivial, ⟨b2.1, z32_length, by simp⟩, fun _ => by have := b2.2; omega⟩, b3⟩
        · by_cases h6 : k = 6 ∨ k = 7
          · simp only [if_neg h1, if_neg h3, if_neg h4, if_neg h5, if_pos h6] at h ⊢
            obtain ⟨a1, a2, a3⟩ := get_reads 7 (by omega) (by omega) _ h
            simp only [show ((7 : Nat) : Int) = 7 from rfl] at *
            have e7 : (256 : Nat) ^ 7 = 72057594037927936 := rfl
            rw [e7] at a2
            refine ⟨a1, ⟨trivial, ⟨by simp, z32_length, by simp⟩, fun _ => ⟨by omega, by omega⟩⟩, a3⟩
          · simp only [if_neg h1, if_neg h3, if_neg h4, if_neg h5, if_neg h6] at h ⊢
            refine ⟨h, ⟨trivial, ⟨by simp, z32_length, by simp⟩, fun hk => by omega⟩, by simp⟩
theorem bare_kind (m : Ms) : m.bare.kind = m.kind := by
  unfold Ms.bare
  repeat' split
  all_goals rfl
theorem bare_bare (m : Ms) : m.bare.bare = m.bare := by
  obtain ⟨k, ve, se, he, nu, ns, st, hs⟩ := m
  unfold Ms.bare
  simp only
  by_cases h1 : k = 1
  · simp only [if_pos h1]
  · by_cases h3 : k = 3
    · simp only [if_neg h1, if_pos h3]
    · by_cases h4 : k = 4
      · simp only [if_neg h1, if_neg h3, if_pos h4]
      · by_cases h5 : k = 5
        · simp only [if_neg h1, if_neg h3, if_neg h4, if_pos h5]
        · by_cases h6 : k = 6 ∨ k = 7
          · simp only [if_neg h1, if_neg h3, if_neg h4, if_neg h5, if_pos h6]
          · simp only [if_neg h1, if_neg h3, if_neg h4, if_neg h5, if_neg h6]
theorem pay_bare (m : Ms) : m.bare.pay = m.pay := by
  obtain ⟨k, ve, se, he, nu, ns, st, hs⟩ := m
  unfold Ms.bare Ms.pay
  simp only
  by_cases h1 : k = 1
  · simp only [if_pos h1]
  · by_cases h3 : k = 3
    · simp only [if_neg h1, if_pos h3]
    · by_cases h4 : k = 4
      · simp only [if_neg h1, if_neg h3, if_pos h4]
      · by_cases h5 : k = 5
        · simp only [if_neg h1, if_neg h3, if_neg h4, if_pos h5]
        · by_cases h6 : k = 6 ∨ k = 7
          · simp only [if_neg h1, if_neg h3, if_neg h4, if_neg h5, if_pos h6]
          · simp only [if_neg h1, if_neg h3, if_neg h4, if_neg h5, if_neg h6]
theorem bare_P (m : Ms) : m.bare.P ↔ m.P := by
  obtain ⟨k, ve, se, he, nu, ns, st, hs⟩ := m
  unfold Ms.bare Ms.P
  simp only
  by_cases h1 : k = 1
  · simp only [if_pos h1]
  · by_cases h3 : k = 3
    · simp only [if_neg h1, if_pos h3]
    · by_cases h4 : k = 4
      · simp only [if_neg h1, if_neg h3, if_pos h4]
      · by_cases h5 : k = 5
        · simp only [if_neg h1, if_neg h3, if_neg h4, if_pos h5]
        · by_cases h6 : k = 6 ∨ k = 7
          · simp only [if_neg h1, if_neg h3, if_neg h4, if_neg h5, if_pos h6]
          · simp only [if_neg h1, if_neg h3, if_neg h4, if_neg h5, if_neg h6]
theorem bare_ok {m : Ms} (h : m.ok) : m.bare.ok := by
  obtain ⟨h1, h2, h3⟩ := h
  unfold Ms.bare
  repeat' split
  all_goals refine ⟨?_, ?_, ?_⟩ <;> first | assumption | exact z32_length | (intro x hx; cases hx)
/-- two messages that can be are the same just if they are of one kind and have one payload -/
theorem same_iff {a b : Ms} (ha : a.P) (hb : b.P) (oa : a.ok) (ob : b.ok) : a.bare = b.bare ↔ a.kind = b.kind ∧ a.pay = b.pay := by
  constructor
  · intro h
    exact ⟨by rw [← bare_kind a, ← bare_kind b, h], by rw [← pay_bare a, ← pay_bare b, h]⟩
  · rintro ⟨h1, h2⟩
    have q1 := read_pay ha oa []
    have q2 := read_pay hb ob []
    rw [h1, h2, q2] at q1
    exact (congrArg Prod.fst q1).symm
theorem P_kind {m : Ms} (h : m.P) : 1 ≤ m.kind ∧ m.kind ≤ 8 := by
  unfold Ms.P at h
  split at h
  · omega
  · split at h
    · omega
    · split at h
      · omega
      · split at h
        · omega
        · split at h <;> omega
/-- a payload cut short is none -/
theorem cut_none {m : Ms} (hp : m.P) (ho : m.ok) (c : Nat) (hc : c < m.pay.length) (hd : (Ey.msg ⟨txt (m.pay.take c), false⟩ m.kind).2.bad = false) (hs : (Ey.msg ⟨txt (m.pay.take c), false⟩ m.kind).2.s.size = 0) : False := by
  obtain ⟨_, ⟨a1, a2, a3⟩, a4⟩ := msg_reads m.kind _ hd
  simp only at a1 a2 a3 a4
  generalize Ey.msg ⟨txt (m.pay.take c), false⟩ m.kind = q at *
  obtain ⟨x, e⟩ := q
  simp only at *
  have h0 : e.s.data.toList = [] := List.eq_nil_of_length_eq_zero (by rw [← Lib.size_eq]; exact hs)
  rw [h0, List.append_nil, txt_list] at a4
  have q1 := read_pay (a3 (P_kind hp)) a2 (m.pay.drop c)
  rw [← a4, List.take_append_drop, a1] at q1
  have q2 := read_pay hp ho []
  rw [List.append_nil, q1] at q2
  have q3 := congrArg (fun z => z.2.s) q2
  simp only at q3
  have q4 := congrArg (fun z => z.data.toList.length) q3
  simp only [txt_list, List.length_drop, List.length_nil] at q4
  omega
/-- a payload with something behind is none -/
theorem more_none {m : Ms} (hp : m.P) (ho : m.ok) (r : List UInt8) : (Ey.msg ⟨txt (m.pay ++ r), false⟩ m.kind).2 = ⟨txt r, false⟩ := by
  rw [read_pay hp ho r]
end Go.Proofs.Yteblphnpealefaa
/-
  Names in memory: loads in a region that draws its order; two names are compared; a slice of names that is owned.
-/
namespace Go.Proofs.Yteblphnpealefaa
open Go.RowKit Mem Sc
theorem quiet_hl_mid {C : World → Prop} {a : Act} {o : Oper} {K : Act → Prop} (x : Operand) (ho : o.op = .load 36 x) (g off : Nat) (hx : a.eval x = .pointer (some ⟨g, off, none⟩)) (l : List UInt8) (hs : (Lib.byteCells l).length = 32) (hC : ∀ w', C w' → w'.rangeAt g off (Lib.byteCells l))
    (hk : K (a.put o.dst (.agg (bytesV l)))) : o.quiet Try.prog a C K :=
  ⟨_, fun w' hw' => by
    unfold Oper.quietAt
    have this : (execOp a.eval o).run Try.prog w' = .ok (.value (.agg (bytesV l))) w' := by
      unfold execOp
      simp only [ho, hx, Sem.run_bind, run_loadAt_mid w' g off 36 (Lib.byteCells l) _ (hC w' hw') Try.underlying36 rfl (hinfo.trans (by rw [hs])), Result.andThen_ok]
      rfl
    rw [this]
    exact ⟨rfl, rfl⟩, hk⟩
theorem range_cls {w : World} {g off : Nat} {cs : List Value} (h : w.rangeAt g off cs) (h0 : 0 < cs.length) : ∀ w', (∃ p : Regrown, w' = Sort.grow (redrawn w p.d) p.os) → w'.rangeAt g off cs := by
  rintro w' ⟨p, rfl⟩
  exact range_below h (below_regrown _ _ _) h0
theorem hsize1 : ∀ w, (sizeOf 5).run Try.prog w = .ok 1 w := fun _ => by kernel_rfl
theorem hplain : Try.prog.eqGuardType Try.prog.depth 36 = false := by kernel_rfl
theorem hneq_self (l : List UInt8) (h : l.length = 32) (w : World) : (binOp .neq 36 (.agg (bytesV l)) (.agg (bytesV l))).run Try.prog w = .ok (.bool false) w := by
  have e : (binOp .neq 36 (.agg (bytesV l)) (.agg (bytesV l))).run Try.prog w = .ok (.bool (!(l == l))) w := by
    rw [run_neq_struct]
    have this : (Op.equalIn 10000 36 (.agg (bytesV l)) (.agg (bytesV l))).run Try.prog w = .ok (l == l) w :=
      run_equalIn_bytes (P := Try.prog) w 9998 36 5 32 Try.underlying36 Try.underlying5 hsize1 l l h h
    rw [this]
    rfl
  rw [e]; simp
theorem heql_self (l : List UInt8) (h : l.length = 32) (w : World) : (binOp .eql 36 (.agg (bytesV l)) (.agg (bytesV l))).run Try.prog w = .ok (.bool true) w := by
  have e : (binOp .eql 36 (.agg (bytesV l)) (.agg (bytesV l))).run Try.prog w = .ok (.bool (l == l)) w := run_eql_bytes w 36 5 32 Try.underlying36 Try.underlying5 hsize1 l l h h
  rw [e]; simp
/-- two names are compared in a region that draws its order -/
theorem quiet_hneq {C : World → Prop} {a : Act} {o : Oper} {K : Act → Prop} (t' : TypeId) (x y : Operand) (ho : o.op = .binOp .neq 36 x y t') (xs ys : Array Value) (v : Value) (hx : a.eval x = .agg xs) (hy : a.eval y = .agg ys)
    (hq : ∀ w, (binOp .neq 36 (.agg xs) (.agg ys)).run Try.prog w = .ok v w) (hk : K (a.put o.dst v)) : o.quiet Try.prog a C K :=
  ⟨_, fun w' hw' => by
    unfold Oper.quietAt
    have this : (execOp a.eval o).run Try.prog w' = .ok (.value v) w' := by
      unfold execOp
      simp only [ho, hx, hy, Sem.run_bind, Sem.run_pure, run_eqGuard_agg w' .neq 36 x y xs ys hplain, Result.andThen_ok, hq]
    rw [this]
    exact ⟨rfl, rfl⟩, hk⟩
theorem flat_get (ls : List (List UInt8)) (h : ∀ x ∈ ls, x.length = 32) (i j : Nat) (hi : i < ls.length) (hj : j < 32) : (namesC ls)[i * 32 + j]? = (Lib.byteCells ls[i])[j]? := by
  induction ls generalizing i with
  | nil => simp at hi
  | cons x ls ih =>
    have hx : (Lib.byteCells x).length = 32 := by rw [Lib.byteCells_length]; exact h x (by simp)
    show (Lib.byteCells x ++ namesC ls)[i * 32 + j]? = _
    cases i with
    | zero => rw [List.getElem?_append_left (by omega)]; simp
    | succ i =>
      rw [List.getElem?_append_right (by omega), hx, show (i + 1) * 32 + j - 32 = i * 32 + j by omega, ih (fun y hy => h y (by simp [hy])) i (by simpa using hi)]
      rfl
/-- a slice of names that is owned -/
theorem owns_names {w : World} {base : Nat} {v : Value} {n : Nat} {ls : List (List UInt8)} (h : w.ownsRow base 36 32 v n (namesC ls)) (hn : n = ls.length) (h32 : ∀ x ∈ ls, x.length = 32) :
    ∃ a c, v = .slice a n c ∧ NamesAt w a ls := by
  rcases h.2 with ⟨rfl, rfl⟩ | ⟨g, cap, cur, rfl, hb, hg, hc, hm, hcs, ht⟩
  · exact ⟨none, 0, rfl, fun h0 => by omega⟩
  · refine ⟨_, _, rfl, fun h0 => ⟨g, 0, rfl, Has.lt hg, fun i hi => ⟨h32 _ (List.getElem_mem hi), fun j u hu => ?_⟩⟩⟩
    have hj : j < 32 := by
      have := (List.getElem?_eq_some_iff.1 hu).1
      rw [Lib.byteCells_length, h32 _ (List.getElem_mem hi)] at this; exact this
    rw [Has.cell hg, Nat.zero_add, ← hu, ← flat_get ls h32 i j hi hj, ← ht, List.getElem?_take_of_lt (by omega), Array.getElem?_toList]
theorem NamesAt.below {w w' : World} {a : Option Addr} {ls : List (List UInt8)} (h : NamesAt w a ls) (hb : Below w.heap.size w w') : NamesAt w' a ls := fun h0 => by
  obtain ⟨ab, ao, ha, hl, hc⟩ := h h0
  exact ⟨ab, ao, ha, by have := hb.size; omega, fun i hi => ⟨(hc i hi).1, range_below (hc i hi).2 hb (by rw [Lib.byteCells_length, (hc i hi).1]; omega)⟩⟩
theorem flatten_size (ls : List (List UInt8)) (h : ∀ x ∈ ls, x.length = 32) : ls.flatten.length = 32 * ls.length := by
  induction ls with
  | nil => rfl
  | cons x ls ih =>
    rw [List.flatten_cons, List.length_append, ih (fun y hy => h y (by simp [hy])), h x (by simp), List.length_cons]; omega
theorem nameTo_txt (ls : List (List UInt8)) (h : ∀ x ∈ ls, x.length = 32) (r : List UInt8) (k : Nat) (hk : k ≤ ls.length) : Ey.nameTo ⟨txt (ls.flatten ++ r), false⟩ k = (ls.take k, ⟨txt ((ls.drop k).flatten ++ r), false⟩) := by
  induction k with
  | zero => rfl
  | succ k ih =>
    have hkl : k < ls.length := hk
    show ((Ey.nameTo _ k).1 ++ [(Ey.nameTo _ k).2.name.1], (Ey.nameTo _ k).2.name.2) = _
    rw [ih (by omega)]
    show (ls.take k ++ [(Ey.name ⟨txt ((ls.drop k).flatten ++ r), false⟩).1], (Ey.name ⟨txt ((ls.drop k).flatten ++ r), false⟩).2) = _
    rw [List.drop_eq_getElem_cons hkl, List.flatten_cons, List.append_assoc, name_txt _ _ (h _ (List.getElem_mem hkl)), List.take_succ_eq_append_getElem hkl]
theorem names_txt (ls : List (List UInt8)) (h : ∀ x ∈ ls, x.length = 32) : Ey.names ⟨txt ls.flatten, false⟩ (ls.length : Nat) = (ls, ⟨txt [], false⟩) := by
  have hsz : (txt ls.flatten).size = 32 * ls.length := by rw [txt_size, flatten_size ls h]
  unfold Ey.names
  rw [if_neg (by show ¬ ((txt ls.flatten).size : Int) / 32 < _; omega), Int.toNat_natCast]
  have := nameTo_txt ls h [] ls.length (Nat.le_refl _)
  rw [List.append_nil, List.take_length, List.drop_length] at this
  exact this
theorem names_more (ls : List (List UInt8)) (h : ∀ x ∈ ls, x.length = 32) (m : Int) (hm : 0 < m) : Ey.names ⟨txt ls.flatten, false⟩ ((ls.length : Nat) + m) = ([], dark) := by
  have hsz : (txt ls.flatten).size = 32 * ls.length := by rw [txt_size, flatten_size ls h]
  unfold Ey.names
  rw [if_pos (by show ((txt ls.flatten).size : Int) / 32 < _; omega)]
end Go.Proofs.Yteblphnpealefaa
/-
  Headers in memory: blocks that hold one, loads and stores, parts of it.
-/
namespace Go.Proofs.Yteblphnpealefaa
open Go.RowKit Mem Sc
def hdC (h : Hd) : List Value := .int .i64 h.v :: (Lib.byteCells h.prev ++ (Lib.byteCells h.root ++ [.int .i64 h.time, .int .i64 h.bits, .int .i64 h.nonce]))
def hdA (h : Hd) : Array Value := (hdC h).toArray
theorem hdC_length {h : Hd} (ho : h.ok) : (hdC h).length = 68 := by simp [hdC, Lib.byteCells_length, ho.1, ho.2]
theorem hdA_size {h : Hd} (ho : h.ok) : (hdA h).size = 68 := by show (hdC h).toArray.size = 68; rw [List.size_toArray]; exact hdC_length ho
theorem hdC_one (h : Hd) : ∀ v ∈ hdC h, v.oneCell' = true := by
  intro v hv
  simp only [hdC, List.mem_cons, List.mem_append] at hv
  rcases hv with rfl | hv | hv | hv
  · rfl
  · exact Lib.byteCells_one _ v hv
  · exact Lib.byteCells_one _ v hv
  · simp at hv
    rcases hv with rfl | rfl | rfl <;> rfl
theorem hdA_one (h : Hd) : (hdA h).all (·.oneCell') = true := all_oneCell_toArray (hdC_one h)
theorem hdinfo : (Try.prog.info? 67).map (·.size) = some 68 := by kernel_rfl
theorem hdA_lit : hdA hdZ = #[.int .i64 0, .int .u8 0, .int .u8 0, .int .u8 0, .int .u8 0, .int .u8 0, .int .u8 0, .int .u8 0, .int .u8 0, .int .u8 0, .int .u8 0, .int .u8 0, .int .u8 0, .int .u8 0, .int .u8 0, .int .u8 0, .int .u8 0, .int .u8 0, .int .u8 0, .int .u8 0, .int .u8 0, .int .u8 0, .int .u8 0, .int .u8 0, .int .u8 0, .int .u8 0, .int .u8 0, .int .u8 0, .int .u8 0, .int .u8 0, .int .u8 0, .int .u8 0, .int .u8 0, .int .u8 0, .int .u8 0, .int .u8 0, .int .u8 0, .int .u8 0, .int .u8 0, .int .u8 0, .int .u8 0, .int .u8 0, .int .u8 0, .int .u8 0, .int .u8 0, .int .u8 0, .int .u8 0, .int .u8 0, .int .u8 0, .int .u8 0, .int .u8 0, .int .u8 0, .int .u8 0, .int .u8 0, .int .u8 0, .int .u8 0, .int .u8 0, .int .u8 0, .int .u8 0, .int .u8 0, .int .u8 0, .int .u8 0, .int .u8 0, .int .u8 0, .int .u8 0, .int .i64 0, .int .i64 0, .int .i64 0] := rfl
/-- a block that holds a header -/
def HdAt (w : World) (k : Nat) (h : Hd) : Prop := Has w k (hdA h) 67
variable {w w' : World} {k : Nat} {h : Hd}
theorem HdAt.lt (hh : HdAt w k h) : k < w.heap.size := Has.lt hh
theorem HdAt.on (hh : HdAt w k h) (hb : Below w.heap.size w w') : HdAt w' k h := below_has hb hh hh.lt
theorem HdAt.grown {r : Option Nat} (hh : HdAt w k h) (hg : w.grownBy w' r) (hn : some k ≠ r) : HdAt w' k h := gb_has hg hh hn
theorem HdAt.pen {b : Nat} {v v' : Value} (hh : HdAt w k h) (hs : PenStep w w' b v v') (hb : k ≠ b) (hv : v.ownBlock ≠ some k) : HdAt w' k h := hs.has hh hb hv
theorem HdAt.free (hh : HdAt w k h) (j : Nat) : w.frozen? ⟨k, j, none⟩ = false := Has.free hh j
theorem HdAt.v (hh : HdAt w k h) : w.cell? ⟨k, 0, none⟩ = some (.int .i64 h.v) := Has.cell hh 0
theorem byteCells_32 {l : List UInt8} (hl : l.length = 32) : (Lib.byteCells l).length = 32 := by rw [Lib.byteCells_length, hl]
theorem hdC_prev (j : Nat) (u : Value) (hu : (Lib.byteCells h.prev)[j]? = some u) : (hdC h)[1 + j]? = some u := by
  rw [Nat.add_comm]
  show (Lib.byteCells h.prev ++ _)[j]? = some u
  rw [List.getElem?_append_left (List.getElem?_eq_some_iff.1 hu).1]
  exact hu
theorem hdC_root (ho : h.ok) (j : Nat) (u : Value) (hu : (Lib.byteCells h.root)[j]? = some u) : (hdC h)[33 + j]? = some u := by
  rw [show 33 + j = (32 + j) + 1 by omega]
  show (Lib.byteCells h.prev ++ _)[32 + j]? = some u
  rw [List.getElem?_append_right (by rw [byteCells_32 ho.1]; omega), byteCells_32 ho.1, Nat.add_sub_cancel_left, List.getElem?_append_left (List.getElem?_eq_some_iff.1 hu).1]
  exact hu
theorem hdC_tail (ho : h.ok) (j : Nat) : (hdC h)[65 + j]? = [Value.int .i64 h.time, .int .i64 h.bits, .int .i64 h.nonce][j]? := by
  rw [show 65 + j = (64 + j) + 1 by omega]
  show (Lib.byteCells h.prev ++ _)[64 + j]? = _
  rw [List.getElem?_append_right (by rw [byteCells_32 ho.1]; omega), byteCells_32 ho.1, List.getElem?_append_right (by rw [byteCells_32 ho.2]; omega), byteCells_32 ho.2, show 64 + j - 32 - 32 = j by omega]
theorem HdAt.prev (hh : HdAt w k h) : w.rangeAt k 1 (Lib.byteCells h.prev) := fun j u hu => by
  rw [Has.cell hh (1 + j)]
  show (hdC h).toArray[1 + j]? = some u
  rw [List.getElem?_toArray]
  exact hdC_prev j u hu
theorem HdAt.root (hh : HdAt w k h) (ho : h.ok) : w.rangeAt k 33 (Lib.byteCells h.root) := fun j u hu => by
  rw [Has.cell hh (33 + j)]
  show (hdC h).toArray[33 + j]? = some u
  rw [List.getElem?_toArray]
  exact hdC_root ho j u hu
theorem HdAt.time (hh : HdAt w k h) (ho : h.ok) : w.cell? ⟨k, 65, none⟩ = some (.int .i64 h.time) := by
  rw [Has.cell hh 65]
  show (hdC h).toArray[65]? = _
  rw [List.getElem?_toArray]
  exact hdC_tail ho 0
theorem HdAt.bits (hh : HdAt w k h) (ho : h.ok) : w.cell? ⟨k, 66, none⟩ = some (.int .i64 h.bits) := by
  rw [Has.cell hh 66]
  show (hdC h).toArray[66]? = _
  rw [List.getElem?_toArray]
  exact hdC_tail ho 1
theorem HdAt.nonce (hh : HdAt w k h) (ho : h.ok) : w.cell? ⟨k, 67, none⟩ = some (.int .i64 h.nonce) := by
  rw [Has.cell hh 67]
  show (hdC h).toArray[67]? = _
  rw [List.getElem?_toArray]
  exact hdC_tail ho 2
/-! ### one part is stored -/
theorem hdA_setV (x : Int) : (hdA h).setIfInBounds 0 (.int .i64 x) = hdA { h with v := x } := by simp [hdA, hdC]
theorem hdC_setTail (ho : h.ok) (j : Nat) (u : Value) : (hdC h).set (65 + j) u = .int .i64 h.v :: (Lib.byteCells h.prev ++ (Lib.byteCells h.root ++ [Value.int .i64 h.time, .int .i64 h.bits, .int .i64 h.nonce].set j u)) := by
  rw [show 65 + j = (64 + j) + 1 by omega]
  show Value.int .i64 h.v :: (Lib.byteCells h.prev ++ _).set (64 + j) u = _
  rw [List.set_append_right _ _ (by rw [byteCells_32 ho.1]; omega), byteCells_32 ho.1, List.set_append_right _ _ (by rw [byteCells_32 ho.2]; omega), byteCells_32 ho.2, show 64 + j - 32 - 32 = j by omega]
theorem hdA_setTime (ho : h.ok) (x : Int) : (hdA h).setIfInBounds 65 (.int .i64 x) = hdA { h with time := x } := by
  unfold hdA
  rw [List.setIfInBounds_toArray, hdC_setTail ho 0]; rfl
theorem hdA_setBits (ho : h.ok) (x : Int) : (hdA h).setIfInBounds 66 (.int .i64 x) = hdA { h with bits := x } := by
  unfold hdA
  rw [List.setIfInBounds_toArray, hdC_setTail ho 1]; rfl
theorem hdA_setNonce (ho : h.ok) (x : Int) : (hdA h).setIfInBounds 67 (.int .i64 x) = hdA { h with nonce := x } := by
  unfold hdA
  rw [List.setIfInBounds_toArray, hdC_setTail ho 2]; rfl
theorem HdAt.setV (hh : HdAt w k h) (x : Int) : HdAt (w.setCell ⟨k, 0, none⟩ (.int .i64 x)) k { h with v := x } := by
  unfold HdAt; rw [← hdA_setV]; exact Has.set hh _
theorem HdAt.setTime (hh : HdAt w k h) (ho : h.ok) (x : Int) : HdAt (w.setCell ⟨k, 65, none⟩ (.int .i64 x)) k { h with time := x } := by
  unfold HdAt; rw [← hdA_setTime ho]; exact Has.set hh _
theorem HdAt.setBits (hh : HdAt w k h) (ho : h.ok) (x : Int) : HdAt (w.setCell ⟨k, 66, none⟩ (.int .i64 x)) k { h with bits := x } := by
  unfold HdAt; rw [← hdA_setBits ho]; exact Has.set hh _
theorem HdAt.setNonce (hh : HdAt w k h) (ho : h.ok) (x : Int) : HdAt (w.setCell ⟨k, 67, none⟩ (.int .i64 x)) k { h with nonce := x } := by
  unfold HdAt; rw [← hdA_setNonce ho]; exact Has.set hh _
/-- cells of a block are stored, one behind the other -/
theorem has_setCells (b : Nat) (t : TypeId) : ∀ (vs : List Value) (o : Nat) (w : World) (A B C : List Value), Has w b (A ++ (B ++ C)).toArray t → A.length = o → B.length = vs.length → Has (w.setCells b o vs) b (A ++ (vs ++ C)).toArray t
  | [], o, w, A, B, C, hh, ha, hb => by
    obtain rfl : B = [] := List.eq_nil_of_length_eq_zero hb
    exact hh
  | v :: r, o, w, A, B, C, hh, ha, hb => by
    obtain ⟨x, B', rfl⟩ : ∃ x B', B = x :: B' := by
      cases B with
      | nil => simp at hb
      | cons x B' => exact ⟨x, B', rfl⟩
    have h1 := Has.set (i := o) hh v
    have e : (A ++ (x :: B' ++ C)).toArray.setIfInBounds o v = (A ++ [v] ++ (B' ++ C)).toArray := by
      rw [List.setIfInBounds_toArray, List.set_append_right _ _ (by omega), show o - A.length = 0 by omega]
      simp
    rw [e] at h1
    have := has_setCells b t r (o + 1) _ (A ++ [v]) B' C h1 (by simp [ha]) (by simpa using hb)
    show Has ((w.setCell ⟨b, o, none⟩ v).setCells b (o + 1) r) b _ t
    simpa using this
theorem setCells_other (b c : Nat) (hc : c ≠ b) : ∀ (vs : List Value) (o : Nat) (w : World), (w.setCells b o vs).heap[c]? = w.heap[c]?
  | [], _, _ => rfl
  | v :: r, o, w => by
    show ((w.setCell ⟨b, o, none⟩ v).setCells b (o + 1) r).heap[c]? = _
    rw [setCells_other b c hc r]
    exact Below.heap_setCell _ _ _ _ hc
theorem setCells_rest (b : Nat) : ∀ (vs : List Value) (o : Nat) (w : World), (w.setCells b o vs).os = w.os ∧ (w.setCells b o vs).tape = w.tape ∧ (w.setCells b o vs).output = w.output ∧ (w.setCells b o vs).heap.size = w.heap.size
  | [], _, _ => ⟨rfl, rfl, rfl, rfl⟩
  | v :: r, o, w => by
    obtain ⟨h1, h2, h3, h4⟩ := setCells_rest b r (o + 1) (w.setCell ⟨b, o, none⟩ v)
    exact ⟨h1, h2, h3, h4.trans (by simp [World.setCell])⟩
theorem gb_setCells {a c : World} {r : Option Nat} (hg : a.grownBy c r) (b o : Nat) (vs : List Value) (hb : a.heap.size ≤ b) : a.grownBy (c.setCells b o vs) r := by
  obtain ⟨h1, h2, h3, h4⟩ := setCells_rest b vs o c
  exact ⟨h1.trans hg.os, h2.trans hg.tape, h3.trans hg.output, by rw [h4]; exact hg.size, fun k hk hn => (setCells_other b k (by omega) vs o c).trans (hg.block k hk hn)⟩
theorem HdAt.setPrev (hh : HdAt w k h) (ho : h.ok) {p : List UInt8} (hp : p.length = 32) : HdAt (w.setCells k 1 (Lib.byteCells p)) k { h with prev := p } := by
  have hh' : Has w k ([Value.int .i64 h.v] ++ (Lib.byteCells h.prev ++ (Lib.byteCells h.root ++ [Value.int .i64 h.time, Value.int .i64 h.bits, Value.int .i64 h.nonce]))).toArray 67 := hh
  exact has_setCells k 67 (Lib.byteCells p) 1 w _ _ _ hh' rfl (by rw [byteCells_32 ho.1, byteCells_32 hp])
theorem HdAt.setRoot (hh : HdAt w k h) (ho : h.ok) {p : List UInt8} (hp : p.length = 32) : HdAt (w.setCells k 33 (Lib.byteCells p)) k { h with root := p } := by
  have hh' : Has w k ((Value.int .i64 h.v :: Lib.byteCells h.prev) ++ (Lib.byteCells h.root ++ [Value.int .i64 h.time, Value.int .i64 h.bits, Value.int .i64 h.nonce])).toArray 67 := hh
  exact has_setCells k 67 (Lib.byteCells p) 33 w _ _ _ hh' (by rw [List.length_cons, byteCells_32 ho.1]) (by rw [byteCells_32 ho.2, byteCells_32 hp])
theorem HdAt.there (hh : HdAt w k h) (ho : h.ok) (o n : Nat) (hn : o + n ≤ 68) : w.there k o n := fun j hj => ⟨by
  rw [Has.cell hh (o + j)]
  have hz := hdA_size ho
  rw [Array.getElem?_eq_getElem (by omega)]
  rfl, hh.free _⟩
section
variable {ops : Array Oper} {rest : List Oper} {o : Oper} {a : Act} {Q : Exit → Act → World → Prop}
theorem hd_load (hgd : o.guard = none) (x : Operand) (ho : o.op = .load 67 x) (g : Nat) (hx : a.eval x = .pointer (some ⟨g, 0, none⟩)) (hg : HdAt w g h) (hs : (hdA h).size = 68)
    (hk : wpList Try.prog ops Q rest (a.put o.dst (.agg (hdA h))) w) : wpList Try.prog ops Q (o :: rest) a w :=
  wpList_load_row hgd 67 x ho g hx 67 (hdA h) (0, 0) _ (Has.out hg) Try.underlying67 rfl (hdinfo.trans (by rw [hs])) hk
theorem hd_load_g (hw : Region.wanted o (yielded ops a.tmps) = true) (x : Operand) (ho : o.op = .load 67 x) (g : Nat) (hx : a.eval x = .pointer (some ⟨g, 0, none⟩)) (hg : HdAt w g h) (hs : (hdA h).size = 68)
    (hk : wpList Try.prog ops Q rest (a.put o.dst (.agg (hdA h))) w) : wpList Try.prog ops Q (o :: rest) a w :=
  BigFrame.wpList_want hw fun _ hK => wp_load_row 67 x ho g hx 67 (hdA h) (0, 0) _ (Has.out hg) Try.underlying67 rfl (hdinfo.trans (by rw [hs])) (hK _ _ hk)
theorem hd_load_mid (hgd : o.guard = none) (x : Operand) (ho : o.op = .load 67 x) (g off : Nat) (hx : a.eval x = .pointer (some ⟨g, off, none⟩)) (h : Hd) (hg : w.rangeAt g off (hdC h)) (hs : (hdC h).length = 68)
    (hk : wpList Try.prog ops Q rest (a.put o.dst (.agg (hdA h))) w) : wpList Try.prog ops Q (o :: rest) a w :=
  wpList_load_mid hgd 67 x ho g off hx (hdC h) _ hg Try.underlying67 rfl (hdinfo.trans (by rw [hs])) hk
theorem hd_store (hgd : o.guard = none) (x y : Operand) (ho : o.op = .store 67 x y) (g : Nat) (cz : Array Value) (h' : Hd) (hx : a.eval x = .pointer (some ⟨g, 0, none⟩)) (hy : a.eval y = .agg cz) (e : cz = hdA h') (hs' : (hdA h').size = 68) (hg : HdAt w g h) (hs : (hdA h).size = 68)
    (hk : wpList Try.prog ops Q rest (a.put o.dst undef) (w.setRow g (hdA h'))) : wpList Try.prog ops Q (o :: rest) a w := by
  subst e
  exact wpList_store_row hgd 67 x y ho g (hdA h') hx hy 67 (hdA h) (Has.out hg) (hdinfo.trans (by rw [hs'])) (by rw [hs, hs']) (hdA_one h') hk
/-- a name is stored into a part of a header -/
theorem hl_store_mid (hgd : o.guard = none) (x y : Operand) (ho : o.op = .store 36 x y) (g off : Nat) (l : List UInt8) (hx : a.eval x = .pointer (some ⟨g, off, none⟩)) (hy : a.eval y = .agg (bytesV l)) (hl : l.length = 32) (ht : w.there g off 32)
    (hk : wpList Try.prog ops Q rest (a.put o.dst undef) (w.setCells g off (Lib.byteCells l))) : wpList Try.prog ops Q (o :: rest) a w := by
  refine wpList_store_mid hgd 36 x y ho g off (bytesV l) hx hy (by rw [hv_size hl]; exact ht) (hinfo.trans (by rw [hv_size hl])) (bytesV_one l) ?_
  rw [bytesV_list]
  exact hk
end
theorem hd_results {fn : Func} {p : Tmp} (hf : fn.results = #[.cell p 67]) (tmps : Array Value) (g : Nat) (hp : tmps.getD p undef = .pointer (some ⟨g, 0, none⟩)) (hg : HdAt w g h) (hs : (hdA h).size = 68) :
    (results fn tmps).run Try.prog w = .ok (.agg (hdA h)) w :=
  results_cell_row hf tmps w g 67 (hdA h) (0, 0) _ hp (Has.out hg) Try.underlying67 rfl (hdinfo.trans (by rw [hs]))
theorem hd_new (w : World) (h : Hd) : HdAt (w.alloc (.cells (hdA h) 67)) w.heap.size h := Has.new _ _
theorem hd_new1 (w : World) (ob : Obj) (h : Hd) : HdAt ((w.alloc ob).alloc (.cells (hdA h) 67)) (w.heap.size + 1) h := Has.new1 ob _ _
/-- a header is loaded whole in a region that draws its order -/
theorem quiet_hd_mid {C : World → Prop} {a : Act} {o : Oper} {K : Act → Prop} (x : Operand) (ho : o.op = .load 67 x) (g off : Nat) (hx : a.eval x = .pointer (some ⟨g, off, none⟩)) (h : Hd) (hs : (hdC h).length = 68) (hC : ∀ w', C w' → w'.rangeAt g off (hdC h))
    (hk : K (a.put o.dst (.agg (hdA h)))) : o.quiet Try.prog a C K :=
  ⟨_, fun w' hw' => by
    unfold Oper.quietAt
    have this : (execOp a.eval o).run Try.prog w' = .ok (.value (.agg (hdA h))) w' := by
      unfold execOp
      simp only [ho, hx, Sem.run_bind, run_loadAt_mid w' g off 67 (hdC h) _ (hC w' hw') Try.underlying67 rfl (hdinfo.trans (by rw [hs])), Result.andThen_ok]
      rfl
    rw [this]
    exact ⟨rfl, rfl⟩, hk⟩
theorem HdAt.range (hh : HdAt w k h) : w.rangeAt k 0 (hdC h) := fun j u hu => by
  rw [Nat.zero_add, Has.cell hh j]
  show (hdC h).toArray[j]? = some u
  rw [List.getElem?_toArray]
  exact hu
end Go.Proofs.Yteblphnpealefaa
/-
  header: Read, Of.
-/
namespace Go.Proofs.Yteblphnpealefaa
open Go.RowKit Mem Sc
theorem i32_is (n : Nat) (hn : n < 4294967296) : IntKind.i32.wrap (n : Int) = i32 n := by
  rw [IntKind.wrap_i32]; unfold i32; split <;> omega
theorem get4_lt (e : Ey) : (e.get 4).1 < 4294967296 := by
  unfold Ey.get
  have h := val_lt (e.raw (near 4 7)).1.data.toList
  have h2 := raw_size e (near 4 7)
  rw [Lib.size_eq] at h2
  have h3 : 256 ^ (e.raw (near 4 7)).1.data.toList.length ≤ 256 ^ 4 := Nat.pow_le_pow_right (by omega) h2
  simp only
  omega
theorem setCells_has {w : World} {X o g : Nat} {vs : List Value} {cs : Array Value} {t : TypeId} (h : Has w g cs t) (hn : g ≠ X) : Has (w.setCells X o vs) g cs t := (setCells_other X g hn vs o w).trans h
end Go.Proofs.Yteblphnpealefaa
/-
  header: Good, hasRoom; the reference's Good.
-/
namespace Go.Proofs.Yteblphnpealefaa
open Go.RowKit Mem Sc
end Go.Proofs.Yteblphnpealefaa
/-
  Layer 6's laws: alive.
-/
namespace Go.Proofs.Yteblphnpealefaa
open Go.RowKit Mem Sc
/-- two names are compared, in a place that is guarded -/
theorem wp_heql {o : Oper} {a : Act} {w : World} {K : Act → World → Prop} {Q : Exit → Act → World → Prop} (t' : TypeId) (x y : Operand) (ho : o.op = .binOp .eql 36 x y t') (xs ys : Array Value) (v : Value) (hx : a.eval x = .agg xs) (hy : a.eval y = .agg ys)
    (hq : (binOp .eql 36 (.agg xs) (.agg ys)).run Try.prog w = .ok v w) (h : K (a.put o.dst v) w) : o.wp Try.prog a w K Q := by
  unfold Oper.wp execOp
  simp only [ho, hx, hy, Sem.run_bind, Sem.run_pure, run_eqGuard_agg w .eql 36 x y xs ys hplain, Result.andThen_ok, hq]
  exact h
theorem heql_g {ops : Array Oper} {rest : List Oper} {o : Oper} {a : Act} {w : World} {Q : Exit → Act → World → Prop} (hw : Region.wanted o (yielded ops a.tmps) = true) (t' : TypeId) (x y : Operand) (ho : o.op = .binOp .eql 36 x y t') (xs ys : Array Value) (v : Value) (hx : a.eval x = .agg xs) (hy : a.eval y = .agg ys)
    (hq : ∀ w, (binOp .eql 36 (.agg xs) (.agg ys)).run Try.prog w = .ok v w) (h : wpList Try.prog ops Q rest (a.put o.dst v) w) : wpList Try.prog ops Q (o :: rest) a w :=
  BigFrame.wpList_want hw fun _ hK => wp_heql t' x y ho xs ys v hx hy (hq w) (hK _ _ h)
theorem wp_hneq {o : Oper} {a : Act} {w : World} {K : Act → World → Prop} {Q : Exit → Act → World → Prop} (t' : TypeId) (x y : Operand) (ho : o.op = .binOp .neq 36 x y t') (xs ys : Array Value) (v : Value) (hx : a.eval x = .agg xs) (hy : a.eval y = .agg ys)
    (hq : (binOp .neq 36 (.agg xs) (.agg ys)).run Try.prog w = .ok v w) (h : K (a.put o.dst v) w) : o.wp Try.prog a w K Q := by
  unfold Oper.wp execOp
  simp only [ho, hx, hy, Sem.run_bind, Sem.run_pure, run_eqGuard_agg w .neq 36 x y xs ys hplain, Result.andThen_ok, hq]
  exact h
theorem hneq_g {ops : Array Oper} {rest : List Oper} {o : Oper} {a : Act} {w : World} {Q : Exit → Act → World → Prop} (hw : Region.wanted o (yielded ops a.tmps) = true) (t' : TypeId) (x y : Operand) (ho : o.op = .binOp .neq 36 x y t') (xs ys : Array Value) (v : Value) (hx : a.eval x = .agg xs) (hy : a.eval y = .agg ys)
    (hq : ∀ w, (binOp .neq 36 (.agg xs) (.agg ys)).run Try.prog w = .ok v w) (h : wpList Try.prog ops Q rest (a.put o.dst v) w) : wpList Try.prog ops Q (o :: rest) a w :=
  BigFrame.wpList_want hw fun _ hK => wp_hneq t' x y ho xs ys v hx hy (hq w) (hK _ _ h)
def hd1 : Hd := ⟨1, z32, z32, 0, 0, 0⟩
theorem hd1_enc : txt hd1.enc = ⟨#[1, 0, 0, 0, 0, 0, 0, 0, 0, 0, 0, 0, 0, 0, 0, 0, 0, 0, 0, 0, 0, 0, 0, 0, 0, 0, 0, 0, 0, 0, 0, 0, 0, 0, 0, 0, 0, 0, 0, 0, 0, 0, 0, 0, 0, 0, 0, 0, 0, 0, 0, 0, 0, 0, 0, 0, 0, 0, 0, 0, 0, 0, 0, 0, 0, 0, 0, 0, 0, 0, 0, 0, 0, 0, 0, 0, 0, 0, 0, 0]⟩ := by decide +kernel
end Go.Proofs.Yteblphnpealefaa
