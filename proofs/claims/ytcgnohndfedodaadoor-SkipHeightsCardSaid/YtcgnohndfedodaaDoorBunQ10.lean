/-
  Texts of this seat, one behind the other.
-/
import Derived.Test.YtcgnohndfedodaaDoorBunQ9
import Derived.Deep.DeepCutAuto
import Derived.Test.YtcgnohndfedodaaDoorBunQ0
import Derived.Test.YtcgnohndfedodaaDoorZScName
/-
  Layer 5's laws: the items of a script, in memory; great.
-/
namespace Go.Proofs.YtcgnohndfedodaaDoor
open Go.RowKit Mem Sc
structure It where
  kind : Int
  size : Int
  n : Int
  name : List UInt8
  text : ByteArray
def It.ok (x : It) : Prop := x.name.length = 32 ∧ x.text.size ≤ 4611686018427387904
def itemC (x : It) : List Value := .int .i64 x.kind :: .int .i64 x.size :: .int .i64 x.n :: (Lib.byteCells x.name ++ [.string x.text])
theorem itemC_length {x : It} (h : x.name.length = 32) : (itemC x).length = 36 := by simp [itemC, Lib.byteCells_length, h]
def itemA (x : It) : Array Value := (itemC x).toArray
theorem itemA_size {x : It} (h : x.name.length = 32) : (itemA x).size = 36 := by show (itemC x).toArray.size = 36; rw [List.size_toArray]; exact itemC_length h
theorem itemA_one (x : It) : (itemA x).all (·.oneCell') = true := by
  rw [Array.all_eq_true_iff_forall_mem]
  intro v hv
  simp only [itemA, itemC, List.mem_toArray, List.mem_cons, List.mem_append] at hv
  rcases hv with rfl | rfl | rfl | hv | hv
  · rfl
  · rfl
  · rfl
  · exact Lib.byteCells_one _ v hv
  · simp at hv; subst hv; rfl
def i0 : Array Value := itemA ⟨0, 0, 0, List.replicate 32 0, ⟨#[]⟩⟩
theorem i0_new (w : World) (t : TypeId) : Has (w.alloc (.cells #[.int .i64 0, .int .i64 0, .int .i64 0, .int .u8 0, .int .u8 0, .int .u8 0, .int .u8 0, .int .u8 0, .int .u8 0, .int .u8 0, .int .u8 0, .int .u8 0, .int .u8 0, .int .u8 0, .int .u8 0, .int .u8 0, .int .u8 0, .int .u8 0, .int .u8 0, .int .u8 0, .int .u8 0, .int .u8 0, .int .u8 0, .int .u8 0, .int .u8 0, .int .u8 0, .int .u8 0, .int .u8 0, .int .u8 0, .int .u8 0, .int .u8 0, .int .u8 0, .int .u8 0, .int .u8 0, .int .u8 0, .string ⟨#[]⟩] t)) w.heap.size i0 t := Has.new i0 t
theorem i0_size : i0.size = 36 := rfl
section
variable {w : World} {ops : Array Oper} {rest : List Oper} {o : Oper} {a : Act} {Q : Exit → Act → World → Prop}
end
/-- items lie where a slice says -/
def ItemsAt (w : World) (a : Option Addr) (its : List It) : Prop :=
  0 < its.length → ∃ ab ao, a = some ⟨ab, ao, none⟩ ∧ ∀ i (hi : i < its.length), its[i].ok ∧ w.rangeAt ab (ao + i * 36) (itemC its[i])
theorem range_block {w : World} {b o : Nat} {cs : List Value} (h : w.rangeAt b o cs) (h0 : 0 < cs.length) : b < w.heap.size := block_lt_of_cell (h 0 (cs[0]'h0) (List.getElem?_eq_getElem h0))
theorem range_below {w w' : World} {b o : Nat} {cs : List Value} (h : w.rangeAt b o cs) (hb : Below w.heap.size w w') (h0 : 0 < cs.length) : w'.rangeAt b o cs := fun j u hu => by
  have hlt := range_block h h0
  exact (hb.cell (p := ⟨b, o + j, none⟩) hlt).trans (h j u hu)
theorem ItemsAt.below {w w' : World} {a : Option Addr} {its : List It} (h : ItemsAt w a its) (hb : Below w.heap.size w w') : ItemsAt w' a its := fun h0 => by
  obtain ⟨ab, ao, ha, hc⟩ := h h0
  exact ⟨ab, ao, ha, fun i hi => ⟨(hc i hi).1, range_below (hc i hi).2 hb (by rw [itemC_length (hc i hi).1.1]; omega)⟩⟩
/-! ### great -/
def total (its : List It) : Nat := (its.map (·.text.size)).sum
theorem total_next (its : List It) (k : Nat) (hk : k < its.length) : total (its.take (k + 1)) = total (its.take k) + its[k].text.size := by
  unfold total
  rw [List.take_succ_eq_append_getElem hk, List.map_append, List.sum_append]
  simp
theorem total_le (its : List It) (k : Nat) : total (its.take k) ≤ total its := by
  unfold total
  conv => rhs; rw [← List.take_append_drop k its, List.map_append, List.sum_append]
  omega
def greatB (its : List It) : Bool := decide (4096 < total its) || decide (40 < its.length)
end Go.Proofs.YtcgnohndfedodaaDoor
/-
  Layer 5's laws: put: what a script's items come to.
-/
namespace Go.Proofs.YtcgnohndfedodaaDoor
open Go.RowKit Mem Sc
/-- what an item's bytes are -/
def encI (x : It) : List UInt8 :=
  if x.kind = 0 then num (near x.size 8) x.n ++ num (near x.size 8) x.n else if x.kind = 1 then cnt x.n else if x.kind = 2 then x.name else if x.kind = 3 then x.text.data.toList else []
def encL (its : List It) : List UInt8 := its.flatMap encI
theorem encL_next (its : List It) (k : Nat) (hk : k < its.length) : encL (its.take (k + 1)) = encL (its.take k) ++ encI its[k] := by
  unfold encL
  rw [List.take_succ_eq_append_getElem hk, List.flatMap_append]
  simp
theorem encI_le (x : It) (h : x.name.length = 32) : (encI x).length ≤ 32 + x.text.size := by
  have h1 := (near_le x.size 8 (by omega)).2
  have h2 := (cnt_length x.n).2
  unfold encI
  split
  · rw [List.length_append, num_length]; omega
  · split
    · omega
    · split
      · omega
      · split
        · rw [← Lib.size_eq]; omega
        · simp
theorem encL_le (its : List It) (h : ∀ x ∈ its, x.name.length = 32) : (encL its).length ≤ 32 * its.length + total its := by
  unfold encL total
  induction its with
  | nil => simp
  | cons x its ih =>
    have h1 := encI_le x (h x (by simp))
    have h2 := ih (fun y hy => h y (by simp [hy]))
    simp only [List.flatMap_cons, List.length_append, List.map_cons, List.sum_cons, List.length_cons]
    omega
/-- two numbers are put -/
theorem put2_at (b : Nat) (v : Value) (l : List UInt8) (size : Int) (x : Int) (w : World) (H : Nat) (hH : w.heap.size = H) (h : PenAt w b v l) (hsz : l.length ≤ 70368744177600) :
    Calls Tryd.prog 53 #[.pointer (some ⟨b, 0, none⟩), .int .i64 size, .slice (some ⟨H, 0, none⟩) 2 2] (w.alloc (.cells #[.int .i64 x, .int .i64 x] 3)) fun r w' => PenPost w b v (l ++ (num (near size 8) x ++ num (near size 8) x)) r w' := by
  subst hH
  have hb : Below w.heap.size w (w.alloc (.cells #[.int .i64 x, .int .i64 x] 3)) := (Below.refl _ _).alloc (Nat.le_refl _) _
  refine (put_at b v l size _ [x, x] 2 2 rfl _ (h.below hb) (IntsAt.new w h _ [x, x] _ rfl) (by omega)).mono ?_
  rintro r w' ⟨v', rfl, hP, hS⟩
  have e : nums (near size 8) [x, x] = num (near size 8) x ++ num (near size 8) x := by simp [nums]
  rw [e] at hP
  exact ⟨v', rfl, hP, hS.below hb⟩
/-- one name is put -/
theorem pname1_at (b : Nat) (v : Value) (l : List UInt8) (x : List UInt8) (hx : x.length = 32) (w : World) (H : Nat) (hH : w.heap.size = H) (h : PenAt w b v l) (hsz : l.length ≤ 70368744177600) :
    Calls Tryd.prog 54 #[.pointer (some ⟨b, 0, none⟩), .slice (some ⟨H, 0, none⟩) 1 1] (w.alloc (.cells (bytesV x) 35)) fun r w' => PenPost w b v (l ++ x) r w' := by
  subst hH
  have hlt := h.lt
  have hb : Below w.heap.size w (w.alloc (.cells (bytesV x) 35)) := (Below.refl _ _).alloc (Nat.le_refl _) _
  refine (pnames_at b v l _ [x] 1 1 rfl _ (h.below hb) (fun _ => ⟨w.heap.size, 0, rfl, by rw [World.size_alloc]; omega, fun i hi => ?_⟩) (fun _ p hp => ?_) (fun y hy => by simp at hy; subst hy; exact hx) (by omega)).mono ?_
  · obtain rfl : i = 0 := by simpa using hi
    refine ⟨hx, fun j u hu => ?_⟩
    have := news_bytes w x 35 j u hu
    rw [Addr.add_mid] at this
    simpa using this
  · obtain rfl := Option.some.inj hp
    exact ⟨by show w.heap.size ≠ b; omega, fun e => absurd (h.ownLt (k := w.heap.size) e).2 (by omega)⟩
  · rintro r w' ⟨v', rfl, hP, hS⟩
    have e : [x].flatten = x := by simp
    rw [e] at hP
    exact ⟨v', rfl, hP, hS.below hb⟩
structure PutS (w wr : World) (P : Nat) (v : Value) (l : List UInt8) : Prop where
  below : Below w.heap.size w wr
  pen : PenAt wr P v l
end Go.Proofs.YtcgnohndfedodaaDoor
/-
  Plain mathematics: what is put is read again.
-/
namespace Go.Proofs.YtcgnohndfedodaaDoor
open Go.RowKit Mem Sc
theorem cnt_head (n : Int) (hn : n < 253) : ∃ b : UInt8, cnt n = [b] ∧ b.toNat = (max n 0).toNat := by
  rw [cnt_low n hn]
  refine ⟨byteU (u64 (max n 0)) 0, rfl, ?_⟩
  rw [byteU_toNat]
  unfold u64
  omega
theorem many_read (b : UInt8) (k : Nat) (hb : szOf b = k) (hk0 : k ≠ 0) (n : Int) (hn0 : 0 ≤ n) (hn : n < 9223372036854775808) (hk : n < (256 ^ k : Nat)) (hl : least b ≤ n.toNat) (r : List UInt8) (most : Int) (hm : n ≤ most) :
    counted (b :: (num k n ++ r)) most = (n.toNat, 1 + k) := by
  have ht : told b (num k n ++ r) = n.toNat := by
    rw [told_many hb hk0, List.take_left' (num_length k n), val_num, Nat.mod_eq_of_lt]
    · unfold u64; omega
    · unfold u64; omega
  rw [counted_yes (by rw [hb, List.length_append, num_length]; omega) (by rw [ht]; omega) (by rw [ht]; exact hl) (by rw [ht]; omega), ht, hb]
theorem cnt_read (n : Int) (hn : n < 9223372036854775808) (r : List UInt8) (most : Int) (hm : max n 0 ≤ most) : counted (cnt n ++ r) most = ((max n 0).toNat, (cnt n).length) := by
  by_cases h1 : n < 253
  · obtain ⟨b, hb, hv⟩ := cnt_head n h1
    have h0 := szOf_other (b := b) (by rw [hv]; omega)
    have e1 := told_few h0 r
    rw [hb, List.cons_append, List.nil_append, counted_yes (by omega) (by omega) (by rw [least_few (by rw [hv]; omega)]; omega) (by rw [e1, hv]; omega), h0, e1, hv]
    rfl
  · have hmax : max n 0 = n := by omega
    rw [hmax] at hm ⊢
    by_cases h2 : n ≤ 65535
    · rw [cnt_2 n (by omega) h2]
      exact many_read 253 2 rfl (by omega) n (by omega) hn (by show n < ((65536 : Nat) : Int); omega) (by show 253 ≤ _; omega) r most hm
    · by_cases h3 : n ≤ 4294967295
      · rw [cnt_4 n (by omega) h3]
        exact many_read 254 4 rfl (by omega) n (by omega) hn (by show n < ((4294967296 : Nat) : Int); omega) (by show 65536 ≤ _; omega) r most hm
      · rw [cnt_8 n (by omega)]
        exact many_read 255 8 rfl (by omega) n (by omega) hn (by show n < ((18446744073709551616 : Nat) : Int); omega) (by show 4294967296 ≤ _; omega) r most hm
theorem txt_drop (a r : List UInt8) (k : Nat) (hk : a.length = k) : (txt (a ++ r)).extract k (txt (a ++ r)).size = txt r := by
  apply ba_ext
  rw [Lib.extract_to_end, txt_list, txt_list]
  exact List.drop_left' hk
theorem txt_take (a r : List UInt8) (k : Nat) (hk : a.length = k) : (txt (a ++ r)).extract 0 k = txt a := by
  apply ba_ext
  rw [Lib.extract_data, txt_list, txt_list]
  exact List.take_left' hk
theorem raw_txt (a r : List UInt8) (n : Int) (hn : n = (a.length : Nat)) : Ey.raw ⟨txt (a ++ r), false⟩ n = (txt a, ⟨txt r, false⟩) := by
  subst hn
  rw [raw_yes rfl (by show a.length ≤ (txt (a ++ r)).size; rw [txt_size, List.length_append]; omega)]
  show ((txt (a ++ r)).extract 0 a.length, (⟨(txt (a ++ r)).extract a.length (txt (a ++ r)).size, false⟩ : Ey)) = _
  rw [txt_take _ _ _ rfl, txt_drop _ _ _ rfl]
theorem count_txt (n : Int) (hn : n < 9223372036854775808) (r : List UInt8) (most : Int) (hm : max n 0 ≤ most) : Ey.count ⟨txt (cnt n ++ r), false⟩ most = ((max n 0).toNat, ⟨txt r, false⟩) := by
  unfold Ey.count
  rw [if_neg (by simp)]
  show behind (txt (cnt n ++ r)) (counted (txt (cnt n ++ r)).data.toList most) = _
  rw [txt_list, cnt_read n hn r most hm]
  unfold behind
  rw [if_neg (by have := (cnt_length n).1; show (cnt n).length ≠ 0; omega)]
  show ((max n 0).toNat, (⟨(txt (cnt n ++ r)).extract (cnt n).length (txt (cnt n ++ r)).size, false⟩ : Ey)) = _
  rw [txt_drop _ _ _ rfl]
theorem get_txt (size n : Int) (h1 : 1 ≤ size) (h7 : size ≤ 7) (r : List UInt8) : Ey.get ⟨txt (num (near size 8) n ++ r), false⟩ size = (val (num (near size 8) n), ⟨txt r, false⟩) := by
  have e : near size 7 = near size 8 := by unfold near; omega
  unfold Ey.get
  rw [e, raw_txt _ _ _ (by rw [num_length])]
  rfl
theorem name_txt (a r : List UInt8) (ha : a.length = 32) : Ey.name ⟨txt (a ++ r), false⟩ = (a, ⟨txt r, false⟩) := by
  unfold Ey.name
  rw [raw_txt a r 32 (by rw [ha]; rfl)]
  show (name32 (txt a).data.toList, _) = _
  rw [txt_list]
  unfold name32
  rw [if_pos ha]
theorem val7 (size n : Int) (h1 : 1 ≤ size) (h7 : size ≤ 7) : val (num (near size 8) n) < 72057594037927936 := by
  have h := val_lt (num (near size 8) n)
  rw [num_length] at h
  have h2 : 256 ^ near size 8 ≤ 256 ^ 7 := Nat.pow_le_pow_right (by omega) (by unfold near; omega)
  omega
theorem counted_none (l : List UInt8) (most : Int) : (counted l most).2 = 0 → (counted l most).1 = 0 := by
  cases l with
  | nil => intro _; rfl
  | cons b r =>
    rw [counted_cons]
    split
    · intro _; rfl
    · split
      · intro _; rfl
      · split
        · intro _; rfl
        · intro h
          have : 1 + szOf b = 0 := h
          omega
theorem counted_len (l : List UInt8) (most : Int) : (counted l most).2 ≤ l.length := by
  cases l with
  | nil => exact Nat.le_refl _
  | cons b r =>
    rw [counted_cons]
    split
    · exact Nat.zero_le _
    · split
      · exact Nat.zero_le _
      · split
        · exact Nat.zero_le _
        · show 1 + szOf b ≤ r.length + 1; omega
theorem counted_lt (l : List UInt8) (most : Int) : (counted l most).1 < 9223372036854775808 := by
  cases l with
  | nil => show 0 < 9223372036854775808; decide
  | cons b r =>
    rw [counted_cons]
    split
    · decide
    · split
      · decide
      · split
        · decide
        · show told b r < _; omega
end Go.Proofs.YtcgnohndfedodaaDoor
/-
  Plain mathematics: headers, their bytes, their names, what is read.
-/
namespace Go.Proofs.YtcgnohndfedodaaDoor
open Go.RowKit Mem Sc
structure Hd where
  v : Int
  prev : List UInt8
  root : List UInt8
  time : Int
  bits : Int
  nonce : Int
def Hd.ok (h : Hd) : Prop := h.prev.length = 32 ∧ h.root.length = 32
/-- a header can be -/
def Hd.P (h : Hd) : Prop := -2147483648 ≤ h.v ∧ h.v ≤ 2147483647 ∧ 0 ≤ h.time ∧ h.time ≤ 4294967295 ∧ 0 ≤ h.bits ∧ h.bits ≤ 4294967295 ∧ 0 ≤ h.nonce ∧ h.nonce ≤ 4294967295
instance (h : Hd) : Decidable h.P := by unfold Hd.P; exact inferInstance
def z32 : List UInt8 := List.replicate 32 0
def hdZ : Hd := ⟨0, z32, z32, 0, 0, 0⟩
def Hd.enc (h : Hd) : List UInt8 := num 4 h.v ++ (h.prev ++ (h.root ++ (num 4 h.time ++ (num 4 h.bits ++ num 4 h.nonce))))
/-- what Write puts -/
def Hd.wr (h : Hd) : List UInt8 := if h.P then h.enc else hdZ.enc
def Hd.id (h : Hd) : List UInt8 := if h.P then Sha.sha (Sha.sha h.enc) else z32
def i32 (n : Nat) : Int := if n < 2147483648 then (n : Int) else (n : Int) - 4294967296
theorem z32_length : z32.length = 32 := rfl
theorem hdZ_ok : hdZ.ok := ⟨rfl, rfl⟩
theorem hdZ_P : hdZ.P := by decide
theorem Hd.enc_length {h : Hd} (ho : h.ok) : h.enc.length = 80 := by
  simp only [Hd.enc, List.length_append, num_length, ho.1, ho.2]
theorem Hd.wr_length {h : Hd} (ho : h.ok) : h.wr.length = 80 := by
  unfold Hd.wr
  split
  · exact Hd.enc_length ho
  · exact Hd.enc_length hdZ_ok
theorem Hd.wr_yes {h : Hd} (hp : h.P) : h.wr = h.enc := if_pos hp
theorem Hd.wr_no {h : Hd} (hp : ¬ h.P) : h.wr = hdZ.enc := if_neg hp
theorem Hd.id_yes {h : Hd} (hp : h.P) : h.id = Sha.sha (Sha.sha h.enc) := if_pos hp
theorem Hd.id_no {h : Hd} (hp : ¬ h.P) : h.id = z32 := if_neg hp
/-! ### what is read -/
def Sc.Ey.e1 (e : Ey) : Ey := (e.get 4).2
def Sc.Ey.e2 (e : Ey) : Ey := e.e1.name.2
def Sc.Ey.e3 (e : Ey) : Ey := e.e2.name.2
def Sc.Ey.e4 (e : Ey) : Ey := (e.e3.get 4).2
def Sc.Ey.e5 (e : Ey) : Ey := (e.e4.get 4).2
def Sc.Ey.e6 (e : Ey) : Ey := (e.e5.get 4).2
def Sc.Ey.header (e : Ey) : Hd × Ey := (if e.e6.bad = true then hdZ else ⟨i32 (e.get 4).1, e.e1.name.1, e.e2.name.1, (e.e3.get 4).1, (e.e4.get 4).1, (e.e5.get 4).1⟩, e.e6)
theorem get4_txt (a r : List UInt8) (ha : a.length = 4) : Ey.get ⟨txt (a ++ r), false⟩ 4 = (val a, ⟨txt r, false⟩) := by
  unfold Ey.get
  rw [raw_txt a r _ (by rw [ha]; rfl)]
  rfl
theorem header_txt (a p q b c d r : List UInt8) (ha : a.length = 4) (hp : p.length = 32) (hq : q.length = 32) (hb : b.length = 4) (hc : c.length = 4) (hd : d.length = 4) :
    Ey.header ⟨txt (a ++ (p ++ (q ++ (b ++ (c ++ (d ++ r)))))), false⟩ = (⟨i32 (val a), p, q, (val b : Nat), (val c : Nat), (val d : Nat)⟩, ⟨txt r, false⟩) := by
  unfold Ey.header Ey.e6 Ey.e5 Ey.e4 Ey.e3 Ey.e2 Ey.e1
  rw [get4_txt a _ ha]; simp only
  rw [name_txt p _ hp]; simp only
  rw [name_txt q _ hq]; simp only
  rw [get4_txt b _ hb]; simp only
  rw [get4_txt c _ hc]; simp only
  rw [get4_txt d _ hd]; simp
theorem i32_num {v : Int} (h1 : -2147483648 ≤ v) (h2 : v ≤ 2147483647) : i32 (val (num 4 v)) = v := by
  rw [val_num]
  unfold i32 u64
  split <;> omega
theorem val_num4 {n : Int} (h1 : 0 ≤ n) (h2 : n ≤ 4294967295) : ((val (num 4 n) : Nat) : Int) = n := by
  rw [val_num]; unfold u64; omega
theorem header_enc {h : Hd} (hp : h.P) (ho : h.ok) (r : List UInt8) : Ey.header ⟨txt (h.enc ++ r), false⟩ = (h, ⟨txt r, false⟩) := by
  obtain ⟨p1, p2, p3, p4, p5, p6, p7, p8⟩ := hp
  unfold Hd.enc
  simp only [List.append_assoc]
  rw [header_txt _ _ _ _ _ _ r (num_length _ _) ho.1 ho.2 (num_length _ _) (num_length _ _) (num_length _ _), i32_num p1 p2, val_num4 p3 p4, val_num4 p5 p6, val_num4 p7 p8]
theorem num_val4 {a : List UInt8} (ha : a.length = 4) {n : Int} (hn : u64 n % 4294967296 = val a) : num 4 n = a := by
  refine val_inj _ _ (by rw [num_length, ha]) ?_
  rw [val_num]
  exact hn
theorem val_lt4 {a : List UInt8} (ha : a.length = 4) : val a < 4294967296 := by
  have := val_lt a
  rw [ha] at this
  exact this
theorem read_P (a p q b c d : List UInt8) (ha : a.length = 4) (hb : b.length = 4) (hc : c.length = 4) (hd : d.length = 4) : (⟨i32 (val a), p, q, (val b : Nat), (val c : Nat), (val d : Nat)⟩ : Hd).P := by
  have h1 := val_lt4 ha
  have h2 := val_lt4 hb
  have h3 := val_lt4 hc
  have h4 := val_lt4 hd
  refine ⟨?_, ?_, ?_, ?_, ?_, ?_, ?_, ?_⟩ <;> simp only [i32] <;> (try split) <;> omega
theorem read_enc (a p q b c d : List UInt8) (ha : a.length = 4) (hb : b.length = 4) (hc : c.length = 4) (hd : d.length = 4) : (⟨i32 (val a), p, q, (val b : Nat), (val c : Nat), (val d : Nat)⟩ : Hd).enc = a ++ (p ++ (q ++ (b ++ (c ++ d)))) := by
  have h1 := val_lt4 ha
  have h2 := val_lt4 hb
  have h3 := val_lt4 hc
  have h4 := val_lt4 hd
  unfold Hd.enc
  simp only
  rw [num_val4 ha (by unfold i32 u64; split <;> omega), num_val4 hb (by unfold u64; omega), num_val4 hc (by unfold u64; omega), num_val4 hd (by unfold u64; omega)]
theorem cut_at (l : List UInt8) (k : Nat) : l = l.take k ++ l.drop k := (List.take_append_drop k l).symm
/-- what has 80 bytes, or more, begins with a header's -/
theorem header_long {l : List UInt8} (hl : 80 ≤ l.length) : ∃ (h : Hd) (r : List UInt8), l = h.enc ++ r ∧ h.ok ∧ h.P ∧ Ey.header ⟨txt l, false⟩ = (h, ⟨txt r, false⟩) := by
  obtain ⟨a, l1, rfl, ha⟩ : ∃ a l1, l = a ++ l1 ∧ a.length = 4 := ⟨_, _, cut_at l 4, by rw [List.length_take]; omega⟩
  rw [List.length_append, ha] at hl
  obtain ⟨p, l2, rfl, hp⟩ : ∃ a r, l1 = a ++ r ∧ a.length = 32 := ⟨_, _, cut_at l1 32, by rw [List.length_take]; omega⟩
  rw [List.length_append, hp] at hl
  obtain ⟨q, l3, rfl, hq⟩ : ∃ a r, l2 = a ++ r ∧ a.length = 32 := ⟨_, _, cut_at l2 32, by rw [List.length_take]; omega⟩
  rw [List.length_append, hq] at hl
  obtain ⟨b, l4, rfl, hb⟩ : ∃ a r, l3 = a ++ r ∧ a.length = 4 := ⟨_, _, cut_at l3 4, by rw [List.length_take]; omega⟩
  rw [List.length_append, hb] at hl
  obtain ⟨c, l5, rfl, hc⟩ : ∃ a r, l4 = a ++ r ∧ a.length = 4 := ⟨_, _, cut_at l4 4, by rw [List.length_take]; omega⟩
  rw [List.length_append, hc] at hl
  obtain ⟨d, r, rfl, hd⟩ : ∃ a r, l5 = a ++ r ∧ a.length = 4 := ⟨_, _, cut_at l5 4, by rw [List.length_take]; omega⟩
  exact ⟨⟨i32 (val a), p, q, (val b : Nat), (val c : Nat), (val d : Nat)⟩, r, by rw [read_enc a p q b c d ha hb hc hd]; simp only [List.append_assoc], ⟨hp, hq⟩, read_P a p q b c d ha hb hc hd, header_txt a p q b c d r ha hp hq hb hc hd⟩
theorem raw_step {e : Ey} {k : Nat} (h : (e.raw k).2.bad = false) : e.bad = false ∧ (e.raw k).2.s.size + k = e.s.size := by
  unfold Ey.raw at *
  split at h
  · rename_i hb; rw [hb] at h; cases h
  · rename_i hb
    rw [if_neg hb]
    split at h
    · cases h
    · rename_i hn
      rw [if_neg hn]
      refine ⟨by simpa using hb, ?_⟩
      simp only [ByteArray.size_extract, Int.toNat_natCast]
      omega
theorem get_step {e : Ey} (h : (e.get 4).2.bad = false) : e.bad = false ∧ (e.get 4).2.s.size + 4 = e.s.size := raw_step (k := 4) h
theorem name_step {e : Ey} (h : e.name.2.bad = false) : e.bad = false ∧ e.name.2.s.size + 32 = e.s.size := raw_step (k := 32) h
theorem ok_e6 {e : Ey} (h : e.ok) : e.e6.ok := ok_get (ok_get (ok_get (ok_name (ok_name (ok_get h 4))) 4) 4) 4
theorem e6_size {e : Ey} (h : e.e6.bad = false) : e.bad = false ∧ e.e6.s.size + 80 = e.s.size := by
  obtain ⟨h5, s5⟩ := get_step (e := e.e5) h
  obtain ⟨h4, s4⟩ := get_step (e := e.e4) h5
  obtain ⟨h3, s3⟩ := get_step (e := e.e3) h4
  obtain ⟨h2, s2⟩ := name_step (e := e.e2) h3
  obtain ⟨h1, s1⟩ := name_step (e := e.e1) h2
  obtain ⟨h0, s0⟩ := get_step (e := e) h1
  change e.e6.s.size + 4 = e.e5.s.size at s5
  change e.e5.s.size + 4 = e.e4.s.size at s4
  change e.e4.s.size + 4 = e.e3.s.size at s3
  change e.e3.s.size + 32 = e.e2.s.size at s2
  change e.e2.s.size + 32 = e.e1.s.size at s1
  change e.e1.s.size + 4 = e.s.size at s0
  exact ⟨h0, by omega⟩
theorem header_short {s : ByteArray} (h : s.size < 80) : Ey.header ⟨s, false⟩ = (hdZ, dark) := by
  have hb : (Ey.e6 ⟨s, false⟩).bad = true := by
    cases hb : (Ey.e6 ⟨s, false⟩).bad
    · have := (e6_size hb).2
      simp only at this
      omega
    · rfl
  have ho := ok_e6 (e := ⟨s, false⟩) (fun h => by cases h)
  have hs := ho hb
  unfold Ey.header
  rw [if_pos hb]
  generalize Ey.e6 ⟨s, false⟩ = e at *
  obtain ⟨s', b'⟩ := e
  simp only at hb hs
  rw [hb, hs]; rfl
theorem enc_inj {a b : Hd} (ha : a.P) (hb : b.P) (oa : a.ok) (ob : b.ok) (h : a.enc = b.enc) : a = b := by
  have h1 := header_enc ha oa []
  have h2 := header_enc hb ob []
  rw [h, h2] at h1
  exact (congrArg Prod.fst h1).symm
end Go.Proofs.YtcgnohndfedodaaDoor
/-
  Names in memory: loads in a region that draws its order; two names are compared; a slice of names that is owned.
-/
namespace Go.Proofs.YtcgnohndfedodaaDoor
open Go.RowKit Mem Sc
theorem quiet_hl_mid {C : World → Prop} {a : Act} {o : Oper} {K : Act → Prop} (x : Operand) (ho : o.op = .load 35 x) (g off : Nat) (hx : a.eval x = .pointer (some ⟨g, off, none⟩)) (l : List UInt8) (hs : (Lib.byteCells l).length = 32) (hC : ∀ w', C w' → w'.rangeAt g off (Lib.byteCells l))
    (hk : K (a.put o.dst (.agg (bytesV l)))) : o.quiet Tryd.prog a C K :=
  ⟨_, fun w' hw' => by
    unfold Oper.quietAt
    have this : (execOp a.eval o).run Tryd.prog w' = .ok (.value (.agg (bytesV l))) w' := by
      unfold execOp
      simp only [ho, hx, Sem.run_bind, run_loadAt_mid w' g off 35 (Lib.byteCells l) _ (hC w' hw') Tryd.underlying35 rfl (hinfo.trans (by rw [hs])), Result.andThen_ok]
      rfl
    rw [this]
    exact ⟨rfl, rfl⟩, hk⟩
theorem range_cls {w : World} {g off : Nat} {cs : List Value} (h : w.rangeAt g off cs) (h0 : 0 < cs.length) : ∀ w', (∃ p : Regrown, w' = Sort.grow (redrawn w p.d) p.os) → w'.rangeAt g off cs := by
  rintro w' ⟨p, rfl⟩
  exact range_below h (below_regrown _ _ _) h0
theorem hsize1 : ∀ w, (sizeOf 5).run Tryd.prog w = .ok 1 w := fun _ => by kernel_rfl
theorem hplain : Tryd.prog.eqGuardType Tryd.prog.depth 35 = false := by kernel_rfl
theorem hneq_self (l : List UInt8) (h : l.length = 32) (w : World) : (binOp .neq 35 (.agg (bytesV l)) (.agg (bytesV l))).run Tryd.prog w = .ok (.bool false) w := by
  have e : (binOp .neq 35 (.agg (bytesV l)) (.agg (bytesV l))).run Tryd.prog w = .ok (.bool (!(l == l))) w := by
    rw [run_neq_struct]
    have this : (Op.equalIn 10000 35 (.agg (bytesV l)) (.agg (bytesV l))).run Tryd.prog w = .ok (l == l) w :=
      run_equalIn_bytes (P := Tryd.prog) w 9998 35 5 32 Tryd.underlying35 Tryd.underlying5 hsize1 l l h h
    rw [this]
    rfl
  rw [e]; simp
theorem heql_self (l : List UInt8) (h : l.length = 32) (w : World) : (binOp .eql 35 (.agg (bytesV l)) (.agg (bytesV l))).run Tryd.prog w = .ok (.bool true) w := by
  have e : (binOp .eql 35 (.agg (bytesV l)) (.agg (bytesV l))).run Tryd.prog w = .ok (.bool (l == l)) w := run_eql_bytes w 35 5 32 Tryd.underlying35 Tryd.underlying5 hsize1 l l h h
  rw [e]; simp
/-- two names are compared in a region that draws its order -/
theorem quiet_hneq {C : World → Prop} {a : Act} {o : Oper} {K : Act → Prop} (t' : TypeId) (x y : Operand) (ho : o.op = .binOp .neq 35 x y t') (xs ys : Array Value) (v : Value) (hx : a.eval x = .agg xs) (hy : a.eval y = .agg ys)
    (hq : ∀ w, (binOp .neq 35 (.agg xs) (.agg ys)).run Tryd.prog w = .ok v w) (hk : K (a.put o.dst v)) : o.quiet Tryd.prog a C K :=
  ⟨_, fun w' hw' => by
    unfold Oper.quietAt
    have this : (execOp a.eval o).run Tryd.prog w' = .ok (.value v) w' := by
      unfold execOp
      simp only [ho, hx, hy, Sem.run_bind, Sem.run_pure, run_eqGuard_agg w' .neq 35 x y xs ys hplain, Result.andThen_ok, hq]
    rw [this]
    exact ⟨rfl, rfl⟩, hk⟩
theorem flat_get (ls : List (List UInt8)) (h : ∀ x ∈ ls, x.length = 32) (i j : Nat) (hi : i < ls.length) (hj : j < 32) : (namesC ls)[i * 32 + j]? = (Lib.byteCells ls[i])[j]? := by
  induction ls generalizing i with
  | nil => simp at hi
  | cons x ls ih =>
    have hx : (Lib.byteCells x).length = 32 := by rw [Lib.byteCells_length]; exact h x (by simp)
    show (Lib.byteCells x ++ namesC ls)[i * 32 + j]? = _
    cases i with
    | zero => rw [List.getElem?_append_left (by omega)]; simp
    | succ i =>
      rw [List.getElem?_append_right (by omega), hx, show (i + 1) * 32 + j - 32 = i * 32 + j by omega, ih (fun y hy => h y (by simp [hy])) i (by simpa using hi)]
      rfl
/-- a slice of names that is owned -/
theorem owns_names {w : World} {base : Nat} {v : Value} {n : Nat} {ls : List (List UInt8)} (h : w.ownsRow base 35 32 v n (namesC ls)) (hn : n = ls.length) (h32 : ∀ x ∈ ls, x.length = 32) :
    ∃ a c, v = .slice a n c ∧ NamesAt w a ls := by
  rcases h.2 with ⟨rfl, rfl⟩ | ⟨g, cap, cur, rfl, hb, hg, hc, hm, hcs, ht⟩
  · exact ⟨none, 0, rfl, fun h0 => by omega⟩
  · refine ⟨_, _, rfl, fun h0 => ⟨g, 0, rfl, Has.lt hg, fun i hi => ⟨h32 _ (List.getElem_mem hi), fun j u hu => ?_⟩⟩⟩
    have hj : j < 32 := by
      have := (List.getElem?_eq_some_iff.1 hu).1
      rw [Lib.byteCells_length, h32 _ (List.getElem_mem hi)] at this; exact this
    rw [Has.cell hg, Nat.zero_add, ← hu, ← flat_get ls h32 i j hi hj, ← ht, List.getElem?_take_of_lt (by omega), Array.getElem?_toList]
theorem NamesAt.below {w w' : World} {a : Option Addr} {ls : List (List UInt8)} (h : NamesAt w a ls) (hb : Below w.heap.size w w') : NamesAt w' a ls := fun h0 => by
  obtain ⟨ab, ao, ha, hl, hc⟩ := h h0
  exact ⟨ab, ao, ha, by have := hb.size; omega, fun i hi => ⟨(hc i hi).1, range_below (hc i hi).2 hb (by rw [Lib.byteCells_length, (hc i hi).1]; omega)⟩⟩
theorem flatten_size (ls : List (List UInt8)) (h : ∀ x ∈ ls, x.length = 32) : ls.flatten.length = 32 * ls.length := by
  induction ls with
  | nil => rfl
  | cons x ls ih =>
    rw [List.flatten_cons, List.length_append, ih (fun y hy => h y (by simp [hy])), h x (by simp), List.length_cons]; omega
theorem nameTo_txt (ls : List (List UInt8)) (h : ∀ x ∈ ls, x.length = 32) (r : List UInt8) (k : Nat) (hk : k ≤ ls.length) : Ey.nameTo ⟨txt (ls.flatten ++ r), false⟩ k = (ls.take k, ⟨txt ((ls.drop k).flatten ++ r), false⟩) := by
  induction k with
  | zero => rfl
  | succ k ih =>
    have hkl : k < ls.length := hk
    show ((Ey.nameTo _ k).1 ++ [(Ey.nameTo _ k).2.name.1], (Ey.nameTo _ k).2.name.2) = _
    rw [ih (by omega)]
    show (ls.take k ++ [(Ey.name ⟨txt ((ls.drop k).flatten ++ r), false⟩).1], (Ey.name ⟨txt ((ls.drop k).flatten ++ r), false⟩).2) = _
    rw [List.drop_eq_getElem_cons hkl, List.flatten_cons, List.append_assoc, name_txt _ _ (h _ (List.getElem_mem hkl)), List.take_succ_eq_append_getElem hkl]
theorem names_txt (ls : List (List UInt8)) (h : ∀ x ∈ ls, x.length = 32) : Ey.names ⟨txt ls.flatten, false⟩ (ls.length : Nat) = (ls, ⟨txt [], false⟩) := by
  have hsz : (txt ls.flatten).size = 32 * ls.length := by rw [txt_size, flatten_size ls h]
  unfold Ey.names
  rw [if_neg (by show ¬ ((txt ls.flatten).size : Int) / 32 < _; omega), Int.toNat_natCast]
  have := nameTo_txt ls h [] ls.length (Nat.le_refl _)
  rw [List.append_nil, List.take_length, List.drop_length] at this
  exact this
theorem names_more (ls : List (List UInt8)) (h : ∀ x ∈ ls, x.length = 32) (m : Int) (hm : 0 < m) : Ey.names ⟨txt ls.flatten, false⟩ ((ls.length : Nat) + m) = ([], dark) := by
  have hsz : (txt ls.flatten).size = 32 * ls.length := by rw [txt_size, flatten_size ls h]
  unfold Ey.names
  rw [if_pos (by show ((txt ls.flatten).size : Int) / 32 < _; omega)]
end Go.Proofs.YtcgnohndfedodaaDoor
/-
  Headers in memory: blocks that hold one, loads and stores, parts of it.
-/
namespace Go.Proofs.YtcgnohndfedodaaDoor
open Go.RowKit Mem Sc
def hdC (h : Hd) : List Value := .int .i64 h.v :: (Lib.byteCells h.prev ++ (Lib.byteCells h.root ++ [.int .i64 h.time, .int .i64 h.bits, .int .i64 h.nonce]))
def hdA (h : Hd) : Array Value := (hdC h).toArray
theorem hdC_length {h : Hd} (ho : h.ok) : (hdC h).length = 68 := by simp [hdC, Lib.byteCells_length, ho.1, ho.2]
theorem hdA_size {h : Hd} (ho : h.ok) : (hdA h).size = 68 := by show (hdC h).toArray.size = 68; rw [List.size_toArray]; exact hdC_length ho
theorem hdC_one (h : Hd) : ∀ v ∈ hdC h, v.oneCell' = true := by
  intro v hv
  simp only [hdC, List.mem_cons, List.mem_append] at hv
  rcases hv with rfl | hv | hv | hv
  · rfl
  · exact Lib.byteCells_one _ v hv
  · exact Lib.byteCells_one _ v hv
  · simp at hv
    rcases hv with rfl | rfl | rfl <;> rfl
theorem hdA_one (h : Hd) : (hdA h).all (·.oneCell') = true := all_oneCell_toArray (hdC_one h)
theorem hdinfo : (Tryd.prog.info? 37).map (·.size) = some 68 := by kernel_rfl
theorem hdA_lit : hdA hdZ = #[.int .i64 0, .int .u8 0, .int .u8 0, .int .u8 0, .int .u8 0, .int .u8 0, .int .u8 0, .int .u8 0, .int .u8 0, .int .u8 0, .int .u8 0, .int .u8 0, .int .u8 0, .int .u8 0, .int .u8 0, .int .u8 0, .int .u8 0, .int .u8 0, .int .u8 0, .int .u8 0, .int .u8 0, .int .u8 0, .int .u8 0, .int .u8 0, .int .u8 0, .int .u8 0, .int .u8 0, .int .u8 0, .int .u8 0, .int .u8 0, .int .u8 0, .int .u8 0, .int .u8 0, .int .u8 0, .int .u8 0, .int .u8 0, .int .u8 0, .int .u8 0, .int .u8 0, .int .u8 0, .int .u8 0, .int .u8 0, .int .u8 0, .int .u8 0, .int .u8 0, .int .u8 0, .int .u8 0, .int .u8 0, .int .u8 0, .int .u8 0, .int .u8 0, .int .u8 0, .int .u8 0, .int .u8 0, .int .u8 0, .int .u8 0, .int .u8 0, .int .u8 0, .int .u8 0, .int .u8 0, .int .u8 0, .int .u8 0, .int .u8 0, .int .u8 0, .int .u8 0, .int .i64 0, .int .i64 0, .int .i64 0] := rfl
/-- a block that holds a header -/
def HdAt (w : World) (k : Nat) (h : Hd) : Prop := Has w k (hdA h) 37
variable {w w' : World} {k : Nat} {h : Hd}
theorem HdAt.lt (hh : HdAt w k h) : k < w.heap.size := Has.lt hh
theorem HdAt.on (hh : HdAt w k h) (hb : Below w.heap.size w w') : HdAt w' k h := below_has hb hh hh.lt
theorem HdAt.grown {r : Option Nat} (hh : HdAt w k h) (hg : w.grownBy w' r) (hn : some k ≠ r) : HdAt w' k h := gb_has hg hh hn
theorem HdAt.pen {b : Nat} {v v' : Value} (hh : HdAt w k h) (hs : PenStep w w' b v v') (hb : k ≠ b) (hv : v.ownBlock ≠ some k) : HdAt w' k h := hs.has hh hb hv
theorem HdAt.free (hh : HdAt w k h) (j : Nat) : w.frozen? ⟨k, j, none⟩ = false := Has.free hh j
theorem HdAt.v (hh : HdAt w k h) : w.cell? ⟨k, 0, none⟩ = some (.int .i64 h.v) := Has.cell hh 0
theorem byteCells_32 {l : List UInt8} (hl : l.length = 32) : (Lib.byteCells l).length = 32 := by rw [Lib.byteCells_length, hl]
theorem hdC_prev (j : Nat) (u : Value) (hu : (Lib.byteCells h.prev)[j]? = some u) : (hdC h)[1 + j]? = some u := by
  rw [Nat.add_comm]
  show (Lib.byteCells h.prev ++ _)[j]? = some u
  rw [List.getElem?_append_left (List.getElem?_eq_some_iff.1 hu).1]
  exact hu
theorem hdC_root (ho : h.ok) (j : Nat) (u : Value) (hu : (Lib.byteCells h.root)[j]? = some u) : (hdC h)[33 + j]? = some u := by
  rw [show 33 + j = (32 + j) + 1 by omega]
  show (Lib.byteCells h.prev ++ _)[32 + j]? = some u
  rw [List.getElem?_append_right (by rw [byteCells_32 ho.1]; omega), byteCells_32 ho.1, Nat.add_sub_cancel_left, List.getElem?_append_left (List.getElem?_eq_some_iff.1 hu).1]
  exact hu
theorem hdC_tail (ho : h.ok) (j : Nat) : (hdC h)[65 + j]? = [Value.int .i64 h.time, .int .i64 h.bits, .int .i64 h.nonce][j]? := by
  rw [show 65 + j = (64 + j) + 1 by omega]
  show (Lib.byteCells h.prev ++ _)[64 + j]? = _
  rw [List.getElem?_append_right (by rw [byteCells_32 ho.1]; omega), byteCells_32 ho.1, List.getElem?_append_right (by rw [byteCells_32 ho.2]; omega), byteCells_32 ho.2, show 64 + j - 32 - 32 = j by omega]
theorem HdAt.prev (hh : HdAt w k h) : w.rangeAt k 1 (Lib.byteCells h.prev) := fun j u hu => by
  rw [Has.cell hh (1 + j)]
  show (hdC h).toArray[1 + j]? = some u
  rw [List.getElem?_toArray]
  exact hdC_prev j u hu
theorem HdAt.root (hh : HdAt w k h) (ho : h.ok) : w.rangeAt k 33 (Lib.byteCells h.root) := fun j u hu => by
  rw [Has.cell hh (33 + j)]
  show (hdC h).toArray[33 + j]? = some u
  rw [List.getElem?_toArray]
  exact hdC_root ho j u hu
theorem HdAt.time (hh : HdAt w k h) (ho : h.ok) : w.cell? ⟨k, 65, none⟩ = some (.int .i64 h.time) := by
  rw [Has.cell hh 65]
  show (hdC h).toArray[65]? = _
  rw [List.getElem?_toArray]
  exact hdC_tail ho 0
theorem HdAt.bits (hh : HdAt w k h) (ho : h.ok) : w.cell? ⟨k, 66, none⟩ = some (.int .i64 h.bits) := by
  rw [Has.cell hh 66]
  show (hdC h).toArray[66]? = _
  rw [List.getElem?_toArray]
  exact hdC_tail ho 1
theorem HdAt.nonce (hh : HdAt w k h) (ho : h.ok) : w.cell? ⟨k, 67, none⟩ = some (.int .i64 h.nonce) := by
  rw [Has.cell hh 67]
  show (hdC h).toArray[67]? = _
  rw [List.getElem?_toArray]
  exact hdC_tail ho 2
/-! ### one part is stored -/
theorem hdA_setV (x : Int) : (hdA h).setIfInBounds 0 (.int .i64 x) = hdA { h with v := x } := by simp [hdA, hdC]
theorem hdC_setTail (ho : h.ok) (j : Nat) (u : Value) : (hdC h).set (65 + j) u = .int .i64 h.v :: (Lib.byteCells h.prev ++ (Lib.byteCells h.root ++ [Value.int .i64 h.time, .int .i64 h.bits, .int .i64 h.nonce].set j u)) := by
  rw [show 65 + j = (64 + j) + 1 by omega]
  show Value.int .i64 h.v :: (Lib.byteCells h.prev ++ _).set (64 + j) u = _
  rw [List.set_append_right _ _ (by rw [byteCells_32 ho.1]; omega), byteCells_32 ho.1, List.set_append_right _ _ (by rw [byteCells_32 ho.2]; omega), byteCells_32 ho.2, show 64 + j - 32 - 32 = j by omega]
theorem hdA_setTime (ho : h.ok) (x : Int) : (hdA h).setIfInBounds 65 (.int .i64 x) = hdA { h with time := x } := by
  unfold hdA
  rw [List.setIfInBounds_toArray, hdC_setTail ho 0]; rfl
theorem hdA_setBits (ho : h.ok) (x : Int) : (hdA h).setIfInBounds 66 (.int .i64 x) = hdA { h with bits := x } := by
  unfold hdA
  rw [List.setIfInBounds_toArray, hdC_setTail ho 1]; rfl
theorem hdA_setNonce (ho : h.ok) (x : Int) : (hdA h).setIfInBounds 67 (.int .i64 x) = hdA { h with nonce := x } := by
  unfold hdA
  rw [List.setIfInBounds_toArray, hdC_setTail ho 2]; rfl
theorem HdAt.setV (hh : HdAt w k h) (x : Int) : HdAt (w.setCell ⟨k, 0, none⟩ (.int .i64 x)) k { h with v := x } := by
  unfold HdAt; rw [← hdA_setV]; exact Has.set hh _
theorem HdAt.setTime (hh : HdAt w k h) (ho : h.ok) (x : Int) : HdAt (w.setCell ⟨k, 65, none⟩ (.int .i64 x)) k { h with time := x } := by
  unfold HdAt; rw [← hdA_setTime ho]; exact Has.set hh _
theorem HdAt.setBits (hh : HdAt w k h) (ho : h.ok) (x : Int) : HdAt (w.setCell ⟨k, 66, none⟩ (.int .i64 x)) k { h with bits := x } := by
  unfold HdAt; rw [← hdA_setBits ho]; exact Has.set hh _
theorem HdAt.setNonce (hh : HdAt w k h) (ho : h.ok) (x : Int) : HdAt (w.setCell ⟨k, 67, none⟩ (.int .i64 x)) k { h with nonce := x } := by
  unfold HdAt; rw [← hdA_setNonce ho]; exact Has.set hh _
/-- cells of a block are stored, one behind the other -/
theorem has_setCells (b : Nat) (t : TypeId) : ∀ (vs : List Value) (o : Nat) (w : World) (A B C : List Value), Has w b (A ++ (B ++ C)).toArray t → A.length = o → B.length = vs.length → Has (w.setCells b o vs) b (A ++ (vs ++ C)).toArray t
  | [], o, w, A, B, C, hh, ha, hb => by
    obtain rfl : B = [] := List.eq_nil_of_length_eq_zero hb
    exact hh
  | v :: r, o, w, A, B, C, hh, ha, hb => by
    obtain ⟨x, B', rfl⟩ : ∃ x B', B = x :: B' := by
      cases B with
      | nil => simp at hb
      | cons x B' => exact ⟨x, B', rfl⟩
    have h1 := Has.set (i := o) hh v
    have e : (A ++ (x :: B' ++ C)).toArray.setIfInBounds o v = (A ++ [v] ++ (B' ++ C)).toArray := by
      rw [List.setIfInBounds_toArray, List.set_append_right _ _ (by omega), show o - A.length = 0 by omega]
      simp
    rw [e] at h1
    have := has_setCells b t r (o + 1) _ (A ++ [v]) B' C h1 (by simp [ha]) (by simpa using hb)
    show Has ((w.setCell ⟨b, o, none⟩ v).setCells b (o + 1) r) b _ t
    simpa using this
theorem setCells_other (b c : Nat) (hc : c ≠ b) : ∀ (vs : List Value) (o : Nat) (w : World), (w.setCells b o vs).heap[c]? = w.heap[c]?
  | [], _, _ => rfl
  | v :: r, o, w => by
    show ((w.setCell ⟨b, o, none⟩ v).setCells b (o + 1) r).heap[c]? = _
    rw [setCells_other b c hc r]
    exact Below.heap_setCell _ _ _ _ hc
theorem setCells_rest (b : Nat) : ∀ (vs : List Value) (o : Nat) (w : World), (w.setCells b o vs).os = w.os ∧ (w.setCells b o vs).tape = w.tape ∧ (w.setCells b o vs).output = w.output ∧ (w.setCells b o vs).heap.size = w.heap.size
  | [], _, _ => ⟨rfl, rfl, rfl, rfl⟩
  | v :: r, o, w => by
    obtain ⟨h1, h2, h3, h4⟩ := setCells_rest b r (o + 1) (w.setCell ⟨b, o, none⟩ v)
    exact ⟨h1, h2, h3, h4.trans (by simp [World.setCell])⟩
theorem gb_setCells {a c : World} {r : Option Nat} (hg : a.grownBy c r) (b o : Nat) (vs : List Value) (hb : a.heap.size ≤ b) : a.grownBy (c.setCells b o vs) r := by
  obtain ⟨h1, h2, h3, h4⟩ := setCells_rest b vs o c
  exact ⟨h1.trans hg.os, h2.trans hg.tape, h3.trans hg.output, by rw [h4]; exact hg.size, fun k hk hn => (setCells_other b k (by omega) vs o c).trans (hg.block k hk hn)⟩
theorem HdAt.setPrev (hh : HdAt w k h) (ho : h.ok) {p : List UInt8} (hp : p.length = 32) : HdAt (w.setCells k 1 (Lib.byteCells p)) k { h with prev := p } := by
  have hh' : Has w k ([Value.int .i64 h.v] ++ (Lib.byteCells h.prev ++ (Lib.byteCells h.root ++ [Value.int .i64 h.time, Value.int .i64 h.bits, Value.int .i64 h.nonce]))).toArray 37 := hh
  exact has_setCells k 37 (Lib.byteCells p) 1 w _ _ _ hh' rfl (by rw [byteCells_32 ho.1, byteCells_32 hp])
theorem HdAt.setRoot (hh : HdAt w k h) (ho : h.ok) {p : List UInt8} (hp : p.length = 32) : HdAt (w.setCells k 33 (Lib.byteCells p)) k { h with root := p } := by
  have hh' : Has w k ((Value.int .i64 h.v :: Lib.byteCells h.prev) ++ (Lib.byteCells h.root ++ [Value.int .i64 h.time, Value.int .i64 h.bits, Value.int .i64 h.nonce])).toArray 37 := hh
  exact has_setCells k 37 (Lib.byteCells p) 33 w _ _ _ hh' (by rw [List.length_cons, byteCells_32 ho.1]) (by rw [byteCells_32 ho.2, byteCells_32 hp])
theorem HdAt.there (hh : HdAt w k h) (ho : h.ok) (o n : Nat) (hn : o + n ≤ 68) : w.there k o n := fun j hj => ⟨by
  rw [Has.cell hh (o + j)]
  have hz := hdA_size ho
  rw [Array.getElem?_eq_getElem (by omega)]
  rfl, hh.free _⟩
section
variable {ops : Array Oper} {rest : List Oper} {o : Oper} {a : Act} {Q : Exit → Act → World → Prop}
theorem hd_load (hgd : o.guard = none) (x : Operand) (ho : o.op = .load 37 x) (g : Nat) (hx : a.eval x = .pointer (some ⟨g, 0, none⟩)) (hg : HdAt w g h) (hs : (hdA h).size = 68)
    (hk : wpList Tryd.prog ops Q rest (a.put o.dst (.agg (hdA h))) w) : wpList Tryd.prog ops Q (o :: rest) a w :=
  wpList_load_row hgd 37 x ho g hx 37 (hdA h) (0, 0) _ (Has.out hg) Tryd.underlying37 rfl (hdinfo.trans (by rw [hs])) hk
theorem hd_load_g (hw : Region.wanted o (yielded ops a.tmps) = true) (x : Operand) (ho : o.op = .load 37 x) (g : Nat) (hx : a.eval x = .pointer (some ⟨g, 0, none⟩)) (hg : HdAt w g h) (hs : (hdA h).size = 68)
    (hk : wpList Tryd.prog ops Q rest (a.put o.dst (.agg (hdA h))) w) : wpList Tryd.prog ops Q (o :: rest) a w :=
  BigFrame.wpList_want hw fun _ hK => wp_load_row 37 x ho g hx 37 (hdA h) (0, 0) _ (Has.out hg) Tryd.underlying37 rfl (hdinfo.trans (by rw [hs])) (hK _ _ hk)
theorem hd_load_mid (hgd : o.guard = none) (x : Operand) (ho : o.op = .load 37 x) (g off : Nat) (hx : a.eval x = .pointer (some ⟨g, off, none⟩)) (h : Hd) (hg : w.rangeAt g off (hdC h)) (hs : (hdC h).length = 68)
    (hk : wpList Tryd.prog ops Q rest (a.put o.dst (.agg (hdA h))) w) : wpList Tryd.prog ops Q (o :: rest) a w :=
  wpList_load_mid hgd 37 x ho g off hx (hdC h) _ hg Tryd.underlying37 rfl (hdinfo.trans (by rw [hs])) hk
theorem hd_store (hgd : o.guard = none) (x y : Operand) (ho : o.op = .store 37 x y) (g : Nat) (cz : Array Value) (h' : Hd) (hx : a.eval x = .pointer (some ⟨g, 0, none⟩)) (hy : a.eval y = .agg cz) (e : cz = hdA h') (hs' : (hdA h').size = 68) (hg : HdAt w g h) (hs : (hdA h).size = 68)
    (hk : wpList Tryd.prog ops Q rest (a.put o.dst undef) (w.setRow g (hdA h'))) : wpList Tryd.prog ops Q (o :: rest) a w := by
  subst e
  exact wpList_store_row hgd 37 x y ho g (hdA h') hx hy 37 (hdA h) (Has.out hg) (hdinfo.trans (by rw [hs'])) (by rw [hs, hs']) (hdA_one h') hk
/-- a name is stored into a part of a header -/
theorem hl_store_mid (hgd : o.guard = none) (x y : Operand) (ho : o.op = .store 35 x y) (g off : Nat) (l : List UInt8) (hx : a.eval x = .pointer (some ⟨g, off, none⟩)) (hy : a.eval y = .agg (bytesV l)) (hl : l.length = 32) (ht : w.there g off 32)
    (hk : wpList Tryd.prog ops Q rest (a.put o.dst undef) (w.setCells g off (Lib.byteCells l))) : wpList Tryd.prog ops Q (o :: rest) a w := by
  refine wpList_store_mid hgd 35 x y ho g off (bytesV l) hx hy (by rw [hv_size hl]; exact ht) (hinfo.trans (by rw [hv_size hl])) (bytesV_one l) ?_
  rw [bytesV_list]
  exact hk
end
theorem hd_results {fn : Func} {p : Tmp} (hf : fn.results = #[.cell p 37]) (tmps : Array Value) (g : Nat) (hp : tmps.getD p undef = .pointer (some ⟨g, 0, none⟩)) (hg : HdAt w g h) (hs : (hdA h).size = 68) :
    (results fn tmps).run Tryd.prog w = .ok (.agg (hdA h)) w :=
  results_cell_row hf tmps w g 37 (hdA h) (0, 0) _ hp (Has.out hg) Tryd.underlying37 rfl (hdinfo.trans (by rw [hs]))
theorem hd_new (w : World) (h : Hd) : HdAt (w.alloc (.cells (hdA h) 37)) w.heap.size h := Has.new _ _
theorem hd_new1 (w : World) (ob : Obj) (h : Hd) : HdAt ((w.alloc ob).alloc (.cells (hdA h) 37)) (w.heap.size + 1) h := Has.new1 ob _ _
/-- a header is loaded whole in a region that draws its order -/
theorem quiet_hd_mid {C : World → Prop} {a : Act} {o : Oper} {K : Act → Prop} (x : Operand) (ho : o.op = .load 37 x) (g off : Nat) (hx : a.eval x = .pointer (some ⟨g, off, none⟩)) (h : Hd) (hs : (hdC h).length = 68) (hC : ∀ w', C w' → w'.rangeAt g off (hdC h))
    (hk : K (a.put o.dst (.agg (hdA h)))) : o.quiet Tryd.prog a C K :=
  ⟨_, fun w' hw' => by
    unfold Oper.quietAt
    have this : (execOp a.eval o).run Tryd.prog w' = .ok (.value (.agg (hdA h))) w' := by
      unfold execOp
      simp only [ho, hx, Sem.run_bind, run_loadAt_mid w' g off 37 (hdC h) _ (hC w' hw') Tryd.underlying37 rfl (hdinfo.trans (by rw [hs])), Result.andThen_ok]
      rfl
    rw [this]
    exact ⟨rfl, rfl⟩, hk⟩
theorem HdAt.range (hh : HdAt w k h) : w.rangeAt k 0 (hdC h) := fun j u hu => by
  rw [Nat.zero_add, Has.cell hh j]
  show (hdC h).toArray[j]? = some u
  rw [List.getElem?_toArray]
  exact hu
end Go.Proofs.YtcgnohndfedodaaDoor
/-
  header: Good, hasRoom; the reference's Good.
-/
namespace Go.Proofs.YtcgnohndfedodaaDoor
open Go.RowKit Mem Sc
theorem room_is (n : Int) (w : World) : Calls Tryd.prog 32 #[.int .i64 n] w fun e w' => e = .returned (.bool (decide (0 ≤ n) && decide (n ≤ 4294967295))) ∧ w = w' := by
  generalize t0 : decide (0 ≤ n) = a
  generalize t1 : decide (n ≤ 4294967295) = b
  go_enter Tryd.func32, Tryd.ntmps32
  cases a
  case' true =>
    cases b
  all_goals
    go_wp2_with fail
    go_ret
    exact ⟨rfl, rfl⟩
set_option maxHeartbeats 2000000 in
theorem good_w (h : Hd) (ho : h.ok) (g0 g1 g2 g3 g4 : Bool) (t0 : decide ((-2147483648 : Int) ≤ h.v) = g0) (t1 : decide (h.v ≤ 2147483647) = g1) (C0 : Hid (∀ w, Calls Tryd.prog 32 #[.int .i64 h.time] w fun e w' => e = .returned (.bool g2) ∧ w = w')) (C1 : Hid (∀ w, Calls Tryd.prog 32 #[.int .i64 h.bits] w fun e w' => e = .returned (.bool g3) ∧ w = w')) (C2 : Hid (∀ w, Calls Tryd.prog 32 #[.int .i64 h.nonce] w fun e w' => e = .returned (.bool g4) ∧ w = w')) (w : World) :
    Calls Tryd.prog 22 #[.agg (hdA h)] w fun e w' => e = .returned (.bool (g0 && g1 && g2 && g3 && g4)) ∧ Below w.heap.size w w' := by
  have hH := hd_new w h
  have hB : Below w.heap.size w (w.alloc (.cells (hdA h) 37)) := (Below.refl _ _).alloc (Nat.le_refl _) _
  have c0 := hH.v
  have c1 := hH.time ho
  have c2 := hH.bits ho
  have c3 := hH.nonce ho
  obtain ⟨v, p, q, t, b, n⟩ := h
  simp only at *
  clear hH ho
  go_enter Tryd.func22, Tryd.ntmps22
  cases g0
  case' true =>
    cases g1
    case' true =>
      go_wp2_with fail
      refine (C0.out _).mono ?_
      rintro e w2 ⟨rfl, rfl⟩
      cases g2
      case' true =>
        go_wp2_with fail
        refine (C1.out _).mono ?_
        rintro e w3 ⟨rfl, rfl⟩
        cases g3
        case' true =>
          go_wp2_with fail
          refine (C2.out _).mono ?_
          rintro e w4 ⟨rfl, rfl⟩
          cases g4
  all_goals
    go_wp2_with fail
    go_ret
    exact ⟨rfl, hB⟩
/-- Good -/
theorem good_at (h : Hd) (ho : h.ok) (w : World) : Calls Tryd.prog 22 #[.agg (hdA h)] w fun e w' => e = .returned (.bool (decide h.P)) ∧ Below w.heap.size w w' := by
  have e : decide h.P = (decide ((-2147483648 : Int) ≤ h.v) && decide (h.v ≤ 2147483647) && (decide (0 ≤ h.time) && decide (h.time ≤ 4294967295)) && (decide (0 ≤ h.bits) && decide (h.bits ≤ 4294967295)) && (decide (0 ≤ h.nonce) && decide (h.nonce ≤ 4294967295))) := by
    rw [Bool.eq_iff_iff]
    simp only [decide_eq_true_eq, Bool.and_eq_true]
    unfold Hd.P
    omega
  rw [e]
  exact good_w h ho _ _ _ _ _ rfl rfl (Lib.hid (room_is h.time)) (Lib.hid (room_is h.bits)) (Lib.hid (room_is h.nonce)) w
end Go.Proofs.YtcgnohndfedodaaDoor
/-
  header: Write.
-/
namespace Go.Proofs.YtcgnohndfedodaaDoor
open Go.RowKit Mem Sc
theorem foldl_size (o : Nat) : ∀ (l : List (Value × Nat)) (b : Array Value), (l.foldl (fun (cs : Array Value) (x : Value × Nat) => match x with | (c, j) => cs.setIfInBounds (o + j) c) b).size = b.size
  | [], _ => rfl
  | x :: l, b => by rw [List.foldl_cons, foldl_size o l]; simp
theorem fill_two (n : Nat) (z xs ys : Array Value) (hz : z.size = 2 * n) (hx : xs.size = n) (hy : ys.size = n) : Instr.fill (fun i => some (i * n, n)) z [(0, .agg xs), (1, .agg ys)] = some (xs ++ ys) := by
  have hsx : (Value.agg xs).cells.size = n := hx
  have hsy : (Value.agg ys).cells.size = n := hy
  unfold Instr.fill
  simp only [hsx, Nat.zero_mul, Nat.zero_add, hz]
  rw [if_neg (by simp; omega)]
  obtain ⟨f1, hf1⟩ : ∃ f1, f1 = (List.foldl (fun (cs : Array Value) (x : Value × Nat) => match x with | (c, j) => cs.setIfInBounds (0 + j) c) z (xs.toList.zipIdx 0)) := ⟨_, rfl⟩
  have e1 : ∀ j, f1[j]? = if j < n then xs[j]? else z[j]? := fun j => by
    have h := foldl_set 0 xs.toList 0 z j
    rw [hf1, h, Array.length_toList, hx, hz]
    by_cases hj : j < n
    · rw [if_pos ⟨by omega, by omega, by omega⟩, if_pos hj]; simp
    · rw [if_neg (by omega), if_neg hj]
  have s1 : f1.size = 2 * n := by rw [hf1, foldl_size, hz]
  have g1 : Array.foldl (fun cs x => cs.setIfInBounds x.snd x.fst) z (Value.agg xs).cells.zipIdx = f1 := by
    rw [hf1, ← Array.foldl_toList, Array.toList_zipIdx]
    simp only [Nat.zero_add]
    rfl
  rw [g1]
  unfold Instr.fill
  simp only [hsy, Nat.one_mul, s1]
  rw [if_neg (by simp; omega)]
  unfold Instr.fill
  congr 1
  apply Array.ext_getElem?
  intro j
  rw [← Array.foldl_toList, Array.toList_zipIdx]
  have h := foldl_set n ys.toList 0 f1 j
  show (List.foldl _ f1 (ys.toList.zipIdx 0))[j]? = _
  refine h.trans ?_
  rw [Array.length_toList, hy, s1, e1, Array.getElem?_append, hx]
  by_cases hj : j < n
  · rw [if_neg (by omega), if_pos hj, if_pos hj]
  · by_cases hj2 : j < 2 * n
    · rw [if_pos (by omega), if_neg hj]; simp
    · rw [if_neg (by omega), if_neg hj, if_neg hj, Array.getElem?_eq_none (by omega), Array.getElem?_eq_none (by omega)]
theorem bytesV_append (x y : List UInt8) : bytesV (x ++ y) = bytesV x ++ bytesV y := by simp [bytesV]
theorem build_name2 (x y : List UInt8) (hx : x.length = 32) (hy : y.length = 32) (w : World) : (Instr.buildSlice 121 2 #[(0, .agg (bytesV x)), (1, .agg (bytesV y))]).run Tryd.prog w = .ok (.slice (some ⟨w.heap.size, 0, none⟩) 2 2) (w.alloc (.cells (bytesV (x ++ y)) 35)) := by
  obtain ⟨i, z, hi, hz, h1, h2, h3⟩ := hash_info
  refine run_buildSlice w 121 35 2 _ (bytesV (x ++ y)) i z Tryd.underlying121 hi hz (by rw [h1]; decide) (by rw [h1]; decide) ?_
  rw [h1, bytesV_append]
  exact fill_two 32 _ _ _ (by simp) (hv_size hx) (hv_size hy)
theorem build_hl2 {ops : Array Oper} {rest : List Oper} {o : Oper} {a : Act} {w : World} {Q : Exit → Act → World → Prop} (hgd : o.guard = none) (p q : Operand) (ho : o.op = .buildSlice 121 2 #[(0, p), (1, q)]) (x y : List UInt8) (hp : a.eval p = .agg (bytesV x)) (hq : a.eval q = .agg (bytesV y)) (hx : x.length = 32) (hy : y.length = 32)
    (h : wpList Tryd.prog ops Q rest (a.put o.dst (.slice (some ⟨w.heap.size, 0, none⟩) 2 2)) (w.alloc (.cells (bytesV (x ++ y)) 35))) : wpList Tryd.prog ops Q (o :: rest) a w :=
  wpList_plain hgd fun _ hK => by
    unfold Oper.wp execOp
    simp only [ho, Sem.run_bind]
    rw [show (#[(0, p), (1, q)] : Array (Nat × Operand)).map (fun (i, x) => (i, a.eval x)) = #[(0, .agg (bytesV x)), (1, .agg (bytesV y))] by simp [hp, hq]]
    rw [build_name2 x y hx hy w]
    exact hK _ _ h
/-- another block of the same world is stored into -/
theorem PenAt.row_other {w : World} {b k : Nat} {v : Value} {l : List UInt8} (h : PenAt w b v l) (hk : k ≠ b) (hv : v.ownBlock ≠ some k) (cs : Array Value) : PenAt (w.setRow k cs) b v l :=
  ⟨Has.otherRow h.cell k cs (Ne.symm hk), h.own.kept (row := some k) ⟨rfl, rfl, rfl, by simp [World.setRow], fun j _ hn => setRow_other w k j cs (fun e => hn (by rw [e]))⟩ (.inr hv)⟩
/-- three numbers are put -/
theorem put3_at (b : Nat) (v : Value) (l : List UInt8) (x y z : Int) (w : World) (H : Nat) (hH : w.heap.size = H) (h : PenAt w b v l) (hsz : l.length ≤ 70368744177600) :
    Calls Tryd.prog 53 #[.pointer (some ⟨b, 0, none⟩), .int .i64 4, .slice (some ⟨H, 0, none⟩) 3 3] (w.alloc (.cells #[.int .i64 x, .int .i64 y, .int .i64 z] 3)) fun r w' => PenPost w b v (l ++ (num 4 x ++ (num 4 y ++ num 4 z))) r w' := by
  subst hH
  have hb : Below w.heap.size w (w.alloc (.cells #[.int .i64 x, .int .i64 y, .int .i64 z] 3)) := (Below.refl _ _).alloc (Nat.le_refl _) _
  refine (put_at b v l 4 _ [x, y, z] 3 3 rfl _ (h.below hb) (IntsAt.new w h _ [x, y, z] _ rfl) (by omega)).mono ?_
  rintro r w' ⟨v', rfl, hP, hS⟩
  have e : nums (near 4 8) [x, y, z] = num 4 x ++ (num 4 y ++ num 4 z) := by simp [nums]; rfl
  rw [e] at hP
  exact ⟨v', rfl, hP, hS.below hb⟩
/-- two names are put -/
theorem pname2_at (b : Nat) (v : Value) (l : List UInt8) (x y : List UInt8) (hx : x.length = 32) (hy : y.length = 32) (w : World) (H : Nat) (hH : w.heap.size = H) (h : PenAt w b v l) (hsz : l.length ≤ 70368744177600) :
    Calls Tryd.prog 54 #[.pointer (some ⟨b, 0, none⟩), .slice (some ⟨H, 0, none⟩) 2 2] (w.alloc (.cells (bytesV (x ++ y)) 35)) fun r w' => PenPost w b v (l ++ (x ++ y)) r w' := by
  subst hH
  have hlt := h.lt
  have hb : Below w.heap.size w (w.alloc (.cells (bytesV (x ++ y)) 35)) := (Below.refl _ _).alloc (Nat.le_refl _) _
  have hN : Has (w.alloc (.cells (bytesV (x ++ y)) 35)) w.heap.size (bytesV (x ++ y)) 35 := Has.new _ _
  refine (pnames_at b v l _ [x, y] 2 2 rfl _ (h.below hb) (fun _ => ⟨w.heap.size, 0, rfl, by rw [World.size_alloc]; omega, fun i hi => ?_⟩) (fun _ p hp => ?_) (fun z hz => by simp at hz; rcases hz with rfl | rfl; exact hx; exact hy) (by omega)).mono ?_
  · have h2 : i < 2 := hi
    obtain rfl | rfl : i = 0 ∨ i = 1 := by omega
    · refine ⟨hx, fun j u hu => ?_⟩
      rw [hN.cell]
      change (Lib.byteCells x)[j]? = some u at hu
      rw [show bytesV (x ++ y) = (Lib.byteCells (x ++ y)).toArray from Array.toList_inj.1 (by rw [bytesV_list]), Lib.byteCells_append, List.getElem?_toArray, show 0 + 0 * 32 + j = j by omega,
        List.getElem?_append_left (List.getElem?_eq_some_iff.1 hu).1]
      exact hu
    · refine ⟨hy, fun j u hu => ?_⟩
      rw [hN.cell]
      change (Lib.byteCells y)[j]? = some u at hu
      rw [show bytesV (x ++ y) = (Lib.byteCells (x ++ y)).toArray from Array.toList_inj.1 (by rw [bytesV_list]), Lib.byteCells_append, List.getElem?_toArray, show 0 + 1 * 32 + j = 32 + j by omega,
        List.getElem?_append_right (by rw [Lib.byteCells_length, hx]; omega), Lib.byteCells_length, hx, Nat.add_sub_cancel_left]
      exact hu
  · obtain rfl := Option.some.inj hp
    exact ⟨by show w.heap.size ≠ b; omega, fun e => absurd (h.ownLt (k := w.heap.size) e).2 (by omega)⟩
  · rintro r w' ⟨v', rfl, hP, hS⟩
    have e : [x, y].flatten = x ++ y := by simp
    rw [e] at hP
    exact ⟨v', rfl, hP, hS.below hb⟩
theorem own_apart {w w1 : World} {b k : Nat} {v v1 : Value} (hS : PenStep w w1 b v v1) (hk : k < w.heap.size) (hv : v.ownBlock ≠ some k) : v1.ownBlock ≠ some k := fun e => by
  rcases hS.lies k e with h | h
  · exact hv h
  · omega
theorem enc_put (l : List UInt8) (h : Hd) : l ++ num 4 h.v ++ (h.prev ++ h.root) ++ (num 4 h.time ++ (num 4 h.bits ++ num 4 h.nonce)) = l ++ h.enc := by
  simp only [Hd.enc, List.append_assoc]
set_option maxRecDepth 100000 in
set_option maxHeartbeats 1000000 in
theorem write_yes (b : Nat) (v : Value) (l : List UInt8) (h : Hd) (ho : h.ok) (hp : h.P) (w : World) (hP : PenAt w b v l) (hsz : l.length ≤ 70368744177000) :
    Calls Tryd.prog 41 #[.pointer (some ⟨b, 0, none⟩), .agg (hdA h)] w fun r w' => PenPost w b v (l ++ h.enc) r w' := by
  have CG := good_at h ho
  rw [decide_eq_true hp] at CG
  have KG := Lib.hid CG
  clear CG hp
  have hH := hd_new w h
  have hB : Below w.heap.size w (w.alloc (.cells (hdA h) 37)) := (Below.refl _ _).alloc (Nat.le_refl _) _
  have hP1 := hP.below hB
  have hbk : w.heap.size ≠ b := by have := hP.lt; omega
  have hvk : v.ownBlock ≠ some w.heap.size := fun e => by have := (hP.ownLt e).2; omega
  have hz := hdA_size ho
  clear hP
  go_enter Tryd.func41, Tryd.ntmps41
  go_upto_region 1 with fail
  generalize hk : w.heap.size = k at hH hbk hvk ⊢
  generalize World.alloc _ _ = w1 at *
  go_wp2_with (with_reducible refine hd_load rfl _ rfl _ rfl hH hz ?_)
  refine (KG.out _).mono ?_
  rintro r w2 ⟨rfl, hb2⟩
  have hP2 := hP1.below hb2
  replace hB := hB.trans (hb2.mono hB.size)
  replace hH := hH.on hb2
  clear hb2 hP1 KG
  have hH3 := hH
  have hP3 := hP2
  obtain ⟨w3, hw3⟩ : ∃ w3, w3 = w2 := ⟨_, rfl⟩
  obtain ⟨h', hh'⟩ : ∃ h', h' = h := ⟨_, rfl⟩
  have HE : Hid (h'.enc = h.enc) := Lib.hid (by rw [hh'])
  rw [← hh'] at hH3 ho ⊢
  rw [← hw3] at hB hH3 hP3 ⊢
  have ho' := ho
  clear hH hP2 ho hz hh' hw3
  have hk3 : k < w3.heap.size := hH3.lt
  have c0 := hH3.v
  have C1 := Lib.hid (put1_at b v l 4 4 rfl h'.v w3 w3.heap.size rfl hP3 (by omega))
  go_wp2_with fail
  refine C1.out.mono ?_
  rintro r w4 ⟨v4, rfl, hP4, hS4⟩
  have hH4 := hH3.pen hS4 (Ne.symm hbk).symm hvk
  have hv4 := own_apart hS4 hk3 hvk
  have hk4 : k < w4.heap.size := hH4.lt
  clear C1 c0 hH3 hP3
  have e4 : (l ++ num 4 h'.v).length ≤ 70368744177100 := by rw [List.length_append, num_length]; omega
  have r1 := hH4.prev
  have r2 := hH4.root ho'
  have s1 := byteCells_32 ho'.1
  have s2 := byteCells_32 ho'.2
  have C2 := Lib.hid (pname2_at b v4 _ h'.prev h'.root ho'.1 ho'.2 w4 w4.heap.size rfl hP4 (by omega))
  have H1 := Lib.hid ho'.1
  have H2 := Lib.hid ho'.2
  go_wp2_with (first
    | (with_reducible refine hl_load_mid rfl _ rfl k 1 rfl h'.prev r1 s1 ?_)
    | (with_reducible refine hl_load_mid rfl _ rfl k 33 rfl h'.root r2 s2 ?_)
    | (with_reducible refine build_hl2 rfl _ _ rfl _ _ rfl rfl H1.out H2.out ?_))
  refine C2.out.mono ?_
  rintro r w5 ⟨v5, rfl, hP5, hS5⟩
  have hH5 := hH4.pen hS5 hbk hv4
  clear C2 r1 r2 s1 s2 hH4 hP4
  have e5 : (l ++ num 4 h'.v ++ (h'.prev ++ h'.root)).length ≤ 70368744177500 := by
    simp only [List.length_append, H1.out, H2.out] at e4 ⊢; omega
  have c1 := hH5.time ho'
  have c2 := hH5.bits ho'
  have c3 := hH5.nonce ho'
  have C3 := Lib.hid (put3_at b v5 _ h'.time h'.bits h'.nonce w5 w5.heap.size rfl hP5 (by omega))
  rw [enc_put] at C3
  go_wp2_with fail
  refine C3.out.mono ?_
  rintro r w6 ⟨v6, rfl, hP6, hS6⟩
  go_wp2_with fail
  go_end0
  exact ⟨v6, rfl, by rw [← HE.out]; exact hP6, ((hS4.trans hS5).trans hS6).below hB⟩

set_option maxRecDepth 100000 in
set_option maxHeartbeats 1000000 in
theorem write_no (b : Nat) (v : Value) (l : List UInt8) (h : Hd) (ho : h.ok) (hp : ¬ h.P) (w : World) (hP : PenAt w b v l) (hsz : l.length ≤ 70368744177000) :
    Calls Tryd.prog 41 #[.pointer (some ⟨b, 0, none⟩), .agg (hdA h)] w fun r w' => PenPost w b v (l ++ hdZ.enc) r w' := by
  have CG := good_at h ho
  rw [decide_eq_false hp] at CG
  have KG := Lib.hid CG
  clear CG hp
  have hH := hd_new w h
  have hB : Below w.heap.size w (w.alloc (.cells (hdA h) 37)) := (Below.refl _ _).alloc (Nat.le_refl _) _
  have hP1 := hP.below hB
  have hbk : w.heap.size ≠ b := by have := hP.lt; omega
  have hvk : v.ownBlock ≠ some w.heap.size := fun e => by have := (hP.ownLt e).2; omega
  have hz := hdA_size ho
  clear hP
  go_enter Tryd.func41, Tryd.ntmps41
  go_upto_region 1 with fail
  generalize hk : w.heap.size = k at hH hbk hvk ⊢
  generalize World.alloc _ _ = w1 at *
  go_wp2_with (with_reducible refine hd_load rfl _ rfl _ rfl hH hz ?_)
  refine (KG.out _).mono ?_
  rintro r w2 ⟨rfl, hb2⟩
  have hP2 := hP1.below hb2
  replace hB := hB.trans (hb2.mono hB.size)
  replace hH := hH.on hb2
  clear hb2 hP1 KG
  obtain ⟨h', hh'⟩ : ∃ h', h' = hdZ := ⟨_, rfl⟩
  have ho' : h'.ok := by rw [hh']; exact hdZ_ok
  have hz' := hdA_size ho'
  have hlit : hdA hdZ = hdA h' := by rw [hh']
  have HLIT := Lib.hid hlit
  have HE : Hid (h'.enc = hdZ.enc) := Lib.hid (by rw [hh'])
  clear hlit hh'
  go_upto_region 3 with (with_reducible refine hd_store rfl _ _ rfl _ _ h' rfl rfl HLIT.out hz' hH hz ?_)
  have hH3 : HdAt (w2.setRow k (hdA h')) k h' := Has.row hH _
  have hb3 : Below w.heap.size w2 (w2.setRow k (hdA h')) := below_setRow (Below.refl _ _) (by omega) _
  have hP3 : PenAt (w2.setRow k (hdA h')) b v l := PenAt.row_other hP2 hbk hvk _
  replace hB := below_setRow hB (show w.heap.size ≤ k by omega) (hdA h')
  generalize w2.setRow k (hdA h') = w3 at *
  clear hH hP2 ho hz HLIT hb3
  have hk3 : k < w3.heap.size := hH3.lt
  have c0 := hH3.v
  have C1 := Lib.hid (put1_at b v l 4 4 rfl h'.v w3 w3.heap.size rfl hP3 (by omega))
  go_wp2_with fail
  refine C1.out.mono ?_
  rintro r w4 ⟨v4, rfl, hP4, hS4⟩
  have hH4 := hH3.pen hS4 (Ne.symm hbk).symm hvk
  have hv4 := own_apart hS4 hk3 hvk
  have hk4 : k < w4.heap.size := hH4.lt
  clear C1 c0 hH3 hP3
  have e4 : (l ++ num 4 h'.v).length ≤ 70368744177100 := by rw [List.length_append, num_length]; omega
  have r1 := hH4.prev
  have r2 := hH4.root ho'
  have s1 := byteCells_32 ho'.1
  have s2 := byteCells_32 ho'.2
  have C2 := Lib.hid (pname2_at b v4 _ h'.prev h'.root ho'.1 ho'.2 w4 w4.heap.size rfl hP4 (by omega))
  have H1 := Lib.hid ho'.1
  have H2 := Lib.hid ho'.2
  go_wp2_with (first
    | (with_reducible refine hl_load_mid rfl _ rfl k 1 rfl h'.prev r1 s1 ?_)
    | (with_reducible refine hl_load_mid rfl _ rfl k 33 rfl h'.root r2 s2 ?_)
    | (with_reducible refine build_hl2 rfl _ _ rfl _ _ rfl rfl H1.out H2.out ?_))
  refine C2.out.mono ?_
  rintro r w5 ⟨v5, rfl, hP5, hS5⟩
  have hH5 := hH4.pen hS5 hbk hv4
  clear C2 r1 r2 s1 s2 hH4 hP4
  have e5 : (l ++ num 4 h'.v ++ (h'.prev ++ h'.root)).length ≤ 70368744177500 := by
    simp only [List.length_append, H1.out, H2.out] at e4 ⊢; omega
  have c1 := hH5.time ho'
  have c2 := hH5.bits ho'
  have c3 := hH5.nonce ho'
  have C3 := Lib.hid (put3_at b v5 _ h'.time h'.bits h'.nonce w5 w5.heap.size rfl hP5 (by omega))
  rw [enc_put] at C3
  go_wp2_with fail
  refine C3.out.mono ?_
  rintro r w6 ⟨v6, rfl, hP6, hS6⟩
  go_wp2_with fail
  go_end0
  exact ⟨v6, rfl, by rw [← HE.out]; exact hP6, ((hS4.trans hS5).trans hS6).below hB⟩

theorem write_at (b : Nat) (v : Value) (l : List UInt8) (h : Hd) (ho : h.ok) (w : World) (hP : PenAt w b v l) (hsz : l.length ≤ 70368744177000) :
    Calls Tryd.prog 41 #[.pointer (some ⟨b, 0, none⟩), .agg (hdA h)] w fun r w' => PenPost w b v (l ++ h.wr) r w' := by
  by_cases hp : h.P
  · rw [Hd.wr_yes hp]; exact write_yes b v l h ho hp w hP hsz
  · rw [Hd.wr_no hp]; exact write_no b v l h ho hp w hP hsz
end Go.Proofs.YtcgnohndfedodaaDoor
/-
  header: Read, Of.
-/
namespace Go.Proofs.YtcgnohndfedodaaDoor
open Go.RowKit Mem Sc
theorem i32_is (n : Nat) (hn : n < 4294967296) : IntKind.i32.wrap (n : Int) = i32 n := by
  rw [IntKind.wrap_i32]; unfold i32; split <;> omega
theorem get4_lt (e : Ey) : (e.get 4).1 < 4294967296 := by
  unfold Ey.get
  have h := val_lt (e.raw (near 4 7)).1.data.toList
  have h2 := raw_size e (near 4 7)
  rw [Lib.size_eq] at h2
  have h3 : 256 ^ (e.raw (near 4 7)).1.data.toList.length ≤ 256 ^ 4 := Nat.pow_le_pow_right (by omega) h2
  simp only
  omega
theorem setCells_has {w : World} {X o g : Nat} {vs : List Value} {cs : Array Value} {t : TypeId} (h : Has w g cs t) (hn : g ≠ X) : Has (w.setCells X o vs) g cs t := (setCells_other X g hn vs o w).trans h
end Go.Proofs.YtcgnohndfedodaaDoor
/-
  header: Of.
-/
namespace Go.Proofs.YtcgnohndfedodaaDoor
open Go.RowKit Mem Sc
theorem hd_newz (w : World) : HdAt (w.alloc (.cells Tryd.zeroCells37 37)) w.heap.size hdZ := hd_new w hdZ
theorem hd_results2 {w : World} {h : Hd} {fn : Func} {p q : Tmp} (hf : fn.results = #[.cell p 37, .tmp q]) (tmps : Array Value) (g : Nat) (b : Value) (hp : tmps.getD p undef = .pointer (some ⟨g, 0, none⟩)) (hb : tmps.getD q undef = b) (hg : HdAt w g h) (hs : (hdA h).size = 68) :
    (results fn tmps).run Tryd.prog w = .ok (.tuple #[.agg (hdA h), b]) w := by
  rw [results_cell_tmp hf, hp, hb]
  have hl : (loadVar 37 ⟨g, 0, none⟩).run Tryd.prog w = .ok (.agg (hdA h)) w := run_loadVar_row w g 37 37 (hdA h) (0, 0) _ (Has.out hg) Tryd.underlying37 rfl (hdinfo.trans (by rw [hs]))
  simp [asAddr, hl, Result.andThen]
end Go.Proofs.YtcgnohndfedodaaDoor
