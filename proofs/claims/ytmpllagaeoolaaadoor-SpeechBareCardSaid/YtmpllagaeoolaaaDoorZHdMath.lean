/-
  Plain mathematics: headers, their bytes, their names, what is read.
-/
import Derived.Test.YtmpllagaeoolaaaDoorZScMath2
import Derived.Test.YtmpllagaeoolaaaDoorZSha
namespace Go.Proofs.YtmpllagaeoolaaaDoor
open Go.RowKit Mem Sc
structure Hd where
  v : Int
  prev : List UInt8
  root : List UInt8
  time : Int
  bits : Int
  nonce : Int
def Hd.ok (h : Hd) : Prop := h.prev.length = 32 ∧ h.root.length = 32
/-- a header can be -/
def Hd.P (h : Hd) : Prop := -2147483648 ≤ h.v ∧ h.v ≤ 2147483647 ∧ 0 ≤ h.time ∧ h.time ≤ 4294967295 ∧ 0 ≤ h.bits ∧ h.bits ≤ 4294967295 ∧ 0 ≤ h.nonce ∧ h.nonce ≤ 4294967295
instance (h : Hd) : Decidable h.P := by unfold Hd.P; exact inferInstance
def z32 : List UInt8 := List.replicate 32 0
def hdZ : Hd := ⟨0, z32, z32, 0, 0, 0⟩
def Hd.enc (h : Hd) : List UInt8 := num 4 h.v ++ (h.prev ++ (h.root ++ (num 4 h.time ++ (num 4 h.bits ++ num 4 h.nonce))))
/-- what Write puts -/
def Hd.wr (h : Hd) : List UInt8 := if h.P then h.enc else hdZ.enc
def Hd.id (h : Hd) : List UInt8 := if h.P then Sha.sha (Sha.sha h.enc) else z32
def i32 (n : Nat) : Int := if n < 2147483648 then (n : Int) else (n : Int) - 4294967296
theorem z32_length : z32.length = 32 := rfl
theorem hdZ_ok : hdZ.ok := ⟨rfl, rfl⟩
theorem hdZ_P : hdZ.P := by decide
theorem Hd.enc_length {h : Hd} (ho : h.ok) : h.enc.length = 80 := by
  simp only [Hd.enc, List.length_append, num_length, ho.1, ho.2]
theorem Hd.wr_length {h : Hd} (ho : h.ok) : h.wr.length = 80 := by
  unfold Hd.wr
  split
  · exact Hd.enc_length ho
  · exact Hd.enc_length hdZ_ok
theorem Hd.wr_yes {h : Hd} (hp : h.P) : h.wr = h.enc := if_pos hp
theorem Hd.wr_no {h : Hd} (hp : ¬ h.P) : h.wr = hdZ.enc := if_neg hp
theorem Hd.id_yes {h : Hd} (hp : h.P) : h.id = Sha.sha (Sha.sha h.enc) := if_pos hp
theorem Hd.id_no {h : Hd} (hp : ¬ h.P) : h.id = z32 := if_neg hp
/-! ### what is read -/
def Sc.Ey.e1 (e : Ey) : Ey := (e.get 4).2
def Sc.Ey.e2 (e : Ey) : Ey := e.e1.name.2
def Sc.Ey.e3 (e : Ey) : Ey := e.e2.name.2
def Sc.Ey.e4 (e : Ey) : Ey := (e.e3.get 4).2
def Sc.Ey.e5 (e : Ey) : Ey := (e.e4.get 4).2
def Sc.Ey.e6 (e : Ey) : Ey := (e.e5.get 4).2
def Sc.Ey.header (e : Ey) : Hd × Ey := (if e.e6.bad = true then hdZ else ⟨i32 (e.get 4).1, e.e1.name.1, e.e2.name.1, (e.e3.get 4).1, (e.e4.get 4).1, (e.e5.get 4).1⟩, e.e6)
theorem get4_txt (a r : List UInt8) (ha : a.length = 4) : Ey.get ⟨txt (a ++ r), false⟩ 4 = (val a, ⟨txt r, false⟩) := by
  unfold Ey.get
  rw [raw_txt a r _ (by rw [ha]; rfl)]
  rfl
theorem header_txt (a p q b c d r : List UInt8) (ha : a.length = 4) (hp : p.length = 32) (hq : q.length = 32) (hb : b.length = 4) (hc : c.length = 4) (hd : d.length = 4) :
    Ey.header ⟨txt (a ++ (p ++ (q ++ (b ++ (c ++ (d ++ r)))))), false⟩ = (⟨i32 (val a), p, q, (val b : Nat), (val c : Nat), (val d : Nat)⟩, ⟨txt r, false⟩) := by
  unfold Ey.header Ey.e6 Ey.e5 Ey.e4 Ey.e3 Ey.e2 Ey.e1
  rw [get4_txt a _ ha]; simp only
  rw [name_txt p _ hp]; simp only
  rw [name_txt q _ hq]; simp only
  rw [get4_txt b _ hb]; simp only
  rw [get4_txt c _ hc]; simp only
  rw [get4_txt d _ hd]; simp
theorem i32_num {v : Int} (h1 : -2147483648 ≤ v) (h2 : v ≤ 2147483647) : i32 (val (num 4 v)) = v := by
  rw [val_num]
  unfold i32 u64
  split <;> omega
theorem val_num4 {n : Int} (h1 : 0 ≤ n) (h2 : n ≤ 4294967295) : ((val (num 4 n) : Nat) : Int) = n := by
  rw [val_num]; unfold u64; omega
theorem header_enc {h : Hd} (hp : h.P) (ho : h.ok) (r : List UInt8) : Ey.header ⟨txt (h.enc ++ r), false⟩ = (h, ⟨txt r, false⟩) := by
  obtain ⟨p1, p2, p3, p4, p5, p6, p7, p8⟩ := hp
  unfold Hd.enc
  simp only [List.append_assoc]
  rw [header_txt _ _ _ _ _ _ r (num_length _ _) ho.1 ho.2 (num_length _ _) (num_length _ _) (num_length _ _), i32_num p1 p2, val_num4 p3 p4, val_num4 p5 p6, val_num4 p7 p8]
theorem num_val4 {a : List UInt8} (ha : a.length = 4) {n : Int} (hn : u64 n % 4294967296 = val a) : num 4 n = a := by
  refine val_inj _ _ (by rw [num_length, ha]) ?_
  rw [val_num]
  exact hn
theorem val_lt4 {a : List UInt8} (ha : a.length = 4) : val a < 4294967296 := by
  have := val_lt a
  rw [ha] at this
  exact this
theorem read_P (a p q b c d : List UInt8) (ha : a.length = 4) (hb : b.length = 4) (hc : c.length = 4) (hd : d.length = 4) : (⟨i32 (val a), p, q, (val b : Nat), (val c : Nat), (val d : Nat)⟩ : Hd).P := by
  have h1 := val_lt4 ha
  have h2 := val_lt4 hb
  have h3 := val_lt4 hc
  have h4 := val_lt4 hd
  refine ⟨?_, ?_, ?_, ?_, ?_, ?_, ?_, ?_⟩ <;> simp only [i32] <;> (try split) <;> omega
theorem read_enc (a p q b c d : List UInt8) (ha : a.length = 4) (hb : b.length = 4) (hc : c.length = 4) (hd : d.length = 4) : (⟨i32 (val a), p, q, (val b : Nat), (val c : Nat), (val d : Nat)⟩ : Hd).enc = a ++ (p ++ (q ++ (b ++ (c ++ d)))) := by
  have h1 := val_lt4 ha
  have h2 := val_lt4 hb
  have h3 := val_lt4 hc
  have h4 := val_lt4 hd
  unfold Hd.enc
  simp only
  rw [num_val4 ha (by unfold i32 u64; split <;> omega), num_val4 hb (by unfold u64; omega), num_val4 hc (by unfold u64; omega), num_val4 hd (by unfold u64; omega)]
theorem cut_at (l : List UInt8) (k : Nat) : l = l.take k ++ l.drop k := (List.take_append_drop k l).symm
/-- what has 80 bytes, or more, begins with a header's -/
theorem header_long {l : List UInt8} (hl : 80 ≤ l.length) : ∃ (h : Hd) (r : List UInt8), l = h.enc ++ r ∧ h.ok ∧ h.P ∧ Ey.header ⟨txt l, false⟩ = (h, ⟨txt r, false⟩) := by
  obtain ⟨a, l1, rfl, ha⟩ : ∃ a l1, l = a ++ l1 ∧ a.length = 4 := ⟨_, _, cut_at l 4, by rw [List.length_take]; omega⟩
  rw [List.length_append, ha] at hl
  obtain ⟨p, l2, rfl, hp⟩ : ∃ a r, l1 = a ++ r ∧ a.length = 32 := ⟨_, _, cut_at l1 32, by rw [List.length_take]; omega⟩
  rw [List.length_append, hp] at hl
  obtain ⟨q, l3, rfl, hq⟩ : ∃ a r, l2 = a ++ r ∧ a.length = 32 := ⟨_, _, cut_at l2 32, by rw [List.length_take]; omega⟩
  rw [List.length_append, hq] at hl
  obtain ⟨b, l4, rfl, hb⟩ : ∃ a r, l3 = a ++ r ∧ a.length = 4 := ⟨_, _, cut_at l3 4, by rw [List.length_take]; omega⟩
  rw [List.length_append, hb] at hl
  obtain ⟨c, l5, rfl, hc⟩ : ∃ a r, l4 = a ++ r ∧ a.length = 4 := ⟨_, _, cut_at l4 4, by rw [List.length_take]; omega⟩
  rw [List.length_append, hc] at hl
  obtain ⟨d, r, rfl, hd⟩ : ∃ a r, l5 = a ++ r ∧ a.length = 4 := ⟨_, _, cut_at l5 4, by rw [List.length_take]; omega⟩
  exact ⟨⟨i32 (val a), p, q, (val b : Nat), (val c : Nat), (val d : Nat)⟩, r, by rw [read_enc a p q b c d ha hb hc hd]; simp only [List.append_assoc], ⟨hp, hq⟩, read_P a p q b c d ha hb hc hd, header_txt a p q b c d r ha hp hq hb hc hd⟩
theorem raw_step {e : Ey} {k : Nat} (h : (e.raw k).2.bad = false) : e.bad = false ∧ (e.raw k).2.s.size + k = e.s.size := by
  unfold Ey.raw at *
  split at h
  · rename_i hb; rw [hb] at h; cases h
  · rename_i hb
    rw [if_neg hb]
    split at h
    · cases h
    · rename_i hn
      rw [if_neg hn]
      refine ⟨by simpa using hb, ?_⟩
      simp only [ByteArray.size_extract, Int.toNat_natCast]
      omega
theorem get_step {e : Ey} (h : (e.get 4).2.bad = false) : e.bad = false ∧ (e.get 4).2.s.size + 4 = e.s.size := raw_step (k := 4) h
theorem name_step {e : Ey} (h : e.name.2.bad = false) : e.bad = false ∧ e.name.2.s.size + 32 = e.s.size := raw_step (k := 32) h
theorem ok_e6 {e : Ey} (h : e.ok) : e.e6.ok := ok_get (ok_get (ok_get (ok_name (ok_name (ok_get h 4))) 4) 4) 4
theorem e6_size {e : Ey} (h : e.e6.bad = false) : e.bad = false ∧ e.e6.s.size + 80 = e.s.size := by
  obtain ⟨h5, s5⟩ := get_step (e := e.e5) h
  obtain ⟨h4, s4⟩ := get_step (e := e.e4) h5
  obtain ⟨h3, s3⟩ := get_step (e := e.e3) h4
  obtain ⟨h2, s2⟩ := name_step (e := e.e2) h3
  obtain ⟨h1, s1⟩ := name_step (e := e.e1) h2
  obtain ⟨h0, s0⟩ := get_step (e := e) h1
  change e.e6.s.size + 4 = e.e5.s.size at s5
  change e.e5.s.size + 4 = e.e4.s.size at s4
  change e.e4.s.size + 4 = e.e3.s.size at s3
  change e.e3.s.size + 32 = e.e2.s.size at s2
  change e.e2.s.size + 32 = e.e1.s.size at s1
  change e.e1.s.size + 4 = e.s.size at s0
  exact ⟨h0, by omega⟩
theorem header_short {s : ByteArray} (h : s.size < 80) : Ey.header ⟨s, false⟩ = (hdZ, dark) := by
  have hb : (Ey.e6 ⟨s, false⟩).bad = true := by
    cases hb : (Ey.e6 ⟨s, false⟩).bad
    · have := (e6_size hb).2
      simp only at this
      omega
    · rfl
  have ho := ok_e6 (e := ⟨s, false⟩) (fun h => by cases h)
  have hs := ho hb
  unfold Ey.header
  rw [if_pos hb]
  generalize Ey.e6 ⟨s, false⟩ = e at *
  obtain ⟨s', b'⟩ := e
  simp only at hb hs
  rw [hb, hs]; rfl
theorem enc_inj {a b : Hd} (ha : a.P) (hb : b.P) (oa : a.ok) (ob : b.ok) (h : a.enc = b.enc) : a = b := by
  have h1 := header_enc ha oa []
  have h2 := header_enc hb ob []
  rw [h, h2] at h1
  exact (congrArg Prod.fst h1).symm
end Go.Proofs.YtmpllagaeoolaaaDoor
