/-
  Plain mathematics: messages, their payloads, what is read from a payload.
-/
import Derived.Test.YtmpllagaeoolaaaDoorZHdMath
namespace Go.Proofs.YtmpllagaeoolaaaDoor
open Go.RowKit Mem Sc
structure Ms where
  kind : Int
  ver : Int
  serv : Int
  height : Int
  nb : Int
  names : List (List UInt8)
  stop : List UInt8
  heads : List Hd
def Ms.ok (m : Ms) : Prop := (∀ l ∈ m.names, l.length = 32) ∧ m.stop.length = 32 ∧ ∀ h ∈ m.heads, h.ok
def in4 (n : Int) : Prop := 0 ≤ n ∧ n < 4294967296
def in7 (n : Int) : Prop := 0 ≤ n ∧ n < 72057594037927936
instance (n : Int) : Decidable (in4 n) := by unfold in4; exact inferInstance
instance (n : Int) : Decidable (in7 n) := by unfold in7; exact inferInstance
/-- a message with nothing but what its kind has -/
def Ms.bare (m : Ms) : Ms :=
  if m.kind = 1 then ⟨m.kind, m.ver, m.serv, m.height, m.nb, [], z32, []⟩
  else if m.kind = 3 then ⟨m.kind, m.ver, 0, 0, 0, m.names, m.stop, []⟩
  else if m.kind = 4 then ⟨m.kind, 0, 0, 0, 0, [], z32, m.heads⟩
  else if m.kind = 5 then ⟨m.kind, 0, 0, 0, 0, m.names, z32, []⟩
  else if m.kind = 6 ∨ m.kind = 7 then ⟨m.kind, 0, 0, 0, m.nb, [], z32, []⟩
  else ⟨m.kind, 0, 0, 0, 0, [], z32, []⟩
/-- a message can be -/
def Ms.P (m : Ms) : Prop :=
  if m.kind = 1 then in4 m.ver ∧ in4 m.height ∧ in7 m.serv ∧ in7 m.nb
  else if m.kind = 3 then in4 m.ver ∧ m.names.length ≤ 32
  else if m.kind = 4 then (∀ h ∈ m.heads, h.P) ∧ m.heads.length ≤ 64
  else if m.kind = 5 then m.names.length ≤ 32
  else if m.kind = 6 ∨ m.kind = 7 then in7 m.nb
  else m.kind = 2 ∨ m.kind = 8
def blkL (l : List UInt8) : List UInt8 := num 4 2 ++ l
def hd0L (h : Hd) : List UInt8 := h.enc ++ [0]
def nameL (l : List UInt8) : List UInt8 := l
def Ms.pay (m : Ms) : List UInt8 :=
  if m.kind = 1 then num 4 m.ver ++ (num 4 m.height ++ (num 7 m.serv ++ num 7 m.nb))
  else if m.kind = 3 then num 4 m.ver ++ (cnt (m.names.length : Nat) ++ (m.names.flatMap nameL ++ m.stop))
  else if m.kind = 4 then cnt (m.heads.length : Nat) ++ m.heads.flatMap hd0L
  else if m.kind = 5 then cnt (m.names.length : Nat) ++ m.names.flatMap blkL
  else if m.kind = 6 ∨ m.kind = 7 then num 7 m.nb
  else []
/-! ### what is read -/
def many {α : Type} (f : Ey → α × Ey) : Nat → Ey → List α × Ey
  | 0, e => ([], e)
  | n + 1, e => ((f e).1 :: (many f n (f e).2).1, (many f n (f e).2).2)
theorem many_snoc {α : Type} (f : Ey → α × Ey) : ∀ (k : Nat) (e : Ey), many f (k + 1) e = ((many f k e).1 ++ [(f (many f k e).2).1], (f (many f k e).2).2)
  | 0, _ => rfl
  | k + 1, e => by
    show ((f e).1 :: (many f (k + 1) (f e).2).1, (many f (k + 1) (f e).2).2) = _
    rw [many_snoc f k (f e).2]
    rfl
theorem many_length {α : Type} (f : Ey → α × Ey) : ∀ (k : Nat) (e : Ey), (many f k e).1.length = k
  | 0, _ => rfl
  | k + 1, e => by show (many f k (f e).2).1.length + 1 = k + 1; rw [many_length f k]
def Sc.Ey.list {α : Type} (e : Ey) (most : Int) (f : Ey → α × Ey) : List α × Ey := many f (e.count most).1 (e.count most).2
/-- a block's name of an inv -/
def Sc.Ey.blk (e : Ey) : List UInt8 × Ey := (if (e.get 4).1 = 2 then (e.get 4).2 else dark).name
/-- a header of a list -/
def Sc.Ey.hd0 (e : Ey) : Hd × Ey := (e.header.1, (e.header.2.count 0).2)
def Sc.Ey.msg (e : Ey) (k : Int) : Ms × Ey :=
  if k = 1 then (⟨k, (e.get 4).1, ((e.get 4).2.get 4).2.get 7 |>.1, ((e.get 4).2.get 4).1, (((e.get 4).2.get 4).2.get 7).2.get 7 |>.1, [], z32, []⟩, (((e.get 4).2.get 4).2.get 7).2.get 7 |>.2)
  else if k = 3 then (⟨k, (e.get 4).1, 0, 0, 0, ((e.get 4).2.list 32 Ey.name).1, ((e.get 4).2.list 32 Ey.name).2.name.1, []⟩, ((e.get 4).2.list 32 Ey.name).2.name.2)
  else if k = 4 then (⟨k, 0, 0, 0, 0, [], z32, (e.list 64 Ey.hd0).1⟩, (e.list 64 Ey.hd0).2)
  else if k = 5 then (⟨k, 0, 0, 0, 0, (e.list 32 Ey.blk).1, z32, []⟩, (e.list 32 Ey.blk).2)
  else if k = 6 ∨ k = 7 then (⟨k, 0, 0, 0, (e.get 7).1, [], z32, []⟩, (e.get 7).2)
  else (⟨k, 0, 0, 0, 0, [], z32, []⟩, e)
/-! ### what is put is read -/
theorem get7_txt (a r : List UInt8) (ha : a.length = 7) : Ey.get ⟨txt (a ++ r), false⟩ 7 = (val a, ⟨txt r, false⟩) := by
  unfold Ey.get
  rw [raw_txt a r _ (by rw [ha]; rfl)]
  rfl
theorem val_num4' {n : Int} (h : in4 n) : ((val (num 4 n) : Nat) : Int) = n := val_num4 h.1 (by have := h.2; omega)
theorem val_num7 {n : Int} (h : in7 n) : ((val (num 7 n) : Nat) : Int) = n := by
  have h1 := h.1
  have h2 := h.2
  rw [val_num, show 256 ^ 7 = 72057594037927936 from rfl]; unfold u64; omega
theorem get4_in {n : Int} (h : in4 n) (r : List UInt8) : Ey.get ⟨txt (num 4 n ++ r), false⟩ 4 = (n.toNat, ⟨txt r, false⟩) := by
  rw [get4_txt _ r (num_length _ _)]
  have := val_num4' h
  congr 1
  omega
theorem get7_in {n : Int} (h : in7 n) (r : List UInt8) : Ey.get ⟨txt (num 7 n ++ r), false⟩ 7 = (n.toNat, ⟨txt r, false⟩) := by
  rw [get7_txt _ r (num_length _ _)]
  have := val_num7 h
  congr 1
  omega
theorem many_txt {α : Type} (f : Ey → α × Ey) (g : α → List UInt8) (xs : List α) (h : ∀ x ∈ xs, ∀ r, f ⟨txt (g x ++ r), false⟩ = (x, ⟨txt r, false⟩)) (r : List UInt8) :
    many f xs.length ⟨txt (xs.flatMap g ++ r), false⟩ = (xs, ⟨txt r, false⟩) := by
  induction xs with
  | nil => rfl
  | cons x xs ih =>
    have h1 := h x (by simp) (xs.flatMap g ++ r)
    have h2 := ih (fun y hy => h y (by simp [hy]))
    rw [List.flatMap_cons, List.append_assoc, List.length_cons]
    unfold many
    rw [h1]
    simp only
    rw [h2]
theorem count_nat (n : Nat) (most : Nat) (hm : n ≤ most) (h : most < 1000) (r : List UInt8) : Ey.count ⟨txt (cnt (n : Nat) ++ r), false⟩ (most : Nat) = (n, ⟨txt r, false⟩) := by
  rw [count_txt (n : Nat) (by omega) r _ (by omega)]
  congr 1
  omega
theorem list_txt {α : Type} (f : Ey → α × Ey) (g : α → List UInt8) (xs : List α) (most : Nat) (hm : xs.length ≤ most) (hm2 : most < 1000) (h : ∀ x ∈ xs, ∀ r, f ⟨txt (g x ++ r), false⟩ = (x, ⟨txt r, false⟩)) (r : List UInt8) :
    Ey.list ⟨txt (cnt (xs.length : Nat) ++ (xs.flatMap g ++ r)), false⟩ (most : Nat) f = (xs, ⟨txt r, false⟩) := by
  unfold Ey.list
  rw [count_nat xs.length most hm hm2]
  exact many_txt f g xs h r
theorem blk_txt (a r : List UInt8) (ha : a.length = 32) : Ey.blk ⟨txt (blkL a ++ r), false⟩ = (a, ⟨txt r, false⟩) := by
  unfold Ey.blk blkL
  rw [List.append_assoc, get4_in (n := 2) (by decide)]
  rw [if_pos (by rfl)]
  exact name_txt a r ha
theorem hd0_txt {h : Hd} (hp : h.P) (ho : h.ok) (r : List UInt8) : Ey.hd0 ⟨txt (hd0L h ++ r), false⟩ = (h, ⟨txt r, false⟩) := by
  unfold Ey.hd0 hd0L
  rw [List.append_assoc, header_enc hp ho]
  have := count_nat 0 0 (by omega) (by omega) r
  rw [show cnt ((0 : Nat) : Int) = [0] by decide] at this
  simp only
  rw [show ((0 : Nat) : Int) = 0 by rfl] at this
  rw [this]
/-- what has bytes is read from them -/
theorem read_pay {m : Ms} (hp : m.P) (ho : m.ok) (r : List UInt8) : Ey.msg ⟨txt (m.pay ++ r), false⟩ m.kind = (m.bare, ⟨txt r, false⟩) := by
  obtain ⟨k, ve, se, he, nu, ns, st, hs⟩ := m
  obtain ⟨o1, o2, o3⟩ := ho
  unfold Ms.P at hp
  unfold Ms.pay Ms.bare Ey.msg
  simp only at *
  by_cases h1 : k = 1
  · rw [if_pos h1] at hp
    obtain ⟨p1, p2, p3, p4⟩ := hp
    simp only [if_pos h1, List.append_assoc]
    rw [get4_in p1]; simp only
    rw [get4_in p2]; simp only
    rw [get7_in p3]; simp only
    rw [get7_in p4]; simp only
    have a1 := p1.1
    have a2 := p2.1
    have a3 := p3.1
    have a4 := p4.1
    rw [Int.toNat_of_nonneg a1, Int.toNat_of_nonneg a2, Int.toNat_of_nonneg a3, Int.toNat_of_nonneg a4]
  · by_cases h3 : k = 3
    · rw [if_neg h1, if_pos h3] at hp
      obtain ⟨p1, p2⟩ := hp
      simp only [if_neg h1, if_pos h3, List.append_assoc]
      rw [get4_in p1]; simp only
      rw [show (32 : Int) = ((32 : Nat) : Int) from rfl, list_txt Ey.name nameL ns 32 p2 (by omega) (fun x hx r => name_txt x r (o1 x hx))]; simp only
      rw [name_txt st r o2, Int.toNat_of_nonneg p1.1]
    · by_cases h4 : k = 4
      · rw [if_neg h1, if_neg h3, if_pos h4] at hp
        obtain ⟨p1, p2⟩ := hp
        simp only [if_neg h1, if_neg h3, if_pos h4, List.append_assoc]
        rw [show (64 : Int) = ((64 : Nat) : Int) from rfl, list_txt Ey.hd0 hd0L hs 64 p2 (by omega) (fun x hx r => hd0_txt (p1 x hx) (o3 x hx) r)]
      · by_cases h5 : k = 5
        · rw [if_neg h1, if_neg h3, if_neg h4, if_pos h5] at hp
          simp only [if_neg h1, if_neg h3, if_neg h4, if_pos h5, List.append_assoc]
          rw [show (32 : Int) = ((32 : Nat) : Int) from rfl, list_txt Ey.blk blkL ns 32 hp (by omega) (fun x hx r => blk_txt x r (o1 x hx))]
        · by_cases h6 : k = 6 ∨ k = 7
          · rw [if_neg h1, if_neg h3, if_neg h4, if_neg h5, if_pos h6] at hp
            simp only [if_neg h1, if_neg h3, if_neg h4, if_neg h5, if_pos h6]
            rw [get7_in hp, Int.toNat_of_nonneg hp.1]
          · simp only [if_neg h1, if_neg h3, if_neg h4, if_neg h5, if_neg h6, List.nil_append]
/-! ### what is read is what was put -/
/-- a reader: what it read stood ahead of what is left -/
def Reads {α : Type} (f : Ey → α × Ey) (g : α → List UInt8) (G : α → Prop) : Prop :=
  ∀ e, (f e).2.bad = false → e.bad = false ∧ G (f e).1 ∧ e.s.data.toList = g (f e).1 ++ (f e).2.s.data.toList
theorem raw_reads {e : Ey} {k : Nat} (h : (e.raw k).2.bad = false) : e.bad = false ∧ (e.raw k).1.data.toList.length = k ∧ e.s.data.toList = (e.raw k).1.data.toList ++ (e.raw k).2.s.data.toList := by
  have h0 := (raw_step h).1
  have h1 := (raw_step h).2
  have hk : k ≤ e.s.size := by omega
  rw [raw_yes h0 hk]
  refine ⟨h0, ?_, ?_⟩
  · rw [← Lib.size_eq, ByteArray.size_extract]; omega
  · simp only
    rw [Lib.extract_data, Lib.extract_to_end]
    exact (List.take_append_drop _ _).symm
theorem get_reads (k : Nat) (h1 : 1 ≤ k) (h7 : k ≤ 7) : Reads (fun e => e.get (k : Nat)) (fun v => num k (v : Nat)) (fun v => v < 256 ^ k) := by
  intro e h
  have hn : near ((k : Nat) : Int) 7 = k := by unfold near; omega
  unfold Ey.get at *
  rw [hn] at h ⊢
  obtain ⟨h2, h3, h4⟩ := raw_reads h
  have hv := val_lt (e.raw ((k : Nat) : Int)).1.data.toList
  rw [h3] at hv
  refine ⟨h2, hv, h4.trans ?_⟩
  simp only
  congr 1
  refine (val_inj _ _ (by rw [num_length, h3]) ?_).symm
  have h8 : 256 ^ k ≤ 256 ^ 7 := Nat.pow_le_pow_right (by omega) h7
  rw [val_num, u64_nat _ (by omega), Nat.mod_eq_of_lt hv]
theorem name_reads : Reads Ey.name nameL (fun l => l.length = 32) := by
  intro e h
  obtain ⟨h2, h3, h4⟩ := raw_reads (k := 32) h
  have h3' : (e.raw 32).1.data.toList.length = 32 := h3
  unfold Ey.name
  refine ⟨h2, name32_length _, ?_⟩
  unfold name32 nameL
  simp only
  rw [if_pos h3']
  exact h4
theorem header_reads : Reads Ey.header Hd.enc (fun h => h.ok ∧ h.P) := by
  intro e h
  obtain ⟨h2, h3⟩ := e6_size h
  obtain ⟨s, b⟩ := e
  simp only at h2
  subst h2
  by_cases hl : 80 ≤ s.data.toList.length
  · obtain ⟨x, r, e1, ho, hp, e2⟩ := header_long hl
    rw [txt_of] at e2
    rw [e2]
    exact ⟨rfl, ⟨ho, hp⟩, e1⟩
  · rw [header_short (by rw [Lib.size_eq]; omega)] at h
    cases h
theorem count_reads (most : Int) : Reads (fun e => e.count most) (fun v => cnt (v : Nat)) (fun v => (v : Int) ≤ most) := by
  intro e h
  unfold Ey.count at *
  simp only at h ⊢
  split at h
  · cases h
  · rename_i hb
    rw [if_neg hb]
    refine ⟨by simpa using hb, ?_⟩
    unfold behind at *
    split at h
    · cases h
    · rename_i hc
      rw [if_neg hc]
      simp only
      generalize hl : e.s.data.toList = l at *
      have hx := Lib.extract_to_end e.s (counted l most).2
      rw [hl] at hx
      rw [hx]
      clear hx hl
      cases l with
      | nil => exact absurd rfl hc
      | cons b r =>
        rw [counted_cons] at hc ⊢
        by_cases q1 : r.length < szOf b
        · rw [if_pos q1] at hc; exact absurd rfl hc
        · rw [if_neg q1] at hc ⊢
          by_cases q2 : 9223372036854775808 ≤ told b r
          · rw [if_pos q2] at hc; exact absurd rfl hc
          · rw [if_neg q2] at hc ⊢
            by_cases q3 : most < (told b r : Int) ∨ cnt (told b r : Int) ≠ b :: r.take (szOf b)
            · rw [if_pos q3] at hc; exact absurd rfl hc
            · rw [if_neg q3]
              have q4 : (told b r : Int) ≤ most := Int.not_lt.1 fun h => q3 (.inl h)
              have q5 : cnt (told b r : Int) = b :: r.take (szOf b) := Decidable.byContradiction fun h => q3 (.inr h)
              refine ⟨q4, ?_⟩
              simp only
              rw [q5, Nat.add_comm 1, List.drop_succ_cons, List.cons_append, List.take_append_drop]
theorem blk_reads : Reads Ey.blk blkL (fun l => l.length = 32) := by
  intro e h
  unfold Ey.blk at *
  by_cases hc : (e.get 4).1 = 2
  · rw [if_pos hc] at h ⊢
    obtain ⟨a1, a2, a3⟩ := name_reads _ h
    obtain ⟨b1, b2, b3⟩ := get_reads 4 (by omega) (by omega) e a1
    refine ⟨b1, a2, b3.trans ?_⟩
    show num 4 (((e.get 4).1 : Nat) : Int) ++ (e.get 4).2.s.data.toList = _
    rw [hc, a3]
    unfold blkL nameL
    rw [List.append_assoc]
    rfl
  · rw [if_neg hc] at h
    have := (name_step h).1
    cases this
theorem hd0_reads : Reads Ey.hd0 hd0L (fun h => h.ok ∧ h.P) := by
  intro e h
  obtain ⟨a1, a2, a3⟩ := count_reads 0 _ h
  obtain ⟨b1, b2, b3⟩ := header_reads e a1
  refine ⟨b1, b2, b3.trans ?_⟩
  unfold Ey.hd0 hd0L
  simp only at a2 a3 ⊢
  rw [a3]
  have hz : (e.header.2.count 0).1 = 0 := by omega
  rw [hz, List.append_assoc]
  congr 1
theorem many_reads {α : Type} {f : Ey → α × Ey} {g : α → List UInt8} {G : α → Prop} (hr : Reads f g G) : ∀ n, Reads (many f n) (fun xs => xs.flatMap g) (fun xs => ∀ x ∈ xs, G x)
  | 0, e, h => ⟨h, by simp [many], by simp [many]⟩
  | n + 1, e, h => by
    obtain ⟨a1, a2, a3⟩ := many_reads hr n (f e).2 h
    obtain ⟨b1, b2, b3⟩ := hr e a1
    refine ⟨b1, ?_, ?_⟩
    · intro x hx
      rcases List.mem_cons.1 hx with rfl | hx
      · exact b2
      · exact a2 x hx
    · show _ = ((f e).1 :: (many f n (f e).2).1).flatMap g ++ _
      rw [List.flatMap_cons, List.append_assoc, b3]
      congr 1
theorem list_reads {α : Type} {f : Ey → α × Ey} {g : α → List UInt8} {G : α → Prop} (hr : Reads f g G) (most : Int) :
    Reads (fun e => e.list most f) (fun xs => cnt (xs.length : Nat) ++ xs.flatMap g) (fun xs => (∀ x ∈ xs, G x) ∧ (xs.length : Int) ≤ most) := by
  intro e h
  obtain ⟨a1, a2, a3⟩ := many_reads hr _ _ h
  obtain ⟨b1, b2, b3⟩ := count_reads most e a1
  have hl : (e.list most f).1.length = (e.count most).1 := many_length _ _ _
  refine ⟨b1, ⟨a2, by simp only; rw [hl]; exact b2⟩, ?_⟩
  simp only
  rw [hl, b3, List.append_assoc]
  simp only
  rw [a3]
  rfl
/-- what is read, if it is read, is a message that can be, whose payload stood there -/
theorem msg_reads (k : Int) : Reads (fun e => e.msg k) Ms.pay (fun m => m.kind = k ∧ m.ok ∧ ((1 ≤ k ∧ k ≤ 8) → m.P)) := by
  intro e h
  unfold Ey.msg at h ⊢
  unfold Ms.P Ms.pay
  simp only at h ⊢
  by_cases h1 : k = 1
  · simp only [if_pos h1] at h ⊢
    obtain ⟨a1, a2, a3⟩ := get_reads 7 (by omega) (by omega) _ h
    obtain ⟨b1, b2, b3⟩ := get_reads 7 (by omega) (by omega) _ a1
    obtain ⟨c1, c2, c3⟩ := get_reads 4 (by omega) (by omega) _ b1
    obtain ⟨d1, d2, d3⟩ := get_reads 4 (by omega) (by omega) _ c1
    simp only [show ((4 : Nat) : Int) = 4 from rfl, show ((7 : Nat) : Int) = 7 from rfl] at *
    have e4 : (256 : Nat) ^ 4 = 4294967296 := rfl
    have e7 : (256 : Nat) ^ 7 = 72057594037927936 := rfl
    rw [e7] at a2 b2
    rw [e4] at c2 d2
    refine ⟨d1, ⟨trivial, ⟨by simp, z32_length, by simp⟩, fun _ => ⟨⟨by omega, by omega⟩, ⟨by omega, by omega⟩, ⟨by omega, by omega⟩, by omega, by omega⟩⟩, ?_⟩
    rw [d3, c3, b3, a3]
    simp only [List.append_assoc]
  · by_cases h3 : k = 3
    · simp only [if_neg h1, if_pos h3] at h ⊢
      obtain ⟨a1, a2, a3⟩ := name_reads _ h
      obtain ⟨b1, b2, b3⟩ := list_reads name_reads 32 _ a1
      obtain ⟨c1, c2, c3⟩ := get_reads 4 (by omega) (by omega) _ b1
      simp only [show ((4 : Nat) : Int) = 4 from rfl] at *
      have e4 : (256 : Nat) ^ 4 = 4294967296 := rfl
      rw [e4] at c2
      refine ⟨c1, ⟨trivial, ⟨b2.1, a2, by simp⟩, fun _ => ⟨⟨by omega, by omega⟩, by have := b2.2; omega⟩⟩, ?_⟩
      rw [c3, b3, a3]
      simp only [List.append_assoc]
      rfl
    · by_cases h4 : k = 4
      · simp only [if_neg h1, if_neg h3, if_pos h4] at h ⊢
        obtain ⟨b1, b2, b3⟩ := list_reads hd0_reads 64 _ h
        simp only at b2
        refine ⟨b1, ⟨trivial, ⟨by simp, z32_length, fun x hx => (b2.1 x hx).1⟩, fun _ => ⟨fun x hx => (b2.1 x hx).2, by have := b2.2; omega⟩⟩, b3⟩
      · by_cases h5 : k = 5
        · simp only [if_neg h1, if_neg h3, if_neg h4, if_pos h5] at h ⊢
          obtain ⟨b1, b2, b3⟩ := list_reads blk_reads 32 _ h
          simp only at b2
          refine ⟨b1, ⟨trivial, ⟨b2.1, z32_length, by simp⟩, fun _ => by have := b2.2; omega⟩, b3⟩
        · by_cases h6 : k = 6 ∨ k = 7
          · simp only [if_neg h1, if_neg h3, if_neg h4, if_neg h5, if_pos h6] at h ⊢
            obtain ⟨a1, a2, a3⟩ := get_reads 7 (by omega) (by omega) _ h
            simp only [show ((7 : Nat) : Int) = 7 from rfl] at *
            have e7 : (256 : Nat) ^ 7 = 72057594037927936 := rfl
            rw [e7] at a2
            refine ⟨a1, ⟨trivial, ⟨by simp, z32_length, by simp⟩, fun _ => ⟨by omega, by omega⟩⟩, a3⟩
          · simp only [if_neg h1, if_neg h3, if_neg h4, if_neg h5, if_neg h6] at h ⊢
            refine ⟨h, ⟨trivial, ⟨by simp, z32_length, by simp⟩, fun hk => by omega⟩, by simp⟩
theorem bare_kind (m : Ms) : m.bare.kind = m.kind := by
  unfold Ms.bare
  repeat' split
  all_goals rfl
theorem bare_bare (m : Ms) : m.bare.bare = m.bare := by
  obtain ⟨k, ve, se, he, nu, ns, st, hs⟩ := m
  unfold Ms.bare
  simp only
  by_cases h1 : k = 1
  · simp only [if_pos h1]
  · by_cases h3 : k = 3
    · simp only [if_neg h1, if_pos h3]
    · by_cases h4 : k = 4
      · simp only [if_neg h1, if_neg h3, if_pos h4]
      · by_cases h5 : k = 5
        · simp only [if_neg h1, if_neg h3, if_neg h4, if_pos h5]
        · by_cases h6 : k = 6 ∨ k = 7
          · simp only [if_neg h1, if_neg h3, if_neg h4, if_neg h5, if_pos h6]
          · simp only [if_neg h1, if_neg h3, if_neg h4, if_neg h5, if_neg h6]
theorem pay_bare (m : Ms) : m.bare.pay = m.pay := by
  obtain ⟨k, ve, se, he, nu, ns, st, hs⟩ := m
  unfold Ms.bare Ms.pay
  simp only
  by_cases h1 : k = 1
  · simp only [if_pos h1]
  · by_cases h3 : k = 3
    · simp only [if_neg h1, if_pos h3]
    · by_cases h4 : k = 4
      · simp only [if_neg h1, if_neg h3, if_pos h4]
      · by_cases h5 : k = 5
        · simp only [if_neg h1, if_neg h3, if_neg h4, if_pos h5]
        · by_cases h6 : k = 6 ∨ k = 7
          · simp only [if_neg h1, if_neg h3, if_neg h4, if_neg h5, if_pos h6]
          · simp only [if_neg h1, if_neg h3, if_neg h4, if_neg h5, if_neg h6]
theorem bare_P (m : Ms) : m.bare.P ↔ m.P := by
  obtain ⟨k, ve, se, he, nu, ns, st, hs⟩ := m
  unfold Ms.bare Ms.P
  simp only
  by_cases h1 : k = 1
  · simp only [if_pos h1]
  · by_cases h3 : k = 3
    · simp only [if_neg h1, if_pos h3]
    · by_cases h4 : k = 4
      · simp only [if_neg h1, if_neg h3, if_pos h4]
      · by_cases h5 : k = 5
        · simp only [if_neg h1, if_neg h3, if_neg h4, if_pos h5]
        · by_cases h6 : k = 6 ∨ k = 7
          · simp only [if_neg h1, if_neg h3, if_neg h4, if_neg h5, if_pos h6]
          · simp only [if_neg h1, if_neg h3, if_neg h4, if_neg h5, if_neg h6]
theorem bare_ok {m : Ms} (h : m.ok) : m.bare.ok := by
  obtain ⟨h1, h2, h3⟩ := h
  unfold Ms.bare
  repeat' split
  all_goals refine ⟨?_, ?_, ?_⟩ <;> first | assumption | exact z32_length | (intro x hx; cases hx)
/-- two messages that can be are the same just if they are of one kind and have one payload -/
theorem same_iff {a b : Ms} (ha : a.P) (hb : b.P) (oa : a.ok) (ob : b.ok) : a.bare = b.bare ↔ a.kind = b.kind ∧ a.pay = b.pay := by
  constructor
  · intro h
    exact ⟨by rw [← bare_kind a, ← bare_kind b, h], by rw [← pay_bare a, ← pay_bare b, h]⟩
  · rintro ⟨h1, h2⟩
    have q1 := read_pay ha oa []
    have q2 := read_pay hb ob []
    rw [h1, h2, q2] at q1
    exact (congrArg Prod.fst q1).symm
theorem P_kind {m : Ms} (h : m.P) : 1 ≤ m.kind ∧ m.kind ≤ 8 := by
  unfold Ms.P at h
  split at h
  · omega
  · split at h
    · omega
    · split at h
      · omega
      · split at h
        · omega
        · split at h <;> omega
/-- a payload cut short is none -/
theorem cut_none {m : Ms} (hp : m.P) (ho : m.ok) (c : Nat) (hc : c < m.pay.length) (hd : (Ey.msg ⟨txt (m.pay.take c), false⟩ m.kind).2.bad = false) (hs : (Ey.msg ⟨txt (m.pay.take c), false⟩ m.kind).2.s.size = 0) : False := by
  obtain ⟨_, ⟨a1, a2, a3⟩, a4⟩ := msg_reads m.kind _ hd
  simp only at a1 a2 a3 a4
  generalize Ey.msg ⟨txt (m.pay.take c), false⟩ m.kind = q at *
  obtain ⟨x, e⟩ := q
  simp only at *
  have h0 : e.s.data.toList = [] := List.eq_nil_of_length_eq_zero (by rw [← Lib.size_eq]; exact hs)
  rw [h0, List.append_nil, txt_list] at a4
  have q1 := read_pay (a3 (P_kind hp)) a2 (m.pay.drop c)
  rw [← a4, List.take_append_drop, a1] at q1
  have q2 := read_pay hp ho []
  rw [List.append_nil, q1] at q2
  have q3 := congrArg (fun z => z.2.s) q2
  simp only at q3
  have q4 := congrArg (fun z => z.data.toList.length) q3
  simp only [txt_list, List.length_drop, List.length_nil] at q4
  omega
/-- a payload with something behind is none -/
theorem more_none {m : Ms} (hp : m.P) (ho : m.ok) (r : List UInt8) : (Ey.msg ⟨txt (m.pay ++ r), false⟩ m.kind).2 = ⟨txt r, false⟩ := by
  rw [read_pay hp ho r]
end Go.Proofs.YtmpllagaeoolaaaDoor
