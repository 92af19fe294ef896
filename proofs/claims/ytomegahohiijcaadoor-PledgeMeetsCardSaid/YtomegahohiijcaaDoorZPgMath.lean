/-
  Plans and bits by numbers: which heights have a bit, a name's bit, what is given; bits in words.
-/
import Derived.Test.YtomegahohiijcaaDoorZScMath
import Derived.Test.YtomegahohiijcaaDoorBunQ1
namespace Go.Proofs.YtomegahohiijcaaDoor.Pg
open Sc Sha
/-- a plan: its salt, period, offset -/
structure Pl where
  s : Int
  p : Int
  o : Int
def Pl.good (x : Pl) : Bool := decide (1 ≤ x.p) && (decide (x.p ≤ 64) && (decide (0 ≤ x.o) && decide (x.o < x.p)))
def Pl.due (x : Pl) (h : Int) : Bool := x.good && (decide (0 ≤ h) && decide (h.tmod x.p = x.o))
/-- a name's bit -/
def pbit (s : Int) (id : List UInt8) : Bool := decide (((sha (sha (num 8 s ++ id))).getD 0 0).toNat % 2 = 1)
/-- the bits of names at heights from one on -/
def gv (x : Pl) (h : Int) : List (List UInt8) → List Bool
  | [] => []
  | id :: l => if x.due h then pbit x.s id :: gv x (h + 1) l else gv x (h + 1) l
theorem gv_append (x : Pl) (a b : List (List UInt8)) : ∀ h, gv x h (a ++ b) = gv x h a ++ gv x (h + a.length) b := by
  induction a with
  | nil => intro h; simp [gv]
  | cons id a ih =>
    intro h
    have e : h + 1 + (a.length : Int) = h + ((id :: a).length : Nat) := by simp only [List.length_cons]; omega
    simp only [List.cons_append, gv, ih, e]
    split <;> rfl
theorem gv_one (x : Pl) (h : Int) (id : List UInt8) : gv x h [id] = if x.due h then [pbit x.s id] else [] := rfl
theorem gv_take (x : Pl) (h : Int) (l : List (List UInt8)) (k : Nat) (hk : k < l.length) : gv x h (l.take (k + 1)) = gv x h (l.take k) ++ (if x.due (h + k) then [pbit x.s l[k]] else []) := by
  rw [List.take_succ_eq_append_getElem hk, gv_append, List.length_take, Nat.min_eq_left (Nat.le_of_lt hk), gv_one]
theorem gv_cut (x : Pl) (h : Int) (l : List (List UInt8)) (k : Nat) (hk : k ≤ l.length) : gv x h l = gv x h (l.take k) ++ gv x (h + k) (l.drop k) := by
  have := gv_append x (l.take k) (l.drop k) h
  rwa [List.take_append_drop, List.length_take, Nat.min_eq_left hk] at this
theorem gv_le (x : Pl) (l : List (List UInt8)) : ∀ h, (gv x h l).length ≤ l.length := by
  induction l with
  | nil => intro h; exact Nat.le_refl _
  | cons id l ih =>
    intro h
    have := ih (h + 1)
    simp only [gv]
    split <;> simp only [List.length_cons] <;> omega
theorem gv_at (x : Pl) (h : Int) (l : List (List UInt8)) (k : Nat) (hk : k < l.length) (hd : x.due (h + k) = true) : (gv x h l)[(gv x h (l.take k)).length]? = some (pbit x.s l[k]) := by
  rw [gv_cut x h l (k + 1) hk, gv_take x h l k hk, if_pos hd, List.append_assoc, List.getElem?_append_right (Nat.le_refl _), Nat.sub_self]
  rfl
theorem gv_lt (x : Pl) (h : Int) (l : List (List UInt8)) (k : Nat) (hk : k < l.length) (hd : x.due (h + k) = true) : (gv x h (l.take k)).length < (gv x h l).length := (List.getElem?_eq_some_iff.1 (gv_at x h l k hk hd)).1
theorem gv_len_take (x : Pl) (h : Int) (l : List (List UInt8)) (k : Nat) (hk : k < l.length) : (gv x h (l.take (k + 1))).length = (gv x h (l.take k)).length + (if x.due (h + k) then 1 else 0) := by
  rw [gv_take x h l k hk, List.length_append]
  split <;> rfl
/-- how many heights below t have a bit, moved by a period less one less the offset -/
theorem div_next (q : Nat) (hq : 0 < q) (t : Nat) : (t + 1) / q = t / q + (if (t + 1) % q = 0 then 1 else 0) := by
  have h1 := Nat.div_add_mod t q
  have h2 := Nat.mod_lt t hq
  generalize t / q = a at *
  generalize t % q = r at *
  by_cases hr : r + 1 = q
  · have e : t + 1 = q * (a + 1) := by rw [Nat.mul_add]; omega
    rw [e, Nat.mul_div_cancel_left _ hq, Nat.mul_mod_right, if_pos rfl]
  · have e : t + 1 = (r + 1) + q * a := by omega
    have h3 : (t + 1) % q = r + 1 := by rw [e, Nat.add_mul_mod_self_left, Nat.mod_eq_of_lt (by omega)]
    have h4 : (t + 1) / q = a := by rw [e, Nat.add_mul_div_left _ _ hq, Nat.div_eq_of_lt (by omega)]; omega
    rw [h3, h4, if_neg (by omega)]; rfl
theorem due_nat (q o t : Nat) (hq : 0 < q) (ho : o < q) : (t + (q - 1 - o) + 1) % q = 0 ↔ t % q = o := by
  have h1 := Nat.div_add_mod t q
  have h2 := Nat.mod_lt t hq
  generalize t / q = a at *
  generalize t % q = r at *
  have e : t + (q - 1 - o) + 1 = r + (q - o) + q * a := by omega
  rw [e, Nat.add_mul_mod_self_left]
  by_cases hr : r < o
  · rw [Nat.mod_eq_of_lt (by omega)]; omega
  · have e2 : r + (q - o) = (r - o) + q * 1 := by omega
    rw [e2, Nat.add_mul_mod_self_left, Nat.mod_eq_of_lt (by omega)]; omega
theorem good_nat {x : Pl} (h : x.good = true) : ∃ q o : Nat, x.p = q ∧ x.o = o ∧ 0 < q ∧ q ≤ 64 ∧ o < q := by
  simp only [Pl.good, Bool.and_eq_true, decide_eq_true_eq] at h
  exact ⟨x.p.toNat, x.o.toNat, by omega, by omega, by omega, by omega, by omega⟩
theorem due_iff {x : Pl} (hg : x.good = true) {q o : Nat} (hp : x.p = q) (ho : x.o = o) (t : Nat) : x.due (t : Nat) = true ↔ t % q = o := by
  unfold Pl.due
  rw [hg, hp, ho, ← Int.ofNat_tmod]
  simp only [Bool.true_and, Bool.and_eq_true, decide_eq_true_eq]
  omega
theorem gv_count {x : Pl} (hg : x.good = true) {q o : Nat} (hp : x.p = q) (ho : x.o = o) (hq : 0 < q) (hoq : o < q) (l : List (List UInt8)) : ∀ t : Nat, (gv x t l).length + (t + (q - 1 - o)) / q = (t + l.length + (q - 1 - o)) / q := by
  induction l with
  | nil => intro t; simp [gv]
  | cons id l ih =>
    intro t
    have h1 := ih (t + 1)
    have h2 := div_next q hq (t + (q - 1 - o))
    have h3 := due_nat q o t hq hoq
    have h4 := due_iff hg hp ho t
    have e1 : t + 1 + (q - 1 - o) = t + (q - 1 - o) + 1 := by omega
    have e2 : t + (id :: l).length + (q - 1 - o) = t + 1 + l.length + (q - 1 - o) := by simp only [List.length_cons]; omega
    have e3 : ((t + 1 : Nat) : Int) = (t : Int) + 1 := by omega
    rw [e2, ← h1, e1, h2]
    simp only [gv]
    rw [e3]
    by_cases hd : x.due t = true
    · rw [if_pos hd, if_pos (h3.2 (h4.1 hd)), List.length_cons]; omega
    · rw [if_neg hd, if_neg (fun h => hd (h4.2 (h3.1 h)))]; omega
theorem add_div_two (q a b : Nat) (hq : 0 < q) : a / q + b / q ≤ (a + b) / q ∧ (a + b) / q ≤ a / q + b / q + 1 := by
  have h1 := Nat.div_add_mod a q
  have h2 := Nat.mod_lt a hq
  have h3 := Nat.div_add_mod b q
  have h4 := Nat.mod_lt b hq
  generalize a / q = x at *
  generalize a % q = r at *
  generalize b / q = y at *
  generalize b % q = s at *
  have hm := Nat.mul_add q x y
  have e : a + b = (r + s) + q * (x + y) := by omega
  rw [e, Nat.add_mul_div_left _ _ hq]
  have h5 : (r + s) / q < 2 := Nat.div_lt_of_lt_mul (by omega)
  generalize (r + s) / q = z at *
  omega
/-- as many bits as whole periods, or one more -/
theorem gv_span {x : Pl} (hg : x.good = true) (h : Int) (h0 : 0 ≤ h) (l : List (List UInt8)) : ((l.length / x.p.toNat : Nat)) ≤ (gv x h l).length ∧ (gv x h l).length ≤ (l.length / x.p.toNat : Nat) + 1 := by
  obtain ⟨q, o, hp, ho, hq, -, hoq⟩ := good_nat hg
  obtain ⟨t, rfl⟩ : ∃ t : Nat, h = t := ⟨h.toNat, by omega⟩
  have h1 := gv_count hg hp ho hq hoq l t
  have h2 := add_div_two q (t + (q - 1 - o)) l.length hq
  rw [hp, Int.toNat_natCast]
  rw [show t + l.length + (q - 1 - o) = t + (q - 1 - o) + l.length by omega] at h1
  omega
/-! ### bits in words of 64 -/
structure Ws (ws : List Nat) (bs : List Bool) : Prop where
  lt : ∀ x ∈ ws, x < 2 ^ 64
  room : bs.length ≤ 64 * ws.length
  at_ : ∀ j (hj : j < ws.length) i, i < 64 → ws[j].testBit i = bs.getD (64 * j + i) false
theorem Ws.nil : Ws [] [] := ⟨by simp, by simp, by simp⟩
theorem Ws.longer {ws : List Nat} {bs : List Bool} (h : Ws ws bs) (n : Nat) : Ws (ws ++ List.replicate n 0) bs := by
  refine ⟨fun x hx => ?_, by rw [List.length_append, List.length_replicate]; have := h.room; omega, fun j hj i hi => ?_⟩
  · rcases List.mem_append.1 hx with hx | hx
    · exact h.lt x hx
    · rw [List.eq_of_mem_replicate hx]; decide
  · rw [List.getElem_append]
    by_cases hj' : j < ws.length
    · rw [dif_pos hj']; exact h.at_ j hj' i hi
    · rw [dif_neg hj', List.getElem_replicate, Nat.zero_testBit, List.getD_eq_getElem?_getD, List.getElem?_eq_none (by have := h.room; omega)]; rfl
theorem getD_snoc (bs : List Bool) (b : Bool) (k : Nat) : (bs ++ [b]).getD k false = if k = bs.length then b else bs.getD k false := by
  rw [List.getD_eq_getElem?_getD, List.getD_eq_getElem?_getD]
  by_cases h : k < bs.length
  · rw [List.getElem?_append_left h, if_neg (by omega)]
  · rw [List.getElem?_append_right (by omega)]
    by_cases e : k = bs.length
    · rw [if_pos e, e, Nat.sub_self]; rfl
    · rw [if_neg e, List.getElem?_eq_none (by simp; omega), List.getElem?_eq_none (by omega)]
theorem Ws.no {ws : List Nat} {bs : List Bool} (h : Ws ws bs) (hr : bs.length < 64 * ws.length) : Ws ws (bs ++ [false]) := by
  refine ⟨h.lt, by rw [List.length_append]; simp only [List.length_cons, List.length_nil]; omega, fun j hj i hi => ?_⟩
  rw [getD_snoc, h.at_ j hj i hi]
  split
  · next e => rw [e, List.getD_eq_getElem?_getD, List.getElem?_eq_none (Nat.le_refl _)]; rfl
  · rfl
theorem Ws.yes {ws : List Nat} {bs : List Bool} (h : Ws ws bs) (j i : Nat) (hj : j < ws.length) (hi : i < 64) (e : bs.length = 64 * j + i) : Ws (ws.set j (ws[j] ||| 2 ^ i)) (bs ++ [true]) := by
  have hl := h.lt
  refine ⟨fun x hx => ?_, by rw [List.length_append, List.length_set]; simp only [List.length_cons, List.length_nil]; omega, fun j' hj' i' hi' => ?_⟩
  · rcases List.mem_or_eq_of_mem_set hx with hx | rfl
    · exact h.lt x hx
    · exact Nat.or_lt_two_pow (h.lt _ (List.getElem_mem hj)) (Nat.pow_lt_pow_right (by decide) hi)
  · rw [List.length_set] at hj'
    rw [getD_snoc, List.getElem_set]
    by_cases ej : j = j'
    · subst ej
      rw [if_pos rfl, Nat.testBit_or, h.at_ j hj i' hi', Nat.testBit_two_pow]
      by_cases ei : i = i'
      · subst ei
        rw [decide_eq_true rfl, Bool.or_true, if_pos e.symm]
      · rw [decide_eq_false ei, Bool.or_false, if_neg (by omega)]
    · rw [if_neg ej, h.at_ j' hj' i' hi', if_neg (by omega)]
theorem Ws.get {ws : List Nat} {bs : List Bool} (h : Ws ws bs) (k : Nat) (hk : k < bs.length) : ∃ hj : k / 64 < ws.length, decide (ws[k / 64] / 2 ^ (k % 64) % 2 = 1) = bs[k] := by
  have hr := h.room
  have hj : k / 64 < ws.length := by omega
  refine ⟨hj, ?_⟩
  have := h.at_ (k / 64) hj (k % 64) (by omega)
  rw [Nat.div_add_mod, List.getD_eq_getElem?_getD, List.getElem?_eq_getElem hk, Nat.testBit_eq_decide_div_mod_eq] at this
  exact this
end Go.Proofs.YtomegahohiijcaaDoor.Pg
