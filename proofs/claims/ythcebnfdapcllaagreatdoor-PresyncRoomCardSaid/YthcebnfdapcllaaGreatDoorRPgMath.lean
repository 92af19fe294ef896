import Derived.Test.YthcebnfdapcllaaGreatDoorRScMath
import Derived.Test.YthcebnfdapcllaaGreatDoorRBunQ2
namespace Go.Proofs.YthcebnfdapcllaaGreatDoor.Pg
open Sc Sha
structure Pl where
  s : Int
  p : Int
  o : Int
def Pl.good (x : Pl) : Bool := decide (1 ≤ x.p) && (decide (x.p ≤ 64) && (decide (0 ≤ x.o) && decide (x.o < x.p)))
def Pl.due (x : Pl) (h : Int) : Bool := x.good && (decide (0 ≤ h) && decide (h.tmod x.p = x.o))
def pbit (s : Int) (id : List UInt8) : Bool := decide (((sha (sha (num 8 s ++ id))).getD 0 0).toNat % 2 = 1)
def gv (x : Pl) (h : Int) : List (List UInt8) → List Bool
  | [] => []
  | id :: l => if x.due h then pbit x.s id :: gv x (h + 1) l else gv x (h + 1) l
theorem gv_append (x : Pl) (a b : List (List UInt8)) : ∀ h, gv x h (a ++ b) = gv x h a ++ gv x (h + a.length) b := by
  induction a with
  | nil => intro h; simp [gv]
  | cons id a ih =>
    intro h
    have e : h + 1 + (a.length : Int) = h + ((id :: a).length : Nat) := by simp only [List.length_cons]; omega
    simp only [List.cons_append, gv, ih, e]
    split <;> rfl
theorem gv_one (x : Pl) (h : Int) (id : List UInt8) : gv x h [id] = if x.due h then [pbit x.s id] else [] := rfl
theorem gv_take (x : Pl) (h : Int) (l : List (List UInt8)) (k : Nat) (hk : k < l.length) : gv x h (l.take (k + 1)) = gv x h (l.take k) ++ (if x.due (h + k) then [pbit x.s l[k]] else []) := by
  rw [List.take_succ_eq_append_getElem hk, gv_append, List.length_take, Nat.min_eq_left (Nat.le_of_lt hk), gv_one]
theorem gv_le (x : Pl) (l : List (List UInt8)) : ∀ h, (gv x h l).length ≤ l.length := by
  induction l with
  | nil => intro h; exact Nat.le_refl _
  | cons id l ih =>
    intro h
    have := ih (h + 1)
    simp only [gv]
    split <;> simp only [List.length_cons] <;> omega
structure Ws (ws : List Nat) (bs : List Bool) : Prop where
  lt : ∀ x ∈ ws, x < 2 ^ 64
  room : bs.length ≤ 64 * ws.length
  at_ : ∀ j (hj : j < ws.length) i, i < 64 → ws[j].testBit i = bs.getD (64 * j + i) false
theorem Ws.nil : Ws [] [] := ⟨by simp, by simp, by simp⟩
theorem Ws.longer {ws : List Nat} {bs : List Bool} (h : Ws ws bs) (n : Nat) : Ws (ws ++ List.replicate n 0) bs := by
  refine ⟨fun x hx => ?_, by rw [List.length_append, List.length_replicate]; have := h.room; omega, fun j hj i hi => ?_⟩
  · rcases List.mem_append.1 hx with hx | hx
    · exact h.lt x hx
    · rw [List.eq_of_mem_replicate hx]; decide
  · rw [List.getElem_append]
    by_cases hj' : j < ws.length
    · rw [dif_pos hj']; exact h.at_ j hj' i hi
    · rw [dif_neg hj', List.getElem_replicate, Nat.zero_testBit, List.getD_eq_getElem?_getD, List.getElem?_eq_none (by have := h.room; omega)]; rfl
theorem getD_snoc (bs : List Bool) (b : Bool) (k : Nat) : (bs ++ [b]).getD k false = if k = bs.length then b else bs.getD k false := by
  rw [List.getD_eq_getElem?_getD, List.getD_eq_getElem?_getD]
  by_cases h : k < bs.length
  · rw [List.getElem?_append_left h, if_neg (by omega)]
  · rw [List.getElem?_append_right (by omega)]
    by_cases e : k = bs.length
    · rw [if_pos e, e, Nat.sub_self]; rfl
    · rw [if_neg e, List.getElem?_eq_none (by simp; omega), List.getElem?_eq_none (by omega)]
theorem Ws.no {ws : List Nat} {bs : List Bool} (h : Ws ws bs) (hr : bs.length < 64 * ws.length) : Ws ws (bs ++ [false]) := by
  refine ⟨h.lt, by rw [List.length_append]; simp only [List.length_cons, List.length_nil]; omega, fun j hj i hi => ?_⟩
  rw [getD_snoc, h.at_ j hj i hi]
  split
  · next e => rw [e, List.getD_eq_getElem?_getD, List.getElem?_eq_none (Nat.le_refl _)]; rfl
  · rfl
theorem Ws.yes {ws : List Nat} {bs : List Bool} (h : Ws ws bs) (j i : Nat) (hj : j < ws.length) (hi : i < 64) (e : bs.length = 64 * j + i) : Ws (ws.set j (ws[j] ||| 2 ^ i)) (bs ++ [true]) := by
  have hl := h.lt
  refine ⟨fun x hx => ?_, by rw [List.length_append, List.length_set]; simp only [List.length_cons, List.length_nil]; omega, fun j' hj' i' hi' => ?_⟩
  · rcases List.mem_or_eq_of_mem_set hx with hx | rfl
    · exact h.lt x hx
    · exact Nat.or_lt_two_pow (h.lt _ (List.getElem_mem hj)) (Nat.pow_lt_pow_right (by decide) hi)
  · rw [List.length_set] at hj'
    rw [getD_snoc, List.getElem_set]
    by_cases ej : j = j'
    · subst ej
      rw [if_pos rfl, Nat.testBit_or, h.at_ j hj i' hi', Nat.testBit_two_pow]
      by_cases ei : i = i'
      · subst ei
        rw [decide_eq_true rfl, Bool.or_true, if_pos e.symm]
      · rw [decide_eq_false ei, Bool.or_false, if_neg (by omega)]
    · rw [if_neg ej, h.at_ j' hj' i' hi', if_neg (by omega)]
theorem Ws.get {ws : List Nat} {bs : List Bool} (h : Ws ws bs) (k : Nat) (hk : k < bs.length) : ∃ hj : k / 64 < ws.length, decide (ws[k / 64] / 2 ^ (k % 64) % 2 = 1) = bs[k] := by
  have hr := h.room
  have hj : k / 64 < ws.length := by omega
  refine ⟨hj, ?_⟩
  have := h.at_ (k / 64) hj (k % 64) (by omega)
  rw [Nat.div_add_mod, List.getD_eq_getElem?_getD, List.getElem?_eq_getElem hk, Nat.testBit_eq_decide_div_mod_eq] at this
  exact this
end Go.Proofs.YthcebnfdapcllaaGreatDoor.Pg
