/-
  Points of faults; a board and its row, as plain mathematics.
-/
import Derived.WalkKit
namespace Go.Proofs.Ytehineieklpgoaa.Sr
/-- a fault's points -/
def pt (z : Int) : Nat := if z = 1 ∨ z = 2 ∨ z = 3 ∨ z = 5 then 100 else if z = 6 then 50 else if z = 4 then 20 else if z = 7 then 10 else 0
theorem pt_le (z : Int) : pt z ≤ 100 := by unfold pt; split <;> (try split) <;> (try split) <;> (try split) <;> omega
theorem pt_none {z : Int} (h : z < 1 ∨ 7 < z) : pt z = 0 := by
  unfold pt
  rw [if_neg (by omega), if_neg (by omega), if_neg (by omega), if_neg (by omega)]
/-- of faults together -/
def pts (l : List Int) : Nat := (l.map pt).sum
theorem pts_nil : pts [] = 0 := rfl
theorem pts_app (l m : List Int) : pts (l ++ m) = pts l + pts m := by unfold pts; rw [List.map_append, List.sum_append]
theorem pts_one (z : Int) : pts [z] = pt z := by unfold pts; simp
theorem pts_snoc (l : List Int) (z : Int) : pts (l ++ [z]) = pts l + pt z := by rw [pts_app, pts_one]
theorem pts_le : ∀ l : List Int, pts l ≤ 100 * l.length
  | [] => Nat.le_refl _
  | z :: l => by
    have h1 := pts_le l
    have h2 := pt_le z
    have h3 := pts_app [z] l
    rw [pts_one] at h3
    rw [show z :: l = [z] ++ l from rfl, h3, List.length_append, List.length_singleton]
    omega
theorem pts_rev (l : List Int) : pts l.reverse = pts l := by
  induction l with
  | nil => rfl
  | cons z l ih => rw [List.reverse_cons, pts_snoc, ih, show z :: l = [z] ++ l from rfl, pts_app, pts_one]; omega
theorem take_more {α : Type} {l : List α} {k : Nat} {x : α} (h : l[k]? = some x) : l.take (k + 1) = l.take k ++ [x] := by
  rw [List.take_add_one, h]; rfl
def upd (p : Int → Nat) (k : Int) (v : Nat) : Int → Nat := fun y => if y = k then v else p y
theorem upd_same (p : Int → Nat) (k : Int) (v : Nat) : upd p k v k = v := if_pos rfl
theorem upd_other (p : Int → Nat) {k y : Int} (v : Nat) (h : y ≠ k) : upd p k v y = p y := if_neg h
theorem upd_id (p : Int → Nat) (k : Int) : upd p k (p k) = p := by
  funext y
  unfold upd
  split
  · rename_i h; rw [h]
  · rfl
/-- a board: points of peers; the row of those who aren't welcome -/
structure Bd where
  p : Int → Nat
  row : List Int
def Bd.new : Bd := ⟨fun _ => 0, []⟩
def Bd.shuns (b : Bd) (x : Int) : Bool := decide (x ∈ b.row)
def Bd.forget (b : Bd) (x : Int) : Bd := ⟨upd b.p x 0, b.row⟩
/-- the row without one -/
def wo (l : List Int) (x : Int) : List Int := l.filter fun y => y != x
def last16 (l : List Int) : List Int := l.drop (l.length - 16)
def shunRow (l : List Int) (x : Int) : List Int := last16 (wo l x ++ [x])
def Bd.blame (b : Bd) (x : Int) (n : Nat) : Bd := if 100 ≤ b.p x + n then ⟨upd b.p x 0, shunRow b.row x⟩ else ⟨upd b.p x (b.p x + n), b.row⟩
structure Bd.Ok (b : Bd) : Prop where
  low : ∀ k, b.p k < 100
  few : b.row.length ≤ 16
  once : b.row.Nodup
theorem Bd.new_ok : Bd.new.Ok := ⟨fun _ => by show 0 < 100; decide, by show 0 ≤ 16; decide, List.nodup_nil⟩
theorem mem_wo {l : List Int} {x y : Int} : y ∈ wo l x ↔ y ∈ l ∧ y ≠ x := by unfold wo; rw [List.mem_filter]; simp
theorem wo_len (l : List Int) (x : Int) : (wo l x).length ≤ l.length := List.length_filter_le _ _
theorem wo_once {l : List Int} (h : l.Nodup) (x : Int) : (wo l x ++ [x]).Nodup := by
  rw [List.nodup_append]
  refine ⟨h.filter _, by simp, fun a ha b hb e => ?_⟩
  rw [List.mem_singleton] at hb
  subst hb
  exact (mem_wo.1 ha).2 e
theorem last16_len (l : List Int) : (last16 l).length ≤ 16 := by unfold last16; rw [List.length_drop]; omega
theorem last16_sub (l : List Int) {y : Int} (h : y ∈ last16 l) : y ∈ l := List.mem_of_mem_drop h
theorem shun_len (l : List Int) (x : Int) : (shunRow l x).length ≤ 16 := last16_len _
theorem shun_once {l : List Int} (h : l.Nodup) (x : Int) : (shunRow l x).Nodup := (wo_once h x).sublist (List.drop_sublist _ _)
theorem shun_last (l : List Int) (x : Int) : ∃ m, shunRow l x = m ++ [x] := by
  unfold shunRow last16
  refine ⟨(wo l x).drop ((wo l x ++ [x]).length - 16), ?_⟩
  rw [List.drop_append_of_le_length (by simp)]
theorem mem_shun_self (l : List Int) (x : Int) : x ∈ shunRow l x := by
  obtain ⟨m, e⟩ := shun_last l x
  rw [e]; simp
theorem mem_shun {l : List Int} {x y : Int} (h : y ∈ shunRow l x) : y ∈ l ∨ y = x := by
  have := last16_sub _ h
  rw [List.mem_append, List.mem_singleton] at this
  exact this.imp (fun h => (mem_wo.1 h).1) id
/-- the row of at most sixteen, each once: at most one is too many -/
theorem shun_cut {l : List Int} (hl : l.length ≤ 16) (x : Int) : shunRow l x = if 16 < (wo l x ++ [x]).length then (wo l x ++ [x]).drop 1 else wo l x ++ [x] := by
  have h1 := wo_len l x
  unfold shunRow last16
  split
  · rename_i h
    have h2 : (wo l x ++ [x]).length = 17 := by simp at h ⊢; omega
    rw [h2]
  · rename_i h
    rw [Nat.sub_eq_zero_of_le (by omega)]
    rfl
theorem Bd.Ok.blame {b : Bd} (h : b.Ok) (x : Int) (n : Nat) : (b.blame x n).Ok := by
  unfold Bd.blame
  split
  · refine ⟨fun k => ?_, shun_len _ _, shun_once h.once _⟩
    by_cases e : k = x
    · subst e
      show upd b.p k 0 k < 100
      rw [upd_same]; decide
    · show upd b.p x 0 k < 100
      rw [upd_other _ _ e]; exact h.low k
  · rename_i hn
    refine ⟨fun k => ?_, h.few, h.once⟩
    by_cases e : k = x
    · subst e
      show upd b.p k _ k < 100
      rw [upd_same]; omega
    · show upd b.p x _ k < 100
      rw [upd_other _ _ e]; exact h.low k
theorem Bd.Ok.forget {b : Bd} (h : b.Ok) (x : Int) : (b.forget x).Ok := by
  refine ⟨fun k => ?_, h.few, h.once⟩
  by_cases e : k = x
  · subst e
    show upd b.p k _ k < 100
    rw [upd_same]; decide
  · show upd b.p x _ k < 100
    rw [upd_other _ _ e]; exact h.low k
theorem Bd.Ok.blame_none {b : Bd} (h : b.Ok) (x : Int) : b.blame x 0 = b := by
  have := h.low x
  unfold Bd.blame
  rw [if_neg (by omega), Nat.add_zero, upd_id]
/-! ### a row without one, found by its place -/
theorem wo_not {l : List Int} {x : Int} (h : x ∉ l) : wo l x = l := by
  unfold wo
  rw [List.filter_eq_self]
  intro y hy
  simp only [bne_iff_ne, ne_eq]
  exact fun e => h (e ▸ hy)
theorem wo_at : ∀ {l : List Int} {x : Int} {i : Nat}, l.Nodup → l[i]? = some x → wo l x = l.take i ++ l.drop (i + 1)
  | [], _, _, _, h => by simp at h
  | y :: l, x, 0, hn, h => by
    obtain rfl : y = x := by simpa using h
    rw [List.nodup_cons] at hn
    have : wo (y :: l) y = wo l y := by unfold wo; rw [List.filter_cons_of_neg (by simp)]
    rw [this, wo_not hn.1]
    rfl
  | y :: l, x, i + 1, hn, h => by
    rw [List.nodup_cons] at hn
    have h' : l[i]? = some x := by simpa using h
    have hne : y ≠ x := fun e => hn.1 (e ▸ List.mem_of_getElem? h')
    have : wo (y :: l) x = y :: wo l x := by unfold wo; rw [List.filter_cons_of_pos (by simpa using hne)]
    rw [this, wo_at hn.2 h']
    rfl
/-! ### the document's board: peers in the order in which they came, and their points -/
theorem idx_lt_mem {l : List Int} {x : Int} : l.idxOf x < l.length ↔ x ∈ l := List.idxOf_lt_length_iff
/-- the points of a peer, by where it stands -/
def look (ps : List Int) (ss : List Nat) (x : Int) : Nat := ss.getD (ps.idxOf x) 0
theorem look_none {ps : List Int} {ss : List Nat} (h : ps.length = ss.length) {x : Int} (hx : x ∉ ps) : look ps ss x = 0 := by
  unfold look
  rw [List.idxOf_eq_length hx, List.getD_eq_getElem?_getD, List.getElem?_eq_none (by omega)]
  rfl
theorem look_set {ps : List Int} {ss : List Nat} (h : ps.length = ss.length) {x : Int} (hx : x ∈ ps) (v : Nat) : look ps (ss.set (ps.idxOf x) v) = upd (look ps ss) x v := by
  funext y
  have hi := idx_lt_mem.2 hx
  unfold look upd
  split
  · rename_i e
    subst e
    simp only [List.getD_eq_getElem?_getD]
    rw [List.getElem?_set_self (by omega)]
    rfl
  · rename_i e
    simp only [List.getD_eq_getElem?_getD]
    by_cases hy : y ∈ ps
    · have hj := idx_lt_mem.2 hy
      have hne : ps.idxOf x ≠ ps.idxOf y := fun e2 => e (by
        have h1 := List.getElem_idxOf hi
        have h2 := List.getElem_idxOf hj
        rw [← h1, ← h2]
        simp only [e2])
      rw [List.getElem?_set_ne hne]
    · rw [List.idxOf_eq_length hy, List.getElem?_eq_none (by rw [List.length_set]; omega), List.getElem?_eq_none (by omega)]
theorem look_more {ps : List Int} {ss : List Nat} (h : ps.length = ss.length) {x : Int} (hx : x ∉ ps) : look (ps ++ [x]) (ss ++ [0]) = look ps ss := by
  funext y
  by_cases hy : y ∈ ps
  · have hj := idx_lt_mem.2 hy
    unfold look
    rw [List.idxOf_append, if_pos hy]
    simp only [List.getD_eq_getElem?_getD]
    rw [List.getElem?_append_left (by omega)]
  · rw [look_none h hy]
    unfold look
    rw [List.idxOf_append, if_neg hy]
    simp only [List.getD_eq_getElem?_getD]
    by_cases e : y = x
    · subst e
      simp [h]
    · rw [List.getElem?_eq_none]
      · rfl
      · have : [x].idxOf y = 1 := by rw [List.idxOf_eq_length (by simpa using e)]; rfl
        rw [this]; simp; omega
theorem set_low {ss : List Nat} (h : ∀ s ∈ ss, s < 100) (i : Nat) {v : Nat} (hv : v < 100) : ∀ s ∈ ss.set i v, s < 100 := fun s hs => by
  rcases List.mem_or_eq_of_mem_set hs with h1 | h1
  · exact h s h1
  · omega
theorem look_at {ps : List Int} {ss : List Nat} {x : Int} {s : Nat} (h : ss[ps.idxOf x]? = some s) : look ps ss x = s := by
  unfold look
  rw [List.getD_eq_getElem?_getD, h]; rfl
theorem look_new {ps : List Int} {x : Int} (hx : x ∉ ps) : (ps ++ [x]).idxOf x = ps.length := by
  rw [List.idxOf_append, if_neg hx]
  simp
end Go.Proofs.Ytehineieklpgoaa.Sr
