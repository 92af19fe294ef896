/-
  Frames; rows of ints and what slices.Delete, Clone, Index and Contains answer of them; a map from ints to ints.
-/
import Derived.Test.YtehineieklpgoaaLcApp
import Derived.Test.YtehineieklpgoaaShelf
import Derived.Test.YtehineieklpgoaaSrMath
import Derived.Lib.RowBridge
import Derived.Lib.OwnBridge
import Derived.Maps.OwnSet
import Derived.Maps.Views
namespace Go.Proofs.Ytehineieklpgoaa
open Go.RowKit Mem
/-! ### cells of a block are stored, one behind the other -/
theorem has_setCells (b : Nat) (t : TypeId) : ∀ (vs : List Value) (o : Nat) (w : World) (A B C : List Value), Has w b (A ++ (B ++ C)).toArray t → A.length = o → B.length = vs.length → Has (w.setCells b o vs) b (A ++ (vs ++ C)).toArray t
  | [], o, w, A, B, C, hh, ha, hb => by
    obtain rfl : B = [] := List.eq_nil_of_length_eq_zero hb
    exact hh
  | v :: r, o, w, A, B, C, hh, ha, hb => by
    obtain ⟨x, B', rfl⟩ : ∃ x B', B = x :: B' := by
      cases B with
      | nil => simp at hb
      | cons x B' => exact ⟨x, B', rfl⟩
    have h1 := Has.set (i := o) hh v
    have e : (A ++ (x :: B' ++ C)).toArray.setIfInBounds o v = (A ++ [v] ++ (B' ++ C)).toArray := by
      rw [List.setIfInBounds_toArray, List.set_append_right _ _ (by omega), show o - A.length = 0 by omega]
      simp
    rw [e] at h1
    have := has_setCells b t r (o + 1) _ (A ++ [v]) B' C h1 (by simp [ha]) (by simpa using hb)
    show Has ((w.setCell ⟨b, o, none⟩ v).setCells b (o + 1) r) b _ t
    simpa using this
theorem setCells_other (b c : Nat) (hc : c ≠ b) : ∀ (vs : List Value) (o : Nat) (w : World), (w.setCells b o vs).heap[c]? = w.heap[c]?
  | [], _, _ => rfl
  | v :: r, o, w => by
    show ((w.setCell ⟨b, o, none⟩ v).setCells b (o + 1) r).heap[c]? = _
    rw [setCells_other b c hc r]
    exact Below.heap_setCell _ _ _ _ hc
theorem setCells_rest (b : Nat) : ∀ (vs : List Value) (o : Nat) (w : World), (w.setCells b o vs).os = w.os ∧ (w.setCells b o vs).tape = w.tape ∧ (w.setCells b o vs).output = w.output ∧ (w.setCells b o vs).heap.size = w.heap.size
  | [], _, _ => ⟨rfl, rfl, rfl, rfl⟩
  | v :: r, o, w => by
    obtain ⟨h1, h2, h3, h4⟩ := setCells_rest b r (o + 1) (w.setCell ⟨b, o, none⟩ v)
    exact ⟨h1, h2, h3, h4.trans (by simp [World.setCell])⟩
end Go.Proofs.Ytehineieklpgoaa
namespace Go.Proofs.Ytehineieklpgoaa.An
open Go.RowKit Mem Go.Maps
open Sr (upd)
/-- all blocks stand but those of F -/
structure Kp (F : Nat → Prop) (w w' : World) : Prop where
  os : w'.os = w.os
  tape : w'.tape = w.tape
  output : w'.output = w.output
  size : w.heap.size ≤ w'.heap.size
  block : ∀ k, k < w.heap.size → ¬ F k → w'.heap[k]? = w.heap[k]?
theorem Kp.refl (F : Nat → Prop) (w : World) : Kp F w w := ⟨rfl, rfl, rfl, Nat.le_refl _, fun _ _ _ => rfl⟩
theorem Kp.trans {F G : Nat → Prop} {a b c : World} (h : Kp F a b) (k : Kp G b c) (hG : ∀ i, G i → i < a.heap.size → F i) : Kp F a c :=
  ⟨k.os.trans h.os, k.tape.trans h.tape, k.output.trans h.output, Nat.le_trans h.size k.size, fun i hi hn => (k.block i (Nat.lt_of_lt_of_le hi h.size) (fun hg => hn (hG i hg hi))).trans (h.block i hi hn)⟩
theorem Kp.of {F : Nat → Prop} {w w' : World} (h : Below w.heap.size w w') : Kp F w w' := ⟨h.os, h.tape, h.output, h.size, fun k hk _ => h.block k hk⟩
theorem Kp.gb {F : Nat → Prop} {w w' : World} {r : Option Nat} (h : w.grownBy w' r) (hr : ∀ k, r = some k → F k) : Kp F w w' := ⟨h.os, h.tape, h.output, h.size, fun k hk hn => h.block k hk (fun e => hn (hr k e.symm))⟩
theorem Kp.mono {F G : Nat → Prop} {w w' : World} (h : Kp F w w') (hF : ∀ i, F i → i < w.heap.size → G i) : Kp G w w' := ⟨h.os, h.tape, h.output, h.size, fun k hk hn => h.block k hk (fun hf => hn (hF k hf hk))⟩
theorem Kp.below {F : Nat → Prop} {B : Nat} {w w' : World} (h : Kp F w w') (hF : ∀ i, F i → B ≤ i) (hB : B ≤ w.heap.size) : Below B w w' := ⟨h.os, h.tape, h.output, h.size, fun k hk => h.block k (Nat.lt_of_lt_of_le hk hB) (fun hf => absurd (hF k hf) (by omega))⟩
theorem Kp.has {F : Nat → Prop} {w w' : World} {k : Nat} {cs : Array Value} {t : TypeId} (h : Kp F w w') (hh : Has w k cs t) (hn : ¬ F k) : Has w' k cs t := (h.block k hh.lt hn).trans hh
/-- what is kept, and what came up since -/
def Nxt (F : Nat → Prop) (w w' : World) : Nat → Prop := fun i => F i ∨ (w.heap.size ≤ i ∧ i < w'.heap.size)
/-- a row of ints -/
def RowI (w : World) (v : Value) (l : List Int) : Prop := w.ownsRow 0 3 1 v l.length (l.map (Value.int .i64))
theorem row_parts {w : World} {v : Value} {l : List Int} (h : RowI w v l) : (v = .slice none 0 0 ∧ l = []) ∨ ∃ g c S, v = .slice (some ⟨g, 0, none⟩) l.length c ∧ Has w g (l.map (Value.int .i64) ++ S).toArray 3 ∧ c = l.length + S.length ∧ c ≤ maxLen := by
  obtain ⟨_, ⟨rfl, h0⟩ | ⟨g, c, cur, rfl, _, hg, h1, h2, h3, h4⟩⟩ := h
  · exact .inl ⟨rfl, List.eq_nil_of_length_eq_zero h0⟩
  · rw [Nat.mul_one] at h3 h4
    refine .inr ⟨g, c, cur.toList.drop l.length, rfl, ?_, ?_, h2⟩
    · rw [← h4, List.take_append_drop]
      exact hg
    · have h5 : cur.toList.length = cur.size := Array.length_toList
      rw [List.length_drop]; omega
theorem row_made {w : World} {g c n : Nat} {l : List Int} {S : List Value} (h : Has w g (l.map (Value.int .i64) ++ S).toArray 3) (hc : c = l.length + S.length) (hm : c ≤ maxLen) (hn : n = l.length) : RowI w (.slice (some ⟨g, 0, none⟩) n c) l := by
  subst hn
  exact ⟨by simp, .inr ⟨g, c, _, rfl, Nat.zero_le _, h, by omega, hm, by simp; omega, by simp⟩⟩
theorem kp_setCells (w : World) (b o : Nat) (vs : List Value) : Kp (fun k => k = b) w (w.setCells b o vs) := by
  obtain ⟨h1, h2, h3, h4⟩ := setCells_rest b vs o w
  exact ⟨h1, h2, h3, by rw [h4]; exact Nat.le_refl _, fun k _ hn => setCells_other b k hn vs o w⟩
theorem kp_drew (F : Nat → Prop) (w : World) : Kp F w w.drew := ⟨rfl, rfl, rfl, Nat.le_refl _, fun _ _ _ => rfl⟩
theorem kp_drewN (F : Nat → Prop) (w : World) (q : Nat) : Kp F w (w.drewN q) := ⟨rfl, rfl, rfl, Nat.le_refl _, fun _ _ _ => rfl⟩
theorem ints_one (l : List Int) : ∀ v ∈ l.map (Value.int .i64), v.oneCell' = true := fun v hv => by
  obtain ⟨_, _, rfl⟩ := List.mem_map.1 hv
  rfl
theorem row_split (l : List Int) (i : Nat) : l.map (Value.int .i64) = (l.take i).map (Value.int .i64) ++ (l.drop i).map (Value.int .i64) := by rw [← List.map_append, List.take_append_drop]
theorem z_len (k : Nat) : (Builtin.zeroCells (Value.int .i64 0).cells k).toList.length = k := by simp [Builtin.zeroCells, Value.cells]
/-- what Insert answers -/
def InsP (w w' : World) (v : Value) (l' : List Int) (v' : Value) : Prop := RowI w' v' l' ∧ (v'.ownBlock = v.ownBlock ∨ ∃ g, v'.ownBlock = some g ∧ w.heap.size ≤ g) ∧ Kp (fun k => v.ownBlock = some k) w w'
/-- Delete, of one -/
theorem delete_at {w : World} {v : Value} {l : List Int} (hl : RowI w v l) (i : Nat) (hi : i < l.length) (z : Int) (hz : z = ((i + 1 : Nat) : Int)) :
    Calls Try.prog 28 #[v, .int .i64 (i : Int), .int .i64 z] w fun e w' => ∃ v', e = .returned v' ∧ InsP w w' v (l.take i ++ l.drop (i + 1)) v' := by
  subst hz
  have hmx : maxLen = 9223372036854775807 := rfl
  rcases row_parts hl with ⟨rfl, rfl⟩ | ⟨g, c, S, rfl, hg, hc, hm⟩
  · simp at hi
  · have hH : Sort.Holds (Value.int .i64) w g 0 l.toArray := fun j hj => by
      rw [Nat.zero_add]
      refine ⟨?_, hg.free _⟩
      have hj' : j < l.length := by simpa using hj
      rw [hg.cell j, List.getElem?_toArray, List.getElem?_append_left (by simpa using hj'), List.getElem?_map, List.getElem?_eq_getElem hj']
      simp [hj']
    refine (Try.slices_Delete_int g 0 c i (i + 1) l w hH (by omega) (by omega) (by omega) (by omega)).mono ?_
    rintro e w' ⟨rfl, q, hw⟩
    have hlen : (l.take i ++ l.drop (i + 1) ++ List.replicate (i + 1 - i) (0 : Int)).length = l.toArray.size := by simp; omega
    rw [Lib.putRow_eq_setCells (Value.int .i64) w g 0 l.toArray _ q hH hlen] at hw
    subst hw
    have h2 := has_setCells g 3 ((l.take i ++ l.drop (i + 1) ++ List.replicate (i + 1 - i) (0 : Int)).map (Value.int .i64)) 0 (w.drewN q) [] (l.map (Value.int .i64)) S (Has.drewN (by simpa using hg) q) rfl (by rw [List.length_map, List.length_map, hlen]; simp)
    refine ⟨_, rfl, row_made (S := Value.int .i64 0 :: S) ?_ (by simp at hc ⊢; omega) hm (by simp; omega), .inl rfl, ((kp_drewN (fun k => k = g) w q).trans (kp_setCells _ g _ _) (fun _ h _ => h)).mono fun k hk _ => by rw [hk]; rfl⟩
    rw [show i + 1 - i = 1 by omega] at h2
    simpa using h2
theorem clone_at {w : World} {v : Value} {l : List Int} (hl : RowI w v l) (hn : l.length ≤ 1000) :
    Calls Try.prog 25 #[v] w fun e w' => ∃ v', e = .returned v' ∧ RowI w' v' l ∧ (∀ k, v'.ownBlock = some k → w.heap.size ≤ k) ∧ Below w.heap.size w w' := by
  have weak : ∀ {w' : World} {v' : Value}, w'.ownsRow w.heap.size 3 1 v' l.length (l.map (Value.int .i64)) → RowI w' v' l ∧ ∀ k, v'.ownBlock = some k → w.heap.size ≤ k := fun h => by
    refine ⟨⟨h.1, h.2.imp id fun ⟨g, c, cur, a1, _, a3⟩ => ⟨g, c, cur, a1, Nat.zero_le _, a3⟩⟩, fun k hk => (h.lt k hk).1⟩
  rcases row_parts hl with ⟨rfl, rfl⟩ | ⟨g, c, S, rfl, hg, hc, hm⟩
  · refine (Try.slices_Clone_int_nil 0 0 w).mono ?_
    rintro e w' ⟨rfl, rfl⟩
    exact ⟨_, rfl, World.ownsRow_nil _ _ _ _, fun k hk => (by cases hk), Below.refl _ _⟩
  · by_cases h0 : l = []
    · subst h0
      refine (Try.slices_Clone_int_zero ⟨g, 0, none⟩ c w).mono ?_
      rintro e w' ⟨v', rfl, h1, _, hb⟩
      exact ⟨v', rfl, (weak h1).1, (weak h1).2, hb⟩
    · have hc' : ∀ j, j < l.length → w.cell? ⟨g, 0 + j, none⟩ = some (.int .i64 (l.getD j 0)) := fun j hj => by
        rw [Nat.zero_add, hg.cell j, List.getElem?_toArray, List.getElem?_append_left (by simpa using hj), List.getElem?_map, List.getElem?_eq_getElem hj]
        simp [List.getD, hj]
      refine (Try.slices_Clone_int g 0 l.length c l w (Nat.le_refl _) (by omega) hc').mono ?_
      rintro e w' ⟨v', rfl, h1, _, hb⟩
      rw [List.take_length] at h1
      exact ⟨v', rfl, (weak h1).1, (weak h1).2, hb⟩

def in64 (x : Int) : Prop := -9223372036854775808 ≤ x ∧ x < 9223372036854775808
theorem row_cells {w : World} {g : Nat} {l : List Int} {S : List Value} (hg : Has w g (l.map (Value.int .i64) ++ S).toArray 3) : ∀ j, j < l.length → w.cell? ⟨g, 0 + j, none⟩ = some (.int .i64 (l.getD j 0)) := fun j hj => by
  rw [Nat.zero_add, hg.cell j, List.getElem?_toArray, List.getElem?_append_left (by simpa using hj), List.getElem?_map, List.getElem?_eq_getElem hj]
  simp [List.getD, hj]
/-- Contains -/
theorem contains_at {w : World} {v : Value} {l : List Int} (hl : RowI w v l) (hn : l.length ≤ 1000) (x : Int) :
    Calls Try.prog 26 #[v, .int .i64 x] w fun e w' => e = .returned (.bool (decide (x ∈ l))) ∧ w' = w := by
  rcases row_parts hl with ⟨rfl, rfl⟩ | ⟨g, c, S, rfl, hg, hc, hm⟩
  · exact (Try.slices_Contains_int_empty none 0 x w).mono fun e w' h => by simpa using h
  · refine (Try.slices_Contains_int g 0 l.length c l x w (Nat.le_refl _) (by omega) (row_cells hg)).mono fun e w' h => ?_
    rw [List.take_length] at h
    rw [← List.contains_eq_mem]
    exact h
theorem idxFrom_cases (x : Int) : ∀ (l : List Int) (i : Nat), (Lib.idxFrom l x i = -1 ∧ x ∉ l) ∨ ∃ k : Nat, Lib.idxFrom l x i = ((i + k : Nat) : Int) ∧ l[k]? = some x
  | [], i => .inl ⟨rfl, by simp⟩
  | z :: l, i => by
    by_cases e : z = x
    · subst e
      exact .inr ⟨0, by simp [Lib.idxFrom], rfl⟩
    · have e1 : Lib.idxFrom (z :: l) x i = Lib.idxFrom l x (i + 1) := by simp [Lib.idxFrom, e]
      rw [e1]
      rcases idxFrom_cases x l (i + 1) with ⟨h1, h2⟩ | ⟨k, h1, h2⟩
      · exact .inl ⟨h1, by simp only [List.mem_cons, not_or]; exact ⟨fun h => e h.symm, h2⟩⟩
      · exact .inr ⟨k + 1, by rw [h1]; congr 1; omega, by simpa using h2⟩
theorem idxOf_cases (l : List Int) (x : Int) : (Lib.idxOf l x = -1 ∧ x ∉ l) ∨ ∃ i : Nat, Lib.idxOf l x = (i : Int) ∧ l[i]? = some x := by
  rcases idxFrom_cases x l 0 with h | ⟨k, h1, h2⟩
  · exact .inl h
  · exact .inr ⟨k, by unfold Lib.idxOf; rw [h1]; congr 1; omega, h2⟩
/-- Index: a place, or none -/
theorem index_at {w : World} {v : Value} {l : List Int} (hl : RowI w v l) (hn : l.length ≤ 1000) (x : Int) :
    Calls Try.prog 27 #[v, .int .i64 x] w fun e w' => ∃ z : Int, e = .returned (.int .i64 z) ∧ ((z = -1 ∧ x ∉ l) ∨ ∃ i : Nat, z = (i : Int) ∧ l[i]? = some x) ∧ w' = w := by
  rcases row_parts hl with ⟨rfl, rfl⟩ | ⟨g, c, S, rfl, hg, hc, hm⟩
  · exact (Try.slices_Index_int_empty none 0 x w).mono fun e w' h => ⟨-1, h.1, .inl ⟨rfl, by simp⟩, h.2⟩
  · refine (Try.slices_Index_int g 0 l.length c l x w (Nat.le_refl _) (by omega) (row_cells hg)).mono fun e w' h => ?_
    rw [List.take_length] at h
    exact ⟨_, h.1, idxOf_cases l x, h.2⟩
end Go.Proofs.Ytehineieklpgoaa.An
