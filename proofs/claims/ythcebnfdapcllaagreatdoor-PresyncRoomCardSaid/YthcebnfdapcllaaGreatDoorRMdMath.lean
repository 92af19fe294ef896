import Derived.WalkKit
namespace Go.Proofs.YthcebnfdapcllaaGreatDoor.Md
def srt (l : List Int) : List Int := l.mergeSort fun x y => decide (x ≤ y)
theorem srt_perm (l : List Int) : (srt l).Perm l := List.mergeSort_perm _ _
theorem srt_length (l : List Int) : (srt l).length = l.length := List.length_mergeSort l
theorem srt_sorted (l : List Int) : (srt l).Pairwise (fun x y => x ≤ y) := by
  have h := List.pairwise_mergeSort (le := fun x y : Int => decide (x ≤ y)) (by intro a b c; simp; omega) (by intro a b; simp; omega) l
  exact h.imp (by intro a b h; simpa using h)
def mid (l : List Int) : Int := (srt (l.take 11)).getD ((l.take 11).length / 2) 0
theorem mid_nil : mid [] = 0 := by simp [mid, srt]
def less (x : Int) (l : List Int) : Nat := l.countP fun y => decide (y < x)
def same (x : Int) (l : List Int) : Nat := l.countP fun y => decide (y = x)
def rank (x : Int) (l : List Int) : Prop := less x l ≤ l.length / 2 ∧ l.length / 2 < less x l + same x l
instance (x : Int) (l : List Int) : Decidable (rank x l) := by unfold rank; infer_instance
theorem less_perm {l m : List Int} (h : l.Perm m) (x : Int) : less x l = less x m := h.countP_eq _
theorem same_perm {l m : List Int} (h : l.Perm m) (x : Int) : same x l = same x m := h.countP_eq _
theorem less_same (x : Int) (l : List Int) : less x l + same x l = l.countP fun y => decide (y ≤ x) := by
  unfold less same
  induction l with
  | nil => rfl
  | cons a l ih =>
    simp only [List.countP_cons]
    by_cases h1 : a < x
    · simp [h1, show a ≠ x by omega, show a ≤ x by omega]; omega
    · by_cases h2 : a = x
      · simp [h2]; omega
      · simp [h1, h2, show ¬ a ≤ x by omega]; omega
theorem rank_one {x y : Int} {l : List Int} (hx : rank x l) (hy : rank y l) : x = y := by
  have key : ∀ a b : Int, a < b → l.countP (fun y => decide (y ≤ a)) ≤ l.countP (fun y => decide (y < b)) := fun a b hab =>
    List.countP_mono_left fun z _ hz => by simp at hz ⊢; omega
  obtain ⟨h1, h2⟩ := hx
  obtain ⟨h3, h4⟩ := hy
  rw [less_same] at h2 h4
  unfold less at h1 h3
  rcases Int.lt_trichotomy x y with h | h | h
  · have := key x y h; omega
  · exact h
  · have := key y x h; omega
theorem rank_sorted (l : List Int) (hs : l.Pairwise (fun x y => x ≤ y)) (h : 0 < l.length) : rank (l.getD (l.length / 2) 0) l := by
  have hk : l.length / 2 < l.length := by omega
  generalize hK : l.length / 2 = k at hk
  have hg : l.getD k 0 = l[k] := by simp [hk]
  have hle : ∀ i j (hi : i < l.length) (hj : j < l.length), i ≤ j → l[i] ≤ l[j] := by
    intro i j hi hj hij
    rcases Nat.lt_or_eq_of_le hij with h' | rfl
    · exact List.pairwise_iff_getElem.1 hs i j hi hj h'
    · exact Int.le_refl _
  unfold rank
  rw [less_same, hK, hg]
  constructor
  · unfold less
    have e : l = l.take k ++ l.drop k := (List.take_append_drop k l).symm
    rw [show List.countP (fun y => decide (y < l[k])) l = List.countP (fun y => decide (y < l[k])) (l.take k ++ l.drop k) by rw [List.take_append_drop], List.countP_append]
    have h1 : List.countP (fun y => decide (y < l[k])) (l.take k) ≤ k := Nat.le_trans List.countP_le_length (by simp; omega)
    have h2 : List.countP (fun y => decide (y < l[k])) (l.drop k) = 0 := by
      rw [List.countP_eq_zero]
      intro a ha
      obtain ⟨i, hi, rfl⟩ := List.getElem_of_mem ha
      simp at hi
      have := hle k (k + i) hk (by omega) (by omega)
      simp; omega
    omega
  · rw [show List.countP (fun y => decide (y ≤ l[k])) l = List.countP (fun y => decide (y ≤ l[k])) (l.take (k + 1) ++ l.drop (k + 1)) by rw [List.take_append_drop], List.countP_append]
    have h1 : List.countP (fun y => decide (y ≤ l[k])) (l.take (k + 1)) = (l.take (k + 1)).length := by
      rw [List.countP_eq_length]
      intro a ha
      obtain ⟨i, hi, rfl⟩ := List.getElem_of_mem ha
      simp at hi
      have := hle i k (by omega) hk (by omega)
      simpa using this
    rw [h1]
    simp; omega
theorem rank_perm {l m : List Int} (h : l.Perm m) {x : Int} (hx : rank x l) : rank x m := by
  unfold rank at *
  rw [← less_perm h, ← same_perm h, ← h.length_eq]; exact hx
theorem mid_rank (l : List Int) (h : 0 < l.length) : rank (mid l) (l.take 11) := by
  have hl := srt_length (l.take 11)
  have h2 : 0 < (l.take 11).length := by simp; omega
  have := rank_sorted (srt (l.take 11)) (srt_sorted _) (by omega)
  rw [hl] at this
  exact rank_perm (srt_perm _) this
theorem mid_mem (l : List Int) (h : 0 < l.length) : mid l ∈ l.take 11 := by
  have hk : (l.take 11).length / 2 < (srt (l.take 11)).length := by rw [srt_length]; simp; omega
  unfold mid
  rw [List.getD_eq_getElem?_getD, List.getElem?_eq_getElem hk, Option.getD_some]
  exact (srt_perm _).mem_iff.1 (List.getElem_mem hk)
end Go.Proofs.YthcebnfdapcllaaGreatDoor.Md
