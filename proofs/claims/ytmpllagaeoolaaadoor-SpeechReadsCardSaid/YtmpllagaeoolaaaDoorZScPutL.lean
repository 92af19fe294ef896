/-
  Layer 5's laws: put: what a script's items come to.
-/
import Derived.Test.YtmpllagaeoolaaaDoorZScItem
namespace Go.Proofs.YtmpllagaeoolaaaDoor
open Go.RowKit Mem Sc
/-- what an item's bytes are -/
def encI (x : It) : List UInt8 :=
  if x.kind = 0 then num (near x.size 8) x.n ++ num (near x.size 8) x.n else if x.kind = 1 then cnt x.n else if x.kind = 2 then x.name else if x.kind = 3 then x.text.data.toList else []
def encL (its : List It) : List UInt8 := its.flatMap encI
theorem encL_next (its : List It) (k : Nat) (hk : k < its.length) : encL (its.take (k + 1)) = encL (its.take k) ++ encI its[k] := by
  unfold encL
  rw [List.take_succ_eq_append_getElem hk, List.flatMap_append]
  simp
theorem encI_le (x : It) (h : x.name.length = 32) : (encI x).length ≤ 32 + x.text.size := by
  have h1 := (near_le x.size 8 (by omega)).2
  have h2 := (cnt_length x.n).2
  unfold encI
  split
  · rw [List.length_append, num_length]; omega
  · split
    · omega
    · split
      · omega
      · split
        · rw [← Lib.size_eq]; omega
        · simp
theorem encL_le (its : List It) (h : ∀ x ∈ its, x.name.length = 32) : (encL its).length ≤ 32 * its.length + total its := by
  unfold encL total
  induction its with
  | nil => simp
  | cons x its ih =>
    have h1 := encI_le x (h x (by simp))
    have h2 := ih (fun y hy => h y (by simp [hy]))
    simp only [List.flatMap_cons, List.length_append, List.map_cons, List.sum_cons, List.length_cons]
    omega
/-- two numbers are put -/
theorem put2_at (b : Nat) (v : Value) (l : List UInt8) (size : Int) (x : Int) (w : World) (H : Nat) (hH : w.heap.size = H) (h : PenAt w b v l) (hsz : l.length ≤ 70368744177600) :
    Calls Tryd.prog 41 #[.pointer (some ⟨b, 0, none⟩), .int .i64 size, .slice (some ⟨H, 0, none⟩) 2 2] (w.alloc (.cells #[.int .i64 x, .int .i64 x] 3)) fun r w' => PenPost w b v (l ++ (num (near size 8) x ++ num (near size 8) x)) r w' := by
  subst hH
  have hb : Below w.heap.size w (w.alloc (.cells #[.int .i64 x, .int .i64 x] 3)) := (Below.refl _ _).alloc (Nat.le_refl _) _
  refine (put_at b v l size _ [x, x] 2 2 rfl _ (h.below hb) (IntsAt.new w h _ [x, x] _ rfl) (by omega)).mono ?_
  rintro r w' ⟨v', rfl, hP, hS⟩
  have e : nums (near size 8) [x, x] = num (near size 8) x ++ num (near size 8) x := by simp [nums]
  rw [e] at hP
  exact ⟨v', rfl, hP, hS.below hb⟩
/-- one name is put -/
theorem pname1_at (b : Nat) (v : Value) (l : List UInt8) (x : List UInt8) (hx : x.length = 32) (w : World) (H : Nat) (hH : w.heap.size = H) (h : PenAt w b v l) (hsz : l.length ≤ 70368744177600) :
    Calls Tryd.prog 43 #[.pointer (some ⟨b, 0, none⟩), .slice (some ⟨H, 0, none⟩) 1 1] (w.alloc (.cells (bytesV x) 24)) fun r w' => PenPost w b v (l ++ x) r w' := by
  subst hH
  have hlt := h.lt
  have hb : Below w.heap.size w (w.alloc (.cells (bytesV x) 24)) := (Below.refl _ _).alloc (Nat.le_refl _) _
  refine (pnames_at b v l _ [x] 1 1 rfl _ (h.below hb) (fun _ => ⟨w.heap.size, 0, rfl, by rw [World.size_alloc]; omega, fun i hi => ?_⟩) (fun _ p hp => ?_) (fun y hy => by simp at hy; subst hy; exact hx) (by omega)).mono ?_
  · obtain rfl : i = 0 := by simpa using hi
    refine ⟨hx, fun j u hu => ?_⟩
    have := news_bytes w x 24 j u hu
    rw [Addr.add_mid] at this
    simpa using this
  · obtain rfl := Option.some.inj hp
    exact ⟨by show w.heap.size ≠ b; omega, fun e => absurd (h.ownLt (k := w.heap.size) e).2 (by omega)⟩
  · rintro r w' ⟨v', rfl, hP, hS⟩
    have e : [x].flatten = x := by simp
    rw [e] at hP
    exact ⟨v', rfl, hP, hS.below hb⟩
structure PutS (w wr : World) (P : Nat) (v : Value) (l : List UInt8) : Prop where
  below : Below w.heap.size w wr
  pen : PenAt wr P v l
end Go.Proofs.YtmpllagaeoolaaaDoor
