/-
  scroll's Pen: Names, Text.
-/
import Derived.Test.YtggnnlefalcplaaDoorScPenMore
namespace Go.Proofs.YtggnnlefalcplaaDoor
open Go.RowKit Mem Sc
/-- names lie where a slice says -/
def NamesAt (w : World) (a : Option Addr) (ls : List (List UInt8)) : Prop :=
  0 < ls.length → ∃ ab ao, a = some ⟨ab, ao, none⟩ ∧ ab < w.heap.size ∧ ∀ i (hi : i < ls.length), ls[i].length = 32 ∧ w.rangeAt ab (ao + i * 32) (Lib.byteCells ls[i])
/-- .. apart from a pen -/
def Apart (b : Nat) (v : Value) (a : Option Addr) : Prop := ∀ p, a = some p → p.block ≠ b ∧ v.ownBlock ≠ some p.block
theorem names_take (ls : List (List UInt8)) (k : Nat) (hk : k < ls.length) : (ls.take (k + 1)).flatten = (ls.take k).flatten ++ ls[k] := by
  rw [List.take_succ_eq_append_getElem hk, List.flatten_append]; simp
theorem flatten_le (ls : List (List UInt8)) (h : ∀ x ∈ ls, x.length = 32) (k : Nat) : (ls.take k).flatten.length ≤ 32 * k := by
  rw [List.length_flatten]
  have : ∀ (m : List (List UInt8)), (∀ x ∈ m, x.length = 32) → (m.map List.length).sum = 32 * m.length := by
    intro m hm
    induction m with
    | nil => rfl
    | cons x m ih =>
      simp only [List.map_cons, List.sum_cons, List.length_cons]
      rw [ih (fun y hy => hm y (by simp [hy])), hm x (by simp)]; omega
  rw [this _ (fun x hx => h x (List.mem_of_mem_take hx)), List.length_take]
  exact Nat.mul_le_mul_left _ (Nat.min_le_left _ _)
/-- a slice of bytes that is owned, as a text -/
theorem conv_owned {w : World} {base : Nat} {v : Value} {l : List UInt8} (h : w.ownsRow base 5 1 v l.length (Lib.byteCells l)) : (Go.convert 43 9 v).run Tryd.prog w = .ok (.string ⟨l.toArray⟩) w := by
  rcases h.2 with ⟨rfl, h0⟩ | ⟨g, cap, cur, rfl, hb, hg, hn, hm, hcs, ht⟩
  · obtain rfl : l = [] := List.eq_nil_of_length_eq_zero h0
    kernel_rfl
  · have hH : Has w g cur 5 := hg
    refine run_convert_bytes_back w 43 9 5 ⟨g, 0, none⟩ cap l Tryd.underlying43 Tryd.underlying5 Tryd.underlying9 (fun j hj => ?_)
    have e : cur[j]? = (Lib.byteCells l)[j]? := by rw [← ht, List.getElem?_take_of_lt (by omega), Array.getElem?_toList]
    rw [Addr.add_mid, Nat.zero_add, hH.cell j, e]
    simp [Lib.byteCells, hj]
set_option maxHeartbeats 400000 in
theorem text_at (b : Nat) (v : Value) (l : List UInt8) (w : World) (h : PenAt w b v l) : Calls Tryd.prog 20 #[.pointer (some ⟨b, 0, none⟩)] w fun r w' => r = .returned (.string ⟨l.toArray⟩) ∧ w = w' := by
  have c0 := h.c0
  have hcv : (Go.convert 43 9 v).run Tryd.prog w = .ok (.string ⟨l.toArray⟩) w := by
    exact conv_owned h.own
  go_enter Tryd.func20, Tryd.ntmps20
  go_wp2_with fail
  go_ret
  exact ⟨rfl, rfl⟩
end Go.Proofs.YtggnnlefalcplaaDoor
