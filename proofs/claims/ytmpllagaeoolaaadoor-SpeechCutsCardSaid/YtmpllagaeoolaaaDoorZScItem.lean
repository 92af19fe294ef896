/-
  Layer 5's laws: the items of a script, in memory; great.
-/
import Derived.Test.YtmpllagaeoolaaaDoorBunC
import Derived.Deep.DeepCutAuto
namespace Go.Proofs.YtmpllagaeoolaaaDoor
open Go.RowKit Mem Sc
structure It where
  kind : Int
  size : Int
  n : Int
  name : List UInt8
  text : ByteArray
def It.ok (x : It) : Prop := x.name.length = 32 ∧ x.text.size ≤ 4611686018427387904
def itemC (x : It) : List Value := .int .i64 x.kind :: .int .i64 x.size :: .int .i64 x.n :: (Lib.byteCells x.name ++ [.string x.text])
theorem itemC_length {x : It} (h : x.name.length = 32) : (itemC x).length = 36 := by simp [itemC, Lib.byteCells_length, h]
def itemA (x : It) : Array Value := (itemC x).toArray
theorem itemA_size {x : It} (h : x.name.length = 32) : (itemA x).size = 36 := by show (itemC x).toArray.size = 36; rw [List.size_toArray]; exact itemC_length h
theorem itemA_one (x : It) : (itemA x).all (·.oneCell') = true := by
  rw [Array.all_eq_true_iff_forall_mem]
  intro v hv
  simp only [itemA, itemC, List.mem_toArray, List.mem_cons, List.mem_append] at hv
  rcases hv with rfl | rfl | rfl | hv | hv
  · rfl
  · rfl
  · rfl
  · exact Lib.byteCells_one _ v hv
  · simp at hv; subst hv; rfl
def i0 : Array Value := itemA ⟨0, 0, 0, List.replicate 32 0, ⟨#[]⟩⟩
theorem i0_new (w : World) (t : TypeId) : Has (w.alloc (.cells #[.int .i64 0, .int .i64 0, .int .i64 0, .int .u8 0, .int .u8 0, .int .u8 0, .int .u8 0, .int .u8 0, .int .u8 0, .int .u8 0, .int .u8 0, .int .u8 0, .int .u8 0, .int .u8 0, .int .u8 0, .int .u8 0, .int .u8 0, .int .u8 0, .int .u8 0, .int .u8 0, .int .u8 0, .int .u8 0, .int .u8 0, .int .u8 0, .int .u8 0, .int .u8 0, .int .u8 0, .int .u8 0, .int .u8 0, .int .u8 0, .int .u8 0, .int .u8 0, .int .u8 0, .int .u8 0, .int .u8 0, .string ⟨#[]⟩] t)) w.heap.size i0 t := Has.new i0 t
theorem i0_size : i0.size = 36 := rfl
section
variable {w : World} {ops : Array Oper} {rest : List Oper} {o : Oper} {a : Act} {Q : Exit → Act → World → Prop}
end
/-- items lie where a slice says -/
def ItemsAt (w : World) (a : Option Addr) (its : List It) : Prop :=
  0 < its.length → ∃ ab ao, a = some ⟨ab, ao, none⟩ ∧ ∀ i (hi : i < its.length), its[i].ok ∧ w.rangeAt ab (ao + i * 36) (itemC its[i])
theorem range_block {w : World} {b o : Nat} {cs : List Value} (h : w.rangeAt b o cs) (h0 : 0 < cs.length) : b < w.heap.size := block_lt_of_cell (h 0 (cs[0]'h0) (List.getElem?_eq_getElem h0))
theorem range_below {w w' : World} {b o : Nat} {cs : List Value} (h : w.rangeAt b o cs) (hb : Below w.heap.size w w') (h0 : 0 < cs.length) : w'.rangeAt b o cs := fun j u hu => by
  have hlt := range_block h h0
  exact (hb.cell (p := ⟨b, o + j, none⟩) hlt).trans (h j u hu)
theorem ItemsAt.below {w w' : World} {a : Option Addr} {its : List It} (h : ItemsAt w a its) (hb : Below w.heap.size w w') : ItemsAt w' a its := fun h0 => by
  obtain ⟨ab, ao, ha, hc⟩ := h h0
  exact ⟨ab, ao, ha, fun i hi => ⟨(hc i hi).1, range_below (hc i hi).2 hb (by rw [itemC_length (hc i hi).1.1]; omega)⟩⟩
/-! ### great -/
def total (its : List It) : Nat := (its.map (·.text.size)).sum
theorem total_next (its : List It) (k : Nat) (hk : k < its.length) : total (its.take (k + 1)) = total (its.take k) + its[k].text.size := by
  unfold total
  rw [List.take_succ_eq_append_getElem hk, List.map_append, List.sum_append]
  simp
theorem total_le (its : List It) (k : Nat) : total (its.take k) ≤ total its := by
  unfold total
  conv => rhs; rw [← List.take_append_drop k its, List.map_append, List.sum_append]
  omega
def greatB (its : List It) : Bool := decide (4096 < total its) || decide (40 < its.length)
end Go.Proofs.YtmpllagaeoolaaaDoor
