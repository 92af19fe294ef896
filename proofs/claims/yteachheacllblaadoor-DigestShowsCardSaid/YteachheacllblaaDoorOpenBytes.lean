import Derived.Test.YteachheacllblaaDoorOpenGen
import Derived.Test.YteachheacllblaaDoorDigAlive
namespace Go.Proofs.YteachheacllblaaDoor
open Go.ChangeShapes Go.WideShapes Go.RowKit Mem Sha
theorem cellsHash : Tryd.prog.cellsOf 24 = 32 := by kernel_rfl
theorem cellsByte : Tryd.prog.cellsOf 5 = 1 := by kernel_rfl
section
variable {H : Type} {enc : TypeId × Value → H} {W : World} {base : Nat} {sp : Nat → Bool} {held : Bool}
/-- the datum of a name -/
def bytesD {H : Type} (l : List UInt8) : DataW H := .agg ((List.range 32).map fun i => .lit (.int .u8 ((l.getD i 0).toNat : Nat)))
theorem bytesV_range (l : List UInt8) (h : l.length = 32) : ((List.range 32).map fun i => Value.int .u8 ((l.getD i 0).toNat : Nat)).toArray = bytesV l := by
  unfold bytesV
  congr 1
  apply List.ext_getElem?
  intro i
  by_cases hi : i < 32
  · simp [hi, h]
  · simp [hi, h]
theorem open_bytes {r : Reach} {b0 : Nat} {v : Value} {d : DataW H} {ps : List MemPlace} (hv : Value.okWide Tryd.prog W r b0 24 v) (hd : DataW.Trod enc Tryd.prog W base sp held 24 v d ps) :
    ∃ l : List UInt8, l.length = 32 ∧ v = .agg (bytesV l) ∧ d = bytesD l ∧ ps = [] := by
  obtain ⟨f, h1, h2, h3, h4⟩ := open_ints_arr Tryd.underlying24 Tryd.underlying5 cellsByte cellsHash hv hd
  have hlen : ((List.range 32).map fun i => UInt8.ofNat (f i).toNat).length = 32 := by simp
  have hw : ∀ i, i ∈ List.range 32 → f i = (((((List.range 32).map fun i => UInt8.ofNat (f i).toNat).getD i 0).toNat : Nat) : Int) := fun i hi => by
    have hi' : i < 32 := by simpa using hi
    have := bounds_u8 (h4 i hi')
    rw [List.getD_eq_getElem?_getD, List.getElem?_eq_getElem (by rw [hlen]; exact hi'), Option.getD_some, List.getElem_map, List.getElem_range, UInt8.toNat_ofNat']
    omega
  refine ⟨(List.range 32).map fun i => UInt8.ofNat (f i).toNat, hlen, ?_, ?_, h3⟩
  · rw [h1, ← bytesV_range _ hlen]
    congr 2
    exact List.map_congr_left fun i hi => by rw [← hw i hi]
  · rw [h2]
    unfold bytesD
    congr 1
    exact List.map_congr_left fun i hi => by rw [← hw i hi]
theorem shut_bytes (l : List UInt8) (h : l.length = 32) : DataW.Trod enc Tryd.prog W base sp held 24 (.agg (bytesV l)) (bytesD l) [] := by
  rw [← bytesV_range l h]
  exact shut_ints_arr Tryd.underlying24 Tryd.underlying5 cellsByte cellsHash (fun i => ((l.getD i 0).toNat : Nat)) fun i _ => by
    have := (l.getD i 0).toNat_lt
    generalize (l.getD i 0).toNat = x at *
    simp [Lit.wf, IntKind.min, IntKind.max, IntKind.signed, IntKind.bits]; omega
end
end Go.Proofs.YteachheacllblaaDoor
