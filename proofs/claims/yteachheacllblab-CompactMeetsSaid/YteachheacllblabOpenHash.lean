import Derived.Test.YteachheacllblabOpenArr
import Derived.Test.YteachheacllblabWHash
namespace Go.Proofs.Yteachheacllblab
open Go.ChangeShapes Go.WideShapes Go.RowKit
theorem cellsHash : Try.prog.cellsOf 37 = 32 := by kernel_rfl
theorem cellsByte : Try.prog.cellsOf 5 = 1 := by kernel_rfl
section
variable {H : Type} {enc : TypeId × Value → H} {W : World} {base : Nat} {sp : Nat → Bool} {held : Bool}
/-- the datum of a name -/
def hashD {H : Type} (f : Nat → Nat) : DataW H := .agg ((List.range 32).map fun i => .lit (.int .u8 (f i : Nat)))
theorem open_hash {r : Reach} {b0 : Nat} {v : Value} {d : DataW H} {ps : List MemPlace} (hv : Value.okWide Try.prog W r b0 37 v) (hd : DataW.Trod enc Try.prog W base sp held 37 v d ps) :
    ∃ f : Nat → Nat, (∀ i, f i < 256) ∧ v = .agg (hashC f) ∧ d = hashD f ∧ ps = [] := by
  obtain ⟨f, h1, h2, h3, h4⟩ := open_ints_arr Try.underlying37 Try.underlying5 cellsByte cellsHash hv hd
  have hw : ∀ i, i ∈ List.range 32 → f i = (((f i).toNat % 256 : Nat) : Int) := fun i hi => by
    have := bounds_u8 (h4 i (by simpa using hi)); omega
  refine ⟨fun i => (f i).toNat % 256, fun i => Nat.mod_lt _ (by decide), ?_, ?_, h3⟩
  · rw [h1]
    unfold hashC
    congr 2
    exact List.map_congr_left fun i hi => by rw [← hw i hi]
  · rw [h2]
    unfold hashD
    congr 1
    exact List.map_congr_left fun i hi => by rw [← hw i hi]
theorem shut_hash (f : Nat → Nat) (hf : ∀ i, f i < 256) : DataW.Trod enc Try.prog W base sp held 37 (.agg (hashC f)) (hashD f) [] :=
  shut_ints_arr Try.underlying37 Try.underlying5 cellsByte cellsHash (fun i => (f i : Nat)) fun i _ => by
    have := hf i
    simp [Lit.wf, IntKind.min, IntKind.max, IntKind.signed, IntKind.bits]; omega
end
end Go.Proofs.Yteachheacllblab
