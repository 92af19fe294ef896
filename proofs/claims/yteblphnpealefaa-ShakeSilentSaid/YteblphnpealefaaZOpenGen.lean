/-
  Arguments that are arrays of integers: opened, and shut again in any memory.
-/
import Derived.Test.YteblphnpealefaaRows
import Derived.ProofKit
import Derived.OpenShut
namespace Go.Proofs.Yteblphnpealefaa
open Go.ChangeShapes Go.WideShapes Go.RowKit

def intAt (cs : Array Value) (i : Nat) : Int := match cs[i]? with | some (.int _ z) => z | _ => 0
section
variable {H : Type} {enc : TypeId × Value → H} {P : Program} {k e : TypeId} {n : Nat} {q : IntKind} {W : World} {base : Nat} {sp : Nat → Bool} {held : Bool}
theorem open_ints_arr (hu : P.underlying k = some (.array n e)) (he : P.underlying e = some (.int q)) (h1 : P.cellsOf e = 1) (hn : P.cellsOf k = n) {r : Reach} {b0 : Nat} {v : Value} {d : DataW H} {ps : List MemPlace}
    (hv : Value.okWide P W r b0 k v) (hd : DataW.Trod enc P W base sp held k v d ps) :
    ∃ f : Nat → Int, v = .agg ((List.range n).map fun i => Value.int q (f i)).toArray ∧ d = .agg ((List.range n).map fun i => .lit (.int q (f i))) ∧ ps = [] ∧ ∀ i, i < n → (Lit.int q (f i)).wf = true := by
  simp only [Value.okWide, hu] at hv
  obtain ⟨cs, rfl, hsz, _⟩ := hv
  rw [hn] at hsz
  obtain ⟨fuel, hf⟩ := hd
  obtain ⟨xs, m, _, hx, _, hl, hel⟩ := DataW.trod_array hu hf
  have key : ∀ i, i < n → cs[i]? = some (.int q (intAt cs i)) ∧ xs[i]? = some (.lit (.int q (intAt cs i)), []) ∧ (Lit.int q (intAt cs i)).wf = true := fun i hi => by
    have hE := hel i hi
    rw [h1, Nat.mul_one, List.getElem?_eq_getElem (by omega)] at hE
    obtain ⟨z, e1, e2, e3⟩ := DataW.trod_int he hE
    have hc : cs[i]? = some (.int q z) := by
      have h0 : ((List.drop i (Value.cells (.agg cs)).toList).take 1)[0]? = some (.int q z) := by rw [e1]; rfl
      simpa [Value.cells] using h0
    have hz : intAt cs i = z := by unfold intAt; rw [hc]
    rw [hz]
    exact ⟨hc, by rw [List.getElem?_eq_getElem (by omega), e2], e3⟩
  simp only [Prod.mk.injEq] at hx
  refine ⟨intAt cs, ?_, ?_, ?_, fun i hi => (key i hi).2.2⟩
  · congr 1
    apply Array.ext_getElem?
    intro i
    by_cases hi : i < n
    · rw [(key i hi).1]; simp [hi]
    · simp [hi, hsz]
  · rw [hx.1]
    congr 1
    apply List.ext_getElem?
    intro i
    by_cases hi : i < n
    · rw [List.getElem?_map, (key i hi).2.1]; simp [hi]
    · simp [hi, hl]
  · rw [hx.2, List.flatMap_eq_nil_iff]
    intro p hp
    obtain ⟨i, hi, rfl⟩ := List.getElem_of_mem hp
    have := (key i (by omega)).2.1
    rw [List.getElem?_eq_getElem hi] at this
    rw [Option.some.inj this]
theorem mapM_lits (he : P.underlying e = some (.int q)) (f : Nat → Int) (g : Nat → List Value) : ∀ (L : List Nat), (∀ i ∈ L, g i = [.int q (f i)] ∧ (Lit.int q (f i)).wf = true) →
    L.mapM (fun i => DataW.trod enc P W base sp held 1 e (g i)) = some (L.map fun i => (.lit (.int q (f i)), []))
  | [], _ => rfl
  | i :: L, h => by
    obtain ⟨h1, h2⟩ := h i (by simp)
    have ih := mapM_lits he f g L fun j hj => h j (by simp [hj])
    rw [List.mapM_cons, ih, h1]
    simp [DataW.trod, he, h2]
theorem shut_ints_arr (hu : P.underlying k = some (.array n e)) (he : P.underlying e = some (.int q)) (h1 : P.cellsOf e = 1) (hn : P.cellsOf k = n) (f : Nat → Int) (hw : ∀ i, i < n → (Lit.int q (f i)).wf = true) :
    DataW.Trod enc P W base sp held k (.agg ((List.range n).map fun i => Value.int q (f i)).toArray) (.agg ((List.range n).map fun i => .lit (.int q (f i)))) [] := by
  refine ⟨2, ?_⟩
  rw [DataW.trod_step]
  unfold DataW.trodStep
  simp only [hu, Value.cells]
  rw [if_pos (by rw [hn]; simp), mapM_lits he f _ (List.range n) fun i hi => ?_]
  · simp [Function.comp_def]
  · have hi' : i < n := by simpa using hi
    refine ⟨?_, hw i hi'⟩
    rw [h1, Nat.mul_one]
    apply List.ext_getElem?
    intro j
    rw [List.getElem?_take]
    cases j with
    | zero => simp [hi']
    | succ j => simp
end
end Go.Proofs.Yteblphnpealefaa
