/-
  Rows over envelopes: the arguments opened.
-/
import Derived.Test.YtggnnlefalcplaaDoorEvMem
import Derived.Test.YtggnnlefalcplaaDoorScOpen
namespace Go.Proofs.YtggnnlefalcplaaDoor
open Go.ChangeShapes Go.WideShapes Go.RowKit Go.Deep Mem Sc
instance : Inhabited Ev := ⟨evZ⟩
theorem cellsEv : Tryd.prog.cellsOf 23 = 2 := by kernel_rfl
section
variable {H : Type} {enc : TypeId × Value → H} {W : World} {base : Nat} {sp : Nat → Bool} {held : Bool} {fuel : Nat} {cs : List Value} {x : DataW H × List MemPlace}
theorem cells_env (hf : DataW.trod enc Tryd.prog W base sp held fuel 23 cs = some x) : ∃ v : Ev, cs = evC v ∧ v.p.data.toList.length ∈ x.1.weights Tryd.prog 23 := by
  obtain ⟨xs, m, _, rfl, hl, hxl, hel⟩ := DataW.trod_struct Tryd.underlying23 hf
  rw [cellsEv] at hl
  have hx2 : xs.length = 2 := hxl
  have f0 : DataW.trod enc Tryd.prog W base sp held m 9 ((cs.drop 0).take (Tryd.prog.cellsOf 9)) = xs[0]? := hel 0 _ rfl
  have f1 : DataW.trod enc Tryd.prog W base sp held m 9 ((cs.drop 1).take (Tryd.prog.cellsOf 9)) = xs[1]? := hel 1 _ rfl
  simp only [cellsString] at f0 f1
  rw [List.getElem?_eq_getElem (by omega)] at f0 f1
  obtain ⟨a, e0, _, _⟩ := DataW.trod_string Tryd.underlying9 f0
  obtain ⟨b, e1, x1, _⟩ := DataW.trod_string Tryd.underlying9 f1
  refine ⟨⟨a, b⟩, ?_, ?_⟩
  · have c0 := drop_cut cs 0 1
    have c1 := drop_cut cs 1 1
    have c2 : cs.drop 2 = [] := List.drop_eq_nil_of_le (by omega)
    rw [e1, c2] at c1
    rw [e0, c1, List.drop_zero] at c0
    rw [c0]
    rfl
  · simp only [DataW.weights, Tryd.underlying23]
    refine DataW.weights_mem_each (j := 1) (t := 9) (d := .lit (.string b.data.toList)) rfl ?_ _ (by simp [DataW.weights])
    rw [List.getElem?_map, List.getElem?_eq_getElem (by omega), x1]
    rfl
set_option maxRecDepth 100000 in
theorem open_env {r : Reach} {b0 : Nat} {v : Value} {d : DataW H} {p : List MemPlace} (hv : Value.okWide Tryd.prog W r b0 23 v) (hd : DataW.Trod enc Tryd.prog W base sp held 23 v d p)
    (hw : ∀ n ∈ d.weights Tryd.prog 23, n ≤ reachBytes) :
    ∃ x : Ev, x.p.size ≤ 140737488355328 ∧ v = .agg (evA x) := by
  obtain ⟨cs, rfl, _⟩ := okWide_struct Tryd.underlying23 hv
  obtain ⟨fuel, hf⟩ := hd
  obtain ⟨x, e, hm⟩ := cells_env hf
  have h47 := reachBytes_lt
  have h1 := hw _ hm
  refine ⟨x, by rw [Lib.size_eq]; omega, ?_⟩
  congr 1
  exact Array.toList_inj.1 e
end
end Go.Proofs.YtggnnlefalcplaaDoor
