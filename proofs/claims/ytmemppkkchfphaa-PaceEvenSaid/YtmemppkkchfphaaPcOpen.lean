/-
  The rows' arguments: a chain's rules; a point.
-/
import Derived.Test.YtmemppkkchfphaaPcStarts
import Derived.Test.YtmemppkkchfphaaOpenArr
import Derived.Deep.Grids
namespace Go.Proofs.Ytmemppkkchfphaa
open Go.ChangeShapes Go.WideShapes Go.ChangeAt Go.RowKit
theorem laidOut : laidOutB Try.prog = true := by kernel_rfl
theorem cellsInt : Try.prog.cellsOf 3 = 1 := by kernel_rfl
theorem cellsBool : Try.prog.cellsOf 4 = 1 := by kernel_rfl
theorem cellsPr : Try.prog.cellsOf 32 = 83 := by kernel_rfl
theorem cellsPt : Try.prog.cellsOf 45 = 5 := by kernel_rfl
theorem drop_cut {α : Type} (cs : List α) (o k : Nat) : cs.drop o = (cs.drop o).take k ++ cs.drop (o + k) := by
  rw [← List.drop_drop, List.take_append_drop]
section
variable {H : Type} {enc : TypeId × Value → H} {W : World} {base : Nat} {sp : Nat → Bool} {held : Bool} {fuel : Nat} {cs : List Value} {x : DataW H × List MemPlace}
/-- the numbers of a 64-bit machine -/
def Pr.fits (p : Pr) : Prop := p.ok ∧ (-9223372036854775808 ≤ p.lim ∧ p.lim ≤ 9223372036854775807) ∧ (-9223372036854775808 ≤ p.ivl ∧ p.ivl ≤ 9223372036854775807) ∧ (-9223372036854775808 ≤ p.spc ∧ p.spc ≤ 9223372036854775807) ∧ (-9223372036854775808 ≤ p.fut ∧ p.fut ≤ 9223372036854775807)
theorem cells_params (hf : DataW.trod enc Try.prog W base sp held fuel 32 cs = some x) : ∃ p : Pr, p.fits ∧ cs = prC p := by
  obtain ⟨xs, m, _, rfl, hl, hxl, hel⟩ := DataW.trod_struct Try.underlying32 hf
  rw [cellsPr] at hl
  have hx10 : xs.length = 10 := hxl
  have f0 : DataW.trod enc Try.prog W base sp held m 3 ((cs.drop 0).take (Try.prog.cellsOf 3)) = xs[0]? := hel 0 _ rfl
  have f1 : DataW.trod enc Try.prog W base sp held m 3 ((cs.drop 1).take (Try.prog.cellsOf 3)) = xs[1]? := hel 1 _ rfl
  have f2 : DataW.trod enc Try.prog W base sp held m 3 ((cs.drop 2).take (Try.prog.cellsOf 3)) = xs[2]? := hel 2 _ rfl
  have f3 : DataW.trod enc Try.prog W base sp held m 3 ((cs.drop 3).take (Try.prog.cellsOf 3)) = xs[3]? := hel 3 _ rfl
  have f4 : DataW.trod enc Try.prog W base sp held m 4 ((cs.drop 4).take (Try.prog.cellsOf 4)) = xs[4]? := hel 4 _ rfl
  simp only [cellsInt, cellsBool] at f0 f1 f2 f3 f4
  rw [List.getElem?_eq_getElem (by omega)] at f0 f1 f2 f3 f4
  obtain ⟨a, e0, _, w0⟩ := DataW.trod_int Try.underlying3 f0
  obtain ⟨b, e1, _, w1⟩ := DataW.trod_int Try.underlying3 f1
  obtain ⟨c, e2, _, w2⟩ := DataW.trod_int Try.underlying3 f2
  obtain ⟨d, e3, _, w3⟩ := DataW.trod_int Try.underlying3 f3
  obtain ⟨g, e4, _⟩ := DataW.trod_bool Try.underlying4 f4
  refine ⟨⟨a, b, c, d, g, cs.drop 5⟩, ⟨by show (cs.drop 5).length = 78; rw [List.length_drop]; omega, bounds_i64 w0, bounds_i64 w1, bounds_i64 w2, bounds_i64 w3⟩, ?_⟩
  have c0 := drop_cut cs 0 1
  have c1 := drop_cut cs 1 1
  have c2 := drop_cut cs 2 1
  have c3 := drop_cut cs 3 1
  have c4 := drop_cut cs 4 1
  rw [e4] at c4
  rw [e3, c4] at c3
  rw [e2, c3] at c2
  rw [e1, c2] at c1
  rw [e0, c1, List.drop_zero] at c0
  exact c0
set_option maxRecDepth 100000 in
theorem open_params {r : Reach} {b0 : Nat} {v : Value} {d : DataW H} {ps : List MemPlace} (hv : Value.okWide Try.prog W r b0 32 v) (hd : DataW.Trod enc Try.prog W base sp held 32 v d ps) :
    ∃ p : Pr, p.fits ∧ v = .agg (prA p) := by
  obtain ⟨cs, rfl, _⟩ := okWide_struct Try.underlying32 hv
  obtain ⟨fuel, hf⟩ := hd
  obtain ⟨p, hp, e⟩ := cells_params hf
  refine ⟨p, hp, ?_⟩
  congr 1
  exact Array.toList_inj.1 e
theorem cells_point (hf : DataW.trod enc Try.prog W base sp held fuel 45 cs = some x) : ∃ p : Pt, cs = (ptA p).toList := by
  obtain ⟨xs, m, _, rfl, hl, hxl, hel⟩ := DataW.trod_struct Try.underlying45 hf
  rw [cellsPt] at hl
  have hx5 : xs.length = 5 := hxl
  have f0 : DataW.trod enc Try.prog W base sp held m 3 ((cs.drop 0).take (Try.prog.cellsOf 3)) = xs[0]? := hel 0 _ rfl
  have f1 : DataW.trod enc Try.prog W base sp held m 3 ((cs.drop 1).take (Try.prog.cellsOf 3)) = xs[1]? := hel 1 _ rfl
  have f2 : DataW.trod enc Try.prog W base sp held m 3 ((cs.drop 2).take (Try.prog.cellsOf 3)) = xs[2]? := hel 2 _ rfl
  have f3 : DataW.trod enc Try.prog W base sp held m 3 ((cs.drop 3).take (Try.prog.cellsOf 3)) = xs[3]? := hel 3 _ rfl
  have f4 : DataW.trod enc Try.prog W base sp held m 3 ((cs.drop 4).take (Try.prog.cellsOf 3)) = xs[4]? := hel 4 _ rfl
  simp only [cellsInt] at f0 f1 f2 f3 f4
  rw [List.getElem?_eq_getElem (by omega)] at f0 f1 f2 f3 f4
  obtain ⟨a, e0, _, _⟩ := DataW.trod_int Try.underlying3 f0
  obtain ⟨b, e1, _, _⟩ := DataW.trod_int Try.underlying3 f1
  obtain ⟨c, e2, _, _⟩ := DataW.trod_int Try.underlying3 f2
  obtain ⟨d, e3, _, _⟩ := DataW.trod_int Try.underlying3 f3
  obtain ⟨g, e4, _, _⟩ := DataW.trod_int Try.underlying3 f4
  refine ⟨⟨a, b, c, d, g⟩, ?_⟩
  have c0 := drop_cut cs 0 1
  have c1 := drop_cut cs 1 1
  have c2 := drop_cut cs 2 1
  have c3 := drop_cut cs 3 1
  have c4 := drop_cut cs 4 1
  have c5 : cs.drop 5 = [] := List.drop_eq_nil_of_le (by omega)
  rw [e4, c5] at c4
  rw [e3, c4] at c3
  rw [e2, c3] at c2
  rw [e1, c2] at c1
  rw [e0, c1, List.drop_zero] at c0
  exact c0
set_option maxRecDepth 100000 in
theorem open_point {r : Reach} {b0 : Nat} {v : Value} {d : DataW H} {ps : List MemPlace} (hv : Value.okWide Try.prog W r b0 45 v) (hd : DataW.Trod enc Try.prog W base sp held 45 v d ps) :
    ∃ p : Pt, v = .agg (ptA p) := by
  obtain ⟨cs, rfl, _⟩ := okWide_struct Try.underlying45 hv
  obtain ⟨fuel, hf⟩ := hd
  obtain ⟨p, e⟩ := cells_point hf
  refine ⟨p, ?_⟩
  congr 1
  exact Array.toList_inj.1 e
end
end Go.Proofs.Ytmemppkkchfphaa
