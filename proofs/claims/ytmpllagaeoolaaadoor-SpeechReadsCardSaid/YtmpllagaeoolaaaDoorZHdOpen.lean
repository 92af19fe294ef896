/-
  Rows over headers: the arguments opened.
-/
import Derived.Test.YtmpllagaeoolaaaDoorZHdMem
import Derived.Test.YtmpllagaeoolaaaDoorZScOpen
namespace Go.Proofs.YtmpllagaeoolaaaDoor
open Go.ChangeShapes Go.WideShapes Go.RowKit Go.Deep Mem Sc
instance : Inhabited Hd := ⟨hdZ⟩
theorem cellsHd : Tryd.prog.cellsOf 48 = 68 := by kernel_rfl
section
variable {H : Type} {enc : TypeId × Value → H} {W : World} {base : Nat} {sp : Nat → Bool} {held : Bool} {fuel : Nat} {cs : List Value} {x : DataW H × List MemPlace}
/-- a header of a 64-bit machine -/
def Hd.fits (h : Hd) : Prop := h.ok ∧ (-9223372036854775808 ≤ h.v ∧ h.v ≤ 9223372036854775807) ∧ (-9223372036854775808 ≤ h.time ∧ h.time ≤ 9223372036854775807) ∧ (-9223372036854775808 ≤ h.bits ∧ h.bits ≤ 9223372036854775807) ∧ (-9223372036854775808 ≤ h.nonce ∧ h.nonce ≤ 9223372036854775807)
theorem cells_header (hf : DataW.trod enc Tryd.prog W base sp held fuel 48 cs = some x) : ∃ h : Hd, h.fits ∧ cs = hdC h := by
  obtain ⟨xs, m, _, rfl, hl, hxl, hel⟩ := DataW.trod_struct Tryd.underlying48 hf
  rw [cellsHd] at hl
  have hx6 : xs.length = 6 := hxl
  have f0 : DataW.trod enc Tryd.prog W base sp held m 3 ((cs.drop 0).take (Tryd.prog.cellsOf 3)) = xs[0]? := hel 0 _ rfl
  have f1 : DataW.trod enc Tryd.prog W base sp held m 24 ((cs.drop 1).take (Tryd.prog.cellsOf 24)) = xs[1]? := hel 1 _ rfl
  have f2 : DataW.trod enc Tryd.prog W base sp held m 24 ((cs.drop 33).take (Tryd.prog.cellsOf 24)) = xs[2]? := hel 2 _ rfl
  have f3 : DataW.trod enc Tryd.prog W base sp held m 3 ((cs.drop 65).take (Tryd.prog.cellsOf 3)) = xs[3]? := hel 3 _ rfl
  have f4 : DataW.trod enc Tryd.prog W base sp held m 3 ((cs.drop 66).take (Tryd.prog.cellsOf 3)) = xs[4]? := hel 4 _ rfl
  have f5 : DataW.trod enc Tryd.prog W base sp held m 3 ((cs.drop 67).take (Tryd.prog.cellsOf 3)) = xs[5]? := hel 5 _ rfl
  simp only [cellsInt, cellsHash] at f0 f1 f2 f3 f4 f5
  rw [List.getElem?_eq_getElem (by omega)] at f0 f1 f2 f3 f4 f5
  obtain ⟨v, e0, _, w0⟩ := DataW.trod_int Tryd.underlying3 f0
  obtain ⟨p, hp32, e1⟩ := cells_name f1 (by simp; omega)
  obtain ⟨q, hq32, e2⟩ := cells_name f2 (by simp; omega)
  obtain ⟨t, e3, _, w3⟩ := DataW.trod_int Tryd.underlying3 f3
  obtain ⟨b, e4, _, w4⟩ := DataW.trod_int Tryd.underlying3 f4
  obtain ⟨n, e5, _, w5⟩ := DataW.trod_int Tryd.underlying3 f5
  have b0 := bounds_i64 w0
  have b3 := bounds_i64 w3
  have b4 := bounds_i64 w4
  have b5 := bounds_i64 w5
  refine ⟨⟨v, p, q, t, b, n⟩, ⟨⟨hp32, hq32⟩, ⟨by simp only; omega, by simp only; omega⟩, ⟨by simp only; omega, by simp only; omega⟩, ⟨by simp only; omega, by simp only; omega⟩, ⟨by simp only; omega, by simp only; omega⟩⟩, ?_⟩
  have c0 := drop_cut cs 0 1
  have c1 := drop_cut cs 1 32
  have c2 := drop_cut cs 33 32
  have c3 := drop_cut cs 65 1
  have c4 := drop_cut cs 66 1
  have c5 := drop_cut cs 67 1
  have c6 : cs.drop 68 = [] := List.drop_eq_nil_of_le (by omega)
  rw [e5, c6] at c5
  rw [e4, c5] at c4
  rw [e3, c4] at c3
  rw [e2, c3] at c2
  rw [e1, c2] at c1
  rw [e0, c1, List.drop_zero] at c0
  rw [c0]
  rfl
set_option maxRecDepth 100000 in
theorem open_header {r : Reach} {b0 : Nat} {v : Value} {d : DataW H} {p : List MemPlace} (hv : Value.okWide Tryd.prog W r b0 48 v) (hd : DataW.Trod enc Tryd.prog W base sp held 48 v d p) :
    ∃ h : Hd, h.fits ∧ v = .agg (hdA h) := by
  obtain ⟨cs, rfl, _⟩ := okWide_struct Tryd.underlying48 hv
  obtain ⟨fuel, hf⟩ := hd
  obtain ⟨h, hfit, e⟩ := cells_header hf
  refine ⟨h, hfit, ?_⟩
  congr 1
  exact Array.toList_inj.1 e
end
end Go.Proofs.YtmpllagaeoolaaaDoor
