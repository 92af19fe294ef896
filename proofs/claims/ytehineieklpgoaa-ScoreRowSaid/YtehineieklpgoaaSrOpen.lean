/-
  Rows over scripts of calls, and over numbers: the arguments opened.
-/
import Derived.Test.YtehineieklpgoaaSrFn
import Derived.Test.YtehineieklpgoaaRows
import Derived.ProofKit
import Derived.OpenShut
import Derived.SizedLaws
import Derived.Deep.Slices
namespace Go.Proofs.Ytehineieklpgoaa
open Go.RowKit Go.ChangeShapes Go.WideShapes Go.ChangeAt
theorem own : ownKnob Try.prog.godebug = none := by kernel_rfl
theorem laidOut : laidOutB Try.prog = true := by kernel_rfl
theorem cellsInt : Try.prog.cellsOf 3 = 1 := by kernel_rfl
end Go.Proofs.Ytehineieklpgoaa
namespace Go.Proofs.Ytehineieklpgoaa.An
open Go.ChangeShapes Go.WideShapes Go.RowKit Go.Deep Mem
set_option maxRecDepth 100000
theorem cellsInts : Try.prog.cellsOf 28 = 1 := by kernel_rfl
theorem cellsCall : Try.prog.cellsOf 32 = 3 := by kernel_rfl
theorem drop_cut {α : Type} (l : List α) (i n : Nat) : l.drop i = (l.drop i).take n ++ l.drop (i + n) := by rw [← List.drop_drop, List.take_append_drop]
/-- a call of a script: what it is, of whom, where the faults lie, the faults -/
structure Cl where
  kind : Int
  peer : Int
  na : Option Addr
  nn : Nat
  nc : Nat
  ls : List Int
instance : Inhabited Cl := ⟨⟨0, 0, none, 0, 0, []⟩⟩
def clC (x : Cl) : List Value := [.int .i64 x.kind, .int .i64 x.peer, .slice x.na x.nn x.nc]
structure ClOk (w : World) (x : Cl) : Prop where
  n : x.nn = x.ls.length
  few : x.nn < 9223372036854775808
  p64 : in64 x.peer
  at_ : FsAt w x.na x.ls
theorem range_below {w w' : World} {b off : Nat} {cs : List Value} (h : w.rangeAt b off cs) (hb : Below w.heap.size w w') (hlt : b < w.heap.size) : w'.rangeAt b off cs := fun j u hu => (World.cell?_of_block (hb.block b hlt)).trans (h j u hu)
theorem ClOk.below {w w' : World} {x : Cl} (h : ClOk w x) (hb : Below w.heap.size w w') : ClOk w' x := ⟨h.n, h.few, h.p64, h.at_.below hb⟩
def CallsAt (w : World) (a : Option Addr) (cs : List Cl) : Prop :=
  0 < cs.length → ∃ ab ao, a = some ⟨ab, ao, none⟩ ∧ ab < w.heap.size ∧ ∀ i y, cs[i]? = some y → ClOk w y ∧ w.rangeAt ab (ao + i * 3) (clC y)
theorem CallsAt.below {w w' : World} {a : Option Addr} {cs : List Cl} (h : CallsAt w a cs) (hb : Below w.heap.size w w') : CallsAt w' a cs := fun h0 => by
  obtain ⟨ab, ao, ha, hl, hc⟩ := h h0
  exact ⟨ab, ao, ha, Nat.lt_of_lt_of_le hl hb.size, fun i y hi => ⟨(hc i y hi).1.below hb, range_below (hc i y hi).2 hb hl⟩⟩
section
variable {W : World} {base : Nat} {cs : List Value}
theorem spot_of_cells {a : Addr} {n : Nat} (h : W.cells? base a n = some cs) (hn : 0 < n) : a.spot = none := by
  obtain ⟨_, hl, hc⟩ := World.cells?_some h
  have h0 := hc 0 hn
  rw [List.getElem?_eq_getElem (by omega)] at h0
  simpa [Addr.add] using World.cell?_spot h0
theorem range_of_cells {b o n : Nat} (h : W.cells? base ⟨b, o, none⟩ n = some cs) : W.rangeAt b o cs := fun j u hu => by
  obtain ⟨_, hl, hc⟩ := World.cells?_some h
  have hj := (List.getElem?_eq_some_iff.1 hu).1
  rw [← hu, ← hc j (by omega), add_plain]
end
section
variable {H : Type} {enc : TypeId × Value → H} {W : World} {fuel : Nat} {cs : List Value}
theorem wf_in64 {z : Int} (h : (Lit.int .i64 z).wf = true) : in64 z := by
  have := bounds_i64 h
  unfold in64
  omega
theorem cells_ints {d : DataW H} {p : List MemPlace} (hf : DataW.trod enc Try.prog W 0 (fun _ => true) true fuel 28 cs = some (d, p)) :
    ∃ (a : Option Addr) (ls : List Int) (n c : Nat), cs = [.slice a n c] ∧ n = ls.length ∧ n ≤ c ∧ n < 9223372036854775808 ∧ (∀ x ∈ ls, in64 x) ∧ FsAt W a ls := by
  rcases open_ints Try.underlying28 Try.underlying3 cellsInt hf with ⟨hcs, hx⟩ | ⟨a, len, cap, zs, hcs, _, hl, hm, hz, hx, hcell, hwz⟩
  · exact ⟨none, [], 0, 0, hcs, rfl, by omega, by omega, fun x h => by simp at h, fun h => by simp at h⟩
  · simp only [if_true] at hz
    refine ⟨some a, zs.take len, len, cap, hcs, by simp; omega, hl, by unfold maxLen at hm; omega, fun x hx => wf_in64 (hwz x (List.mem_of_mem_take hx)), fun h0 => ?_⟩
    have h1 : 0 < len := by simp at h0; omega
    obtain ⟨b, off, spot⟩ := a
    have hspot : spot = none := by simpa [Addr.add] using World.cell?_spot (hcell 0 (by omega))
    subst hspot
    have hcell' : ∀ j, j < zs.length → W.cell? ⟨b, off + j, none⟩ = some (.int .i64 (zs.getD j 0)) := fun j hj => by rw [← add_plain]; exact hcell j hj
    refine ⟨b, off, rfl, World.block_lt_of_cell? _ _ (hcell' 0 (by omega)), fun j z hj => ?_⟩
    have hj2 := (List.getElem?_eq_some_iff.1 hj).1
    simp at hj2
    rw [List.getElem?_take] at hj
    rw [hcell' j (by omega), List.getD_eq_getElem?_getD]
    split at hj
    · rw [hj]; rfl
    · cases hj
theorem open_list {r : Reach} {b0 : Nat} {v : Value} {d : DataW H} {p : List MemPlace} (hv : Value.okWide Try.prog W r b0 28 v) (hd : DataW.Trod enc Try.prog W 0 (fun _ => true) true 28 v d p) :
    ∃ (a : Option Addr) (ls : List Int) (n c : Nat), v = .slice a n c ∧ n = ls.length ∧ n ≤ c ∧ n < 9223372036854775808 ∧ (∀ x ∈ ls, in64 x) ∧ FsAt W a ls := by
  obtain ⟨a0, len, cap, rfl⟩ := okWide_slice Try.underlying28 hv
  obtain ⟨fuel, hf⟩ := hd
  obtain ⟨a, ls, n, c, e, h⟩ := cells_ints hf
  refine ⟨a, ls, n, c, ?_, h⟩
  simpa [Value.cells] using e
theorem cells_call {d : DataW H} {p : List MemPlace} (hf : DataW.trod enc Try.prog W 0 (fun _ => true) true fuel 32 cs = some (d, p)) : ∃ x : Cl, cs = clC x ∧ ClOk W x := by
  obtain ⟨xs, m, _, hd, hl, hxl, hel⟩ := DataW.trod_struct Try.underlying32 hf
  rw [cellsCall] at hl
  have hx3 : xs.length = 3 := hxl
  have f0 : DataW.trod enc Try.prog W 0 (fun _ => true) true m 3 ((cs.drop 0).take (Try.prog.cellsOf 3)) = xs[0]? := hel 0 _ rfl
  have f1 : DataW.trod enc Try.prog W 0 (fun _ => true) true m 3 ((cs.drop 1).take (Try.prog.cellsOf 3)) = xs[1]? := hel 1 _ rfl
  have f2 : DataW.trod enc Try.prog W 0 (fun _ => true) true m 28 ((cs.drop 2).take (Try.prog.cellsOf 28)) = xs[2]? := hel 2 _ rfl
  simp only [cellsInt, cellsInts] at f0 f1 f2
  rw [List.getElem?_eq_getElem (by omega)] at f0 f1 f2
  obtain ⟨k, e0, _, _⟩ := DataW.trod_int Try.underlying3 f0
  obtain ⟨he, e1, _, w1⟩ := DataW.trod_int Try.underlying3 f1
  obtain ⟨na, ls, nn, nc, e2, hn1, _, hn2, _, hN⟩ := cells_ints (d := (xs[2]'(by omega)).1) (p := (xs[2]'(by omega)).2) f2
  refine ⟨⟨k, he, na, nn, nc, ls⟩, ?_, ⟨hn1, hn2, wf_in64 w1, hN⟩⟩
  have c0 := drop_cut cs 0 1
  have c1 := drop_cut cs 1 1
  have c2 := drop_cut cs 2 1
  have c3 : cs.drop 3 = [] := List.drop_eq_nil_of_le (by omega)
  rw [e2, c3] at c2
  rw [e1, c2] at c1
  rw [e0, c1, List.drop_zero] at c0
  rw [c0]
  rfl
theorem open_calls {r : Reach} {b0 : Nat} {v : Value} {d : DataW H} {p : List MemPlace} (hv : Value.okWide Try.prog W r b0 22 v) (hd : DataW.Trod enc Try.prog W 0 (fun _ => true) true 22 v d p) :
    ∃ (a : Option Addr) (cs : List Cl) (n c : Nat), v = .slice a n c ∧ n = cs.length ∧ n < 9223372036854775808 ∧ CallsAt W a cs := by
  obtain ⟨a0, len, cap, rfl⟩ := okWide_slice Try.underlying22 hv
  obtain ⟨fuel, hf⟩ := hd
  rcases open_slice Try.underlying22 hf with ⟨hcs, hx⟩ | ⟨a, len', cap', m, q, D, Pl, hcs, _, hl, hcm, hm, hx, hel⟩
  · simp [Value.cells] at hcs
    obtain ⟨rfl, rfl, rfl⟩ := hcs
    exact ⟨none, [], 0, 0, rfl, rfl, by omega, fun h => absurd h (by simp)⟩
  · simp [Value.cells] at hcs
    obtain ⟨rfl, rfl, rfl⟩ := hcs
    simp only [if_true] at hm
    subst hm
    rw [cellsCall] at hel
    obtain ⟨f, hfn⟩ := choose_lt (n := len) (α := Cl) (p := fun i x => ClOk W x ∧ W.cells? 0 (a.add (i * 3)) 3 = some (clC x)) (fun i hi => by
      obtain ⟨cs', h2, h3⟩ := hel i (by omega)
      obtain ⟨x, rfl, hok⟩ := cells_call h3
      exact ⟨x, hok, h2⟩)
    refine ⟨some a, (List.range len).map f, len, _, rfl, by simp, by unfold maxLen at hcm; omega, fun h0 => ?_⟩
    have hlen : 0 < len := by simpa using h0
    obtain ⟨b, off, spot⟩ := a
    have hspot : spot = none := by simpa [Addr.add] using spot_of_cells (hfn 0 hlen).2 (by decide)
    subst hspot
    refine ⟨b, off, rfl, block_lt_of_cell (range_of_cells (hfn 0 hlen).2 0 _ (List.getElem?_eq_getElem (by show 0 < 3; decide))), fun i y hi => ?_⟩
    have hi' : i < len := by simpa using (List.getElem?_eq_some_iff.1 hi).1
    rw [List.getElem?_map, List.getElem?_range hi'] at hi
    obtain rfl := Option.some.inj hi
    exact ⟨(hfn i hi').1, range_of_cells (by have := (hfn i hi').2; rw [add_plain] at this; exact this)⟩
end
end Go.Proofs.Ytehineieklpgoaa.An
