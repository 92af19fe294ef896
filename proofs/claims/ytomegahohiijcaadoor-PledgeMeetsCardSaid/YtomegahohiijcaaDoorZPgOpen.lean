/-
  Rows over plans, names and calls: the arguments opened.
-/
import Derived.Test.YtomegahohiijcaaDoorZScOpen
import Derived.Test.YtomegahohiijcaaDoorBunQ6
namespace Go.Proofs.YtomegahohiijcaaDoor.An
open Go.ChangeShapes Go.WideShapes Go.RowKit Go.Deep Mem Sc
open Pg (Pl pbit gv Ws)
theorem cellsPlan : Tryd.prog.cellsOf 23 = 3 := by kernel_rfl
/-- a call of a script: what it is, a height, where the names lie, the names -/
structure Cl where
  kind : Int
  ht : Int
  na : Option Addr
  nn : Nat
  nc : Nat
  ls : List (List UInt8)
instance : Inhabited Cl := ⟨⟨0, 0, none, 0, 0, []⟩⟩
def clC (x : Cl) : List Value := [.int .i64 x.kind, .int .i64 x.ht, .slice x.na x.nn x.nc]
structure ClOk (w : World) (x : Cl) : Prop where
  n : x.nn = x.ls.length
  few : x.nn ≤ 4611686018427387904
  l32 : ∀ y ∈ x.ls, y.length = 32
  at_ : NamesAt w x.na x.ls
theorem ClOk.below {w w' : World} {x : Cl} (h : ClOk w x) (hb : Below w.heap.size w w') : ClOk w' x := ⟨h.n, h.few, h.l32, fun h0 => by
  obtain ⟨ab, ao, ha, hl, hc⟩ := h.at_ h0
  exact ⟨ab, ao, ha, by have := hb.size; omega, fun i hi => ⟨(hc i hi).1, range_below (hc i hi).2 hb (by rw [Lib.byteCells_length, (hc i hi).1]; omega)⟩⟩⟩
def CallsAt (w : World) (a : Option Addr) (cs : List Cl) : Prop :=
  0 < cs.length → ∃ ab ao, a = some ⟨ab, ao, none⟩ ∧ ab < w.heap.size ∧ ∀ i (hi : i < cs.length), ClOk w cs[i] ∧ w.rangeAt ab (ao + i * 3) (clC cs[i])
theorem CallsAt.below {w w' : World} {a : Option Addr} {cs : List Cl} (h : CallsAt w a cs) (hb : Below w.heap.size w w') : CallsAt w' a cs := fun h0 => by
  obtain ⟨ab, ao, ha, hl, hc⟩ := h h0
  exact ⟨ab, ao, ha, by have := hb.size; omega, fun i hi => ⟨(hc i hi).1.below hb, range_below (hc i hi).2 hb (by show 0 < 3; decide)⟩⟩
section
variable {H : Type} {enc : TypeId × Value → H} {W : World} {fuel : Nat} {cs : List Value}
set_option maxRecDepth 100000 in
theorem open_hash {base : Nat} {sp : Nat → Bool} {held : Bool} {r : Reach} {b0 : Nat} {v : Value} {d : DataW H} {p : List MemPlace} (hv : Value.okWide Tryd.prog W r b0 25 v) (hd : DataW.Trod enc Tryd.prog W base sp held 25 v d p) :
    ∃ l : List UInt8, l.length = 32 ∧ v = .agg (bytesV l) := by
  simp only [Value.okWide, Tryd.underlying25] at hv
  obtain ⟨cs, rfl, hsz, _⟩ := hv
  obtain ⟨fuel, hf⟩ := hd
  have hl : cs.toList.length = 32 := by rw [Array.length_toList, hsz, cellsHash]
  obtain ⟨l, h1, h2⟩ := cells_name hf hl
  refine ⟨l, h1, ?_⟩
  congr 1
  exact Array.toList_inj.1 (h2.trans (bytesV_list l).symm)
set_option maxRecDepth 100000 in
theorem open_plan {base : Nat} {sp : Nat → Bool} {held : Bool} {r : Reach} {b0 : Nat} {v : Value} {d : DataW H} {p : List MemPlace} (hv : Value.okWide Tryd.prog W r b0 23 v) (hd : DataW.Trod enc Tryd.prog W base sp held 23 v d p) :
    ∃ x : Pl, v = .agg (plA x) := by
  obtain ⟨cs0, rfl, _⟩ := okWide_struct Tryd.underlying23 hv
  obtain ⟨fuel, hf⟩ := hd
  obtain ⟨xs, m, _, hd', hl, hxl, hel⟩ := DataW.trod_struct Tryd.underlying23 hf
  rw [cellsPlan] at hl
  have hx3 : xs.length = 3 := hxl
  have hl3 : cs0.toList.length = 3 := hl
  have f0 : DataW.trod enc Tryd.prog W base sp held m 3 ((cs0.toList.drop 0).take (Tryd.prog.cellsOf 3)) = xs[0]? := hel 0 _ rfl
  have f1 : DataW.trod enc Tryd.prog W base sp held m 3 ((cs0.toList.drop 1).take (Tryd.prog.cellsOf 3)) = xs[1]? := hel 1 _ rfl
  have f2 : DataW.trod enc Tryd.prog W base sp held m 3 ((cs0.toList.drop 2).take (Tryd.prog.cellsOf 3)) = xs[2]? := hel 2 _ rfl
  simp only [cellsInt] at f0 f1 f2
  rw [List.getElem?_eq_getElem (by omega)] at f0 f1 f2
  obtain ⟨s, e0, _, _⟩ := DataW.trod_int Tryd.underlying3 f0
  obtain ⟨q, e1, _, _⟩ := DataW.trod_int Tryd.underlying3 f1
  obtain ⟨o, e2, _, _⟩ := DataW.trod_int Tryd.underlying3 f2
  refine ⟨⟨s, q, o⟩, ?_⟩
  congr 1
  apply Array.toList_inj.1
  have c0 := drop_cut cs0.toList 0 1
  have c1 := drop_cut cs0.toList 1 1
  have c2 := drop_cut cs0.toList 2 1
  have c3 : cs0.toList.drop 3 = [] := List.drop_eq_nil_of_le (by omega)
  rw [e2, c3] at c2
  rw [e1, c2] at c1
  rw [e0, c1, List.drop_zero] at c0
  rw [c0]
  rfl
set_option maxRecDepth 100000 in
theorem cells_names {d : DataW H} {p : List MemPlace} (hf : DataW.trod enc Tryd.prog W 0 (fun _ => true) true fuel 38 cs = some (d, p))
    (hw : ∀ n ∈ d.weights Tryd.prog 38, n ≤ reachBytes) :
    ∃ (a : Option Addr) (ls : List (List UInt8)) (n c : Nat), cs = [.slice a n c] ∧ n ≤ c ∧ n = ls.length ∧ n ≤ 4611686018427387904 ∧ (∀ x ∈ ls, x.length = 32) ∧ NamesAt W a ls := by
  have h47 := reachBytes_lt
  rcases open_slice Tryd.underlying38 hf with ⟨hcs, hx⟩ | ⟨a, len', cap', m, q, D, Pl, hcs, _, hlc, _, hm, hx, hel⟩
  · exact ⟨none, [], 0, 0, hcs, Nat.le_refl _, rfl, by omega, fun s h => by simp at h, fun h => absurd h (by simp)⟩
  · simp only [if_true] at hm
    subst hm
    simp only [Prod.mk.injEq] at hx
    obtain ⟨rfl, rfl⟩ := hx
    have h1 := hw _ (by
      simp only [DataW.weights, Tryd.underlying38, List.mem_cons]
      exact .inl rfl)
    rw [bytesHash] at h1
    simp only [List.length_map, List.length_range] at h1
    rw [cellsHash] at hel
    obtain ⟨f, hfn⟩ := choose_lt (α := List UInt8) (p := fun i l => l.length = 32 ∧ W.cells? 0 (a.add (i * 32)) 32 = some (Lib.byteCells l)) (fun i hi => by
      obtain ⟨cs', h2, h3⟩ := hel i hi
      obtain ⟨_, hlen, _⟩ := World.cells?_some h2
      obtain ⟨l, hl32, rfl⟩ := cells_name h3 hlen
      exact ⟨l, hl32, h2⟩)
    refine ⟨some a, (List.range len').map f, len', _, hcs, hlc, by simp, by omega, fun y hy => ?_, fun h0 => ?_⟩
    · obtain ⟨i, hi, rfl⟩ := List.mem_map.1 hy
      exact (hfn i (by have := List.mem_range.1 hi; omega)).1
    · have hlen : 0 < len' := by simpa using h0
      obtain ⟨b, off, spot⟩ := a
      have hspot : spot = none := by simpa [Addr.add] using spot_of_cells (hfn 0 (by omega)).2 (by decide)
      subst hspot
      refine ⟨b, off, rfl, block_lt_of_cell (range_of_cells (hfn 0 (by omega)).2 0 _ (List.getElem?_eq_getElem (by rw [Lib.byteCells_length, (hfn 0 (by omega)).1]; decide))), fun i hi => ?_⟩
      have hi' : i < len' := by simpa using hi
      rw [List.getElem_map, List.getElem_range]
      exact ⟨(hfn i (by omega)).1, range_of_cells (by have := (hfn i (by omega)).2; rw [add_plain] at this; exact this)⟩
set_option maxRecDepth 100000 in
theorem open_names {r : Reach} {b0 : Nat} {v : Value} {d : DataW H} {p : List MemPlace} (hv : Value.okWide Tryd.prog W r b0 38 v) (hd : DataW.Trod enc Tryd.prog W 0 (fun _ => true) true 38 v d p)
    (hw : ∀ n ∈ d.weights Tryd.prog 38, n ≤ reachBytes) :
    ∃ (a : Option Addr) (ls : List (List UInt8)) (n c : Nat), v = .slice a n c ∧ n ≤ c ∧ n = ls.length ∧ n ≤ 4611686018427387904 ∧ (∀ x ∈ ls, x.length = 32) ∧ NamesAt W a ls := by
  obtain ⟨a0, len, cap, rfl⟩ := okWide_slice Tryd.underlying38 hv
  obtain ⟨fuel, hf⟩ := hd
  obtain ⟨a, ls, n, c, e, h⟩ := cells_names hf hw
  refine ⟨a, ls, n, c, ?_, h⟩
  simpa [Value.cells] using e
theorem cellsCall : Tryd.prog.cellsOf 40 = 3 := by kernel_rfl
theorem cellsHs : Tryd.prog.cellsOf 38 = 1 := by kernel_rfl
theorem bytesCall : Tryd.prog.bytesOf 40 = 40 := by kernel_rfl
set_option maxRecDepth 100000 in
theorem cells_call {d : DataW H} {p : List MemPlace} (hf : DataW.trod enc Tryd.prog W 0 (fun _ => true) true fuel 40 cs = some (d, p))
    (hw : ∀ n ∈ d.weights Tryd.prog 40, n ≤ reachBytes) : ∃ x : Cl, cs = clC x ∧ ClOk W x := by
  obtain ⟨xs, m, _, hd, hl, hxl, hel⟩ := DataW.trod_struct Tryd.underlying40 hf
  simp only [Prod.mk.injEq] at hd
  obtain ⟨rfl, rfl⟩ := hd
  rw [cellsCall] at hl
  have hx3 : xs.length = 3 := hxl
  have f0 : DataW.trod enc Tryd.prog W 0 (fun _ => true) true m 3 ((cs.drop 0).take (Tryd.prog.cellsOf 3)) = xs[0]? := hel 0 _ rfl
  have f1 : DataW.trod enc Tryd.prog W 0 (fun _ => true) true m 3 ((cs.drop 1).take (Tryd.prog.cellsOf 3)) = xs[1]? := hel 1 _ rfl
  have f2 : DataW.trod enc Tryd.prog W 0 (fun _ => true) true m 38 ((cs.drop 2).take (Tryd.prog.cellsOf 38)) = xs[2]? := hel 2 _ rfl
  simp only [cellsInt, cellsHs] at f0 f1 f2
  rw [List.getElem?_eq_getElem (by omega)] at f0 f1 f2
  obtain ⟨k, e0, _, _⟩ := DataW.trod_int Tryd.underlying3 f0
  obtain ⟨he, e1, _, _⟩ := DataW.trod_int Tryd.underlying3 f1
  obtain ⟨na, ls, nn, nc, e2, -, hn1, hn2, hn3, hN⟩ := cells_names (d := (xs[2]'(by omega)).1) (p := (xs[2]'(by omega)).2) f2 (fun n hn => hw n (by
    simp only [DataW.weights, Tryd.underlying40]
    refine DataW.weights_mem_each (j := 2) (t := 38) (d := (xs[2]'(by omega)).1) rfl ?_ _ hn
    rw [List.getElem?_map, List.getElem?_eq_getElem (by omega)]
    rfl))
  refine ⟨⟨k, he, na, nn, nc, ls⟩, ?_, ⟨hn1, hn2, hn3, hN⟩⟩
  have c0 := drop_cut cs 0 1
  have c1 := drop_cut cs 1 1
  have c2 := drop_cut cs 2 1
  have c3 : cs.drop 3 = [] := List.drop_eq_nil_of_le (by omega)
  rw [e2, c3] at c2
  rw [e1, c2] at c1
  rw [e0, c1, List.drop_zero] at c0
  rw [c0]
  rfl
set_option maxRecDepth 100000 in
theorem open_calls {r : Reach} {b0 : Nat} {v : Value} {d : DataW H} {p : List MemPlace} (hv : Value.okWide Tryd.prog W r b0 37 v) (hd : DataW.Trod enc Tryd.prog W 0 (fun _ => true) true 37 v d p)
    (hw : ∀ n ∈ d.weights Tryd.prog 37, n ≤ reachBytes) :
    ∃ (a : Option Addr) (cs : List Cl) (n c : Nat), v = .slice a n c ∧ n = cs.length ∧ n ≤ 4611686018427387904 ∧ CallsAt W a cs := by
  obtain ⟨a0, len, cap, rfl⟩ := okWide_slice Tryd.underlying37 hv
  obtain ⟨fuel, hf⟩ := hd
  have h47 := reachBytes_lt
  rcases open_slice Tryd.underlying37 hf with ⟨hcs, hx⟩ | ⟨a, len', cap', m, q, D, Pl, hcs, _, hl, _, hm, hx, hel⟩
  · simp [Value.cells] at hcs
    obtain ⟨rfl, rfl, rfl⟩ := hcs
    exact ⟨none, [], 0, 0, rfl, rfl, by omega, fun h => absurd h (by simp)⟩
  · simp [Value.cells] at hcs
    obtain ⟨rfl, rfl, rfl⟩ := hcs
    simp only [if_true] at hm
    subst hm
    simp only [Prod.mk.injEq] at hx
    obtain ⟨rfl, rfl⟩ := hx
    have h1 := hw _ (by
      simp only [DataW.weights, Tryd.underlying37, List.mem_cons]
      exact .inl rfl)
    rw [bytesCall] at h1
    simp only [List.length_map, List.length_range] at h1
    rw [cellsCall] at hel
    obtain ⟨f, hfn⟩ := choose_lt (n := len) (α := Cl) (p := fun i x => ClOk W x ∧ W.cells? 0 (a.add (i * 3)) 3 = some (clC x)) (fun i hi => by
      obtain ⟨cs', h2, h3⟩ := hel i (by omega)
      obtain ⟨x, rfl, hok⟩ := cells_call h3 (fun n hn => hw n (by
        simp only [DataW.weights, Tryd.underlying37, List.mem_cons, List.mem_append]
        exact .inr (.inl (mem_all _ (List.mem_map.2 ⟨i, List.mem_range.2 hi, rfl⟩) hn))))
      exact ⟨x, hok, h2⟩)
    refine ⟨some a, (List.range len).map f, len, _, rfl, by simp, by omega, fun h0 => ?_⟩
    have hlen : 0 < len := by simpa using h0
    obtain ⟨b, off, spot⟩ := a
    have hspot : spot = none := by simpa [Addr.add] using spot_of_cells (hfn 0 hlen).2 (by decide)
    subst hspot
    refine ⟨b, off, rfl, block_lt_of_cell (range_of_cells (hfn 0 hlen).2 0 _ (List.getElem?_eq_getElem (by show 0 < 3; decide))), fun i hi => ?_⟩
    have hi' : i < len := by simpa using hi
    rw [List.getElem_map, List.getElem_range]
    exact ⟨(hfn i hi').1, range_of_cells (by have := (hfn i hi').2; rw [add_plain] at this; exact this)⟩
end
end Go.Proofs.YtomegahohiijcaaDoor.An
