/-
  Rows over messages: the arguments opened.
-/
import Derived.Test.YteblphnpealefaaBunQ22
import Derived.Test.YteblphnpealefaaBunQ18
namespace Go.Proofs.Yteblphnpealefaa
open Go.ChangeShapes Go.WideShapes Go.RowKit Go.Deep Mem Sc
theorem bytesHd : Try.prog.bytesOf 67 = 96 := by kernel_rfl
theorem cellsMsg : Try.prog.cellsOf 39 = 39 := by kernel_rfl
theorem cellsHs : Try.prog.cellsOf 34 = 1 := by kernel_rfl
theorem cellsHds : Try.prog.cellsOf 37 = 1 := by kernel_rfl
section
variable {H : Type} {enc : TypeId × Value → H} {W : World} {fuel : Nat} {cs : List Value}
set_option maxRecDepth 100000 in
theorem cells_names {d : DataW H} {p : List MemPlace} (hf : DataW.trod enc Try.prog W 0 (fun _ => true) true fuel 34 cs = some (d, p))
    (hw : ∀ n ∈ d.weights Try.prog 34, n ≤ reachBytes) :
    ∃ (a : Option Addr) (ls : List (List UInt8)) (n c : Nat), cs = [.slice a n c] ∧ n = ls.length ∧ n ≤ 4611686018427387904 ∧ (∀ x ∈ ls, x.length = 32) ∧ NamesAt W a ls := by
  have h47 := reachBytes_lt
  rcases open_slice Try.underlying34 hf with ⟨hcs, hx⟩ | ⟨a, len', cap', m, q, D, Pl, hcs, _, hl, _, hm, hx, hel⟩
  · exact ⟨none, [], 0, 0, hcs, rfl, by omega, fun s h => by simp at h, fun h => absurd h (by simp)⟩
  · simp only [if_true] at hm
    subst hm
    simp only [Prod.mk.injEq] at hx
    obtain ⟨rfl, rfl⟩ := hx
    have h1 := hw _ (by
      simp only [DataW.weights, Try.underlying34, List.mem_cons]
      exact .inl rfl)
    rw [bytesHash] at h1
    simp only [List.length_map, List.length_range] at h1
    rw [cellsHash] at hel
    obtain ⟨f, hfn⟩ := choose_lt (α := List UInt8) (p := fun i l => l.length = 32 ∧ W.cells? 0 (a.add (i * 32)) 32 = some (Lib.byteCells l)) (fun i hi => by
      obtain ⟨cs', h2, h3⟩ := hel i hi
      obtain ⟨_, hlen, _⟩ := World.cells?_some h2
      obtain ⟨l, hl32, rfl⟩ := cells_name h3 hlen
      exact ⟨l, hl32, h2⟩)
    refine ⟨some a, (List.range len').map f, len', _, hcs, by simp, by omega, fun y hy => ?_, fun h0 => ?_⟩
    · obtain ⟨i, hi, rfl⟩ := List.mem_map.1 hy
      exact (hfn i (by have := List.mem_range.1 hi; omega)).1
    · have hlen : 0 < len' := by simpa using h0
      obtain ⟨b, off, spot⟩ := a
      have hspot : spot = none := by simpa [Addr.add] using spot_of_cells (hfn 0 (by omega)).2 (by decide)
      subst hspot
      refine ⟨b, off, rfl, block_lt_of_cell (range_of_cells (hfn 0 (by omega)).2 0 _ (List.getElem?_eq_getElem (by rw [Lib.byteCells_length, (hfn 0 (by omega)).1]; decide))), fun i hi => ?_⟩
      have hi' : i < len' := by simpa using hi
      rw [List.getElem_map, List.getElem_range]
      exact ⟨(hfn i (by omega)).1, range_of_cells (by have := (hfn i (by omega)).2; rw [add_plain] at this; exact this)⟩
set_option maxRecDepth 100000 in
theorem cells_headers {d : DataW H} {p : List MemPlace} (hf : DataW.trod enc Try.prog W 0 (fun _ => true) true fuel 37 cs = some (d, p))
    (hw : ∀ n ∈ d.weights Try.prog 37, n ≤ reachBytes) :
    ∃ (a : Option Addr) (hs : List Hd) (n c : Nat), cs = [.slice a n c] ∧ n = hs.length ∧ n ≤ 4611686018427387904 ∧ (∀ x ∈ hs, x.ok) ∧ HeadersAt W a hs := by
  have h47 := reachBytes_lt
  rcases open_slice Try.underlying37 hf with ⟨hcs, hx⟩ | ⟨a, len', cap', m, q, D, Pl, hcs, _, hl, _, hm, hx, hel⟩
  · exact ⟨none, [], 0, 0, hcs, rfl, by omega, fun s h => by simp at h, fun h => absurd h (by simp)⟩
  · simp only [if_true] at hm
    subst hm
    simp only [Prod.mk.injEq] at hx
    obtain ⟨rfl, rfl⟩ := hx
    have h1 := hw _ (by
      simp only [DataW.weights, Try.underlying37, List.mem_cons]
      exact .inl rfl)
    rw [bytesHd] at h1
    simp only [List.length_map, List.length_range] at h1
    rw [cellsHd] at hel
    obtain ⟨f, hfn⟩ := choose_lt (n := len') (α := Hd) (p := fun i h => h.ok ∧ W.cells? 0 (a.add (i * 68)) 68 = some (hdC h)) (fun i hi => by
      obtain ⟨cs', h2, h3⟩ := hel i (by omega)
      obtain ⟨h, hfit, rfl⟩ := cells_header h3
      exact ⟨h, hfit.1, h2⟩)
    refine ⟨some a, (List.range len').map f, len', _, hcs, by simp, by omega, fun y hy => ?_, fun h0 => ?_⟩
    · obtain ⟨i, hi, rfl⟩ := List.mem_map.1 hy
      exact (hfn i (List.mem_range.1 hi)).1
    · have hlen : 0 < len' := by simpa using h0
      obtain ⟨b, off, spot⟩ := a
      have hspot : spot = none := by simpa [Addr.add] using spot_of_cells (hfn 0 hlen).2 (by decide)
      subst hspot
      refine ⟨b, off, rfl, block_lt_of_cell (range_of_cells (hfn 0 hlen).2 0 _ (List.getElem?_eq_getElem (hdC_pos _))), fun i hi => ?_⟩
      have hi' : i < len' := by simpa using hi
      rw [List.getElem_map, List.getElem_range]
      exact ⟨(hfn i hi').1, range_of_cells (by have := (hfn i hi').2; rw [add_plain] at this; exact this)⟩
set_option maxRecDepth 100000 in
theorem cells_msg {d : DataW H} {p : List MemPlace} (hf : DataW.trod enc Try.prog W 0 (fun _ => true) true fuel 39 cs = some (d, p))
    (hw : ∀ n ∈ d.weights Try.prog 39, n ≤ reachBytes) : ∃ (m : Mm) (M : Ms), cs = mmC m ∧ Lies W m M := by
  obtain ⟨xs, m, _, hd, hl, hxl, hel⟩ := DataW.trod_struct Try.underlying39 hf
  simp only [Prod.mk.injEq] at hd
  obtain ⟨rfl, rfl⟩ := hd
  rw [cellsMsg] at hl
  have hx8 : xs.length = 8 := hxl
  have f0 : DataW.trod enc Try.prog W 0 (fun _ => true) true m 3 ((cs.drop 0).take (Try.prog.cellsOf 3)) = xs[0]? := hel 0 _ rfl
  have f1 : DataW.trod enc Try.prog W 0 (fun _ => true) true m 3 ((cs.drop 1).take (Try.prog.cellsOf 3)) = xs[1]? := hel 1 _ rfl
  have f2 : DataW.trod enc Try.prog W 0 (fun _ => true) true m 3 ((cs.drop 2).take (Try.prog.cellsOf 3)) = xs[2]? := hel 2 _ rfl
  have f3 : DataW.trod enc Try.prog W 0 (fun _ => true) true m 3 ((cs.drop 3).take (Try.prog.cellsOf 3)) = xs[3]? := hel 3 _ rfl
  have f4 : DataW.trod enc Try.prog W 0 (fun _ => true) true m 3 ((cs.drop 4).take (Try.prog.cellsOf 3)) = xs[4]? := hel 4 _ rfl
  have f5 : DataW.trod enc Try.prog W 0 (fun _ => true) true m 34 ((cs.drop 5).take (Try.prog.cellsOf 34)) = xs[5]? := hel 5 _ rfl
  have f6 : DataW.trod enc Try.prog W 0 (fun _ => true) true m 36 ((cs.drop 6).take (Try.prog.cellsOf 36)) = xs[6]? := hel 6 _ rfl
  have f7 : DataW.trod enc Try.prog W 0 (fun _ => true) true m 37 ((cs.drop 38).take (Try.prog.cellsOf 37)) = xs[7]? := hel 7 _ rfl
  simp only [cellsInt, cellsHash, cellsHs, cellsHds] at f0 f1 f2 f3 f4 f5 f6 f7
  rw [List.getElem?_eq_getElem (by omega)] at f0 f1 f2 f3 f4 f5 f6 f7
  obtain ⟨k, e0, _, _⟩ := DataW.trod_int Try.underlying3 f0
  obtain ⟨ve, e1, _, _⟩ := DataW.trod_int Try.underlying3 f1
  obtain ⟨se, e2, _, _⟩ := DataW.trod_int Try.underlying3 f2
  obtain ⟨he, e3, _, _⟩ := DataW.trod_int Try.underlying3 f3
  obtain ⟨nb, e4, _, _⟩ := DataW.trod_int Try.underlying3 f4
  obtain ⟨na, ls, nn, nc, e5, hn1, hn2, hn3, hN⟩ := cells_names (d := (xs[5]'(by omega)).1) (p := (xs[5]'(by omega)).2) f5 (fun n hn => hw n (by
    simp only [DataW.weights, Try.underlying39]
    refine DataW.weights_mem_each (j := 5) (t := 34) (d := (xs[5]'(by omega)).1) rfl ?_ _ hn
    rw [List.getElem?_map, List.getElem?_eq_getElem (by omega)]
    rfl))
  obtain ⟨st, hst, e6⟩ := cells_name f6 (by simp; omega)
  obtain ⟨ga, hs, gn, gc, e7, hg1, hg2, hg3, hG⟩ := cells_headers (d := (xs[7]'(by omega)).1) (p := (xs[7]'(by omega)).2) f7 (fun n hn => hw n (by
    simp only [DataW.weights, Try.underlying39]
    refine DataW.weights_mem_each (j := 7) (t := 37) (d := (xs[7]'(by omega)).1) rfl ?_ _ hn
    rw [List.getElem?_map, List.getElem?_eq_getElem (by omega)]
    rfl))
  refine ⟨⟨k, ve, se, he, nb, ⟨na, nn, nc⟩, st, ⟨ga, gn, gc⟩⟩, ⟨k, ve, se, he, nb, ls, st, hs⟩, ?_, ⟨rfl, rfl, rfl, rfl, rfl, rfl, hn1, hn2, hN, hg1, hg2, hG, ⟨hn3, hst, hg3⟩⟩⟩
  have c0 := drop_cut cs 0 1
  have c1 := drop_cut cs 1 1
  have c2 := drop_cut cs 2 1
  have c3 := drop_cut cs 3 1
  have c4 := drop_cut cs 4 1
  have c5 := drop_cut cs 5 1
  have c6 := drop_cut cs 6 32
  have c7 := drop_cut cs 38 1
  have c8 : cs.drop 39 = [] := List.drop_eq_nil_of_le (by omega)
  rw [e7, c8] at c7
  rw [e6, c7] at c6
  rw [e5, c6] at c5
  rw [e4, c5] at c4
  rw [e3, c4] at c3
  rw [e2, c3] at c2
  rw [e1, c2] at c1
  rw [e0, c1, List.drop_zero] at c0
  rw [c0]
  rfl
set_option maxRecDepth 100000 in
theorem open_msg {r : Reach} {b0 : Nat} {v : Value} {d : DataW H} {p : List MemPlace} (hv : Value.okWide Try.prog W r b0 39 v) (hd : DataW.Trod enc Try.prog W 0 (fun _ => true) true 39 v d p)
    (hw : ∀ n ∈ d.weights Try.prog 39, n ≤ reachBytes) :
    ∃ (m : Mm) (M : Ms), v = .agg (mmA m) ∧ Lies W m M := by
  obtain ⟨cs, rfl, _⟩ := okWide_struct Try.underlying39 hv
  obtain ⟨fuel, hf⟩ := hd
  obtain ⟨m, M, e, hL⟩ := cells_msg hf hw
  refine ⟨m, M, ?_, hL⟩
  congr 1
  exact Array.toList_inj.1 e
end
end Go.Proofs.Yteblphnpealefaa
