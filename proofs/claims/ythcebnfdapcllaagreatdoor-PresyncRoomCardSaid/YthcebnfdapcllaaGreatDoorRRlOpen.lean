import Derived.Test.YthcebnfdapcllaaGreatDoorRBunQ13
import Derived.Test.YthcebnfdapcllaaGreatDoorRBunQ39
namespace Go.Proofs.YthcebnfdapcllaaGreatDoor
open Go.ChangeShapes Go.WideShapes Go.RowKit Go.Deep Mem Sc
instance instInhGt : Inhabited Gt := ⟨gtZ⟩
instance instInhCk : Inhabited Ck := ⟨ckZ⟩
theorem cellsGt : Tryz.prog.cellsOf 82 = 2 := by kernel_rfl
theorem cellsCk : Tryz.prog.cellsOf 85 = 33 := by kernel_rfl
theorem cellsGts : Tryz.prog.cellsOf 22 = 1 := by kernel_rfl
theorem cellsCks : Tryz.prog.cellsOf 23 = 1 := by kernel_rfl
theorem cellsBoolR : Tryz.prog.cellsOf 4 = 1 := by kernel_rfl
theorem cellsPrR : Tryz.prog.cellsOf 32 = 83 := by kernel_rfl
section
variable {H : Type} {enc : TypeId × Value → H} {W : World} {fuel : Nat} {cs : List Value}
theorem cells_gate {base : Nat} {sp : Nat → Bool} {held : Bool} {x : DataW H × List MemPlace} (hf : DataW.trod enc Tryz.prog W base sp held fuel 82 cs = some x) : ∃ g : Gt, cs = gtC g := by
  obtain ⟨xs, m, _, rfl, hl, hxl, hel⟩ := DataW.trod_struct Tryz.underlying82 hf
  rw [cellsGt] at hl
  have hx2 : xs.length = 2 := hxl
  have f0 : DataW.trod enc Tryz.prog W base sp held m 3 ((cs.drop 0).take (Tryz.prog.cellsOf 3)) = xs[0]? := hel 0 _ rfl
  have f1 : DataW.trod enc Tryz.prog W base sp held m 3 ((cs.drop 1).take (Tryz.prog.cellsOf 3)) = xs[1]? := hel 1 _ rfl
  simp only [cellsInt] at f0 f1
  rw [List.getElem?_eq_getElem (by omega)] at f0 f1
  obtain ⟨a, e0, _, _⟩ := DataW.trod_int Tryz.underlying3 f0
  obtain ⟨b, e1, _, _⟩ := DataW.trod_int Tryz.underlying3 f1
  refine ⟨⟨a, b⟩, ?_⟩
  have c0 := drop_cut cs 0 1
  have c1 := drop_cut cs 1 1
  have c2 : cs.drop 2 = [] := List.drop_eq_nil_of_le (by omega)
  rw [e1, c2] at c1
  rw [e0, c1, List.drop_zero] at c0
  exact c0
theorem cells_check {base : Nat} {sp : Nat → Bool} {held : Bool} {x : DataW H × List MemPlace} (hf : DataW.trod enc Tryz.prog W base sp held fuel 85 cs = some x) : ∃ c : Ck, c.id.length = 32 ∧ cs = ckC c := by
  obtain ⟨xs, m, _, rfl, hl, hxl, hel⟩ := DataW.trod_struct Tryz.underlying85 hf
  rw [cellsCk] at hl
  have hx2 : xs.length = 2 := hxl
  have f0 : DataW.trod enc Tryz.prog W base sp held m 3 ((cs.drop 0).take (Tryz.prog.cellsOf 3)) = xs[0]? := hel 0 _ rfl
  have f1 : DataW.trod enc Tryz.prog W base sp held m 28 ((cs.drop 1).take (Tryz.prog.cellsOf 28)) = xs[1]? := hel 1 _ rfl
  simp only [cellsInt, cellsHash] at f0 f1
  rw [List.getElem?_eq_getElem (by omega)] at f0 f1
  obtain ⟨a, e0, _, _⟩ := DataW.trod_int Tryz.underlying3 f0
  obtain ⟨l, hl32, e1⟩ := cells_name f1 (by simp; omega)
  refine ⟨⟨a, l⟩, hl32, ?_⟩
  have c0 := drop_cut cs 0 1
  have c1 := drop_cut cs 1 32
  have c2 : cs.drop 33 = [] := List.drop_eq_nil_of_le (by omega)
  rw [e1, c2, List.append_nil] at c1
  rw [e0, c1, List.drop_zero] at c0
  exact c0
set_option maxRecDepth 100000 in
theorem cells_gates {d : DataW H} {p : List MemPlace} (hf : DataW.trod enc Tryz.prog W 0 (fun _ => true) true fuel 22 cs = some (d, p)) :
    ∃ (a : Option Addr) (ls : List Gt) (n c : Nat), cs = [.slice a n c] ∧ n = ls.length ∧ GatesAt W a ls := by
  rcases open_slice Tryz.underlying22 hf with ⟨hcs, hx⟩ | ⟨a, len', cap', m, q, D, Pl, hcs, _, hl, _, hm, hx, hel⟩
  · exact ⟨none, [], 0, 0, hcs, rfl, fun h => absurd h (by simp)⟩
  · simp only [if_true] at hm
    subst hm
    simp only [Prod.mk.injEq] at hx
    obtain ⟨rfl, rfl⟩ := hx
    rw [cellsGt] at hel
    obtain ⟨f, hfn⟩ := choose_lt (n := len') (α := Gt) (p := fun i g => W.cells? 0 (a.add (i * 2)) 2 = some (gtC g)) (fun i hi => by
      obtain ⟨cs', h2, h3⟩ := hel i (by omega)
      obtain ⟨g, rfl⟩ := cells_gate h3
      exact ⟨g, h2⟩)
    refine ⟨some a, (List.range len').map f, len', _, hcs, by simp, fun h0 => ?_⟩
    have hlen : 0 < len' := by simpa using h0
    obtain ⟨b, off, spot⟩ := a
    have hspot : spot = none := by simpa [Addr.add] using spot_of_cells (hfn 0 hlen) (by decide)
    subst hspot
    refine ⟨b, off, rfl, block_lt_of_cell (range_of_cells (hfn 0 hlen) 0 _ (List.getElem?_eq_getElem (gtC_pos _))), fun i hi => ?_⟩
    have hi' : i < len' := by simpa using hi
    rw [List.getElem_map, List.getElem_range]
    exact range_of_cells (by have := (hfn i hi'); rw [add_plain] at this; exact this)
set_option maxRecDepth 100000 in
theorem cells_checks {d : DataW H} {p : List MemPlace} (hf : DataW.trod enc Tryz.prog W 0 (fun _ => true) true fuel 23 cs = some (d, p)) :
    ∃ (a : Option Addr) (ls : List Ck) (n c : Nat), cs = [.slice a n c] ∧ n = ls.length ∧ ChecksAt W a ls := by
  rcases open_slice Tryz.underlying23 hf with ⟨hcs, hx⟩ | ⟨a, len', cap', m, q, D, Pl, hcs, _, hl, _, hm, hx, hel⟩
  · exact ⟨none, [], 0, 0, hcs, rfl, fun h => absurd h (by simp)⟩
  · simp only [if_true] at hm
    subst hm
    simp only [Prod.mk.injEq] at hx
    obtain ⟨rfl, rfl⟩ := hx
    rw [cellsCk] at hel
    obtain ⟨f, hfn⟩ := choose_lt (n := len') (α := Ck) (p := fun i g => g.id.length = 32 ∧ W.cells? 0 (a.add (i * 33)) 33 = some (ckC g)) (fun i hi => by
      obtain ⟨cs', h2, h3⟩ := hel i (by omega)
      obtain ⟨g, hg, rfl⟩ := cells_check h3
      exact ⟨g, ⟨hg, h2⟩⟩)
    refine ⟨some a, (List.range len').map f, len', _, hcs, by simp, fun h0 => ?_⟩
    have hlen : 0 < len' := by simpa using h0
    obtain ⟨b, off, spot⟩ := a
    have hspot : spot = none := by simpa [Addr.add] using spot_of_cells (hfn 0 hlen).2 (by decide)
    subst hspot
    refine ⟨b, off, rfl, block_lt_of_cell (range_of_cells (hfn 0 hlen).2 0 _ (List.getElem?_eq_getElem (ckC_pos _))), fun i hi => ?_⟩
    have hi' : i < len' := by simpa using hi
    rw [List.getElem_map, List.getElem_range]
    exact ⟨(hfn i hi').1, range_of_cells (by have := (hfn i hi').2; rw [add_plain] at this; exact this)⟩
set_option maxRecDepth 100000 in
theorem cells_rules {d : DataW H} {p : List MemPlace} (hf : DataW.trod enc Tryz.prog W 0 (fun _ => true) true fuel 32 cs = some (d, p)) :
    ∃ (p : NN.Pr) (t : Tl) (gs : List Gt) (ks : List Ck), cs = NN.prC p ∧ p.ok ∧ p.tl = t.C ∧ t.ok ∧ t.gn = gs.length ∧ t.cn = ks.length ∧ GatesAt W t.ga gs ∧ ChecksAt W t.ca ks := by
  obtain ⟨xs, m, _, _, hl, hxl, hel⟩ := DataW.trod_struct Tryz.underlying32 hf
  rw [cellsPrR] at hl
  have hx10 : xs.length = 10 := hxl
  have f0 : DataW.trod enc Tryz.prog W 0 (fun _ => true) true m 3 ((cs.drop 0).take (Tryz.prog.cellsOf 3)) = xs[0]? := hel 0 _ rfl
  have f1 : DataW.trod enc Tryz.prog W 0 (fun _ => true) true m 3 ((cs.drop 1).take (Tryz.prog.cellsOf 3)) = xs[1]? := hel 1 _ rfl
  have f2 : DataW.trod enc Tryz.prog W 0 (fun _ => true) true m 3 ((cs.drop 2).take (Tryz.prog.cellsOf 3)) = xs[2]? := hel 2 _ rfl
  have f3 : DataW.trod enc Tryz.prog W 0 (fun _ => true) true m 3 ((cs.drop 3).take (Tryz.prog.cellsOf 3)) = xs[3]? := hel 3 _ rfl
  have f4 : DataW.trod enc Tryz.prog W 0 (fun _ => true) true m 4 ((cs.drop 4).take (Tryz.prog.cellsOf 4)) = xs[4]? := hel 4 _ rfl
  have f5 : DataW.trod enc Tryz.prog W 0 (fun _ => true) true m 22 ((cs.drop 5).take (Tryz.prog.cellsOf 22)) = xs[5]? := hel 5 _ rfl
  have f6 : DataW.trod enc Tryz.prog W 0 (fun _ => true) true m 23 ((cs.drop 6).take (Tryz.prog.cellsOf 23)) = xs[6]? := hel 6 _ rfl
  have f9 : DataW.trod enc Tryz.prog W 0 (fun _ => true) true m 30 ((cs.drop 15).take (Tryz.prog.cellsOf 30)) = xs[9]? := hel 9 _ rfl
  simp only [cellsInt, cellsBoolR, cellsGts, cellsCks, cellsHd] at f0 f1 f2 f3 f4 f5 f6 f9
  rw [List.getElem?_eq_getElem (by omega)] at f0 f1 f2 f3 f4 f5 f6 f9
  obtain ⟨a, e0, _, _⟩ := DataW.trod_int Tryz.underlying3 f0
  obtain ⟨b, e1, _, _⟩ := DataW.trod_int Tryz.underlying3 f1
  obtain ⟨c, e2, _, _⟩ := DataW.trod_int Tryz.underlying3 f2
  obtain ⟨e, e3, _, _⟩ := DataW.trod_int Tryz.underlying3 f3
  obtain ⟨g, e4, _⟩ := DataW.trod_bool Tryz.underlying4 f4
  obtain ⟨ga, gs, gn, gc, e5, hg1, hg2⟩ := cells_gates (d := (xs[5]'(by omega)).1) (p := (xs[5]'(by omega)).2) f5
  obtain ⟨ca, ks, cn, cc, e6, hk1, hk2⟩ := cells_checks (d := (xs[6]'(by omega)).1) (p := (xs[6]'(by omega)).2) f6
  obtain ⟨h, hfit, e9⟩ := cells_header f9
  have hnn : ((cs.drop 7).take 8).length = 8 := by simp; omega
  have htl : cs.drop 5 = Tl.C ⟨ga, gn, gc, ca, cn, cc, (cs.drop 7).take 8, h⟩ := by
    have c5 := drop_cut cs 5 1
    have c6 := drop_cut cs 6 1
    have c7 := drop_cut cs 7 8
    have c9 := drop_cut cs 15 68
    have c10 : cs.drop 83 = [] := List.drop_eq_nil_of_le (by omega)
    rw [e9, c10, List.append_nil] at c9
    rw [c9] at c7
    rw [e6, c7] at c6
    rw [e5, c6] at c5
    exact c5
  refine ⟨⟨a, b, c, e, g, cs.drop 5⟩, ⟨ga, gn, gc, ca, cn, cc, (cs.drop 7).take 8, h⟩, gs, ks, ?_, by show (cs.drop 5).length = 78; rw [List.length_drop]; omega, htl, ⟨hnn, hfit.1⟩, hg1, hk1, hg2, hk2⟩
  have c0 := drop_cut cs 0 1
  have c1 := drop_cut cs 1 1
  have c2 := drop_cut cs 2 1
  have c3 := drop_cut cs 3 1
  have c4 := drop_cut cs 4 1
  rw [e4] at c4
  rw [e3, c4] at c3
  rw [e2, c3] at c2
  rw [e1, c2] at c1
  rw [e0, c1, List.drop_zero] at c0
  exact c0
end
end Go.Proofs.YthcebnfdapcllaaGreatDoor
