/-
  Layer 5's rows: the arguments opened: names, items.
-/
import Derived.Test.YtjdhedebkpclmaaOpenGen
import Derived.Test.YtjdhedebkpclmaaScItem
import Derived.Test.YtjdhedebkpclmaaScPenNames
import Derived.SizedLaws
import Derived.Deep.Slices
namespace Go.Proofs.Ytjdhedebkpclmaa
open Go.ChangeShapes Go.WideShapes Go.RowKit Go.Deep Mem Sc
instance : Inhabited It := ⟨⟨0, 0, 0, [], ByteArray.empty⟩⟩
theorem cellsHash : Try.prog.cellsOf 30 = 32 := by kernel_rfl
theorem cellsByte : Try.prog.cellsOf 5 = 1 := by kernel_rfl
theorem cellsInt : Try.prog.cellsOf 3 = 1 := by kernel_rfl
theorem cellsString : Try.prog.cellsOf 9 = 1 := by kernel_rfl
theorem cellsItem : Try.prog.cellsOf 32 = 36 := by kernel_rfl
theorem bytesHash : Try.prog.bytesOf 30 = 32 := by kernel_rfl
theorem bytesItem : Try.prog.bytesOf 32 = 72 := by kernel_rfl
theorem mem_all {H : Type} {P : Program} {e : TypeId} {n : Nat} {d : DataW H} : ∀ (ds : List (DataW H)), d ∈ ds → n ∈ d.weights P e → n ∈ DataW.weightsAll P e ds
  | [], h, _ => by simp at h
  | t :: ds, h, hn => by
    simp only [DataW.weightsAll, List.mem_append]
    rcases List.mem_cons.1 h with rfl | h
    · exact .inl hn
    · exact .inr (mem_all ds h hn)
theorem drop_cut {α : Type} (cs : List α) (o k : Nat) : cs.drop o = (cs.drop o).take k ++ cs.drop (o + k) := by
  rw [← List.drop_drop, List.take_append_drop]
section
variable {H : Type} {enc : TypeId × Value → H} {W : World} {base : Nat} {sp : Nat → Bool} {held : Bool} {fuel : Nat} {cs : List Value} {x : DataW H × List MemPlace}
theorem cells_name (hf : DataW.trod enc Try.prog W base sp held fuel 30 cs = some x) (hcs : cs.length = 32) : ∃ l : List UInt8, l.length = 32 ∧ cs = Lib.byteCells l := by
  obtain ⟨xs, m, _, hx, _, hl, hel⟩ := DataW.trod_array Try.underlying30 hf
  obtain ⟨f, hf⟩ := choose_lt (n := 32) (α := UInt8) (p := fun i b => cs[i]? = some (.int .u8 (b.toNat : Int))) (fun i hi => by
    have hE := hel i hi
    rw [cellsByte, Nat.mul_one, List.getElem?_eq_getElem (by omega)] at hE
    obtain ⟨z, e1, e2, e3⟩ := DataW.trod_int Try.underlying5 hE
    have hb := bounds_u8 e3
    refine ⟨UInt8.ofNat z.toNat, ?_⟩
    have h0 : ((cs.drop i).take 1)[0]? = some (.int .u8 z) := by rw [e1]; rfl
    have h1 : cs[i]? = some (.int .u8 z) := by simpa using h0
    rw [h1]
    congr 2
    rw [UInt8.toNat_ofNat']
    omega)
  refine ⟨(List.range 32).map f, by simp, ?_⟩
  apply List.ext_getElem?
  intro i
  by_cases hi : i < 32
  · rw [hf i hi]; simp [Lib.byteCells, hi]
  · simp [Lib.byteCells, hi, hcs]
theorem cells_item (hf : DataW.trod enc Try.prog W base sp held fuel 32 cs = some x) :
    ∃ it : It, it.name.length = 32 ∧ cs = itemC it ∧ it.n < 9223372036854775808 ∧ it.text.data.toList.length ∈ x.1.weights Try.prog 32 := by
  obtain ⟨xs, m, _, rfl, hl, hxl, hel⟩ := DataW.trod_struct Try.underlying32 hf
  rw [cellsItem] at hl
  have hx5 : xs.length = 5 := hxl
  have f0 : DataW.trod enc Try.prog W base sp held m 3 ((cs.drop 0).take (Try.prog.cellsOf 3)) = xs[0]? := hel 0 _ rfl
  have f1 : DataW.trod enc Try.prog W base sp held m 3 ((cs.drop 1).take (Try.prog.cellsOf 3)) = xs[1]? := hel 1 _ rfl
  have f2 : DataW.trod enc Try.prog W base sp held m 3 ((cs.drop 2).take (Try.prog.cellsOf 3)) = xs[2]? := hel 2 _ rfl
  have f3 : DataW.trod enc Try.prog W base sp held m 30 ((cs.drop 3).take (Try.prog.cellsOf 30)) = xs[3]? := hel 3 _ rfl
  have f4 : DataW.trod enc Try.prog W base sp held m 9 ((cs.drop 35).take (Try.prog.cellsOf 9)) = xs[4]? := hel 4 _ rfl
  simp only [cellsInt, cellsHash, cellsString] at f0 f1 f2 f3 f4
  rw [List.getElem?_eq_getElem (by omega)] at f0 f1 f2 f3 f4
  obtain ⟨k, e0, _, _⟩ := DataW.trod_int Try.underlying3 f0
  obtain ⟨s, e1, _, _⟩ := DataW.trod_int Try.underlying3 f1
  obtain ⟨n, e2, _, w2⟩ := DataW.trod_int Try.underlying3 f2
  obtain ⟨l, hl32, e3⟩ := cells_name f3 (by simp; omega)
  obtain ⟨t, e4, x4, _⟩ := DataW.trod_string Try.underlying9 f4
  refine ⟨⟨k, s, n, l, t⟩, hl32, ?_, ?_, ?_⟩
  · have c0 := drop_cut cs 0 1
    have c1 := drop_cut cs 1 1
    have c2 := drop_cut cs 2 1
    have c3 := drop_cut cs 3 32
    have c4 := drop_cut cs 35 1
    have c5 : cs.drop 36 = [] := List.drop_eq_nil_of_le (by omega)
    rw [e4, c5] at c4
    rw [e3, c4] at c3
    rw [e2, c3] at c2
    rw [e1, c2] at c1
    rw [e0, c1, List.drop_zero] at c0
    rw [c0]
    rfl
  · have := bounds_i64 w2
    show n < _
    omega
  · simp only [DataW.weights, Try.underlying32]
    refine DataW.weights_mem_each (j := 4) (t := 9) (d := .lit (.string t.data.toList)) rfl ?_ _ (by simp [DataW.weights])
    rw [List.getElem?_map, List.getElem?_eq_getElem (by omega), x4]
    rfl
theorem spot_of_cells {a : Addr} {n : Nat} (h : W.cells? base a n = some cs) (hn : 0 < n) : a.spot = none := by
  obtain ⟨_, hl, hc⟩ := World.cells?_some h
  have h0 := hc 0 hn
  rw [List.getElem?_eq_getElem (by omega)] at h0
  simpa [Addr.add] using World.cell?_spot h0
theorem range_of_cells {b o n : Nat} (h : W.cells? base ⟨b, o, none⟩ n = some cs) : W.rangeAt b o cs := fun j u hu => by
  obtain ⟨_, hl, hc⟩ := World.cells?_some h
  have hj := (List.getElem?_eq_some_iff.1 hu).1
  rw [← hu, ← hc j (by omega), add_plain]
theorem open_names {r : Reach} {b0 : Nat} {v : Value} {d : DataW H} {p : List MemPlace} (hv : Value.okWide Try.prog W r b0 52 v) (hd : DataW.Trod enc Try.prog W 0 (fun _ => true) true 52 v d p)
    (hw : ∀ n ∈ d.weights Try.prog 52, n ≤ reachBytes) :
    ∃ (a : Option Addr) (ls : List (List UInt8)) (n c : Nat), v = .slice a n c ∧ n = ls.length ∧ n ≤ 4611686018427387904 ∧ (∀ x ∈ ls, x.length = 32) ∧ NamesAt W a ls := by
  obtain ⟨a0, len, cap, rfl⟩ := okWide_slice Try.underlying52 hv
  obtain ⟨fuel, hf⟩ := hd
  have h47 := reachBytes_lt
  rcases open_slice Try.underlying52 hf with ⟨hcs, hx⟩ | ⟨a, len', cap', m, q, D, Pl, hcs, _, hl, _, hm, hx, hel⟩
  · simp [Value.cells] at hcs
    obtain ⟨rfl, rfl, rfl⟩ := hcs
    exact ⟨none, [], 0, 0, rfl, rfl, by omega, fun s h => by simp at h, fun h => absurd h (by simp)⟩
  · simp [Value.cells] at hcs
    obtain ⟨rfl, rfl, rfl⟩ := hcs
    simp only [if_true] at hm
    subst hm
    simp only [Prod.mk.injEq] at hx
    obtain ⟨rfl, rfl⟩ := hx
    have h1 := hw _ (by
      simp only [DataW.weights, Try.underlying52, List.mem_cons]
      exact .inl rfl)
    rw [bytesHash] at h1
    simp only [List.length_map, List.length_range] at h1
    rw [cellsHash] at hel
    obtain ⟨f, hfn⟩ := choose_lt (α := List UInt8) (p := fun i l => l.length = 32 ∧ W.cells? 0 (a.add (i * 32)) 32 = some (Lib.byteCells l)) (fun i hi => by
      obtain ⟨cs', h2, h3⟩ := hel i hi
      obtain ⟨_, hlen, _⟩ := World.cells?_some h2
      obtain ⟨l, hl32, rfl⟩ := cells_name h3 hlen
      exact ⟨l, hl32, h2⟩)
    refine ⟨some a, (List.range len).map f, len, _, rfl, by simp, by omega, fun y hy => ?_, fun h0 => ?_⟩
    · obtain ⟨i, hi, rfl⟩ := List.mem_map.1 hy
      exact (hfn i (by have := List.mem_range.1 hi; omega)).1
    · have hlen : 0 < len := by simpa using h0
      obtain ⟨b, off, spot⟩ := a
      have hspot : spot = none := by simpa [Addr.add] using spot_of_cells (hfn 0 (by omega)).2 (by decide)
      subst hspot
      refine ⟨b, off, rfl, block_lt_of_cell (range_of_cells (hfn 0 (by omega)).2 0 _ (List.getElem?_eq_getElem (by rw [Lib.byteCells_length, (hfn 0 (by omega)).1]; decide))), fun i hi => ?_⟩
      have hi' : i < len := by simpa using hi
      rw [List.getElem_map, List.getElem_range]
      exact ⟨(hfn i (by omega)).1, range_of_cells (by have := (hfn i (by omega)).2; rw [add_plain] at this; exact this)⟩
theorem open_items {r : Reach} {b0 : Nat} {v : Value} {d : DataW H} {p : List MemPlace} (hv : Value.okWide Try.prog W r b0 22 v) (hd : DataW.Trod enc Try.prog W 0 (fun _ => true) true 22 v d p)
    (hw : ∀ n ∈ d.weights Try.prog 22, n ≤ reachBytes) :
    ∃ (a : Option Addr) (its : List It) (n c : Nat), v = .slice a n c ∧ n = its.length ∧ n ≤ 4611686018427387904 ∧ (a = none → n = 0 ∧ c = 0) ∧ (∀ x ∈ its, x.n < 9223372036854775808) ∧ ItemsAt W a its := by
  obtain ⟨a0, len, cap, rfl⟩ := okWide_slice Try.underlying22 hv
  obtain ⟨fuel, hf⟩ := hd
  have h47 := reachBytes_lt
  rcases open_slice Try.underlying22 hf with ⟨hcs, hx⟩ | ⟨a, len', cap', m, q, D, Pl, hcs, _, hl, _, hm, hx, hel⟩
  · simp [Value.cells] at hcs
    obtain ⟨rfl, rfl, rfl⟩ := hcs
    exact ⟨none, [], 0, 0, rfl, rfl, by omega, fun _ => ⟨rfl, rfl⟩, fun s h => by simp at h, fun h => absurd h (by simp)⟩
  · simp [Value.cells] at hcs
    obtain ⟨rfl, rfl, rfl⟩ := hcs
    simp only [if_true] at hm
    subst hm
    simp only [Prod.mk.injEq] at hx
    obtain ⟨rfl, rfl⟩ := hx
    have h1 := hw _ (by
      simp only [DataW.weights, Try.underlying22, List.mem_cons]
      exact .inl rfl)
    rw [bytesItem] at h1
    simp only [List.length_map, List.length_range] at h1
    rw [cellsItem] at hel
    obtain ⟨f, hfn⟩ := choose_lt (n := len) (α := It) (p := fun i t => t.ok ∧ t.n < 9223372036854775808 ∧ W.cells? 0 (a.add (i * 36)) 36 = some (itemC t)) (fun i hi => by
      obtain ⟨cs', h2, h3⟩ := hel i (by omega)
      obtain ⟨t, hl32, rfl, hn, hmem⟩ := cells_item h3
      have h4 := hw _ (by
        simp only [DataW.weights, Try.underlying22, List.mem_cons, List.mem_append]
        exact .inr (.inl (mem_all _ (List.mem_map.2 ⟨i, List.mem_range.2 hi, rfl⟩) hmem)))
      exact ⟨t, ⟨hl32, by rw [Lib.size_eq]; omega⟩, hn, h2⟩)
    refine ⟨some a, (List.range len).map f, len, _, rfl, by simp, by omega, fun h => by simp at h, fun y hy => ?_, fun h0 => ?_⟩
    · obtain ⟨i, hi, rfl⟩ := List.mem_map.1 hy
      exact (hfn i (List.mem_range.1 hi)).2.1
    · have hlen : 0 < len := by simpa using h0
      obtain ⟨b, off, spot⟩ := a
      have hspot : spot = none := by simpa [Addr.add] using spot_of_cells (hfn 0 hlen).2.2 (by decide)
      subst hspot
      refine ⟨b, off, rfl, fun i hi => ?_⟩
      have hi' : i < len := by simpa using hi
      rw [List.getElem_map, List.getElem_range]
      exact ⟨(hfn i hi').1, range_of_cells (by have := (hfn i hi').2.2; rw [add_plain] at this; exact this)⟩
end
theorem laidOut : laidOutB Try.prog = true := by kernel_rfl
theorem own : ownKnob Try.prog.godebug = none := by kernel_rfl
end Go.Proofs.Ytjdhedebkpclmaa
