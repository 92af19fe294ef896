/-
  Layer 5's rows: the arguments opened: names, items.
-/
import Derived.Test.YtomegahohiijcaaDoorZOwn
import Derived.Test.YtomegahohiijcaaDoorZOpenGen
import Derived.Test.YtomegahohiijcaaDoorBunQ15
import Derived.Test.YtomegahohiijcaaDoorBunQ14
import Derived.SizedLaws
import Derived.Deep.Slices
namespace Go.Proofs.YtomegahohiijcaaDoor
open Go.ChangeShapes Go.WideShapes Go.RowKit Go.Deep Mem Sc
instance : Inhabited It := ⟨⟨0, 0, 0, [], ByteArray.empty⟩⟩
theorem cellsInt : Tryd.prog.cellsOf 3 = 1 := by kernel_rfl
theorem cellsString : Tryd.prog.cellsOf 9 = 1 := by kernel_rfl
theorem bytesHash : Tryd.prog.bytesOf 25 = 32 := by kernel_rfl
theorem mem_all {H : Type} {P : Program} {e : TypeId} {n : Nat} {d : DataW H} : ∀ (ds : List (DataW H)), d ∈ ds → n ∈ d.weights P e → n ∈ DataW.weightsAll P e ds
  | [], h, _ => by simp at h
  | t :: ds, h, hn => by
    simp only [DataW.weightsAll, List.mem_append]
    rcases List.mem_cons.1 h with rfl | h
    · exact .inl hn
    · exact .inr (mem_all ds h hn)
theorem drop_cut {α : Type} (cs : List α) (o k : Nat) : cs.drop o = (cs.drop o).take k ++ cs.drop (o + k) := by
  rw [← List.drop_drop, List.take_append_drop]
section
variable {H : Type} {enc : TypeId × Value → H} {W : World} {base : Nat} {sp : Nat → Bool} {held : Bool} {fuel : Nat} {cs : List Value} {x : DataW H × List MemPlace}
theorem cells_name (hf : DataW.trod enc Tryd.prog W base sp held fuel 25 cs = some x) (hcs : cs.length = 32) : ∃ l : List UInt8, l.length = 32 ∧ cs = Lib.byteCells l := by
  obtain ⟨xs, m, _, hx, _, hl, hel⟩ := DataW.trod_array Tryd.underlying25 hf
  obtain ⟨f, hf⟩ := choose_lt (n := 32) (α := UInt8) (p := fun i b => cs[i]? = some (.int .u8 (b.toNat : Int))) (fun i hi => by
    have hE := hel i hi
    rw [cellsByte, Nat.mul_one, List.getElem?_eq_getElem (by omega)] at hE
    obtain ⟨z, e1, e2, e3⟩ := DataW.trod_int Tryd.underlying5 hE
    have hb := bounds_u8 e3
    refine ⟨UInt8.ofNat z.toNat, ?_⟩
    have h0 : ((cs.drop i).take 1)[0]? = some (.int .u8 z) := by rw [e1]; rfl
    have h1 : cs[i]? = some (.int .u8 z) := by simpa using h0
    rw [h1]
    congr 2
    rw [UInt8.toNat_ofNat']
    omega)
  refine ⟨(List.range 32).map f, by simp, ?_⟩
  apply List.ext_getElem?
  intro i
  by_cases hi : i < 32
  · rw [hf i hi]; simp [Lib.byteCells, hi]
  · simp [Lib.byteCells, hi, hcs]
theorem spot_of_cells {a : Addr} {n : Nat} (h : W.cells? base a n = some cs) (hn : 0 < n) : a.spot = none := by
  obtain ⟨_, hl, hc⟩ := World.cells?_some h
  have h0 := hc 0 hn
  rw [List.getElem?_eq_getElem (by omega)] at h0
  simpa [Addr.add] using World.cell?_spot h0
theorem range_of_cells {b o n : Nat} (h : W.cells? base ⟨b, o, none⟩ n = some cs) : W.rangeAt b o cs := fun j u hu => by
  obtain ⟨_, hl, hc⟩ := World.cells?_some h
  have hj := (List.getElem?_eq_some_iff.1 hu).1
  rw [← hu, ← hc j (by omega), add_plain]
set_option maxRecDepth 100000 in
theorem open_names {r : Reach} {b0 : Nat} {v : Value} {d : DataW H} {p : List MemPlace} (hv : Value.okWide Tryd.prog W r b0 38 v) (hd : DataW.Trod enc Tryd.prog W 0 (fun _ => true) true 38 v d p)
    (hw : ∀ n ∈ d.weights Tryd.prog 38, n ≤ reachBytes) :
    ∃ (a : Option Addr) (ls : List (List UInt8)) (n c : Nat), v = .slice a n c ∧ n = ls.length ∧ n ≤ 4611686018427387904 ∧ (∀ x ∈ ls, x.length = 32) ∧ NamesAt W a ls := by
  obtain ⟨a0, len, cap, rfl⟩ := okWide_slice Tryd.underlying38 hv
  obtain ⟨fuel, hf⟩ := hd
  have h47 := reachBytes_lt
  rcases open_slice Tryd.underlying38 hf with ⟨hcs, hx⟩ | ⟨a, len', cap', m, q, D, Pl, hcs, _, hl, _, hm, hx, hel⟩
  · simp [Value.cells] at hcs
    obtain ⟨rfl, rfl, rfl⟩ := hcs
    exact ⟨none, [], 0, 0, rfl, rfl, by omega, fun s h => by simp at h, fun h => absurd h (by simp)⟩
  · simp [Value.cells] at hcs
    obtain ⟨rfl, rfl, rfl⟩ := hcs
    simp only [if_true] at hm
    subst hm
    simp only [Prod.mk.injEq] at hx
    obtain ⟨rfl, rfl⟩ := hx
    have h1 := hw _ (by
      simp only [DataW.weights, Tryd.underlying38, List.mem_cons]
      exact .inl rfl)
    rw [bytesHash] at h1
    simp only [List.length_map, List.length_range] at h1
    rw [cellsHash] at hel
    obtain ⟨f, hfn⟩ := choose_lt (α := List UInt8) (p := fun i l => l.length = 32 ∧ W.cells? 0 (a.add (i * 32)) 32 = some (Lib.byteCells l)) (fun i hi => by
      obtain ⟨cs', h2, h3⟩ := hel i hi
      obtain ⟨_, hlen, _⟩ := World.cells?_some h2
      obtain ⟨l, hl32, rfl⟩ := cells_name h3 hlen
      exact ⟨l, hl32, h2⟩)
    refine ⟨some a, (List.range len).map f, len, _, rfl, by simp, by omega, fun y hy => ?_, fun h0 => ?_⟩
    · obtain ⟨i, hi, rfl⟩ := List.mem_map.1 hy
      exact (hfn i (by have := List.mem_range.1 hi; omega)).1
    · have hlen : 0 < len := by simpa using h0
      obtain ⟨b, off, spot⟩ := a
      have hspot : spot = none := by simpa [Addr.add] using spot_of_cells (hfn 0 (by omega)).2 (by decide)
      subst hspot
      refine ⟨b, off, rfl, block_lt_of_cell (range_of_cells (hfn 0 (by omega)).2 0 _ (List.getElem?_eq_getElem (by rw [Lib.byteCells_length, (hfn 0 (by omega)).1]; decide))), fun i hi => ?_⟩
      have hi' : i < len := by simpa using hi
      rw [List.getElem_map, List.getElem_range]
      exact ⟨(hfn i (by omega)).1, range_of_cells (by have := (hfn i (by omega)).2; rw [add_plain] at this; exact this)⟩
end
end Go.Proofs.YtomegahohiijcaaDoor
