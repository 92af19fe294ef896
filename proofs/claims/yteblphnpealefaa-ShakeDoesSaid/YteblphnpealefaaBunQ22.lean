/-
  Texts of this seat, one behind the other.
-/
import Derived.Test.YteblphnpealefaaZOwn
import Derived.Test.YteblphnpealefaaZOpenGen
import Derived.Test.YteblphnpealefaaBunQ10
import Derived.Test.YteblphnpealefaaBunQ9
import Derived.SizedLaws
import Derived.Deep.Slices
/-
  Layer 5's rows: the arguments opened: names, items.
-/
namespace Go.Proofs.Yteblphnpealefaa
open Go.ChangeShapes Go.WideShapes Go.RowKit Go.Deep Mem Sc
instance : Inhabited It := ⟨⟨0, 0, 0, [], ByteArray.empty⟩⟩
theorem cellsInt : Try.prog.cellsOf 3 = 1 := by kernel_rfl
theorem cellsString : Try.prog.cellsOf 9 = 1 := by kernel_rfl
theorem bytesHash : Try.prog.bytesOf 36 = 32 := by kernel_rfl
theorem mem_all {H : Type} {P : Program} {e : TypeId} {n : Nat} {d : DataW H} : ∀ (ds : List (DataW H)), d ∈ ds → n ∈ d.weights P e → n ∈ DataW.weightsAll P e ds
  | [], h, _ => by simp at h
  | t :: ds, h, hn => by
    simp only [DataW.weightsAll, List.mem_append]
    rcases List.mem_cons.1 h with rfl | h
    · exact .inl hn
    · exact .inr (mem_all ds h hn)
theorem drop_cut {α : Type} (cs : List α) (o k : Nat) : cs.drop o = (cs.drop o).take k ++ cs.drop (o + k) := by
  rw [← List.drop_drop, List.take_append_drop]
section
variable {H : Type} {enc : TypeId × Value → H} {W : World} {base : Nat} {sp : Nat → Bool} {held : Bool} {fuel : Nat} {cs : List Value} {x : DataW H × List MemPlace}
theorem cells_name (hf : DataW.trod enc Try.prog W base sp held fuel 36 cs = some x) (hcs : cs.length = 32) : ∃ l : List UInt8, l.length = 32 ∧ cs = Lib.byteCells l := by
  obtain ⟨xs, m, _, hx, _, hl, hel⟩ := DataW.trod_array Try.underlying36 hf
  obtain ⟨f, hf⟩ := choose_lt (n := 32) (α := UInt8) (p := fun i b => cs[i]? = some (.int .u8 (b.toNat : Int))) (fun i hi => by
    have hE := hel i hi
    rw [cellsByte, Nat.mul_one, List.getElem?_eq_getElem (by omega)] at hE
    obtain ⟨z, e1, e2, e3⟩ := DataW.trod_int Try.underlying5 hE
    have hb := bounds_u8 e3
    refine ⟨UInt8.ofNat z.toNat, ?_⟩
    have h0 : ((cs.drop i).take 1)[0]? = some (.int .u8 z) := by rw [e1]; rfl
    have h1 : cs[i]? = some (.int .u8 z) := by simpa using h0
    rw [h1]
    congr 2
    rw [UInt8.toNat_ofNat']
    omega)
  refine ⟨(List.range 32).map f, by simp, ?_⟩
  apply List.ext_getElem?
  intro i
  by_cases hi : i < 32
  · rw [hf i hi]; simp [Lib.byteCells, hi]
  · simp [Lib.byteCells, hi, hcs]
theorem spot_of_cells {a : Addr} {n : Nat} (h : W.cells? base a n = some cs) (hn : 0 < n) : a.spot = none := by
  obtain ⟨_, hl, hc⟩ := World.cells?_some h
  have h0 := hc 0 hn
  rw [List.getElem?_eq_getElem (by omega)] at h0
  simpa [Addr.add] using World.cell?_spot h0
theorem range_of_cells {b o n : Nat} (h : W.cells? base ⟨b, o, none⟩ n = some cs) : W.rangeAt b o cs := fun j u hu => by
  obtain ⟨_, hl, hc⟩ := World.cells?_some h
  have hj := (List.getElem?_eq_some_iff.1 hu).1
  rw [← hu, ← hc j (by omega), add_plain]
set_option maxRecDepth 100000 in
theorem open_names {r : Reach} {b0 : Nat} {v : Value} {d : DataW H} {p : List MemPlace} (hv : Value.okWide Try.prog W r b0 34 v) (hd : DataW.Trod enc Try.prog W 0 (fun _ => true) true 34 v d p)
    (hw : ∀ n ∈ d.weights Try.prog 34, n ≤ reachBytes) :
    ∃ (a : Option Addr) (ls : List (List UInt8)) (n c : Nat), v = .slice a n c ∧ n = ls.length ∧ n ≤ 4611686018427387904 ∧ (∀ x ∈ ls, x.length = 32) ∧ NamesAt W a ls := by
  obtain ⟨a0, len, cap, rfl⟩ := okWide_slice Try.underlying34 hv
  obtain ⟨fuel, hf⟩ := hd
  have h47 := reachBytes_lt
  rcases open_slice Try.underlying34 hf with ⟨hcs, hx⟩ | ⟨a, len', cap', m, q, D, Pl, hcs, _, hl, _, hm, hx, hel⟩
  · simp [Value.cells] at hcs
    obtain ⟨rfl, rfl, rfl⟩ := hcs
    exact ⟨none, [], 0, 0, rfl, rfl, by omega, fun s h => by simp at h, fun h => absurd h (by simp)⟩
  · simp [Value.cells] at hcs
    obtain ⟨rfl, rfl, rfl⟩ := hcs
    simp only [if_true] at hm
    subst hm
    simp only [Prod.mk.injEq] at hx
    obtain ⟨rfl, rfl⟩ := hx
    have h1 := hw _ (by
      simp only [DataW.weights, Try.underlying34, List.mem_cons]
      exact .inl rfl)
    rw [bytesHash] at h1
    simp only [List.length_map, List.length_range] at h1
    rw [cellsHash] at hel
    obtain ⟨f, hfn⟩ := choose_lt (α := List UInt8) (p := fun i l => l.length = 32 ∧ W.cells? 0 (a.add (i * 32)) 32 = some (Lib.byteCells l)) (fun i hi => by
      obtain ⟨cs', h2, h3⟩ := hel i hi
      obtain ⟨_, hlen, _⟩ := World.cells?_some h2
      obtain ⟨l, hl32, rfl⟩ := cells_name h3 hlen
      exact ⟨l, hl32, h2⟩)
    refine ⟨some a, (List.range len).map f, len, _, rfl, by simp, by omega, fun y hy => ?_, fun h0 => ?_⟩
    · obtain ⟨i, hi, rfl⟩ := List.mem_map.1 hy
      exact (hfn i (by have := List.mem_range.1 hi; omega)).1
    · have hlen : 0 < len := by simpa using h0
      obtain ⟨b, off, spot⟩ := a
      have hspot : spot = none := by simpa [Addr.add] using spot_of_cells (hfn 0 (by omega)).2 (by decide)
      subst hspot
      refine ⟨b, off, rfl, block_lt_of_cell (range_of_cells (hfn 0 (by omega)).2 0 _ (List.getElem?_eq_getElem (by rw [Lib.byteCells_length, (hfn 0 (by omega)).1]; decide))), fun i hi => ?_⟩
      have hi' : i < len := by simpa using hi
      rw [List.getElem_map, List.getElem_range]
      exact ⟨(hfn i (by omega)).1, range_of_cells (by have := (hfn i (by omega)).2; rw [add_plain] at this; exact this)⟩
end
end Go.Proofs.Yteblphnpealefaa
/-
  Rows over headers: the arguments opened.
-/
namespace Go.Proofs.Yteblphnpealefaa
open Go.ChangeShapes Go.WideShapes Go.RowKit Go.Deep Mem Sc
instance : Inhabited Hd := ⟨hdZ⟩
theorem cellsHd : Try.prog.cellsOf 67 = 68 := by kernel_rfl
section
variable {H : Type} {enc : TypeId × Value → H} {W : World} {base : Nat} {sp : Nat → Bool} {held : Bool} {fuel : Nat} {cs : List Value} {x : DataW H × List MemPlace}
/-- a header of a 64-bit machine -/
def Hd.fits (h : Hd) : Prop := h.ok ∧ (-9223372036854775808 ≤ h.v ∧ h.v ≤ 9223372036854775807) ∧ (-9223372036854775808 ≤ h.time ∧ h.time ≤ 9223372036854775807) ∧ (-9223372036854775808 ≤ h.bits ∧ h.bits ≤ 9223372036854775807) ∧ (-9223372036854775808 ≤ h.nonce ∧ h.nonce ≤ 9223372036854775807)
theorem cells_header (hf : DataW.trod enc Try.prog W base sp held fuel 67 cs = some x) : ∃ h : Hd, h.fits ∧ cs = hdC h := by
  obtain ⟨xs, m, _, rfl, hl, hxl, hel⟩ := DataW.trod_struct Try.underlying67 hf
  rw [cellsHd] at hl
  have hx6 : xs.length = 6 := hxl
  have f0 : DataW.trod enc Try.prog W base sp held m 3 ((cs.drop 0).take (Try.prog.cellsOf 3)) = xs[0]? := hel 0 _ rfl
  have f1 : DataW.trod enc Try.prog W base sp held m 36 ((cs.drop 1).take (Try.prog.cellsOf 36)) = xs[1]? := hel 1 _ rfl
  have f2 : DataW.trod enc Try.prog W base sp held m 36 ((cs.drop 33).take (Try.prog.cellsOf 36)) = xs[2]? := hel 2 _ rfl
  have f3 : DataW.trod enc Try.prog W base sp held m 3 ((cs.drop 65).take (Try.prog.cellsOf 3)) = xs[3]? := hel 3 _ rfl
  have f4 : DataW.trod enc Try.prog W base sp held m 3 ((cs.drop 66).take (Try.prog.cellsOf 3)) = xs[4]? := hel 4 _ rfl
  have f5 : DataW.trod enc Try.prog W base sp held m 3 ((cs.drop 67).take (Try.prog.cellsOf 3)) = xs[5]? := hel 5 _ rfl
  simp only [cellsInt, cellsHash] at f0 f1 f2 f3 f4 f5
  rw [List.getElem?_eq_getElem (by omega)] at f0 f1 f2 f3 f4 f5
  obtain ⟨v, e0, _, w0⟩ := DataW.trod_int Try.underlying3 f0
  obtain ⟨p, hp32, e1⟩ := cells_name f1 (by simp; omega)
  obtain ⟨q, hq32, e2⟩ := cells_name f2 (by simp; omega)
  obtain ⟨t, e3, _, w3⟩ := DataW.trod_int Try.underlying3 f3
  obtain ⟨b, e4, _, w4⟩ := DataW.trod_int Try.underlying3 f4
  obtain ⟨n, e5, _, w5⟩ := DataW.trod_int Try.underlying3 f5
  have b0 := bounds_i64 w0
  have b3 := bounds_i64 w3
  have b4 := bounds_i64 w4
  have b5 := bounds_i64 w5
  refine ⟨⟨v, p, q, t, b, n⟩, ⟨⟨hp32, hq32⟩, ⟨by simp only; omega, by simp only; omega⟩, ⟨by simp only; omega, by simp only; omega⟩, ⟨by simp only; omega, by simp only; omega⟩, ⟨by simp only; omega, by simp only; omega⟩⟩, ?_⟩
  have c0 := drop_cut cs 0 1
  have c1 := drop_cut cs 1 32
  have c2 := drop_cut cs 33 32
  have c3 := drop_cut cs 65 1
  have c4 := drop_cut cs 66 1
  have c5 := drop_cut cs 67 1
  have c6 : cs.drop 68 = [] := List.drop_eq_nil_of_le (by omega)
  rw [e5, c6] at c5
  rw [e4, c5] at c4
  rw [e3, c4] at c3
  rw [e2, c3] at c2
  rw [e1, c2] at c1
  rw [e0, c1, List.drop_zero] at c0
  rw [c0]
  rfl
set_option maxRecDepth 100000 in
theorem open_header {r : Reach} {b0 : Nat} {v : Value} {d : DataW H} {p : List MemPlace} (hv : Value.okWide Try.prog W r b0 67 v) (hd : DataW.Trod enc Try.prog W base sp held 67 v d p) :
    ∃ h : Hd, h.fits ∧ v = .agg (hdA h) := by
  obtain ⟨cs, rfl, _⟩ := okWide_struct Try.underlying67 hv
  obtain ⟨fuel, hf⟩ := hd
  obtain ⟨h, hfit, e⟩ := cells_header hf
  refine ⟨h, hfit, ?_⟩
  congr 1
  exact Array.toList_inj.1 e
end
end Go.Proofs.Yteblphnpealefaa
