import Derived.Test.YthcebnfdapcllaaGreatDoorROwn
import Derived.Test.YthcebnfdapcllaaGreatDoorRows
import Derived.ProofKit
import Derived.OpenShut
import Derived.Test.YthcebnfdapcllaaGreatDoorRBunQ12
import Derived.Test.YthcebnfdapcllaaGreatDoorRBunQ11
import Derived.SizedLaws
import Derived.Deep.Slices
namespace Go.Proofs.YthcebnfdapcllaaGreatDoor
open Go.ChangeShapes Go.WideShapes Go.RowKit Go.Deep Mem Sc
instance : Inhabited It := ⟨⟨0, 0, 0, [], ByteArray.empty⟩⟩
theorem cellsInt : Tryz.prog.cellsOf 3 = 1 := by kernel_rfl
theorem mem_all {H : Type} {P : Program} {e : TypeId} {n : Nat} {d : DataW H} : ∀ (ds : List (DataW H)), d ∈ ds → n ∈ d.weights P e → n ∈ DataW.weightsAll P e ds
  | [], h, _ => by simp at h
  | t :: ds, h, hn => by
    simp only [DataW.weightsAll, List.mem_append]
    rcases List.mem_cons.1 h with rfl | h
    · exact .inl hn
    · exact .inr (mem_all ds h hn)
theorem drop_cut {α : Type} (cs : List α) (o k : Nat) : cs.drop o = (cs.drop o).take k ++ cs.drop (o + k) := by
  rw [← List.drop_drop, List.take_append_drop]
section
variable {H : Type} {enc : TypeId × Value → H} {W : World} {base : Nat} {sp : Nat → Bool} {held : Bool} {fuel : Nat} {cs : List Value} {x : DataW H × List MemPlace}
theorem cells_name (hf : DataW.trod enc Tryz.prog W base sp held fuel 28 cs = some x) (hcs : cs.length = 32) : ∃ l : List UInt8, l.length = 32 ∧ cs = Lib.byteCells l := by
  obtain ⟨xs, m, _, hx, _, hl, hel⟩ := DataW.trod_array Tryz.underlying28 hf
  obtain ⟨f, hf⟩ := choose_lt (n := 32) (α := UInt8) (p := fun i b => cs[i]? = some (.int .u8 (b.toNat : Int))) (fun i hi => by
    have hE := hel i hi
    rw [cellsByte, Nat.mul_one, List.getElem?_eq_getElem (by omega)] at hE
    obtain ⟨z, e1, e2, e3⟩ := DataW.trod_int Tryz.underlying5 hE
    have hb := bounds_u8 e3
    refine ⟨UInt8.ofNat z.toNat, ?_⟩
    have h0 : ((cs.drop i).take 1)[0]? = some (.int .u8 z) := by rw [e1]; rfl
    have h1 : cs[i]? = some (.int .u8 z) := by simpa using h0
    rw [h1]
    congr 2
    rw [UInt8.toNat_ofNat']
    omega)
  refine ⟨(List.range 32).map f, by simp, ?_⟩
  apply List.ext_getElem?
  intro i
  by_cases hi : i < 32
  · rw [hf i hi]; simp [Lib.byteCells, hi]
  · simp [Lib.byteCells, hi, hcs]
theorem spot_of_cells {a : Addr} {n : Nat} (h : W.cells? base a n = some cs) (hn : 0 < n) : a.spot = none := by
  obtain ⟨_, hl, hc⟩ := World.cells?_some h
  have h0 := hc 0 hn
  rw [List.getElem?_eq_getElem (by omega)] at h0
  simpa [Addr.add] using World.cell?_spot h0
theorem range_of_cells {b o n : Nat} (h : W.cells? base ⟨b, o, none⟩ n = some cs) : W.rangeAt b o cs := fun j u hu => by
  obtain ⟨_, hl, hc⟩ := World.cells?_some h
  have hj := (List.getElem?_eq_some_iff.1 hu).1
  rw [← hu, ← hc j (by omega), add_plain]
end
end Go.Proofs.YthcebnfdapcllaaGreatDoor
namespace Go.Proofs.YthcebnfdapcllaaGreatDoor
open Go.ChangeShapes Go.WideShapes Go.RowKit Go.Deep Mem Sc
instance : Inhabited Hd := ⟨hdZ⟩
theorem cellsHd : Tryz.prog.cellsOf 30 = 68 := by kernel_rfl
section
variable {H : Type} {enc : TypeId × Value → H} {W : World} {base : Nat} {sp : Nat → Bool} {held : Bool} {fuel : Nat} {cs : List Value} {x : DataW H × List MemPlace}
def Hd.fits (h : Hd) : Prop := h.ok ∧ (-9223372036854775808 ≤ h.v ∧ h.v ≤ 9223372036854775807) ∧ (-9223372036854775808 ≤ h.time ∧ h.time ≤ 9223372036854775807) ∧ (-9223372036854775808 ≤ h.bits ∧ h.bits ≤ 9223372036854775807) ∧ (-9223372036854775808 ≤ h.nonce ∧ h.nonce ≤ 9223372036854775807)
theorem cells_header (hf : DataW.trod enc Tryz.prog W base sp held fuel 30 cs = some x) : ∃ h : Hd, h.fits ∧ cs = hdC h := by
  obtain ⟨xs, m, _, rfl, hl, hxl, hel⟩ := DataW.trod_struct Tryz.underlying30 hf
  rw [cellsHd] at hl
  have hx6 : xs.length = 6 := hxl
  have f0 : DataW.trod enc Tryz.prog W base sp held m 3 ((cs.drop 0).take (Tryz.prog.cellsOf 3)) = xs[0]? := hel 0 _ rfl
  have f1 : DataW.trod enc Tryz.prog W base sp held m 28 ((cs.drop 1).take (Tryz.prog.cellsOf 28)) = xs[1]? := hel 1 _ rfl
  have f2 : DataW.trod enc Tryz.prog W base sp held m 28 ((cs.drop 33).take (Tryz.prog.cellsOf 28)) = xs[2]? := hel 2 _ rfl
  have f3 : DataW.trod enc Tryz.prog W base sp held m 3 ((cs.drop 65).take (Tryz.prog.cellsOf 3)) = xs[3]? := hel 3 _ rfl
  have f4 : DataW.trod enc Tryz.prog W base sp held m 3 ((cs.drop 66).take (Tryz.prog.cellsOf 3)) = xs[4]? := hel 4 _ rfl
  have f5 : DataW.trod enc Tryz.prog W base sp held m 3 ((cs.drop 67).take (Tryz.prog.cellsOf 3)) = xs[5]? := hel 5 _ rfl
  simp only [cellsInt, cellsHash] at f0 f1 f2 f3 f4 f5
  rw [List.getElem?_eq_getElem (by omega)] at f0 f1 f2 f3 f4 f5
  obtain ⟨v, e0, _, w0⟩ := DataW.trod_int Tryz.underlying3 f0
  obtain ⟨p, hp32, e1⟩ := cells_name f1 (by simp; omega)
  obtain ⟨q, hq32, e2⟩ := cells_name f2 (by simp; omega)
  obtain ⟨t, e3, _, w3⟩ := DataW.trod_int Tryz.underlying3 f3
  obtain ⟨b, e4, _, w4⟩ := DataW.trod_int Tryz.underlying3 f4
  obtain ⟨n, e5, _, w5⟩ := DataW.trod_int Tryz.underlying3 f5
  have b0 := bounds_i64 w0
  have b3 := bounds_i64 w3
  have b4 := bounds_i64 w4
  have b5 := bounds_i64 w5
  refine ⟨⟨v, p, q, t, b, n⟩, ⟨⟨hp32, hq32⟩, ⟨by simp only; omega, by simp only; omega⟩, ⟨by simp only; omega, by simp only; omega⟩, ⟨by simp only; omega, by simp only; omega⟩, ⟨by simp only; omega, by simp only; omega⟩⟩, ?_⟩
  have c0 := drop_cut cs 0 1
  have c1 := drop_cut cs 1 32
  have c2 := drop_cut cs 33 32
  have c3 := drop_cut cs 65 1
  have c4 := drop_cut cs 66 1
  have c5 := drop_cut cs 67 1
  have c6 : cs.drop 68 = [] := List.drop_eq_nil_of_le (by omega)
  rw [e5, c6] at c5
  rw [e4, c5] at c4
  rw [e3, c4] at c3
  rw [e2, c3] at c2
  rw [e1, c2] at c1
  rw [e0, c1, List.drop_zero] at c0
  rw [c0]
  rfl
end
end Go.Proofs.YthcebnfdapcllaaGreatDoor
