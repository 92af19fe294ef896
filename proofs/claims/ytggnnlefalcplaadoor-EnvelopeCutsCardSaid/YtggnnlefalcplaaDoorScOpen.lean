/-
  Layer 5's rows: the arguments opened: names, items.
-/
import Derived.Test.YtggnnlefalcplaaDoorOwn
import Derived.Test.YtggnnlefalcplaaDoorOpenGen
import Derived.Test.YtggnnlefalcplaaDoorScItem
import Derived.Test.YtggnnlefalcplaaDoorScPenNames
import Derived.SizedLaws
import Derived.Deep.Slices
namespace Go.Proofs.YtggnnlefalcplaaDoor
open Go.ChangeShapes Go.WideShapes Go.RowKit Go.Deep Mem Sc
instance : Inhabited It := ⟨⟨0, 0, 0, [], ByteArray.empty⟩⟩
theorem cellsInt : Tryd.prog.cellsOf 3 = 1 := by kernel_rfl
theorem cellsString : Tryd.prog.cellsOf 9 = 1 := by kernel_rfl
theorem bytesHash : Tryd.prog.bytesOf 57 = 32 := by kernel_rfl
theorem mem_all {H : Type} {P : Program} {e : TypeId} {n : Nat} {d : DataW H} : ∀ (ds : List (DataW H)), d ∈ ds → n ∈ d.weights P e → n ∈ DataW.weightsAll P e ds
  | [], h, _ => by simp at h
  | t :: ds, h, hn => by
    simp only [DataW.weightsAll, List.mem_append]
    rcases List.mem_cons.1 h with rfl | h
    · exact .inl hn
    · exact .inr (mem_all ds h hn)
theorem drop_cut {α : Type} (cs : List α) (o k : Nat) : cs.drop o = (cs.drop o).take k ++ cs.drop (o + k) := by
  rw [← List.drop_drop, List.take_append_drop]
section
variable {H : Type} {enc : TypeId × Value → H} {W : World} {base : Nat} {sp : Nat → Bool} {held : Bool} {fuel : Nat} {cs : List Value} {x : DataW H × List MemPlace}
theorem cells_name (hf : DataW.trod enc Tryd.prog W base sp held fuel 57 cs = some x) (hcs : cs.length = 32) : ∃ l : List UInt8, l.length = 32 ∧ cs = Lib.byteCells l := by
  obtain ⟨xs, m, _, hx, _, hl, hel⟩ := DataW.trod_array Tryd.underlying57 hf
  obtain ⟨f, hf⟩ := choose_lt (n := 32) (α := UInt8) (p := fun i b => cs[i]? = some (.int .u8 (b.toNat : Int))) (fun i hi => by
    have hE := hel i hi
    rw [cellsByte, Nat.mul_one, List.getElem?_eq_getElem (by omega)] at hE
    obtain ⟨z, e1, e2, e3⟩ := DataW.trod_int Tryd.underlying5 hE
    have hb := bounds_u8 e3
    refine ⟨UInt8.ofNat z.toNat, ?_⟩
    have h0 : ((cs.drop i).take 1)[0]? = some (.int .u8 z) := by rw [e1]; rfl
    have h1 : cs[i]? = some (.int .u8 z) := by simpa using h0
    rw [h1]
    congr 2
    rw [UInt8.toNat_ofNat']
    omega)
  refine ⟨(List.range 32).map f, by simp, ?_⟩
  apply List.ext_getElem?
  intro i
  by_cases hi : i < 32
  · rw [hf i hi]; simp [Lib.byteCells, hi]
  · simp [Lib.byteCells, hi, hcs]
theorem spot_of_cells {a : Addr} {n : Nat} (h : W.cells? base a n = some cs) (hn : 0 < n) : a.spot = none := by
  obtain ⟨_, hl, hc⟩ := World.cells?_some h
  have h0 := hc 0 hn
  rw [List.getElem?_eq_getElem (by omega)] at h0
  simpa [Addr.add] using World.cell?_spot h0
theorem range_of_cells {b o n : Nat} (h : W.cells? base ⟨b, o, none⟩ n = some cs) : W.rangeAt b o cs := fun j u hu => by
  obtain ⟨_, hl, hc⟩ := World.cells?_some h
  have hj := (List.getElem?_eq_some_iff.1 hu).1
  rw [← hu, ← hc j (by omega), add_plain]
end
end Go.Proofs.YtggnnlefalcplaaDoor
