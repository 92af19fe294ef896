import Derived.Test.YteachheacllblaaDoorLawDigParts
import Derived.ProofKit
import Derived.SizedLaws
import Derived.SliceStrings
import Derived.Deep.Grids
namespace Go.Proofs.YteachheacllblaaDoor
open Go.ChangeShapes Go.WideShapes Go.RowKit Go.Deep Mem Sha
theorem cellsStr : Tryd.prog.cellsOf 9 = 1 := by kernel_rfl
theorem cellsBool : Tryd.prog.cellsOf 4 = 1 := by kernel_rfl
theorem bytesStr : Tryd.prog.bytesOf 9 = 16 := by kernel_rfl
theorem bytesBool : Tryd.prog.bytesOf 4 = 1 := by kernel_rfl
theorem mem_weights {H : Type} {P : Program} {e : TypeId} : ∀ (ss : List ByteArray), ∀ s ∈ ss, s.data.toList.length ∈ DataW.weightsAll P e (strs (H := H) ss)
  | [], s, h => by simp at h
  | t :: ss, s, h => by
    show _ ∈ DataW.weightsAll P e (DataW.lit (.string t.data.toList) :: strs ss)
    simp only [DataW.weightsAll, DataW.weights, List.mem_append]
    rcases List.mem_cons.1 h with rfl | h
    · left; simp
    · right; exact mem_weights ss s h
section
variable {H : Type} {enc : TypeId × Value → H} {W : World}
theorem open_parts {r : Reach} {b0 : Nat} {v : Value} {d : DataW H} {p : List MemPlace} (hv : Value.okWide Tryd.prog W r b0 28 v) (hd : DataW.Trod enc Tryd.prog W 0 (fun _ => true) true 28 v d p)
    (hw : ∀ n ∈ d.weights Tryd.prog 28, n ≤ reachBytes) :
    ∃ (a : Option Addr) (ps : List ByteArray) (n c : Nat), v = .slice a n c ∧ n = ps.length ∧ n ≤ 4611686018427387904 ∧ (∀ s ∈ ps, s.size ≤ 4611686018427387904) ∧ PartsW W a ps := by
  obtain ⟨a0, len, cap, rfl⟩ := okWide_slice Tryd.underlying28 hv
  obtain ⟨fuel, hf⟩ := hd
  have h47 := reachBytes_lt
  rcases open_strings Tryd.underlying28 Tryd.underlying9 cellsStr hf with ⟨hcs, hx⟩ | ⟨a, len', cap', ss, hcs, _, hl, hm, hz, hx, hcell, hws⟩
  · simp [Value.cells] at hcs
    obtain ⟨rfl, rfl, rfl⟩ := hcs
    exact ⟨none, [], 0, 0, rfl, rfl, by omega, fun s h => by simp at h, fun h => absurd h (by simp)⟩
  · simp [Value.cells] at hcs
    obtain ⟨rfl, rfl, rfl⟩ := hcs
    simp only [Prod.mk.injEq] at hx
    obtain ⟨rfl, rfl⟩ := hx
    simp only [if_true] at hz
    have h1 := hw ((( strs (H := H) (ss.take len)).length + (strs (H := H) (ss.drop len)).length) * Tryd.prog.bytesOf 9) (by simp [DataW.weights, Tryd.underlying28])
    rw [bytesStr] at h1
    simp only [strs, List.length_map, List.length_take, List.length_drop] at h1
    refine ⟨some a, ss.take len, len, cap, rfl, by simp; omega, by omega, fun s hs => ?_, fun h0 => ?_⟩
    · have h2 := hw s.data.toList.length (by
        simp only [DataW.weights, Tryd.underlying28, List.mem_cons, List.mem_append]
        exact .inr (.inl (mem_weights _ s hs)))
      rw [Lib.size_eq]; omega
    · obtain ⟨b, off, spot⟩ := a
      have hlen : (ss.take len).length = len := by simp; omega
      have hspot : spot = none := by simpa [Addr.add] using World.cell?_spot (hcell 0 (by omega))
      subst hspot
      refine ⟨b, off, rfl, fun i hi => ?_⟩
      rw [← add_plain, hcell i (by omega)]
      rw [List.getElem_take, List.getD_eq_getElem?_getD, List.getElem?_eq_getElem (by omega)]
      rfl
theorem open_asks {r : Reach} {b0 : Nat} {v : Value} {d : DataW H} {p : List MemPlace} (hv : Value.okWide Tryd.prog W r b0 29 v) (hd : DataW.Trod enc Tryd.prog W 0 (fun _ => true) true 29 v d p)
    (hw : ∀ n ∈ d.weights Tryd.prog 29, n ≤ reachBytes) :
    ∃ (a : Option Addr) (B : Nat → Bool) (n c : Nat), v = .slice a n c ∧ n ≤ 4611686018427387904 ∧ BoolsW W a n B := by
  obtain ⟨a0, len, cap, rfl⟩ := okWide_slice Tryd.underlying29 hv
  obtain ⟨fuel, hf⟩ := hd
  have h47 := reachBytes_lt
  rcases open_bools Tryd.underlying29 Tryd.underlying4 cellsBool hf with ⟨hcs, hx⟩ | ⟨a, len', cap', B, hcs, _, hl, hm, hx, hcell⟩
  · simp [Value.cells] at hcs
    obtain ⟨rfl, rfl, rfl⟩ := hcs
    exact ⟨none, fun _ => true, 0, 0, rfl, by omega, fun h => absurd h (by simp)⟩
  · simp [Value.cells] at hcs
    obtain ⟨rfl, rfl, rfl⟩ := hcs
    simp only [Prod.mk.injEq] at hx
    obtain ⟨rfl, rfl⟩ := hx
    have h1 : len ≤ reachBytes := by
      have := hw ((((List.range len).map fun r => (DataW.lit (.bool (B r)) : DataW H)).length + ((List.range (cap - len)).map fun j => (DataW.lit (.bool (B (len + j))) : DataW H)).length) * Tryd.prog.bytesOf 4) (by simp [boolRow, DataW.weights, Tryd.underlying29])
      rw [bytesBool] at this
      simp only [List.length_map, List.length_range] at this
      omega
    refine ⟨some a, B, len, cap, rfl, by omega, fun h0 => ?_⟩
    obtain ⟨b, off, spot⟩ := a
    have hspot : spot = none := by simpa [Addr.add] using World.cell?_spot (hcell 0 (by omega))
    subst hspot
    exact ⟨b, off, rfl, fun i hi => by rw [← add_plain]; exact hcell i (by omega)⟩
end
end Go.Proofs.YteachheacllblaaDoor
