import Derived.Test.YthcebnfdapcllaaGreatDoorRBunQ13
import Derived.Test.YthcebnfdapcllaaGreatDoorRHdList
namespace Go.Proofs.YthcebnfdapcllaaGreatDoor
open Go.ChangeShapes Go.WideShapes Go.RowKit Go.Deep Mem Sc
theorem bytesHd : Tryz.prog.bytesOf 30 = 96 := by kernel_rfl
section
variable {H : Type} {enc : TypeId × Value → H} {W : World}
set_option maxRecDepth 100000 in
theorem open_headers {r : Reach} {b0 : Nat} {v : Value} {d : DataW H} {p : List MemPlace} (hv : Value.okWide Tryz.prog W r b0 33 v) (hd : DataW.Trod enc Tryz.prog W 0 (fun _ => true) true 33 v d p)
    (hw : ∀ n ∈ d.weights Tryz.prog 33, n ≤ reachBytes) :
    ∃ (a : Option Addr) (hs : List Hd) (n c : Nat), v = .slice a n c ∧ n = hs.length ∧ n ≤ 4611686018427387904 ∧ (∀ x ∈ hs, x.ok) ∧ HeadersAt W a hs := by
  obtain ⟨a0, len, cap, rfl⟩ := okWide_slice Tryz.underlying33 hv
  obtain ⟨fuel, hf⟩ := hd
  have h47 := reachBytes_lt
  rcases open_slice Tryz.underlying33 hf with ⟨hcs, hx⟩ | ⟨a, len', cap', m, q, D, Pl, hcs, _, hl, _, hm, hx, hel⟩
  · simp [Value.cells] at hcs
    obtain ⟨rfl, rfl, rfl⟩ := hcs
    exact ⟨none, [], 0, 0, rfl, rfl, by omega, fun s h => by simp at h, fun h => absurd h (by simp)⟩
  · simp [Value.cells] at hcs
    obtain ⟨rfl, rfl, rfl⟩ := hcs
    simp only [if_true] at hm
    subst hm
    simp only [Prod.mk.injEq] at hx
    obtain ⟨rfl, rfl⟩ := hx
    have h1 := hw _ (by
      simp only [DataW.weights, Tryz.underlying33, List.mem_cons]
      exact .inl rfl)
    rw [bytesHd] at h1
    simp only [List.length_map, List.length_range] at h1
    rw [cellsHd] at hel
    obtain ⟨f, hfn⟩ := choose_lt (n := len) (α := Hd) (p := fun i h => h.ok ∧ W.cells? 0 (a.add (i * 68)) 68 = some (hdC h)) (fun i hi => by
      obtain ⟨cs', h2, h3⟩ := hel i (by omega)
      obtain ⟨h, hfit, rfl⟩ := cells_header h3
      exact ⟨h, hfit.1, h2⟩)
    refine ⟨some a, (List.range len).map f, len, _, rfl, by simp, by omega, fun y hy => ?_, fun h0 => ?_⟩
    · obtain ⟨i, hi, rfl⟩ := List.mem_map.1 hy
      exact (hfn i (List.mem_range.1 hi)).1
    · have hlen : 0 < len := by simpa using h0
      obtain ⟨b, off, spot⟩ := a
      have hspot : spot = none := by simpa [Addr.add] using spot_of_cells (hfn 0 hlen).2 (by decide)
      subst hspot
      refine ⟨b, off, rfl, block_lt_of_cell (range_of_cells (hfn 0 hlen).2 0 _ (List.getElem?_eq_getElem (hdC_pos _))), fun i hi => ?_⟩
      have hi' : i < len := by simpa using hi
      rw [List.getElem_map, List.getElem_range]
      exact ⟨(hfn i hi').1, range_of_cells (by have := (hfn i hi').2; rw [add_plain] at this; exact this)⟩
end
end Go.Proofs.YthcebnfdapcllaaGreatDoor
