import Derived.Test.YthcebnfdapcllaaGreatDoorRBunQ23
import Derived.Test.YthcebnfdapcllaaGreatDoorRHdEq
namespace Go.Proofs.YthcebnfdapcllaaGreatDoor
open Go.RowKit Mem Sc
def HeadersAt (w : World) (a : Option Addr) (hs : List Hd) : Prop :=
  0 < hs.length → ∃ ab ao, a = some ⟨ab, ao, none⟩ ∧ ab < w.heap.size ∧ ∀ i (hi : i < hs.length), hs[i].ok ∧ w.rangeAt ab (ao + i * 68) (hdC hs[i])
theorem hdC_pos (h : Hd) : 0 < (hdC h).length := by simp [hdC]
theorem HeadersAt.below {w w' : World} {a : Option Addr} {hs : List Hd} (h : HeadersAt w a hs) (hb : Below w.heap.size w w') : HeadersAt w' a hs := fun h0 => by
  obtain ⟨ab, ao, ha, hlt, hc⟩ := h h0
  exact ⟨ab, ao, ha, Nat.lt_of_lt_of_le hlt hb.size, fun i hi => ⟨(hc i hi).1, range_below (hc i hi).2 hb (hdC_pos _)⟩⟩
theorem range_prev {w : World} {g o : Nat} {h : Hd} (hr : w.rangeAt g o (hdC h)) : w.rangeAt g (o + 1) (Lib.byteCells h.prev) := fun j u hu => by
  have := hr (1 + j) u (hdC_prev j u hu)
  rwa [show o + (1 + j) = o + 1 + j by omega] at this
def headersC (hs : List Hd) : List Value := hs.flatMap hdC
theorem hd_zero : ((Tryz.prog.info? 30).bind (·.zero)).map (·.cells.size) = some 68 := by kernel_rfl
theorem hd_bytes : (Tryz.prog.info? 30).map (·.bytes) = some 96 := by kernel_rfl
theorem hd_info : ∃ i z, Tryz.prog.info? 30 = some i ∧ i.zero = some z ∧ i.size = 68 ∧ i.bytes = 96 ∧ z.cells.size = 68 := by
  have h1 := hdinfo
  have h2 := hd_zero
  have h3 := hd_bytes
  cases hi : Tryz.prog.info? 30 with
  | none => rw [hi] at h1; cases h1
  | some i =>
    rw [hi] at h1 h2 h3
    simp only [Option.map_some, Option.some.injEq, Option.bind_some] at h1 h2 h3
    cases hz : i.zero with
    | none => rw [hz] at h2; cases h2
    | some z =>
      rw [hz] at h2
      simp only [Option.map_some, Option.some.injEq] at h2
      exact ⟨i, z, rfl, hz, h1, h3, h2⟩
end Go.Proofs.YthcebnfdapcllaaGreatDoor
