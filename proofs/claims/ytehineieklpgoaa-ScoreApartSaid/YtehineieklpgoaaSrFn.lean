/-
  Package score: points of faults, and what reads a board.
-/
import Derived.Test.YtehineieklpgoaaSrEx
namespace Go.Proofs.Ytehineieklpgoaa.An
open Go.RowKit Mem NN.Rg2
open Sr (Bd pt pts upd)
set_option maxRecDepth 100000
theorem points_no (z : Int) (h1 : z ≠ 1) (h2 : z ≠ 2) (h3 : z ≠ 3) (h4 : z ≠ 4) (h5 : z ≠ 5) (h6 : z ≠ 6) (h7 : z ≠ 7) (w : World) : Calls Try.prog 22 #[.int .i64 z] w fun e w' => e = .returned (.int .i64 0) ∧ w' = w := by
  have e1 : (z == 1) = false := by simpa using h1
  have e2 : (z == 2) = false := by simpa using h2
  have e3 : (z == 3) = false := by simpa using h3
  have e4 : (z == 4) = false := by simpa using h4
  have e5 : (z == 5) = false := by simpa using h5
  have e6 : (z == 6) = false := by simpa using h6
  have e7 : (z == 7) = false := by simpa using h7
  clear h1 h2 h3 h4 h5 h6 h7
  go_enter Try.func22, Try.ntmps22
  go_wp2_with fail
  go_ret
  exact ⟨rfl, rfl⟩
theorem points_one (z : Int) (n : Nat) (h : (z = 1 ∧ n = 100) ∨ (z = 2 ∧ n = 100) ∨ (z = 3 ∧ n = 100) ∨ (z = 4 ∧ n = 20) ∨ (z = 5 ∧ n = 100) ∨ (z = 6 ∧ n = 50) ∨ (z = 7 ∧ n = 10)) (w : World) : Calls Try.prog 22 #[.int .i64 z] w fun e w' => e = .returned (.int .i64 (n : Int)) ∧ w' = w := by
  rcases h with ⟨rfl, rfl⟩ | ⟨rfl, rfl⟩ | ⟨rfl, rfl⟩ | ⟨rfl, rfl⟩ | ⟨rfl, rfl⟩ | ⟨rfl, rfl⟩ | ⟨rfl, rfl⟩
  all_goals
    go_enter Try.func22, Try.ntmps22
    go_wp2_with fail
    go_ret
    exact ⟨rfl, rfl⟩
theorem points_at (z : Int) (w : World) : Calls Try.prog 22 #[.int .i64 z] w fun e w' => e = .returned (.int .i64 (pt z : Int)) ∧ w' = w := by
  by_cases h : 1 ≤ z ∧ z ≤ 7
  · have : z = 1 ∨ z = 2 ∨ z = 3 ∨ z = 4 ∨ z = 5 ∨ z = 6 ∨ z = 7 := by omega
    rcases this with rfl | rfl | rfl | rfl | rfl | rfl | rfl <;> exact points_one _ _ (by decide) w
  · rw [Sr.pt_none (by omega)]
    exact points_no z (by omega) (by omega) (by omega) (by omega) (by omega) (by omega) (by omega) w
/-- a slice's address leads to these numbers -/
def FsAt (w : World) (p : Option Addr) (l : List Int) : Prop := 0 < l.length → ∃ b off, p = some ⟨b, off, none⟩ ∧ b < w.heap.size ∧ ∀ j z, l[j]? = some z → w.cell? ⟨b, off + j, none⟩ = some (.int .i64 z)
theorem FsAt.on {w w' : World} {p : Option Addr} {l : List Int} (h : FsAt w p l) (hs : w.heap.size ≤ w'.heap.size) (hb : ∀ b off, p = some ⟨b, off, none⟩ → b < w.heap.size → w'.heap[b]? = w.heap[b]?) : FsAt w' p l := fun h0 => by
  obtain ⟨b, off, e, h1, h2⟩ := h h0
  exact ⟨b, off, e, Nat.lt_of_lt_of_le h1 hs, fun j z hj => (World.cell?_of_block (w := w) (a := ⟨b, off + j, none⟩) (hb b off e h1)).trans (h2 j z hj)⟩
theorem FsAt.below {w w' : World} {p : Option Addr} {l : List Int} (h : FsAt w p l) (hb : Below w.heap.size w w') : FsAt w' p l := h.on hb.size fun b _ _ h => hb.block b h
/-- of a row that a call made -/
theorem fs_own {w : World} {T : TypeId} {B n : Nat} {v : Value} {l : List Int} (h : w.ownsRow B T 1 v n (l.map (Value.int .i64))) : ∃ p c, v = .slice p n c ∧ n = l.length ∧ FsAt w p l := by
  obtain ⟨hn, ⟨rfl, h0⟩ | ⟨g, c, cur, rfl, _, hg, h1, h2, h3, h4⟩⟩ := h
  · have : l.length = 0 := by simpa [h0] using hn
    exact ⟨none, 0, by rw [h0], by omega, fun hh => by omega⟩
  · rw [List.length_map, Nat.mul_one] at hn
    rw [Nat.mul_one] at h4
    refine ⟨_, c, rfl, hn.symm, fun _ => ⟨g, 0, rfl, (Array.getElem?_eq_some_iff.1 hg).1, fun j z hj => ?_⟩⟩
    have hj' := (List.getElem?_eq_some_iff.1 hj).1
    have e : (cur.toList.take n)[j]? = some (Value.int .i64 z) := by rw [h4, List.getElem?_map, hj]; rfl
    rw [Nat.zero_add, Has.cell (show Has w g cur T from hg), ← Array.getElem?_toList]
    rw [List.getElem?_take] at e
    split at e
    · exact e
    · cases e
set_option maxHeartbeats 4000000 in
theorem points_row (p : Option Addr) (l : List Int) (n c : Nat) (hn : n = l.length) (hl : n ≤ 1000) (w : World) (hA : FsAt w p l) : Calls Try.prog 11 #[.slice p n c] w fun e w' => e = .returned (.int .i64 (pts l : Int)) ∧ w' = w := by
  have KP := Lib.hid (fun z w' => points_at z w')
  have HA := Lib.hid hA
  have HN := Lib.hid hn
  clear hA hn
  go_enter Try.func11, Try.ntmps11
  go_wp2_with fail
  go_loopw [3, 8] (fun s i wr => ∃ k m : Nat, k ≤ n ∧ m ≤ 100 * k ∧ i = .int .i64 (k : Int) ∧ s = .int .i64 (m : Int) ∧ Hid (m = pts (l.take k)) ∧ wr = w) (fun _ i _ => n - (intOf i).toNat)
  case atStart => exact ⟨0, 0, Nat.zero_le _, by omega, rfl, rfl, Lib.hid rfl, rfl⟩
  case round =>
    obtain ⟨k, m, hk, hm, rfl, rfl, HM, rfl⟩ := hrel
    by_cases hlt : k < n
    · obtain ⟨z, hz⟩ : ∃ z, l[k]? = some z := ⟨l[k]'(by rw [← HN.out]; exact hlt), List.getElem?_eq_getElem _⟩
      obtain ⟨b, off, rfl, _, hc⟩ := HA.out (by rw [← HN.out]; omega)
      have hcz := hc k z hz
      obtain ⟨q, hq⟩ : ∃ q, q = pt z := ⟨_, rfl⟩
      have hq1 : q ≤ 100 := by rw [hq]; exact Sr.pt_le z
      have HM2 : Hid (m + q = pts (l.take (k + 1))) := Lib.hid (by rw [Sr.take_more hz, Sr.pts_snoc, HM.out, hq])
      have KZ := Lib.hid (KP.out z wr)
      rw [← hq] at KZ
      clear hc hz hq
      go_wp2_with fail
      refine (KZ.out).mono ?_
      rintro e w' ⟨rfl, rfl⟩
      go_wp2_with fail
      go_roundw
      case rel => exact ⟨k + 1, m + q, by omega, by omega, by go_num, by go_num, HM2, trivial⟩
      case measure => simp [intOf]; omega
    · obtain rfl : k = n := by omega
      have HE : Hid (m = pts l) := Lib.hid (by rw [HM.out, HN.out, List.take_length])
      clear HM HN
      go_wp2_with fail
      go_ret
      rw [HE.out]
      exact ⟨rfl, rfl⟩
end Go.Proofs.Ytehineieklpgoaa.An
