import Derived.Test.YtggnnlefalcplaaDoorRows
import Derived.Test.YtggnnlefalcplaaDoorDigNew
namespace Go.Proofs.YtggnnlefalcplaaDoor
open Go.RowKit Mem Sha

def flat (ps : List ByteArray) : List UInt8 := ps.flatMap (·.data.toList)
theorem flat_next (ps : List ByteArray) (k : Nat) (hk : k < ps.length) : flat (ps.take (k + 1)) = flat (ps.take k) ++ ps[k].data.toList := by
  unfold flat
  rw [List.take_succ_eq_append_getElem hk, List.flatMap_append]
  simp
theorem flat_le (ps : List ByteArray) (k : Nat) : (flat (ps.take k)).length ≤ (flat ps).length := by
  have e : flat ps = flat (ps.take k) ++ flat (ps.drop k) := by unfold flat; rw [← List.flatMap_append, List.take_append_drop]
  rw [e, List.length_append]; omega
/-- the parts lie where a slice says -/
def Parts (w : World) (a : Option Addr) (b : Nat) (ps : List ByteArray) : Prop :=
  0 < ps.length → ∃ ab ao, a = some ⟨ab, ao, none⟩ ∧ ab ≠ b ∧ ∀ i (hi : i < ps.length), w.cell? ⟨ab, ao + i, none⟩ = some (.string ps[i])

set_option maxRecDepth 100000 in
set_option maxHeartbeats 1000000 in
theorem write (b : Nat) (m : List UInt8) (a : Option Addr) (ps : List ByteArray) (n c : Nat) (hn : n = ps.length) (w : World) (hT : Tab w) (hb1 : b ≠ 4) (hb2 : b ≠ 1)
    (hm : m.length + (flat ps).length ≤ 4611686018427387904) (hl : n ≤ 4611686018427387904) (hP : Parts w a b ps) (hH : HsI w b m) :
    Calls Tryd.prog 63 #[.pointer (some ⟨b, 0, none⟩), .slice a n c] w fun e w' => e = .returned (.tuple #[]) ∧ w.grownBy w' (some b) ∧ HsI w' b (m ++ flat ps) := by
  have HN := Lib.hid hn
  have HP := Lib.hid hP
  clear hn hP
  go_enter Tryd.func63, Tryd.ntmps63
  go_wp2_with fail

  go_loopw [10] (fun i wr => ∃ k : Nat, k ≤ n ∧ i = .int .i64 k ∧ w.grownBy wr (some b) ∧ HsI wr b (m ++ flat (ps.take k))) (fun i _ => n - (intOf i).toNat)
  case atStart => exact ⟨0, by omega, rfl, gb_refl _ _, by simpa [flat] using hH⟩
  case round =>
    obtain ⟨k, hk, rfl, hg, hI⟩ := hrel
    by_cases hlt : k < n
    · have hkl : k < ps.length := by rw [← HN.out]; exact hlt
      obtain ⟨ab, ao, rfl, hab, hc⟩ := HP.out (by omega)
      have ck := World.grownBy.cell hg (hc k hkl) (by intro e; cases e; exact hab rfl)
      have hT2 := hT.grown hg (by intro e; cases e; exact hb1 rfl) (by intro e; cases e; exact hb2 rfl)
      have hsz : (m ++ flat (ps.take k)).length + ps[k].size ≤ 4611686018427387904 := by
        have h1 := flat_le ps (k + 1)
        rw [flat_next ps k hkl, List.length_append, ← Lib.size_eq] at h1
        rw [List.length_append]; omega
      have hI2 : ∀ w', HsI w' b (m ++ flat (ps.take k) ++ ps[k].data.toList) → HsI w' b (m ++ flat (ps.take (k + 1))) := fun w' h => by
        rw [flat_next ps k hkl, ← List.append_assoc]; exact h
      have HI2 := Lib.hid hI2
      have HSZ := Lib.hid hsz
      clear hsz hc hI2
      generalize ps[k] = s at *
      go_wp2_with (go_at_call 68; (with_reducible refine (take b _ s _ hT2 hb1 hb2 HSZ.out hI).mono ?_); rintro e w3 ⟨rfl, hg3, hI3⟩)
      go_roundw
      case rel => exact ⟨k + 1, by omega, by go_num, gb_trans hg hg3, HI2.out _ hI3⟩
      case measure => simp [intOf]; omega
    · obtain rfl : k = n := by omega
      rw [HN.out, List.take_length] at hI
      go_wp2_with fail
      go_end0
      exact ⟨rfl, hg, hI⟩
theorem write_nil (a : Option Addr) (n c : Nat) (w : World) :
    Calls Tryd.prog 63 #[.pointer none, .slice a n c] w fun e w' => e = .returned (.tuple #[]) ∧ w = w' := by
  go_enter Tryd.func63, Tryd.ntmps63
  go_wp2_with fail
  exact bodyPost_ret (v := .tuple #[]) (by simp [results, Tryd.results63, go_sem]) rfl ⟨rfl, rfl⟩
end Go.Proofs.YtggnnlefalcplaaDoor
