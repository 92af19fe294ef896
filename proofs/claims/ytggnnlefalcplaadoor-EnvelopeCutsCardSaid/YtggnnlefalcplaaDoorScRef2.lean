/-
  The reference of layer 5: Name, Back, Count.
-/
import Derived.Test.YtggnnlefalcplaaDoorScRef
namespace Go.Proofs.YtggnnlefalcplaaDoor
open Go.RowKit Mem Sc
set_option maxRecDepth 100000 in
set_option maxHeartbeats 1000000 in
theorem rname (l : List UInt8) (hl : l.length = 32) (w : World) : Calls Tryd.prog 28 #[.agg (bytesV l)] w fun r w' => r = .returned (.string (txt l)) ∧ Below w.heap.size w w' := by
  have HL := Lib.hid hl
  clear hl
  go_enter Tryd.func28, Tryd.ntmps28
  go_wp2_with fail
  generalize hw1 : World.alloc _ _ = w1
  have hA : Has w1 w.heap.size (bytesV l) 57 := by rw [← hw1]; exact Has.new _ _
  have hB : Below w.heap.size w w1 := by rw [← hw1]; exact (Below.refl _ _).alloc (Nat.le_refl _) _
  have hR : w.heap.size < w1.heap.size := hA.lt
  clear hw1
  go_loopw [3, 4] (fun s i wr => ∃ k : Nat, k ≤ 32 ∧ i = .int .i64 k ∧ s = .string (txt (l.take k)) ∧ Below w.heap.size w wr ∧ Has wr w.heap.size (bytesV l) 57) (fun _ i _ => 32 - (intOf i).toNat)
  case atStart => exact ⟨0, Nat.zero_le _, rfl, rfl, hB, hA⟩
  case round =>
    clear hA hB
    obtain ⟨k, hk, rfl, rfl, hB, hA⟩ := hrel
    by_cases hlt : k < 32
    · have hkl : k < l.length := by rw [HL.out]; exact hlt
      have c1 := hA.byte k hkl
      have hs1 := txt_size (l.take k)
      have hs3 := txt_append (l.take k) [l[k]]
      rw [← List.take_succ_eq_append_getElem hkl] at hs3
      have hs4 : (txt [l[k]]).size = 1 := txt_size _
      have HS3 := Lib.hid hs3
      have hcv := conv_one l[k]
      have hb2 : ∀ cs t, Below w.heap.size w (wr.alloc (.cells cs t)) ∧ Has (wr.alloc (.cells cs t)) w.heap.size (bytesV l) 57 := fun cs t => ⟨hB.alloc hB.size _, hA.alloc _⟩
      have HB2 := Lib.hid hb2
      have hs5 : (txt (l.take k)).size ≤ 32 := by rw [hs1, List.length_take]; omega
      have hs6 : (txt [l[k]]).size ≤ 1 := by omega
      generalize txt (l.take k) = s at *
      generalize l[k] = y at *
      clear hs3 hb2 hs1 hs4 hA hB
      go_wp2_with fail
      exact ⟨⟨k + 1, by omega, by go_num, congrArg Value.string HS3.out, (HB2.out _ _).1, (HB2.out _ _).2⟩, by simp [intOf]; omega⟩
    · obtain rfl : k = 32 := by omega
      have hT : l.take 32 = l := List.take_of_length_le (by rw [HL.out]; omega)
      have HT := Lib.hid hT
      clear hT
      go_wp2_with fail
      go_ret
      exact ⟨congrArg (fun m => Ending.returned (.string (txt m))) HT.out, hB⟩
theorem val_drop (l : List UInt8) (k : Nat) (hk : k < l.length) : val (l.drop k) = l[k].toNat + 256 * val (l.drop (k + 1)) := by
  rw [List.drop_eq_getElem_cons hk]; rfl
theorem val_drop_lt (l : List UInt8) (k : Nat) (h8 : l.length ≤ 8) (hk : 1 ≤ k) : val (l.drop k) < 72057594037927936 := by
  have h1 := val_lt (l.drop k)
  have h2 : 256 ^ (l.drop k).length ≤ 256 ^ 7 := Nat.pow_le_pow_right (by omega) (by rw [List.length_drop]; omega)
  omega
set_option maxRecDepth 100000 in
set_option maxHeartbeats 1000000 in
theorem rback (s : ByteArray) (hs : s.size ≤ 8) (z : Int) (hz : z = IntKind.i64.wrap (val s.data.toList : Nat)) (g : Bool) (hg : g = decide (val s.data.toList < 9223372036854775808)) (w : World) :
    Calls Tryd.prog 31 #[.string s] w fun r w' => r = .returned (.tuple #[.int .i64 z, .bool g]) ∧ w = w' := by
  have HZ := Lib.hid hz
  have HG := Lib.hid hg
  have hs0 : (0 : Int) ≤ (s.size : Int) := Int.natCast_nonneg _
  clear hz hg
  go_enter Tryd.func31, Tryd.ntmps31
  go_wp2_with fail
  go_loop [4, 5] (fun u i => ∃ k v : Nat, k ≤ s.size ∧ i = .int .i64 ((k : Int) - 1) ∧ u = .int .u64 (v : Int) ∧ Hid (v = val (s.data.toList.drop k))) (fun _ i => (intOf i + 1).toNat)
  case atStart => exact ⟨s.size, 0, Nat.le_refl _, rfl, rfl, Lib.hid (by rw [List.drop_eq_nil_of_le (by rw [← Lib.size_eq]; omega)]; rfl)⟩
  case round =>
    obtain ⟨k, v, hk, rfl, rfl, HV⟩ := hrel
    by_cases hlt : 0 < k
    · obtain ⟨j, rfl⟩ : ∃ j, k = j + 1 := ⟨k - 1, by omega⟩
      have hjl : j < s.data.toList.length := by rw [← Lib.size_eq]; omega
      have hjs : j < s.size := by omega
      have hnx := val_drop s.data.toList j hjl
      rw [← HV.out] at hnx
      have hvl : v < 72057594037927936 := by rw [HV.out]; exact val_drop_lt _ _ (by rw [← Lib.size_eq]; exact hs) (by omega)
      have hx := s.data.toList[j].toNat_lt
      have hxe : s[j].toNat = s.data.toList[j].toNat := rfl
      obtain ⟨v1, hv1⟩ : ∃ v1 : Nat, v1 = v * 256 := ⟨_, rfl⟩
      obtain ⟨v2, hv2⟩ : ∃ v2 : Nat, v2 = v1 + s.data.toList[j].toNat := ⟨_, rfl⟩
      have HV2 : Hid (v2 = val (s.data.toList.drop j)) := Lib.hid (by rw [hnx, hv2, hv1]; omega)
      have f0 : ((j + 1 : Nat) : Int) - 1 = (j : Int) := by omega
      rw [f0]
      have hfin : IntKind.u64.wrap ((v : Int) * 256 + IntKind.u64.wrap (s.data.toList[j].toNat : Int)) = (v2 : Int) := by
        rw [show IntKind.u64.wrap (s.data.toList[j].toNat : Int) = (s.data.toList[j].toNat : Int) by rw [IntKind.wrap_u64]; omega, show (v : Int) * 256 + (s.data.toList[j].toNat : Int) = (v2 : Int) by omega, IntKind.wrap_u64]
        omega
      have HF := Lib.hid hfin
      clear hfin hnx hv1 hv2 HV hxe f0
      go_wp2_with fail
      exact ⟨⟨j, v2, by omega, rfl, congrArg (Value.int .u64) HF.out, HV2⟩, by simp [intOf]⟩
    · obtain rfl : k = 0 := by omega
      rw [List.drop_zero] at HV
      have hz : IntKind.i64.wrap (v : Int) = z := by rw [HZ.out, HV.out]
      have hg : decide ((v : Int) < 9223372036854775808) = g := by
        rw [HG.out, ← HV.out]
        by_cases h : v < 9223372036854775808
        · rw [decide_eq_true h, decide_eq_true (by omega)]
        · rw [decide_eq_false h, decide_eq_false (by omega)]
      clear HZ HG HV hlt
      go_wp2_with fail
      go_ret2
      exact ⟨rfl, rfl⟩
theorem txt_cons (b : UInt8) (l : List UInt8) : txt [b] ++ txt l = txt (b :: l) := txt_append [b] l
end Go.Proofs.YtggnnlefalcplaaDoor
