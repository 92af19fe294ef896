/-
  SpeechWords: the walk.
-/
import Derived.Test.YtmpllagaeoolaaaDoorBunS
namespace Go.Proofs.YtmpllagaeoolaaaDoor
open Go.RowKit Mem Sc
set_option maxRecDepth 100000 in
set_option maxHeartbeats 1600000 in
theorem words_some (z : Int) (s : ByteArray) (hz : 1 ≤ z ∧ z ≤ 8) (w : World) (hT : Tab w) (hS : TabS w) :
    Calls Tryd.prog 5 #[.int .i64 z, .string s] w fun r w' => r = .returned (.bool true) ∧ Below w.heap.size w w' := by
  have HT := Lib.hid hT
  have HS := Lib.hid hS
  have KAl := Lib.hid alive8
  clear hT hS
  have he : (wordK z).toList.isEmpty = false := isEmpty_no (wordK_some z hz)
  have HK : Hid (((kindOf (wordK z) : Nat) : Int) = z) := Lib.hid (by
    obtain ⟨h1, h2⟩ := hz
    obtain rfl | rfl | rfl | rfl | rfl | rfl | rfl | rfl : z = 1 ∨ z = 2 ∨ z = 3 ∨ z = 4 ∨ z = 5 ∨ z = 6 ∨ z = 7 ∨ z = 8 := by omega
    all_goals decide +kernel)
  clear hz
  have KW := Lib.hid (word_at z)
  have KR := Lib.hid (rword8_at z)
  have KK := Lib.hid (kind_at s)
  have KL := Lib.hid (rkind8_at s)
  have KX := Lib.hid (kind_at (wordK z))
  rw [HK.out] at KX
  generalize wordK z = v at *
  generalize kindOf s = k at *
  have hB := Below.refl w.heap.size w
  go_enter Tryd.func5, Tryd.ntmps5
  go_wp2_with fail
  refine (KAl.out _ (HT.out.below hB) (HS.out.below hB)).mono ?_
  rintro r w2 ⟨rfl, hb⟩
  replace hB := hB.trans (hb.mono hB.size)
  clear hb
  go_wp2_with fail
  refine (KW.out _ (HS.out.below hB)).mono ?_
  rintro r w3 ⟨rfl, rfl⟩
  go_wp2_with fail
  refine (KR.out _).mono ?_
  rintro r w4 ⟨rfl, rfl⟩
  go_wp2_with fail
  refine (KK.out _ (HS.out.below hB)).mono ?_
  rintro r w5 ⟨rfl, rfl⟩
  go_wp2_with fail
  refine (KL.out _).mono ?_
  rintro r w6 ⟨rfl, rfl⟩
  go_wp2_with fail
  refine (KX.out _ (HS.out.below hB)).mono ?_
  rintro r w7 ⟨rfl, rfl⟩
  go_wp2_with fail
  go_ret
  exact ⟨rfl, hB⟩
set_option maxRecDepth 100000 in
set_option maxHeartbeats 1600000 in
theorem words_none (z : Int) (s : ByteArray) (hz : ¬ (1 ≤ z ∧ z ≤ 8)) (w : World) (hT : Tab w) (hS : TabS w) :
    Calls Tryd.prog 5 #[.int .i64 z, .string s] w fun r w' => r = .returned (.bool true) ∧ Below w.heap.size w w' := by
  have HT := Lib.hid hT
  have HS := Lib.hid hS
  have KAl := Lib.hid alive8
  clear hT hS
  have HE : Hid (wordK z = ⟨#[]⟩) := Lib.hid (wordK_none z hz)
  clear hz
  have KW := Lib.hid (word_at z)
  have KR := Lib.hid (rword8_at z)
  have KK := Lib.hid (kind_at s)
  have KL := Lib.hid (rkind8_at s)
  rw [HE.out] at KW KR
  generalize kindOf s = k at *
  have hB := Below.refl w.heap.size w
  go_enter Tryd.func5, Tryd.ntmps5
  go_wp2_with fail
  refine (KAl.out _ (HT.out.below hB) (HS.out.below hB)).mono ?_
  rintro r w2 ⟨rfl, hb⟩
  replace hB := hB.trans (hb.mono hB.size)
  clear hb
  go_wp2_with fail
  refine (KW.out _ (HS.out.below hB)).mono ?_
  rintro r w3 ⟨rfl, rfl⟩
  go_wp2_with fail
  refine (KR.out _).mono ?_
  rintro r w4 ⟨rfl, rfl⟩
  go_wp2_with fail
  refine (KK.out _ (HS.out.below hB)).mono ?_
  rintro r w5 ⟨rfl, rfl⟩
  go_wp2_with fail
  refine (KL.out _).mono ?_
  rintro r w6 ⟨rfl, rfl⟩
  go_wp2_with fail
  go_ret
  exact ⟨rfl, hB⟩
theorem words_walk (z : Int) (s : ByteArray) (w : World) (hT : Tab w) (hS : TabS w) :
    Calls Tryd.prog 5 #[.int .i64 z, .string s] w fun r w' => r = .returned (.bool true) ∧ Below w.heap.size w w' := by
  by_cases hz : 1 ≤ z ∧ z ≤ 8
  · exact words_some z s hz w hT hS
  · exact words_none z s hz w hT hS
end Go.Proofs.YtmpllagaeoolaaaDoor
