/-
  SpeechReads: the walk.
-/
import Derived.Test.YtmpllagaeoolaaaDoorBunS
namespace Go.Proofs.YtmpllagaeoolaaaDoor
open Go.RowKit Mem Sc
set_option maxRecDepth 100000 in
set_option maxHeartbeats 1600000 in
theorem sreads_long (s0 s1 : ByteArray) (h1 : 8192 < s1.size) (w : World) (hT : Tab w) (hS : TabS w) :
    Calls Tryd.prog 4 #[.string s0, .string s1] w fun r w' => r = .returned (.bool true) ∧ Below w.heap.size w w' := by
  have HT := Lib.hid hT
  have HS := Lib.hid hS
  have KAl := Lib.hid alive8
  clear hT hS
  have u1 : decide (8192 < (s1.size : Int)) = true := decide_eq_true (by omega)
  clear h1
  have hB := Below.refl w.heap.size w
  go_enter Tryd.func4, Tryd.ntmps4
  go_wp2_with fail
  refine (KAl.out _ (HT.out.below hB) (HS.out.below hB)).mono ?_
  rintro r w2 ⟨rfl, hb⟩
  replace hB := hB.trans (hb.mono hB.size)
  clear hb
  go_wp2_with fail
  go_ret
  exact ⟨rfl, hB⟩
set_option maxRecDepth 100000 in
set_option maxHeartbeats 1600000 in
theorem sreads_wide (s0 s1 : ByteArray) (h1 : s1.size ≤ 8192) (h2 : 100 < s0.size) (w : World) (hT : Tab w) (hS : TabS w) :
    Calls Tryd.prog 4 #[.string s0, .string s1] w fun r w' => r = .returned (.bool true) ∧ Below w.heap.size w w' := by
  have HT := Lib.hid hT
  have HS := Lib.hid hS
  have KAl := Lib.hid alive8
  clear hT hS
  have u1 : decide (8192 < (s1.size : Int)) = false := decide_eq_false (by omega)
  have u2 : decide (100 < (s0.size : Int)) = true := decide_eq_true (by omega)
  clear h1 h2
  have hB := Below.refl w.heap.size w
  go_enter Tryd.func4, Tryd.ntmps4
  go_wp2_with fail
  refine (KAl.out _ (HT.out.below hB) (HS.out.below hB)).mono ?_
  rintro r w2 ⟨rfl, hb⟩
  replace hB := hB.trans (hb.mono hB.size)
  clear hb
  go_wp2_with fail
  go_ret
  exact ⟨rfl, hB⟩
set_option maxRecDepth 100000 in
set_option maxHeartbeats 1600000 in
theorem sreads_none (s0 s1 : ByteArray) (h1 : s1.size ≤ 8192) (h2 : s0.size ≤ 100) (hk : kindOf s0 = 0) (w : World) (hT : Tab w) (hS : TabS w) :
    Calls Tryd.prog 4 #[.string s0, .string s1] w fun r w' => r = .returned (.bool true) ∧ Below w.heap.size w w' := by
  have HT := Lib.hid hT
  have HS := Lib.hid hS
  have KAl := Lib.hid alive8
  clear hT hS
  have u1 : decide (8192 < (s1.size : Int)) = false := decide_eq_false (by omega)
  have u2 : decide (100 < (s0.size : Int)) = false := decide_eq_false (by omega)
  clear h1 h2
  have KK := Lib.hid (rkind8_at s0)
  rw [hk] at KK
  have KR : Hid (∀ w, TabS w → Calls Tryd.prog 16 #[.agg #[.string s0, .string s1]] w fun r w' => r = .returned (.tuple #[.agg (mmA (mmZ 0)), .int .i64 5]) ∧ Below w.heap.size w w') := Lib.hid (fun w hS => Read_none ⟨s0, s1⟩ hk w hS)
  clear hk
  have hB := Below.refl w.heap.size w
  go_enter Tryd.func4, Tryd.ntmps4
  go_wp2_with fail
  refine (KAl.out _ (HT.out.below hB) (HS.out.below hB)).mono ?_
  rintro r w2 ⟨rfl, hb⟩
  replace hB := hB.trans (hb.mono hB.size)
  clear hb
  go_wp2_with fail
  refine (KR.out _ (HS.out.below hB)).mono ?_
  rintro r w20 ⟨rfl, hb⟩
  replace hB := hB.trans (hb.mono hB.size)
  clear hb
  have hzx : (mmA (mmZ 0)).size = 39 := rfl
  generalize hxe : mmZ 0 = x
  rw [hxe] at hzx
  have hN := mm_newz w20
  have hz0 : (mmA (mmZ 0)).size = 39 := rfl
  go_upto_region 6 with (with_reducible refine mm_store rfl _ _ rfl w20.heap.size _ x rfl rfl rfl hzx hN hz0 ?_)
  obtain ⟨X, hX⟩ : ∃ X, X = w20.heap.size := ⟨_, rfl⟩
  generalize hw5 : World.setRow _ _ _ = w21
  have hXx : MmAt w21 X x := by rw [← hw5, hX]; exact Has.row hN _
  have hb : Below w20.heap.size w20 w21 := by rw [← hw5]; exact below_setRow ((Below.refl _ _).alloc (Nat.le_refl _) _) (Nat.le_refl _) _
  rw [← hX]
  clear hw5 hX hN hz0
  replace hB := hB.trans (hb.mono hB.size)
  clear hb
  have c1 : w21.cell? ⟨X, 0, none⟩ = some (.int .i64 0) := by rw [hXx.kind, ← hxe]; rfl
  have c5 : w21.cell? ⟨X, 5, none⟩ = some (.slice none 0 0) := by rw [hXx.ns, ← hxe]; rfl
  have c8 : w21.cell? ⟨X, 38, none⟩ = some (.slice none 0 0) := by rw [hXx.hs (by rw [← hxe]; rfl), ← hxe]; rfl
  clear hxe
  go_wp2_with fail
  refine (KK.out _).mono ?_
  rintro r w3 ⟨rfl, rfl⟩
  go_wp2_with fail
  go_ret
  exact ⟨rfl, hB⟩
set_option maxRecDepth 100000 in
set_option maxHeartbeats 1600000 in
theorem sreads_form (s0 s1 : ByteArray) (h1 : s1.size ≤ 8192) (h2 : s0.size ≤ 100) (k : Nat) (hk : kindOf s0 = k) (hk0 : k ≠ 0) (M : Ms) (e' : Ey) (hm : Ey.msg ⟨s1, false⟩ (k : Int) = (M, e')) (hd : false = (!e'.bad && decide (e'.s.size = 0))) (w : World) (hT : Tab w) (hS : TabS w) :
    Calls Tryd.prog 4 #[.string s0, .string s1] w fun r w' => r = .returned (.bool true) ∧ Below w.heap.size w w' := by
  have HT := Lib.hid hT
  have HS := Lib.hid hS
  have KAl := Lib.hid alive8
  clear hT hS
  have u1 : decide (8192 < (s1.size : Int)) = false := decide_eq_false (by omega)
  have u2 : decide (100 < (s0.size : Int)) = false := decide_eq_false (by omega)
  clear h1 h2
  have KK := Lib.hid (rkind8_at s0)
  rw [hk] at KK
  have t0 : ((k : Int) == 0) = false := beq_eq_false_iff_ne.2 (by omega)
  have KR : Hid (∀ w, TabS w → Calls Tryd.prog 16 #[.agg #[.string s0, .string s1]] w fun r w' => r = .returned (.tuple #[.agg (mmA (mmZ 0)), .int .i64 4]) ∧ Below w.heap.size w w') := Lib.hid (fun w hS => Read_form ⟨s0, s1⟩ k hk hk0 w hS M e' hm hd)
  clear hk hk0 hm hd
  have hB := Below.refl w.heap.size w
  go_enter Tryd.func4, Tryd.ntmps4
  go_wp2_with fail
  refine (KAl.out _ (HT.out.below hB) (HS.out.below hB)).mono ?_
  rintro r w2 ⟨rfl, hb⟩
  replace hB := hB.trans (hb.mono hB.size)
  clear hb
  go_wp2_with fail
  refine (KR.out _ (HS.out.below hB)).mono ?_
  rintro r w20 ⟨rfl, hb⟩
  replace hB := hB.trans (hb.mono hB.size)
  clear hb
  have hzx : (mmA (mmZ 0)).size = 39 := rfl
  generalize hxe : mmZ 0 = x
  rw [hxe] at hzx
  have hN := mm_newz w20
  have hz0 : (mmA (mmZ 0)).size = 39 := rfl
  go_upto_region 6 with (with_reducible refine mm_store rfl _ _ rfl w20.heap.size _ x rfl rfl rfl hzx hN hz0 ?_)
  obtain ⟨X, hX⟩ : ∃ X, X = w20.heap.size := ⟨_, rfl⟩
  generalize hw5 : World.setRow _ _ _ = w21
  have hXx : MmAt w21 X x := by rw [← hw5, hX]; exact Has.row hN _
  have hb : Below w20.heap.size w20 w21 := by rw [← hw5]; exact below_setRow ((Below.refl _ _).alloc (Nat.le_refl _) _) (Nat.le_refl _) _
  rw [← hX]
  clear hw5 hX hN hz0
  replace hB := hB.trans (hb.mono hB.size)
  clear hb
  have c1 : w21.cell? ⟨X, 0, none⟩ = some (.int .i64 0) := by rw [hXx.kind, ← hxe]; rfl
  have c5 : w21.cell? ⟨X, 5, none⟩ = some (.slice none 0 0) := by rw [hXx.ns, ← hxe]; rfl
  have c8 : w21.cell? ⟨X, 38, none⟩ = some (.slice none 0 0) := by rw [hXx.hs (by rw [← hxe]; rfl), ← hxe]; rfl
  clear hxe
  go_wp2_with fail
  refine (KK.out _).mono ?_
  rintro r w3 ⟨rfl, rfl⟩
  go_wp2_with fail
  go_ret
  exact ⟨rfl, hB⟩
set_option maxRecDepth 100000 in
set_option maxHeartbeats 1600000 in
theorem sreads_ok (s0 s1 : ByteArray) (h1 : s1.size ≤ 8192) (h2 : s0.size ≤ 100) (k : Nat) (hk : kindOf s0 = k) (hk0 : k ≠ 0) (M : Ms) (e' : Ey) (hm : Ey.msg ⟨s1, false⟩ (k : Int) = (M, e')) (hd : true = (!e'.bad && decide (e'.s.size = 0))) (hMk : M.kind = (k : Int)) (hp : M.P) (hpay : txt M.pay = s1) (w : World) (hT : Tab w) (hS : TabS w) :
    Calls Tryd.prog 4 #[.string s0, .string s1] w fun r w' => r = .returned (.bool true) ∧ Below w.heap.size w w' := by
  have HT := Lib.hid hT
  have HS := Lib.hid hS
  have KAl := Lib.hid alive8
  clear hT hS
  have u1 : decide (8192 < (s1.size : Int)) = false := decide_eq_false (by omega)
  have u2 : decide (100 < (s0.size : Int)) = false := decide_eq_false (by omega)
  clear h1 h2
  have KK := Lib.hid (rkind8_at s0)
  rw [hk] at KK
  have t0 : ((k : Int) == 0) = false := beq_eq_false_iff_ne.2 (by omega)
  have KR : Hid (∀ w, TabS w → Calls Tryd.prog 16 #[.agg #[.string s0, .string s1]] w fun r w' => ReadsPost w M r w') := Lib.hid (fun w hS => Read_ok ⟨s0, s1⟩ k hk hk0 w hS M e' hm hd)
  have KG : Hid (∀ (x : Mm) w, Lies w x M → Calls Tryd.prog 11 #[.agg (mmA x)] w fun e w' => e = .returned (.bool true) ∧ Below w.heap.size w w') := Lib.hid (fun x w hx => by
    have := rgood8_at x M w hx
    rwa [decide_eq_true hp] at this)
  have KP : Hid (∀ (x : Mm) w, Lies w x M → Calls Tryd.prog 14 #[.agg (mmA x)] w fun e w' => e = .returned (.string s1) ∧ Below w.heap.size w w') := Lib.hid (fun x w hx => by
    have := rpay8_at x M w hx hp
    rwa [hpay] at this)
  have HMK := Lib.hid hMk
  clear hk hk0 hm hd hMk hp hpay
  have hB := Below.refl w.heap.size w
  go_enter Tryd.func4, Tryd.ntmps4
  go_wp2_with fail
  refine (KAl.out _ (HT.out.below hB) (HS.out.below hB)).mono ?_
  rintro r w2 ⟨rfl, hb⟩
  replace hB := hB.trans (hb.mono hB.size)
  clear hb
  go_wp2_with fail
  refine (KR.out _ (HS.out.below hB)).mono ?_
  rintro r w20 ⟨x, rfl, hx, hb⟩
  replace hB := hB.trans (hb.mono hB.size)
  clear hb
  have hzx := mmA_size hx.mok
  have c1' : x.kind = (k : Int) := by rw [hx.kind, HMK.out]
  have HKX := Lib.hid c1'
  clear c1'
  have hN := mm_newz w20
  have hz0 : (mmA (mmZ 0)).size = 39 := rfl
  go_upto_region 6 with (with_reducible refine mm_store rfl _ _ rfl w20.heap.size _ x rfl rfl rfl hzx hN hz0 ?_)
  obtain ⟨X, hX⟩ : ∃ X, X = w20.heap.size := ⟨_, rfl⟩
  generalize hw5 : World.setRow _ _ _ = w21
  have hXx : MmAt w21 X x := by rw [← hw5, hX]; exact Has.row hN _
  have hb : Below w20.heap.size w20 w21 := by rw [← hw5]; exact below_setRow ((Below.refl _ _).alloc (Nat.le_refl _) _) (Nat.le_refl _) _
  rw [← hX]
  clear hw5 hX hN hz0
  replace hB := hB.trans (hb.mono hB.size)
  replace hx := hx.below hb
  clear hb
  go_wp2_with (first | (with_reducible refine mm_load rfl _ rfl X rfl hXx hzx ?_) | (with_reducible refine mm_load_g (by with_unfolding_all rfl) _ rfl X rfl hXx hzx ?_))
  refine (KK.out _).mono ?_
  rintro r w3 ⟨rfl, rfl⟩
  have c1 := hXx.kind
  rw [HKX.out] at c1
  go_wp2_with (first | (with_reducible refine mm_load rfl _ rfl X rfl hXx hzx ?_) | (with_reducible refine mm_load_g (by with_unfolding_all rfl) _ rfl X rfl hXx hzx ?_))
  refine (KG.out x _ hx).mono ?_
  rintro r w30 ⟨rfl, hb⟩
  replace hXx := hXx.on hb
  replace hx := hx.below hb
  replace hB := hB.trans (hb.mono hB.size)
  clear hb
  go_wp2_with (first | (with_reducible refine mm_load rfl _ rfl X rfl hXx hzx ?_) | (with_reducible refine mm_load_g (by with_unfolding_all rfl) _ rfl X rfl hXx hzx ?_))
  refine (KP.out x _ hx).mono ?_
  rintro r w31 ⟨rfl, hb⟩
  replace hB := hB.trans (hb.mono hB.size)
  clear hb
  go_wp2_with (first | (with_reducible refine mm_load rfl _ rfl X rfl hXx hzx ?_) | (with_reducible refine mm_load_g (by with_unfolding_all rfl) _ rfl X rfl hXx hzx ?_))
  go_ret
  exact ⟨rfl, hB⟩
theorem sreads_walk (s0 s1 : ByteArray) (w : World) (hT : Tab w) (hS : TabS w) :
    Calls Tryd.prog 4 #[.string s0, .string s1] w fun r w' => r = .returned (.bool true) ∧ Below w.heap.size w w' := by
  by_cases h1 : 8192 < s1.size
  · exact sreads_long s0 s1 h1 w hT hS
  by_cases h2 : 100 < s0.size
  · exact sreads_wide s0 s1 (by omega) h2 w hT hS
  by_cases hk : kindOf s0 = 0
  · exact sreads_none s0 s1 (by omega) (by omega) hk w hT hS
  obtain ⟨k, hke⟩ : ∃ k, k = kindOf s0 := ⟨_, rfl⟩
  rw [← hke] at hk
  obtain ⟨M, e', hm⟩ : ∃ M e', Ey.msg ⟨s1, false⟩ (k : Int) = (M, e') := ⟨_, _, rfl⟩
  have hr := msg_reads (k : Int) ⟨s1, false⟩
  simp only [hm] at hr
  cases hd : (!e'.bad && decide (e'.s.size = 0))
  · exact sreads_form s0 s1 (by omega) (by omega) k hke.symm hk M e' hm hd.symm w hT hS
  · cases hb : e'.bad
    · rw [hb] at hd
      have hz : e'.s.size = 0 := by simpa using hd
      obtain ⟨_, ⟨q1, q2, q3⟩, q4⟩ := hr hb
      have hk9 := kindOf_lt s0
      have h0 : e'.s.data.toList = [] := List.eq_nil_of_length_eq_zero (by rw [← Lib.size_eq]; exact hz)
      rw [h0, List.append_nil] at q4
      refine sreads_ok s0 s1 (by omega) (by omega) k hke.symm hk M e' hm (by rw [hb]; exact hd.symm) q1 (q3 (by omega)) ?_ w hT hS
      rw [← q4]
      exact txt_of s1
    · rw [hb] at hd; cases hd
end Go.Proofs.YtmpllagaeoolaaaDoor
