/-
  SpeechBytes: the walk.
-/
import Derived.Test.YtmpllagaeoolaaaDoorBunS
namespace Go.Proofs.YtmpllagaeoolaaaDoor
open Go.RowKit Mem Sc
set_option maxRecDepth 100000 in
set_option maxHeartbeats 1600000 in
theorem sbytes_great (m : Mm) (M : Ms) (hg : greatM m = true) (w : World) (hT : Tab w) (hS : TabS w) (hL : Lies w m M) :
    Calls Tryd.prog 3 #[.agg (mmA m)] w fun r w' => r = .returned (.bool true) ∧ Below w.heap.size w w' := by
  have hz := mmA_size hL.mok
  have HL := Lib.hid hL
  have HT := Lib.hid hT
  have HS := Lib.hid hS
  have KAl := Lib.hid alive8
  have KG := Lib.hid (great8_at m hL.mok true hg)
  clear hg hT hS hL
  have hP := mm_new w m
  have hB : Below w.heap.size w (w.alloc (.cells (mmA m) 27)) := (Below.refl _ _).alloc (Nat.le_refl _) _
  go_enter Tryd.func3, Tryd.ntmps3
  go_upto_region 1 with fail
  obtain ⟨P, hPe⟩ : ∃ P, P = w.heap.size := ⟨_, rfl⟩
  rw [← hPe] at hP ⊢
  have hPw : w.heap.size ≤ P := by omega
  clear hPe
  generalize World.alloc _ _ = w1 at *
  go_wp2_with fail
  refine (KAl.out _ (HT.out.below hB) (HS.out.below hB)).mono ?_
  rintro r w2 ⟨rfl, hb⟩
  replace hP := hP.on hb
  replace hB := hB.trans (hb.mono hB.size)
  clear hb
  go_wp2_with (first | (with_reducible refine mm_load rfl _ rfl P rfl hP hz ?_) | (with_reducible refine mm_load_g (by with_unfolding_all rfl) _ rfl P rfl hP hz ?_))
  refine (KG.out _).mono ?_
  rintro r w3 ⟨rfl, hb⟩
  replace hP := hP.on hb
  replace hB := hB.trans (hb.mono hB.size)
  clear hb
  go_wp2_with (first | (with_reducible refine mm_load rfl _ rfl P rfl hP hz ?_) | (with_reducible refine mm_load_g (by with_unfolding_all rfl) _ rfl P rfl hP hz ?_))
  go_ret
  exact ⟨rfl, hB⟩
set_option maxRecDepth 100000 in
set_option maxHeartbeats 1600000 in
theorem sbytes_bad (m : Mm) (M : Ms) (hg : greatM m = false) (hp : ¬ M.P) (w : World) (hT : Tab w) (hS : TabS w) (hL : Lies w m M) :
    Calls Tryd.prog 3 #[.agg (mmA m)] w fun r w' => r = .returned (.bool true) ∧ Below w.heap.size w w' := by
  have hz := mmA_size hL.mok
  have HL := Lib.hid hL
  have HT := Lib.hid hT
  have HS := Lib.hid hS
  have KAl := Lib.hid alive8
  have KG := Lib.hid (great8_at m hL.mok false hg)
  have KRG := Lib.hid (fun w hL => rgood8_at m M w hL)
  rw [decide_eq_false hp] at KRG
  have KSG := Lib.hid (fun w hS hL => good8_at m M false (decide_eq_false hp) w hS hL)
  have KB := Lib.hid (fun w hS hL => bytes8_no m M hp w hS hL)
  rw [show E0 = ⟨#[]⟩ from rfl] at KB
  clear hg hT hS hL hp
  have hP := mm_new w m
  have hB : Below w.heap.size w (w.alloc (.cells (mmA m) 27)) := (Below.refl _ _).alloc (Nat.le_refl _) _
  go_enter Tryd.func3, Tryd.ntmps3
  go_upto_region 1 with fail
  obtain ⟨P, hPe⟩ : ∃ P, P = w.heap.size := ⟨_, rfl⟩
  rw [← hPe] at hP ⊢
  have hPw : w.heap.size ≤ P := by omega
  clear hPe
  generalize World.alloc _ _ = w1 at *
  go_wp2_with fail
  refine (KAl.out _ (HT.out.below hB) (HS.out.below hB)).mono ?_
  rintro r w2 ⟨rfl, hb⟩
  replace hP := hP.on hb
  replace hB := hB.trans (hb.mono hB.size)
  clear hb
  go_wp2_with (first | (with_reducible refine mm_load rfl _ rfl P rfl hP hz ?_) | (with_reducible refine mm_load_g (by with_unfolding_all rfl) _ rfl P rfl hP hz ?_))
  refine (KG.out _).mono ?_
  rintro r w3 ⟨rfl, hb⟩
  replace hP := hP.on hb
  replace hB := hB.trans (hb.mono hB.size)
  clear hb
  go_wp2_with (first | (with_reducible refine mm_load rfl _ rfl P rfl hP hz ?_) | (with_reducible refine mm_load_g (by with_unfolding_all rfl) _ rfl P rfl hP hz ?_))
  refine (KRG.out _ (HL.out.below hB)).mono ?_
  rintro r w4 ⟨rfl, hb⟩
  replace hP := hP.on hb
  replace hB := hB.trans (hb.mono hB.size)
  clear hb
  go_wp2_with (first | (with_reducible refine mm_load rfl _ rfl P rfl hP hz ?_) | (with_reducible refine mm_load_g (by with_unfolding_all rfl) _ rfl P rfl hP hz ?_))
  refine (KB.out _ (HS.out.below hB) (HL.out.below hB)).mono ?_
  rintro r w5 ⟨rfl, hb⟩
  replace hP := hP.on hb
  replace hB := hB.trans (hb.mono hB.size)
  clear hb
  go_wp2_with (first | (with_reducible refine mm_load rfl _ rfl P rfl hP hz ?_) | (with_reducible refine mm_load_g (by with_unfolding_all rfl) _ rfl P rfl hP hz ?_))
  refine (KSG.out _ (HS.out.below hB) (HL.out.below hB)).mono ?_
  rintro r w6 ⟨rfl, hb⟩
  replace hP := hP.on hb
  replace hB := hB.trans (hb.mono hB.size)
  clear hb
  go_wp2_with (first | (with_reducible refine mm_load rfl _ rfl P rfl hP hz ?_) | (with_reducible refine mm_load_g (by with_unfolding_all rfl) _ rfl P rfl hP hz ?_))
  go_ret
  exact ⟨rfl, hB⟩
set_option maxRecDepth 100000 in
set_option maxHeartbeats 1600000 in
theorem sbytes_ok (m : Mm) (M : Ms) (hg : greatM m = false) (hp : M.P) (w : World) (hT : Tab w) (hS : TabS w) (hL : Lies w m M) :
    Calls Tryd.prog 3 #[.agg (mmA m)] w fun r w' => r = .returned (.bool true) ∧ Below w.heap.size w w' := by
  have hz := mmA_size hL.mok
  have HL := Lib.hid hL
  have HT := Lib.hid hT
  have HS := Lib.hid hS
  have KAl := Lib.hid alive8
  have KG := Lib.hid (great8_at m hL.mok false hg)
  have KRG := Lib.hid (fun w hL => rgood8_at m M w hL)
  rw [decide_eq_true hp] at KRG
  have KSG := Lib.hid (fun w hS hL => good8_at m M true (decide_eq_true hp) w hS hL)
  obtain ⟨k, hk⟩ := Int.eq_ofNat_of_zero_le (show 0 ≤ M.kind by have := P_kind hp; omega)
  have hkk : kindOf M.env.w = k := by
    have := (wordK_P hp).2.2
    rw [hk, Int.toNat_natCast] at this
    show kindOf (wordK M.kind) = k
    rw [hk]; exact this
  have hk0 : k ≠ 0 := by have := P_kind hp; omega
  have hrd := read_pay hp hL.ok []
  rw [List.append_nil, hk] at hrd
  have KRd := Lib.hid (fun w hS => Read_ok M.env k hkk hk0 w hS M.bare ⟨txt [], false⟩ hrd rfl)
  have KB := Lib.hid (fun w hT hS hL => bytes8_yes m M hp w hT hS hL)
  have KP := Lib.hid (fun w hL => rpay8_at m M w hL hp)
  have KW : Hid (∀ w, Calls Tryd.prog 15 #[.int .i64 m.kind] w fun e w' => e = .returned (.string (wordK M.kind)) ∧ w = w') := Lib.hid (fun w => by rw [hL.kind]; exact rword8_at M.kind w)
  have KE : Hid (∀ w, Calls Tryd.prog 17 #[.string (wordK M.kind), .string (txt M.pay)] w fun e w' => e = .returned (.string (txt M.env.enc)) ∧ Below w.heap.size w w') := Lib.hid (fun w => by
    have := rbytes7 (wordK M.kind).data.toList M.pay (goodW_len (env_P hp hL.ok).1).2.1 (pay_len hp hL.ok) w
    rw [txt_of] at this
    exact this)
  have KRd2 : Hid (∀ w, TabS w → Calls Tryd.prog 16 #[.agg #[.string (wordK M.kind), .string (txt M.pay)]] w fun r w' => ReadsPost w M.bare r w') := KRd
  have KX : Hid (∀ (x : Mm) w, Lies w x M.bare → Calls Tryd.prog 14 #[.agg (mmA x)] w fun e w' => e = .returned (.string (txt M.pay)) ∧ Below w.heap.size w w') := Lib.hid (fun x w hx => by
    have := rpay8_at x M.bare w hx ((bare_P M).2 hp)
    rwa [pay_bare] at this)
  have KS : Hid (∀ (x : Mm) w, Lies w x M.bare → Lies w m M → Calls Tryd.prog 18 #[.agg (mmA x), .agg (mmA m)] w fun e w' => e = .returned (.bool true) ∧ Below w.heap.size w w') := Lib.hid (fun x w hx hm => same8_at x m M.bare M w hx hm true (decide_eq_true (bare_bare M)))
  have HKD : Hid (∀ (x : Mm) w, Lies w x M.bare → x.kind = m.kind) := Lib.hid (fun x w hx => by rw [hx.kind, bare_kind, hL.kind])
  clear KRd hrd hkk hk hk0 hp
  generalize wordK M.kind = word at *
  generalize txt M.pay = pay at *
  generalize txt M.env.enc = enc at *
  clear hg hT hS hL
  have hP := mm_new w m
  have hB : Below w.heap.size w (w.alloc (.cells (mmA m) 27)) := (Below.refl _ _).alloc (Nat.le_refl _) _
  go_enter Tryd.func3, Tryd.ntmps3
  go_upto_region 1 with fail
  obtain ⟨P, hPe⟩ : ∃ P, P = w.heap.size := ⟨_, rfl⟩
  rw [← hPe] at hP ⊢
  have hPw : w.heap.size ≤ P := by omega
  clear hPe
  generalize World.alloc _ _ = w1 at *
  go_wp2_with fail
  refine (KAl.out _ (HT.out.below hB) (HS.out.below hB)).mono ?_
  rintro r w2 ⟨rfl, hb⟩
  replace hP := hP.on hb
  replace hB := hB.trans (hb.mono hB.size)
  clear hb
  go_wp2_with (first | (with_reducible refine mm_load rfl _ rfl P rfl hP hz ?_) | (with_reducible refine mm_load_g (by with_unfolding_all rfl) _ rfl P rfl hP hz ?_))
  refine (KG.out _).mono ?_
  rintro r w3 ⟨rfl, hb⟩
  replace hP := hP.on hb
  replace hB := hB.trans (hb.mono hB.size)
  clear hb
  go_wp2_with (first | (with_reducible refine mm_load rfl _ rfl P rfl hP hz ?_) | (with_reducible refine mm_load_g (by with_unfolding_all rfl) _ rfl P rfl hP hz ?_))
  refine (KRG.out _ (HL.out.below hB)).mono ?_
  rintro r w4 ⟨rfl, hb⟩
  replace hP := hP.on hb
  replace hB := hB.trans (hb.mono hB.size)
  clear hb
  go_wp2_with (first | (with_reducible refine mm_load rfl _ rfl P rfl hP hz ?_) | (with_reducible refine mm_load_g (by with_unfolding_all rfl) _ rfl P rfl hP hz ?_))
  refine (KB.out _ (HT.out.below hB) (HS.out.below hB) (HL.out.below hB)).mono ?_
  rintro r w5 ⟨rfl, hb⟩
  replace hP := hP.on hb
  replace hB := hB.trans (hb.mono hB.size)
  clear hb
  go_wp2_with (first | (with_reducible refine mm_load rfl _ rfl P rfl hP hz ?_) | (with_reducible refine mm_load_g (by with_unfolding_all rfl) _ rfl P rfl hP hz ?_))
  refine (KSG.out _ (HS.out.below hB) (HL.out.below hB)).mono ?_
  rintro r w6 ⟨rfl, hb⟩
  replace hP := hP.on hb
  replace hB := hB.trans (hb.mono hB.size)
  clear hb
  go_wp2_with (first | (with_reducible refine mm_load rfl _ rfl P rfl hP hz ?_) | (with_reducible refine mm_load_g (by with_unfolding_all rfl) _ rfl P rfl hP hz ?_))
  refine (KP.out _ (HL.out.below hB)).mono ?_
  rintro r w7 ⟨rfl, hb⟩
  replace hP := hP.on hb
  replace hB := hB.trans (hb.mono hB.size)
  clear hb
  have c0 := hP.kind
  go_wp2_with (first | (with_reducible refine mm_load rfl _ rfl P rfl hP hz ?_) | (with_reducible refine mm_load_g (by with_unfolding_all rfl) _ rfl P rfl hP hz ?_))
  refine (KW.out _).mono ?_
  rintro r w8 ⟨rfl, rfl⟩
  clear c0
  go_wp2_with (first | (with_reducible refine mm_load rfl _ rfl P rfl hP hz ?_) | (with_reducible refine mm_load_g (by with_unfolding_all rfl) _ rfl P rfl hP hz ?_))
  refine (KRd2.out _ (HS.out.below hB)).mono ?_
  rintro r w20 ⟨x, rfl, hx, hb⟩
  replace hP := hP.on hb
  replace hB := hB.trans (hb.mono hB.size)
  clear hb
  have hzx := mmA_size hx.mok
  have hN := mm_newz w20
  have hz0 : (mmA (mmZ 0)).size = 39 := rfl
  have hKD := HKD.out x w20 hx
  have HKX := Lib.hid hKD
  clear hKD
  have hPl := hP.lt
  go_upto_region 14 with (with_reducible refine mm_store rfl _ _ rfl w20.heap.size _ x rfl rfl rfl hzx hN hz0 ?_)
  obtain ⟨X, hX⟩ : ∃ X, X = w20.heap.size := ⟨_, rfl⟩
  generalize hw5 : World.setRow _ _ _ = w21
  have hXx : MmAt w21 X x := by rw [← hw5, hX]; exact Has.row hN _
  have hb : Below w20.heap.size w20 w21 := by rw [← hw5]; exact below_setRow ((Below.refl _ _).alloc (Nat.le_refl _) _) (Nat.le_refl _) _
  rw [← hX]
  clear hw5 hX hN hPl
  replace hP := hP.on hb
  replace hx := hx.below hb
  replace hB := hB.trans (hb.mono hB.size)
  clear hb
  go_wp2_with (first | (with_reducible refine mm_load rfl _ rfl P rfl hP hz ?_) | (with_reducible refine mm_load_g (by with_unfolding_all rfl) _ rfl P rfl hP hz ?_) | (with_reducible refine mm_load rfl _ rfl X rfl hXx hzx ?_) | (with_reducible refine mm_load_g (by with_unfolding_all rfl) _ rfl X rfl hXx hzx ?_))
  refine (KE.out _).mono ?_
  rintro r w9 ⟨rfl, hb⟩
  replace hP := hP.on hb
  replace hXx := hXx.on hb
  replace hx := hx.below hb
  replace hB := hB.trans (hb.mono hB.size)
  clear hb
  have c0 := hP.kind
  have c1 := hXx.kind
  rw [HKX.out] at c1
  go_wp2_with (first | (with_reducible refine mm_load rfl _ rfl P rfl hP hz ?_) | (with_reducible refine mm_load_g (by with_unfolding_all rfl) _ rfl P rfl hP hz ?_) | (with_reducible refine mm_load rfl _ rfl X rfl hXx hzx ?_) | (with_reducible refine mm_load_g (by with_unfolding_all rfl) _ rfl X rfl hXx hzx ?_))
  refine (KX.out x _ hx).mono ?_
  rintro r w10 ⟨rfl, hb⟩
  replace hP := hP.on hb
  replace hXx := hXx.on hb
  replace hx := hx.below hb
  replace hB := hB.trans (hb.mono hB.size)
  clear hb
  clear c0 c1
  go_wp2_with (first | (with_reducible refine mm_load rfl _ rfl P rfl hP hz ?_) | (with_reducible refine mm_load_g (by with_unfolding_all rfl) _ rfl P rfl hP hz ?_) | (with_reducible refine mm_load rfl _ rfl X rfl hXx hzx ?_) | (with_reducible refine mm_load_g (by with_unfolding_all rfl) _ rfl X rfl hXx hzx ?_))
  refine (KS.out x _ hx (HL.out.below hB)).mono ?_
  rintro r w11 ⟨rfl, hb⟩
  replace hP := hP.on hb
  replace hXx := hXx.on hb
  replace hx := hx.below hb
  replace hB := hB.trans (hb.mono hB.size)
  clear hb
  go_wp2_with (first | (with_reducible refine mm_load rfl _ rfl P rfl hP hz ?_) | (with_reducible refine mm_load_g (by with_unfolding_all rfl) _ rfl P rfl hP hz ?_) | (with_reducible refine mm_load rfl _ rfl X rfl hXx hzx ?_) | (with_reducible refine mm_load_g (by with_unfolding_all rfl) _ rfl X rfl hXx hzx ?_))
  go_ret
  exact ⟨rfl, hB⟩
theorem sbytes_walk (m : Mm) (M : Ms) (w : World) (hT : Tab w) (hS : TabS w) (hL : Lies w m M) :
    Calls Tryd.prog 3 #[.agg (mmA m)] w fun r w' => r = .returned (.bool true) ∧ Below w.heap.size w w' := by
  cases hg : greatM m
  · by_cases hp : M.P
    · exact sbytes_ok m M hg hp w hT hS hL
    · exact sbytes_bad m M hg hp w hT hS hL
  · exact sbytes_great m M hg w hT hS hL
end Go.Proofs.YtmpllagaeoolaaaDoor
