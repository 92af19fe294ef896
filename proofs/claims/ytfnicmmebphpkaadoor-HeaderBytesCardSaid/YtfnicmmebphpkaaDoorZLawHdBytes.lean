/-
  HeaderBytes: the walk.
-/
import Derived.Test.YtfnicmmebphpkaaDoorZLawHdUnlike
namespace Go.Proofs.YtfnicmmebphpkaaDoor
open Go.RowKit Mem Sc
set_option maxRecDepth 100000 in
set_option maxHeartbeats 1000000 in
theorem hbytes_long (h : Hd) (m : ByteArray) (hm : 100 < m.size) (w : World) (hT : Tab w) :
    Calls Tryd.prog 3 #[.agg (hdA h), .string m] w fun r w' => r = .returned (.bool true) ∧ Below w.heap.size w w' := by
  have t1 : decide ((100 : Int) < (m.size : Int)) = true := decide_eq_true (by omega)
  clear hm
  go_enter Tryd.func3, Tryd.ntmps3
  go_upto_region 1 with fail
  generalize hw1 : World.alloc _ _ = w1
  have hB : Below w.heap.size w w1 := by rw [← hw1]; exact (Below.refl _ _).alloc (Nat.le_refl _) _
  clear hw1
  have hT1 := hT.below hB
  go_wp2_with fail
  refine (halive w1 hT1).mono ?_
  rintro r w2 ⟨rfl, hb2⟩
  replace hB := hB.trans (hb2.mono hB.size)
  go_wp2_with fail
  go_ret
  exact ⟨rfl, hB⟩
set_option maxRecDepth 100000 in
set_option maxHeartbeats 2000000 in
theorem hbytes_bad (h : Hd) (ho : h.ok) (hp : ¬ h.P) (m : ByteArray) (hm : m.size ≤ 100) (w : World) (hT : Tab w) :
    Calls Tryd.prog 3 #[.agg (hdA h), .string m] w fun r w' => r = .returned (.bool true) ∧ Below w.heap.size w w' := by
  have t1 : decide ((100 : Int) < (m.size : Int)) = false := decide_eq_false (by omega)
  have za := hdA_size ho
  have z1 := hdC_length ho
  have CG := rgood_at h ho
  rw [decide_eq_false hp] at CG
  have KG := Lib.hid CG
  have CO := good_at h ho
  rw [decide_eq_false hp] at CO
  have KO := Lib.hid CO
  have KI := Lib.hid (fun w hT => id_at h ho w hT)
  have KR := Lib.hid (fun w => rid_at h ho w)
  have qi := hn_neq h.id h.id (id_length h) (id_length h) false (by simp)
  generalize bytesV h.id = ci at *
  have KW := Lib.hid (fun b v l w hP hsz => write_at b v l h ho w hP hsz)
  rw [Hd.wr_no hp] at KW
  have KB : Hid (∀ w, Calls Tryd.prog 11 #[.agg (hdA h)] w fun e w' => e = .returned (.tuple #[.string ⟨#[]⟩, .int .i64 1]) ∧ Below w.heap.size w w') := Lib.hid (bytes_no h ho hp)
  have KE := Lib.hid (rbytes hdZ hdZ_ok)
  have KT := Lib.hid (fun b v w hP => text_txt b v hdZ.enc w hP)
  generalize txt hdZ.enc = s at *
  clear CG CO hp ho
  go_enter Tryd.func3, Tryd.ntmps3
  go_upto_region 1 with fail
  generalize hw1 : World.alloc _ _ = w1
  have hA : HdAt w1 w.heap.size h := by rw [← hw1]; exact hd_new w h
  have hB : Below w.heap.size w w1 := by rw [← hw1]; exact (Below.refl _ _).alloc (Nat.le_refl _) _
  clear hw1
  have hT1 := hT.below hB
  go_wp2_with fail
  refine (halive w1 hT1).mono ?_
  rintro r w2 ⟨rfl, hb2⟩
  replace hA := hA.on hb2
  replace hT1 := hT1.below hb2
  replace hB := hB.trans (hb2.mono hB.size)
  clear hb2
  go_wp2_with (with_reducible refine hd_load rfl _ rfl w.heap.size rfl hA za ?_)
  refine (KG.out _).mono ?_
  rintro r w3 ⟨rfl, hb2⟩
  replace hA := hA.on hb2
  replace hT1 := hT1.below hb2
  replace hB := hB.trans (hb2.mono hB.size)
  clear hb2 KG
  go_wp2_with (with_reducible refine hd_load rfl _ rfl w.heap.size rfl hA za ?_)
  refine (KB.out _).mono ?_
  rintro r w4 ⟨rfl, hb2⟩
  replace hA := hA.on hb2
  replace hT1 := hT1.below hb2
  replace hB := hB.trans (hb2.mono hB.size)
  clear hb2 KB
  go_upto_region 8 with fail
  have hN := pen_new w4
  have hpk : w.heap.size ≤ w4.heap.size := hB.size
  have hAl := hA.lt
  have hb3 : Below w4.heap.size w4 (w4.alloc (.cells #[.slice none 0 0] 34)) := (Below.refl _ _).alloc (Nat.le_refl _) _
  replace hB := hB.trans (hb3.mono hB.size)
  replace hA := hA.on hb3
  replace hT1 := hT1.below hb3
  generalize World.alloc _ _ = w5 at *
  generalize w4.heap.size = P at *
  clear hb3
  go_wp2_with (with_reducible refine hd_load rfl _ rfl w.heap.size rfl hA za ?_)
  refine (KW.out _ _ _ _ hN (by simp)).mono ?_
  rintro r w6 ⟨v6, rfl, hP, hS⟩
  rw [List.nil_append] at hP
  have hbP : Below P w5 w6 := hS.toBelow hN
  have hT6 : Tab w6 := hT.below (hB.trans (hbP.mono hpk))
  replace hA : HdAt w6 w.heap.size h := below_has hbP hA hAl
  replace hB := hB.trans (hbP.mono hpk)
  have hPv : ∀ k, v6.ownBlock = some k → P < k := fun k hk => by have := hP.ownLt hk; omega
  clear KW hN hS hbP hT1
  go_upto_region 9 with fail
  have q1 := range_cls hA.range (by rw [z1]; omega)
  have hTr := hT6.grow
  refine wp_region_quiet_below (by kernel_rfl) (by kernel_rfl) ?_
  repeat (first
    | (go_big_quiet_want; (with_reducible refine quiet_hd_mid _ rfl w.heap.size 0 rfl h z1 q1 ?_); (simp only [Act.put, List.setIfInBounds_toArray, List.set_cons_zero, List.set_cons_succ]); go_big_quiet_on)
    | (go_big_quiet_want; (with_reducible refine quiet_hneq _ _ _ rfl _ _ _ rfl rfl qi ?_); (simp only [Act.put, List.setIfInBounds_toArray, List.set_cons_zero, List.set_cons_succ]); go_big_quiet_on)
    | go_big_quiet_step ((first | (go_at_call 13; exact Calls.regrown_of (KO.out _)) | (go_at_call 14; exact Calls.regrown_of (KI.out _ (hTr _ _))) | (go_at_call 15; exact Calls.regrown_of (KR.out _)))))
  refine wpQuiet_nil ?_
  intro _ hw'
  obtain ⟨p, hw''⟩ := hw'
  subst hw''
  have hb7 := below_regrown w6 p.d p.os
  replace hP := hP.below hb7
  replace hA := hA.on hb7
  replace hB := hB.trans (hb7.mono hB.size)
  clear q1 hTr KO KI KR qi hT6 hb7
  generalize Sort.grow (redrawn w6 p.d) p.os = w7 at *
  go_wp2_with fail
  refine (KT.out _ _ _ hP).mono ?_
  rintro r w8 ⟨rfl, rfl⟩
  go_wp2_with fail
  refine (KE.out _).mono ?_
  rintro r w9 ⟨rfl, hb9⟩
  replace hB := hB.trans (hb9.mono hB.size)
  go_wp2_with fail
  go_ret
  exact ⟨rfl, hB⟩
set_option maxRecDepth 100000 in
set_option maxHeartbeats 2000000 in
theorem hbytes_good (h : Hd) (ho : h.ok) (hp : h.P) (m : ByteArray) (hm : m.size ≤ 100) (w : World) (hT : Tab w) :
    Calls Tryd.prog 3 #[.agg (hdA h), .string m] w fun r w' => r = .returned (.bool true) ∧ Below w.heap.size w w' := by
  have t1 : decide ((100 : Int) < (m.size : Int)) = false := decide_eq_false (by omega)
  have za := hdA_size ho
  have z1 := hdC_length ho
  have CG := rgood_at h ho
  rw [decide_eq_true hp] at CG
  have KG := Lib.hid CG
  have CO := good_at h ho
  rw [decide_eq_true hp] at CO
  have KO := Lib.hid CO
  have KI := Lib.hid (fun w hT => id_at h ho w hT)
  have KR := Lib.hid (fun w => rid_at h ho w)
  have qi := hn_neq h.id h.id (id_length h) (id_length h) false (by simp)
  generalize bytesV h.id = ci at *
  have KW := Lib.hid (fun b v l w hP hsz => write_at b v l h ho w hP hsz)
  rw [Hd.wr_yes hp] at KW
  have KB := Lib.hid (bytes_yes h ho hp)
  have KE := Lib.hid (rbytes h ho)
  have KF := Lib.hid (of_80 h ho hp)
  have hsz := txt_size h.enc
  rw [Hd.enc_length ho] at hsz
  have hrd : Ey.header ⟨txt h.enc ++ m, false⟩ = (h, ⟨m, false⟩) := by
    have := header_enc hp ho m.data.toList
    rw [← txt_append, txt_of] at this
    exact this
  have KRD := Lib.hid (fun E w hE => read_at E ⟨txt h.enc ++ m, false⟩ w hE)
  rw [hrd] at KRD
  have KT := Lib.hid (fun b v w hP => text_txt b v h.enc w hP)
  have qe := hd_eql h h ho ho true (by simp)
  have hz0 := hdA_size hdZ_ok
  generalize txt h.enc = s at *
  have hsz2 : (s ++ m).size ≤ 180 := by rw [ByteArray.size_append]; omega
  clear CG CO hp ho hrd
  go_enter Tryd.func3, Tryd.ntmps3
  go_upto_region 1 with fail
  generalize hw1 : World.alloc _ _ = w1
  have hA : HdAt w1 w.heap.size h := by rw [← hw1]; exact hd_new w h
  have hB : Below w.heap.size w w1 := by rw [← hw1]; exact (Below.refl _ _).alloc (Nat.le_refl _) _
  clear hw1
  have hT1 := hT.below hB
  go_wp2_with fail
  refine (halive w1 hT1).mono ?_
  rintro r w2 ⟨rfl, hb2⟩
  replace hA := hA.on hb2
  replace hT1 := hT1.below hb2
  replace hB := hB.trans (hb2.mono hB.size)
  clear hb2
  go_wp2_with (with_reducible refine hd_load rfl _ rfl w.heap.size rfl hA za ?_)
  refine (KG.out _).mono ?_
  rintro r w3 ⟨rfl, hb2⟩
  replace hA := hA.on hb2
  replace hT1 := hT1.below hb2
  replace hB := hB.trans (hb2.mono hB.size)
  clear hb2 KG
  go_wp2_with (with_reducible refine hd_load rfl _ rfl w.heap.size rfl hA za ?_)
  refine (KB.out _).mono ?_
  rintro r w4 ⟨rfl, hb2⟩
  replace hA := hA.on hb2
  replace hT1 := hT1.below hb2
  replace hB := hB.trans (hb2.mono hB.size)
  clear hb2 KB
  go_upto_region 8 with fail
  have hN := pen_new w4
  have hpk : w.heap.size ≤ w4.heap.size := hB.size
  have hAl := hA.lt
  have hb3 : Below w4.heap.size w4 (w4.alloc (.cells #[.slice none 0 0] 34)) := (Below.refl _ _).alloc (Nat.le_refl _) _
  replace hB := hB.trans (hb3.mono hB.size)
  replace hA := hA.on hb3
  replace hT1 := hT1.below hb3
  generalize World.alloc _ _ = w5 at *
  generalize w4.heap.size = P at *
  clear hb3
  go_wp2_with (with_reducible refine hd_load rfl _ rfl w.heap.size rfl hA za ?_)
  refine (KW.out _ _ _ _ hN (by simp)).mono ?_
  rintro r w6 ⟨v6, rfl, hP, hS⟩
  rw [List.nil_append] at hP
  have hbP : Below P w5 w6 := hS.toBelow hN
  have hT6 : Tab w6 := hT.below (hB.trans (hbP.mono hpk))
  replace hA : HdAt w6 w.heap.size h := below_has hbP hA hAl
  replace hB := hB.trans (hbP.mono hpk)
  have hPv : ∀ k, v6.ownBlock = some k → P < k := fun k hk => by have := hP.ownLt hk; omega
  clear KW hN hS hbP hT1
  go_upto_region 9 with fail
  have q1 := range_cls hA.range (by rw [z1]; omega)
  have hTr := hT6.grow
  refine wp_region_quiet_below (by kernel_rfl) (by kernel_rfl) ?_
  repeat (first
    | (go_big_quiet_want; (with_reducible refine quiet_hd_mid _ rfl w.heap.size 0 rfl h z1 q1 ?_); (simp only [Act.put, List.setIfInBounds_toArray, List.set_cons_zero, List.set_cons_succ]); go_big_quiet_on)
    | (go_big_quiet_want; (with_reducible refine quiet_hneq _ _ _ rfl _ _ _ rfl rfl qi ?_); (simp only [Act.put, List.setIfInBounds_toArray, List.set_cons_zero, List.set_cons_succ]); go_big_quiet_on)
    | go_big_quiet_step ((first | (go_at_call 13; exact Calls.regrown_of (KO.out _)) | (go_at_call 14; exact Calls.regrown_of (KI.out _ (hTr _ _))) | (go_at_call 15; exact Calls.regrown_of (KR.out _)))))
  refine wpQuiet_nil ?_
  intro _ hw'
  obtain ⟨p, hw''⟩ := hw'
  subst hw''
  have hb7 := below_regrown w6 p.d p.os
  replace hP := hP.below hb7
  replace hA := hA.on hb7
  replace hB := hB.trans (hb7.mono hB.size)
  clear q1 hTr KO KI KR qi hT6 hb7
  generalize Sort.grow (redrawn w6 p.d) p.os = w7 at *
  go_wp2_with fail
  refine (KF.out w7).mono ?_
  rintro r w8 ⟨rfl, hb8⟩
  replace hP := hP.below hb8
  replace hA := hA.on hb8
  replace hB := hB.trans (hb8.mono hB.size)
  clear hb8 KF
  have hZ := hd_newz w8
  go_upto_region 14 with (with_reducible refine hd_store rfl _ _ rfl _ _ h rfl rfl rfl za hZ hz0 ?_)
  have hX : HdAt ((w8.alloc (.cells Tryd.zeroCells25 25)).setRow w8.heap.size (hdA h)) w8.heap.size h := Has.row hZ _
  have hb4 : Below w8.heap.size w8 ((w8.alloc (.cells Tryd.zeroCells25 25)).setRow w8.heap.size (hdA h)) := below_setRow ((Below.refl _ _).alloc (Nat.le_refl _) _) (Nat.le_refl _) _
  replace hP := hP.below hb4
  replace hA := hA.on hb4
  replace hB := hB.trans (hb4.mono hB.size)
  clear hZ hb4
  generalize World.setRow _ _ _ = w9 at *
  generalize w8.heap.size = X at *
  go_wp2_with fail
  refine (on_ (s ++ m) w9).mono ?_
  rintro r w10 ⟨rfl, hE, hb10⟩
  have hEl : w.heap.size ≤ w9.heap.size := hB.size
  have hAE := hA.lt
  have hXE := hX.lt
  have hPE := hP.lt
  have hvE : ∀ k, v6.ownBlock = some k → k < w9.heap.size := fun k hk => (hP.ownLt hk).2
  replace hP := hP.below hb10
  replace hA := hA.on hb10
  replace hX := hX.on hb10
  replace hB := hB.trans (hb10.mono hB.size)
  clear hb10
  generalize w9.heap.size = E at *
  go_wp2_with fail
  refine (KRD.out E w10 hE).mono ?_
  rintro r w11 ⟨rfl, hE11, hg11⟩
  have hb11 : Below E w10 w11 := gb_toBelow hg11 (Nat.le_refl _) (Nat.le_of_lt hE.lt)
  replace hA : HdAt w11 w.heap.size h := below_has hb11 hA hAE
  replace hX : HdAt w11 X h := below_has hb11 hX hXE
  replace hP : PenAt w11 P v6 h.enc := ⟨below_has hb11 hP.cell hPE, hP.own.kept hg11 (by
    cases hv : v6.ownBlock with
    | none => exact .inl rfl
    | some k => exact .inr (fun e => by have := hvE k hv; have := Option.some.inj e; omega))⟩
  replace hB := hB.trans (hb11.mono hEl)
  clear hg11 hb11 KRD hE
  have hZ := hd_newz w11
  go_upto_region 16 with (with_reducible refine hd_store rfl _ _ rfl _ _ h rfl rfl rfl za hZ hz0 ?_)
  have hY : HdAt ((w11.alloc (.cells Tryd.zeroCells25 25)).setRow w11.heap.size (hdA h)) w11.heap.size h := Has.row hZ _
  have hb4 : Below w11.heap.size w11 ((w11.alloc (.cells Tryd.zeroCells25 25)).setRow w11.heap.size (hdA h)) := below_setRow ((Below.refl _ _).alloc (Nat.le_refl _) _) (Nat.le_refl _) _
  replace hP := hP.below hb4
  replace hA := hA.on hb4
  replace hX := hX.on hb4
  replace hE11 := hE11.on hb4
  replace hB := hB.trans (hb4.mono hB.size)
  clear hZ hb4
  generalize World.setRow _ _ _ = w12 at *
  generalize w11.heap.size = Y at *
  go_wp2_with (with_reducible refine hd_load_g (by with_unfolding_all rfl) _ rfl w.heap.size rfl hA za ?_)
  refine (KE.out _).mono ?_
  rintro r w13 ⟨rfl, hb13⟩
  replace hP := hP.below hb13
  replace hA := hA.on hb13
  replace hX := hX.on hb13
  replace hY := hY.on hb13
  replace hE11 := hE11.on hb13
  replace hB := hB.trans (hb13.mono hB.size)
  clear hb13 KE
  go_wp2_with fail
  refine (KT.out _ _ _ hP).mono ?_
  rintro r w14 ⟨rfl, rfl⟩
  clear KT hP hPv hPE hvE
  go_wp2_with (first
    | (with_reducible refine hd_load_g (by with_unfolding_all rfl) _ rfl w.heap.size rfl hA za ?_)
    | (with_reducible refine hd_load_g (by with_unfolding_all rfl) _ rfl X rfl hX za ?_)
    | (with_reducible refine hd_load_g (by with_unfolding_all rfl) _ rfl Y rfl hY za ?_)
    | (with_reducible refine hdeql_g (by with_unfolding_all rfl) _ _ _ rfl _ _ _ rfl rfl qe ?_))
  refine (left_at E ⟨m, false⟩ _ hE11).mono ?_
  rintro r w15 ⟨rfl, rfl⟩
  go_wp2_with fail
  go_ret
  exact ⟨rfl, hB⟩
theorem hbytes_walk (h : Hd) (ho : h.ok) (m : ByteArray) (w : World) (hT : Tab w) :
    Calls Tryd.prog 3 #[.agg (hdA h), .string m] w fun r w' => r = .returned (.bool true) ∧ Below w.heap.size w w' := by
  by_cases hm : 100 < m.size
  · exact hbytes_long h m hm w hT
  · by_cases hp : h.P
    · exact hbytes_good h ho hp m (by omega) w hT
    · exact hbytes_bad h ho hp m (by omega) w hT
end Go.Proofs.YtfnicmmebphpkaaDoor
