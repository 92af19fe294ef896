/-
  EnvelopeBytes: the walk.
-/
import Derived.Test.YtggnnlefalcplaaDoorEvAlive
namespace Go.Proofs.YtggnnlefalcplaaDoor
open Go.RowKit Mem Sc Sha
theorem u64_range (z : Int) : 0 ≤ IntKind.u64.wrap z ∧ IntKind.u64.wrap z < 18446744073709551616 := by
  rw [IntKind.wrap_u64]; omega
set_option maxRecDepth 100000 in
set_option maxHeartbeats 2000000 in
theorem lebytes_p (v : Ev) (m : ByteArray) (cut : Int) (hp : 32768 < v.p.size) (w : World) (hT : Tab w) :
    Calls Tryd.prog 3 #[.agg (evA v), .string m, .int .i64 cut] w fun r w' => r = .returned (.bool true) ∧ Below w.heap.size w w' := by
  have t1 : decide ((32768 : Int) < (v.p.size : Int)) = true := decide_eq_true (by omega)
  clear hp
  go_enter Tryd.func3, Tryd.ntmps3
  go_upto_region 1 with fail
  generalize hw1 : World.alloc _ _ = w1
  have hA : EvAt w1 w.heap.size v := by rw [← hw1]; exact ev_new w v
  have hB : Below w.heap.size w w1 := by rw [← hw1]; exact (Below.refl _ _).alloc (Nat.le_refl _) _
  clear hw1
  go_wp2_with (first
    | (with_reducible refine ev_load rfl _ rfl w.heap.size rfl hA ?_)
    | (with_reducible refine ev_load_g (by with_unfolding_all rfl) _ rfl w.heap.size rfl hA ?_))
  refine (ealive w1 (hT.below hB)).mono ?_
  rintro r w2 ⟨rfl, hb2⟩
  replace hA := hA.on hb2
  replace hB := hB.trans (hb2.mono hB.size)
  clear hb2
  have a0 := hA.c0
  have a1 := hA.c1
  go_wp2_with (first
    | (with_reducible refine ev_load rfl _ rfl w.heap.size rfl hA ?_)
    | (with_reducible refine ev_load_g (by with_unfolding_all rfl) _ rfl w.heap.size rfl hA ?_))
  go_ret
  exact ⟨rfl, hB⟩
set_option maxRecDepth 100000 in
set_option maxHeartbeats 2000000 in
theorem lebytes_w (v : Ev) (m : ByteArray) (cut : Int) (hp : ¬ 32768 < v.p.size) (hw : 100 < v.w.size) (w : World) (hT : Tab w) :
    Calls Tryd.prog 3 #[.agg (evA v), .string m, .int .i64 cut] w fun r w' => r = .returned (.bool true) ∧ Below w.heap.size w w' := by
  have t1 : decide ((32768 : Int) < (v.p.size : Int)) = false := decide_eq_false (by omega)
  have t2 : decide ((100 : Int) < (v.w.size : Int)) = true := decide_eq_true (by omega)
  clear hp hw
  go_enter Tryd.func3, Tryd.ntmps3
  go_upto_region 1 with fail
  generalize hw1 : World.alloc _ _ = w1
  have hA : EvAt w1 w.heap.size v := by rw [← hw1]; exact ev_new w v
  have hB : Below w.heap.size w w1 := by rw [← hw1]; exact (Below.refl _ _).alloc (Nat.le_refl _) _
  clear hw1
  go_wp2_with (first
    | (with_reducible refine ev_load rfl _ rfl w.heap.size rfl hA ?_)
    | (with_reducible refine ev_load_g (by with_unfolding_all rfl) _ rfl w.heap.size rfl hA ?_))
  refine (ealive w1 (hT.below hB)).mono ?_
  rintro r w2 ⟨rfl, hb2⟩
  replace hA := hA.on hb2
  replace hB := hB.trans (hb2.mono hB.size)
  clear hb2
  have a0 := hA.c0
  have a1 := hA.c1
  go_wp2_with (first
    | (with_reducible refine ev_load rfl _ rfl w.heap.size rfl hA ?_)
    | (with_reducible refine ev_load_g (by with_unfolding_all rfl) _ rfl w.heap.size rfl hA ?_))
  go_ret
  exact ⟨rfl, hB⟩
set_option maxRecDepth 100000 in
set_option maxHeartbeats 2000000 in
theorem lebytes_m (v : Ev) (m : ByteArray) (cut : Int) (hp : ¬ 32768 < v.p.size) (hw : ¬ 100 < v.w.size) (hm : 100 < m.size) (w : World) (hT : Tab w) :
    Calls Tryd.prog 3 #[.agg (evA v), .string m, .int .i64 cut] w fun r w' => r = .returned (.bool true) ∧ Below w.heap.size w w' := by
  have t1 : decide ((32768 : Int) < (v.p.size : Int)) = false := decide_eq_false (by omega)
  have t2 : decide ((100 : Int) < (v.w.size : Int)) = false := decide_eq_false (by omega)
  have t3 : decide ((100 : Int) < (m.size : Int)) = true := decide_eq_true (by omega)
  clear hp hw hm
  go_enter Tryd.func3, Tryd.ntmps3
  go_upto_region 1 with fail
  generalize hw1 : World.alloc _ _ = w1
  have hA : EvAt w1 w.heap.size v := by rw [← hw1]; exact ev_new w v
  have hB : Below w.heap.size w w1 := by rw [← hw1]; exact (Below.refl _ _).alloc (Nat.le_refl _) _
  clear hw1
  go_wp2_with (first
    | (with_reducible refine ev_load rfl _ rfl w.heap.size rfl hA ?_)
    | (with_reducible refine ev_load_g (by with_unfolding_all rfl) _ rfl w.heap.size rfl hA ?_))
  refine (ealive w1 (hT.below hB)).mono ?_
  rintro r w2 ⟨rfl, hb2⟩
  replace hA := hA.on hb2
  replace hB := hB.trans (hb2.mono hB.size)
  clear hb2
  have a0 := hA.c0
  have a1 := hA.c1
  go_wp2_with (first
    | (with_reducible refine ev_load rfl _ rfl w.heap.size rfl hA ?_)
    | (with_reducible refine ev_load_g (by with_unfolding_all rfl) _ rfl w.heap.size rfl hA ?_))
  go_ret
  exact ⟨rfl, hB⟩
set_option maxRecDepth 100000 in
set_option maxHeartbeats 2000000 in
theorem lebytes_no (v : Ev) (m : ByteArray) (cut : Int) (hp : ¬ 32768 < v.p.size) (hw : ¬ 100 < v.w.size) (hm : ¬ 100 < m.size) (hv : ¬ v.P) (w : World) (hT : Tab w) :
    Calls Tryd.prog 3 #[.agg (evA v), .string m, .int .i64 cut] w fun r w' => r = .returned (.bool true) ∧ Below w.heap.size w w' := by
  have t1 : decide ((32768 : Int) < (v.p.size : Int)) = false := decide_eq_false (by omega)
  have t2 : decide ((100 : Int) < (v.w.size : Int)) = false := decide_eq_false (by omega)
  have t3 : decide ((100 : Int) < (m.size : Int)) = false := decide_eq_false (by omega)
  have KB := Lib.hid (fun w => ebytes_no v hv w)
  have KG := Lib.hid (evgood_at v false (decide_eq_false hv))
  have KL := Lib.hid (lgood_at v false (decide_eq_false hv))
  have HE : Hid (E0 = ⟨#[]⟩) := Lib.hid rfl
  rw [HE.out] at KB
  have q0 : ((⟨#[]⟩ : ByteArray).toList.isEmpty) = true := by rw [ByteArray.toList_eq]; rfl
  clear hp hw hm hv
  go_enter Tryd.func3, Tryd.ntmps3
  go_upto_region 1 with fail
  generalize hw1 : World.alloc _ _ = w1
  have hA : EvAt w1 w.heap.size v := by rw [← hw1]; exact ev_new w v
  have hB : Below w.heap.size w w1 := by rw [← hw1]; exact (Below.refl _ _).alloc (Nat.le_refl _) _
  clear hw1
  go_wp2_with (first
    | (with_reducible refine ev_load rfl _ rfl w.heap.size rfl hA ?_)
    | (with_reducible refine ev_load_g (by with_unfolding_all rfl) _ rfl w.heap.size rfl hA ?_))
  refine (ealive w1 (hT.below hB)).mono ?_
  rintro r w2 ⟨rfl, hb2⟩
  replace hA := hA.on hb2
  replace hB := hB.trans (hb2.mono hB.size)
  clear hb2
  have a0 := hA.c0
  have a1 := hA.c1
  go_wp2_with (first
    | (with_reducible refine ev_load rfl _ rfl w.heap.size rfl hA ?_)
    | (with_reducible refine ev_load_g (by with_unfolding_all rfl) _ rfl w.heap.size rfl hA ?_))
  refine (KB.out w2).mono ?_
  rintro r w3 ⟨rfl, hb2⟩
  replace hA := hA.on hb2
  replace hB := hB.trans (hb2.mono hB.size)
  clear hb2
  clear a0 a1 KB
  have q1 := range_cls hA.range (by simp [evC])
  go_wp2_with fail
  refine wp_region_quiet_below (by kernel_rfl) (by kernel_rfl) ?_
  repeat (first
    | (go_big_quiet_want; (with_reducible refine quiet_ev_mid _ rfl w.heap.size 0 rfl v q1 ?_); (simp only [Act.put, List.setIfInBounds_toArray, List.set_cons_zero, List.set_cons_succ]); go_big_quiet_on)
    | go_big_quiet_step (first | (go_at_call 10; exact Calls.regrown_of (KG.out _)) | (go_at_call 11; exact Calls.regrown_of (KL.out _))))
  refine wpQuiet_nil ?_
  intro _ hw'
  obtain ⟨p, hw''⟩ := hw'
  subst hw''
  have hb4 := below_regrown w3 p.d p.os
  replace hA := hA.on hb4
  replace hB := hB.trans (hb4.mono hB.size)
  clear q1 hb4 KG
  generalize Sort.grow (redrawn w3 p.d) p.os = w4 at *
  go_wp2_with (first
    | (with_reducible refine ev_load rfl _ rfl w.heap.size rfl hA ?_)
    | (with_reducible refine ev_load_g (by with_unfolding_all rfl) _ rfl w.heap.size rfl hA ?_))
  refine (KL.out w4).mono ?_
  rintro r w5 ⟨rfl, hb2⟩
  replace hA := hA.on hb2
  replace hB := hB.trans (hb2.mono hB.size)
  clear hb2
  clear KL
  go_wp2_with fail
  go_ret
  exact ⟨rfl, hB⟩
set_option maxRecDepth 100000 in
set_option maxHeartbeats 2000000 in
theorem lebytes_yes (v : Ev) (m : ByteArray) (cut : Int) (hp : ¬ 32768 < v.p.size) (hw : ¬ 100 < v.w.size) (hm : ¬ 100 < m.size) (hv : v.P) (w : World) (hT : Tab w) :
    Calls Tryd.prog 3 #[.agg (evA v), .string m, .int .i64 cut] w fun r w' => r = .returned (.bool true) ∧ Below w.heap.size w w' := by
  have t1 : decide ((32768 : Int) < (v.p.size : Int)) = false := decide_eq_false (by omega)
  have t2 : decide ((100 : Int) < (v.w.size : Int)) = false := decide_eq_false (by omega)
  have t3 : decide ((100 : Int) < (m.size : Int)) = false := decide_eq_false (by omega)
  have KB := Lib.hid (fun w hT => ebytes_yes v hv w hT)
  have KG := Lib.hid (evgood_at v true (decide_eq_true hv))
  have KL := Lib.hid (lgood_at v true (decide_eq_true hv))
  have hvp : v.p.size ≤ 16384 := hv.2
  have hel := Ev.enc_length hv
  have zs := txt_size v.enc
  -- with more behind
  have KT : ∀ w, Tab w → Calls Tryd.prog 12 #[.string (txt v.enc ++ m)] w fun e w' => e = .returned (.tuple #[.agg (evA v), .int .i64 ((txt v.enc).size : Nat), .int .i64 0]) ∧ Below w.heap.size w w' := fun w hT => by
    have e : txt v.enc ++ m = txt (v.enc ++ m.data.toList) := by
      have := txt_append v.enc m.data.toList
      rwa [txt_of] at this
    have := etake_at (v.enc ++ m.data.toList) (by rw [List.length_append, ← Lib.size_eq]; omega) w hT
    rw [tk_enc hv] at this
    rw [e, zs]
    exact this
  -- a beginning
  obtain ⟨u, hu⟩ : ∃ u : Nat, u = (IntKind.u64.wrap cut).toNat := ⟨_, rfl⟩
  have hu0 := u64_range cut
  have g1 : IntKind.u64.wrap cut = (u : Int) := by omega
  have hul : u < 18446744073709551616 := by omega
  obtain ⟨n, hn⟩ : ∃ n : Nat, n = (txt v.enc).size := ⟨_, rfl⟩
  have hn24 : 24 ≤ n ∧ n ≤ 20000 := by omega
  obtain ⟨k, hk⟩ : ∃ k : Nat, k = u % n := ⟨_, rfl⟩
  have hkn : k < n := by rw [hk]; exact Nat.mod_lt _ (by omega)
  have g2 : IntKind.u64.wrap ((txt v.enc).size : Int) = (n : Int) := by rw [IntKind.wrap_u64]; omega
  have g3 : (u : Int) % (n : Int) = (k : Int) := by rw [hk]; rfl
  have g4 : (u : Int).tmod (n : Int) = (k : Int) := by rw [Int.tmod_eq_emod_of_nonneg (by omega)]; exact g3
  have g5 : IntKind.i64.wrap (k : Int) = (k : Int) := IntWalk.i64_in _ (by omega)
  have g6 : IntKind.u64.wrap (k : Int) = (k : Int) := by rw [IntKind.wrap_u64]; omega
  have g7 : (n : Int) ≠ 0 := by omega
  have g8 : (k : Int) ≤ ((txt v.enc).size : Int) := by omega
  have m1 : (txt v.enc).extract 0 k = txt (v.enc.take k) := txt_to _ _ (by omega)
  have KC : ∀ w, Tab w → Calls Tryd.prog 12 #[.string (txt (v.enc.take k))] w fun e w' => e = .returned (.tuple #[.agg (evA evZ), .int .i64 0, .int .i64 7]) ∧ Below w.heap.size w w' := fun w hT => by
    have := etake_at (v.enc.take k) (by rw [List.length_take]; omega) w hT
    rw [tk_begin hv k (by omega)] at this
    exact this
  have KR : ∀ w, Calls Tryd.prog 13 #[.string v.w, .string v.p] w fun e w' => e = .returned (.string (txt v.enc)) ∧ Below w.heap.size w w' := fun w => by
    have := rbytes7 v.w.data.toList v.p.data.toList (goodW_len hv.1).2.1 (by rw [← Lib.size_eq]; omega) w
    rw [txt_of, txt_of] at this
    exact this
  have qe := ev_eql v v true (decide_eq_true rfl)
  have z1 : (txt v.enc).size ≤ 20000 := by omega
  have z2 : m.size ≤ 100 := by omega
  have HT := Lib.hid KT
  have HC := Lib.hid KC
  have HR := Lib.hid KR
  clear KT KC KR zs hel hvp hu hu0 hn hn24 hk hkn hul
  generalize txt (v.enc.take k) = sk at *
  generalize txt v.enc = s at *
  clear hp hw hm hv
  go_enter Tryd.func3, Tryd.ntmps3
  go_upto_region 1 with fail
  generalize hw1 : World.alloc _ _ = w1
  have hA : EvAt w1 w.heap.size v := by rw [← hw1]; exact ev_new w v
  have hB : Below w.heap.size w w1 := by rw [← hw1]; exact (Below.refl _ _).alloc (Nat.le_refl _) _
  clear hw1
  go_wp2_with (first
    | (with_reducible refine ev_load rfl _ rfl w.heap.size rfl hA ?_)
    | (with_reducible refine ev_load_g (by with_unfolding_all rfl) _ rfl w.heap.size rfl hA ?_))
  refine (ealive w1 (hT.below hB)).mono ?_
  rintro r w2 ⟨rfl, hb2⟩
  replace hA := hA.on hb2
  replace hB := hB.trans (hb2.mono hB.size)
  clear hb2
  have a0 := hA.c0
  have a1 := hA.c1
  go_wp2_with (first
    | (with_reducible refine ev_load rfl _ rfl w.heap.size rfl hA ?_)
    | (with_reducible refine ev_load_g (by with_unfolding_all rfl) _ rfl w.heap.size rfl hA ?_))
  refine (KB.out w2 (hT.below hB)).mono ?_
  rintro r w3 ⟨rfl, hb2⟩
  replace hA := hA.on hb2
  replace hB := hB.trans (hb2.mono hB.size)
  clear hb2
  clear a0 a1 KB
  have q1 := range_cls hA.range (by simp [evC])
  go_wp2_with fail
  refine wp_region_quiet_below (by kernel_rfl) (by kernel_rfl) ?_
  repeat (first
    | (go_big_quiet_want; (with_reducible refine quiet_ev_mid _ rfl w.heap.size 0 rfl v q1 ?_); (simp only [Act.put, List.setIfInBounds_toArray, List.set_cons_zero, List.set_cons_succ]); go_big_quiet_on)
    | go_big_quiet_step (first | (go_at_call 10; exact Calls.regrown_of (KG.out _)) | (go_at_call 11; exact Calls.regrown_of (KL.out _))))
  refine wpQuiet_nil ?_
  intro _ hw'
  obtain ⟨p, hw''⟩ := hw'
  subst hw''
  have hb4 := below_regrown w3 p.d p.os
  replace hA := hA.on hb4
  replace hB := hB.trans (hb4.mono hB.size)
  clear q1 hb4 KG
  generalize Sort.grow (redrawn w3 p.d) p.os = w4 at *
  go_wp2_with (first
    | (with_reducible refine ev_load rfl _ rfl w.heap.size rfl hA ?_)
    | (with_reducible refine ev_load_g (by with_unfolding_all rfl) _ rfl w.heap.size rfl hA ?_))
  refine (KL.out w4).mono ?_
  rintro r w5 ⟨rfl, hb2⟩
  replace hA := hA.on hb2
  replace hB := hB.trans (hb2.mono hB.size)
  clear hb2
  clear KL
  go_wp2_with fail
  refine (HT.out w5 (hT.below hB)).mono ?_
  rintro r w6 ⟨rfl, hb6⟩
  replace hA := hA.on hb6
  replace hB := hB.trans (hb6.mono hB.size)
  clear hb6 HT
  have hZ := ev_newz w6
  go_upto_region 11 with (with_reducible refine ev_store rfl _ _ rfl _ _ v rfl rfl rfl hZ ?_)
  have hX : EvAt ((w6.alloc (.cells #[.string ⟨#[]⟩, .string ⟨#[]⟩] 23)).setRow w6.heap.size (evA v)) w6.heap.size v := Has.row hZ _
  have hb7 : Below w6.heap.size w6 ((w6.alloc (.cells #[.string ⟨#[]⟩, .string ⟨#[]⟩] 23)).setRow w6.heap.size (evA v)) := below_setRow ((Below.refl _ _).alloc (Nat.le_refl _) _) (Nat.le_refl _) _
  replace hA := hA.on hb7
  replace hB := hB.trans (hb7.mono hB.size)
  clear hZ hb7
  generalize World.setRow _ _ _ = w7 at *
  generalize w6.heap.size = X at *
  go_wp2_with fail
  refine (HC.out w7 (hT.below hB)).mono ?_
  rintro r w8 ⟨rfl, hb8⟩
  replace hA := hA.on hb8
  replace hX := hX.on hb8
  replace hB := hB.trans (hb8.mono hB.size)
  clear hb8 HC
  have hZ := ev_newz w8
  go_upto_region 12 with (with_reducible refine ev_store rfl _ _ rfl _ _ evZ rfl rfl rfl hZ ?_)
  have hb9 : Below w8.heap.size w8 ((w8.alloc (.cells #[.string ⟨#[]⟩, .string ⟨#[]⟩] 23)).setRow w8.heap.size (evA evZ)) := below_setRow ((Below.refl _ _).alloc (Nat.le_refl _) _) (Nat.le_refl _) _
  replace hA := hA.on hb9
  replace hX := hX.on hb9
  replace hB := hB.trans (hb9.mono hB.size)
  clear hZ hb9
  generalize World.setRow _ _ _ = w9 at *
  have a0 := hA.c0
  have a1 := hA.c1
  go_wp2_with fail
  refine (HR.out w9).mono ?_
  rintro r w10 ⟨rfl, hb10⟩
  replace hA := hA.on hb10
  replace hX := hX.on hb10
  replace hB := hB.trans (hb10.mono hB.size)
  clear hb10 HR a0 a1
  go_wp2_with (first
    | (with_reducible refine ev_load_g (by with_unfolding_all rfl) _ rfl w.heap.size rfl hA ?_)
    | (with_reducible refine ev_load_g (by with_unfolding_all rfl) _ rfl X rfl hX ?_)
    | (with_reducible refine eveql_g (by with_unfolding_all rfl) _ _ _ rfl _ _ _ rfl rfl qe ?_))
  go_ret
  exact ⟨rfl, hB⟩
theorem ebytes_walk (v : Ev) (m : ByteArray) (cut : Int) (w : World) (hT : Tab w) :
    Calls Tryd.prog 3 #[.agg (evA v), .string m, .int .i64 cut] w fun r w' => r = .returned (.bool true) ∧ Below w.heap.size w w' := by
  by_cases hp : 32768 < v.p.size
  · exact lebytes_p v m cut hp w hT
  by_cases hw : 100 < v.w.size
  · exact lebytes_w v m cut hp hw w hT
  by_cases hm : 100 < m.size
  · exact lebytes_m v m cut hp hw hm w hT
  by_cases hv : v.P
  · exact lebytes_yes v m cut hp hw hm hv w hT
  · exact lebytes_no v m cut hp hw hm hv w hT
end Go.Proofs.YtggnnlefalcplaaDoor
