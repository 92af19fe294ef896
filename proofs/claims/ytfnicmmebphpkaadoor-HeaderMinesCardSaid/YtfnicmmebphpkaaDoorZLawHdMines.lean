/-
  HeaderMines: the walk.
-/
import Derived.Test.YtfnicmmebphpkaaDoorZLawHdSeeks
namespace Go.Proofs.YtfnicmmebphpkaaDoor
open Go.RowKit Mem Sc
set_option maxRecDepth 100000 in
set_option maxHeartbeats 2000000 in
theorem hmines_a (h : Hd) (_ : h.ok) (tries more : Int) (h1 : 40 < tries) (w : World) (hT : Tab w) :
    Calls Tryd.prog 8 #[.agg (hdA h), .int .i64 tries, .int .i64 more] w fun r w' => r = .returned (.bool true) ∧ Below w.heap.size w w' := by
  have t1 : decide (40 < tries) = true := decide_eq_true h1
  clear h1
  go_enter Tryd.func8, Tryd.ntmps8
  go_upto_region 1 with fail
  generalize hw1 : World.alloc _ _ = w1
  have hH : HdAt w1 w.heap.size h := by rw [← hw1]; exact hd_new w h
  have hB : Below w.heap.size w w1 := by rw [← hw1]; exact (Below.refl _ _).alloc (Nat.le_refl _) _
  clear hw1
  have hT1 := hT.below hB
  go_wp2_with fail
  refine (halive w1 hT1).mono ?_
  rintro r w2 ⟨rfl, hb2⟩
  replace hH := hH.on hb2
  replace hT1 := hT1.below hb2
  replace hB := hB.trans (hb2.mono hB.size)
  clear hb2
  go_wp2_with fail
  go_ret
  exact ⟨rfl, hB⟩
set_option maxRecDepth 100000 in
set_option maxHeartbeats 2000000 in
theorem hmines_b (h : Hd) (_ : h.ok) (tries more : Int) (h1 : ¬ 40 < tries) (h2 : more < 0) (w : World) (hT : Tab w) :
    Calls Tryd.prog 8 #[.agg (hdA h), .int .i64 tries, .int .i64 more] w fun r w' => r = .returned (.bool true) ∧ Below w.heap.size w w' := by
  have t1 : decide (40 < tries) = false := decide_eq_false h1
  have t2 : decide (more < 0) = true := decide_eq_true h2
  clear h1 h2
  go_enter Tryd.func8, Tryd.ntmps8
  go_upto_region 1 with fail
  generalize hw1 : World.alloc _ _ = w1
  have hH : HdAt w1 w.heap.size h := by rw [← hw1]; exact hd_new w h
  have hB : Below w.heap.size w w1 := by rw [← hw1]; exact (Below.refl _ _).alloc (Nat.le_refl _) _
  clear hw1
  have hT1 := hT.below hB
  go_wp2_with fail
  refine (halive w1 hT1).mono ?_
  rintro r w2 ⟨rfl, hb2⟩
  replace hH := hH.on hb2
  replace hT1 := hT1.below hb2
  replace hB := hB.trans (hb2.mono hB.size)
  clear hb2
  go_wp2_with fail
  go_ret
  exact ⟨rfl, hB⟩
set_option maxRecDepth 100000 in
set_option maxHeartbeats 2000000 in
theorem hmines_c (h : Hd) (_ : h.ok) (tries more : Int) (h1 : ¬ 40 < tries) (h2 : ¬ more < 0) (h3 : 40 < more) (w : World) (hT : Tab w) :
    Calls Tryd.prog 8 #[.agg (hdA h), .int .i64 tries, .int .i64 more] w fun r w' => r = .returned (.bool true) ∧ Below w.heap.size w w' := by
  have t1 : decide (40 < tries) = false := decide_eq_false h1
  have t2 : decide (more < 0) = false := decide_eq_false h2
  have t3 : decide (40 < more) = true := decide_eq_true h3
  clear h1 h2 h3
  go_enter Tryd.func8, Tryd.ntmps8
  go_upto_region 1 with fail
  generalize hw1 : World.alloc _ _ = w1
  have hH : HdAt w1 w.heap.size h := by rw [← hw1]; exact hd_new w h
  have hB : Below w.heap.size w w1 := by rw [← hw1]; exact (Below.refl _ _).alloc (Nat.le_refl _) _
  clear hw1
  have hT1 := hT.below hB
  go_wp2_with fail
  refine (halive w1 hT1).mono ?_
  rintro r w2 ⟨rfl, hb2⟩
  replace hH := hH.on hb2
  replace hT1 := hT1.below hb2
  replace hB := hB.trans (hb2.mono hB.size)
  clear hb2
  go_wp2_with fail
  go_ret
  exact ⟨rfl, hB⟩
set_option maxRecDepth 100000 in
set_option maxHeartbeats 2000000 in
theorem hmines_none (h : Hd) (ho : h.ok) (tries more : Int) (h1 : ¬ 40 < tries) (h2 : ¬ more < 0) (h3 : ¬ 40 < more) (x : Hd) (ox : x.ok) (KS : Hid (∀ w, Tab w → Calls Tryd.prog 23 #[.agg (hdA h), .int .i64 tries] w fun r w' => r = .returned (.tuple #[.agg (hdA x), .bool false]) ∧ Below w.heap.size w w')) (w : World) (hT : Tab w) :
    Calls Tryd.prog 8 #[.agg (hdA h), .int .i64 tries, .int .i64 more] w fun r w' => r = .returned (.bool true) ∧ Below w.heap.size w w' := by
  have t1 : decide (40 < tries) = false := decide_eq_false h1
  have t2 : decide (more < 0) = false := decide_eq_false h2
  have t3 : decide (40 < more) = false := decide_eq_false h3
  have za := hdA_size ho
  have hz0 := hdA_size hdZ_ok
  have zx := hdA_size ox
  clear h1 h2 h3 ho ox
  go_enter Tryd.func8, Tryd.ntmps8
  go_upto_region 1 with fail
  generalize hw1 : World.alloc _ _ = w1
  have hH : HdAt w1 w.heap.size h := by rw [← hw1]; exact hd_new w h
  have hB : Below w.heap.size w w1 := by rw [← hw1]; exact (Below.refl _ _).alloc (Nat.le_refl _) _
  clear hw1
  have hT1 := hT.below hB
  go_wp2_with fail
  refine (halive w1 hT1).mono ?_
  rintro r w2 ⟨rfl, hb2⟩
  replace hH := hH.on hb2
  replace hT1 := hT1.below hb2
  replace hB := hB.trans (hb2.mono hB.size)
  clear hb2
  go_wp2_with (with_reducible refine hd_load rfl _ rfl w.heap.size rfl hH za ?_)
  refine (KS.out w2 hT1).mono ?_
  rintro r w3 ⟨rfl, hb2⟩
  replace hH := hH.on hb2
  replace hB := hB.trans (hb2.mono hB.size)
  clear hb2 KS hT1
  have hZ := hd_newz w3
  go_upto_region 6 with (with_reducible refine hd_store rfl _ _ rfl _ _ x rfl rfl rfl zx hZ hz0 ?_)
  have hX : HdAt ((w3.alloc (.cells Tryd.zeroCells25 25)).setRow w3.heap.size (hdA x)) w3.heap.size x := Has.row hZ _
  have hb4 : Below w3.heap.size w3 ((w3.alloc (.cells Tryd.zeroCells25 25)).setRow w3.heap.size (hdA x)) := below_setRow ((Below.refl _ _).alloc (Nat.le_refl _) _) (Nat.le_refl _) _
  have hlX : w.heap.size < w3.heap.size := hH.lt
  replace hH := hH.on hb4
  replace hB := hB.trans (hb4.mono hB.size)
  clear hZ hb4
  generalize World.setRow _ _ _ = w3b at *
  generalize w3.heap.size = X at *
  go_wp2_with fail
  go_ret
  exact ⟨rfl, hB⟩
set_option maxRecDepth 100000 in
set_option maxHeartbeats 2000000 in
theorem hmines_found (h : Hd) (ho : h.ok) (tries more : Int) (l1 : -9223372036854775808 ≤ tries) (h1 : ¬ 40 < tries) (h2 : ¬ more < 0) (h3 : ¬ 40 < more) (hg : h.P ∧ NN.Nm.decLow h.bits.toNat = false ∧ NN.Nm.decOver h.bits.toNat = false) (K : Nat) (hK : (K : Int) < tries) (hm : ¬ h.above K) (hall : ∀ j, j < K → h.above j) (w : World) (hT : Tab w) :
    Calls Tryd.prog 8 #[.agg (hdA h), .int .i64 tries, .int .i64 more] w fun r w' => r = .returned (.bool true) ∧ Below w.heap.size w w' := by
  have t1 : decide (40 < tries) = false := decide_eq_false h1
  have t2 : decide (more < 0) = false := decide_eq_false h2
  have t3 : decide (40 < more) = false := decide_eq_false h3
  have za := hdA_size ho
  have hz0 := hdA_size hdZ_ok
  have HO := Lib.hid ho
  have HP := Lib.hid hg.1
  have CD := (decode_hd h hg.1).2
  rw [hg.2.1, hg.2.2] at CD
  have KD := Lib.hid CD
  have CS := fun w hT => seek_found h ho hg tries (by omega) K hK hm hall w hT
  have CS2 := fun w hT => seek_found h ho hg (tries + more) (by omega) K (by omega) hm hall w hT
  obtain ⟨sm, hsm⟩ : ∃ sm, sm = tries + more := ⟨_, rfl⟩
  have e0 : IntKind.i64.wrap (tries + more) = sm := by rw [hsm, IntKind.wrap_i64]; omega
  rw [← hsm] at CS2
  have hsame := Hd.at_same h K
  have ox := Hd.at_ok ho K
  have hM := hm
  unfold Hd.above at hM
  have hzb := tgt_lt h
  have KL := Lib.hid (less_of h.tgt (numOf (h.at K).id) hzb (numOf_lt _) false (decide_eq_false hM))
  obtain ⟨x, hx⟩ : ∃ x, x = h.at K := ⟨_, rfl⟩
  rw [← hx] at CS CS2 hsame ox KL
  obtain ⟨z, hz⟩ : ∃ z, z = h.tgt := ⟨_, rfl⟩
  rw [← hz] at KD KL
  have KS := Lib.hid CS
  have KS2 := Lib.hid CS2
  have OX := Lib.hid ox
  have HSAME := Lib.hid hsame
  have zx := hdA_size ox
  have cx := hdC_length ox
  have ch := hdC_length ho
  have qe1 := hd_eql x x ox ox true (by simp)
  have qe2 := hd_eql h h ho ho true (by simp)
  have KI := Lib.hid (fun w => rid_at x ox w)
  have KN := Lib.hid (fun w => number_of x.id (id_length _) w)
  generalize numOf x.id = nm at *
  generalize bytesV x.id = ci at *
  clear CD CS CS2 hg hK hm hall hM hx hz h1 h2 h3 hsame ox ho hsm
  go_enter Tryd.func8, Tryd.ntmps8
  go_upto_region 1 with fail
  generalize hw1 : World.alloc _ _ = w1
  have hH : HdAt w1 w.heap.size h := by rw [← hw1]; exact hd_new w h
  have hB : Below w.heap.size w w1 := by rw [← hw1]; exact (Below.refl _ _).alloc (Nat.le_refl _) _
  clear hw1
  have hT1 := hT.below hB
  go_wp2_with fail
  refine (halive w1 hT1).mono ?_
  rintro r w2 ⟨rfl, hb2⟩
  replace hH := hH.on hb2
  replace hT1 := hT1.below hb2
  replace hB := hB.trans (hb2.mono hB.size)
  clear hb2
  go_wp2_with (with_reducible refine hd_load rfl _ rfl w.heap.size rfl hH za ?_)
  refine (KS.out w2 hT1).mono ?_
  rintro r w3 ⟨rfl, hb2⟩
  replace hH := hH.on hb2
  replace hB := hB.trans (hb2.mono hB.size)
  clear hb2 KS hT1
  have hZ := hd_newz w3
  go_upto_region 6 with (with_reducible refine hd_store rfl _ _ rfl _ _ x rfl rfl rfl zx hZ hz0 ?_)
  have hX : HdAt ((w3.alloc (.cells Tryd.zeroCells25 25)).setRow w3.heap.size (hdA x)) w3.heap.size x := Has.row hZ _
  have hb4 : Below w3.heap.size w3 ((w3.alloc (.cells Tryd.zeroCells25 25)).setRow w3.heap.size (hdA x)) := below_setRow ((Below.refl _ _).alloc (Nat.le_refl _) _) (Nat.le_refl _) _
  have hlX : w.heap.size < w3.heap.size := hH.lt
  replace hH := hH.on hb4
  replace hB := hB.trans (hb4.mono hB.size)
  clear hZ hb4
  generalize World.setRow _ _ _ = w3b at *
  generalize w3.heap.size = X at *
  have hT4 := hT.below hB
  go_wp2_with (with_reducible refine hd_load rfl _ rfl w.heap.size rfl hH za ?_)
  refine (KS2.out w3b hT4).mono ?_
  rintro r w5 ⟨rfl, hb2⟩
  replace hH := hH.on hb2
  replace hX := hX.on hb2
  replace hB := hB.trans (hb2.mono hB.size)
  clear hb2 KS2 hT4
  have hZ := hd_newz w5
  go_upto_region 9 with (with_reducible refine hd_store rfl _ _ rfl _ _ x rfl rfl rfl zx hZ hz0 ?_)
  have hY : HdAt ((w5.alloc (.cells Tryd.zeroCells25 25)).setRow w5.heap.size (hdA x)) w5.heap.size x := Has.row hZ _
  have hb4 : Below w5.heap.size w5 ((w5.alloc (.cells Tryd.zeroCells25 25)).setRow w5.heap.size (hdA x)) := below_setRow ((Below.refl _ _).alloc (Nat.le_refl _) _) (Nat.le_refl _) _
  have hlY : w.heap.size < w5.heap.size := hH.lt
  have hlYX := hX.lt
  replace hH := hH.on hb4
  replace hX := hX.on hb4
  replace hB := hB.trans (hb4.mono hB.size)
  clear hZ hb4
  generalize World.setRow _ _ _ = w5b at *
  generalize w5.heap.size = Y at *
  have c1 := hH.bits HO.out
  go_wp2_with fail
  refine (KD.out w5b).mono ?_
  rintro r w7 ⟨rfl, hb5⟩
  replace hH := hH.on hb5
  replace hX := hX.on hb5
  replace hY := hY.on hb5
  replace hB := hB.trans (hb5.mono hB.size)
  clear hb5 c1 KD
  have hZN := NN.Has.newz (w := w7) 54
  go_upto_region 10 with (with_reducible refine NN.num_store rfl _ _ rfl _ _ rfl rfl _ hZN rfl ?_)
  have hN : NN.Has ((w7.alloc (.cells #[.int .u64 0, .int .u64 0, .int .u64 0, .int .u64 0] 54)).setRow w7.heap.size (NN.numC z)) w7.heap.size (NN.numC z) 54 := NN.Has.row hZN _
  have hb3 : Below w7.heap.size w7 ((w7.alloc (.cells #[.int .u64 0, .int .u64 0, .int .u64 0, .int .u64 0] 54)).setRow w7.heap.size (NN.numC z)) := below_setRow ((Below.refl _ _).alloc (Nat.le_refl _) _) (Nat.le_refl _) _
  replace hH := hH.on hb3
  replace hX := hX.on hb3
  replace hY := hY.on hb3
  replace hB := hB.trans (hb3.mono hB.size)
  clear hZN hb3
  generalize World.setRow _ _ _ = w8 at *
  generalize w7.heap.size = T at *
  have hZ := hd_newz w8
  go_upto_region 11 with (first | (with_reducible refine hd_load rfl _ rfl X rfl hX zx ?_) | (with_reducible refine hd_store rfl _ _ rfl _ _ x rfl rfl rfl zx hZ hz0 ?_))
  have hS : HdAt ((w8.alloc (.cells Tryd.zeroCells25 25)).setRow w8.heap.size (hdA x)) w8.heap.size x := Has.row hZ _
  have hb4 : Below w8.heap.size w8 ((w8.alloc (.cells Tryd.zeroCells25 25)).setRow w8.heap.size (hdA x)) := below_setRow ((Below.refl _ _).alloc (Nat.le_refl _) _) (Nat.le_refl _) _
  have hlS : w.heap.size < w8.heap.size := hH.lt
  have hlSX := hX.lt
  have hlSY := hY.lt
  have hlSN : T < w8.heap.size := NN.Has.lt hN
  replace hH := hH.on hb4
  replace hX := hX.on hb4
  replace hY := hY.on hb4
  replace hN := NN.Has.on hN hb4
  replace hB := hB.trans (hb4.mono hB.size)
  clear hZ hb4
  generalize World.setRow _ _ _ = w8b at *
  generalize w8.heap.size = S at *
  have cN := hH.nonce HO.out
  have cS := hS.nonce OX.out
  have fS := hS.free 67
  have hS2 := hS.setNonce OX.out h.nonce
  rw [HSAME.out] at hS2
  have hH2 : HdAt (w8b.setCell ⟨S, 67, none⟩ (.int .i64 h.nonce)) w.heap.size h := Has.other hH _ _ (by show w.heap.size ≠ S; omega)
  have hX2 : HdAt (w8b.setCell ⟨S, 67, none⟩ (.int .i64 h.nonce)) X x := Has.other hX _ _ (by show X ≠ S; omega)
  have hY2 : HdAt (w8b.setCell ⟨S, 67, none⟩ (.int .i64 h.nonce)) Y x := Has.other hY _ _ (by show Y ≠ S; omega)
  have hN2 : NN.Has (w8b.setCell ⟨S, 67, none⟩ (.int .i64 h.nonce)) T (NN.numC z) 54 := NN.Has.other hN _ _ (by show T ≠ S; omega)
  have hB2 := hB.setCell (p := ⟨S, 67, none⟩) (by show w.heap.size ≤ S; omega) (.int .i64 h.nonce)
  clear hS hH hX hY hN hB
  go_upto_region 12 with fail
  clear cN cS fS
  generalize World.setCell _ _ _ = w9 at *
  have q1 := range_cls hX2.range (cx ▸ (by omega))
  have q2 := range_cls hY2.range (cx ▸ (by omega))
  have q3 := range_cls hS2.range (ch ▸ (by omega))
  have q4 := range_cls hH2.range (ch ▸ (by omega))
  have q5 := NN.Has.cls hN2
  refine wp_region_quiet_below (by kernel_rfl) (by kernel_rfl) ?_
  repeat (first
    | (go_big_quiet_want; (with_reducible refine quiet_hd_mid _ rfl X 0 rfl x cx q1 ?_); (simp only [Act.put, List.setIfInBounds_toArray, List.set_cons_zero, List.set_cons_succ]); go_big_quiet_on)
    | (go_big_quiet_want; (with_reducible refine quiet_hd_mid _ rfl Y 0 rfl x cx q2 ?_); (simp only [Act.put, List.setIfInBounds_toArray, List.set_cons_zero, List.set_cons_succ]); go_big_quiet_on)
    | (go_big_quiet_want; (with_reducible refine quiet_hd_mid _ rfl S 0 rfl h ch q3 ?_); (simp only [Act.put, List.setIfInBounds_toArray, List.set_cons_zero, List.set_cons_succ]); go_big_quiet_on)
    | (go_big_quiet_want; (with_reducible refine quiet_hd_mid _ rfl w.heap.size 0 rfl h ch q4 ?_); (simp only [Act.put, List.setIfInBounds_toArray, List.set_cons_zero, List.set_cons_succ]); go_big_quiet_on)
    | (go_big_quiet_want; (with_reducible refine NN.quiet_load_num _ rfl T rfl z q5 ?_); (simp only [Act.put, List.setIfInBounds_toArray, List.set_cons_zero, List.set_cons_succ]); go_big_quiet_on)
    | (go_big_quiet_want; (with_reducible refine quiet_hdeql _ _ _ rfl _ _ _ rfl rfl qe1 ?_); (simp only [Act.put, List.setIfInBounds_toArray, List.set_cons_zero, List.set_cons_succ]); go_big_quiet_on)
    | (go_big_quiet_want; (with_reducible refine quiet_hdeql _ _ _ rfl _ _ _ rfl rfl qe2 ?_); (simp only [Act.put, List.setIfInBounds_toArray, List.set_cons_zero, List.set_cons_succ]); go_big_quiet_on)
    | go_big_quiet_step ((first | (go_at_call 15; exact Calls.regrown_of (KI.out _)) | (go_at_call 26; exact Calls.regrown_of (KN.out _)) | (go_at_call 25; exact Calls.regrown_of (KL.out _)))))
  refine wpQuiet_nil ?_
  intro _ hw'
  obtain ⟨p, hw''⟩ := hw'
  subst hw''
  have hB3 := hB2.trans ((below_regrown w9 p.d p.os).mono hB2.size)
  clear q1 q2 q3 q4 q5
  generalize Sort.grow (redrawn w9 p.d) p.os = w10 at *
  go_wp2_with fail
  go_ret
  exact ⟨rfl, hB3⟩
theorem mines_walk (h : Hd) (hf : h.ok) (tries more : Int) (l1 : -9223372036854775808 ≤ tries) (w : World) (hT : Tab w) :
    Calls Tryd.prog 8 #[.agg (hdA h), .int .i64 tries, .int .i64 more] w fun r w' => r = .returned (.bool true) ∧ Below w.heap.size w w' := by
  by_cases h1 : 40 < tries
  · exact hmines_a h hf tries more h1 w hT
  by_cases h2 : more < 0
  · exact hmines_b h hf tries more h1 h2 w hT
  by_cases h3 : 40 < more
  · exact hmines_c h hf tries more h1 h2 h3 w hT
  by_cases hb : h.bad
  · exact hmines_none h hf tries more h1 h2 h3 h hf (Lib.hid fun w _ => seek_bad h hf hb tries w) w hT
  · have hg := Hd.good_parts hb
    rcases first_or_none h.above tries.toNat with ⟨K, hK, hm, hall⟩ | hall
    · exact hmines_found h hf tries more l1 h1 h2 h3 hg K (by omega) hm hall w hT
    · exact hmines_none h hf tries more h1 h2 h3 (h.at tries.toNat) (Hd.at_ok hf _) (Lib.hid fun w hT => seek_none h hf hg tries (by omega) hall w hT) w hT
end Go.Proofs.YtfnicmmebphpkaaDoor
