/-
  HeaderUnlike: the walk.
-/
import Derived.Test.YtfnicmmebphpkaaDoorBunH
import Derived.Test.YtfnicmmebphpkaaDoorZHdEq
namespace Go.Proofs.YtfnicmmebphpkaaDoor
open Go.RowKit Mem Sc
theorem Tab.grow {w : World} (h : Tab w) : ∀ d os, Tab (Sort.grow (redrawn w d) os) := fun d os => h.below (below_regrown w d os)
set_option maxRecDepth 100000 in
set_option maxHeartbeats 2000000 in
theorem unlike_a (a b : Hd) (oa : a.ok) (ob : b.ok) (ha : ¬ a.P) (w : World) (hT : Tab w) :
    Calls Tryd.prog 7 #[.agg (hdA a), .agg (hdA b)] w fun r w' => r = .returned (.bool true) ∧ Below w.heap.size w w' := by
  have za := hdA_size oa
  have zb := hdA_size ob
  have CA := rgood_at a oa
  rw [decide_eq_false ha] at CA
  have KA := Lib.hid CA
  clear CA ha oa ob
  go_enter Tryd.func7, Tryd.ntmps7
  go_upto_region 1 with fail
  generalize hw1 : World.alloc _ _ = w1
  have hA : HdAt w1 w.heap.size a := by rw [← hw1]; exact (hd_new w a).on ((Below.refl _ _).alloc (Nat.le_refl _) _)
  have hC : HdAt w1 (w.heap.size + 1) b := by rw [← hw1]; exact hd_new1 _ _ _
  have hB : Below w.heap.size w w1 := by rw [← hw1]; exact ((Below.refl _ _).alloc (Nat.le_refl _) _).alloc (by simp) _
  clear hw1
  have hT1 := hT.below hB
  generalize w.heap.size + 1 = C at *
  go_wp2_with fail
  refine (halive w1 hT1).mono ?_
  rintro r w2 ⟨rfl, hb2⟩
  replace hA := hA.on hb2
  replace hC := hC.on hb2
  replace hT1 := hT1.below hb2
  replace hB := hB.trans (hb2.mono hB.size)
  clear hb2
  go_wp2_with (first
    | (with_reducible refine hd_load rfl _ rfl w.heap.size rfl hA za ?_)
    | (with_reducible refine hd_load rfl _ rfl C rfl hC zb ?_)
    | (with_reducible refine hd_load_g (by with_unfolding_all rfl) _ rfl w.heap.size rfl hA za ?_)
    | (with_reducible refine hd_load_g (by with_unfolding_all rfl) _ rfl C rfl hC zb ?_))
  refine (KA.out _).mono ?_
  rintro r w3 ⟨rfl, hb2⟩
  replace hA := hA.on hb2
  replace hC := hC.on hb2
  replace hT1 := hT1.below hb2
  replace hB := hB.trans (hb2.mono hB.size)
  clear hb2
  go_wp2_with fail
  go_ret
  exact ⟨rfl, hB⟩
set_option maxRecDepth 100000 in
set_option maxHeartbeats 2000000 in
theorem unlike_b (a b : Hd) (oa : a.ok) (ob : b.ok) (ha : a.P) (hb : ¬ b.P) (w : World) (hT : Tab w) :
    Calls Tryd.prog 7 #[.agg (hdA a), .agg (hdA b)] w fun r w' => r = .returned (.bool true) ∧ Below w.heap.size w w' := by
  have za := hdA_size oa
  have zb := hdA_size ob
  have CA := rgood_at a oa
  rw [decide_eq_true ha] at CA
  have KA := Lib.hid CA
  have CB := rgood_at b ob
  rw [decide_eq_false hb] at CB
  have KB := Lib.hid CB
  clear CA CB ha hb oa ob
  go_enter Tryd.func7, Tryd.ntmps7
  go_upto_region 1 with fail
  generalize hw1 : World.alloc _ _ = w1
  have hA : HdAt w1 w.heap.size a := by rw [← hw1]; exact (hd_new w a).on ((Below.refl _ _).alloc (Nat.le_refl _) _)
  have hC : HdAt w1 (w.heap.size + 1) b := by rw [← hw1]; exact hd_new1 _ _ _
  have hB : Below w.heap.size w w1 := by rw [← hw1]; exact ((Below.refl _ _).alloc (Nat.le_refl _) _).alloc (by simp) _
  clear hw1
  have hT1 := hT.below hB
  generalize w.heap.size + 1 = C at *
  go_wp2_with fail
  refine (halive w1 hT1).mono ?_
  rintro r w2 ⟨rfl, hb2⟩
  replace hA := hA.on hb2
  replace hC := hC.on hb2
  replace hT1 := hT1.below hb2
  replace hB := hB.trans (hb2.mono hB.size)
  clear hb2
  go_wp2_with (first
    | (with_reducible refine hd_load rfl _ rfl w.heap.size rfl hA za ?_)
    | (with_reducible refine hd_load rfl _ rfl C rfl hC zb ?_)
    | (with_reducible refine hd_load_g (by with_unfolding_all rfl) _ rfl w.heap.size rfl hA za ?_)
    | (with_reducible refine hd_load_g (by with_unfolding_all rfl) _ rfl C rfl hC zb ?_))
  refine (KA.out _).mono ?_
  rintro r w3 ⟨rfl, hb2⟩
  replace hA := hA.on hb2
  replace hC := hC.on hb2
  replace hT1 := hT1.below hb2
  replace hB := hB.trans (hb2.mono hB.size)
  clear hb2
  go_wp2_with (first
    | (with_reducible refine hd_load rfl _ rfl w.heap.size rfl hA za ?_)
    | (with_reducible refine hd_load rfl _ rfl C rfl hC zb ?_)
    | (with_reducible refine hd_load_g (by with_unfolding_all rfl) _ rfl w.heap.size rfl hA za ?_)
    | (with_reducible refine hd_load_g (by with_unfolding_all rfl) _ rfl C rfl hC zb ?_))
  refine (KB.out _).mono ?_
  rintro r w4 ⟨rfl, hb2⟩
  replace hA := hA.on hb2
  replace hC := hC.on hb2
  replace hT1 := hT1.below hb2
  replace hB := hB.trans (hb2.mono hB.size)
  clear hb2
  go_wp2_with fail
  go_ret
  exact ⟨rfl, hB⟩
set_option maxRecDepth 100000 in
set_option maxHeartbeats 2000000 in
theorem unlike_diff (a b : Hd) (oa : a.ok) (ob : b.ok) (ha : a.P) (hb : b.P) (hab : a ≠ b) (w : World) (hT : Tab w) :
    Calls Tryd.prog 7 #[.agg (hdA a), .agg (hdA b)] w fun r w' => r = .returned (.bool true) ∧ Below w.heap.size w w' := by
  have za := hdA_size oa
  have zb := hdA_size ob
  have CA := rgood_at a oa
  rw [decide_eq_true ha] at CA
  have KA := Lib.hid CA
  have CB := rgood_at b ob
  rw [decide_eq_true hb] at CB
  have KB := Lib.hid CB
  have KYA := Lib.hid (bytes_yes a oa ha)
  have KYB := Lib.hid (bytes_yes b ob hb)
  have KIA := Lib.hid (fun w hT => id_at a oa w hT)
  have KIB := Lib.hid (fun w hT => id_at b ob w hT)
  have qe := hd_eql a b oa ob false (decide_eq_false hab)
  have qn := hd_neq a b oa ob true (by rw [decide_eq_false hab]; rfl)
  have qs : ((txt a.enc).toList == (txt b.enc).toList) = false := by
    rw [beq_eq_false_iff_ne]
    intro e
    refine hab (enc_inj ha hb oa ob ?_)
    have e2 : (txt a.enc).data.toList = (txt b.enc).data.toList := by rw [← ByteArray.toList_eq, ← ByteArray.toList_eq]; exact e
    exact e2
  clear KIA KIB
  generalize txt a.enc = sa at *
  generalize txt b.enc = sb at *
  have z1 := hdC_length oa
  have z2 := hdC_length ob
  clear CA CB ha hb oa ob hab
  go_enter Tryd.func7, Tryd.ntmps7
  go_upto_region 1 with fail
  generalize hw1 : World.alloc _ _ = w1
  have hA : HdAt w1 w.heap.size a := by rw [← hw1]; exact (hd_new w a).on ((Below.refl _ _).alloc (Nat.le_refl _) _)
  have hC : HdAt w1 (w.heap.size + 1) b := by rw [← hw1]; exact hd_new1 _ _ _
  have hB : Below w.heap.size w w1 := by rw [← hw1]; exact ((Below.refl _ _).alloc (Nat.le_refl _) _).alloc (by simp) _
  clear hw1
  have hT1 := hT.below hB
  generalize w.heap.size + 1 = C at *
  go_wp2_with fail
  refine (halive w1 hT1).mono ?_
  rintro r w2 ⟨rfl, hb2⟩
  replace hA := hA.on hb2
  replace hC := hC.on hb2
  replace hT1 := hT1.below hb2
  replace hB := hB.trans (hb2.mono hB.size)
  clear hb2
  go_wp2_with (first
    | (with_reducible refine hd_load rfl _ rfl w.heap.size rfl hA za ?_)
    | (with_reducible refine hd_load rfl _ rfl C rfl hC zb ?_)
    | (with_reducible refine hd_load_g (by with_unfolding_all rfl) _ rfl w.heap.size rfl hA za ?_)
    | (with_reducible refine hd_load_g (by with_unfolding_all rfl) _ rfl C rfl hC zb ?_))
  refine (KA.out _).mono ?_
  rintro r w3 ⟨rfl, hb2⟩
  replace hA := hA.on hb2
  replace hC := hC.on hb2
  replace hT1 := hT1.below hb2
  replace hB := hB.trans (hb2.mono hB.size)
  clear hb2
  go_wp2_with (first
    | (with_reducible refine hd_load rfl _ rfl w.heap.size rfl hA za ?_)
    | (with_reducible refine hd_load rfl _ rfl C rfl hC zb ?_)
    | (with_reducible refine hd_load_g (by with_unfolding_all rfl) _ rfl w.heap.size rfl hA za ?_)
    | (with_reducible refine hd_load_g (by with_unfolding_all rfl) _ rfl C rfl hC zb ?_))
  refine (KB.out _).mono ?_
  rintro r w4 ⟨rfl, hb2⟩
  replace hA := hA.on hb2
  replace hC := hC.on hb2
  replace hT1 := hT1.below hb2
  replace hB := hB.trans (hb2.mono hB.size)
  clear hb2
  go_wp2_with (first
    | (with_reducible refine hd_load rfl _ rfl w.heap.size rfl hA za ?_)
    | (with_reducible refine hd_load rfl _ rfl C rfl hC zb ?_)
    | (with_reducible refine hd_load_g (by with_unfolding_all rfl) _ rfl w.heap.size rfl hA za ?_)
    | (with_reducible refine hd_load_g (by with_unfolding_all rfl) _ rfl C rfl hC zb ?_))
  refine (KYA.out _).mono ?_
  rintro r w5 ⟨rfl, hb2⟩
  replace hA := hA.on hb2
  replace hC := hC.on hb2
  replace hT1 := hT1.below hb2
  replace hB := hB.trans (hb2.mono hB.size)
  clear hb2
  go_wp2_with (first
    | (with_reducible refine hd_load rfl _ rfl w.heap.size rfl hA za ?_)
    | (with_reducible refine hd_load rfl _ rfl C rfl hC zb ?_)
    | (with_reducible refine hd_load_g (by with_unfolding_all rfl) _ rfl w.heap.size rfl hA za ?_)
    | (with_reducible refine hd_load_g (by with_unfolding_all rfl) _ rfl C rfl hC zb ?_))
  refine (KYB.out _).mono ?_
  rintro r w6 ⟨rfl, hb2⟩
  replace hA := hA.on hb2
  replace hC := hC.on hb2
  replace hT1 := hT1.below hb2
  replace hB := hB.trans (hb2.mono hB.size)
  clear hb2
  go_upto_region 7 with fail
  have q1 := range_cls hA.range (by rw [List.length_pos_iff]; simp [hdC])
  have q2 := range_cls hC.range (by rw [List.length_pos_iff]; simp [hdC])
  have hTr := hT1.grow
  refine wp_region_quiet_below (by kernel_rfl) (by kernel_rfl) ?_
  repeat (first
    | (go_big_quiet_want; (with_reducible refine quiet_hd_mid _ rfl w.heap.size 0 rfl a z1 q1 ?_); (simp only [Act.put, List.setIfInBounds_toArray, List.set_cons_zero, List.set_cons_succ]); go_big_quiet_on)
    | (go_big_quiet_want; (with_reducible refine quiet_hd_mid _ rfl C 0 rfl b z2 q2 ?_); (simp only [Act.put, List.setIfInBounds_toArray, List.set_cons_zero, List.set_cons_succ]); go_big_quiet_on)
    | (go_big_quiet_want; (with_reducible refine quiet_hdeql _ _ _ rfl _ _ _ rfl rfl qe ?_); (simp only [Act.put, List.setIfInBounds_toArray, List.set_cons_zero, List.set_cons_succ]); go_big_quiet_on)
    | (go_big_quiet_want; (with_reducible refine quiet_hdneq _ _ _ rfl _ _ _ rfl rfl qn ?_); (simp only [Act.put, List.setIfInBounds_toArray, List.set_cons_zero, List.set_cons_succ]); go_big_quiet_on)
    | go_big_quiet_step (fail))
  refine wpQuiet_nil ?_
  intro _ hw'
  obtain ⟨p, hw''⟩ := hw'
  subst hw''
  have hB3 := hB.trans ((below_regrown w6 p.d p.os).mono hB.size)
  clear q1 q2 hTr
  generalize Sort.grow (redrawn w6 p.d) p.os = w7 at *
  go_wp2_with fail
  go_ret
  exact ⟨rfl, hB3⟩
set_option maxRecDepth 100000 in
set_option maxHeartbeats 2000000 in
theorem unlike_same (a b : Hd) (oa : a.ok) (ob : b.ok) (ha : a.P) (hb : b.P) (hab : a = b) (w : World) (hT : Tab w) :
    Calls Tryd.prog 7 #[.agg (hdA a), .agg (hdA b)] w fun r w' => r = .returned (.bool true) ∧ Below w.heap.size w w' := by
  have za := hdA_size oa
  have zb := hdA_size ob
  have CA := rgood_at a oa
  rw [decide_eq_true ha] at CA
  have KA := Lib.hid CA
  have CB := rgood_at b ob
  rw [decide_eq_true hb] at CB
  have KB := Lib.hid CB
  have KYA := Lib.hid (bytes_yes a oa ha)
  have KYB := Lib.hid (bytes_yes b ob hb)
  have KIA := Lib.hid (fun w hT => id_at a oa w hT)
  have KIB := Lib.hid (fun w hT => id_at b ob w hT)
  have qe := hd_eql a b oa ob true (decide_eq_true hab)
  have qn := hd_neq a b oa ob false (by rw [decide_eq_true hab]; rfl)
  have qi := hn_eql a.id b.id (id_length a) (id_length b) true (by rw [hab]; simp)
  have qs : ((txt a.enc).toList == (txt b.enc).toList) = true := by rw [hab]; simp
  generalize bytesV a.id = ca at *
  generalize bytesV b.id = cb at *
  generalize txt a.enc = sa at *
  generalize txt b.enc = sb at *
  have z1 := hdC_length oa
  have z2 := hdC_length ob
  clear CA CB ha hb oa ob hab
  go_enter Tryd.func7, Tryd.ntmps7
  go_upto_region 1 with fail
  generalize hw1 : World.alloc _ _ = w1
  have hA : HdAt w1 w.heap.size a := by rw [← hw1]; exact (hd_new w a).on ((Below.refl _ _).alloc (Nat.le_refl _) _)
  have hC : HdAt w1 (w.heap.size + 1) b := by rw [← hw1]; exact hd_new1 _ _ _
  have hB : Below w.heap.size w w1 := by rw [← hw1]; exact ((Below.refl _ _).alloc (Nat.le_refl _) _).alloc (by simp) _
  clear hw1
  have hT1 := hT.below hB
  generalize w.heap.size + 1 = C at *
  go_wp2_with fail
  refine (halive w1 hT1).mono ?_
  rintro r w2 ⟨rfl, hb2⟩
  replace hA := hA.on hb2
  replace hC := hC.on hb2
  replace hT1 := hT1.below hb2
  replace hB := hB.trans (hb2.mono hB.size)
  clear hb2
  go_wp2_with (first
    | (with_reducible refine hd_load rfl _ rfl w.heap.size rfl hA za ?_)
    | (with_reducible refine hd_load rfl _ rfl C rfl hC zb ?_)
    | (with_reducible refine hd_load_g (by with_unfolding_all rfl) _ rfl w.heap.size rfl hA za ?_)
    | (with_reducible refine hd_load_g (by with_unfolding_all rfl) _ rfl C rfl hC zb ?_))
  refine (KA.out _).mono ?_
  rintro r w3 ⟨rfl, hb2⟩
  replace hA := hA.on hb2
  replace hC := hC.on hb2
  replace hT1 := hT1.below hb2
  replace hB := hB.trans (hb2.mono hB.size)
  clear hb2
  go_wp2_with (first
    | (with_reducible refine hd_load rfl _ rfl w.heap.size rfl hA za ?_)
    | (with_reducible refine hd_load rfl _ rfl C rfl hC zb ?_)
    | (with_reducible refine hd_load_g (by with_unfolding_all rfl) _ rfl w.heap.size rfl hA za ?_)
    | (with_reducible refine hd_load_g (by with_unfolding_all rfl) _ rfl C rfl hC zb ?_))
  refine (KB.out _).mono ?_
  rintro r w4 ⟨rfl, hb2⟩
  replace hA := hA.on hb2
  replace hC := hC.on hb2
  replace hT1 := hT1.below hb2
  replace hB := hB.trans (hb2.mono hB.size)
  clear hb2
  go_wp2_with (first
    | (with_reducible refine hd_load rfl _ rfl w.heap.size rfl hA za ?_)
    | (with_reducible refine hd_load rfl _ rfl C rfl hC zb ?_)
    | (with_reducible refine hd_load_g (by with_unfolding_all rfl) _ rfl w.heap.size rfl hA za ?_)
    | (with_reducible refine hd_load_g (by with_unfolding_all rfl) _ rfl C rfl hC zb ?_))
  refine (KYA.out _).mono ?_
  rintro r w5 ⟨rfl, hb2⟩
  replace hA := hA.on hb2
  replace hC := hC.on hb2
  replace hT1 := hT1.below hb2
  replace hB := hB.trans (hb2.mono hB.size)
  clear hb2
  go_wp2_with (first
    | (with_reducible refine hd_load rfl _ rfl w.heap.size rfl hA za ?_)
    | (with_reducible refine hd_load rfl _ rfl C rfl hC zb ?_)
    | (with_reducible refine hd_load_g (by with_unfolding_all rfl) _ rfl w.heap.size rfl hA za ?_)
    | (with_reducible refine hd_load_g (by with_unfolding_all rfl) _ rfl C rfl hC zb ?_))
  refine (KYB.out _).mono ?_
  rintro r w6 ⟨rfl, hb2⟩
  replace hA := hA.on hb2
  replace hC := hC.on hb2
  replace hT1 := hT1.below hb2
  replace hB := hB.trans (hb2.mono hB.size)
  clear hb2
  go_upto_region 7 with fail
  have q1 := range_cls hA.range (by rw [List.length_pos_iff]; simp [hdC])
  have q2 := range_cls hC.range (by rw [List.length_pos_iff]; simp [hdC])
  have hTr := hT1.grow
  refine wp_region_quiet_below (by kernel_rfl) (by kernel_rfl) ?_
  repeat (first
    | (go_big_quiet_want; (with_reducible refine quiet_hd_mid _ rfl w.heap.size 0 rfl a z1 q1 ?_); (simp only [Act.put, List.setIfInBounds_toArray, List.set_cons_zero, List.set_cons_succ]); go_big_quiet_on)
    | (go_big_quiet_want; (with_reducible refine quiet_hd_mid _ rfl C 0 rfl b z2 q2 ?_); (simp only [Act.put, List.setIfInBounds_toArray, List.set_cons_zero, List.set_cons_succ]); go_big_quiet_on)
    | (go_big_quiet_want; (with_reducible refine quiet_hdeql _ _ _ rfl _ _ _ rfl rfl qe ?_); (simp only [Act.put, List.setIfInBounds_toArray, List.set_cons_zero, List.set_cons_succ]); go_big_quiet_on)
    | (go_big_quiet_want; (with_reducible refine quiet_hdneq _ _ _ rfl _ _ _ rfl rfl qn ?_); (simp only [Act.put, List.setIfInBounds_toArray, List.set_cons_zero, List.set_cons_succ]); go_big_quiet_on)
    | (go_big_quiet_want; (with_reducible refine quiet_heql _ _ _ rfl _ _ _ rfl rfl qi ?_); (simp only [Act.put, List.setIfInBounds_toArray, List.set_cons_zero, List.set_cons_succ]); go_big_quiet_on)
    | go_big_quiet_step ((go_at_call 14; first | (with_reducible exact Calls.regrown_of (KIA.out _ (hTr _ _))) | (with_reducible exact Calls.regrown_of (KIB.out _ (hTr _ _))))))
  refine wpQuiet_nil ?_
  intro _ hw'
  obtain ⟨p, hw''⟩ := hw'
  subst hw''
  have hB3 := hB.trans ((below_regrown w6 p.d p.os).mono hB.size)
  clear q1 q2 hTr
  generalize Sort.grow (redrawn w6 p.d) p.os = w7 at *
  go_wp2_with fail
  go_ret
  exact ⟨rfl, hB3⟩
theorem unlike_walk (a b : Hd) (oa : a.ok) (ob : b.ok) (w : World) (hT : Tab w) :
    Calls Tryd.prog 7 #[.agg (hdA a), .agg (hdA b)] w fun r w' => r = .returned (.bool true) ∧ Below w.heap.size w w' := by
  by_cases ha : a.P
  · by_cases hb : b.P
    · by_cases hab : a = b
      · exact unlike_same a b oa ob ha hb hab w hT
      · exact unlike_diff a b oa ob ha hb hab w hT
    · exact unlike_b a b oa ob ha hb w hT
  · exact unlike_a a b oa ob ha w hT
end Go.Proofs.YtfnicmmebphpkaaDoor
