/-
  HeaderSeeks: the walk.
-/
import Derived.Test.YtfnicmmebphpkaaDoorZHdSeek
import Derived.Test.YtfnicmmebphpkaaDoorBunH
import Derived.Test.YtfnicmmebphpkaaDoorZHdEq
namespace Go.Proofs.YtfnicmmebphpkaaDoor
open Go.RowKit Mem Sc
set_option maxRecDepth 100000 in
set_option maxHeartbeats 1000000 in
theorem hseeks_many (h : Hd) (tries : Int) (hn : 40 < tries) (w : World) (hT : Tab w) :
    Calls Tryd.prog 6 #[.agg (hdA h), .int .i64 tries] w fun r w' => r = .returned (.bool true) ∧ Below w.heap.size w w' := by
  have t1 : decide (40 < tries) = true := decide_eq_true hn
  clear hn
  go_enter Tryd.func6, Tryd.ntmps6
  go_upto_region 1 with fail
  generalize hw1 : World.alloc _ _ = w1
  have hB : Below w.heap.size w w1 := by rw [← hw1]; exact (Below.refl _ _).alloc (Nat.le_refl _) _
  clear hw1
  have hT1 := hT.below hB
  go_wp2_with fail
  refine (halive w1 hT1).mono ?_
  rintro r w2 ⟨rfl, hb2⟩
  replace hB := hB.trans (hb2.mono hB.size)
  go_wp2_with fail
  go_ret
  exact ⟨rfl, hB⟩
set_option maxRecDepth 100000 in
set_option maxHeartbeats 2000000 in
theorem hseeks_no (h : Hd) (ho : h.ok) (hp : ¬ h.P) (tries : Int) (hn : tries ≤ 40) (w : World) (hT : Tab w) :
    Calls Tryd.prog 6 #[.agg (hdA h), .int .i64 tries] w fun r w' => r = .returned (.bool true) ∧ Below w.heap.size w w' := by
  have t1 : decide (40 < tries) = false := decide_eq_false (by omega)
  have za := hdA_size ho
  have hz0 := hdA_size hdZ_ok
  have CG := rgood_at h ho
  rw [decide_eq_false hp] at CG
  have KG := Lib.hid CG
  obtain ⟨z, low, over, _, _, CD⟩ := decode_any h.bits
  have KD := Lib.hid CD
  obtain ⟨x, hx⟩ : ∃ x, x = h := ⟨_, rfl⟩
  have zx := za
  have qe := hd_eql x h (by rw [hx]; exact ho) ho true (by rw [hx]; simp)
  have KS := Lib.hid (fun w (_ : Tab w) => seek_bad h ho (.inl hp) tries w)
  rw [← hx] at zx
  have KS : Hid (∀ w, Tab w → Calls Tryd.prog 23 #[.agg (hdA h), .int .i64 tries] w fun r w' => r = .returned (.tuple #[.agg (hdA x), .bool false]) ∧ Below w.heap.size w w') := by rw [hx]; exact KS
  clear CG CD hp hx hn
  go_enter Tryd.func6, Tryd.ntmps6
  go_upto_region 1 with fail
  generalize hw1 : World.alloc _ _ = w1
  have hH : HdAt w1 w.heap.size h := by rw [← hw1]; exact hd_new w h
  have hB : Below w.heap.size w w1 := by rw [← hw1]; exact (Below.refl _ _).alloc (Nat.le_refl _) _
  clear hw1
  have hT1 := hT.below hB
  go_wp2_with fail
  refine (halive w1 hT1).mono ?_
  rintro r w2 ⟨rfl, hb2⟩
  replace hH := hH.on hb2
  replace hT1 := hT1.below hb2
  replace hB := hB.trans (hb2.mono hB.size)
  clear hb2
  go_wp2_with (with_reducible refine hd_load rfl _ rfl w.heap.size rfl hH za ?_)
  refine (KS.out w2 hT1).mono ?_
  rintro r w3 ⟨rfl, hb2⟩
  replace hH := hH.on hb2
  replace hB := hB.trans (hb2.mono hB.size)
  clear hb2 KS hT1
  have hZ := hd_newz w3
  go_upto_region 6 with (with_reducible refine hd_store rfl _ _ rfl _ _ x rfl rfl rfl zx hZ hz0 ?_)
  have hX : HdAt ((w3.alloc (.cells Tryd.zeroCells25 25)).setRow w3.heap.size (hdA x)) w3.heap.size x := Has.row hZ _
  have hb4 : Below w3.heap.size w3 ((w3.alloc (.cells Tryd.zeroCells25 25)).setRow w3.heap.size (hdA x)) := below_setRow ((Below.refl _ _).alloc (Nat.le_refl _) _) (Nat.le_refl _) _
  have hHX : w.heap.size < w3.heap.size := hH.lt
  replace hH := hH.on hb4
  replace hB := hB.trans (hb4.mono hB.size)
  clear hZ hb4
  generalize World.setRow _ _ _ = w4 at *
  generalize w3.heap.size = X at *
  have c1 := hH.bits ho
  go_wp2_with fail
  refine (KD.out w4).mono ?_
  rintro r w5 ⟨rfl, hb5⟩
  replace hH := hH.on hb5
  replace hX := hX.on hb5
  replace hB := hB.trans (hb5.mono hB.size)
  clear hb5 c1 KD
  have hZN := NN.Has.newz (w := w5) 54
  go_upto_region 7 with (with_reducible refine NN.num_store rfl _ _ rfl _ _ rfl rfl _ hZN rfl ?_)
  have hN : NN.Has ((w5.alloc (.cells #[.int .u64 0, .int .u64 0, .int .u64 0, .int .u64 0] 54)).setRow w5.heap.size (NN.numC z)) w5.heap.size (NN.numC z) 54 := NN.Has.row hZN _
  have hb3 : Below w5.heap.size w5 ((w5.alloc (.cells #[.int .u64 0, .int .u64 0, .int .u64 0, .int .u64 0] 54)).setRow w5.heap.size (NN.numC z)) := below_setRow ((Below.refl _ _).alloc (Nat.le_refl _) _) (Nat.le_refl _) _
  have hNX : X < w5.heap.size := hX.lt
  replace hH := hH.on hb3
  replace hX := hX.on hb3
  replace hB := hB.trans (hb3.mono hB.size)
  clear hZN hb3
  generalize World.setRow _ _ _ = w6 at *
  generalize w5.heap.size = T at *
  go_wp2_with (with_reducible refine hd_load rfl _ rfl w.heap.size rfl hH za ?_)
  refine (KG.out w6).mono ?_
  rintro r w7 ⟨rfl, hb7⟩
  replace hH := hH.on hb7
  replace hX := hX.on hb7
  replace hN := NN.Has.on hN hb7
  replace hB := hB.trans (hb7.mono hB.size)
  clear hb7 KG
  go_wp2_with (first
    | (with_reducible refine hd_load rfl _ rfl w.heap.size rfl hH za ?_)
    | (with_reducible refine hd_load rfl _ rfl X rfl hX zx ?_)
    | (with_reducible refine hdeql_f rfl _ _ _ rfl _ _ _ rfl rfl qe ?_))
  go_ret
  exact ⟨rfl, hB⟩
set_option maxRecDepth 100000 in
set_option maxHeartbeats 2000000 in
theorem hseeks_low (h : Hd) (ho : h.ok) (hp : h.P) (hl : NN.Nm.decLow h.bits.toNat = true) (tries : Int) (hn : tries ≤ 40) (w : World) (hT : Tab w) :
    Calls Tryd.prog 6 #[.agg (hdA h), .int .i64 tries] w fun r w' => r = .returned (.bool true) ∧ Below w.heap.size w w' := by
  have t1 : decide (40 < tries) = false := decide_eq_false (by omega)
  have za := hdA_size ho
  have hz0 := hdA_size hdZ_ok
  have CG := rgood_at h ho
  rw [decide_eq_true hp] at CG
  have KG := Lib.hid CG
  have CD := (decode_hd h hp).2
  obtain ⟨x, hx⟩ : ∃ x, x = h := ⟨_, rfl⟩
  have zx := za
  have qe := hd_eql x h (by rw [hx]; exact ho) ho true (by rw [hx]; simp)
  have KS := Lib.hid (fun w (_ : Tab w) => seek_bad h ho (.inr (.inl hl)) tries w)
  rw [← hx] at zx
  have KS : Hid (∀ w, Tab w → Calls Tryd.prog 23 #[.agg (hdA h), .int .i64 tries] w fun r w' => r = .returned (.tuple #[.agg (hdA x), .bool false]) ∧ Below w.heap.size w w') := by rw [hx]; exact KS
  rw [hl] at CD
  have KD := Lib.hid CD
  generalize NN.Nm.decOver h.bits.toNat = ov at *
  generalize h.tgt = z at *
  clear CG CD hp hl hx hn
  go_enter Tryd.func6, Tryd.ntmps6
  go_upto_region 1 with fail
  generalize hw1 : World.alloc _ _ = w1
  have hH : HdAt w1 w.heap.size h := by rw [← hw1]; exact hd_new w h
  have hB : Below w.heap.size w w1 := by rw [← hw1]; exact (Below.refl _ _).alloc (Nat.le_refl _) _
  clear hw1
  have hT1 := hT.below hB
  go_wp2_with fail
  refine (halive w1 hT1).mono ?_
  rintro r w2 ⟨rfl, hb2⟩
  replace hH := hH.on hb2
  replace hT1 := hT1.below hb2
  replace hB := hB.trans (hb2.mono hB.size)
  clear hb2
  go_wp2_with (with_reducible refine hd_load rfl _ rfl w.heap.size rfl hH za ?_)
  refine (KS.out w2 hT1).mono ?_
  rintro r w3 ⟨rfl, hb2⟩
  replace hH := hH.on hb2
  replace hB := hB.trans (hb2.mono hB.size)
  clear hb2 KS hT1
  have hZ := hd_newz w3
  go_upto_region 6 with (with_reducible refine hd_store rfl _ _ rfl _ _ x rfl rfl rfl zx hZ hz0 ?_)
  have hX : HdAt ((w3.alloc (.cells Tryd.zeroCells25 25)).setRow w3.heap.size (hdA x)) w3.heap.size x := Has.row hZ _
  have hb4 : Below w3.heap.size w3 ((w3.alloc (.cells Tryd.zeroCells25 25)).setRow w3.heap.size (hdA x)) := below_setRow ((Below.refl _ _).alloc (Nat.le_refl _) _) (Nat.le_refl _) _
  have hHX : w.heap.size < w3.heap.size := hH.lt
  replace hH := hH.on hb4
  replace hB := hB.trans (hb4.mono hB.size)
  clear hZ hb4
  generalize World.setRow _ _ _ = w4 at *
  generalize w3.heap.size = X at *
  have c1 := hH.bits ho
  go_wp2_with fail
  refine (KD.out w4).mono ?_
  rintro r w5 ⟨rfl, hb5⟩
  replace hH := hH.on hb5
  replace hX := hX.on hb5
  replace hB := hB.trans (hb5.mono hB.size)
  clear hb5 c1 KD
  have hZN := NN.Has.newz (w := w5) 54
  go_upto_region 7 with (with_reducible refine NN.num_store rfl _ _ rfl _ _ rfl rfl _ hZN rfl ?_)
  have hN : NN.Has ((w5.alloc (.cells #[.int .u64 0, .int .u64 0, .int .u64 0, .int .u64 0] 54)).setRow w5.heap.size (NN.numC z)) w5.heap.size (NN.numC z) 54 := NN.Has.row hZN _
  have hb3 : Below w5.heap.size w5 ((w5.alloc (.cells #[.int .u64 0, .int .u64 0, .int .u64 0, .int .u64 0] 54)).setRow w5.heap.size (NN.numC z)) := below_setRow ((Below.refl _ _).alloc (Nat.le_refl _) _) (Nat.le_refl _) _
  have hNX : X < w5.heap.size := hX.lt
  replace hH := hH.on hb3
  replace hX := hX.on hb3
  replace hB := hB.trans (hb3.mono hB.size)
  clear hZN hb3
  generalize World.setRow _ _ _ = w6 at *
  generalize w5.heap.size = T at *
  go_wp2_with (with_reducible refine hd_load rfl _ rfl w.heap.size rfl hH za ?_)
  refine (KG.out w6).mono ?_
  rintro r w7 ⟨rfl, hb7⟩
  replace hH := hH.on hb7
  replace hX := hX.on hb7
  replace hN := NN.Has.on hN hb7
  replace hB := hB.trans (hb7.mono hB.size)
  clear hb7 KG
  go_wp2_with (first
    | (with_reducible refine hd_load rfl _ rfl w.heap.size rfl hH za ?_)
    | (with_reducible refine hd_load rfl _ rfl X rfl hX zx ?_)
    | (with_reducible refine hdeql_f rfl _ _ _ rfl _ _ _ rfl rfl qe ?_))
  go_ret
  exact ⟨rfl, hB⟩
set_option maxRecDepth 100000 in
set_option maxHeartbeats 2000000 in
theorem hseeks_over (h : Hd) (ho : h.ok) (hp : h.P) (hl : NN.Nm.decLow h.bits.toNat = false) (hv : NN.Nm.decOver h.bits.toNat = true) (tries : Int) (hn : tries ≤ 40) (w : World) (hT : Tab w) :
    Calls Tryd.prog 6 #[.agg (hdA h), .int .i64 tries] w fun r w' => r = .returned (.bool true) ∧ Below w.heap.size w w' := by
  have t1 : decide (40 < tries) = false := decide_eq_false (by omega)
  have za := hdA_size ho
  have hz0 := hdA_size hdZ_ok
  have CG := rgood_at h ho
  rw [decide_eq_true hp] at CG
  have KG := Lib.hid CG
  have CD := (decode_hd h hp).2
  obtain ⟨x, hx⟩ : ∃ x, x = h := ⟨_, rfl⟩
  have zx := za
  have qe := hd_eql x h (by rw [hx]; exact ho) ho true (by rw [hx]; simp)
  have KS := Lib.hid (fun w (_ : Tab w) => seek_bad h ho (.inr (.inr hv)) tries w)
  rw [← hx] at zx
  have KS : Hid (∀ w, Tab w → Calls Tryd.prog 23 #[.agg (hdA h), .int .i64 tries] w fun r w' => r = .returned (.tuple #[.agg (hdA x), .bool false]) ∧ Below w.heap.size w w') := by rw [hx]; exact KS
  rw [hl, hv] at CD
  have KD := Lib.hid CD
  generalize h.tgt = z at *
  clear CG CD hp hl hv hx hn
  go_enter Tryd.func6, Tryd.ntmps6
  go_upto_region 1 with fail
  generalize hw1 : World.alloc _ _ = w1
  have hH : HdAt w1 w.heap.size h := by rw [← hw1]; exact hd_new w h
  have hB : Below w.heap.size w w1 := by rw [← hw1]; exact (Below.refl _ _).alloc (Nat.le_refl _) _
  clear hw1
  have hT1 := hT.below hB
  go_wp2_with fail
  refine (halive w1 hT1).mono ?_
  rintro r w2 ⟨rfl, hb2⟩
  replace hH := hH.on hb2
  replace hT1 := hT1.below hb2
  replace hB := hB.trans (hb2.mono hB.size)
  clear hb2
  go_wp2_with (with_reducible refine hd_load rfl _ rfl w.heap.size rfl hH za ?_)
  refine (KS.out w2 hT1).mono ?_
  rintro r w3 ⟨rfl, hb2⟩
  replace hH := hH.on hb2
  replace hB := hB.trans (hb2.mono hB.size)
  clear hb2 KS hT1
  have hZ := hd_newz w3
  go_upto_region 6 with (with_reducible refine hd_store rfl _ _ rfl _ _ x rfl rfl rfl zx hZ hz0 ?_)
  have hX : HdAt ((w3.alloc (.cells Tryd.zeroCells25 25)).setRow w3.heap.size (hdA x)) w3.heap.size x := Has.row hZ _
  have hb4 : Below w3.heap.size w3 ((w3.alloc (.cells Tryd.zeroCells25 25)).setRow w3.heap.size (hdA x)) := below_setRow ((Below.refl _ _).alloc (Nat.le_refl _) _) (Nat.le_refl _) _
  have hHX : w.heap.size < w3.heap.size := hH.lt
  replace hH := hH.on hb4
  replace hB := hB.trans (hb4.mono hB.size)
  clear hZ hb4
  generalize World.setRow _ _ _ = w4 at *
  generalize w3.heap.size = X at *
  have c1 := hH.bits ho
  go_wp2_with fail
  refine (KD.out w4).mono ?_
  rintro r w5 ⟨rfl, hb5⟩
  replace hH := hH.on hb5
  replace hX := hX.on hb5
  replace hB := hB.trans (hb5.mono hB.size)
  clear hb5 c1 KD
  have hZN := NN.Has.newz (w := w5) 54
  go_upto_region 7 with (with_reducible refine NN.num_store rfl _ _ rfl _ _ rfl rfl _ hZN rfl ?_)
  have hN : NN.Has ((w5.alloc (.cells #[.int .u64 0, .int .u64 0, .int .u64 0, .int .u64 0] 54)).setRow w5.heap.size (NN.numC z)) w5.heap.size (NN.numC z) 54 := NN.Has.row hZN _
  have hb3 : Below w5.heap.size w5 ((w5.alloc (.cells #[.int .u64 0, .int .u64 0, .int .u64 0, .int .u64 0] 54)).setRow w5.heap.size (NN.numC z)) := below_setRow ((Below.refl _ _).alloc (Nat.le_refl _) _) (Nat.le_refl _) _
  have hNX : X < w5.heap.size := hX.lt
  replace hH := hH.on hb3
  replace hX := hX.on hb3
  replace hB := hB.trans (hb3.mono hB.size)
  clear hZN hb3
  generalize World.setRow _ _ _ = w6 at *
  generalize w5.heap.size = T at *
  go_wp2_with (with_reducible refine hd_load rfl _ rfl w.heap.size rfl hH za ?_)
  refine (KG.out w6).mono ?_
  rintro r w7 ⟨rfl, hb7⟩
  replace hH := hH.on hb7
  replace hX := hX.on hb7
  replace hN := NN.Has.on hN hb7
  replace hB := hB.trans (hb7.mono hB.size)
  clear hb7 KG
  go_wp2_with (first
    | (with_reducible refine hd_load rfl _ rfl w.heap.size rfl hH za ?_)
    | (with_reducible refine hd_load rfl _ rfl X rfl hX zx ?_)
    | (with_reducible refine hdeql_f rfl _ _ _ rfl _ _ _ rfl rfl qe ?_))
  go_ret
  exact ⟨rfl, hB⟩
set_option maxRecDepth 100000 in
set_option maxHeartbeats 2000000 in
theorem hseeks_found (h : Hd) (ho : h.ok) (hg : h.P ∧ NN.Nm.decLow h.bits.toNat = false ∧ NN.Nm.decOver h.bits.toNat = false) (tries : Int) (hn : tries ≤ 40) (K : Nat) (hK : (K : Int) < tries) (hm : ¬ h.above K) (hall : ∀ j, j < K → h.above j) (w : World) (hT : Tab w) :
    Calls Tryd.prog 6 #[.agg (hdA h), .int .i64 tries] w fun r w' => r = .returned (.bool true) ∧ Below w.heap.size w w' := by
  have t1 : decide (40 < tries) = false := decide_eq_false (by omega)
  have za := hdA_size ho
  have hz0 := hdA_size hdZ_ok
  have CG := rgood_at h ho
  rw [decide_eq_true hg.1] at CG
  have KG := Lib.hid CG
  have CD := (decode_hd h hg.1).2
  rw [hg.2.1, hg.2.2] at CD
  have KD := Lib.hid CD
  have CS := fun w hT => seek_found h ho hg tries (by omega) K hK hm hall w hT
  obtain ⟨x, hx⟩ : ∃ x, x = h.at K := ⟨_, rfl⟩
  rw [← hx] at CS
  have KS := Lib.hid CS
  have OX : Hid x.ok := Lib.hid (by rw [hx]; exact Hd.at_ok ho _)
  have zx := hdA_size OX.out
  have HX := Lib.hid hx
  have HP := Lib.hid hg.1
  have HO := Lib.hid ho
  have hzb := tgt_lt h
  obtain ⟨z, hzt⟩ : ∃ z, z = h.tgt := ⟨_, rfl⟩
  rw [← hzt] at KD hzb
  have HZT := Lib.hid hzt
  have HALL := Lib.hid hall
  have HK := Lib.hid hK
  have HM := Lib.hid hm
  clear hK hm
  clear CG CD CS hg hzt hx hall
  go_enter Tryd.func6, Tryd.ntmps6
  go_upto_region 1 with fail
  generalize hw1 : World.alloc _ _ = w1
  have hH : HdAt w1 w.heap.size h := by rw [← hw1]; exact hd_new w h
  have hB : Below w.heap.size w w1 := by rw [← hw1]; exact (Below.refl _ _).alloc (Nat.le_refl _) _
  clear hw1
  have hT1 := hT.below hB
  go_wp2_with fail
  refine (halive w1 hT1).mono ?_
  rintro r w2 ⟨rfl, hb2⟩
  replace hH := hH.on hb2
  replace hT1 := hT1.below hb2
  replace hB := hB.trans (hb2.mono hB.size)
  clear hb2
  go_wp2_with (with_reducible refine hd_load rfl _ rfl w.heap.size rfl hH za ?_)
  refine (KS.out w2 hT1).mono ?_
  rintro r w3 ⟨rfl, hb2⟩
  replace hH := hH.on hb2
  replace hB := hB.trans (hb2.mono hB.size)
  clear hb2 KS hT1
  have hZ := hd_newz w3
  go_upto_region 6 with (with_reducible refine hd_store rfl _ _ rfl _ _ x rfl rfl rfl zx hZ hz0 ?_)
  have hX : HdAt ((w3.alloc (.cells Tryd.zeroCells25 25)).setRow w3.heap.size (hdA x)) w3.heap.size x := Has.row hZ _
  have hb4 : Below w3.heap.size w3 ((w3.alloc (.cells Tryd.zeroCells25 25)).setRow w3.heap.size (hdA x)) := below_setRow ((Below.refl _ _).alloc (Nat.le_refl _) _) (Nat.le_refl _) _
  have hHX : w.heap.size < w3.heap.size := hH.lt
  replace hH := hH.on hb4
  replace hB := hB.trans (hb4.mono hB.size)
  clear hZ hb4
  generalize World.setRow _ _ _ = w4 at *
  generalize w3.heap.size = X at *
  have c1 := hH.bits ho
  go_wp2_with fail
  refine (KD.out w4).mono ?_
  rintro r w5 ⟨rfl, hb5⟩
  replace hH := hH.on hb5
  replace hX := hX.on hb5
  replace hB := hB.trans (hb5.mono hB.size)
  clear hb5 c1 KD
  have hZN := NN.Has.newz (w := w5) 54
  go_upto_region 7 with (with_reducible refine NN.num_store rfl _ _ rfl _ _ rfl rfl _ hZN rfl ?_)
  have hN : NN.Has ((w5.alloc (.cells #[.int .u64 0, .int .u64 0, .int .u64 0, .int .u64 0] 54)).setRow w5.heap.size (NN.numC z)) w5.heap.size (NN.numC z) 54 := NN.Has.row hZN _
  have hb3 : Below w5.heap.size w5 ((w5.alloc (.cells #[.int .u64 0, .int .u64 0, .int .u64 0, .int .u64 0] 54)).setRow w5.heap.size (NN.numC z)) := below_setRow ((Below.refl _ _).alloc (Nat.le_refl _) _) (Nat.le_refl _) _
  have hNX : X < w5.heap.size := hX.lt
  replace hH := hH.on hb3
  replace hX := hX.on hb3
  replace hB := hB.trans (hb3.mono hB.size)
  clear hZN hb3
  generalize World.setRow _ _ _ = w6 at *
  generalize w5.heap.size = T at *
  go_wp2_with (with_reducible refine hd_load rfl _ rfl w.heap.size rfl hH za ?_)
  refine (KG.out w6).mono ?_
  rintro r w7 ⟨rfl, hb7⟩
  replace hH := hH.on hb7
  replace hX := hX.on hb7
  replace hN := NN.Has.on hN hb7
  replace hB := hB.trans (hb7.mono hB.size)
  clear hb7 KG
  go_upto_region 10 with fail
  go_loopw [10] (fun i wr => ∃ k : Nat, k ≤ K ∧ i = .int .i64 (k : Int) ∧ HdAt wr w.heap.size (h.at k) ∧ HdAt wr X x ∧ NN.Has wr T (NN.numC z) 54 ∧ Below w.heap.size w wr) (fun i _ => K - (intOf i).toNat)
  case atStart => exact ⟨0, Nat.zero_le _, rfl, hH, hX, hN, hB⟩
  case round =>
    clear hH hX hN hB
    obtain ⟨k, hk, rfl, hH, hX, hN, hB⟩ := hrel
    have okk := Hd.at_ok HO.out k
    have zk := hdA_size okk
    have zc := hdC_length okk
    by_cases hlt : k < K
    · have f1 : (k : Int) < tries := by have := HK.out; omega
      have KL := Lib.hid (less_of z (numOf (h.at k).id) hzb (numOf_lt _) true (decide_eq_true (by rw [HZT.out]; exact HALL.out k hlt)))
      have KI := Lib.hid (fun w => rid_at (h.at k) okk w)
      have KN := Lib.hid (fun w => number_of (h.at k).id (id_length _) w)
      have q1 := range_cls hH.range (hdC_length okk ▸ (by omega))
      have q2 := NN.Has.cls hN
      generalize numOf (h.at k).id = nm at *
      generalize bytesV (h.at k).id = ci at *
      go_wp2_with fail
      refine wp_region_quiet_below (by kernel_rfl) (by kernel_rfl) ?_
      repeat (first
        | (go_big_quiet_want; (with_reducible refine quiet_hd_mid _ rfl w.heap.size 0 rfl (h.at k) zc q1 ?_); (simp only [Act.put, List.setIfInBounds_toArray, List.set_cons_zero, List.set_cons_succ]); go_big_quiet_on)
        | (go_big_quiet_want; (with_reducible refine NN.quiet_load_num _ rfl T rfl z q2 ?_); (simp only [Act.put, List.setIfInBounds_toArray, List.set_cons_zero, List.set_cons_succ]); go_big_quiet_on)
        | go_big_quiet_step ((first | (go_at_call 15; exact Calls.regrown_of (KI.out _)) | (go_at_call 26; exact Calls.regrown_of (KN.out _)) | (go_at_call 25; exact Calls.regrown_of (KL.out _)))))
      refine wpQuiet_nil ?_
      intro _ hw'
      obtain ⟨p, hw''⟩ := hw'
      subst hw''
      have hb7 := below_regrown wr p.d p.os
      replace hH := hH.on hb7
      replace hX := hX.on hb7
      replace hN := NN.Has.on hN hb7
      replace hB := hB.trans (hb7.mono hB.size)
      clear q1 q2 KI KN KL hb7
      generalize Sort.grow (redrawn wr p.d) p.os = w9 at *
      obtain ⟨_, _, _, _, _, _, n1, n2⟩ := Hd.at_P HP.out k
      have hXn := hH.setNonce okk (((h.at k).nonce + 1) % 4294967296)
      have hnx := Hd.at_next h k
      have cN := hH.nonce okk
      have fN := hH.free 67
      rw [← hnx] at hXn
      have HXN := Lib.hid hXn
      have hX2 : HdAt (w9.setCell ⟨w.heap.size, 67, none⟩ (.int .i64 (((h.at k).nonce + 1) % 4294967296))) X x := Has.other hX _ _ (by show X ≠ w.heap.size; omega)
      have hN2 : NN.Has (w9.setCell ⟨w.heap.size, 67, none⟩ (.int .i64 (((h.at k).nonce + 1) % 4294967296))) T (NN.numC z) 54 := NN.Has.other hN _ _ (by show T ≠ w.heap.size; omega)
      have hB2 := hB.setCell (p := ⟨w.heap.size, 67, none⟩) (Nat.le_refl _) (.int .i64 (((h.at k).nonce + 1) % 4294967296))
      clear hXn hnx hX hN hB
      generalize hnc : (h.at k).nonce = nc at *
      obtain ⟨nn, hnn⟩ : ∃ nn, nn = (nc + 1) % 4294967296 := ⟨_, rfl⟩
      rw [← hnn] at HXN hX2 hN2 hB2
      have e0 : IntKind.i64.wrap (nc + 1) = nc + 1 := by rw [IntKind.wrap_i64]; omega
      have e1 : (nc + 1).tmod 4294967296 = nn := by rw [hnn]; exact Int.tmod_eq_emod_of_nonneg (by omega)
      have e3 : IntKind.i64.wrap nn = nn := by rw [IntKind.wrap_i64]; omega
      have hnn0 := hnn
      clear hnn hnc
      go_wp2_with fail
      rw [← hnn0]
      go_roundw
      case rel => exact ⟨k + 1, by omega, by go_num, HXN.out, hX2, hN2, hB2⟩
      case measure => simp [intOf]; omega
    · obtain rfl : k = K := by omega
      have f1 : (k : Int) < tries := HK.out
      have KL := Lib.hid (less_of z (numOf (h.at k).id) hzb (numOf_lt _) false (decide_eq_false (by rw [HZT.out]; exact HM.out)))
      have qe := hd_eql x (h.at k) OX.out okk true (by rw [HX.out]; simp)
      have KI := Lib.hid (fun w => rid_at (h.at k) okk w)
      have KN := Lib.hid (fun w => number_of (h.at k).id (id_length _) w)
      have q1 := range_cls hH.range (hdC_length okk ▸ (by omega))
      have q2 := NN.Has.cls hN
      generalize numOf (h.at k).id = nm at *
      generalize bytesV (h.at k).id = ci at *
      go_wp2_with fail
      refine wp_region_quiet_below (by kernel_rfl) (by kernel_rfl) ?_
      repeat (first
        | (go_big_quiet_want; (with_reducible refine quiet_hd_mid _ rfl w.heap.size 0 rfl (h.at k) zc q1 ?_); (simp only [Act.put, List.setIfInBounds_toArray, List.set_cons_zero, List.set_cons_succ]); go_big_quiet_on)
        | (go_big_quiet_want; (with_reducible refine NN.quiet_load_num _ rfl T rfl z q2 ?_); (simp only [Act.put, List.setIfInBounds_toArray, List.set_cons_zero, List.set_cons_succ]); go_big_quiet_on)
        | go_big_quiet_step ((first | (go_at_call 15; exact Calls.regrown_of (KI.out _)) | (go_at_call 26; exact Calls.regrown_of (KN.out _)) | (go_at_call 25; exact Calls.regrown_of (KL.out _)))))
      refine wpQuiet_nil ?_
      intro _ hw'
      obtain ⟨p, hw''⟩ := hw'
      subst hw''
      have hb7 := below_regrown wr p.d p.os
      replace hH := hH.on hb7
      replace hX := hX.on hb7
      replace hN := NN.Has.on hN hb7
      replace hB := hB.trans (hb7.mono hB.size)
      clear q1 q2 KI KN KL hb7
      generalize Sort.grow (redrawn wr p.d) p.os = w9 at *
      go_wp2_with (first
        | (with_reducible refine hd_load_g (by with_unfolding_all rfl) _ rfl w.heap.size rfl hH zk ?_)
        | (with_reducible refine hd_load_g (by with_unfolding_all rfl) _ rfl X rfl hX zx ?_)
        | (with_reducible refine hdeql_g (by with_unfolding_all rfl) _ _ _ rfl _ _ _ rfl rfl qe ?_))
      go_ret
      exact ⟨rfl, hB⟩
set_option maxRecDepth 100000 in
set_option maxHeartbeats 2000000 in
theorem hseeks_none (h : Hd) (ho : h.ok) (hg : h.P ∧ NN.Nm.decLow h.bits.toNat = false ∧ NN.Nm.decOver h.bits.toNat = false) (tries : Int) (hn : tries ≤ 40) (hall : ∀ j, j < tries.toNat → h.above j) (w : World) (hT : Tab w) :
    Calls Tryd.prog 6 #[.agg (hdA h), .int .i64 tries] w fun r w' => r = .returned (.bool true) ∧ Below w.heap.size w w' := by
  have t1 : decide (40 < tries) = false := decide_eq_false (by omega)
  have za := hdA_size ho
  have hz0 := hdA_size hdZ_ok
  have CG := rgood_at h ho
  rw [decide_eq_true hg.1] at CG
  have KG := Lib.hid CG
  have CD := (decode_hd h hg.1).2
  rw [hg.2.1, hg.2.2] at CD
  have KD := Lib.hid CD
  have CS := fun w hT => seek_none h ho hg tries (by omega) hall w hT
  obtain ⟨x, hx⟩ : ∃ x, x = h.at tries.toNat := ⟨_, rfl⟩
  rw [← hx] at CS
  have KS := Lib.hid CS
  have OX : Hid x.ok := Lib.hid (by rw [hx]; exact Hd.at_ok ho _)
  have zx := hdA_size OX.out
  have HX := Lib.hid hx
  have HP := Lib.hid hg.1
  have HO := Lib.hid ho
  have hzb := tgt_lt h
  obtain ⟨z, hzt⟩ : ∃ z, z = h.tgt := ⟨_, rfl⟩
  rw [← hzt] at KD hzb
  have HZT := Lib.hid hzt
  have HALL := Lib.hid hall
  clear CG CD CS hg hzt hx hall
  go_enter Tryd.func6, Tryd.ntmps6
  go_upto_region 1 with fail
  generalize hw1 : World.alloc _ _ = w1
  have hH : HdAt w1 w.heap.size h := by rw [← hw1]; exact hd_new w h
  have hB : Below w.heap.size w w1 := by rw [← hw1]; exact (Below.refl _ _).alloc (Nat.le_refl _) _
  clear hw1
  have hT1 := hT.below hB
  go_wp2_with fail
  refine (halive w1 hT1).mono ?_
  rintro r w2 ⟨rfl, hb2⟩
  replace hH := hH.on hb2
  replace hT1 := hT1.below hb2
  replace hB := hB.trans (hb2.mono hB.size)
  clear hb2
  go_wp2_with (with_reducible refine hd_load rfl _ rfl w.heap.size rfl hH za ?_)
  refine (KS.out w2 hT1).mono ?_
  rintro r w3 ⟨rfl, hb2⟩
  replace hH := hH.on hb2
  replace hB := hB.trans (hb2.mono hB.size)
  clear hb2 KS hT1
  have hZ := hd_newz w3
  go_upto_region 6 with (with_reducible refine hd_store rfl _ _ rfl _ _ x rfl rfl rfl zx hZ hz0 ?_)
  have hX : HdAt ((w3.alloc (.cells Tryd.zeroCells25 25)).setRow w3.heap.size (hdA x)) w3.heap.size x := Has.row hZ _
  have hb4 : Below w3.heap.size w3 ((w3.alloc (.cells Tryd.zeroCells25 25)).setRow w3.heap.size (hdA x)) := below_setRow ((Below.refl _ _).alloc (Nat.le_refl _) _) (Nat.le_refl _) _
  have hHX : w.heap.size < w3.heap.size := hH.lt
  replace hH := hH.on hb4
  replace hB := hB.trans (hb4.mono hB.size)
  clear hZ hb4
  generalize World.setRow _ _ _ = w4 at *
  generalize w3.heap.size = X at *
  have c1 := hH.bits ho
  go_wp2_with fail
  refine (KD.out w4).mono ?_
  rintro r w5 ⟨rfl, hb5⟩
  replace hH := hH.on hb5
  replace hX := hX.on hb5
  replace hB := hB.trans (hb5.mono hB.size)
  clear hb5 c1 KD
  have hZN := NN.Has.newz (w := w5) 54
  go_upto_region 7 with (with_reducible refine NN.num_store rfl _ _ rfl _ _ rfl rfl _ hZN rfl ?_)
  have hN : NN.Has ((w5.alloc (.cells #[.int .u64 0, .int .u64 0, .int .u64 0, .int .u64 0] 54)).setRow w5.heap.size (NN.numC z)) w5.heap.size (NN.numC z) 54 := NN.Has.row hZN _
  have hb3 : Below w5.heap.size w5 ((w5.alloc (.cells #[.int .u64 0, .int .u64 0, .int .u64 0, .int .u64 0] 54)).setRow w5.heap.size (NN.numC z)) := below_setRow ((Below.refl _ _).alloc (Nat.le_refl _) _) (Nat.le_refl _) _
  have hNX : X < w5.heap.size := hX.lt
  replace hH := hH.on hb3
  replace hX := hX.on hb3
  replace hB := hB.trans (hb3.mono hB.size)
  clear hZN hb3
  generalize World.setRow _ _ _ = w6 at *
  generalize w5.heap.size = T at *
  go_wp2_with (with_reducible refine hd_load rfl _ rfl w.heap.size rfl hH za ?_)
  refine (KG.out w6).mono ?_
  rintro r w7 ⟨rfl, hb7⟩
  replace hH := hH.on hb7
  replace hX := hX.on hb7
  replace hN := NN.Has.on hN hb7
  replace hB := hB.trans (hb7.mono hB.size)
  clear hb7 KG
  go_upto_region 10 with fail
  go_loopw [10] (fun i wr => ∃ k : Nat, k ≤ tries.toNat ∧ i = .int .i64 (k : Int) ∧ HdAt wr w.heap.size (h.at k) ∧ HdAt wr X x ∧ NN.Has wr T (NN.numC z) 54 ∧ Below w.heap.size w wr) (fun i _ => tries.toNat - (intOf i).toNat)
  case atStart => exact ⟨0, Nat.zero_le _, rfl, hH, hX, hN, hB⟩
  case round =>
    clear hH hX hN hB
    obtain ⟨k, hk, rfl, hH, hX, hN, hB⟩ := hrel
    have okk := Hd.at_ok HO.out k
    have zk := hdA_size okk
    have zc := hdC_length okk
    by_cases hlt : k < tries.toNat
    · have f1 : (k : Int) < tries := by omega
      have KL := Lib.hid (less_of z (numOf (h.at k).id) hzb (numOf_lt _) true (decide_eq_true (by rw [HZT.out]; exact HALL.out k hlt)))
      have KI := Lib.hid (fun w => rid_at (h.at k) okk w)
      have KN := Lib.hid (fun w => number_of (h.at k).id (id_length _) w)
      have q1 := range_cls hH.range (hdC_length okk ▸ (by omega))
      have q2 := NN.Has.cls hN
      generalize numOf (h.at k).id = nm at *
      generalize bytesV (h.at k).id = ci at *
      go_wp2_with fail
      refine wp_region_quiet_below (by kernel_rfl) (by kernel_rfl) ?_
      repeat (first
        | (go_big_quiet_want; (with_reducible refine quiet_hd_mid _ rfl w.heap.size 0 rfl (h.at k) zc q1 ?_); (simp only [Act.put, List.setIfInBounds_toArray, List.set_cons_zero, List.set_cons_succ]); go_big_quiet_on)
        | (go_big_quiet_want; (with_reducible refine NN.quiet_load_num _ rfl T rfl z q2 ?_); (simp only [Act.put, List.setIfInBounds_toArray, List.set_cons_zero, List.set_cons_succ]); go_big_quiet_on)
        | go_big_quiet_step ((first | (go_at_call 15; exact Calls.regrown_of (KI.out _)) | (go_at_call 26; exact Calls.regrown_of (KN.out _)) | (go_at_call 25; exact Calls.regrown_of (KL.out _)))))
      refine wpQuiet_nil ?_
      intro _ hw'
      obtain ⟨p, hw''⟩ := hw'
      subst hw''
      have hb7 := below_regrown wr p.d p.os
      replace hH := hH.on hb7
      replace hX := hX.on hb7
      replace hN := NN.Has.on hN hb7
      replace hB := hB.trans (hb7.mono hB.size)
      clear q1 q2 KI KN KL hb7
      generalize Sort.grow (redrawn wr p.d) p.os = w9 at *
      obtain ⟨_, _, _, _, _, _, n1, n2⟩ := Hd.at_P HP.out k
      have hXn := hH.setNonce okk (((h.at k).nonce + 1) % 4294967296)
      have hnx := Hd.at_next h k
      have cN := hH.nonce okk
      have fN := hH.free 67
      rw [← hnx] at hXn
      have HXN := Lib.hid hXn
      have hX2 : HdAt (w9.setCell ⟨w.heap.size, 67, none⟩ (.int .i64 (((h.at k).nonce + 1) % 4294967296))) X x := Has.other hX _ _ (by show X ≠ w.heap.size; omega)
      have hN2 : NN.Has (w9.setCell ⟨w.heap.size, 67, none⟩ (.int .i64 (((h.at k).nonce + 1) % 4294967296))) T (NN.numC z) 54 := NN.Has.other hN _ _ (by show T ≠ w.heap.size; omega)
      have hB2 := hB.setCell (p := ⟨w.heap.size, 67, none⟩) (Nat.le_refl _) (.int .i64 (((h.at k).nonce + 1) % 4294967296))
      clear hXn hnx hX hN hB
      generalize hnc : (h.at k).nonce = nc at *
      obtain ⟨nn, hnn⟩ : ∃ nn, nn = (nc + 1) % 4294967296 := ⟨_, rfl⟩
      rw [← hnn] at HXN hX2 hN2 hB2
      have e0 : IntKind.i64.wrap (nc + 1) = nc + 1 := by rw [IntKind.wrap_i64]; omega
      have e1 : (nc + 1).tmod 4294967296 = nn := by rw [hnn]; exact Int.tmod_eq_emod_of_nonneg (by omega)
      have e3 : IntKind.i64.wrap nn = nn := by rw [IntKind.wrap_i64]; omega
      have hnn0 := hnn
      clear hnn hnc
      go_wp2_with fail
      rw [← hnn0]
      go_roundw
      case rel => exact ⟨k + 1, by omega, by go_num, HXN.out, hX2, hN2, hB2⟩
      case measure => simp [intOf]; omega
    · obtain rfl : k = tries.toNat := by omega
      have f1 : decide (((tries.toNat : Nat) : Int) < tries) = false := decide_eq_false (by omega)
      have qe := hd_eql x (h.at tries.toNat) OX.out okk true (by rw [HX.out]; simp)
      clear hlt hk
      generalize tries.toNat = k at *
      go_wp2_with (first
        | (with_reducible refine hd_load_g (by with_unfolding_all rfl) _ rfl w.heap.size rfl hH zk ?_)
        | (with_reducible refine hd_load_g (by with_unfolding_all rfl) _ rfl X rfl hX zx ?_)
        | (with_reducible refine hdeql_g (by with_unfolding_all rfl) _ _ _ rfl _ _ _ rfl rfl qe ?_))
      go_ret
      exact ⟨rfl, hB⟩
theorem seeks_walk (h : Hd) (hf : h.ok) (tries : Int) (w : World) (hT : Tab w) :
    Calls Tryd.prog 6 #[.agg (hdA h), .int .i64 tries] w fun r w' => r = .returned (.bool true) ∧ Below w.heap.size w w' := by
  by_cases hn : 40 < tries
  · exact hseeks_many h tries hn w hT
  by_cases hb : h.bad
  · by_cases hp : h.P
    · cases hl : NN.Nm.decLow h.bits.toNat
      · rcases hb with hb | hb | hb
        · exact absurd hp hb
        · rw [hl] at hb; cases hb
        · exact hseeks_over h hf hp hl hb tries (by omega) w hT
      · exact hseeks_low h hf hp hl tries (by omega) w hT
    · exact hseeks_no h hf hp tries (by omega) w hT
  · have hg := Hd.good_parts hb
    rcases first_or_none h.above tries.toNat with ⟨K, hK, hm, hall⟩ | hall
    · exact hseeks_found h hf hg tries (by omega) K (by omega) hm hall w hT
    · exact hseeks_none h hf hg tries (by omega) hall w hT
end Go.Proofs.YtfnicmmebphpkaaDoor
