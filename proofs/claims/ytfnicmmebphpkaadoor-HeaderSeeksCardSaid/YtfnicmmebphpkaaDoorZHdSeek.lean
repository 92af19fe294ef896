/-
  header: Seek.
-/
import Derived.Test.YtfnicmmebphpkaaDoorZHdSeekM
import Derived.Test.YtfnicmmebphpkaaDoorBunH
import Derived.Test.YtfnicmmebphpkaaDoorBunG
import Derived.Test.YtfnicmmebphpkaaDoorBunU
namespace Go.Proofs.YtfnicmmebphpkaaDoor
open Go.RowKit Mem Sc
/-! ### names as the templates of numbers hold them -/
theorem nnc (l : List UInt8) (hl : l.length = 32) : NN.hashC (byteF l) = bytesV l := by
  unfold NN.hashC bytesV
  congr 1
  apply List.ext_getElem?
  intro i
  by_cases hi : i < 32
  · simp [byteF, hi, hl]
  · simp [hi, hl]
theorem meets_at (l : List UInt8) (hl : l.length = 32) (t : Nat) (ht : t < NN.Nm.big) (g : Bool) (hg : (!decide (t < numOf l)) = g) (w : World) :
    Calls Tryd.prog 39 #[.agg (bytesV l), .agg (NN.numC t)] w fun e w' => e = .returned (.bool g) ∧ Below w.heap.size w w' := by
  rw [← nnc l hl, ← hg]; exact NN.meets (byteF l) t (byteF_lt l) ht w
theorem number_of (l : List UInt8) (hl : l.length = 32) (w : World) :
    Calls Tryd.prog 26 #[.agg (bytesV l)] w fun e w' => e = .returned (.agg (NN.numC (numOf l))) ∧ Below w.heap.size w w' := by
  rw [← nnc l hl]; exact NN.ref_number (byteF l) (byteF_lt l) w
theorem less_of (t n : Nat) (ht : t < NN.Nm.big) (hn : n < NN.Nm.big) (g : Bool) (hg : decide (t < n) = g) (w : World) :
    Calls Tryd.prog 25 #[.agg (NN.numC t), .agg (NN.numC n)] w fun e w' => e = .returned (.bool g) ∧ Below w.heap.size w w' := by
  rw [← hg]; exact NN.ref_less t n ht hn w
theorem decN_lt {n : Nat} : NN.Nm.decN n < NN.Nm.big := NN.Nm.mv_lt (Nat.lt_trans (Nat.mod_lt _ (by decide : 0 < 8388608)) (by decide)) _
/-- any bits: the same target to the code and the reference -/
theorem decode_any (b : Int) : ∃ z low over, z < NN.Nm.big ∧ (∀ w, Calls Tryd.prog 38 #[.int .i64 b] w fun e w' => e = .returned (.tuple #[.agg (NN.numC z), .bool low, .bool over]) ∧ Below w.heap.size w w') ∧
    (∀ w, Calls Tryd.prog 24 #[.int .i64 b] w fun e w' => e = .returned (.tuple #[.agg (NN.numC z), .bool low, .bool over]) ∧ Below w.heap.size w w') := by
  by_cases h : 0 ≤ b ∧ b ≤ 4294967295
  · obtain ⟨n, rfl⟩ := Int.eq_ofNat_of_zero_le h.1
    exact ⟨_, _, _, decN_lt, fun w => NN.decode_yes n (by omega) w, fun w => NN.ref_decode_yes n (by omega) w⟩
  · exact ⟨_, _, _, by decide, fun w => NN.decode_no b h w, fun w => NN.ref_decode_no b h w⟩
/-- .. of a header that can be -/
theorem decode_hd (h : Hd) (hp : h.P) : (∀ w, Calls Tryd.prog 38 #[.int .i64 h.bits] w fun e w' => e = .returned (.tuple #[.agg (NN.numC h.tgt), .bool (NN.Nm.decLow h.bits.toNat), .bool (NN.Nm.decOver h.bits.toNat)]) ∧ Below w.heap.size w w') ∧
    (∀ w, Calls Tryd.prog 24 #[.int .i64 h.bits] w fun e w' => e = .returned (.tuple #[.agg (NN.numC h.tgt), .bool (NN.Nm.decLow h.bits.toNat), .bool (NN.Nm.decOver h.bits.toNat)]) ∧ Below w.heap.size w w') := by
  obtain ⟨_, _, _, _, p5, p6, _, _⟩ := hp
  unfold Hd.tgt
  obtain ⟨n, hn⟩ := Int.eq_ofNat_of_zero_le p5
  rw [hn, Int.toNat_natCast]
  exact ⟨fun w => NN.decode_yes n (by omega) w, fun w => NN.ref_decode_yes n (by omega) w⟩
theorem tgt_lt (h : Hd) : h.tgt < NN.Nm.big := decN_lt
theorem TabGrow {w : World} (h : Tab w) : ∀ d os, Tab (Sort.grow (redrawn w d) os) := fun d os => h.below (below_regrown w d os)
/-! ### Seek -/
set_option maxRecDepth 100000 in
set_option maxHeartbeats 2000000 in
theorem seek_no (h : Hd) (ho : h.ok) (hp : ¬ h.P) (tries : Int) (w : World) :
    Calls Tryd.prog 23 #[.agg (hdA h), .int .i64 tries] w fun r w' => r = .returned (.tuple #[.agg (hdA h), .bool false]) ∧ Below w.heap.size w w' := by
  have za := hdA_size ho
  have hz0 := hdA_size hdZ_ok
  have CG := good_at h ho
  rw [decide_eq_false hp] at CG
  have KG := Lib.hid CG
  obtain ⟨z, low, over, _, CD, _⟩ := decode_any h.bits
  have KD := Lib.hid CD
  clear CG CD hp
  go_enter Tryd.func23, Tryd.ntmps23
  go_upto_region 1 with fail
  generalize hw1 : World.alloc _ _ = w1
  have hH : HdAt w1 w.heap.size h := by rw [← hw1]; exact (hd_new w h).on ((Below.refl _ _).alloc (Nat.le_refl _) _)
  have hR : HdAt w1 (w.heap.size + 1) hdZ := by rw [← hw1]; exact hd_new1 w _ hdZ
  have hB : Below w.heap.size w w1 := by rw [← hw1]; exact ((Below.refl _ _).alloc (Nat.le_refl _) _).alloc (by simp) _
  clear hw1
  have c1 := hH.bits ho
  go_wp2_with fail
  refine (KD.out w1).mono ?_
  rintro r w2 ⟨rfl, hb2⟩
  replace hH := hH.on hb2
  replace hR := hR.on hb2
  replace hB := hB.trans (hb2.mono hB.size)
  clear hb2 c1
  have hZN := NN.Has.newz (w := w2) 54
  go_upto_region 2 with (with_reducible refine NN.num_store rfl _ _ rfl _ _ rfl rfl _ hZN rfl ?_)
  have hN : NN.Has ((w2.alloc (.cells #[.int .u64 0, .int .u64 0, .int .u64 0, .int .u64 0] 54)).setRow w2.heap.size (NN.numC z)) w2.heap.size (NN.numC z) 54 := NN.Has.row hZN _
  have hb3 : Below w2.heap.size w2 ((w2.alloc (.cells #[.int .u64 0, .int .u64 0, .int .u64 0, .int .u64 0] 54)).setRow w2.heap.size (NN.numC z)) := below_setRow ((Below.refl _ _).alloc (Nat.le_refl _) _) (Nat.le_refl _) _
  have hNR : w.heap.size + 1 < w2.heap.size := hR.lt
  replace hH := hH.on hb3
  replace hR := hR.on hb3
  replace hB := hB.trans (hb3.mono hB.size)
  clear hZN hb3
  generalize World.setRow _ _ _ = w3 at *
  generalize w2.heap.size = T at *
  go_wp2_with (with_reducible refine hd_load rfl _ rfl w.heap.size rfl hH za ?_)
  refine (KG.out w3).mono ?_
  rintro r w4 ⟨rfl, hb4⟩
  replace hH := hH.on hb4
  replace hR := hR.on hb4
  replace hN := NN.Has.on hN hb4
  replace hB := hB.trans (hb4.mono hB.size)
  clear hb4
  go_wp2_with (first
    | (with_reducible refine hd_load rfl _ rfl w.heap.size rfl hH za ?_)
    | (with_reducible refine hd_store rfl _ _ rfl _ _ h rfl rfl rfl za hR hz0 ?_))
  exact bodyPost_ret (v := .tuple #[.agg (hdA h), .bool false]) (hd_results2 Tryd.results23 _ _ _ rfl rfl (Has.row hR _) za) rfl ⟨rfl, below_setRow hB (by omega) _⟩
set_option maxRecDepth 100000 in
set_option maxHeartbeats 2000000 in
theorem seek_low (h : Hd) (ho : h.ok) (hp : h.P) (hl : NN.Nm.decLow h.bits.toNat = true) (tries : Int) (w : World) :
    Calls Tryd.prog 23 #[.agg (hdA h), .int .i64 tries] w fun r w' => r = .returned (.tuple #[.agg (hdA h), .bool false]) ∧ Below w.heap.size w w' := by
  have za := hdA_size ho
  have hz0 := hdA_size hdZ_ok
  have CG := good_at h ho
  rw [decide_eq_true hp] at CG
  have KG := Lib.hid CG
  have CD := (decode_hd h hp).1
  rw [hl] at CD
  have KD := Lib.hid CD
  generalize NN.Nm.decOver h.bits.toNat = ov at *
  generalize h.tgt = z at *
  clear CG CD hp hl
  go_enter Tryd.func23, Tryd.ntmps23
  go_upto_region 1 with fail
  generalize hw1 : World.alloc _ _ = w1
  have hH : HdAt w1 w.heap.size h := by rw [← hw1]; exact (hd_new w h).on ((Below.refl _ _).alloc (Nat.le_refl _) _)
  have hR : HdAt w1 (w.heap.size + 1) hdZ := by rw [← hw1]; exact hd_new1 w _ hdZ
  have hB : Below w.heap.size w w1 := by rw [← hw1]; exact ((Below.refl _ _).alloc (Nat.le_refl _) _).alloc (by simp) _
  clear hw1
  have c1 := hH.bits ho
  go_wp2_with fail
  refine (KD.out w1).mono ?_
  rintro r w2 ⟨rfl, hb2⟩
  replace hH := hH.on hb2
  replace hR := hR.on hb2
  replace hB := hB.trans (hb2.mono hB.size)
  clear hb2 c1
  have hZN := NN.Has.newz (w := w2) 54
  go_upto_region 2 with (with_reducible refine NN.num_store rfl _ _ rfl _ _ rfl rfl _ hZN rfl ?_)
  have hN : NN.Has ((w2.alloc (.cells #[.int .u64 0, .int .u64 0, .int .u64 0, .int .u64 0] 54)).setRow w2.heap.size (NN.numC z)) w2.heap.size (NN.numC z) 54 := NN.Has.row hZN _
  have hb3 : Below w2.heap.size w2 ((w2.alloc (.cells #[.int .u64 0, .int .u64 0, .int .u64 0, .int .u64 0] 54)).setRow w2.heap.size (NN.numC z)) := below_setRow ((Below.refl _ _).alloc (Nat.le_refl _) _) (Nat.le_refl _) _
  have hNR : w.heap.size + 1 < w2.heap.size := hR.lt
  replace hH := hH.on hb3
  replace hR := hR.on hb3
  replace hB := hB.trans (hb3.mono hB.size)
  clear hZN hb3
  generalize World.setRow _ _ _ = w3 at *
  generalize w2.heap.size = T at *
  go_wp2_with (with_reducible refine hd_load rfl _ rfl w.heap.size rfl hH za ?_)
  refine (KG.out w3).mono ?_
  rintro r w4 ⟨rfl, hb4⟩
  replace hH := hH.on hb4
  replace hR := hR.on hb4
  replace hN := NN.Has.on hN hb4
  replace hB := hB.trans (hb4.mono hB.size)
  clear hb4
  go_wp2_with (first
    | (with_reducible refine hd_load rfl _ rfl w.heap.size rfl hH za ?_)
    | (with_reducible refine hd_store rfl _ _ rfl _ _ h rfl rfl rfl za hR hz0 ?_))
  exact bodyPost_ret (v := .tuple #[.agg (hdA h), .bool false]) (hd_results2 Tryd.results23 _ _ _ rfl rfl (Has.row hR _) za) rfl ⟨rfl, below_setRow hB (by omega) _⟩
set_option maxRecDepth 100000 in
set_option maxHeartbeats 2000000 in
theorem seek_over (h : Hd) (ho : h.ok) (hp : h.P) (hl : NN.Nm.decLow h.bits.toNat = false) (hv : NN.Nm.decOver h.bits.toNat = true) (tries : Int) (w : World) :
    Calls Tryd.prog 23 #[.agg (hdA h), .int .i64 tries] w fun r w' => r = .returned (.tuple #[.agg (hdA h), .bool false]) ∧ Below w.heap.size w w' := by
  have za := hdA_size ho
  have hz0 := hdA_size hdZ_ok
  have CG := good_at h ho
  rw [decide_eq_true hp] at CG
  have KG := Lib.hid CG
  have CD := (decode_hd h hp).1
  rw [hl, hv] at CD
  have KD := Lib.hid CD
  generalize h.tgt = z at *
  clear CG CD hp hl hv
  go_enter Tryd.func23, Tryd.ntmps23
  go_upto_region 1 with fail
  generalize hw1 : World.alloc _ _ = w1
  have hH : HdAt w1 w.heap.size h := by rw [← hw1]; exact (hd_new w h).on ((Below.refl _ _).alloc (Nat.le_refl _) _)
  have hR : HdAt w1 (w.heap.size + 1) hdZ := by rw [← hw1]; exact hd_new1 w _ hdZ
  have hB : Below w.heap.size w w1 := by rw [← hw1]; exact ((Below.refl _ _).alloc (Nat.le_refl _) _).alloc (by simp) _
  clear hw1
  have c1 := hH.bits ho
  go_wp2_with fail
  refine (KD.out w1).mono ?_
  rintro r w2 ⟨rfl, hb2⟩
  replace hH := hH.on hb2
  replace hR := hR.on hb2
  replace hB := hB.trans (hb2.mono hB.size)
  clear hb2 c1
  have hZN := NN.Has.newz (w := w2) 54
  go_upto_region 2 with (with_reducible refine NN.num_store rfl _ _ rfl _ _ rfl rfl _ hZN rfl ?_)
  have hN : NN.Has ((w2.alloc (.cells #[.int .u64 0, .int .u64 0, .int .u64 0, .int .u64 0] 54)).setRow w2.heap.size (NN.numC z)) w2.heap.size (NN.numC z) 54 := NN.Has.row hZN _
  have hb3 : Below w2.heap.size w2 ((w2.alloc (.cells #[.int .u64 0, .int .u64 0, .int .u64 0, .int .u64 0] 54)).setRow w2.heap.size (NN.numC z)) := below_setRow ((Below.refl _ _).alloc (Nat.le_refl _) _) (Nat.le_refl _) _
  have hNR : w.heap.size + 1 < w2.heap.size := hR.lt
  replace hH := hH.on hb3
  replace hR := hR.on hb3
  replace hB := hB.trans (hb3.mono hB.size)
  clear hZN hb3
  generalize World.setRow _ _ _ = w3 at *
  generalize w2.heap.size = T at *
  go_wp2_with (with_reducible refine hd_load rfl _ rfl w.heap.size rfl hH za ?_)
  refine (KG.out w3).mono ?_
  rintro r w4 ⟨rfl, hb4⟩
  replace hH := hH.on hb4
  replace hR := hR.on hb4
  replace hN := NN.Has.on hN hb4
  replace hB := hB.trans (hb4.mono hB.size)
  clear hb4
  go_wp2_with (first
    | (with_reducible refine hd_load rfl _ rfl w.heap.size rfl hH za ?_)
    | (with_reducible refine hd_store rfl _ _ rfl _ _ h rfl rfl rfl za hR hz0 ?_))
  exact bodyPost_ret (v := .tuple #[.agg (hdA h), .bool false]) (hd_results2 Tryd.results23 _ _ _ rfl rfl (Has.row hR _) za) rfl ⟨rfl, below_setRow hB (by omega) _⟩
set_option maxRecDepth 100000 in
set_option maxHeartbeats 2000000 in
theorem seek_found (h : Hd) (ho : h.ok) (hg : h.P ∧ NN.Nm.decLow h.bits.toNat = false ∧ NN.Nm.decOver h.bits.toNat = false) (tries : Int) (ht : tries ≤ 9223372036854775807) (K : Nat) (hK : (K : Int) < tries) (hm : ¬ h.above K) (hall : ∀ j, j < K → h.above j) (w : World) (hT : Tab w) :
    Calls Tryd.prog 23 #[.agg (hdA h), .int .i64 tries] w fun r w' => r = .returned (.tuple #[.agg (hdA (h.at K)), .bool true]) ∧ Below w.heap.size w w' := by
  have za := hdA_size ho
  have hz0 := hdA_size hdZ_ok
  have HK := Lib.hid hK
  have HM := Lib.hid hm
  have HALL := Lib.hid hall
  clear hK hm hall
  have CG := good_at h ho
  rw [decide_eq_true hg.1] at CG
  have KG := Lib.hid CG
  have CD := (decode_hd h hg.1).1
  rw [hg.2.1, hg.2.2] at CD
  have KD := Lib.hid CD
  have HP := Lib.hid hg.1
  have HO := Lib.hid ho
  have hzb := tgt_lt h
  obtain ⟨z, hzt⟩ : ∃ z, z = h.tgt := ⟨_, rfl⟩
  rw [← hzt] at KD hzb
  have HZT := Lib.hid hzt
  clear CG CD hg hzt
  go_enter Tryd.func23, Tryd.ntmps23
  go_upto_region 1 with fail
  generalize hw1 : World.alloc _ _ = w1
  have hH : HdAt w1 w.heap.size h := by rw [← hw1]; exact (hd_new w h).on ((Below.refl _ _).alloc (Nat.le_refl _) _)
  have hR : HdAt w1 (w.heap.size + 1) hdZ := by rw [← hw1]; exact hd_new1 w _ hdZ
  have hB : Below w.heap.size w w1 := by rw [← hw1]; exact ((Below.refl _ _).alloc (Nat.le_refl _) _).alloc (by simp) _
  clear hw1
  have c1 := hH.bits ho
  go_wp2_with fail
  refine (KD.out w1).mono ?_
  rintro r w2 ⟨rfl, hb2⟩
  replace hH := hH.on hb2
  replace hR := hR.on hb2
  replace hB := hB.trans (hb2.mono hB.size)
  clear hb2 c1
  have hZN := NN.Has.newz (w := w2) 54
  go_upto_region 2 with (with_reducible refine NN.num_store rfl _ _ rfl _ _ rfl rfl _ hZN rfl ?_)
  have hN : NN.Has ((w2.alloc (.cells #[.int .u64 0, .int .u64 0, .int .u64 0, .int .u64 0] 54)).setRow w2.heap.size (NN.numC z)) w2.heap.size (NN.numC z) 54 := NN.Has.row hZN _
  have hb3 : Below w2.heap.size w2 ((w2.alloc (.cells #[.int .u64 0, .int .u64 0, .int .u64 0, .int .u64 0] 54)).setRow w2.heap.size (NN.numC z)) := below_setRow ((Below.refl _ _).alloc (Nat.le_refl _) _) (Nat.le_refl _) _
  have hNR : w.heap.size + 1 < w2.heap.size := hR.lt
  replace hH := hH.on hb3
  replace hR := hR.on hb3
  replace hB := hB.trans (hb3.mono hB.size)
  clear hZN hb3
  generalize World.setRow _ _ _ = w3 at *
  generalize w2.heap.size = T at *
  go_wp2_with (with_reducible refine hd_load rfl _ rfl w.heap.size rfl hH za ?_)
  refine (KG.out w3).mono ?_
  rintro r w4 ⟨rfl, hb4⟩
  replace hH := hH.on hb4
  replace hR := hR.on hb4
  replace hN := NN.Has.on hN hb4
  replace hB := hB.trans (hb4.mono hB.size)
  clear hb4
  have hT4 := hT.below hB
  go_upto_region 5 with fail
  clear hT4
  go_loopw [27] (fun i wr => ∃ k : Nat, k ≤ K ∧ i = .int .i64 (k : Int) ∧ HdAt wr w.heap.size (h.at k) ∧ HdAt wr (w.heap.size + 1) hdZ ∧ NN.Has wr T (NN.numC z) 54 ∧ Below w.heap.size w wr) (fun i _ => K - (intOf i).toNat)
  case atStart => exact ⟨0, Nat.zero_le _, rfl, hH, hR, hN, hB⟩
  case round =>
    clear hH hR hN hB
    obtain ⟨k, hk, rfl, hH, hR, hN, hB⟩ := hrel
    have okk := Hd.at_ok HO.out k
    have zk := hdA_size okk
    have zc := hdC_length okk
    by_cases hlt : k < K
    · have f1 : (k : Int) < tries := by have := HK.out; omega
      have KM := Lib.hid (meets_at (h.at k).id (id_length _) z hzb false (by rw [decide_eq_true (show z < numOf (h.at k).id by rw [HZT.out]; exact HALL.out k hlt)]; rfl))
      have KI := Lib.hid (fun w hT => id_at (h.at k) okk w hT)
      have q1 := range_cls hH.range (hdC_length okk ▸ (by omega))
      have hTr := TabGrow (hT.below hB)
      have q2 := NN.Has.cls hN
      generalize bytesV (h.at k).id = ci at *
      go_wp2_with fail
      refine wp_region_quiet_below (by kernel_rfl) (by kernel_rfl) ?_
      repeat (first
        | (go_big_quiet_want; (with_reducible refine quiet_hd_mid _ rfl w.heap.size 0 rfl (h.at k) zc q1 ?_); (simp only [Act.put, List.setIfInBounds_toArray, List.set_cons_zero, List.set_cons_succ]); go_big_quiet_on)
        | (go_big_quiet_want; (with_reducible refine NN.quiet_load_num _ rfl T rfl z q2 ?_); (simp only [Act.put, List.setIfInBounds_toArray, List.set_cons_zero, List.set_cons_succ]); go_big_quiet_on)
        | go_big_quiet_step ((first | (go_at_call 14; exact Calls.regrown_of (KI.out _ (hTr _ _))) | (go_at_call 39; exact Calls.regrown_of (KM.out _)))))
      refine wpQuiet_nil ?_
      intro _ hw'
      obtain ⟨p, hw''⟩ := hw'
      subst hw''
      have hb7 := below_regrown wr p.d p.os
      replace hH := hH.on hb7
      replace hR := hR.on hb7
      replace hN := NN.Has.on hN hb7
      replace hB := hB.trans (hb7.mono hB.size)
      clear q1 q2 hTr KI KM hb7
      generalize Sort.grow (redrawn wr p.d) p.os = w9 at *
      obtain ⟨_, _, _, _, _, _, n1, n2⟩ := Hd.at_P HP.out k
      have hX := hH.setNonce okk (((h.at k).nonce + 1) % 4294967296)
      have hnx := Hd.at_next h k
      have cN := hH.nonce okk
      have fN := hH.free 67
      rw [← hnx] at hX
      have HX := Lib.hid hX
      have hR2 : HdAt (w9.setCell ⟨w.heap.size, 67, none⟩ (.int .i64 (((h.at k).nonce + 1) % 4294967296))) (w.heap.size + 1) hdZ := Has.other hR _ _ (by show w.heap.size + 1 ≠ w.heap.size; omega)
      have hN2 : NN.Has (w9.setCell ⟨w.heap.size, 67, none⟩ (.int .i64 (((h.at k).nonce + 1) % 4294967296))) T (NN.numC z) 54 := NN.Has.other hN _ _ (by show T ≠ w.heap.size; omega)
      have hB2 := hB.setCell (p := ⟨w.heap.size, 67, none⟩) (Nat.le_refl _) (.int .i64 (((h.at k).nonce + 1) % 4294967296))
      clear hX hnx hR hN hB
      generalize hnc : (h.at k).nonce = nc at *
      obtain ⟨nn, hnn⟩ : ∃ nn, nn = (nc + 1) % 4294967296 := ⟨_, rfl⟩
      rw [← hnn] at HX hR2 hN2 hB2
      have e1 : IntKind.u32.wrap nc = nc := by rw [IntKind.wrap_u32]; omega
      have e2 : IntKind.u32.wrap (nc + 1) = nn := by rw [IntKind.wrap_u32, hnn]
      have e3 : IntKind.i64.wrap nn = nn := by rw [IntKind.wrap_i64]; omega
      clear hnn hnc n1 n2
      go_wp2_with fail
      go_roundw
      case rel => exact ⟨k + 1, by omega, by go_num, HX.out, hR2, hN2, hB2⟩
      case measure => simp [intOf]; omega
    · obtain rfl : k = K := by omega
      have f1 : (k : Int) < tries := HK.out
      have KM := Lib.hid (meets_at (h.at k).id (id_length _) z hzb true (by rw [decide_eq_false (show ¬ z < numOf (h.at k).id by rw [HZT.out]; exact HM.out)]; rfl))
      have KI := Lib.hid (fun w hT => id_at (h.at k) okk w hT)
      have q1 := range_cls hH.range (hdC_length okk ▸ (by omega))
      have hTr := TabGrow (hT.below hB)
      have q2 := NN.Has.cls hN
      generalize bytesV (h.at k).id = ci at *
      go_wp2_with fail
      refine wp_region_quiet_below (by kernel_rfl) (by kernel_rfl) ?_
      repeat (first
        | (go_big_quiet_want; (with_reducible refine quiet_hd_mid _ rfl w.heap.size 0 rfl (h.at k) zc q1 ?_); (simp only [Act.put, List.setIfInBounds_toArray, List.set_cons_zero, List.set_cons_succ]); go_big_quiet_on)
        | (go_big_quiet_want; (with_reducible refine NN.quiet_load_num _ rfl T rfl z q2 ?_); (simp only [Act.put, List.setIfInBounds_toArray, List.set_cons_zero, List.set_cons_succ]); go_big_quiet_on)
        | go_big_quiet_step ((first | (go_at_call 14; exact Calls.regrown_of (KI.out _ (hTr _ _))) | (go_at_call 39; exact Calls.regrown_of (KM.out _)))))
      refine wpQuiet_nil ?_
      intro _ hw'
      obtain ⟨p, hw''⟩ := hw'
      subst hw''
      have hb7 := below_regrown wr p.d p.os
      replace hH := hH.on hb7
      replace hR := hR.on hb7
      replace hN := NN.Has.on hN hb7
      replace hB := hB.trans (hb7.mono hB.size)
      clear q1 q2 hTr KI KM hb7
      generalize Sort.grow (redrawn wr p.d) p.os = w9 at *
      go_wp2_with (first
        | (with_reducible refine hd_load rfl _ rfl w.heap.size rfl hH zk ?_)
        | (with_reducible refine hd_store rfl _ _ rfl _ _ (h.at k) rfl rfl rfl zk hR hz0 ?_))
      exact bodyPost_ret (v := .tuple #[.agg (hdA (h.at k)), .bool true]) (hd_results2 Tryd.results23 _ _ _ rfl rfl (Has.row hR _) zk) rfl ⟨rfl, below_setRow hB (by omega) _⟩
set_option maxRecDepth 100000 in
set_option maxHeartbeats 2000000 in
theorem seek_none (h : Hd) (ho : h.ok) (hg : h.P ∧ NN.Nm.decLow h.bits.toNat = false ∧ NN.Nm.decOver h.bits.toNat = false) (tries : Int) (ht : tries ≤ 9223372036854775807) (hall : ∀ j, j < tries.toNat → h.above j) (w : World) (hT : Tab w) :
    Calls Tryd.prog 23 #[.agg (hdA h), .int .i64 tries] w fun r w' => r = .returned (.tuple #[.agg (hdA (h.at tries.toNat)), .bool false]) ∧ Below w.heap.size w w' := by
  have za := hdA_size ho
  have hz0 := hdA_size hdZ_ok
  have HALL := Lib.hid hall
  clear hall
  have CG := good_at h ho
  rw [decide_eq_true hg.1] at CG
  have KG := Lib.hid CG
  have CD := (decode_hd h hg.1).1
  rw [hg.2.1, hg.2.2] at CD
  have KD := Lib.hid CD
  have HP := Lib.hid hg.1
  have HO := Lib.hid ho
  have hzb := tgt_lt h
  obtain ⟨z, hzt⟩ : ∃ z, z = h.tgt := ⟨_, rfl⟩
  rw [← hzt] at KD hzb
  have HZT := Lib.hid hzt
  clear CG CD hg hzt
  go_enter Tryd.func23, Tryd.ntmps23
  go_upto_region 1 with fail
  generalize hw1 : World.alloc _ _ = w1
  have hH : HdAt w1 w.heap.size h := by rw [← hw1]; exact (hd_new w h).on ((Below.refl _ _).alloc (Nat.le_refl _) _)
  have hR : HdAt w1 (w.heap.size + 1) hdZ := by rw [← hw1]; exact hd_new1 w _ hdZ
  have hB : Below w.heap.size w w1 := by rw [← hw1]; exact ((Below.refl _ _).alloc (Nat.le_refl _) _).alloc (by simp) _
  clear hw1
  have c1 := hH.bits ho
  go_wp2_with fail
  refine (KD.out w1).mono ?_
  rintro r w2 ⟨rfl, hb2⟩
  replace hH := hH.on hb2
  replace hR := hR.on hb2
  replace hB := hB.trans (hb2.mono hB.size)
  clear hb2 c1
  have hZN := NN.Has.newz (w := w2) 54
  go_upto_region 2 with (with_reducible refine NN.num_store rfl _ _ rfl _ _ rfl rfl _ hZN rfl ?_)
  have hN : NN.Has ((w2.alloc (.cells #[.int .u64 0, .int .u64 0, .int .u64 0, .int .u64 0] 54)).setRow w2.heap.size (NN.numC z)) w2.heap.size (NN.numC z) 54 := NN.Has.row hZN _
  have hb3 : Below w2.heap.size w2 ((w2.alloc (.cells #[.int .u64 0, .int .u64 0, .int .u64 0, .int .u64 0] 54)).setRow w2.heap.size (NN.numC z)) := below_setRow ((Below.refl _ _).alloc (Nat.le_refl _) _) (Nat.le_refl _) _
  have hNR : w.heap.size + 1 < w2.heap.size := hR.lt
  replace hH := hH.on hb3
  replace hR := hR.on hb3
  replace hB := hB.trans (hb3.mono hB.size)
  clear hZN hb3
  generalize World.setRow _ _ _ = w3 at *
  generalize w2.heap.size = T at *
  go_wp2_with (with_reducible refine hd_load rfl _ rfl w.heap.size rfl hH za ?_)
  refine (KG.out w3).mono ?_
  rintro r w4 ⟨rfl, hb4⟩
  replace hH := hH.on hb4
  replace hR := hR.on hb4
  replace hN := NN.Has.on hN hb4
  replace hB := hB.trans (hb4.mono hB.size)
  clear hb4
  have hT4 := hT.below hB
  go_upto_region 5 with fail
  clear hT4
  go_loopw [27] (fun i wr => ∃ k : Nat, k ≤ tries.toNat ∧ i = .int .i64 (k : Int) ∧ HdAt wr w.heap.size (h.at k) ∧ HdAt wr (w.heap.size + 1) hdZ ∧ NN.Has wr T (NN.numC z) 54 ∧ Below w.heap.size w wr) (fun i _ => tries.toNat - (intOf i).toNat)
  case atStart => exact ⟨0, Nat.zero_le _, rfl, hH, hR, hN, hB⟩
  case round =>
    clear hH hR hN hB
    obtain ⟨k, hk, rfl, hH, hR, hN, hB⟩ := hrel
    have okk := Hd.at_ok HO.out k
    have zk := hdA_size okk
    have zc := hdC_length okk
    by_cases hlt : k < tries.toNat
    · have f1 : (k : Int) < tries := by omega
      have KM := Lib.hid (meets_at (h.at k).id (id_length _) z hzb false (by rw [decide_eq_true (show z < numOf (h.at k).id by rw [HZT.out]; exact HALL.out k hlt)]; rfl))
      have KI := Lib.hid (fun w hT => id_at (h.at k) okk w hT)
      have q1 := range_cls hH.range (hdC_length okk ▸ (by omega))
      have hTr := TabGrow (hT.below hB)
      have q2 := NN.Has.cls hN
      generalize bytesV (h.at k).id = ci at *
      go_wp2_with fail
      refine wp_region_quiet_below (by kernel_rfl) (by kernel_rfl) ?_
      repeat (first
        | (go_big_quiet_want; (with_reducible refine quiet_hd_mid _ rfl w.heap.size 0 rfl (h.at k) zc q1 ?_); (simp only [Act.put, List.setIfInBounds_toArray, List.set_cons_zero, List.set_cons_succ]); go_big_quiet_on)
        | (go_big_quiet_want; (with_reducible refine NN.quiet_load_num _ rfl T rfl z q2 ?_); (simp only [Act.put, List.setIfInBounds_toArray, List.set_cons_zero, List.set_cons_succ]); go_big_quiet_on)
        | go_big_quiet_step ((first | (go_at_call 14; exact Calls.regrown_of (KI.out _ (hTr _ _))) | (go_at_call 39; exact Calls.regrown_of (KM.out _)))))
      refine wpQuiet_nil ?_
      intro _ hw'
      obtain ⟨p, hw''⟩ := hw'
      subst hw''
      have hb7 := below_regrown wr p.d p.os
      replace hH := hH.on hb7
      replace hR := hR.on hb7
      replace hN := NN.Has.on hN hb7
      replace hB := hB.trans (hb7.mono hB.size)
      clear q1 q2 hTr KI KM hb7
      generalize Sort.grow (redrawn wr p.d) p.os = w9 at *
      obtain ⟨_, _, _, _, _, _, n1, n2⟩ := Hd.at_P HP.out k
      have hX := hH.setNonce okk (((h.at k).nonce + 1) % 4294967296)
      have hnx := Hd.at_next h k
      have cN := hH.nonce okk
      have fN := hH.free 67
      rw [← hnx] at hX
      have HX := Lib.hid hX
      have hR2 : HdAt (w9.setCell ⟨w.heap.size, 67, none⟩ (.int .i64 (((h.at k).nonce + 1) % 4294967296))) (w.heap.size + 1) hdZ := Has.other hR _ _ (by show w.heap.size + 1 ≠ w.heap.size; omega)
      have hN2 : NN.Has (w9.setCell ⟨w.heap.size, 67, none⟩ (.int .i64 (((h.at k).nonce + 1) % 4294967296))) T (NN.numC z) 54 := NN.Has.other hN _ _ (by show T ≠ w.heap.size; omega)
      have hB2 := hB.setCell (p := ⟨w.heap.size, 67, none⟩) (Nat.le_refl _) (.int .i64 (((h.at k).nonce + 1) % 4294967296))
      clear hX hnx hR hN hB
      generalize hnc : (h.at k).nonce = nc at *
      obtain ⟨nn, hnn⟩ : ∃ nn, nn = (nc + 1) % 4294967296 := ⟨_, rfl⟩
      rw [← hnn] at HX hR2 hN2 hB2
      have e1 : IntKind.u32.wrap nc = nc := by rw [IntKind.wrap_u32]; omega
      have e2 : IntKind.u32.wrap (nc + 1) = nn := by rw [IntKind.wrap_u32, hnn]
      have e3 : IntKind.i64.wrap nn = nn := by rw [IntKind.wrap_i64]; omega
      clear hnn hnc n1 n2
      go_wp2_with fail
      go_roundw
      case rel => exact ⟨k + 1, by omega, by go_num, HX.out, hR2, hN2, hB2⟩
      case measure => simp [intOf]; omega
    · obtain rfl : k = tries.toNat := by omega
      have f1 : decide (((tries.toNat : Nat) : Int) < tries) = false := decide_eq_false (by omega)
      clear hlt hk
      generalize hkk : tries.toNat = k at *
      have HKK := Lib.hid hkk
      clear hkk
      go_wp2_with (first
        | (with_reducible refine hd_load rfl _ rfl w.heap.size rfl hH zk ?_)
        | (with_reducible refine hd_store rfl _ _ rfl _ _ (h.at k) rfl rfl rfl zk hR hz0 ?_))
      exact bodyPost_ret (v := .tuple #[.agg (hdA (h.at k)), .bool false]) (hd_results2 Tryd.results23 _ _ _ rfl rfl (Has.row hR _) zk) rfl ⟨by rw [HKK.out], below_setRow hB (by omega) _⟩
theorem seek_bad (h : Hd) (ho : h.ok) (hb : h.bad) (tries : Int) (w : World) :
    Calls Tryd.prog 23 #[.agg (hdA h), .int .i64 tries] w fun r w' => r = .returned (.tuple #[.agg (hdA h), .bool false]) ∧ Below w.heap.size w w' := by
  by_cases hp : h.P
  · cases hl : NN.Nm.decLow h.bits.toNat
    · rcases hb with hb | hb | hb
      · exact absurd hp hb
      · rw [hl] at hb; cases hb
      · exact seek_over h ho hp hl hb tries w
    · exact seek_low h ho hp hl tries w
  · exact seek_no h ho hp tries w
end Go.Proofs.YtfnicmmebphpkaaDoor
