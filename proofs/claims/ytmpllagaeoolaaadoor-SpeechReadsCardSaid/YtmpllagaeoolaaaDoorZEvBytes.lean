/-
  envelope: sum, Bytes.
-/
import Derived.Test.YtmpllagaeoolaaaDoorZEvMem
import Derived.Test.YtmpllagaeoolaaaDoorBunC
import Derived.Test.YtmpllagaeoolaaaDoorBunF
namespace Go.Proofs.YtmpllagaeoolaaaDoor
open Go.RowKit Mem Sc Sha
theorem sha_len (l : List UInt8) : (sha l).length = 32 := nameOf_length _
/-- the first bytes of a name as a text -/
theorem conv_hash4 (wx : World) (b : Nat) (l : List UInt8) (hl : l.length = 32) (h : Has wx b (bytesV l) 24) :
    (Go.convert 51 9 (.slice (some ⟨b, 0, none⟩) 4 32)).run Tryd.prog wx = .ok (.string (txt (l.take 4))) wx := by
  have := run_convert_bytes_arg (P := Tryd.prog) wx 51 5 Tryd.underlying51 Tryd.underlying5 b 0 4 32 ((l.take 4).map fun b => (b.toNat : Int)) (by simp [hl]) (fun i hi => by
    rw [Nat.zero_add, h.byte i (by omega)]; simp [show i < l.length by omega, hi]) 9 Tryd.underlying9
  rw [this]
  simp [strOfNums, Function.comp_def, txt]
set_option maxRecDepth 100000 in
set_option maxHeartbeats 1000000 in
theorem sum_at (s : ByteArray) (hs : s.size ≤ 1152921504606846976) (w : World) (hT : Tab w) :
    Calls Tryd.prog 48 #[.string s] w fun e w' => e = .returned (.string (txt (sum4 s.data.toList))) ∧ Below w.heap.size w w' := by
  have c1 : ∀ a w, Tab w → PartsW w a [s] → Calls Tryd.prog 69 #[.slice a 1 1] w fun e w' => e = .returned (.agg (bytesV (sha (sha s.data.toList)))) ∧ Below w.heap.size w w' := fun a w hT hP => by
    have := double a [s] 1 1 rfl w hT (by rw [flat_one, ← Lib.size_eq]; exact hs) (by omega) hP
    rwa [flat_one] at this
  have KD := Lib.hid c1
  have e4 : sum4 s.data.toList = (sha (sha s.data.toList)).take 4 := rfl
  have hl := sha_len (sha s.data.toList)
  rw [e4]
  generalize sha (sha s.data.toList) = l at *
  have hone := bytesV_one l
  have hsz := hv_size hl
  have HSZ := Lib.hid hsz
  have HL := Lib.hid hl
  generalize ht : txt (l.take 4) = t
  have HT := Lib.hid ht
  clear c1 hs e4 hl hsz ht
  go_enter Tryd.func48, Tryd.ntmps48
  go_wp2_with fail
  have hb3 : Below w.heap.size w (w.alloc (.cells #[.string s] 9)) := (Below.refl _ _).alloc (Nat.le_refl _) _
  refine (KD.out _ _ (hT.below hb3) (PartsW.one (by simp))).mono ?_
  rintro r w2 ⟨rfl, hb2⟩
  have hB := hb3.trans (hb2.mono hb3.size)
  clear hb3 hb2 KD
  go_upto_region 2 with (with_reducible refine hl_store rfl _ _ rfl _ (bytesV l) (bytesV l) rfl rfl rfl HSZ.out hone h0 (h0_new w2 _) rfl ?_)
  generalize hw3 : World.setRow _ _ _ = w3
  have hin : Has w3 w2.heap.size (bytesV l) 24 := by rw [← hw3]; exact (Has.new _ _).row _
  have hB3 : Below w.heap.size w w3 := by rw [← hw3]; exact below_setRow (hB.alloc hB.size _) hB.size _
  have hcv := conv_hash4 w3 w2.heap.size l HL.out hin
  rw [HT.out] at hcv
  clear hw3 hB hin
  go_wp2_with fail
  go_ret
  exact ⟨rfl, hB3⟩
theorem own_far {w w1 : World} {b k : Nat} {v v1 : Value} (hS : PenStep w w1 b v v1) (hk : k < w.heap.size) (hv : v.ownBlock ≠ some k) : v1.ownBlock ≠ some k := fun e => by
  rcases hS.lies k e with h | h
  · exact hv h
  · omega
theorem z12 (z : Nat) : zs z = txt (List.replicate z 0) := rfl
theorem pad_txt (w : ByteArray) (z : Nat) (h : z = 12 - w.size) : (w ++ zs z).data.toList = pad w.data.toList := by
  rw [ByteArray.data_append, Array.toList_append, h, Lib.size_eq]
  rfl
theorem enc_split (v : Ev) (z : Nat) (h : z = 12 - v.w.size) : [] ++ num 4 1279869268 ++ (v.w ++ zs z).data.toList ++ num 4 (v.p.size : Nat) ++ (txt (sum4 v.p.data.toList)).data.toList ++ v.p.data.toList = v.enc := by
  rw [pad_txt v.w z h, txt_list, Lib.size_eq, List.nil_append]
  unfold Ev.enc envL
  rw [show num 4 1279869268 = tail4 by decide]
  simp only [List.append_assoc]
set_option maxRecDepth 100000 in
set_option maxHeartbeats 1000000 in
theorem ebytes_no (v : Ev) (hp : ¬ v.P) (w : World) :
    Calls Tryd.prog 25 #[.agg (evA v)] w fun e w' => e = .returned (.tuple #[.string E0, .int .i64 1]) ∧ Below w.heap.size w w' := by
  have KG := Lib.hid (evgood_at v false (decide_eq_false hp))
  have hH := ev_new w v
  have hB : Below w.heap.size w (w.alloc (.cells (evA v) 38)) := (Below.refl _ _).alloc (Nat.le_refl _) _
  clear hp
  go_enter Tryd.func25, Tryd.ntmps25
  go_upto_region 1 with fail
  generalize World.alloc _ _ = w1 at *
  go_wp2_with (with_reducible refine ev_load rfl _ rfl _ rfl hH ?_)
  refine (KG.out _).mono ?_
  rintro r w2 ⟨rfl, hb2⟩
  replace hB := hB.trans (hb2.mono hB.size)
  go_wp2_with fail
  go_ret2
  exact ⟨rfl, hB⟩
set_option maxRecDepth 100000 in
set_option maxHeartbeats 1000000 in
theorem ebytes_yes (v : Ev) (hp : v.P) (w : World) (hT : Tab w) :
    Calls Tryd.prog 25 #[.agg (evA v)] w fun e w' => e = .returned (.tuple #[.string (txt v.enc), .int .i64 0]) ∧ Below w.heap.size w w' := by
  have KG := Lib.hid (evgood_at v true (decide_eq_true hp))
  have hH := ev_new w v
  have hB : Below w.heap.size w (w.alloc (.cells (evA v) 38)) := (Below.refl _ _).alloc (Nat.le_refl _) _
  obtain ⟨z, hz⟩ : ∃ z, z = 12 - v.w.size := ⟨_, rfl⟩
  have HE := Lib.hid (enc_split v z hz)
  have hw12 : v.w.size ≤ 12 := by rw [Lib.size_eq]; exact (goodW_len hp.1).2.1
  have hp14 := hp.2
  have KS := Lib.hid (sum_at v.p (by omega))
  have hs4 : (txt (sum4 v.p.data.toList)).size = 4 := by rw [txt_size, sum4_length]
  have hzs := zs_size z
  have hz64 : z ≤ 12 := by omega
  have f1 : IntKind.i64.wrap (12 - (v.w.size : Int)) = (z : Int) := (IntWalk.i64_in _ (by omega)).trans (by omega)
  have f2 : (zs z).size ≤ 12 := by omega
  have f3 : ¬ (9223372036854775807 < v.w.size + (zs z).size) := by omega
  obtain ⟨y, hy⟩ : ∃ y, y = v.w ++ zs z := ⟨_, rfl⟩
  have hyz : y.size = 12 := by rw [hy, ByteArray.size_append]; omega
  have HY := Lib.hid hy
  clear hp hz hy hzs
  generalize ht : txt v.enc = t
  have HTX := Lib.hid ht
  generalize txt (sum4 v.p.data.toList) = c at *
  clear ht
  go_enter Tryd.func25, Tryd.ntmps25
  go_upto_region 1 with fail
  generalize World.alloc _ _ = w1 at *
  go_wp2_with (with_reducible refine ev_load rfl _ rfl _ rfl hH ?_)
  refine (KG.out _).mono ?_
  rintro r w2 ⟨rfl, hb2⟩
  replace hH := hH.on hb2
  replace hB := hB.trans (hb2.mono hB.size)
  clear hb2 KG
  have hkw : w.heap.size < w2.heap.size := hH.lt
  go_upto_region 4 with fail
  have hN := pen_new w2
  have hb3 : Below w2.heap.size w2 (w2.alloc (.cells #[.slice none 0 0] 53)) := (Below.refl _ _).alloc (Nat.le_refl _) _
  replace hB := hB.trans (hb3.mono hB.size)
  replace hH := hH.on hb3
  obtain ⟨p, hpe⟩ : ∃ p, p = w2.heap.size := ⟨_, rfl⟩
  rw [← hpe] at hN hkw ⊢
  have hpk : w.heap.size ≤ p := by omega
  have hkp : w.heap.size ≠ p := by omega
  generalize World.alloc _ _ = w3 at *
  clear hb3 hpe
  have hv0 : (Value.slice none 0 0).ownBlock ≠ some w.heap.size := by intro e; cases e
  generalize Value.slice none 0 0 = v0 at *
  have hk3 := hH.lt
  have C1 := Lib.hid (put1_at p v0 [] 4 4 rfl 1279869268 w3 w3.heap.size rfl hN (by simp))
  go_wp2_with fail
  refine C1.out.mono ?_
  rintro r w4 ⟨v4, rfl, hP4, hS4⟩
  have hH4 := hH.pen hS4 hkp hv0
  have hv4 := own_far hS4 hk3 hv0
  replace hB := pen_below hB hpk hN hS4
  have hk4 := hH4.lt
  clear C1 hS4 hN hH hv0 hk3
  have z1 : ([] ++ num 4 1279869268).length = 4 := by rw [List.nil_append, num_length]
  generalize [] ++ num 4 1279869268 = l1 at *
  -- the word
  have KR := Lib.hid (zeros z (by omega))
  have C2 := Lib.hid (fun v w h => praw_at p v l1 y w h (by omega))
  have c0 := hH4.c0
  rw [HY.out] at C2
  have hbd : Below w4.heap.size w4 w4.drew := (Below.refl _ _).drew
  have hPd := hP4.below hbd
  have hHd := hH4.on hbd
  have hBd := hB.trans (hbd.mono hB.size)
  go_wp2_with fail
  go_region_held3 (fun w' => w'.cell? ⟨w.heap.size, 0, none⟩ = some (.string v.w)) (first | assumption | go_keep)
    (first
      | (go_at_call 47; (with_reducible refine (KR.out _).mono ?_); rintro r w5 ⟨rfl, hb5⟩; have hH5 := hHd.on hb5; have c05 := hH5.c0)
      | (go_at_call 46; (with_reducible refine (C2.out _ _ (hPd.below hb5)).mono ?_); rintro r w6 ⟨v6, rfl, hP6, hS6⟩; have hH6 := hH5.pen hS6 hkp hv4; have c06 := hH6.c0))
  replace hB := pen_below (hBd.trans (hb5.mono hBd.size)) hpk (hPd.below hb5) hS6
  have hv6 := own_far hS6 hH5.lt hv4
  have hk6 := hH6.lt
  clear hb5 c05 hH5 hPd hHd hBd hbd hS6 hP4 hH4 C2 KR c0 hv4 hk4 f1 f2 f3
  have z2 : (l1 ++ (v.w ++ zs z).data.toList).length = 16 := by rw [List.length_append, ← HY.out, ← Lib.size_eq]; omega
  have HE2 : Hid (l1 ++ (v.w ++ zs z).data.toList ++ num 4 (v.p.size : Nat) ++ c.data.toList ++ v.p.data.toList = v.enc) := HE
  generalize l1 ++ (v.w ++ zs z).data.toList = l2 at *
  clear HE
  -- how many bytes
  have c1 := hH6.c1
  have C3 := Lib.hid (put1_at p v6 l2 4 4 rfl (v.p.size : Nat) w6 w6.heap.size rfl hP6 (by omega))
  go_wp2_with fail
  refine C3.out.mono ?_
  rintro r w7 ⟨v7, rfl, hP7, hS7⟩
  have hH7 := hH6.pen hS7 hkp hv6
  have hv7 := own_far hS7 hk6 hv6
  replace hB := pen_below hB hpk hP6 hS7
  clear C3 c1 c06 hH6 hP6 hS7 hv6 hk6
  have z3 : (l2 ++ num 4 (v.p.size : Nat)).length = 20 := by rw [List.length_append, num_length]; omega
  generalize l2 ++ num 4 (v.p.size : Nat) = l3 at *
  -- the sum
  have c1 := hH7.c1
  have hT7 := hT.below hB
  go_wp2_with fail
  refine (KS.out w7 hT7).mono ?_
  rintro r w8 ⟨rfl, hb8⟩
  have hH8 := hH7.on hb8
  have hP8 := hP7.below hb8
  replace hB := hB.trans (hb8.mono hB.size)
  have hk8 := hH8.lt
  clear c1 hT7 hH7 hP7 hb8 KS
  have C4 := Lib.hid (praw_at p v7 l3 c w8 hP8 (by omega))
  go_wp2_with fail
  refine C4.out.mono ?_
  rintro r w9 ⟨v9, rfl, hP9, hS9⟩
  have hH9 := hH8.pen hS9 hkp hv7
  replace hB := pen_below hB hpk hP8 hS9
  clear C4 hH8 hP8 hS9 hv7 hk8
  have z4 : (l3 ++ c.data.toList).length = 24 := by rw [List.length_append, ← Lib.size_eq]; omega
  generalize l3 ++ c.data.toList = l4 at *
  -- the payload
  have c1 := hH9.c1
  have C5 := Lib.hid (praw_at p v9 l4 v.p w9 hP9 (by omega))
  go_wp2_with fail
  refine C5.out.mono ?_
  rintro r w10 ⟨v10, rfl, hP10, hS10⟩
  replace hB := pen_below hB hpk hP9 hS10
  clear C5 hH9 hP9 hS10 c1
  rw [HE2.out] at hP10
  go_wp2_with fail
  refine (text_txt _ _ _ _ hP10).mono ?_
  rintro r w11 ⟨rfl, rfl⟩
  rw [HTX.out]
  go_wp2_with fail
  go_ret2
  exact ⟨rfl, hB⟩
end Go.Proofs.YtmpllagaeoolaaaDoor
