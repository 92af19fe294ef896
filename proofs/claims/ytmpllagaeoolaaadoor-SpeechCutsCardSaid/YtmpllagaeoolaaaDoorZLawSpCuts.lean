/-
  SpeechCuts: the walk.
-/
import Derived.Test.YtmpllagaeoolaaaDoorBunS
namespace Go.Proofs.YtmpllagaeoolaaaDoor
open Go.RowKit Mem Sc
set_option maxRecDepth 100000 in
set_option maxHeartbeats 1600000 in
theorem scuts_great (m : Mm) (M : Ms) (z : Int) (r : ByteArray) (hg : greatM m = true) (w : World) (hT : Tab w) (hS : TabS w) (hL : Lies w m M) :
    Calls Tryd.prog 7 #[.agg (mmA m), .int .i64 z, .string r] w fun r w' => r = .returned (.bool true) ∧ Below w.heap.size w w' := by
  have hz := mmA_size hL.mok
  have HL := Lib.hid hL
  have HT := Lib.hid hT
  have HS := Lib.hid hS
  have KAl := Lib.hid alive8
  have KG := Lib.hid (great8_at m hL.mok true hg)
  clear hg hT hS hL
  have hP := mm_new w m
  have hB : Below w.heap.size w (w.alloc (.cells (mmA m) 27)) := (Below.refl _ _).alloc (Nat.le_refl _) _
  go_enter Tryd.func7, Tryd.ntmps7
  go_upto_region 1 with fail
  obtain ⟨P, hPe⟩ : ∃ P, P = w.heap.size := ⟨_, rfl⟩
  rw [← hPe] at hP ⊢
  have hPw : w.heap.size ≤ P := by omega
  clear hPe
  generalize World.alloc _ _ = w1 at *
  go_wp2_with fail
  refine (KAl.out _ (HT.out.below hB) (HS.out.below hB)).mono ?_
  rintro r w2 ⟨rfl, hb⟩
  replace hP := hP.on hb
  replace hB := hB.trans (hb.mono hB.size)
  clear hb
  go_wp2_with (first | (with_reducible refine mm_load rfl _ rfl P rfl hP hz ?_) | (with_reducible refine mm_load_g (by with_unfolding_all rfl) _ rfl P rfl hP hz ?_))
  refine (KG.out _).mono ?_
  rintro r w3 ⟨rfl, hb⟩
  replace hP := hP.on hb
  replace hB := hB.trans (hb.mono hB.size)
  clear hb
  go_wp2_with (first | (with_reducible refine mm_load rfl _ rfl P rfl hP hz ?_) | (with_reducible refine mm_load_g (by with_unfolding_all rfl) _ rfl P rfl hP hz ?_))
  go_ret
  exact ⟨rfl, hB⟩
set_option maxRecDepth 100000 in
set_option maxHeartbeats 1600000 in
theorem scuts_bad (m : Mm) (M : Ms) (z : Int) (r : ByteArray) (hg : greatM m = false) (hp : ¬ M.P) (w : World) (hT : Tab w) (hS : TabS w) (hL : Lies w m M) :
    Calls Tryd.prog 7 #[.agg (mmA m), .int .i64 z, .string r] w fun r w' => r = .returned (.bool true) ∧ Below w.heap.size w w' := by
  have hz := mmA_size hL.mok
  have HL := Lib.hid hL
  have HT := Lib.hid hT
  have HS := Lib.hid hS
  have KAl := Lib.hid alive8
  have KG := Lib.hid (great8_at m hL.mok false hg)
  have KSG := Lib.hid (fun w hL => rgood8_at m M w hL)
  rw [decide_eq_false hp] at KSG
  clear hg hT hS hp hL
  have hP := mm_new w m
  have hB : Below w.heap.size w (w.alloc (.cells (mmA m) 27)) := (Below.refl _ _).alloc (Nat.le_refl _) _
  go_enter Tryd.func7, Tryd.ntmps7
  go_upto_region 1 with fail
  obtain ⟨P, hPe⟩ : ∃ P, P = w.heap.size := ⟨_, rfl⟩
  rw [← hPe] at hP ⊢
  have hPw : w.heap.size ≤ P := by omega
  clear hPe
  generalize World.alloc _ _ = w1 at *
  go_wp2_with fail
  refine (KAl.out _ (HT.out.below hB) (HS.out.below hB)).mono ?_
  rintro r w2 ⟨rfl, hb⟩
  replace hP := hP.on hb
  replace hB := hB.trans (hb.mono hB.size)
  clear hb
  go_wp2_with (first | (with_reducible refine mm_load rfl _ rfl P rfl hP hz ?_) | (with_reducible refine mm_load_g (by with_unfolding_all rfl) _ rfl P rfl hP hz ?_))
  refine (KG.out _).mono ?_
  rintro r w3 ⟨rfl, hb⟩
  replace hP := hP.on hb
  replace hB := hB.trans (hb.mono hB.size)
  clear hb
  go_wp2_with (first | (with_reducible refine mm_load rfl _ rfl P rfl hP hz ?_) | (with_reducible refine mm_load_g (by with_unfolding_all rfl) _ rfl P rfl hP hz ?_))
  refine (KSG.out _ (HL.out.below hB)).mono ?_
  rintro r w4 ⟨rfl, hb⟩
  replace hP := hP.on hb
  replace hB := hB.trans (hb.mono hB.size)
  clear hb
  go_wp2_with (first | (with_reducible refine mm_load rfl _ rfl P rfl hP hz ?_) | (with_reducible refine mm_load_g (by with_unfolding_all rfl) _ rfl P rfl hP hz ?_))
  go_ret
  exact ⟨rfl, hB⟩
set_option maxRecDepth 100000 in
set_option maxHeartbeats 1600000 in
theorem scuts_bare (m : Mm) (M : Ms) (z : Int) (r : ByteArray) (hg : greatM m = false) (hp : M.P) (h0 : r = E0) (w : World) (hT : Tab w) (hS : TabS w) (hL : Lies w m M) :
    Calls Tryd.prog 7 #[.agg (mmA m), .int .i64 z, .string r] w fun r w' => r = .returned (.bool true) ∧ Below w.heap.size w w' := by
  have hz := mmA_size hL.mok
  have HL := Lib.hid hL
  have HT := Lib.hid hT
  have HS := Lib.hid hS
  have KAl := Lib.hid alive8
  have KG := Lib.hid (great8_at m hL.mok false hg)
  have KSG := Lib.hid (fun w hL => rgood8_at m M w hL)
  rw [decide_eq_true hp] at KSG
  have he : r.toList.isEmpty = true := by rw [h0, ByteArray.toList_eq]; rfl
  clear hg hT hS hp h0 hL
  have hP := mm_new w m
  have hB : Below w.heap.size w (w.alloc (.cells (mmA m) 27)) := (Below.refl _ _).alloc (Nat.le_refl _) _
  go_enter Tryd.func7, Tryd.ntmps7
  go_upto_region 1 with fail
  obtain ⟨P, hPe⟩ : ∃ P, P = w.heap.size := ⟨_, rfl⟩
  rw [← hPe] at hP ⊢
  have hPw : w.heap.size ≤ P := by omega
  clear hPe
  generalize World.alloc _ _ = w1 at *
  go_wp2_with fail
  refine (KAl.out _ (HT.out.below hB) (HS.out.below hB)).mono ?_
  rintro r w2 ⟨rfl, hb⟩
  replace hP := hP.on hb
  replace hB := hB.trans (hb.mono hB.size)
  clear hb
  go_wp2_with (first | (with_reducible refine mm_load rfl _ rfl P rfl hP hz ?_) | (with_reducible refine mm_load_g (by with_unfolding_all rfl) _ rfl P rfl hP hz ?_))
  refine (KG.out _).mono ?_
  rintro r w3 ⟨rfl, hb⟩
  replace hP := hP.on hb
  replace hB := hB.trans (hb.mono hB.size)
  clear hb
  go_wp2_with (first | (with_reducible refine mm_load rfl _ rfl P rfl hP hz ?_) | (with_reducible refine mm_load_g (by with_unfolding_all rfl) _ rfl P rfl hP hz ?_))
  refine (KSG.out _ (HL.out.below hB)).mono ?_
  rintro r w4 ⟨rfl, hb⟩
  replace hP := hP.on hb
  replace hB := hB.trans (hb.mono hB.size)
  clear hb
  go_wp2_with (first | (with_reducible refine mm_load rfl _ rfl P rfl hP hz ?_) | (with_reducible refine mm_load_g (by with_unfolding_all rfl) _ rfl P rfl hP hz ?_))
  go_ret
  exact ⟨rfl, hB⟩
set_option maxRecDepth 100000 in
set_option maxHeartbeats 1600000 in
theorem scuts_long (m : Mm) (M : Ms) (z : Int) (r : ByteArray) (hg : greatM m = false) (hp : M.P) (h0 : r ≠ E0) (h1 : 100 < r.size) (w : World) (hT : Tab w) (hS : TabS w) (hL : Lies w m M) :
    Calls Tryd.prog 7 #[.agg (mmA m), .int .i64 z, .string r] w fun r w' => r = .returned (.bool true) ∧ Below w.heap.size w w' := by
  have hz := mmA_size hL.mok
  have HL := Lib.hid hL
  have HT := Lib.hid hT
  have HS := Lib.hid hS
  have KAl := Lib.hid alive8
  have KG := Lib.hid (great8_at m hL.mok false hg)
  have KSG := Lib.hid (fun w hL => rgood8_at m M w hL)
  rw [decide_eq_true hp] at KSG
  have he : r.toList.isEmpty = false := isEmpty_no h0
  have u1 : decide (100 < (r.size : Int)) = true := decide_eq_true (by omega)
  clear hg hT hS hp h0 h1 hL
  have hP := mm_new w m
  have hB : Below w.heap.size w (w.alloc (.cells (mmA m) 27)) := (Below.refl _ _).alloc (Nat.le_refl _) _
  go_enter Tryd.func7, Tryd.ntmps7
  go_upto_region 1 with fail
  obtain ⟨P, hPe⟩ : ∃ P, P = w.heap.size := ⟨_, rfl⟩
  rw [← hPe] at hP ⊢
  have hPw : w.heap.size ≤ P := by omega
  clear hPe
  generalize World.alloc _ _ = w1 at *
  go_wp2_with fail
  refine (KAl.out _ (HT.out.below hB) (HS.out.below hB)).mono ?_
  rintro r w2 ⟨rfl, hb⟩
  replace hP := hP.on hb
  replace hB := hB.trans (hb.mono hB.size)
  clear hb
  go_wp2_with (first | (with_reducible refine mm_load rfl _ rfl P rfl hP hz ?_) | (with_reducible refine mm_load_g (by with_unfolding_all rfl) _ rfl P rfl hP hz ?_))
  refine (KG.out _).mono ?_
  rintro r w3 ⟨rfl, hb⟩
  replace hP := hP.on hb
  replace hB := hB.trans (hb.mono hB.size)
  clear hb
  go_wp2_with (first | (with_reducible refine mm_load rfl _ rfl P rfl hP hz ?_) | (with_reducible refine mm_load_g (by with_unfolding_all rfl) _ rfl P rfl hP hz ?_))
  refine (KSG.out _ (HL.out.below hB)).mono ?_
  rintro r w4 ⟨rfl, hb⟩
  replace hP := hP.on hb
  replace hB := hB.trans (hb.mono hB.size)
  clear hb
  go_wp2_with (first | (with_reducible refine mm_load rfl _ rfl P rfl hP hz ?_) | (with_reducible refine mm_load_g (by with_unfolding_all rfl) _ rfl P rfl hP hz ?_))
  go_ret
  exact ⟨rfl, hB⟩
set_option maxRecDepth 100000 in
set_option maxHeartbeats 1600000 in
theorem scuts_nil (m : Mm) (M : Ms) (z : Int) (r : ByteArray) (hg : greatM m = false) (hp : M.P) (h0 : r ≠ E0) (h1 : r.size ≤ 100) (h2 : M.pay.length = 0) (w : World) (hT : Tab w) (hS : TabS w) (hL : Lies w m M) :
    Calls Tryd.prog 7 #[.agg (mmA m), .int .i64 z, .string r] w fun r w' => r = .returned (.bool true) ∧ Below w.heap.size w w' := by
  have hz := mmA_size hL.mok
  have HL := Lib.hid hL
  have HT := Lib.hid hT
  have HS := Lib.hid hS
  have KAl := Lib.hid alive8
  have KG := Lib.hid (great8_at m hL.mok false hg)
  have KSG := Lib.hid (fun w hL => rgood8_at m M w hL)
  rw [decide_eq_true hp] at KSG
  have he : r.toList.isEmpty = false := isEmpty_no h0
  have u1 : decide (100 < (r.size : Int)) = false := decide_eq_false (by omega)
  obtain ⟨k, hk⟩ := Int.eq_ofNat_of_zero_le (show 0 ≤ M.kind by have := P_kind hp; omega)
  have hkk : kindOf (wordK M.kind) = k := by
    have := (wordK_P hp).2.2
    rw [hk, Int.toNat_natCast] at this
    rw [hk]; exact this
  have hk0 : k ≠ 0 := by have := P_kind hp; omega
  have hrd := read_pay hp hL.ok r.data.toList
  rw [hk] at hrd
  have hrs : r.size ≠ 0 := fun e => h0 (by
    have : r.data.toList = [] := List.eq_nil_of_length_eq_zero (by rw [← Lib.size_eq]; exact e)
    rw [← txt_of r, this]; rfl)
  have KR1 : Hid (∀ w, TabS w → Calls Tryd.prog 16 #[.agg #[.string (wordK M.kind), .string (txt M.pay ++ r)]] w fun q w' => q = .returned (.tuple #[.agg (mmA (mmZ 0)), .int .i64 4]) ∧ Below w.heap.size w w') := Lib.hid (fun w hS => by
    have e : txt M.pay ++ r = txt (M.pay ++ r.data.toList) := by
      have := txt_append M.pay r.data.toList
      rwa [txt_of] at this
    rw [e]
    refine Read_form ⟨wordK M.kind, txt (M.pay ++ r.data.toList)⟩ k hkk hk0 w hS M.bare ⟨txt r.data.toList, false⟩ hrd ?_
    rw [txt_of]
    show false = (true && decide (r.size = 0))
    rw [decide_eq_false hrs]; rfl)
  have KW : Hid (∀ w, Calls Tryd.prog 15 #[.int .i64 m.kind] w fun e w' => e = .returned (.string (wordK M.kind)) ∧ w = w') := Lib.hid (fun w => by rw [hL.kind]; exact rword8_at M.kind w)
  have KP := Lib.hid (fun w hL => rpay8_at m M w hL hp)
  have hlen := pay_len hp hL.ok
  have zs := txt_size M.pay
  have z1 : (txt M.pay).size ≤ 16384 := by omega
  have u2 : (((txt M.pay).size : Int) == 0) = true := beq_iff_eq.2 (by omega)
  clear hg hT hS hkk hk0 hrd hrs hk hlen zs hp h0 h2 hL
  generalize wordK M.kind = word at *
  generalize txt M.pay = pay at *
  have hP := mm_new w m
  have hB : Below w.heap.size w (w.alloc (.cells (mmA m) 27)) := (Below.refl _ _).alloc (Nat.le_refl _) _
  go_enter Tryd.func7, Tryd.ntmps7
  go_upto_region 1 with fail
  obtain ⟨P, hPe⟩ : ∃ P, P = w.heap.size := ⟨_, rfl⟩
  rw [← hPe] at hP ⊢
  have hPw : w.heap.size ≤ P := by omega
  clear hPe
  generalize World.alloc _ _ = w1 at *
  go_wp2_with fail
  refine (KAl.out _ (HT.out.below hB) (HS.out.below hB)).mono ?_
  rintro r w2 ⟨rfl, hb⟩
  replace hP := hP.on hb
  replace hB := hB.trans (hb.mono hB.size)
  clear hb
  go_wp2_with (first | (with_reducible refine mm_load rfl _ rfl P rfl hP hz ?_) | (with_reducible refine mm_load_g (by with_unfolding_all rfl) _ rfl P rfl hP hz ?_))
  refine (KG.out _).mono ?_
  rintro r w3 ⟨rfl, hb⟩
  replace hP := hP.on hb
  replace hB := hB.trans (hb.mono hB.size)
  clear hb
  go_wp2_with (first | (with_reducible refine mm_load rfl _ rfl P rfl hP hz ?_) | (with_reducible refine mm_load_g (by with_unfolding_all rfl) _ rfl P rfl hP hz ?_))
  refine (KSG.out _ (HL.out.below hB)).mono ?_
  rintro r w4 ⟨rfl, hb⟩
  replace hP := hP.on hb
  replace hB := hB.trans (hb.mono hB.size)
  clear hb
  go_wp2_with (first | (with_reducible refine mm_load rfl _ rfl P rfl hP hz ?_) | (with_reducible refine mm_load_g (by with_unfolding_all rfl) _ rfl P rfl hP hz ?_))
  refine (KP.out _ (HL.out.below hB)).mono ?_
  rintro r w5 ⟨rfl, hb⟩
  replace hP := hP.on hb
  replace hB := hB.trans (hb.mono hB.size)
  clear hb
  have c0 := hP.kind
  go_wp2_with (first | (with_reducible refine mm_load rfl _ rfl P rfl hP hz ?_) | (with_reducible refine mm_load_g (by with_unfolding_all rfl) _ rfl P rfl hP hz ?_))
  refine (KW.out _).mono ?_
  rintro r w6 ⟨rfl, rfl⟩
  clear c0
  go_wp2_with fail
  refine (KR1.out _ (HS.out.below hB)).mono ?_
  rintro q w20 ⟨rfl, hb⟩
  replace hB := hB.trans (hb.mono hB.size)
  clear hb
  have hN := mm_newz w20
  have hz0 : (mmA (mmZ 0)).size = 39 := rfl
  go_upto_region 8 with (with_reducible refine mm_store rfl _ _ rfl w20.heap.size _ (mmZ 0) rfl rfl rfl hz0 hN hz0 ?_)
  generalize hw5 : World.setRow _ _ _ = w21
  have hb : Below w20.heap.size w20 w21 := by rw [← hw5]; exact below_setRow ((Below.refl _ _).alloc (Nat.le_refl _) _) (Nat.le_refl _) _
  clear hw5 hN hz0
  replace hB := hB.trans (hb.mono hB.size)
  clear hb
  go_wp2_with fail
  go_ret
  exact ⟨rfl, hB⟩
set_option maxRecDepth 100000 in
set_option maxHeartbeats 1600000 in
theorem scuts_ok (m : Mm) (M : Ms) (z : Int) (r : ByteArray) (hg : greatM m = false) (hp : M.P) (h0 : r ≠ E0) (h1 : r.size ≤ 100) (h2 : M.pay.length ≠ 0) (w : World) (hT : Tab w) (hS : TabS w) (hL : Lies w m M) :
    Calls Tryd.prog 7 #[.agg (mmA m), .int .i64 z, .string r] w fun r w' => r = .returned (.bool true) ∧ Below w.heap.size w w' := by
  have hz := mmA_size hL.mok
  have HL := Lib.hid hL
  have HT := Lib.hid hT
  have HS := Lib.hid hS
  have KAl := Lib.hid alive8
  have KG := Lib.hid (great8_at m hL.mok false hg)
  have KSG := Lib.hid (fun w hL => rgood8_at m M w hL)
  rw [decide_eq_true hp] at KSG
  have he : r.toList.isEmpty = false := isEmpty_no h0
  have u1 : decide (100 < (r.size : Int)) = false := decide_eq_false (by omega)
  obtain ⟨k, hk⟩ := Int.eq_ofNat_of_zero_le (show 0 ≤ M.kind by have := P_kind hp; omega)
  have hkk : kindOf (wordK M.kind) = k := by
    have := (wordK_P hp).2.2
    rw [hk, Int.toNat_natCast] at this
    rw [hk]; exact this
  have hk0 : k ≠ 0 := by have := P_kind hp; omega
  have hrd := read_pay hp hL.ok r.data.toList
  rw [hk] at hrd
  have hrs : r.size ≠ 0 := fun e => h0 (by
    have : r.data.toList = [] := List.eq_nil_of_length_eq_zero (by rw [← Lib.size_eq]; exact e)
    rw [← txt_of r, this]; rfl)
  have KR1 : Hid (∀ w, TabS w → Calls Tryd.prog 16 #[.agg #[.string (wordK M.kind), .string (txt M.pay ++ r)]] w fun q w' => q = .returned (.tuple #[.agg (mmA (mmZ 0)), .int .i64 4]) ∧ Below w.heap.size w w') := Lib.hid (fun w hS => by
    have e : txt M.pay ++ r = txt (M.pay ++ r.data.toList) := by
      have := txt_append M.pay r.data.toList
      rwa [txt_of] at this
    rw [e]
    refine Read_form ⟨wordK M.kind, txt (M.pay ++ r.data.toList)⟩ k hkk hk0 w hS M.bare ⟨txt r.data.toList, false⟩ hrd ?_
    rw [txt_of]
    show false = (true && decide (r.size = 0))
    rw [decide_eq_false hrs]; rfl)
  have KW : Hid (∀ w, Calls Tryd.prog 15 #[.int .i64 m.kind] w fun e w' => e = .returned (.string (wordK M.kind)) ∧ w = w') := Lib.hid (fun w => by rw [hL.kind]; exact rword8_at M.kind w)
  have KP := Lib.hid (fun w hL => rpay8_at m M w hL hp)
  have hlen := pay_len hp hL.ok
  have zs := txt_size M.pay
  have z1 : (txt M.pay).size ≤ 16384 := by omega
  have u2 : (((txt M.pay).size : Int) == 0) = false := beq_eq_false_iff_ne.2 (by omega)
  obtain ⟨u, hu⟩ : ∃ u : Nat, u = (IntKind.u64.wrap z).toNat := ⟨_, rfl⟩
  have hu0 : 0 ≤ IntKind.u64.wrap z ∧ IntKind.u64.wrap z < 18446744073709551616 := by rw [IntKind.wrap_u64]; omega
  have g1 : IntKind.u64.wrap z = (u : Int) := by omega
  have hul : u < 18446744073709551616 := by omega
  obtain ⟨n, hn⟩ : ∃ n : Nat, n = (txt M.pay).size := ⟨_, rfl⟩
  have hn0 : n ≠ 0 ∧ n ≤ 16384 := by omega
  obtain ⟨c, hc⟩ : ∃ c : Nat, c = u % n := ⟨_, rfl⟩
  have hcn : c < n := by rw [hc]; exact Nat.mod_lt _ (by omega)
  have g2 : IntKind.u64.wrap ((txt M.pay).size : Int) = (n : Int) := by rw [IntKind.wrap_u64]; omega
  have g3 : (u : Int) % (n : Int) = (c : Int) := by rw [hc]; rfl
  have g4 : (u : Int).tmod (n : Int) = (c : Int) := by rw [Int.tmod_eq_emod_of_nonneg (by omega)]; exact g3
  have g5 : IntKind.i64.wrap (c : Int) = (c : Int) := IntWalk.i64_in _ (by omega)
  have g6 : IntKind.u64.wrap (c : Int) = (c : Int) := by rw [IntKind.wrap_u64]; omega
  have g7 : (n : Int) ≠ 0 := by omega
  have g8 : (c : Int) ≤ ((txt M.pay).size : Int) := by omega
  have m1 : (txt M.pay).extract 0 c = txt (M.pay.take c) := txt_to _ _ (by omega)
  have KR2 : Hid (∀ w, TabS w → Calls Tryd.prog 16 #[.agg #[.string (wordK M.kind), .string (txt (M.pay.take c))]] w fun q w' => q = .returned (.tuple #[.agg (mmA (mmZ 0)), .int .i64 4]) ∧ Below w.heap.size w w') := Lib.hid (fun w hS => by
    refine Read_form ⟨wordK M.kind, txt (M.pay.take c)⟩ k hkk hk0 w hS _ _ rfl ?_
    have hcut := cut_none hp hL.ok c (by omega)
    rw [hk] at hcut
    show false = (!(Ey.msg ⟨txt (M.pay.take c), false⟩ (k : Int)).2.bad && decide ((Ey.msg ⟨txt (M.pay.take c), false⟩ (k : Int)).2.s.size = 0))
    generalize Ey.msg ⟨txt (M.pay.take c), false⟩ (k : Int) = q at *
    cases hb : q.2.bad
    · cases hz : decide (q.2.s.size = 0)
      · rfl
      · exact (hcut hb (of_decide_eq_true hz)).elim
    · rfl)
  clear hg hT hS hu hu0 hul hn hn0 hc hcn hkk hk0 hrd hrs hk hlen zs hp h0 h2 hL
  generalize wordK M.kind = word at *
  generalize txt (M.pay.take c) = sk at *
  generalize txt M.pay = pay at *
  have hP := mm_new w m
  have hB : Below w.heap.size w (w.alloc (.cells (mmA m) 27)) := (Below.refl _ _).alloc (Nat.le_refl _) _
  go_enter Tryd.func7, Tryd.ntmps7
  go_upto_region 1 with fail
  obtain ⟨P, hPe⟩ : ∃ P, P = w.heap.size := ⟨_, rfl⟩
  rw [← hPe] at hP ⊢
  have hPw : w.heap.size ≤ P := by omega
  clear hPe
  generalize World.alloc _ _ = w1 at *
  go_wp2_with fail
  refine (KAl.out _ (HT.out.below hB) (HS.out.below hB)).mono ?_
  rintro r w2 ⟨rfl, hb⟩
  replace hP := hP.on hb
  replace hB := hB.trans (hb.mono hB.size)
  clear hb
  go_wp2_with (first | (with_reducible refine mm_load rfl _ rfl P rfl hP hz ?_) | (with_reducible refine mm_load_g (by with_unfolding_all rfl) _ rfl P rfl hP hz ?_))
  refine (KG.out _).mono ?_
  rintro r w3 ⟨rfl, hb⟩
  replace hP := hP.on hb
  replace hB := hB.trans (hb.mono hB.size)
  clear hb
  go_wp2_with (first | (with_reducible refine mm_load rfl _ rfl P rfl hP hz ?_) | (with_reducible refine mm_load_g (by with_unfolding_all rfl) _ rfl P rfl hP hz ?_))
  refine (KSG.out _ (HL.out.below hB)).mono ?_
  rintro r w4 ⟨rfl, hb⟩
  replace hP := hP.on hb
  replace hB := hB.trans (hb.mono hB.size)
  clear hb
  go_wp2_with (first | (with_reducible refine mm_load rfl _ rfl P rfl hP hz ?_) | (with_reducible refine mm_load_g (by with_unfolding_all rfl) _ rfl P rfl hP hz ?_))
  refine (KP.out _ (HL.out.below hB)).mono ?_
  rintro r w5 ⟨rfl, hb⟩
  replace hP := hP.on hb
  replace hB := hB.trans (hb.mono hB.size)
  clear hb
  have c0 := hP.kind
  go_wp2_with (first | (with_reducible refine mm_load rfl _ rfl P rfl hP hz ?_) | (with_reducible refine mm_load_g (by with_unfolding_all rfl) _ rfl P rfl hP hz ?_))
  refine (KW.out _).mono ?_
  rintro r w6 ⟨rfl, rfl⟩
  clear c0
  go_wp2_with fail
  refine (KR1.out _ (HS.out.below hB)).mono ?_
  rintro q w20 ⟨rfl, hb⟩
  replace hB := hB.trans (hb.mono hB.size)
  clear hb
  have hN := mm_newz w20
  have hz0 : (mmA (mmZ 0)).size = 39 := rfl
  go_upto_region 8 with (with_reducible refine mm_store rfl _ _ rfl w20.heap.size _ (mmZ 0) rfl rfl rfl hz0 hN hz0 ?_)
  generalize hw5 : World.setRow _ _ _ = w21
  have hb : Below w20.heap.size w20 w21 := by rw [← hw5]; exact below_setRow ((Below.refl _ _).alloc (Nat.le_refl _) _) (Nat.le_refl _) _
  clear hw5 hN hz0
  replace hB := hB.trans (hb.mono hB.size)
  clear hb
  go_wp2_with fail
  refine (KR2.out _ (HS.out.below hB)).mono ?_
  rintro q w22 ⟨rfl, hb⟩
  replace hB := hB.trans (hb.mono hB.size)
  clear hb
  have hN := mm_newz w22
  have hz0 : (mmA (mmZ 0)).size = 39 := rfl
  go_upto_region 11 with (with_reducible refine mm_store rfl _ _ rfl w22.heap.size _ (mmZ 0) rfl rfl rfl hz0 hN hz0 ?_)
  generalize hw5 : World.setRow _ _ _ = w23
  have hb : Below w22.heap.size w22 w23 := by rw [← hw5]; exact below_setRow ((Below.refl _ _).alloc (Nat.le_refl _) _) (Nat.le_refl _) _
  clear hw5 hN hz0
  replace hB := hB.trans (hb.mono hB.size)
  clear hb
  go_wp2_with fail
  go_ret
  exact ⟨rfl, hB⟩
theorem scuts_walk (m : Mm) (M : Ms) (z : Int) (r : ByteArray) (w : World) (hT : Tab w) (hS : TabS w) (hL : Lies w m M) :
    Calls Tryd.prog 7 #[.agg (mmA m), .int .i64 z, .string r] w fun r w' => r = .returned (.bool true) ∧ Below w.heap.size w w' := by
  cases hg : greatM m
  · by_cases hp : M.P
    · by_cases h0 : r = E0
      · exact scuts_bare m M z r hg hp h0 w hT hS hL
      by_cases h1 : 100 < r.size
      · exact scuts_long m M z r hg hp h0 h1 w hT hS hL
      by_cases h2 : M.pay.length = 0
      · exact scuts_nil m M z r hg hp h0 (by omega) h2 w hT hS hL
      · exact scuts_ok m M z r hg hp h0 (by omega) h2 w hT hS hL
    · exact scuts_bad m M z r hg hp w hT hS hL
  · exact scuts_great m M z r hg w hT hS hL
end Go.Proofs.YtmpllagaeoolaaaDoor
