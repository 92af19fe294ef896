/-
  HeaderReads: the walk.
-/
import Derived.Test.YtfnicmmebphpkaaDoorBunH
import Derived.Test.YtfnicmmebphpkaaDoorZHdEq
namespace Go.Proofs.YtfnicmmebphpkaaDoor
open Go.RowKit Mem Sc
set_option maxRecDepth 100000 in
set_option maxHeartbeats 1000000 in
theorem reads_long (s : ByteArray) (hs : 300 < s.size) (w : World) (hT : Tab w) : Calls Tryd.prog 4 #[.string s] w fun r w' => r = .returned (.bool true) ∧ Below w.heap.size w w' := by
  have t1 : decide ((300 : Int) < (s.size : Int)) = true := decide_eq_true (by omega)
  clear hs
  go_enter Tryd.func4, Tryd.ntmps4
  go_wp2_with fail
  refine (halive w hT).mono ?_
  rintro r w1 ⟨rfl, hB⟩
  go_wp2_with fail
  go_ret
  exact ⟨rfl, hB⟩
set_option maxRecDepth 100000 in
set_option maxHeartbeats 1000000 in
theorem reads_other (s : ByteArray) (hs : s.size ≤ 300) (h80 : s.size ≠ 80) (w : World) (hT : Tab w) : Calls Tryd.prog 4 #[.string s] w fun r w' => r = .returned (.bool true) ∧ Below w.heap.size w w' := by
  have t1 : decide ((300 : Int) < (s.size : Int)) = false := decide_eq_false (by omega)
  have t2 : ((s.size : Int) != 80) = true := by rw [bne_iff_ne]; omega
  have K := Lib.hid (of_other s h80)
  have hz0 := hdA_size hdZ_ok
  clear hs h80
  go_enter Tryd.func4, Tryd.ntmps4
  go_wp2_with fail
  refine (halive w hT).mono ?_
  rintro r w1 ⟨rfl, hB⟩
  go_wp2_with fail
  refine (K.out w1).mono ?_
  rintro r w2 ⟨rfl, hb2⟩
  replace hB := hB.trans (hb2.mono hB.size)
  have hZ := hd_newz w2
  go_upto_region 6 with (with_reducible refine hd_store rfl _ _ rfl _ _ hdZ rfl rfl rfl hz0 hZ hz0 ?_)
  have hX : HdAt ((w2.alloc (.cells Tryd.zeroCells25 25)).setRow w2.heap.size (hdA hdZ)) w2.heap.size hdZ := Has.row hZ _
  replace hB := below_setRow (hB.alloc hB.size (.cells Tryd.zeroCells25 25)) hB.size (hdA hdZ)
  clear hZ hb2 K
  generalize World.setRow _ _ _ = w3 at *
  generalize w2.heap.size = X at *
  have hq := hdz_eql
  go_wp2_with (first
    | (with_reducible refine hd_load_g (by with_unfolding_all rfl) _ rfl X rfl hX hz0 ?_)
    | (with_reducible refine hdeql_g (by with_unfolding_all rfl) _ _ _ rfl _ _ _ rfl rfl hq ?_))
  go_ret
  exact ⟨rfl, hB⟩
set_option maxRecDepth 100000 in
set_option maxHeartbeats 1000000 in
theorem reads_80 (h : Hd) (ho : h.ok) (hp : h.P) (w : World) (hT : Tab w) : Calls Tryd.prog 4 #[.string (txt h.enc)] w fun r w' => r = .returned (.bool true) ∧ Below w.heap.size w w' := by
  have K := Lib.hid (of_80 h ho hp)
  have CG := rgood_at h ho
  rw [decide_eq_true hp] at CG
  have KG := Lib.hid CG
  have KB := Lib.hid (rbytes h ho)
  have hz := hdA_size ho
  have hz0 := hdA_size hdZ_ok
  have hs : (txt h.enc).size = 80 := by rw [txt_size, Hd.enc_length ho]
  generalize txt h.enc = s at *
  have t1 : decide ((300 : Int) < (s.size : Int)) = false := decide_eq_false (by omega)
  have t2 : ((s.size : Int) != 80) = false := by rw [bne_eq_false_iff_eq]; omega
  clear hs CG hp
  go_enter Tryd.func4, Tryd.ntmps4
  go_wp2_with fail
  refine (halive w hT).mono ?_
  rintro r w1 ⟨rfl, hB⟩
  go_wp2_with fail
  refine (K.out w1).mono ?_
  rintro r w2 ⟨rfl, hb2⟩
  replace hB := hB.trans (hb2.mono hB.size)
  have hZ := hd_newz w2
  go_upto_region 6 with (with_reducible refine hd_store rfl _ _ rfl _ _ h rfl rfl rfl hz hZ hz0 ?_)
  have hX : HdAt ((w2.alloc (.cells Tryd.zeroCells25 25)).setRow w2.heap.size (hdA h)) w2.heap.size h := Has.row hZ _
  replace hB := below_setRow (hB.alloc hB.size (.cells Tryd.zeroCells25 25)) hB.size (hdA h)
  clear hZ hb2 K
  generalize World.setRow _ _ _ = w3 at *
  generalize w2.heap.size = X at *
  go_wp2_with (with_reducible refine hd_load_g (by with_unfolding_all rfl) _ rfl X rfl hX hz ?_)
  refine (KG.out w3).mono ?_
  rintro r w4 ⟨rfl, hb4⟩
  replace hX := hX.on hb4
  replace hB := hB.trans (hb4.mono hB.size)
  clear hb4 KG
  go_wp2_with (with_reducible refine hd_load_g (by with_unfolding_all rfl) _ rfl X rfl hX hz ?_)
  refine (KB.out w4).mono ?_
  rintro r w5 ⟨rfl, hb5⟩
  replace hB := hB.trans (hb5.mono hB.size)
  go_wp2_with fail
  go_ret
  exact ⟨rfl, hB⟩
theorem reads_walk (s : ByteArray) (w : World) (hT : Tab w) : Calls Tryd.prog 4 #[.string s] w fun r w' => r = .returned (.bool true) ∧ Below w.heap.size w w' := by
  by_cases h1 : 300 < s.size
  · exact reads_long s h1 w hT
  by_cases h2 : s.size = 80
  · obtain ⟨h, r, e, ho, hp, _⟩ := header_long (l := s.data.toList) (by rw [← Lib.size_eq]; omega)
    obtain rfl : r = [] := by
      have : s.size = 80 + r.length := by rw [Lib.size_eq, e, List.length_append, Hd.enc_length ho]
      exact List.eq_nil_of_length_eq_zero (by omega)
    rw [List.append_nil] at e
    have := reads_80 h ho hp w hT
    rwa [← e, txt_of] at this
  · exact reads_other s (by omega) h2 w hT
end Go.Proofs.YtfnicmmebphpkaaDoor
