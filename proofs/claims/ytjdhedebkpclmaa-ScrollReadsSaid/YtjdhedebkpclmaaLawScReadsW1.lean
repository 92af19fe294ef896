/-
  ScrollReads: a round over an item of kind 1.
-/
import Derived.Test.YtjdhedebkpclmaaLawScReads0
namespace Go.Proofs.Ytjdhedebkpclmaa
open Go.RowKit Mem Sc
set_option maxRecDepth 100000 in
set_option maxHeartbeats 8000000 in
theorem reads_way1 : reads_cut.2.1 := by
  intro s0 its n c w hl HN Qa w1 w2 w4 E HR Ka aa wr u4 u8 u9 u10 u11 u12 u13 u14 u15 u16 u32 u33 u34 u35 u36 u37 u38 u39 u40 u41 u42 u43 u44 u45 u46 u47 u48 u49 u50 u51 u52 u53 u54 u55 u56 u57 u58 u59 u60 u61 u62 u63 u64 u65 u66 u67 u68 u69 u70 u71 u72 u73 u74 u75 u76 u77 u78 u79 u80 u81 u82 u83 u84 u85 u86 u87 u88 u89 u90 u91 u92 u93 u94 u95 u96 u97 u98 u99 u100 u101 u102 u103 u104 u105 u106 u107 u108 u109 u110 u111 u112 u113 u114 u115 u116 u117 u118 u119 u120 u121 u122 u123 u124 u125 u126 u127 u128 u129 u130 u131 u132 u133 u134 u135 u136 u137 u138 u139 u140 u141 u142 u143 u144 u145 u146 u147 u148 u149 u150 u151 u152 u153 u154 u155 u156 u157 u158 u159 u160 u161 u162 u163 u164 u165 u166 u167 u168 u169 u170 u171 u172 u173 u174 u175 u176 u177 u178 u179 u180 u181 k s bd hk hs HBD hlt hkl ab ao HA x rt HX HSz HL Qb Kb az Kc ac w5 hE hb K hX hKE hRK g0 h1 h2 HRo HKE HXX hm7 xs1 M1 M2 hk0 hk1
  cases bd
  · by_cases hin : (counted s.data.toList x.n).2 = 0
    · have M3 := max_is (P := Try.prog) x.kind 0 x.kind (by omega)
      have M4 := min_is (P := Try.prog) x.kind 4 1 (by omega)
      have hix := idx1
      have k1 : (x.kind != 1) = false := by rw [bne_eq_false_iff_eq]; omega
      have C := Lib.hid (fun w h => count_at E ⟨s, false⟩ (fun h => by cases h) x.n w h)
      have G : Ey.count ⟨s, false⟩ x.n = behind s (counted s.data.toList x.n) := rfl
      have KC := Lib.hid (rcounted s x.n)
      have hlen := counted_len s.data.toList x.n
      have hnone := counted_none s.data.toList x.n
      rcases hcc : counted s.data.toList x.n with ⟨v, u⟩
      rw [hcc] at KC G hlen hnone hin
      obtain rfl : u = 0 := hin
      obtain rfl : v = 0 := hnone rfl
      rw [behind_none] at G
      clear hcc hnone hlen
      rw [G] at C
      clear G
      have KB := Lib.hid (rback ⟨#[]⟩ (by decide) 0 rfl true rfl)
      generalize near x.size 7 = q at *
      clear hm7 hX hKE
      have HE := Lib.hid hE
      clear hE
      go_wp2_with fail
      refine (KB.out _).mono ?_
      rintro r w6 ⟨rfl, rfl⟩
      clear KB
      go_wp2_with fail
      refine (KC.out _).mono ?_
      rintro r w6 ⟨rfl, hb6⟩
      have hE6 := HE.out.on hb6
      have hX6 := HXX.out.on hb6
      replace hb := hb.trans (hb6.mono hb.size)
      clear hb6 KC HE g0 h1 h2
      have h2 := hX6.num
      go_wp2_with fail
      refine (C.out _ hE6).mono ?_
      rintro r w7 ⟨rfl, hE, hg7⟩
      replace hb := hb.trans (gb_toBelow hg7 HRo hb.size)
      clear hg7 C hE6 h2 hX6
      have qb := bneq
      have CD := Lib.hid (done_at E dark w7 hE false rfl)
      go_wp2_with fail
      refine (bad_at E _ _ hE).mono ?_
      rintro r w9 ⟨rfl, rfl⟩
      go_wp2_with fail
      refine (left_at E _ _ hE).mono ?_
      rintro r w9 ⟨rfl, rfl⟩
      go_wp2_with fail
      refine CD.out.mono ?_
      rintro r w9 ⟨rfl, rfl⟩
      go_wp2_with fail
      go_roundw
      case rel => exact ⟨k + 1, ⟨#[]⟩, true, by omega, by go_num, rfl, rfl, by decide, Lib.hid (fun h => rfl), ⟨hb, hE⟩⟩
      case measure => simp [intOf]; omega
    · have M3 := max_is (P := Try.prog) x.kind 0 x.kind (by omega)
      have M4 := min_is (P := Try.prog) x.kind 4 1 (by omega)
      have hix := idx1
      have k1 : (x.kind != 1) = false := by rw [bne_eq_false_iff_eq]; omega
      have C := Lib.hid (fun w h => count_at E ⟨s, false⟩ (fun h => by cases h) x.n w h)
      have G : Ey.count ⟨s, false⟩ x.n = behind s (counted s.data.toList x.n) := rfl
      have KC := Lib.hid (rcounted s x.n)
      have hlen := counted_len s.data.toList x.n
      have hnone := counted_none s.data.toList x.n
      rcases hcc : counted s.data.toList x.n with ⟨v, u⟩
      rw [hcc] at KC G hlen hnone hin
      have hb2 : behind s (v, u) = (v, ⟨s.extract u s.size, false⟩) := by unfold behind; rw [if_neg hin]
      rw [hb2] at G
      rw [← Lib.size_eq] at hlen
      change u ≤ s.size at hlen
      have hu0 : ((u : Int) == 0) = false := by rw [beq_eq_false_iff_ne]; have : u ≠ 0 := hin; omega
      have hul : decide (s.size < u) = false := decide_eq_false (by omega)
      have hle : (u : Int) ≤ (s.size : Int) := by omega
      have hXs := rest_size s u hlen
      clear hb2 hlen
      clear hcc hnone hin
      generalize hXX : s.extract u s.size = X at *
      have hXl : X.size ≤ 4096 := by omega
      clear hXs
      rw [G] at C
      clear G
      have KB := Lib.hid (rback ⟨#[]⟩ (by decide) 0 rfl true rfl)
      generalize near x.size 7 = q at *
      clear hm7 hX hKE
      have HE := Lib.hid hE
      clear hE
      go_wp2_with fail
      refine (KB.out _).mono ?_
      rintro r w6 ⟨rfl, rfl⟩
      clear KB
      go_wp2_with fail
      refine (KC.out _).mono ?_
      rintro r w6 ⟨rfl, hb6⟩
      have hE6 := HE.out.on hb6
      have hX6 := HXX.out.on hb6
      replace hb := hb.trans (hb6.mono hb.size)
      clear hb6 KC HE g0 h1 h2
      have h2 := hX6.num
      go_wp2_with fail
      refine (C.out _ hE6).mono ?_
      rintro r w7 ⟨rfl, hE, hg7⟩
      replace hb := hb.trans (gb_toBelow hg7 HRo hb.size)
      clear hg7 C hE6 h2 hX6
      have qb := bneq
      have qe := empty_list2 X
      obtain ⟨d, hd⟩ : ∃ d, d = decide (X.size = 0) := ⟨_, rfl⟩
      rw [← hd] at qe
      have CD := Lib.hid (done_at E ⟨X, false⟩ w7 hE d hd)
      clear hd
      go_wp2_with fail
      refine (bad_at E _ _ hE).mono ?_
      rintro r w9 ⟨rfl, rfl⟩
      go_wp2_with fail
      refine (left_at E _ _ hE).mono ?_
      rintro r w9 ⟨rfl, rfl⟩
      go_wp2_with fail
      refine CD.out.mono ?_
      rintro r w9 ⟨rfl, rfl⟩
      go_wp2_with fail
      go_roundw
      case rel => exact ⟨k + 1, X, false, by omega, by go_num, rfl, rfl, hXl, Lib.hid (fun h => by cases h), ⟨hb, hE⟩⟩
      case measure => simp [intOf]; omega
  · have M3 := max_is (P := Try.prog) x.kind 0 x.kind (by omega)
    have M4 := min_is (P := Try.prog) x.kind 4 1 (by omega)
    have hix := idx1
    have k1 : (x.kind != 1) = false := by rw [bne_eq_false_iff_eq]; omega
    obtain rfl := HBD.out rfl
    change EyeAt w5 E dark at hE
    have G := count_dark x.n
    have C := Lib.hid (fun w h => count_at E dark (fun h => rfl) x.n w h)
    have KC := Lib.hid (rcounted ⟨#[]⟩ x.n)
    rw [show counted (⟨#[]⟩ : ByteArray).data.toList x.n = (0, 0) from rfl] at KC
    rw [G] at C
    clear G
    have KB := Lib.hid (rback ⟨#[]⟩ (by decide) 0 rfl true rfl)
    generalize near x.size 7 = q at *
    clear hm7 hX hKE
    have HE := Lib.hid hE
    clear hE
    go_wp2_with fail
    refine (KB.out _).mono ?_
    rintro r w6 ⟨rfl, rfl⟩
    clear KB
    go_wp2_with fail
    refine (KC.out _).mono ?_
    rintro r w6 ⟨rfl, hb6⟩
    have hE6 := HE.out.on hb6
    have hX6 := HXX.out.on hb6
    replace hb := hb.trans (hb6.mono hb.size)
    clear hb6 KC HE g0 h1 h2
    have h2 := hX6.num
    go_wp2_with fail
    refine (C.out _ hE6).mono ?_
    rintro r w7 ⟨rfl, hE, hg7⟩
    replace hb := hb.trans (gb_toBelow hg7 HRo hb.size)
    clear hg7 C hE6 h2 hX6
    have qb := bneq
    have CD := Lib.hid (done_at E dark w7 hE false rfl)
    go_wp2_with fail
    refine (bad_at E _ _ hE).mono ?_
    rintro r w9 ⟨rfl, rfl⟩
    go_wp2_with fail
    refine (left_at E _ _ hE).mono ?_
    rintro r w9 ⟨rfl, rfl⟩
    go_wp2_with fail
    refine CD.out.mono ?_
    rintro r w9 ⟨rfl, rfl⟩
    go_wp2_with fail
    go_roundw
    case rel => exact ⟨k + 1, ⟨#[]⟩, true, by omega, by go_num, rfl, rfl, by decide, Lib.hid (fun h => rfl), ⟨hb, hE⟩⟩
    case measure => simp [intOf]; omega
end Go.Proofs.Ytjdhedebkpclmaa
