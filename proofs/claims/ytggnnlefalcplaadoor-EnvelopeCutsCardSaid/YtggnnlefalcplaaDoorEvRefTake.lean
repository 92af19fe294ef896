/-
  The reference of layer 7: Take.
-/
import Derived.Test.YtggnnlefalcplaaDoorEvRef
namespace Go.Proofs.YtggnnlefalcplaaDoor
open Go.RowKit Mem Sc Sha
theorem results_tmp4 {fn : Func} {t u v x : Tmp} (h : fn.results = #[.tmp t, .tmp u, .tmp v, .tmp x]) (tmps : Array Value) (P : Program) (w : World) :
    (results fn tmps).run P w = .ok (.tuple #[tmps.getD t undef, tmps.getD u undef, tmps.getD v undef, tmps.getD x undef]) w := by
  simp [results, h]
theorem txt_mid (l : List UInt8) (a b : Nat) : (txt l).extract a b = txt ((l.drop a).take (b - a)) := by
  apply ba_ext
  rw [Lib.extract_data, txt_list, txt_list]
theorem tail_at (k : Nat) (h : k < 4) (w : World) : (Instr.index 9 (.string ⟨#[84, 65, 73, 76]⟩) (.int .i64 (k : Int))).run Tryd.prog w = .ok (.int .u8 ((tail4[k]'h).toNat : Int)) w := by
  obtain rfl | rfl | rfl | rfl : k = 0 ∨ k = 1 ∨ k = 2 ∨ k = 3 := by omega
  all_goals kernel_rfl
theorem byte_of {s : ByteArray} {l : List UInt8} (h : s.data.toList = l) (k : Nat) (hk : k < s.size) (hl : k < l.length) : (s[k]'hk).toNat = l[k].toNat := by
  subst h; rfl
theorem byte_same {l : List UInt8} (h : l.take 4 = tail4) (k : Nat) (hk : k < 4) (hl : k < l.length) : l[k] = tail4[k]'hk := by
  have h1 : (l.take 4)[k]? = some l[k] := by rw [List.getElem?_take_of_lt hk, List.getElem?_eq_getElem hl]
  rw [h, List.getElem?_eq_getElem hk] at h1
  exact (Option.some.inj h1).symm
theorem nought_end (l : List UInt8) (m : Nat) (b : UInt8) (hm : 12 ≤ m) (h : ((l.drop 4).take 12)[m]? = some b) : b = 0 := by
  have := (List.getElem?_eq_some_iff.1 h).1
  rw [List.length_take] at this
  omega
theorem nought_get (l : List UInt8) (q : Nat) (h : q < l.length) (h4 : 4 ≤ q) (hq : q < 16) : ((l.drop 4).take 12)[q - 4]? = some l[q] := by
  rw [List.getElem?_take_of_lt (by omega), List.getElem?_drop, show 4 + (q - 4) = q by omega, List.getElem?_eq_getElem h]
set_option maxRecDepth 100000 in
set_option maxHeartbeats 2000000 in
theorem rtake_few (l : List UInt8) (hl : l.length ≤ 1099511627776) (h : l.length < 4) (w : World) :
    Calls Tryd.prog 14 #[.string (txt l)] w fun e w' => e = .returned (.tuple #[.string (E0), .string (E0), .int .i64 0, .int .i64 7]) ∧ Below w.heap.size w w' := by
  have hz := txt_size l
  have t0 : decide ((4 : Int) ≤ ((txt l).size : Int)) = false := decide_eq_false (by omega)
  have t1 : decide (((txt l).size : Int) < 24) = true := decide_eq_true (by omega)
  clear hz h hl
  generalize txt l = s at *
  go_enter Tryd.func14, Tryd.ntmps14
  go_wp2_with fail
  go_loopw [6] (fun i wr => ∃ k : Nat, k ≤ 4 ∧ i = .int .i64 k ∧ Below w.heap.size w wr) (fun i _ => 4 - (intOf i).toNat)
  case atStart => exact ⟨0, by omega, rfl, Below.refl _ _⟩
  case round =>
    obtain ⟨k, hk, rfl, hB⟩ := hrel
    by_cases hlt : k < 4
    · have t2 : decide ((k : Int) < 4) = true := decide_eq_true (by omega)
      clear hlt hk
      go_wp2_with fail
      (try simp only [Exit.inBlock, Exit.then]); refine bodyPost_ret (results_tmp4 rfl _ _ _) rfl ?_
      exact ⟨rfl, hB⟩
    · have t2 : decide ((k : Int) < 4) = false := decide_eq_false (by omega)
      clear hlt hk
      go_wp2_with fail
      (try simp only [Exit.inBlock, Exit.then]); refine bodyPost_ret (results_tmp4 rfl _ _ _) rfl ?_
      exact ⟨rfl, hB⟩
set_option maxRecDepth 100000 in
set_option maxHeartbeats 2000000 in
theorem rtake_magic (l : List UInt8) (hl : l.length ≤ 1099511627776) (h : 4 ≤ l.length) (h2 : l.take 4 ≠ tail4) (w : World) :
    Calls Tryd.prog 14 #[.string (txt l)] w fun e w' => e = .returned (.tuple #[.string (E0), .string (E0), .int .i64 0, .int .i64 4]) ∧ Below w.heap.size w w' := by
  have hz := txt_size l
  have s4 : (4 : Int) ≤ ((txt l).size : Int) := by omega
  have t0 : decide ((4 : Int) ≤ ((txt l).size : Int)) = true := decide_eq_true (by omega)
  have HL := Lib.hid hl
  have H2 := Lib.hid h2
  have HZ := Lib.hid hz
  clear hl h2 hz h
  generalize hs : txt l = s at *
  have HS := Lib.hid hs.symm
  have HSL : Hid (s.data.toList = l) := Lib.hid (by rw [← hs]; rfl)
  clear hs
  go_enter Tryd.func14, Tryd.ntmps14
  go_wp2_with fail
  go_loopw [6] (fun i wr => ∃ k : Nat, k ≤ 4 ∧ i = .int .i64 k ∧ Hid (l.take k = tail4.take k) ∧ Below w.heap.size w wr) (fun i _ => 4 - (intOf i).toNat)
  case atStart => exact ⟨0, by omega, rfl, Lib.hid rfl, Below.refl _ _⟩
  case round =>
    obtain ⟨k, hk, rfl, HK, hB⟩ := hrel
    by_cases hlt : k < 4
    · have t2 : decide ((k : Int) < 4) = true := decide_eq_true (by omega)
      have hks : k < s.size := by omega
      have hks1 : (k : Int) < (s.size : Int) := by omega
      have hk0 : (0 : Int) ≤ (k : Int) := by omega
      have hkl : k < l.length := by rw [← HZ.out]; exact hks
      have hb := byte_of HSL.out k hks hkl
      obtain ⟨x, hx⟩ : ∃ x, x = tail4[k]'hlt := ⟨_, rfl⟩
      have hix := tail_at k hlt
      rw [← hx] at hix
      have hs1 := List.take_succ_eq_append_getElem hkl
      have hs2 : tail4.take (k + 1) = tail4.take k ++ [x] := by rw [hx]; exact List.take_succ_eq_append_getElem hlt
      by_cases he : l[k] = x
      · have c1 : (((s[k]'hks).toNat : Int) != (x.toNat : Int)) = false := by rw [bne_eq_false_iff_eq, hb, he]
        have HK2 : Hid (l.take (k + 1) = tail4.take (k + 1)) := Lib.hid (by rw [hs1, hs2, HK.out, he])
        clear hs1 hs2 hb hx he hkl
        go_wp2_with fail
        refine wp_region_quiet_below (by kernel_rfl) (by kernel_rfl) ?_
        repeat (go_big_quiet_step (fail))
        refine wpQuiet_nil ?_
        intro _ hw'
        obtain ⟨p, hw''⟩ := hw'
        subst hw''
        have hB2 := hB.trans ((below_regrown wr p.d p.os).mono hB.size)
        generalize Sort.grow (redrawn wr p.d) p.os = w9 at *
        go_wp2_with fail
        go_roundw
        case rel => exact ⟨k + 1, by omega, by go_num, HK2, hB2⟩
        case measure => simp [intOf]; omega
      · have c1 : (((s[k]'hks).toNat : Int) != (x.toNat : Int)) = true := by
          rw [bne_iff_ne, hb]
          intro e
          exact he (UInt8.toNat_inj.1 (by omega))
        clear hs1 hs2 hb hx he hkl HK
        go_wp2_with fail
        refine wp_region_quiet_below (by kernel_rfl) (by kernel_rfl) ?_
        repeat (go_big_quiet_step (fail))
        refine wpQuiet_nil ?_
        intro _ hw'
        obtain ⟨p, hw''⟩ := hw'
        subst hw''
        have hB2 := hB.trans ((below_regrown wr p.d p.os).mono hB.size)
        generalize Sort.grow (redrawn wr p.d) p.os = w9 at *
        go_wp2_with fail
        (try simp only [Exit.inBlock, Exit.then]); refine bodyPost_ret (results_tmp4 rfl _ _ _) rfl ?_
        exact ⟨rfl, hB2⟩
    · obtain rfl : k = 4 := by omega
      exact absurd HK.out H2.out
set_option maxRecDepth 100000 in
set_option maxHeartbeats 2000000 in
theorem rtake_short (l : List UInt8) (hl : l.length ≤ 1099511627776) (h4 : 4 ≤ l.length) (h2 : l.take 4 = tail4) (h : l.length < 24) (w : World) :
    Calls Tryd.prog 14 #[.string (txt l)] w fun e w' => e = .returned (.tuple #[.string (E0), .string (E0), .int .i64 0, .int .i64 7]) ∧ Below w.heap.size w w' := by
  have hz := txt_size l
  have s4 : (4 : Int) ≤ ((txt l).size : Int) := by omega
  have t0 : decide ((4 : Int) ≤ ((txt l).size : Int)) = true := decide_eq_true (by omega)
  have t1 : decide (((txt l).size : Int) < 24) = true := decide_eq_true (by omega)
  have HL := Lib.hid hl
  have H2 := Lib.hid h2
  have HZ := Lib.hid hz
  clear hl h2 hz h4 h
  generalize hs : txt l = s at *
  have HS := Lib.hid hs.symm
  have HSL : Hid (s.data.toList = l) := Lib.hid (by rw [← hs]; rfl)
  clear hs
  go_enter Tryd.func14, Tryd.ntmps14
  go_wp2_with fail
  go_loopw [6] (fun i wr => ∃ k : Nat, k ≤ 4 ∧ i = .int .i64 k ∧ Hid (l.take k = tail4.take k) ∧ Below w.heap.size w wr) (fun i _ => 4 - (intOf i).toNat)
  case atStart => exact ⟨0, by omega, rfl, Lib.hid rfl, Below.refl _ _⟩
  case round =>
    obtain ⟨k, hk, rfl, HK, hB⟩ := hrel
    by_cases hlt : k < 4
    · have t2 : decide ((k : Int) < 4) = true := decide_eq_true (by omega)
      have hks : k < s.size := by omega
      have hks1 : (k : Int) < (s.size : Int) := by omega
      have hk0 : (0 : Int) ≤ (k : Int) := by omega
      have hkl : k < l.length := by rw [← HZ.out]; exact hks
      have hb := byte_of HSL.out k hks hkl
      obtain ⟨x, hx⟩ : ∃ x, x = tail4[k]'hlt := ⟨_, rfl⟩
      have hix := tail_at k hlt
      rw [← hx] at hix
      have hs1 := List.take_succ_eq_append_getElem hkl
      have hs2 : tail4.take (k + 1) = tail4.take k ++ [x] := by rw [hx]; exact List.take_succ_eq_append_getElem hlt
      have he : l[k] = x := by rw [hx]; exact byte_same H2.out k hlt hkl
      have c1 : (((s[k]'hks).toNat : Int) != (x.toNat : Int)) = false := by rw [bne_eq_false_iff_eq, hb, he]
      have HK2 : Hid (l.take (k + 1) = tail4.take (k + 1)) := Lib.hid (by rw [hs1, hs2, HK.out, he])
      clear hs1 hs2 hb hx he hkl
      go_wp2_with fail
      refine wp_region_quiet_below (by kernel_rfl) (by kernel_rfl) ?_
      repeat (go_big_quiet_step (fail))
      refine wpQuiet_nil ?_
      intro _ hw'
      obtain ⟨p, hw''⟩ := hw'
      subst hw''
      have hB2 := hB.trans ((below_regrown wr p.d p.os).mono hB.size)
      generalize Sort.grow (redrawn wr p.d) p.os = w9 at *
      go_wp2_with fail
      go_roundw
      case rel => exact ⟨k + 1, by omega, by go_num, HK2, hB2⟩
      case measure => simp [intOf]; omega
    · have t2 : decide ((k : Int) < 4) = false := decide_eq_false (by omega)
      clear hlt hk HK
      go_wp2_with fail
      (try simp only [Exit.inBlock, Exit.then]); refine bodyPost_ret (results_tmp4 rfl _ _ _) rfl ?_
      exact ⟨rfl, hB⟩
set_option maxRecDepth 100000 in
set_option maxHeartbeats 2000000 in
theorem rtake_word (l : List UInt8) (hl : l.length ≤ 1099511627776) (h2 : l.take 4 = tail4) (h : ¬ l.length < 24) (h3 : goodW (wordOf l) = false) (w : World) :
    Calls Tryd.prog 14 #[.string (txt l)] w fun e w' => e = .returned (.tuple #[.string (E0), .string (E0), .int .i64 0, .int .i64 4]) ∧ Below w.heap.size w w' := by
  have hz := txt_size l
  have KW := Lib.hid (rword_at (txt (wordOf l)) false h3)
  have hv : val ((l.drop 16).take 4) < 4294967296 := by
    have := val_lt ((l.drop 16).take 4)
    rw [List.length_take, List.length_drop, Nat.min_eq_left (by omega)] at this
    exact this
  have KB := Lib.hid (rback (txt ((l.drop 16).take 4)) (by rw [txt_size, List.length_take]; omega) (szE l : Nat) (by rw [txt_list]; exact (IntWalk.i64_in _ (by unfold szE; omega)).symm) true (by rw [txt_list, decide_eq_true]; omega))
  have m1 : (txt l).extract 16 20 = txt ((l.drop 16).take 4) := txt_mid l 16 20
  have s4 : (4 : Int) ≤ ((txt l).size : Int) := by omega
  have t0 : decide ((4 : Int) ≤ ((txt l).size : Int)) = true := decide_eq_true (by omega)
  have t1 : decide (((txt l).size : Int) < 24) = false := decide_eq_false (by omega)
  have s24 : (24 : Int) ≤ ((txt l).size : Int) := by omega
  have HL := Lib.hid hl
  have H2 := Lib.hid h2
  have H24 := Lib.hid h
  have HZ := Lib.hid hz
  clear hl h2 hz h h3 hv
  generalize szE l = n at *
  generalize txt ((l.drop 16).take 4) = x16 at *
  obtain ⟨wd, hwd⟩ : ∃ wd, wd = txt (wordOf l) := ⟨_, rfl⟩
  rw [← hwd] at KW
  have HWD := Lib.hid hwd
  clear hwd
  generalize hs : txt l = s at *
  have HS := Lib.hid hs.symm
  have HSL : Hid (s.data.toList = l) := Lib.hid (by rw [← hs]; rfl)
  clear hs
  go_enter Tryd.func14, Tryd.ntmps14
  go_wp2_with fail
  go_loopw [6] (fun i wr => ∃ k : Nat, k ≤ 4 ∧ i = .int .i64 k ∧ Hid (l.take k = tail4.take k) ∧ Below w.heap.size w wr) (fun i _ => 4 - (intOf i).toNat)
  case atStart => exact ⟨0, by omega, rfl, Lib.hid rfl, Below.refl _ _⟩
  case round =>
    obtain ⟨k, hk, rfl, HK, hB⟩ := hrel
    by_cases hlt : k < 4
    · have t2 : decide ((k : Int) < 4) = true := decide_eq_true (by omega)
      have hks : k < s.size := by omega
      have hks1 : (k : Int) < (s.size : Int) := by omega
      have hk0 : (0 : Int) ≤ (k : Int) := by omega
      have hkl : k < l.length := by rw [← HZ.out]; exact hks
      have hb := byte_of HSL.out k hks hkl
      obtain ⟨x, hx⟩ : ∃ x, x = tail4[k]'hlt := ⟨_, rfl⟩
      have hix := tail_at k hlt
      rw [← hx] at hix
      have hs1 := List.take_succ_eq_append_getElem hkl
      have hs2 : tail4.take (k + 1) = tail4.take k ++ [x] := by rw [hx]; exact List.take_succ_eq_append_getElem hlt
      have he : l[k] = x := by rw [hx]; exact byte_same H2.out k hlt hkl
      have c1 : (((s[k]'hks).toNat : Int) != (x.toNat : Int)) = false := by rw [bne_eq_false_iff_eq, hb, he]
      have HK2 : Hid (l.take (k + 1) = tail4.take (k + 1)) := Lib.hid (by rw [hs1, hs2, HK.out, he])
      clear hs1 hs2 hb hx he hkl
      go_wp2_with fail
      refine wp_region_quiet_below (by kernel_rfl) (by kernel_rfl) ?_
      repeat (go_big_quiet_step (fail))
      refine wpQuiet_nil ?_
      intro _ hw'
      obtain ⟨p, hw''⟩ := hw'
      subst hw''
      have hB2 := hB.trans ((below_regrown wr p.d p.os).mono hB.size)
      generalize Sort.grow (redrawn wr p.d) p.os = w9 at *
      go_wp2_with fail
      go_roundw
      case rel => exact ⟨k + 1, by omega, by go_num, HK2, hB2⟩
      case measure => simp [intOf]; omega
    · have t2 : decide ((k : Int) < 4) = false := decide_eq_false (by omega)
      clear hlt hk HK
      go_wp2_with fail
      clear t2
      go_loopw [7] (fun e wr => ∃ E : Nat, 4 ≤ E ∧ E ≤ 16 ∧ e = .int .i64 (E : Int) ∧ Hid (∀ (m : Nat) b, E ≤ m + 4 → ((l.drop 4).take 12)[m]? = some b → b = 0) ∧ Below w.heap.size w wr) (fun e _ => (intOf e).toNat)
      case atStart => exact ⟨16, by omega, Nat.le_refl _, rfl, Lib.hid (fun m b hm => nought_end l m b (by omega)), hB⟩
      case round =>
        clear hB
        obtain ⟨E, hE4, hE16, rfl, HJ, hB⟩ := hrel
        have fin : (∀ b, 0 < E - 4 → ((l.drop 4).take 12)[E - 4 - 1]? = some b → b ≠ 0) → s.extract 4 E = wd := fun h2 => by
          rw [HS.out, txt_mid, HWD.out]
          unfold wordOf
          rw [Lib.trimRightB_take _ 0 (E - 4) (by rw [List.length_take, List.length_drop]; have := H24.out; omega) (fun m b hm => HJ.out m b (by omega)) h2, List.take_take, Nat.min_eq_left (by omega)]
        have g1 : (4 : Int) ≤ (E : Int) := by omega
        have g2 : (E : Int) ≤ (s.size : Int) := by omega
        by_cases hj0 : E = 4
        · have m4 : s.extract 4 E = wd := fin (fun b h => by omega)
          have c0 : decide ((4 : Int) < (E : Int)) = false := decide_eq_false (by omega)
          clear fin hj0 HJ hE4 hE16
          go_wp2_with fail
          refine (KB.out _).mono ?_
          rintro r w1 ⟨rfl, rfl⟩
          go_wp2_with fail
          refine (KW.out _).mono ?_
          rintro r w2 ⟨rfl, rfl⟩
          go_wp2_with fail
          (try simp only [Exit.inBlock, Exit.then]); refine bodyPost_ret (results_tmp4 rfl _ _ _) rfl ?_
          exact ⟨rfl, hB⟩
        · obtain ⟨q, hq⟩ : ∃ q, q = E - 1 := ⟨_, rfl⟩
          have f0 : IntKind.i64.wrap ((E : Int) - 1) = (q : Int) := (IntWalk.i64_in _ (by omega)).trans (by omega)
          have c0 : decide ((4 : Int) < (E : Int)) = true := decide_eq_true (by omega)
          have hqs : q < s.size := by omega
          have hql : q < l.length := by rw [← HZ.out]; exact hqs
          have hq1 : (q : Int) < (s.size : Int) := by omega
          have hq0 : (0 : Int) ≤ (q : Int) := by omega
          have hb := byte_of HSL.out q hqs hql
          have hg := nought_get l q hql (by omega) (by omega)
          by_cases he : l[q] = 0
          · have c1 : (((s[q]'hqs).toNat : Int) == 0) = true := by rw [beq_iff_eq, hb, he]; rfl
            have HJ2 : Hid (∀ (m : Nat) b, q ≤ m + 4 → ((l.drop 4).take 12)[m]? = some b → b = 0) := Lib.hid (fun m b hm hbm => by
              by_cases hmq : m = q - 4
              · subst hmq
                rw [hg] at hbm
                exact (Option.some.inj hbm).symm.trans he
              · exact HJ.out m b (by omega) hbm)
            have hq4 : 4 ≤ q := by omega
            have hq16 : q ≤ 16 := by omega
            have HM : Hid (q < E) := Lib.hid (by omega)
            clear fin hb hg he HJ hq hE4 hE16 hj0
            go_wp2_with fail
            go_roundw
            case rel => exact ⟨q, hq4, hq16, rfl, HJ2, hB⟩
            case measure => have := HM.out; simp [intOf]; omega
          · have c1 : (((s[q]'hqs).toNat : Int) == 0) = false := by
              rw [beq_eq_false_iff_ne, hb]
              intro e
              exact he (UInt8.toNat_inj.1 (by show _ = 0; omega))
            have m4 : s.extract 4 E = wd := fin (fun b _ hbm => by
              rw [show E - 4 - 1 = q - 4 by omega, hg] at hbm
              rw [← Option.some.inj hbm]; exact he)
            clear fin hb hg he HJ hq hE4 hE16 hj0
            go_wp2_with fail
            refine (KB.out _).mono ?_
            rintro r w1 ⟨rfl, rfl⟩
            go_wp2_with fail
            refine (KW.out _).mono ?_
            rintro r w2 ⟨rfl, rfl⟩
            go_wp2_with fail
            (try simp only [Exit.inBlock, Exit.then]); refine bodyPost_ret (results_tmp4 rfl _ _ _) rfl ?_
            exact ⟨rfl, hB⟩
set_option maxRecDepth 100000 in
set_option maxHeartbeats 2000000 in
theorem rtake_size (l : List UInt8) (hl : l.length ≤ 1099511627776) (h2 : l.take 4 = tail4) (h : ¬ l.length < 24) (h3 : goodW (wordOf l) = true) (h5 : 16384 < szE l) (w : World) :
    Calls Tryd.prog 14 #[.string (txt l)] w fun e w' => e = .returned (.tuple #[.string (E0), .string (E0), .int .i64 0, .int .i64 4]) ∧ Below w.heap.size w w' := by
  have hz := txt_size l
  have KW := Lib.hid (rword_at (txt (wordOf l)) true h3)
  have hv : val ((l.drop 16).take 4) < 4294967296 := by
    have := val_lt ((l.drop 16).take 4)
    rw [List.length_take, List.length_drop, Nat.min_eq_left (by omega)] at this
    exact this
  have KB := Lib.hid (rback (txt ((l.drop 16).take 4)) (by rw [txt_size, List.length_take]; omega) (szE l : Nat) (by rw [txt_list]; exact (IntWalk.i64_in _ (by unfold szE; omega)).symm) true (by rw [txt_list, decide_eq_true]; omega))
  have m1 : (txt l).extract 16 20 = txt ((l.drop 16).take 4) := txt_mid l 16 20
  have t3 : decide ((16384 : Int) < ((szE l : Nat) : Int)) = true := decide_eq_true (by omega)
  have s4 : (4 : Int) ≤ ((txt l).size : Int) := by omega
  have t0 : decide ((4 : Int) ≤ ((txt l).size : Int)) = true := decide_eq_true (by omega)
  have t1 : decide (((txt l).size : Int) < 24) = false := decide_eq_false (by omega)
  have s24 : (24 : Int) ≤ ((txt l).size : Int) := by omega
  have HL := Lib.hid hl
  have H2 := Lib.hid h2
  have H24 := Lib.hid h
  have HZ := Lib.hid hz
  clear hl h2 hz h h3 h5 hv
  generalize szE l = n at *
  generalize txt ((l.drop 16).take 4) = x16 at *
  obtain ⟨wd, hwd⟩ : ∃ wd, wd = txt (wordOf l) := ⟨_, rfl⟩
  rw [← hwd] at KW
  have HWD := Lib.hid hwd
  clear hwd
  generalize hs : txt l = s at *
  have HS := Lib.hid hs.symm
  have HSL : Hid (s.data.toList = l) := Lib.hid (by rw [← hs]; rfl)
  clear hs
  go_enter Tryd.func14, Tryd.ntmps14
  go_wp2_with fail
  go_loopw [6] (fun i wr => ∃ k : Nat, k ≤ 4 ∧ i = .int .i64 k ∧ Hid (l.take k = tail4.take k) ∧ Below w.heap.size w wr) (fun i _ => 4 - (intOf i).toNat)
  case atStart => exact ⟨0, by omega, rfl, Lib.hid rfl, Below.refl _ _⟩
  case round =>
    obtain ⟨k, hk, rfl, HK, hB⟩ := hrel
    by_cases hlt : k < 4
    · have t2 : decide ((k : Int) < 4) = true := decide_eq_true (by omega)
      have hks : k < s.size := by omega
      have hks1 : (k : Int) < (s.size : Int) := by omega
      have hk0 : (0 : Int) ≤ (k : Int) := by omega
      have hkl : k < l.length := by rw [← HZ.out]; exact hks
      have hb := byte_of HSL.out k hks hkl
      obtain ⟨x, hx⟩ : ∃ x, x = tail4[k]'hlt := ⟨_, rfl⟩
      have hix := tail_at k hlt
      rw [← hx] at hix
      have hs1 := List.take_succ_eq_append_getElem hkl
      have hs2 : tail4.take (k + 1) = tail4.take k ++ [x] := by rw [hx]; exact List.take_succ_eq_append_getElem hlt
      have he : l[k] = x := by rw [hx]; exact byte_same H2.out k hlt hkl
      have c1 : (((s[k]'hks).toNat : Int) != (x.toNat : Int)) = false := by rw [bne_eq_false_iff_eq, hb, he]
      have HK2 : Hid (l.take (k + 1) = tail4.take (k + 1)) := Lib.hid (by rw [hs1, hs2, HK.out, he])
      clear hs1 hs2 hb hx he hkl
      go_wp2_with fail
      refine wp_region_quiet_below (by kernel_rfl) (by kernel_rfl) ?_
      repeat (go_big_quiet_step (fail))
      refine wpQuiet_nil ?_
      intro _ hw'
      obtain ⟨p, hw''⟩ := hw'
      subst hw''
      have hB2 := hB.trans ((below_regrown wr p.d p.os).mono hB.size)
      generalize Sort.grow (redrawn wr p.d) p.os = w9 at *
      go_wp2_with fail
      go_roundw
      case rel => exact ⟨k + 1, by omega, by go_num, HK2, hB2⟩
      case measure => simp [intOf]; omega
    · have t2 : decide ((k : Int) < 4) = false := decide_eq_false (by omega)
      clear hlt hk HK
      go_wp2_with fail
      clear t2
      go_loopw [7] (fun e wr => ∃ E : Nat, 4 ≤ E ∧ E ≤ 16 ∧ e = .int .i64 (E : Int) ∧ Hid (∀ (m : Nat) b, E ≤ m + 4 → ((l.drop 4).take 12)[m]? = some b → b = 0) ∧ Below w.heap.size w wr) (fun e _ => (intOf e).toNat)
      case atStart => exact ⟨16, by omega, Nat.le_refl _, rfl, Lib.hid (fun m b hm => nought_end l m b (by omega)), hB⟩
      case round =>
        clear hB
        obtain ⟨E, hE4, hE16, rfl, HJ, hB⟩ := hrel
        have fin : (∀ b, 0 < E - 4 → ((l.drop 4).take 12)[E - 4 - 1]? = some b → b ≠ 0) → s.extract 4 E = wd := fun h2 => by
          rw [HS.out, txt_mid, HWD.out]
          unfold wordOf
          rw [Lib.trimRightB_take _ 0 (E - 4) (by rw [List.length_take, List.length_drop]; have := H24.out; omega) (fun m b hm => HJ.out m b (by omega)) h2, List.take_take, Nat.min_eq_left (by omega)]
        have g1 : (4 : Int) ≤ (E : Int) := by omega
        have g2 : (E : Int) ≤ (s.size : Int) := by omega
        by_cases hj0 : E = 4
        · have m4 : s.extract 4 E = wd := fin (fun b h => by omega)
          have c0 : decide ((4 : Int) < (E : Int)) = false := decide_eq_false (by omega)
          clear fin hj0 HJ hE4 hE16
          go_wp2_with fail
          refine (KB.out _).mono ?_
          rintro r w1 ⟨rfl, rfl⟩
          go_wp2_with fail
          refine (KW.out _).mono ?_
          rintro r w2 ⟨rfl, rfl⟩
          go_wp2_with fail
          (try simp only [Exit.inBlock, Exit.then]); refine bodyPost_ret (results_tmp4 rfl _ _ _) rfl ?_
          exact ⟨rfl, hB⟩
        · obtain ⟨q, hq⟩ : ∃ q, q = E - 1 := ⟨_, rfl⟩
          have f0 : IntKind.i64.wrap ((E : Int) - 1) = (q : Int) := (IntWalk.i64_in _ (by omega)).trans (by omega)
          have c0 : decide ((4 : Int) < (E : Int)) = true := decide_eq_true (by omega)
          have hqs : q < s.size := by omega
          have hql : q < l.length := by rw [← HZ.out]; exact hqs
          have hq1 : (q : Int) < (s.size : Int) := by omega
          have hq0 : (0 : Int) ≤ (q : Int) := by omega
          have hb := byte_of HSL.out q hqs hql
          have hg := nought_get l q hql (by omega) (by omega)
          by_cases he : l[q] = 0
          · have c1 : (((s[q]'hqs).toNat : Int) == 0) = true := by rw [beq_iff_eq, hb, he]; rfl
            have HJ2 : Hid (∀ (m : Nat) b, q ≤ m + 4 → ((l.drop 4).take 12)[m]? = some b → b = 0) := Lib.hid (fun m b hm hbm => by
              by_cases hmq : m = q - 4
              · subst hmq
                rw [hg] at hbm
                exact (Option.some.inj hbm).symm.trans he
              · exact HJ.out m b (by omega) hbm)
            have hq4 : 4 ≤ q := by omega
            have hq16 : q ≤ 16 := by omega
            have HM : Hid (q < E) := Lib.hid (by omega)
            clear fin hb hg he HJ hq hE4 hE16 hj0
            go_wp2_with fail
            go_roundw
            case rel => exact ⟨q, hq4, hq16, rfl, HJ2, hB⟩
            case measure => have := HM.out; simp [intOf]; omega
          · have c1 : (((s[q]'hqs).toNat : Int) == 0) = false := by
              rw [beq_eq_false_iff_ne, hb]
              intro e
              exact he (UInt8.toNat_inj.1 (by show _ = 0; omega))
            have m4 : s.extract 4 E = wd := fin (fun b _ hbm => by
              rw [show E - 4 - 1 = q - 4 by omega, hg] at hbm
              rw [← Option.some.inj hbm]; exact he)
            clear fin hb hg he HJ hq hE4 hE16 hj0
            go_wp2_with fail
            refine (KB.out _).mono ?_
            rintro r w1 ⟨rfl, rfl⟩
            go_wp2_with fail
            refine (KW.out _).mono ?_
            rintro r w2 ⟨rfl, rfl⟩
            go_wp2_with fail
            (try simp only [Exit.inBlock, Exit.then]); refine bodyPost_ret (results_tmp4 rfl _ _ _) rfl ?_
            exact ⟨rfl, hB⟩
set_option maxRecDepth 100000 in
set_option maxHeartbeats 2000000 in
theorem rtake_more (l : List UInt8) (hl : l.length ≤ 1099511627776) (h2 : l.take 4 = tail4) (h : ¬ l.length < 24) (h3 : goodW (wordOf l) = true) (h5 : szE l ≤ 16384) (h6 : l.length < 24 + szE l) (w : World) :
    Calls Tryd.prog 14 #[.string (txt l)] w fun e w' => e = .returned (.tuple #[.string (E0), .string (E0), .int .i64 0, .int .i64 7]) ∧ Below w.heap.size w w' := by
  have hz := txt_size l
  have KW := Lib.hid (rword_at (txt (wordOf l)) true h3)
  have hv : val ((l.drop 16).take 4) < 4294967296 := by
    have := val_lt ((l.drop 16).take 4)
    rw [List.length_take, List.length_drop, Nat.min_eq_left (by omega)] at this
    exact this
  have KB := Lib.hid (rback (txt ((l.drop 16).take 4)) (by rw [txt_size, List.length_take]; omega) (szE l : Nat) (by rw [txt_list]; exact (IntWalk.i64_in _ (by unfold szE; omega)).symm) true (by rw [txt_list, decide_eq_true]; omega))
  have m1 : (txt l).extract 16 20 = txt ((l.drop 16).take 4) := txt_mid l 16 20
  have t3 : decide ((16384 : Int) < ((szE l : Nat) : Int)) = false := decide_eq_false (by omega)
  have f1 : IntKind.i64.wrap (24 + ((szE l : Nat) : Int)) = ((24 + szE l : Nat) : Int) := (IntWalk.i64_in _ (by omega)).trans (by omega)
  have t4 : (txt l).size < 24 + szE l := by omega
  have s4 : (4 : Int) ≤ ((txt l).size : Int) := by omega
  have t0 : decide ((4 : Int) ≤ ((txt l).size : Int)) = true := decide_eq_true (by omega)
  have t1 : decide (((txt l).size : Int) < 24) = false := decide_eq_false (by omega)
  have s24 : (24 : Int) ≤ ((txt l).size : Int) := by omega
  have HL := Lib.hid hl
  have H2 := Lib.hid h2
  have H24 := Lib.hid h
  have HZ := Lib.hid hz
  clear hl h2 hz h h3 h5 h6 hv
  obtain ⟨tot, ht⟩ : ∃ tot : Nat, tot = 24 + szE l := ⟨_, rfl⟩
  rw [← ht] at f1 t4
  clear ht
  generalize szE l = n at *
  generalize txt ((l.drop 16).take 4) = x16 at *
  obtain ⟨wd, hwd⟩ : ∃ wd, wd = txt (wordOf l) := ⟨_, rfl⟩
  rw [← hwd] at KW
  have HWD := Lib.hid hwd
  clear hwd
  generalize hs : txt l = s at *
  have HS := Lib.hid hs.symm
  have HSL : Hid (s.data.toList = l) := Lib.hid (by rw [← hs]; rfl)
  clear hs
  go_enter Tryd.func14, Tryd.ntmps14
  go_wp2_with fail
  go_loopw [6] (fun i wr => ∃ k : Nat, k ≤ 4 ∧ i = .int .i64 k ∧ Hid (l.take k = tail4.take k) ∧ Below w.heap.size w wr) (fun i _ => 4 - (intOf i).toNat)
  case atStart => exact ⟨0, by omega, rfl, Lib.hid rfl, Below.refl _ _⟩
  case round =>
    obtain ⟨k, hk, rfl, HK, hB⟩ := hrel
    by_cases hlt : k < 4
    · have t2 : decide ((k : Int) < 4) = true := decide_eq_true (by omega)
      have hks : k < s.size := by omega
      have hks1 : (k : Int) < (s.size : Int) := by omega
      have hk0 : (0 : Int) ≤ (k : Int) := by omega
      have hkl : k < l.length := by rw [← HZ.out]; exact hks
      have hb := byte_of HSL.out k hks hkl
      obtain ⟨x, hx⟩ : ∃ x, x = tail4[k]'hlt := ⟨_, rfl⟩
      have hix := tail_at k hlt
      rw [← hx] at hix
      have hs1 := List.take_succ_eq_append_getElem hkl
      have hs2 : tail4.take (k + 1) = tail4.take k ++ [x] := by rw [hx]; exact List.take_succ_eq_append_getElem hlt
      have he : l[k] = x := by rw [hx]; exact byte_same H2.out k hlt hkl
      have c1 : (((s[k]'hks).toNat : Int) != (x.toNat : Int)) = false := by rw [bne_eq_false_iff_eq, hb, he]
      have HK2 : Hid (l.take (k + 1) = tail4.take (k + 1)) := Lib.hid (by rw [hs1, hs2, HK.out, he])
      clear hs1 hs2 hb hx he hkl
      go_wp2_with fail
      refine wp_region_quiet_below (by kernel_rfl) (by kernel_rfl) ?_
      repeat (go_big_quiet_step (fail))
      refine wpQuiet_nil ?_
      intro _ hw'
      obtain ⟨p, hw''⟩ := hw'
      subst hw''
      have hB2 := hB.trans ((below_regrown wr p.d p.os).mono hB.size)
      generalize Sort.grow (redrawn wr p.d) p.os = w9 at *
      go_wp2_with fail
      go_roundw
      case rel => exact ⟨k + 1, by omega, by go_num, HK2, hB2⟩
      case measure => simp [intOf]; omega
    · have t2 : decide ((k : Int) < 4) = false := decide_eq_false (by omega)
      clear hlt hk HK
      go_wp2_with fail
      clear t2
      go_loopw [7] (fun e wr => ∃ E : Nat, 4 ≤ E ∧ E ≤ 16 ∧ e = .int .i64 (E : Int) ∧ Hid (∀ (m : Nat) b, E ≤ m + 4 → ((l.drop 4).take 12)[m]? = some b → b = 0) ∧ Below w.heap.size w wr) (fun e _ => (intOf e).toNat)
      case atStart => exact ⟨16, by omega, Nat.le_refl _, rfl, Lib.hid (fun m b hm => nought_end l m b (by omega)), hB⟩
      case round =>
        clear hB
        obtain ⟨E, hE4, hE16, rfl, HJ, hB⟩ := hrel
        have fin : (∀ b, 0 < E - 4 → ((l.drop 4).take 12)[E - 4 - 1]? = some b → b ≠ 0) → s.extract 4 E = wd := fun h2 => by
          rw [HS.out, txt_mid, HWD.out]
          unfold wordOf
          rw [Lib.trimRightB_take _ 0 (E - 4) (by rw [List.length_take, List.length_drop]; have := H24.out; omega) (fun m b hm => HJ.out m b (by omega)) h2, List.take_take, Nat.min_eq_left (by omega)]
        have g1 : (4 : Int) ≤ (E : Int) := by omega
        have g2 : (E : Int) ≤ (s.size : Int) := by omega
        by_cases hj0 : E = 4
        · have m4 : s.extract 4 E = wd := fin (fun b h => by omega)
          have c0 : decide ((4 : Int) < (E : Int)) = false := decide_eq_false (by omega)
          clear fin hj0 HJ hE4 hE16
          go_wp2_with fail
          refine (KB.out _).mono ?_
          rintro r w1 ⟨rfl, rfl⟩
          go_wp2_with fail
          refine (KW.out _).mono ?_
          rintro r w2 ⟨rfl, rfl⟩
          go_wp2_with fail
          (try simp only [Exit.inBlock, Exit.then]); refine bodyPost_ret (results_tmp4 rfl _ _ _) rfl ?_
          exact ⟨rfl, hB⟩
        · obtain ⟨q, hq⟩ : ∃ q, q = E - 1 := ⟨_, rfl⟩
          have f0 : IntKind.i64.wrap ((E : Int) - 1) = (q : Int) := (IntWalk.i64_in _ (by omega)).trans (by omega)
          have c0 : decide ((4 : Int) < (E : Int)) = true := decide_eq_true (by omega)
          have hqs : q < s.size := by omega
          have hql : q < l.length := by rw [← HZ.out]; exact hqs
          have hq1 : (q : Int) < (s.size : Int) := by omega
          have hq0 : (0 : Int) ≤ (q : Int) := by omega
          have hb := byte_of HSL.out q hqs hql
          have hg := nought_get l q hql (by omega) (by omega)
          by_cases he : l[q] = 0
          · have c1 : (((s[q]'hqs).toNat : Int) == 0) = true := by rw [beq_iff_eq, hb, he]; rfl
            have HJ2 : Hid (∀ (m : Nat) b, q ≤ m + 4 → ((l.drop 4).take 12)[m]? = some b → b = 0) := Lib.hid (fun m b hm hbm => by
              by_cases hmq : m = q - 4
              · subst hmq
                rw [hg] at hbm
                exact (Option.some.inj hbm).symm.trans he
              · exact HJ.out m b (by omega) hbm)
            have hq4 : 4 ≤ q := by omega
            have hq16 : q ≤ 16 := by omega
            have HM : Hid (q < E) := Lib.hid (by omega)
            clear fin hb hg he HJ hq hE4 hE16 hj0
            go_wp2_with fail
            go_roundw
            case rel => exact ⟨q, hq4, hq16, rfl, HJ2, hB⟩
            case measure => have := HM.out; simp [intOf]; omega
          · have c1 : (((s[q]'hqs).toNat : Int) == 0) = false := by
              rw [beq_eq_false_iff_ne, hb]
              intro e
              exact he (UInt8.toNat_inj.1 (by show _ = 0; omega))
            have m4 : s.extract 4 E = wd := fin (fun b _ hbm => by
              rw [show E - 4 - 1 = q - 4 by omega, hg] at hbm
              rw [← Option.some.inj hbm]; exact he)
            clear fin hb hg he HJ hq hE4 hE16 hj0
            go_wp2_with fail
            refine (KB.out _).mono ?_
            rintro r w1 ⟨rfl, rfl⟩
            go_wp2_with fail
            refine (KW.out _).mono ?_
            rintro r w2 ⟨rfl, rfl⟩
            go_wp2_with fail
            (try simp only [Exit.inBlock, Exit.then]); refine bodyPost_ret (results_tmp4 rfl _ _ _) rfl ?_
            exact ⟨rfl, hB⟩
set_option maxRecDepth 100000 in
set_option maxHeartbeats 2000000 in
theorem rtake_sum (l : List UInt8) (hl : l.length ≤ 1099511627776) (h2 : l.take 4 = tail4) (h : ¬ l.length < 24) (h3 : goodW (wordOf l) = true) (h5 : szE l ≤ 16384) (h6 : ¬ l.length < 24 + szE l) (h7 : chk l ≠ sum4 (payL l)) (w : World) :
    Calls Tryd.prog 14 #[.string (txt l)] w fun e w' => e = .returned (.tuple #[.string (E0), .string (E0), .int .i64 0, .int .i64 4]) ∧ Below w.heap.size w w' := by
  have hz := txt_size l
  have KW := Lib.hid (rword_at (txt (wordOf l)) true h3)
  have hv : val ((l.drop 16).take 4) < 4294967296 := by
    have := val_lt ((l.drop 16).take 4)
    rw [List.length_take, List.length_drop, Nat.min_eq_left (by omega)] at this
    exact this
  have KB := Lib.hid (rback (txt ((l.drop 16).take 4)) (by rw [txt_size, List.length_take]; omega) (szE l : Nat) (by rw [txt_list]; exact (IntWalk.i64_in _ (by unfold szE; omega)).symm) true (by rw [txt_list, decide_eq_true]; omega))
  have m1 : (txt l).extract 16 20 = txt ((l.drop 16).take 4) := txt_mid l 16 20
  have t3 : decide ((16384 : Int) < ((szE l : Nat) : Int)) = false := decide_eq_false (by omega)
  have f1 : IntKind.i64.wrap (24 + ((szE l : Nat) : Int)) = ((24 + szE l : Nat) : Int) := (IntWalk.i64_in _ (by omega)).trans (by omega)
  have t4 : ¬ ((txt l).size < 24 + szE l) := by omega
  have t5 : ((24 + szE l : Nat) : Int) ≤ ((txt l).size : Int) := by omega
  have t6 : (24 : Int) ≤ ((24 + szE l : Nat) : Int) := by omega
  have m2 : (txt l).extract 24 (24 + szE l) = txt (payL l) := by rw [txt_mid, Nat.add_sub_cancel_left]; rfl
  have m3 : (txt l).extract 0 (24 + szE l) = txt (l.take (24 + szE l)) := by rw [txt_mid, List.drop_zero, Nat.sub_zero]
  have KY := Lib.hid (rbytes7 (wordOf l) (payL l) (goodW_len h3).2.1 (by rw [payL_length h6]; omega))
  have q1 : ((txt (envL (wordOf l) (payL l))).toList == (txt (l.take (24 + szE l))).toList) = false := by
    rw [ByteArray.toList_eq, ByteArray.toList_eq, txt_list, txt_list]
    rw [beq_eq_false_iff_ne]; exact fun e => h7 ((ref_eq h2 h h5 h6).1 e)
  have q2 : ((txt (envL (wordOf l) (payL l))).toList != (txt (l.take (24 + szE l))).toList) = true := by rw [bne, q1]; rfl
  generalize txt (envL (wordOf l) (payL l)) = yb at *
  generalize txt (l.take (24 + szE l)) = hd at *
  generalize txt (payL l) = py at *
  have s4 : (4 : Int) ≤ ((txt l).size : Int) := by omega
  have t0 : decide ((4 : Int) ≤ ((txt l).size : Int)) = true := decide_eq_true (by omega)
  have t1 : decide (((txt l).size : Int) < 24) = false := decide_eq_false (by omega)
  have s24 : (24 : Int) ≤ ((txt l).size : Int) := by omega
  have HL := Lib.hid hl
  have H2 := Lib.hid h2
  have H24 := Lib.hid h
  have HZ := Lib.hid hz
  clear hl h2 hz h h3 h5 h6 h7 hv
  obtain ⟨tot, ht⟩ : ∃ tot : Nat, tot = 24 + szE l := ⟨_, rfl⟩
  rw [← ht] at f1 t4 t5 t6 m2 m3
  clear ht
  generalize szE l = n at *
  generalize txt ((l.drop 16).take 4) = x16 at *
  obtain ⟨wd, hwd⟩ : ∃ wd, wd = txt (wordOf l) := ⟨_, rfl⟩
  rw [← hwd] at KW KY
  have HWD := Lib.hid hwd
  clear hwd
  generalize hs : txt l = s at *
  have HS := Lib.hid hs.symm
  have HSL : Hid (s.data.toList = l) := Lib.hid (by rw [← hs]; rfl)
  clear hs
  go_enter Tryd.func14, Tryd.ntmps14
  go_wp2_with fail
  go_loopw [6] (fun i wr => ∃ k : Nat, k ≤ 4 ∧ i = .int .i64 k ∧ Hid (l.take k = tail4.take k) ∧ Below w.heap.size w wr) (fun i _ => 4 - (intOf i).toNat)
  case atStart => exact ⟨0, by omega, rfl, Lib.hid rfl, Below.refl _ _⟩
  case round =>
    obtain ⟨k, hk, rfl, HK, hB⟩ := hrel
    by_cases hlt : k < 4
    · have t2 : decide ((k : Int) < 4) = true := decide_eq_true (by omega)
      have hks : k < s.size := by omega
      have hks1 : (k : Int) < (s.size : Int) := by omega
      have hk0 : (0 : Int) ≤ (k : Int) := by omega
      have hkl : k < l.length := by rw [← HZ.out]; exact hks
      have hb := byte_of HSL.out k hks hkl
      obtain ⟨x, hx⟩ : ∃ x, x = tail4[k]'hlt := ⟨_, rfl⟩
      have hix := tail_at k hlt
      rw [← hx] at hix
      have hs1 := List.take_succ_eq_append_getElem hkl
      have hs2 : tail4.take (k + 1) = tail4.take k ++ [x] := by rw [hx]; exact List.take_succ_eq_append_getElem hlt
      have he : l[k] = x := by rw [hx]; exact byte_same H2.out k hlt hkl
      have c1 : (((s[k]'hks).toNat : Int) != (x.toNat : Int)) = false := by rw [bne_eq_false_iff_eq, hb, he]
      have HK2 : Hid (l.take (k + 1) = tail4.take (k + 1)) := Lib.hid (by rw [hs1, hs2, HK.out, he])
      clear hs1 hs2 hb hx he hkl
      go_wp2_with fail
      refine wp_region_quiet_below (by kernel_rfl) (by kernel_rfl) ?_
      repeat (go_big_quiet_step (fail))
      refine wpQuiet_nil ?_
      intro _ hw'
      obtain ⟨p, hw''⟩ := hw'
      subst hw''
      have hB2 := hB.trans ((below_regrown wr p.d p.os).mono hB.size)
      generalize Sort.grow (redrawn wr p.d) p.os = w9 at *
      go_wp2_with fail
      go_roundw
      case rel => exact ⟨k + 1, by omega, by go_num, HK2, hB2⟩
      case measure => simp [intOf]; omega
    · have t2 : decide ((k : Int) < 4) = false := decide_eq_false (by omega)
      clear hlt hk HK
      go_wp2_with fail
      clear t2
      go_loopw [7] (fun e wr => ∃ E : Nat, 4 ≤ E ∧ E ≤ 16 ∧ e = .int .i64 (E : Int) ∧ Hid (∀ (m : Nat) b, E ≤ m + 4 → ((l.drop 4).take 12)[m]? = some b → b = 0) ∧ Below w.heap.size w wr) (fun e _ => (intOf e).toNat)
      case atStart => exact ⟨16, by omega, Nat.le_refl _, rfl, Lib.hid (fun m b hm => nought_end l m b (by omega)), hB⟩
      case round =>
        clear hB
        obtain ⟨E, hE4, hE16, rfl, HJ, hB⟩ := hrel
        have fin : (∀ b, 0 < E - 4 → ((l.drop 4).take 12)[E - 4 - 1]? = some b → b ≠ 0) → s.extract 4 E = wd := fun h2 => by
          rw [HS.out, txt_mid, HWD.out]
          unfold wordOf
          rw [Lib.trimRightB_take _ 0 (E - 4) (by rw [List.length_take, List.length_drop]; have := H24.out; omega) (fun m b hm => HJ.out m b (by omega)) h2, List.take_take, Nat.min_eq_left (by omega)]
        have g1 : (4 : Int) ≤ (E : Int) := by omega
        have g2 : (E : Int) ≤ (s.size : Int) := by omega
        by_cases hj0 : E = 4
        · have m4 : s.extract 4 E = wd := fin (fun b h => by omega)
          have c0 : decide ((4 : Int) < (E : Int)) = false := decide_eq_false (by omega)
          clear fin hj0 HJ hE4 hE16
          go_wp2_with fail
          refine (KB.out _).mono ?_
          rintro r w1 ⟨rfl, rfl⟩
          go_wp2_with fail
          refine (KW.out _).mono ?_
          rintro r w2 ⟨rfl, rfl⟩
          go_wp2_with fail
          refine wp_region_quiet_below (by kernel_rfl) (by kernel_rfl) ?_
          repeat (go_big_quiet_step ((go_at_call 13; (with_reducible exact Calls.regrown_of (KY.out _)))))
          refine wpQuiet_nil ?_
          intro _ hw'
          obtain ⟨p, hw''⟩ := hw'
          subst hw''
          have hB2 := hB.trans ((below_regrown wr p.d p.os).mono hB.size)
          generalize Sort.grow (redrawn wr p.d) p.os = w9 at *
          replace hB := hB2
          clear hB2 KY
          go_wp2_with fail
          (try simp only [Exit.inBlock, Exit.then]); refine bodyPost_ret (results_tmp4 rfl _ _ _) rfl ?_
          exact ⟨rfl, hB⟩
        · obtain ⟨q, hq⟩ : ∃ q, q = E - 1 := ⟨_, rfl⟩
          have f0 : IntKind.i64.wrap ((E : Int) - 1) = (q : Int) := (IntWalk.i64_in _ (by omega)).trans (by omega)
          have c0 : decide ((4 : Int) < (E : Int)) = true := decide_eq_true (by omega)
          have hqs : q < s.size := by omega
          have hql : q < l.length := by rw [← HZ.out]; exact hqs
          have hq1 : (q : Int) < (s.size : Int) := by omega
          have hq0 : (0 : Int) ≤ (q : Int) := by omega
          have hb := byte_of HSL.out q hqs hql
          have hg := nought_get l q hql (by omega) (by omega)
          by_cases he : l[q] = 0
          · have c1 : (((s[q]'hqs).toNat : Int) == 0) = true := by rw [beq_iff_eq, hb, he]; rfl
            have HJ2 : Hid (∀ (m : Nat) b, q ≤ m + 4 → ((l.drop 4).take 12)[m]? = some b → b = 0) := Lib.hid (fun m b hm hbm => by
              by_cases hmq : m = q - 4
              · subst hmq
                rw [hg] at hbm
                exact (Option.some.inj hbm).symm.trans he
              · exact HJ.out m b (by omega) hbm)
            have hq4 : 4 ≤ q := by omega
            have hq16 : q ≤ 16 := by omega
            have HM : Hid (q < E) := Lib.hid (by omega)
            clear fin hb hg he HJ hq hE4 hE16 hj0
            go_wp2_with fail
            go_roundw
            case rel => exact ⟨q, hq4, hq16, rfl, HJ2, hB⟩
            case measure => have := HM.out; simp [intOf]; omega
          · have c1 : (((s[q]'hqs).toNat : Int) == 0) = false := by
              rw [beq_eq_false_iff_ne, hb]
              intro e
              exact he (UInt8.toNat_inj.1 (by show _ = 0; omega))
            have m4 : s.extract 4 E = wd := fin (fun b _ hbm => by
              rw [show E - 4 - 1 = q - 4 by omega, hg] at hbm
              rw [← Option.some.inj hbm]; exact he)
            clear fin hb hg he HJ hq hE4 hE16 hj0
            go_wp2_with fail
            refine (KB.out _).mono ?_
            rintro r w1 ⟨rfl, rfl⟩
            go_wp2_with fail
            refine (KW.out _).mono ?_
            rintro r w2 ⟨rfl, rfl⟩
            go_wp2_with fail
            refine wp_region_quiet_below (by kernel_rfl) (by kernel_rfl) ?_
            repeat (go_big_quiet_step ((go_at_call 13; (with_reducible exact Calls.regrown_of (KY.out _)))))
            refine wpQuiet_nil ?_
            intro _ hw'
            obtain ⟨p, hw''⟩ := hw'
            subst hw''
            have hB2 := hB.trans ((below_regrown wr p.d p.os).mono hB.size)
            generalize Sort.grow (redrawn wr p.d) p.os = w9 at *
            replace hB := hB2
            clear hB2 KY
            go_wp2_with fail
            (try simp only [Exit.inBlock, Exit.then]); refine bodyPost_ret (results_tmp4 rfl _ _ _) rfl ?_
            exact ⟨rfl, hB⟩
set_option maxRecDepth 100000 in
set_option maxHeartbeats 2000000 in
theorem rtake_yes (l : List UInt8) (hl : l.length ≤ 1099511627776) (h2 : l.take 4 = tail4) (h : ¬ l.length < 24) (h3 : goodW (wordOf l) = true) (h5 : szE l ≤ 16384) (h6 : ¬ l.length < 24 + szE l) (h7 : chk l = sum4 (payL l)) (w : World) :
    Calls Tryd.prog 14 #[.string (txt l)] w fun e w' => e = .returned (.tuple #[.string (txt (wordOf l)), .string (txt (payL l)), .int .i64 ((24 + szE l : Nat) : Int), .int .i64 0]) ∧ Below w.heap.size w w' := by
  have hz := txt_size l
  have KW := Lib.hid (rword_at (txt (wordOf l)) true h3)
  have hv : val ((l.drop 16).take 4) < 4294967296 := by
    have := val_lt ((l.drop 16).take 4)
    rw [List.length_take, List.length_drop, Nat.min_eq_left (by omega)] at this
    exact this
  have KB := Lib.hid (rback (txt ((l.drop 16).take 4)) (by rw [txt_size, List.length_take]; omega) (szE l : Nat) (by rw [txt_list]; exact (IntWalk.i64_in _ (by unfold szE; omega)).symm) true (by rw [txt_list, decide_eq_true]; omega))
  have m1 : (txt l).extract 16 20 = txt ((l.drop 16).take 4) := txt_mid l 16 20
  have t3 : decide ((16384 : Int) < ((szE l : Nat) : Int)) = false := decide_eq_false (by omega)
  have f1 : IntKind.i64.wrap (24 + ((szE l : Nat) : Int)) = ((24 + szE l : Nat) : Int) := (IntWalk.i64_in _ (by omega)).trans (by omega)
  have t4 : ¬ ((txt l).size < 24 + szE l) := by omega
  have t5 : ((24 + szE l : Nat) : Int) ≤ ((txt l).size : Int) := by omega
  have t6 : (24 : Int) ≤ ((24 + szE l : Nat) : Int) := by omega
  have m2 : (txt l).extract 24 (24 + szE l) = txt (payL l) := by rw [txt_mid, Nat.add_sub_cancel_left]; rfl
  have m3 : (txt l).extract 0 (24 + szE l) = txt (l.take (24 + szE l)) := by rw [txt_mid, List.drop_zero, Nat.sub_zero]
  have KY := Lib.hid (rbytes7 (wordOf l) (payL l) (goodW_len h3).2.1 (by rw [payL_length h6]; omega))
  have q1 : ((txt (envL (wordOf l) (payL l))).toList == (txt (l.take (24 + szE l))).toList) = true := by
    rw [ByteArray.toList_eq, ByteArray.toList_eq, txt_list, txt_list]
    rw [beq_iff_eq]; exact (ref_eq h2 h h5 h6).2 h7
  have q2 : ((txt (envL (wordOf l) (payL l))).toList != (txt (l.take (24 + szE l))).toList) = false := by rw [bne, q1]; rfl
  generalize txt (envL (wordOf l) (payL l)) = yb at *
  generalize txt (l.take (24 + szE l)) = hd at *
  generalize txt (payL l) = py at *
  have s4 : (4 : Int) ≤ ((txt l).size : Int) := by omega
  have t0 : decide ((4 : Int) ≤ ((txt l).size : Int)) = true := decide_eq_true (by omega)
  have t1 : decide (((txt l).size : Int) < 24) = false := decide_eq_false (by omega)
  have s24 : (24 : Int) ≤ ((txt l).size : Int) := by omega
  have HL := Lib.hid hl
  have H2 := Lib.hid h2
  have H24 := Lib.hid h
  have HZ := Lib.hid hz
  clear hl h2 hz h h3 h5 h6 h7 hv
  obtain ⟨tot, ht⟩ : ∃ tot : Nat, tot = 24 + szE l := ⟨_, rfl⟩
  rw [← ht] at f1 t4 t5 t6 m2 m3 ⊢
  clear ht
  generalize szE l = n at *
  generalize txt ((l.drop 16).take 4) = x16 at *
  obtain ⟨wd, hwd⟩ : ∃ wd, wd = txt (wordOf l) := ⟨_, rfl⟩
  rw [← hwd] at KW KY ⊢
  have HWD := Lib.hid hwd
  clear hwd
  generalize hs : txt l = s at *
  have HS := Lib.hid hs.symm
  have HSL : Hid (s.data.toList = l) := Lib.hid (by rw [← hs]; rfl)
  clear hs
  go_enter Tryd.func14, Tryd.ntmps14
  go_wp2_with fail
  go_loopw [6] (fun i wr => ∃ k : Nat, k ≤ 4 ∧ i = .int .i64 k ∧ Hid (l.take k = tail4.take k) ∧ Below w.heap.size w wr) (fun i _ => 4 - (intOf i).toNat)
  case atStart => exact ⟨0, by omega, rfl, Lib.hid rfl, Below.refl _ _⟩
  case round =>
    obtain ⟨k, hk, rfl, HK, hB⟩ := hrel
    by_cases hlt : k < 4
    · have t2 : decide ((k : Int) < 4) = true := decide_eq_true (by omega)
      have hks : k < s.size := by omega
      have hks1 : (k : Int) < (s.size : Int) := by omega
      have hk0 : (0 : Int) ≤ (k : Int) := by omega
      have hkl : k < l.length := by rw [← HZ.out]; exact hks
      have hb := byte_of HSL.out k hks hkl
      obtain ⟨x, hx⟩ : ∃ x, x = tail4[k]'hlt := ⟨_, rfl⟩
      have hix := tail_at k hlt
      rw [← hx] at hix
      have hs1 := List.take_succ_eq_append_getElem hkl
      have hs2 : tail4.take (k + 1) = tail4.take k ++ [x] := by rw [hx]; exact List.take_succ_eq_append_getElem hlt
      have he : l[k] = x := by rw [hx]; exact byte_same H2.out k hlt hkl
      have c1 : (((s[k]'hks).toNat : Int) != (x.toNat : Int)) = false := by rw [bne_eq_false_iff_eq, hb, he]
      have HK2 : Hid (l.take (k + 1) = tail4.take (k + 1)) := Lib.hid (by rw [hs1, hs2, HK.out, he])
      clear hs1 hs2 hb hx he hkl
      go_wp2_with fail
      refine wp_region_quiet_below (by kernel_rfl) (by kernel_rfl) ?_
      repeat (go_big_quiet_step (fail))
      refine wpQuiet_nil ?_
      intro _ hw'
      obtain ⟨p, hw''⟩ := hw'
      subst hw''
      have hB2 := hB.trans ((below_regrown wr p.d p.os).mono hB.size)
      generalize Sort.grow (redrawn wr p.d) p.os = w9 at *
      go_wp2_with fail
      go_roundw
      case rel => exact ⟨k + 1, by omega, by go_num, HK2, hB2⟩
      case measure => simp [intOf]; omega
    · have t2 : decide ((k : Int) < 4) = false := decide_eq_false (by omega)
      clear hlt hk HK
      go_wp2_with fail
      clear t2
      go_loopw [7] (fun e wr => ∃ E : Nat, 4 ≤ E ∧ E ≤ 16 ∧ e = .int .i64 (E : Int) ∧ Hid (∀ (m : Nat) b, E ≤ m + 4 → ((l.drop 4).take 12)[m]? = some b → b = 0) ∧ Below w.heap.size w wr) (fun e _ => (intOf e).toNat)
      case atStart => exact ⟨16, by omega, Nat.le_refl _, rfl, Lib.hid (fun m b hm => nought_end l m b (by omega)), hB⟩
      case round =>
        clear hB
        obtain ⟨E, hE4, hE16, rfl, HJ, hB⟩ := hrel
        have fin : (∀ b, 0 < E - 4 → ((l.drop 4).take 12)[E - 4 - 1]? = some b → b ≠ 0) → s.extract 4 E = wd := fun h2 => by
          rw [HS.out, txt_mid, HWD.out]
          unfold wordOf
          rw [Lib.trimRightB_take _ 0 (E - 4) (by rw [List.length_take, List.length_drop]; have := H24.out; omega) (fun m b hm => HJ.out m b (by omega)) h2, List.take_take, Nat.min_eq_left (by omega)]
        have g1 : (4 : Int) ≤ (E : Int) := by omega
        have g2 : (E : Int) ≤ (s.size : Int) := by omega
        by_cases hj0 : E = 4
        · have m4 : s.extract 4 E = wd := fin (fun b h => by omega)
          have c0 : decide ((4 : Int) < (E : Int)) = false := decide_eq_false (by omega)
          clear fin hj0 HJ hE4 hE16
          go_wp2_with fail
          refine (KB.out _).mono ?_
          rintro r w1 ⟨rfl, rfl⟩
          go_wp2_with fail
          refine (KW.out _).mono ?_
          rintro r w2 ⟨rfl, rfl⟩
          go_wp2_with fail
          refine wp_region_quiet_below (by kernel_rfl) (by kernel_rfl) ?_
          repeat (go_big_quiet_step ((go_at_call 13; (with_reducible exact Calls.regrown_of (KY.out _)))))
          refine wpQuiet_nil ?_
          intro _ hw'
          obtain ⟨p, hw''⟩ := hw'
          subst hw''
          have hB2 := hB.trans ((below_regrown wr p.d p.os).mono hB.size)
          generalize Sort.grow (redrawn wr p.d) p.os = w9 at *
          replace hB := hB2
          clear hB2 KY
          go_wp2_with fail
          refine wp_region_quiet_below (by kernel_rfl) (by kernel_rfl) ?_
          repeat (go_big_quiet_step (fail))
          refine wpQuiet_nil ?_
          intro _ hw'
          obtain ⟨p, hw''⟩ := hw'
          subst hw''
          have hB2 := hB.trans ((below_regrown w9 p.d p.os).mono hB.size)
          generalize Sort.grow (redrawn w9 p.d) p.os = w10 at *
          go_wp2_with fail
          (try simp only [Exit.inBlock, Exit.then]); refine bodyPost_ret (results_tmp4 rfl _ _ _) rfl ?_
          exact ⟨rfl, hB2⟩
        · obtain ⟨q, hq⟩ : ∃ q, q = E - 1 := ⟨_, rfl⟩
          have f0 : IntKind.i64.wrap ((E : Int) - 1) = (q : Int) := (IntWalk.i64_in _ (by omega)).trans (by omega)
          have c0 : decide ((4 : Int) < (E : Int)) = true := decide_eq_true (by omega)
          have hqs : q < s.size := by omega
          have hql : q < l.length := by rw [← HZ.out]; exact hqs
          have hq1 : (q : Int) < (s.size : Int) := by omega
          have hq0 : (0 : Int) ≤ (q : Int) := by omega
          have hb := byte_of HSL.out q hqs hql
          have hg := nought_get l q hql (by omega) (by omega)
          by_cases he : l[q] = 0
          · have c1 : (((s[q]'hqs).toNat : Int) == 0) = true := by rw [beq_iff_eq, hb, he]; rfl
            have HJ2 : Hid (∀ (m : Nat) b, q ≤ m + 4 → ((l.drop 4).take 12)[m]? = some b → b = 0) := Lib.hid (fun m b hm hbm => by
              by_cases hmq : m = q - 4
              · subst hmq
                rw [hg] at hbm
                exact (Option.some.inj hbm).symm.trans he
              · exact HJ.out m b (by omega) hbm)
            have hq4 : 4 ≤ q := by omega
            have hq16 : q ≤ 16 := by omega
            have HM : Hid (q < E) := Lib.hid (by omega)
            clear fin hb hg he HJ hq hE4 hE16 hj0
            go_wp2_with fail
            go_roundw
            case rel => exact ⟨q, hq4, hq16, rfl, HJ2, hB⟩
            case measure => have := HM.out; simp [intOf]; omega
          · have c1 : (((s[q]'hqs).toNat : Int) == 0) = false := by
              rw [beq_eq_false_iff_ne, hb]
              intro e
              exact he (UInt8.toNat_inj.1 (by show _ = 0; omega))
            have m4 : s.extract 4 E = wd := fin (fun b _ hbm => by
              rw [show E - 4 - 1 = q - 4 by omega, hg] at hbm
              rw [← Option.some.inj hbm]; exact he)
            clear fin hb hg he HJ hq hE4 hE16 hj0
            go_wp2_with fail
            refine (KB.out _).mono ?_
            rintro r w1 ⟨rfl, rfl⟩
            go_wp2_with fail
            refine (KW.out _).mono ?_
            rintro r w2 ⟨rfl, rfl⟩
            go_wp2_with fail
            refine wp_region_quiet_below (by kernel_rfl) (by kernel_rfl) ?_
            repeat (go_big_quiet_step ((go_at_call 13; (with_reducible exact Calls.regrown_of (KY.out _)))))
            refine wpQuiet_nil ?_
            intro _ hw'
            obtain ⟨p, hw''⟩ := hw'
            subst hw''
            have hB2 := hB.trans ((below_regrown wr p.d p.os).mono hB.size)
            generalize Sort.grow (redrawn wr p.d) p.os = w9 at *
            replace hB := hB2
            clear hB2 KY
            go_wp2_with fail
            refine wp_region_quiet_below (by kernel_rfl) (by kernel_rfl) ?_
            repeat (go_big_quiet_step (fail))
            refine wpQuiet_nil ?_
            intro _ hw'
            obtain ⟨p, hw''⟩ := hw'
            subst hw''
            have hB2 := hB.trans ((below_regrown w9 p.d p.os).mono hB.size)
            generalize Sort.grow (redrawn w9 p.d) p.os = w10 at *
            go_wp2_with fail
            (try simp only [Exit.inBlock, Exit.then]); refine bodyPost_ret (results_tmp4 rfl _ _ _) rfl ?_
            exact ⟨rfl, hB2⟩
theorem rtake_at (l : List UInt8) (hl : l.length ≤ 1099511627776) (w : World) :
    Calls Tryd.prog 14 #[.string (txt l)] w fun e w' => e = .returned (.tuple #[.string (tk l).w, .string (tk l).p, .int .i64 ((tk l).n : Nat), .int .i64 ((tk l).e : Nat)]) ∧ Below w.heap.size w w' := by
  rcases tk_ways l with ⟨h1, h2⟩ | h1 | ⟨h4, h2, h3⟩ | ⟨h2, h3, h4⟩ | ⟨h2, h3, h4, h5⟩ | ⟨h2, h3, h4, h5, h6⟩ | ⟨h2, h3, h4, h5, h6, h7⟩ | ⟨h2, h3, h4, h5, h6, h7⟩
  · rw [tk_magic h1 h2]; exact rtake_magic l hl h1 h2 w
  · rw [tk_few h1]; exact rtake_few l hl h1 w
  · rw [tk_short h2 h3]; exact rtake_short l hl h4 h2 h3 w
  · rw [tk_bad h2 h3 (.inl h4)]; exact rtake_word l hl h2 h3 h4 w
  · rw [tk_bad h2 h3 (.inr h5)]; exact rtake_size l hl h2 h3 h4 h5 w
  · rw [tk_more h2 h3 h4 h5 h6]; exact rtake_more l hl h2 h3 h4 h5 h6 w
  · rw [tk_sum h2 h3 h4 h5 h6 h7]; exact rtake_sum l hl h2 h3 h4 h5 h6 h7 w
  · rw [tk_yes h2 h3 h4 h5 h6 h7]; exact rtake_yes l hl h2 h3 h4 h5 h6 h7 w
end Go.Proofs.YtggnnlefalcplaaDoor
