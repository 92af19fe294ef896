/-
  EnvelopeAll: the walk.
-/
import Derived.Test.YtggnnlefalcplaaDoorEvAlive
namespace Go.Proofs.YtggnnlefalcplaaDoor
open Go.RowKit Mem Sc Sha
/-- what begins with an envelope -/
theorem allE_cons {l rest : List UInt8} {x : Ev} {vs : List Ev} {e : Nat} (h : allE l = (x :: vs, rest, e)) : (tk l).e = 0 ∧ x = ⟨(tk l).w, (tk l).p⟩ ∧ allE (l.drop (tk l).n) = (vs, rest, e) := by
  by_cases h0 : l = []
  · subst h0
    rw [allE_nil] at h
    cases congrArg Prod.fst h
  · by_cases he : (tk l).e = 0
    · rw [allE_yes he] at h
      have h1 := congrArg Prod.fst h
      have h2 := congrArg Prod.snd h
      simp only [List.cons.injEq] at h1
      simp only at h2
      refine ⟨he, h1.1.symm, ?_⟩
      rw [← h1.2, ← h2]
    · rw [allE_no h0 he] at h
      cases congrArg Prod.fst h
theorem allE_end {l rest : List UInt8} {e : Nat} (h : allE l = ([], rest, e)) (h0 : l ≠ []) : (tk l).e ≠ 0 ∧ rest = l ∧ e = (tk l).e := by
  by_cases he : (tk l).e = 0
  · rw [allE_yes he] at h
    cases congrArg Prod.fst h
  · rw [allE_no h0 he] at h
    simp only [Prod.mk.injEq] at h
    exact ⟨he, h.2.1.symm, h.2.2.symm⟩
set_option maxRecDepth 100000 in
set_option maxHeartbeats 1000000 in
theorem eall_long (s : ByteArray) (hs : 4096 < s.size) (w : World) (hT : Tab w) : Calls Tryd.prog 5 #[.string s] w fun r w' => r = .returned (.bool true) ∧ Below w.heap.size w w' := by
  have t1 : decide ((4096 : Int) < (s.size : Int)) = true := decide_eq_true (by omega)
  clear hs
  go_enter Tryd.func5, Tryd.ntmps5
  go_wp2_with fail
  refine (ealive w hT).mono ?_
  rintro r w1 ⟨rfl, hB⟩
  go_wp2_with fail
  go_ret
  exact ⟨rfl, hB⟩
set_option maxRecDepth 100000 in
set_option maxHeartbeats 4000000 in
theorem eall_short (l : List UInt8) (hs : l.length ≤ 4096) (w : World) (hT : Tab w) : Calls Tryd.prog 5 #[.string (txt l)] w fun r w' => r = .returned (.bool true) ∧ Below w.heap.size w w' := by
  have hz := txt_size l
  have t1 : decide ((4096 : Int) < ((txt l).size : Int)) = false := decide_eq_false (by omega)
  have K1 := Lib.hid (fun w hT => eall_at l (by omega) w hT)
  have HLE := allE_left l.length l (Nat.le_refl _)
  obtain ⟨vs, hvs⟩ : ∃ vs, vs = (allE l).1 := ⟨_, rfl⟩
  obtain ⟨rest, hrest⟩ : ∃ rest, rest = (allE l).2.1 := ⟨_, rfl⟩
  obtain ⟨e, he⟩ : ∃ e, e = (allE l).2.2 := ⟨_, rfl⟩
  have HA : Hid (allE l = (vs, rest, e)) := Lib.hid (by rw [hvs, hrest, he])
  rw [← hvs, ← hrest, ← he] at K1
  rw [← hvs] at HLE
  obtain ⟨n, hn⟩ : ∃ n, n = vs.length := ⟨_, rfl⟩
  have HN := Lib.hid hn
  rw [← hn] at K1
  have hn1 : n ≤ 4096 := by omega
  have HS := Lib.hid hs
  clear hvs hrest he hn hs hz HLE
  go_enter Tryd.func5, Tryd.ntmps5
  go_wp2_with fail
  refine (ealive w hT).mono ?_
  rintro r w1 ⟨rfl, hB⟩
  go_wp2_with fail
  refine (K1.out w1 (hT.below hB)).mono ?_
  rintro r w2 ⟨v, rfl, hown, hb2⟩
  obtain ⟨a, c, rfl, hE⟩ := owns_evs hown HN.out
  replace hB := hB.trans (hb2.mono hB.size)
  clear hown hb2 K1
  go_wp2_with fail
  go_loopw [0, 29] (fun s i wr => ∃ (k : Nat) (l' : List UInt8), k ≤ n ∧ i = .int .i64 k ∧ s = .string (txt l') ∧ EvsAt wr a vs ∧ Below w.heap.size w wr ∧ Hid (l'.length ≤ l.length) ∧ Hid (allE l' = (vs.drop k, rest, e))) (fun _ i _ => n - (intOf i).toNat)
  case atStart => exact ⟨0, l, Nat.zero_le _, rfl, rfl, hE, hB, Lib.hid (Nat.le_refl _), Lib.hid (by rw [List.drop_zero]; exact HA.out)⟩
  case round =>
    clear hE hB
    obtain ⟨k, l', hk, rfl, rfl, hE, hB, HL, HA'⟩ := hrel
    have K2 := Lib.hid (fun w => rtake_at l' (by have := HL.out; have := HS.out; omega) w)
    by_cases hlt : k < n
    · have hkv : k < vs.length := by rw [← HN.out]; exact hlt
      obtain ⟨ab, ao, rfl, habl, hc⟩ := hE (by omega)
      have rx := hc k hkv
      have hA := HA'.out
      rw [List.drop_eq_getElem_cons hkv] at hA
      obtain ⟨h0, hx, hA2⟩ := allE_cons hA
      obtain ⟨x, hxe⟩ : ∃ x, x = vs[k] := ⟨_, rfl⟩
      rw [← hxe] at hx rx
      have hnn := tk_n h0
      rw [h0] at K2
      rw [show (tk l').w = x.w by rw [hx], show (tk l').p = x.p by rw [hx]] at K2
      obtain ⟨m, hm⟩ : ∃ m, m = (tk l').n := ⟨_, rfl⟩
      rw [← hm] at K2 hA2 hnn
      have m1 := txt_from l' m hnn.2
      have g1 : (m : Int) ≤ ((txt l').size : Int) := by rw [txt_size]; omega
      have HL2 : Hid ((l'.drop m).length ≤ l.length) := Lib.hid (by rw [List.length_drop]; have := HL.out; omega)
      have HA3 := Lib.hid hA2
      have HE2 := Lib.hid hE
      have f1 : (k : Int) < (n : Int) := by omega
      clear hA hA2 hx hxe hnn hm h0 HA' hc hE HL
      generalize ht2 : txt (l'.drop m) = t2 at *
      generalize txt l' = t at *
      have HT2 := Lib.hid ht2
      clear ht2
      have hZ := ev_newz wr
      go_upto_region 9 with (first
        | (with_reducible refine ev_load_mid rfl _ rfl ab (ao + k * 2) rfl x rx ?_)
        | (with_reducible refine ev_store rfl _ _ rfl _ _ x rfl rfl rfl hZ ?_))
      have hX : EvAt ((wr.alloc (.cells #[.string ⟨#[]⟩, .string ⟨#[]⟩] 23)).setRow wr.heap.size (evA x)) wr.heap.size x := Has.row hZ _
      have hb2 : Below wr.heap.size wr ((wr.alloc (.cells #[.string ⟨#[]⟩, .string ⟨#[]⟩] 23)).setRow wr.heap.size (evA x)) := below_setRow ((Below.refl _ _).alloc (Nat.le_refl _) _) (Nat.le_refl _) _
      have hE3 := HE2.out.below hb2
      replace hB := hB.trans (hb2.mono hB.size)
      generalize World.setRow _ _ _ = w3 at *
      generalize wr.heap.size = X at *
      clear hZ hb2 rx HE2
      go_wp2_with fail
      refine (K2.out w3).mono ?_
      rintro r w4 ⟨rfl, hb4⟩
      replace hX := hX.on hb4
      have hE4 := hE3.below hb4
      replace hB := hB.trans (hb4.mono hB.size)
      have c0 := hX.c0
      have c1 := hX.c1
      clear hb4 hE3 K2
      go_wp2_with fail
      go_roundw
      case rel => exact ⟨k + 1, l'.drop m, by omega, by go_num, by rw [HT2.out], hE4, hB, HL2, HA3⟩
      case measure => simp [intOf]; omega
    · obtain rfl : k = n := by omega
      have hA := HA'.out
      rw [List.drop_eq_nil_of_le (by rw [← HN.out]; exact Nat.le_refl _)] at hA
      have f1 : decide ((k : Int) < (k : Int)) = false := decide_eq_false (by omega)
      by_cases h0 : l' = []
      · subst h0
        rw [allE_nil] at hA
        simp only [Prod.mk.injEq, true_and] at hA
        obtain ⟨hr, he⟩ := hA
        have q0 : (txt []).toList.isEmpty = true := txt_empty []
        subst hr he
        clear HA' hlt hk hE
        generalize txt [] = t at *
        go_wp2_with fail
        refine (K2.out _).mono ?_
        rintro r w3 ⟨rfl, hb3⟩
        replace hB := hB.trans (hb3.mono hB.size)
        go_wp2_with fail
        go_ret
        exact ⟨rfl, hB⟩
      · obtain ⟨h1, hr, he⟩ := allE_end hA h0
        have q0 : (txt l').toList.isEmpty = false := by rw [txt_empty]; cases l' with | nil => exact absurd rfl h0 | cons x l' => rfl
        rw [← he] at K2 h1
        have e1 : ((e : Int) != 0) = true := by rw [bne_iff_ne]; omega
        subst hr
        clear HA' hlt hk hE hA he h1 h0
        generalize txt rest = t at *
        go_wp2_with fail
        refine (K2.out _).mono ?_
        rintro r w3 ⟨rfl, hb3⟩
        replace hB := hB.trans (hb3.mono hB.size)
        go_wp2_with fail
        go_ret
        exact ⟨rfl, hB⟩
theorem eall_walk (s : ByteArray) (w : World) (hT : Tab w) : Calls Tryd.prog 5 #[.string s] w fun r w' => r = .returned (.bool true) ∧ Below w.heap.size w w' := by
  by_cases h : 4096 < s.size
  · exact eall_long s h w hT
  · have := eall_short s.data.toList (by rw [← Lib.size_eq]; omega) w hT
    rwa [txt_of] at this
end Go.Proofs.YtggnnlefalcplaaDoor
