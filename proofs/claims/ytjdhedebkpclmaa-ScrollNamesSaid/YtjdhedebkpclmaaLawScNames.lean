/-
  ScrollNames: the walk.
-/
import Derived.Test.YtjdhedebkpclmaaHashMem2
namespace Go.Proofs.Ytjdhedebkpclmaa
open Go.RowKit Mem Sc
set_option maxRecDepth 100000 in
set_option maxHeartbeats 1000000 in
theorem names_out (a : Option Addr) (n c : Nat) (hl : n ≤ 4611686018427387904) (more : Int) (h : 60 < n ∨ more < 1 ∨ 60 < more) (w : World) : Calls Try.prog 6 #[.slice a n c, .int .i64 more] w fun r w' => r = .returned (.bool true) ∧ Below w.heap.size w w' := by
  by_cases h1 : 60 < n
  · have t1 : decide ((60 : Int) < (n : Int)) = true := decide_eq_true (by omega)
    clear h
    go_enter Try.func6, Try.ntmps6
    go_wp2_with fail
    refine (salive w).mono ?_
    rintro r w1 ⟨rfl, hB⟩
    go_wp2_with fail
    go_ret
    exact ⟨rfl, hB⟩
  · have t1 : decide ((60 : Int) < (n : Int)) = false := decide_eq_false (by omega)
    by_cases h2 : more < 1
    · have t2 : decide (more < 1) = true := decide_eq_true h2
      clear h
      go_enter Try.func6, Try.ntmps6
      go_wp2_with fail
      refine (salive w).mono ?_
      rintro r w1 ⟨rfl, hB⟩
      go_wp2_with fail
      go_ret
      exact ⟨rfl, hB⟩
    · have t2 : decide (more < 1) = false := decide_eq_false h2
      have t3 : decide (60 < more) = true := decide_eq_true (by omega)
      clear h
      go_enter Try.func6, Try.ntmps6
      go_wp2_with fail
      refine (salive w).mono ?_
      rintro r w1 ⟨rfl, hB⟩
      go_wp2_with fail
      go_ret
      exact ⟨rfl, hB⟩
set_option maxRecDepth 100000 in
set_option maxHeartbeats 2000000 in
theorem names_in (a : Option Addr) (ls : List (List UInt8)) (n c : Nat) (hn : n = ls.length) (h32 : ∀ x ∈ ls, x.length = 32) (m : Nat) (hn60 : n ≤ 60) (hm : 1 ≤ m) (hm2 : m ≤ 60) (w : World) (hA : NamesAt w a ls) :
    Calls Try.prog 6 #[.slice a n c, .int .i64 (m : Int)] w fun r w' => r = .returned (.bool true) ∧ Below w.heap.size w w' := by
  have t1 : decide ((60 : Int) < (n : Int)) = false := decide_eq_false (by omega)
  have t2 : decide ((m : Int) < 1) = false := decide_eq_false (by omega)
  have t3 : decide ((60 : Int) < (m : Int)) = false := decide_eq_false (by omega)
  have hfl : (txt ls.flatten).size ≤ 70368744177664 := by rw [txt_size, flatten_size ls h32]; omega
  have hsz := flatten_size ls h32
  have N1 := names_txt ls h32
  have N2 := names_more ls h32 (m : Int) (by omega)
  rw [← hn] at N1 N2
  have HN1 := Lib.hid N1
  have HN2 := Lib.hid N2
  have HN := Lib.hid hn
  have H32 := Lib.hid h32
  have hfl2 : ls.flatten.length ≤ 1920 := by rw [hsz]; omega
  clear N1 N2 hn h32 hsz
  go_enter Try.func6, Try.ntmps6
  go_wp2_with fail
  refine (salive w).mono ?_
  rintro r w1 ⟨rfl, hB⟩
  have HA0 := Lib.hid hA
  replace hA := hA.below hB
  have hN := pen_new w1
  have hR : w.heap.size ≤ w1.heap.size := hB.size
  have hB1 : Below w1.heap.size w1 (w1.alloc (.cells #[.slice none 0 0] 48)) := (Below.refl _ _).alloc (Nat.le_refl _) _
  have hap : 0 < ls.length → Apart w1.heap.size (.slice none 0 0) a := fun h0 p hp => by
    obtain ⟨ab, ao, ha, hlt, _⟩ := hA h0
    rw [ha] at hp
    obtain rfl := Option.some.inj hp
    exact ⟨by show ab ≠ w1.heap.size; omega, fun e => by cases e⟩
  have CP := Lib.hid (pnames_at _ _ _ a ls n c HN.out _ hN (hA.below hB1) hap H32.out (by simp; omega))
  replace hA := hA.below hB1
  replace hB := hB.trans (hB1.mono hB.size)
  clear hB1
  go_wp2_with fail
  refine CP.out.mono ?_
  rintro r w2 ⟨v2, rfl, hP2, hS2⟩
  replace hB := pen_below hB hR hN hS2
  rw [List.nil_append] at hP2
  clear CP hN hS2 hA hap
  go_wp2_with fail
  refine (text_txt _ _ _ _ hP2).mono ?_
  rintro r w3 ⟨rfl, rfl⟩
  go_wp2_with fail
  refine (on_ _ _).mono ?_
  rintro r w4 ⟨rfl, hE4, hb4⟩
  have hP4 := hP2.below hb4
  have hR2 : w.heap.size ≤ w2.heap.size := hB.size
  replace hB := hB.trans (hb4.mono hB.size)
  clear hP2 hb4
  generalize w2.heap.size = E at *
  go_wp2_with fail
  refine (text_txt _ _ _ _ hP4).mono ?_
  rintro r w5 ⟨rfl, rfl⟩
  clear hP4
  go_wp2_with fail
  refine (on_ _ _).mono ?_
  rintro r w6 ⟨rfl, hF6, hb6⟩
  have hE6 := hE4.on hb6
  have hR4 : w.heap.size ≤ w4.heap.size := hB.size
  have hEF : E ≠ w4.heap.size := by have := hE4.lt; omega
  replace hB := hB.trans (hb6.mono hB.size)
  clear hE4 hb6
  generalize w4.heap.size = F at *
  have C := Lib.hid (names_at E _ n hfl _ hE6)
  rw [HN1.out] at C
  go_wp2_with fail
  refine C.out.mono ?_
  rintro r w7 ⟨vl, rfl, hown, hE7, hg7⟩
  have hF7 := hF6.grown hg7 (by simpa using Ne.symm hEF)
  replace hB := hB.trans (gb_toBelow hg7 (by omega) hB.size)
  obtain ⟨la, lc, rfl, hL⟩ := owns_names hown rfl H32.out
  rw [← HN.out]
  clear C hown hg7 hE6 hF6
  go_wp2_with fail
  refine (done_at E _ _ hE7 true rfl).mono ?_
  rintro r w8 ⟨rfl, rfl⟩
  clear hE7
  go_wp2_with fail
  go_loopw [50] (fun i wr => ∃ k : Nat, k ≤ n ∧ i = .int .i64 k ∧ Below w7.heap.size w7 wr) (fun i _ => n - (intOf i).toNat)
  case atStart => exact ⟨0, Nat.zero_le _, rfl, Below.refl _ _⟩
  case round =>
    obtain ⟨k, hk, rfl, hb⟩ := hrel
    have hBr := hB.trans (hb.mono hB.size)
    by_cases hlt : k < n
    · have hkl : k < ls.length := by rw [← HN.out]; exact hlt
      obtain ⟨ab, ao, rfl, _, hc⟩ := (HA0.out.below hBr) (by omega)
      obtain ⟨lb, lo, rfl, _, hd⟩ := (hL.below hb) (by omega)
      obtain ⟨hx32, hr1⟩ := hc k hkl
      obtain ⟨_, hr2⟩ := hd k hkl
      generalize ls[k] = x at *
      have hxl : (Lib.byteCells x).length = 32 := by rw [Lib.byteCells_length, hx32]
      have q1 := range_cls hr1 (by omega)
      have q2 := range_cls hr2 (by omega)
      have qn := hneq_self x hx32
      have HXL := Lib.hid hxl
      clear hc hd hr1 hr2 hxl hx32
      go_wp2_with fail
      refine wp_region_quiet_below (by kernel_rfl) (by kernel_rfl) ?_
      repeat (first
        | (go_big_quiet_want; (with_reducible refine quiet_hl_mid _ rfl ab (ao + k * 32) rfl x HXL.out q1 ?_); (simp only [Act.put, List.setIfInBounds_toArray, List.set_cons_zero, List.set_cons_succ]); go_big_quiet_on)
        | (go_big_quiet_want; (with_reducible refine quiet_hl_mid _ rfl lb (lo + k * 32) rfl x HXL.out q2 ?_); (simp only [Act.put, List.setIfInBounds_toArray, List.set_cons_zero, List.set_cons_succ]); go_big_quiet_on)
        | (go_big_quiet_want; (with_reducible refine quiet_hneq _ _ _ rfl _ _ _ rfl rfl qn ?_); (simp only [Act.put, List.setIfInBounds_toArray, List.set_cons_zero, List.set_cons_succ]); go_big_quiet_on)
        | go_big_quiet_step (fail))
      refine wpQuiet_nil ?_
      intro _ hw'
      obtain ⟨p, hw''⟩ := hw'
      subst hw''
      have hb2 := hb.trans ((below_regrown wr p.d p.os).mono hb.size)
      clear q1 q2 qn
      generalize Sort.grow (redrawn wr p.d) p.os = w9 at *
      go_wp2_with fail
      go_roundw
      case rel => exact ⟨k + 1, by omega, by go_num, hb2⟩
      case measure => simp [intOf]; omega
    · obtain rfl : k = n := by omega
      have hF8 := hF7.on hb
      have C := Lib.hid (names_at F _ ((k : Int) + (m : Int)) hfl _ hF8)
      rw [HN2.out] at C
      have hFl := hF8.lt
      clear hF7 hF8 hL HN1 HN2 hfl hb HA0
      go_wp2_with fail
      refine C.out.mono ?_
      rintro r w9 ⟨vb, rfl, hown, hF9, hg9⟩
      have hBn := hBr.trans (gb_toBelow hg9 (by omega) hBr.size)
      obtain ⟨lb, lbc, rfl, _⟩ := owns_names hown rfl (fun x h => by simp at h)
      clear C hown hg9 hBr
      go_wp2_with fail
      refine (bad_at F _ _ hF9).mono ?_
      rintro r w10 ⟨rfl, rfl⟩
      clear hF9
      go_wp2_with fail
      refine (on_ _ _).mono ?_
      rintro r w11 ⟨rfl, hG, hb11⟩
      have hR9 : w.heap.size ≤ w9.heap.size := hBn.size
      have hBg := hBn.trans (hb11.mono hBn.size)
      generalize w9.heap.size = G at *
      have C := Lib.hid (names_at G _ (-(m : Int)) (by decide) _ hG)
      have e0 : Ey.names ⟨⟨#[]⟩, false⟩ (-(m : Int)) = ([], ⟨⟨#[]⟩, false⟩) := by
        unfold Ey.names
        rw [if_neg (by show ¬ ((0 : Nat) : Int) / 32 < _; omega), show (-(m : Int)).toNat = 0 by omega]
        rfl
      rw [e0] at C
      clear hG e0 hBn hb11
      go_wp2_with fail
      refine C.out.mono ?_
      rintro r w12 ⟨vg, rfl, hown, _, hg12⟩
      have hBn := hBg.trans (gb_toBelow hg12 (by omega) hBg.size)
      obtain ⟨lg, lgc, rfl, _⟩ := owns_names hown rfl (fun x h => by simp at h)
      go_wp2_with fail
      go_ret
      exact ⟨rfl, hBn⟩
theorem names_walk (a : Option Addr) (ls : List (List UInt8)) (n c : Nat) (hn : n = ls.length) (hl : n ≤ 4611686018427387904) (h32 : ∀ x ∈ ls, x.length = 32) (more : Int) (w : World) (hA : NamesAt w a ls) :
    Calls Try.prog 6 #[.slice a n c, .int .i64 more] w fun r w' => r = .returned (.bool true) ∧ Below w.heap.size w w' := by
  by_cases h : 60 < n ∨ more < 1 ∨ 60 < more
  · exact names_out a n c hl more h w
  · obtain ⟨k, rfl⟩ := Int.eq_ofNat_of_zero_le (show 0 ≤ more by omega)
    exact names_in a ls n c hn h32 k (by omega) (by omega) (by omega) w hA
end Go.Proofs.Ytjdhedebkpclmaa
