/-
  HeaderFollows: the walk.
-/
import Derived.Test.YtfnicmmebphpkaaDoorZHdFollows
namespace Go.Proofs.YtfnicmmebphpkaaDoor
open Go.RowKit Mem Sc
set_option maxRecDepth 100000 in
set_option maxHeartbeats 1000000 in
theorem hfollows_long (a : Option Addr) (n c : Nat) (hl : n ≤ 4611686018427387904) (hn : 20 < n) (w : World) (hT : Tab w) :
    Calls Tryd.prog 5 #[.slice a n c] w fun r w' => r = .returned (.bool true) ∧ Below w.heap.size w w' := by
  have t1 : decide ((20 : Int) < (n : Int)) = true := decide_eq_true (by omega)
  clear hn
  go_enter Tryd.func5, Tryd.ntmps5
  go_wp2_with fail
  refine (halive w hT).mono ?_
  rintro r w1 ⟨rfl, hB⟩
  go_wp2_with fail
  go_ret
  exact ⟨rfl, hB⟩
theorem headersC_app (l : List Hd) (x : Hd) : headersC (l ++ [x]) = headersC l ++ hdC x := by simp [headersC]
set_option maxRecDepth 100000 in
set_option maxHeartbeats 4000000 in
theorem hfollows_short (a : Option Addr) (hs : List Hd) (n c : Nat) (hn : n = hs.length) (h20 : n ≤ 20) (hok : ∀ x ∈ hs, x.ok) (w : World) (hT : Tab w) (hA : HeadersAt w a hs) :
    Calls Tryd.prog 5 #[.slice a n c] w fun r w' => r = .returned (.bool true) ∧ Below w.heap.size w w' := by
  have t1 : decide ((20 : Int) < (n : Int)) = false := decide_eq_false (by omega)
  have HN := Lib.hid hn
  have HOK := Lib.hid hok
  have HA := Lib.hid hA
  have hz0 := hdA_size hdZ_ok
  clear hn hok hA
  go_enter Tryd.func5, Tryd.ntmps5
  go_wp2_with fail
  refine (halive w hT).mono ?_
  rintro r w1 ⟨rfl, hB1⟩
  go_wp2_with fail
  go_loopw [3, 4, 14] (fun want v i wr => ∃ k : Nat, k ≤ n ∧ i = .int .i64 k ∧ want = .bool (fol hs k) ∧ wr.ownsRow w.heap.size 25 68 v k (headersC (tied hs k)) ∧ Below w.heap.size w wr) (fun _ _ i _ => n - (intOf i).toNat)
  case atStart => exact ⟨0, Nat.zero_le _, rfl, rfl, World.ownsRow_nil _ _ _ _, hB1⟩
  case round =>
    clear hB1
    obtain ⟨k, hk, rfl, rfl, hown, hB⟩ := hrel
    by_cases hlt : k < n
    · obtain ⟨i, z, hi, hz, hi1, hi2, hi3⟩ := hd_info
      obtain ⟨ab, ao, rfl, habl, hc⟩ := (HA.out.below hB) (by rw [← HN.out]; omega)
      have h1 : (hs.getD k hdZ).ok ∧ wr.rangeAt ab (ao + k * 68) (hdC (hs.getD k hdZ)) := by
        rw [getD_lt (show k < hs.length by rw [← HN.out]; omega)]; exact hc k _
      obtain ⟨x, hx⟩ : ∃ x, x = hs.getD k hdZ := ⟨_, rfl⟩
      rw [← hx] at h1
      have HX := Lib.hid hx
      have zx := hdC_length h1.1
      have za := hdA_size h1.1
      have OX := Lib.hid h1.1
      have rx := h1.2
      have f1 : (k : Int) < (n : Int) := by omega
      clear h1 hx
      have hZ := hd_newz wr
      by_cases h0 : 0 < k
      · obtain ⟨j, rfl⟩ : ∃ j, k = j + 1 := ⟨k - 1, by omega⟩
        have h2 : (hs.getD j hdZ).ok ∧ wr.rangeAt ab (ao + j * 68) (hdC (hs.getD j hdZ)) := by
          rw [getD_lt (show j < hs.length by rw [← HN.out]; omega)]; exact hc j _
        have hf := fol_next hs j
        rw [← HX.out] at hf
        obtain ⟨y, hy⟩ : ∃ y, y = hs.getD j hdZ := ⟨_, rfl⟩
        rw [← hy] at h2 hf
        have f2 : ((j + 1 : Nat) : Int) - 1 = (j : Int) := by omega
        have f3 : (0 : Int) < ((j + 1 : Nat) : Int) := by omega
        have HTN : Hid (tied hs (j + 1 + 1) = tied hs (j + 1) ++ [{ x with prev := ((tied hs (j + 1)).getD j hdZ).id }]) := Lib.hid (by rw [HX.out]; rfl)
        have HTL := Lib.hid (tied_length hs (j + 1))
        have HTO := Lib.hid (tied_ok HOK.out (j + 1))
        clear hc hy
        go_upto_region 10 with (first
          | (with_reducible refine hd_load_mid rfl _ rfl ab (ao + (j + 1) * 68) rfl x rx zx ?_)
          | (with_reducible refine hd_store rfl _ _ rfl _ _ x rfl rfl rfl za hZ hz0 ?_))
        have hX : HdAt ((wr.alloc (.cells Tryd.zeroCells25 25)).setRow wr.heap.size (hdA x)) wr.heap.size x := Has.row hZ _
        have hb2 : Below wr.heap.size wr ((wr.alloc (.cells Tryd.zeroCells25 25)).setRow wr.heap.size (hdA x)) := below_setRow ((Below.refl _ _).alloc (Nat.le_refl _) _) (Nat.le_refl _) _
        generalize World.setRow _ _ _ = w2 at *
        have hown2 := hown.kept (gb_below hb2 none) (by rcases Option.eq_none_or_eq_some (Value.ownBlock u4) with h | ⟨b, h⟩ <;> simp [h])
        have hXB : w.heap.size ≤ wr.heap.size := hB.size
        have hB2 := hB.trans (hb2.mono hB.size)
        have r2 := range_below h2.2 hb2 (hdC_pos y)
        have habX : ab ≠ wr.heap.size := by omega
        have hownX : ∀ b, Value.ownBlock u4 = some b → b ≠ wr.heap.size := fun b hb => by have := (hown.lt b hb).2; omega
        generalize wr.heap.size = X at *
        clear hZ hb2 rx hown hB
        have hT2 := hT.below hB2
        obtain ⟨ta, tc, hu4, hTA⟩ := owns_headers hown2 HTL.out.symm HTO.out
        obtain ⟨tb, tt, rfl, htl, htc⟩ := hTA (by rw [HTL.out]; omega)
        subst hu4
        have htX : tb ≠ X := hownX tb rfl
        have h3 : ((tied hs (j + 1)).getD j hdZ).ok ∧ w2.rangeAt tb (tt + j * 68) (hdC ((tied hs (j + 1)).getD j hdZ)) := by
          rw [getD_lt (show j < (tied hs (j + 1)).length by rw [HTL.out]; omega)]; exact htc j _
        generalize (tied hs (j + 1)).getD j hdZ = t at *
        clear htc hTA
        have hH : 0 < w.heap.size ∨ True := .inr trivial
        cases hb1 : fol hs (j + 1)
        · rw [hb1, Bool.false_and] at hf
          have HF := Lib.hid hf
          have HF1 := Lib.hid hb1
          clear hf hb1 hH
          go_wp2_with fail
          refine wp_region_quiet_below (by kernel_rfl) (by kernel_rfl) ?_
          repeat (go_big_quiet_step (fail))
          refine wpQuiet_nil ?_
          intro _ hw'
          obtain ⟨p, hw''⟩ := hw'
          subst hw''
          have hb3 := below_regrown w2 p.d p.os
          have hX3 := hX.on hb3
          have hown3 := hown2.kept (gb_below hb3 none) (.inr (fun e => by cases e))
          have hB3 := hB2.trans (hb3.mono hB2.size)
          have r3 := range_below h3.2 hb3 (hdC_pos t)
          have z3 := hdC_length h3.1
          have KT := Lib.hid (fun w => rid_at t h3.1 w)
          have HTI := Lib.hid (id_length t)
          have hBT : Below w.heap.size w (Sort.grow (redrawn w2 p.d) p.os) := hB3
          clear hX hown2 hB2 hb3 r2 h2
          generalize Sort.grow (redrawn w2 p.d) p.os = w3 at *
          go_wp2_with (with_reducible refine hd_load_mid rfl _ rfl tb (tt + j * 68) rfl t r3 z3 ?_)
          refine (KT.out _).mono ?_
          rintro r w5 ⟨rfl, hb5⟩
          have hX5 := hX3.on hb5
          have hown5 := hown3.kept (gb_below hb5 none) (.inr (fun e => by cases e))
          have hB5 := hB3.trans (hb5.mono hB3.size)
          have KTH := Lib.hid (hX5.there OX.out 1 32 (by omega))
          have hX6 := hX5.setPrev OX.out HTI.out
          clear hb5 KT r3 hX3 hown3 hB3 hBT
          generalize ht : t.id = ti at *
          go_upto_region 13 with (with_reducible refine hl_store_mid rfl _ _ rfl X 1 ti rfl rfl HTI.out KTH.out ?_)
          have hown6 := hown5.kept (row := some X) (w' := w5.setCells X 1 (Lib.byteCells ti)) (by
            obtain ⟨g1, g2, g3, g4⟩ := setCells_rest X (Lib.byteCells ti) 1 w5
            exact ⟨g1, g2, g3, Nat.le_of_eq g4.symm, fun k hk hn => setCells_other X k (fun e => hn (by rw [e])) _ _ _⟩) (.inr (fun e => htX (Option.some.inj e)))
          have hB2 : Below w.heap.size w (w5.setCells X 1 (Lib.byteCells ti)) := gb_none_below (gb_setCells (gb_below hB5 none) X 1 _ hXB)
          generalize World.setCells _ _ _ _ = w6 at *
          have ox : ({ x with prev := ti } : Hd).ok := ⟨HTI.out, OX.out.2⟩
          have zc := hdA_size ox
          have HZC := Lib.hid (hdC_length ox)
          have hX := hX6
          clear hX5 hown5 hB5 KTH hX6 ox
          have hm : (j + 1) + 1 ≤ maxLen := by unfold maxLen; omega
          have hbase : w.heap.size ≤ (w6.alloc (.cells (hdA { x with prev := ti }) 25)).heap.size := by simp only [World.size_alloc]; have := hB2.size; omega
          have HNL : Hid ((hdC { x with prev := ti }).length = 1 * 68) := Lib.hid (by rw [HZC.out])
          have HBY : Hid (((j + 1) + 1) * 96 ≤ 140737488355328) := Lib.hid (by omega)
          go_wp2_with (first
            | (with_reducible refine hd_load rfl _ rfl X rfl hX zc ?_)
            | (with_reducible refine build_hd rfl _ rfl _ rfl zc ?_)
            | ((with_reducible refine wpList_append_own _ rfl _ _ 47 rfl w.heap.size 25 i z 68 96 Tryd.underlying47 hi hz hi1 hi2 hi3 (by omega) _ (j + 1) _ rfl (hown6.alloc _) ⟨w6.heap.size, 0, none⟩ 1 1 (hdC { x with prev := ti }) rfl HNL.out (news_hd _ _) (hdC_one _) hm HBY.out hbase ?_); intro v' w4 hown4 hgr4 _))
          have hB4 := gb_none_below (gb_own (gb_below hB2 none) _ hgr4 (fun k hk => (hown6.lt k hk).1))
          go_roundw
          case rel => exact ⟨j + 1 + 1, by omega, by go_num, by rw [HF.out], by rw [HTN.out, headersC_app]; exact hown4, hB4⟩
          case measure => simp [intOf]; omega
        · rw [hb1, Bool.true_and] at hf
          have q0 := range_cls (range_prev hX.range) (by rw [Lib.byteCells_length, OX.out.1]; omega)
          have q1 := range_cls r2 (hdC_pos y)
          have s1 := byteCells_32 OX.out.1
          have s2 := hdC_length h2.1
          have KI := Lib.hid (fun w => rid_at y h2.1 w)
          obtain ⟨b2, hb2⟩ : ∃ b2, (x.prev == y.id) = b2 := ⟨_, rfl⟩
          have qi := hn_eql x.prev y.id OX.out.1 (id_length y) b2 hb2
          rw [hb2] at hf
          have HF := Lib.hid hf
          have HF1 := Lib.hid hb1
          clear hf hb1 hb2 hH
          generalize bytesV y.id = ci at *
          go_wp2_with fail
          refine wp_region_quiet_below (by kernel_rfl) (by kernel_rfl) ?_
          repeat (first
            | (go_big_quiet_want; (with_reducible refine quiet_hl_mid _ rfl X 1 rfl x.prev s1 q0 ?_); (simp only [Act.put, List.setIfInBounds_toArray, List.set_cons_zero, List.set_cons_succ]); go_big_quiet_on)
            | (go_big_quiet_want; (with_reducible refine quiet_hd_mid _ rfl ab (ao + j * 68) rfl y s2 q1 ?_); (simp only [Act.put, List.setIfInBounds_toArray, List.set_cons_zero, List.set_cons_succ]); go_big_quiet_on)
            | (go_big_quiet_want; (with_reducible refine quiet_heql _ _ _ rfl _ _ _ rfl rfl qi ?_); (simp only [Act.put, List.setIfInBounds_toArray, List.set_cons_zero, List.set_cons_succ]); go_big_quiet_on)
            | go_big_quiet_step ((go_at_call 15; exact Calls.regrown_of (KI.out _))))
          refine wpQuiet_nil ?_
          intro _ hw'
          obtain ⟨p, hw''⟩ := hw'
          subst hw''
          clear q0 q1 qi KI
          have hb3 := below_regrown w2 p.d p.os
          have hX3 := hX.on hb3
          have hown3 := hown2.kept (gb_below hb3 none) (.inr (fun e => by cases e))
          have hB3 := hB2.trans (hb3.mono hB2.size)
          have r3 := range_below h3.2 hb3 (hdC_pos t)
          have z3 := hdC_length h3.1
          have KT := Lib.hid (fun w => rid_at t h3.1 w)
          have HTI := Lib.hid (id_length t)
          have hBT : Below w.heap.size w (Sort.grow (redrawn w2 p.d) p.os) := hB3
          clear hX hown2 hB2 hb3 r2 h2
          generalize Sort.grow (redrawn w2 p.d) p.os = w3 at *
          go_wp2_with (with_reducible refine hd_load_mid rfl _ rfl tb (tt + j * 68) rfl t r3 z3 ?_)
          refine (KT.out _).mono ?_
          rintro r w5 ⟨rfl, hb5⟩
          have hX5 := hX3.on hb5
          have hown5 := hown3.kept (gb_below hb5 none) (.inr (fun e => by cases e))
          have hB5 := hB3.trans (hb5.mono hB3.size)
          have KTH := Lib.hid (hX5.there OX.out 1 32 (by omega))
          have hX6 := hX5.setPrev OX.out HTI.out
          clear hb5 KT r3 hX3 hown3 hB3 hBT
          generalize ht : t.id = ti at *
          go_upto_region 13 with (with_reducible refine hl_store_mid rfl _ _ rfl X 1 ti rfl rfl HTI.out KTH.out ?_)
          have hown6 := hown5.kept (row := some X) (w' := w5.setCells X 1 (Lib.byteCells ti)) (by
            obtain ⟨g1, g2, g3, g4⟩ := setCells_rest X (Lib.byteCells ti) 1 w5
            exact ⟨g1, g2, g3, Nat.le_of_eq g4.symm, fun k hk hn => setCells_other X k (fun e => hn (by rw [e])) _ _ _⟩) (.inr (fun e => htX (Option.some.inj e)))
          have hB2 : Below w.heap.size w (w5.setCells X 1 (Lib.byteCells ti)) := gb_none_below (gb_setCells (gb_below hB5 none) X 1 _ hXB)
          generalize World.setCells _ _ _ _ = w6 at *
          have ox : ({ x with prev := ti } : Hd).ok := ⟨HTI.out, OX.out.2⟩
          have zc := hdA_size ox
          have HZC := Lib.hid (hdC_length ox)
          have hX := hX6
          clear hX5 hown5 hB5 KTH hX6 ox
          have hm : (j + 1) + 1 ≤ maxLen := by unfold maxLen; omega
          have hbase : w.heap.size ≤ (w6.alloc (.cells (hdA { x with prev := ti }) 25)).heap.size := by simp only [World.size_alloc]; have := hB2.size; omega
          have HNL : Hid ((hdC { x with prev := ti }).length = 1 * 68) := Lib.hid (by rw [HZC.out])
          have HBY : Hid (((j + 1) + 1) * 96 ≤ 140737488355328) := Lib.hid (by omega)
          go_wp2_with (first
            | (with_reducible refine hd_load rfl _ rfl X rfl hX zc ?_)
            | (with_reducible refine build_hd rfl _ rfl _ rfl zc ?_)
            | ((with_reducible refine wpList_append_own _ rfl _ _ 47 rfl w.heap.size 25 i z 68 96 Tryd.underlying47 hi hz hi1 hi2 hi3 (by omega) _ (j + 1) _ rfl (hown6.alloc _) ⟨w6.heap.size, 0, none⟩ 1 1 (hdC { x with prev := ti }) rfl HNL.out (news_hd _ _) (hdC_one _) hm HBY.out hbase ?_); intro v' w4 hown4 hgr4 _))
          have hB4 := gb_none_below (gb_own (gb_below hB2 none) _ hgr4 (fun k hk => (hown6.lt k hk).1))
          go_roundw
          case rel => exact ⟨j + 1 + 1, by omega, by go_num, by rw [HF.out], by rw [HTN.out, headersC_app]; exact hown4, hB4⟩
          case measure => simp [intOf]; omega
      · obtain rfl : k = 0 := by omega
        have f3 : ¬ (0 : Int) < ((0 : Nat) : Int) := by omega
        have HTN : Hid (tied hs (0 + 1) = tied hs 0 ++ [x]) := Lib.hid (by rw [HX.out]; rfl)
        clear hc f3
        go_upto_region 10 with (first
          | (with_reducible refine hd_load_mid rfl _ rfl ab (ao + 0 * 68) rfl x rx zx ?_)
          | (with_reducible refine hd_store rfl _ _ rfl _ _ x rfl rfl rfl za hZ hz0 ?_))
        have hX : HdAt ((wr.alloc (.cells Tryd.zeroCells25 25)).setRow wr.heap.size (hdA x)) wr.heap.size x := Has.row hZ _
        have hb2 : Below wr.heap.size wr ((wr.alloc (.cells Tryd.zeroCells25 25)).setRow wr.heap.size (hdA x)) := below_setRow ((Below.refl _ _).alloc (Nat.le_refl _) _) (Nat.le_refl _) _
        generalize World.setRow _ _ _ = w2 at *
        have hown2 := hown.kept (gb_below hb2 none) (by rcases Option.eq_none_or_eq_some (Value.ownBlock u4) with h | ⟨b, h⟩ <;> simp [h])
        have hB2 := hB.trans (hb2.mono hB.size)
        generalize wr.heap.size = X at *
        clear hZ hb2 rx hown hB
        have zc := za
        have HZC := Lib.hid zx
        have hm : 0 + 1 ≤ maxLen := by unfold maxLen; omega
        have hbase : w.heap.size ≤ (w2.alloc (.cells (hdA x) 25)).heap.size := by simp only [World.size_alloc]; have := hB2.size; omega
        have HNL : Hid ((hdC x).length = 1 * 68) := Lib.hid (by rw [HZC.out])
        have HBY : Hid ((0 + 1) * 96 ≤ 140737488355328) := Lib.hid (by omega)
        go_wp2_with (first
          | (with_reducible refine hd_load rfl _ rfl X rfl hX zc ?_)
          | (with_reducible refine build_hd rfl _ rfl _ rfl zc ?_)
          | ((with_reducible refine wpList_append_own _ rfl _ _ 47 rfl w.heap.size 25 i z 68 96 Tryd.underlying47 hi hz hi1 hi2 hi3 (by omega) _ 0 _ rfl (hown2.alloc _) ⟨w2.heap.size, 0, none⟩ 1 1 (hdC x) rfl HNL.out (news_hd _ _) (hdC_one _) hm HBY.out hbase ?_); intro v' w4 hown4 hgr4 _))
        have hB4 := gb_none_below (gb_own (gb_below hB2 none) _ hgr4 (fun k hk => (hown2.lt k hk).1))
        go_roundw
        case rel => exact ⟨0 + 1, by omega, rfl, rfl, by rw [HTN.out, headersC_app]; exact hown4, hB4⟩
        case measure => simp [intOf]; omega
    · obtain rfl : k = n := by omega
      have f1 : decide ((k : Int) < (k : Int)) = false := decide_eq_false (by omega)
      have HTL := Lib.hid (tied_length hs k)
      obtain ⟨ta, tc, hu4, hTA⟩ := owns_headers hown HTL.out.symm (tied_ok HOK.out k)
      subst hu4
      have hT2 := hT.below hB
      obtain ⟨b, hb⟩ : ∃ b, fol hs k = b := ⟨_, rfl⟩
      rw [hb]
      have C1 := Lib.hid (follows_at a hs k c HN.out (by omega) wr hT2 (HA.out.below hB) b hb)
      clear hown hlt hb
      go_wp2_with fail
      refine C1.out.mono ?_
      rintro r w2 ⟨rfl, hb2⟩
      have C2 := Lib.hid (follows_at ta (tied hs k) k tc HTL.out.symm (by omega) w2 (hT2.below hb2) (hTA.below hb2) true (fol_tied hs k))
      replace hB := hB.trans (hb2.mono hB.size)
      clear C1 hb2 hTA hT2
      cases b
      all_goals
        go_wp2_with fail
        refine C2.out.mono ?_
        rintro r w3 ⟨rfl, hb3⟩
        replace hB := hB.trans (hb3.mono hB.size)
        go_wp2_with fail
        go_ret
        exact ⟨rfl, hB⟩
theorem follows_walk (a : Option Addr) (hs : List Hd) (n c : Nat) (hn : n = hs.length) (hl : n ≤ 4611686018427387904) (hok : ∀ x ∈ hs, x.ok) (w : World) (hT : Tab w) (hA : HeadersAt w a hs) :
    Calls Tryd.prog 5 #[.slice a n c] w fun r w' => r = .returned (.bool true) ∧ Below w.heap.size w w' := by
  by_cases h : 20 < n
  · exact hfollows_long a n c hl h w hT
  · exact hfollows_short a hs n c hn (by omega) hok w hT hA
end Go.Proofs.YtfnicmmebphpkaaDoor
