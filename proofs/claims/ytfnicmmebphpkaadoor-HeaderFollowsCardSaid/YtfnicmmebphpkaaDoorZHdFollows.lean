/-
  header: Follows.
-/
import Derived.Test.YtfnicmmebphpkaaDoorZHdList
namespace Go.Proofs.YtfnicmmebphpkaaDoor
open Go.RowKit Mem Sc
theorem Tab.grows {w : World} (h : Tab w) : ∀ d os, Tab (Sort.grow (redrawn w d) os) := fun d os => h.below (below_regrown w d os)
set_option maxRecDepth 100000 in
set_option maxHeartbeats 2000000 in
theorem follows_at (a : Option Addr) (hs : List Hd) (n c : Nat) (hn : n = hs.length) (hl : n ≤ 4611686018427387904) (w : World) (hT : Tab w) (hA : HeadersAt w a hs) (g : Bool) (hg : fol hs n = g) :
    Calls Tryd.prog 22 #[.slice a n c] w fun r w' => r = .returned (.bool g) ∧ Below w.heap.size w w' := by
  have HN := Lib.hid hn
  have HG := Lib.hid hg
  have HA := Lib.hid hA
  clear hn hg hA
  go_enter Tryd.func22, Tryd.ntmps22
  go_wp2_with fail
  go_loopw [3] (fun i wr => ∃ k : Nat, k + 1 ≤ max n 1 ∧ i = .int .i64 ((k + 1 : Nat) : Int) ∧ Hid (fol hs (k + 1) = true) ∧ Below w.heap.size w wr) (fun i _ => n - (intOf i).toNat)
  case atStart => exact ⟨0, by omega, rfl, Lib.hid rfl, Below.refl _ _⟩
  case round =>
    obtain ⟨k, hk, rfl, HF, hB⟩ := hrel
    by_cases hlt : k + 1 < n
    · have hT1 := hT.below hB
      obtain ⟨ab, ao, rfl, habl, hc⟩ := (HA.out.below hB) (by rw [← HN.out]; omega)
      have h1 : (hs.getD (k + 1) hdZ).ok ∧ wr.rangeAt ab (ao + (k + 1) * 68) (hdC (hs.getD (k + 1) hdZ)) := by
        rw [getD_lt (show k + 1 < hs.length by rw [← HN.out]; omega)]; exact hc (k + 1) _
      have h2 : (hs.getD k hdZ).ok ∧ wr.rangeAt ab (ao + k * 68) (hdC (hs.getD k hdZ)) := by
        rw [getD_lt (show k < hs.length by rw [← HN.out]; omega)]; exact hc k _
      have hf := fol_next hs k
      rw [HF.out, Bool.true_and] at hf
      generalize hs.getD (k + 1) hdZ = y at *
      generalize hs.getD k hdZ = x at *
      have q1 := range_cls (range_prev h1.2) (by rw [Lib.byteCells_length, h1.1.1]; omega)
      have q2 := range_cls h2.2 (hdC_pos x)
      have s1 := byteCells_32 h1.1.1
      have s2 := hdC_length h2.1
      have hTr := hT1.grows
      have KI := Lib.hid (fun w hT => id_at x h2.1 w hT)
      have f0 : ((k + 1 : Nat) : Int) - 1 = (k : Int) := by omega
      have f1 : ((k + 1 : Nat) : Int) < (n : Int) := by omega
      cases he : (y.prev == x.id)
      · have qn := hn_neq y.prev x.id h1.1.1 (id_length x) true (by rw [he]; rfl)
        have hgf : g = false := by
          rw [← HG.out, show n = (k + 2) + (n - (k + 2)) by omega]
          exact fol_more hs (k + 2) (by rw [hf, he]) _
        subst hgf
        generalize bytesV x.id = ci at *
        clear h1 h2 hf he hc
        go_wp2_with fail
        refine wp_region_quiet_below (by kernel_rfl) (by kernel_rfl) ?_
        repeat (first
          | (go_big_quiet_want; (with_reducible refine quiet_hl_mid _ rfl ab (ao + (k + 1) * 68 + 1) rfl y.prev s1 q1 ?_); (simp only [Act.put, List.setIfInBounds_toArray, List.set_cons_zero, List.set_cons_succ]); go_big_quiet_on)
          | (go_big_quiet_want; (with_reducible refine quiet_hd_mid _ rfl ab (ao + k * 68) rfl x s2 q2 ?_); (simp only [Act.put, List.setIfInBounds_toArray, List.set_cons_zero, List.set_cons_succ]); go_big_quiet_on)
          | (go_big_quiet_want; (with_reducible refine quiet_hneq _ _ _ rfl _ _ _ rfl rfl qn ?_); (simp only [Act.put, List.setIfInBounds_toArray, List.set_cons_zero, List.set_cons_succ]); go_big_quiet_on)
          | go_big_quiet_step ((go_at_call 14; exact Calls.regrown_of (KI.out _ (hTr _ _)))))
        refine wpQuiet_nil ?_
        intro _ hw'
        obtain ⟨p, hw''⟩ := hw'
        subst hw''
        have hB2 := hB.trans ((below_regrown wr p.d p.os).mono hB.size)
        clear q1 q2 hTr qn KI
        generalize Sort.grow (redrawn wr p.d) p.os = w9 at *
        go_wp2_with fail
        go_ret
        exact ⟨rfl, hB2⟩
      · have qn := hn_neq y.prev x.id h1.1.1 (id_length x) false (by rw [he]; rfl)
        have HF2 : Hid (fol hs (k + 1 + 1) = true) := Lib.hid (by rw [hf, he])
        generalize bytesV x.id = ci at *
        clear h1 h2 hf he hc
        go_wp2_with fail
        refine wp_region_quiet_below (by kernel_rfl) (by kernel_rfl) ?_
        repeat (first
          | (go_big_quiet_want; (with_reducible refine quiet_hl_mid _ rfl ab (ao + (k + 1) * 68 + 1) rfl y.prev s1 q1 ?_); (simp only [Act.put, List.setIfInBounds_toArray, List.set_cons_zero, List.set_cons_succ]); go_big_quiet_on)
          | (go_big_quiet_want; (with_reducible refine quiet_hd_mid _ rfl ab (ao + k * 68) rfl x s2 q2 ?_); (simp only [Act.put, List.setIfInBounds_toArray, List.set_cons_zero, List.set_cons_succ]); go_big_quiet_on)
          | (go_big_quiet_want; (with_reducible refine quiet_hneq _ _ _ rfl _ _ _ rfl rfl qn ?_); (simp only [Act.put, List.setIfInBounds_toArray, List.set_cons_zero, List.set_cons_succ]); go_big_quiet_on)
          | go_big_quiet_step ((go_at_call 14; exact Calls.regrown_of (KI.out _ (hTr _ _)))))
        refine wpQuiet_nil ?_
        intro _ hw'
        obtain ⟨p, hw''⟩ := hw'
        subst hw''
        have hB2 := hB.trans ((below_regrown wr p.d p.os).mono hB.size)
        clear q1 q2 hTr qn KI
        generalize Sort.grow (redrawn wr p.d) p.os = w9 at *
        go_wp2_with fail
        go_roundw
        case rel => exact ⟨k + 1, by omega, by go_num, HF2, hB2⟩
        case measure => simp [intOf]; omega
    · have hk' : n ≤ k + 1 := by omega
      have hfin : g = true := by
        rw [← HG.out]
        have := HF.out
        by_cases h0 : n = 0
        · rw [h0]; rfl
        · rw [show n = k + 1 by omega]; exact this
      subst hfin
      have f1 : decide (((k + 1 : Nat) : Int) < (n : Int)) = false := decide_eq_false (by omega)
      clear hlt
      go_wp2_with fail
      go_ret
      exact ⟨rfl, hB⟩
end Go.Proofs.YtfnicmmebphpkaaDoor
