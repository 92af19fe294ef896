/-
  The reference of layer 6: Bytes, Id.
-/
import Derived.Test.YtmpllagaeoolaaaDoorZHdBytes
import Derived.Test.YtmpllagaeoolaaaDoorBunC
import Derived.Test.YtmpllagaeoolaaaDoorZRefDouble
namespace Go.Proofs.YtmpllagaeoolaaaDoor
open Go.RowKit Mem Sc Sha
theorem enc_ref (h : Hd) : txt (num 4 h.v) ++ txt h.prev ++ txt h.root ++ txt (num 4 h.time) ++ txt (num 4 h.bits) ++ txt (num 4 h.nonce) = txt h.enc := by
  simp only [txt_append, Hd.enc, List.append_assoc]
set_option maxRecDepth 100000 in
set_option maxHeartbeats 2000000 in
theorem rbytes (h : Hd) (ho : h.ok) (w : World) :
    Calls Tryd.prog 34 #[.agg (hdA h)] w fun e w' => e = .returned (.string (txt h.enc)) ∧ Below w.heap.size w w' := by
  rw [← enc_ref]
  have N1 := Lib.hid (fun w => rnumber 4 h.v w)
  have N2 := Lib.hid (fun w => rname h.prev ho.1 w)
  have N3 := Lib.hid (fun w => rname h.root ho.2 w)
  have N4 := Lib.hid (fun w => rnumber 4 h.time w)
  have N5 := Lib.hid (fun w => rnumber 4 h.bits w)
  have N6 := Lib.hid (fun w => rnumber 4 h.nonce w)
  rw [show near 4 8 = 4 from rfl] at N1 N4 N5 N6
  have z1 : (txt (num 4 h.v)).size ≤ 4 := by rw [txt_size, num_length]; omega
  have z2 : (txt h.prev).size ≤ 32 := by rw [txt_size, ho.1]; omega
  have z3 : (txt h.root).size ≤ 32 := by rw [txt_size, ho.2]; omega
  have z4 : (txt (num 4 h.time)).size ≤ 4 := by rw [txt_size, num_length]; omega
  have z5 : (txt (num 4 h.bits)).size ≤ 4 := by rw [txt_size, num_length]; omega
  have z6 : (txt (num 4 h.nonce)).size ≤ 4 := by rw [txt_size, num_length]; omega
  have s1 := byteCells_32 ho.1
  have s2 := byteCells_32 ho.2
  go_enter Tryd.func34, Tryd.ntmps34
  go_upto_region 1 with fail
  generalize hw1 : World.alloc _ _ = w1
  have hH : HdAt w1 w.heap.size h := by rw [← hw1]; exact hd_new w h
  have hB : Below w.heap.size w w1 := by rw [← hw1]; exact (Below.refl _ _).alloc (Nat.le_refl _) _
  clear hw1
  have q0 : ∀ d os, (Sort.grow (redrawn w1 d) os).cell? ⟨w.heap.size, 0, none⟩ = some (.int .i64 h.v) := cell_regrown hH.v
  have q1 := range_cls hH.prev (by omega)
  have q2 := range_cls (hH.root ho) (by omega)
  refine wp_region_quiet_below (by kernel_rfl) (by kernel_rfl) ?_
  generalize hn1 : txt (num 4 h.v) = t1 at *
  generalize hn2 : txt h.prev = t2 at *
  generalize hn3 : txt h.root = t3 at *
  have M1 := Lib.hid hn1
  have M2 := Lib.hid hn2
  have M3 := Lib.hid hn3
  clear hn1 hn2 hn3
  repeat (first
    | (go_big_quiet_want; (with_reducible refine quiet_hl_mid _ rfl w.heap.size 1 rfl h.prev s1 q1 ?_); (simp only [Act.put, List.setIfInBounds_toArray, List.set_cons_zero, List.set_cons_succ]); go_big_quiet_on)
    | (go_big_quiet_want; (with_reducible refine quiet_hl_mid _ rfl w.heap.size 33 rfl h.root s2 q2 ?_); (simp only [Act.put, List.setIfInBounds_toArray, List.set_cons_zero, List.set_cons_succ]); go_big_quiet_on)
    | go_big_quiet_step (first | (go_at_call 31; exact Calls.regrown_of (N1.out _)) | (go_at_call 33; first | (with_reducible exact Calls.regrown_of (N2.out _)) | (with_reducible exact Calls.regrown_of (N3.out _)))))
  refine wpQuiet_nil ?_
  intro _ hw'
  obtain ⟨p, hw''⟩ := hw'
  subst hw''
  have hb2 := below_regrown w1 p.d p.os
  replace hH := hH.on hb2
  replace hB := hB.trans (hb2.mono hB.size)
  clear q0 q1 q2 hb2 N1 N2 N3
  generalize Sort.grow (redrawn w1 p.d) p.os = w2 at *
  have q0 : ∀ d os, (Sort.grow (redrawn w2 d) os).cell? ⟨w.heap.size, 65, none⟩ = some (.int .i64 h.time) := cell_regrown (hH.time ho)
  have q1 : ∀ d os, (Sort.grow (redrawn w2 d) os).cell? ⟨w.heap.size, 66, none⟩ = some (.int .i64 h.bits) := cell_regrown (hH.bits ho)
  have q2 : ∀ d os, (Sort.grow (redrawn w2 d) os).cell? ⟨w.heap.size, 67, none⟩ = some (.int .i64 h.nonce) := cell_regrown (hH.nonce ho)
  obtain ⟨t, ht⟩ : ∃ t, t = t1 ++ t2 ++ t3 := ⟨_, rfl⟩
  have zt : t.size ≤ 68 := by rw [ht]; simp only [ByteArray.size_append]; omega
  rw [← ht]
  clear z1 z2 z3 s1 s2
  have HT := Lib.hid ht
  clear ht
  go_upto_region 2 with fail
  refine wp_region_quiet_below (by kernel_rfl) (by kernel_rfl) ?_
  repeat (first
    | go_big_quiet_step ((go_at_call 31; first | (with_reducible exact Calls.regrown_of (N4.out _)) | (with_reducible exact Calls.regrown_of (N5.out _)) | (with_reducible exact Calls.regrown_of (N6.out _)))))
  refine wpQuiet_nil ?_
  intro _ hw'
  obtain ⟨p, hw''⟩ := hw'
  subst hw''
  have hB3 := hB.trans ((below_regrown w2 p.d p.os).mono hB.size)
  go_wp2_with fail
  go_ret
  exact ⟨by rw [HT.out, ← M1.out, ← M2.out, ← M3.out]; rfl, hB3⟩
end Go.Proofs.YtmpllagaeoolaaaDoor
