import Derived.Test.YtlljemggalmcdaaWAlive
import Derived.Test.YtlljemggalmcdaaWCompare
import Derived.Test.YtlljemggalmcdaaRefLess
import Derived.Test.YtlljemggalmcdaaLawOrder0
namespace Go.Proofs.Ytlljemggalmcdaa
open Go.RowKit
theorem eql_small (v : Nat) (hv : v < 18446744073709551616) (w : World) : (binOp .eql 24 (.agg (numC v)) (.agg #[.int .u64 (v : Int), .int .u64 0, .int .u64 0, .int .u64 0])).run Try.prog w = .ok (.bool true) w := by
  have hb : v < Nm.big := Nat.lt_trans hv (by decide)
  rw [small_cells v hv, eql_num hb hb]; simp
set_option maxRecDepth 100000 in
set_option maxHeartbeats 2000000 in
theorem order_case (x y : Nat) (hx : x < Nm.big) (hy : y < Nm.big) (l e : Bool) (c d : Int) (hl : decide (x < y) = l) (he : decide (x = y) = e) (hc : Nm.cmp x y = c) (hd : Nm.cmp y x = d) (hcd : (l = true ∧ e = false ∧ c = -1 ∧ d = 1) ∨ (l = false ∧ e = true ∧ c = 0 ∧ d = 0) ∨ (l = false ∧ e = false ∧ c = 1 ∧ d = -1)) (w : World) :
    Calls Try.prog 4 #[.agg (numC x), .agg (numC y)] w fun e w' => e = .returned (.bool true) ∧ Below w.heap.size w w' := by
  have cRLess := fun w => ref_less x y hx hy w
  have cLess := fun w => less x y hx hy w
  have cCmp := fun w => compare x y hx hy w
  have cCmp2 := fun w => compare y x hy hx w
  have cZero := fun w => zero x hx w
  have cLen := fun w => len x hx w
  have cOf := fun w => of (Nm.wd x 0) (Nm.wd_lt x 0) w
  have qAB := fun w => eql_num hx hy w
  have qZ := fun w => eql_num hx (show 0 < Nm.big by decide) w
  have qOf := fun w => eql_small (Nm.wd x 0) (Nm.wd_lt x 0) w
  have hlen := Nm.len_all hx
  rw [hl] at cRLess cLess
  rw [hc] at cCmp
  rw [hd] at cCmp2
  rw [he] at qAB
  obtain ⟨z, hz⟩ : ∃ z, z = decide (x = 0) := ⟨_, rfl⟩
  rw [← hz] at cZero qZ
  rw [← zero4] at qZ
  obtain ⟨v, hv⟩ : ∃ v, v = Nm.wd x 0 := ⟨_, rfl⟩
  rw [← hv] at cOf qOf
  have HV := Lib.hid hv
  have KRLess := Lib.hid cRLess
  have KLess := Lib.hid cLess
  have KCmp := Lib.hid cCmp
  have KCmp2 := Lib.hid cCmp2
  have KZero := Lib.hid cZero
  have KLen := Lib.hid cLen
  have KOf := Lib.hid cOf
  have QAB := Lib.hid qAB
  have QZ := Lib.hid qZ
  have QOf := Lib.hid qOf
  have HLEN := Lib.hid hlen
  clear cRLess cLess cCmp cCmp2 cZero cLen cOf qAB qZ qOf hlen hz hv hl he hc hd hx hy
  rcases hcd with ⟨rfl, rfl, rfl, rfl⟩ | ⟨rfl, rfl, rfl, rfl⟩ | ⟨rfl, rfl, rfl, rfl⟩
  all_goals
    go_enter Try.func4, Try.ntmps4
    go_upto_region 1 with fail
    generalize hw1 : World.alloc _ _ = w1
    have h0 : Two w w1 w.heap.size (w.heap.size + 1) x y := by rw [← hw1]; exact Two.start w x y
    clear hw1
    generalize w.heap.size + 1 = b_B at h0 ⊢
    generalize hC : w.heap.size = b_A at *
    have HC := Lib.hid hC
    clear hC
    go_wp2_with fail
    refine (alive _).mono ?_
    rintro e v1 ⟨rfl, hb1⟩
    replace h0 := h0.on hb1
    clear hb1
    go_wp2_with (first | (with_reducible refine num_load rfl _ rfl _ rfl _ h0.a rfl ?_) | (with_reducible refine num_load rfl _ rfl _ rfl _ h0.b rfl ?_))
    refine (KRLess.out _).mono ?_
    rintro e v2 ⟨rfl, hb2⟩
    replace h0 := h0.on hb2
    clear hb2
    go_wp2_with (first | (with_reducible refine num_load rfl _ rfl _ rfl _ h0.a rfl ?_) | (with_reducible refine num_load rfl _ rfl _ rfl _ h0.b rfl ?_))
    refine (KCmp.out _).mono ?_
    rintro e v3 ⟨rfl, hb3⟩
    replace h0 := h0.on hb3
    clear hb3
    go_wp2_with fail
    go_loopw [7, 8] (fun kk i wr => ∃ (j m : Nat), j ≤ 256 ∧ i = .int .i64 j ∧ kk = .int .i64 (m : Nat) ∧ Hid (m = Nm.len (x % 2 ^ j)) ∧ Two w wr b_A b_B x y) (fun _ i _ => 256 - (intOf i).toNat)
    case atStart => exact ⟨0, 0, by omega, rfl, rfl, Lib.hid (Nm.len_none x).symm, h0⟩
    case round =>
      obtain ⟨j, m, hj, rfl, rfl, HM, hs⟩ := hrel
      by_cases hlt : j < 256
      · have hbit := fun w => ref_bit x j hlt w
        have hbl := Nm.bit_lt x j
        have hln := Nm.len_mod x j
        by_cases hb : Nm.bit x j = 1
        · rw [hb] at hbit
          rw [if_pos hb] at hln
          have KBit := Lib.hid hbit
          have HL := Lib.hid hln
          clear hbit hln hb hbl
          go_wp2_with (with_reducible refine num_load rfl _ rfl _ rfl _ hs.a rfl ?_)
          refine (KBit.out _).mono ?_
          rintro e v4 ⟨rfl, hb4⟩
          have hs2 := hs.on hb4
          go_wp2_with fail
          go_roundw
          case rel => exact ⟨j + 1, j + 1, by omega, by go_num, by go_num, Lib.hid HL.out.symm, hs2⟩
          case measure => simp [intOf]; omega
        · rw [show Nm.bit x j = 0 by omega] at hbit
          rw [if_neg hb] at hln
          have KBit := Lib.hid hbit
          have HL := Lib.hid hln
          clear hbit hln hb hbl
          go_wp2_with (with_reducible refine num_load rfl _ rfl _ rfl _ hs.a rfl ?_)
          refine (KBit.out _).mono ?_
          rintro e v4 ⟨rfl, hb4⟩
          have hs2 := hs.on hb4
          go_wp2_with fail
          go_roundw
          case rel => exact ⟨j + 1, m, by omega, by go_num, rfl, Lib.hid (HM.out.trans HL.out.symm), hs2⟩
          case measure => simp [intOf]; omega
      · obtain rfl : j = 256 := by omega
        have hm : m = Nm.len x := HM.out.trans HLEN.out
        have cLen := KLen.out
        rw [← hm] at cLen
        have KLen2 := Lib.hid cLen
        clear cLen hm HM KLen HLEN
        have c0 := hs.a.num (j := 0) (by omega)
        rw [← HV.out] at c0
        have c0r : ∀ d os, (Sort.grow (redrawn wr d) os).cell? ⟨b_A, 0, none⟩ = some (.int .u64 (v : Nat)) := fun d os => cell_regrown c0 d os
        clear c0
        have qAB := QAB.out
        have qZ := QZ.out
        have qOf := QOf.out
        clear QAB QZ QOf
        go_wp2_with fail
        refine wp_region_quiet_below (by kernel_rfl) (by kernel_rfl) ?_
        repeat (first
          | (go_big_quiet_want; (with_reducible refine quiet_load_num _ rfl _ rfl _ hs.a.cls ?_); (simp only [Act.put, List.setIfInBounds_toArray, List.set_cons_zero, List.set_cons_succ]); go_big_quiet_on)
          | (go_big_quiet_want; (with_reducible refine quiet_load_num _ rfl _ rfl _ hs.b.cls ?_); (simp only [Act.put, List.setIfInBounds_toArray, List.set_cons_zero, List.set_cons_succ]); go_big_quiet_on)
          | go_big_quiet_step (first | (go_at_call 21; exact Calls.regrown_of (KLess.out _)) | (go_at_call 19; exact Calls.regrown_of (KCmp2.out _)) | (go_at_call 22; exact Calls.regrown_of (KZero.out _)) | (go_at_call 23; exact Calls.regrown_of (KLen2.out _)) | (go_at_call 24; exact Calls.regrown_of (KOf.out _))))
        refine wpQuiet_nil ?_
        intro _ hw'
        obtain ⟨p, hw''⟩ := hw'
        subst hw''
        have hs2 := hs.on (below_regrown wr p.d p.os)
        clear qAB qZ qOf c0r
        go_wp2_with fail
        go_ret
        exact ⟨rfl, hs2.below⟩
theorem order_walk (x y : Nat) (hx : x < Nm.big) (hy : y < Nm.big) (w : World) :
    Calls Try.prog 4 #[.agg (numC x), .agg (numC y)] w fun e w' => e = .returned (.bool true) ∧ Below w.heap.size w w' := by
  refine order_case x y hx hy _ _ _ _ rfl rfl rfl rfl ?_ w
  unfold Nm.cmp
  rcases Nat.lt_trichotomy x y with h | h | h
  · have h1 : ¬ x = y := by omega
    have h2 : ¬ y < x := by omega
    simp [h, h1, h2]
  · subst h; simp
  · have h1 : ¬ x = y := by omega
    have h2 : ¬ x < y := by omega
    simp [h, h1, h2]
end Go.Proofs.Ytlljemggalmcdaa
