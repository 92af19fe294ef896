import Derived.Test.YtlljemggalmcdaaWQuo
import Derived.Test.YtlljemggalmcdaaRefMoveD
import Derived.Test.YtlljemggalmcdaaRefSub
namespace Go.Proofs.Ytlljemggalmcdaa
open Go.RowKit Rg2
theorem Has.new4 {w : World} (o1 o2 o3 o4 : Obj) (cs : Array Value) (t : TypeId) : Has (((((w.alloc o1).alloc o2).alloc o3).alloc o4).alloc (.cells cs t)) (w.heap.size + 1 + 1 + 1 + 1) cs t := by
  have := Has.new (w := (((w.alloc o1).alloc o2).alloc o3).alloc o4) cs t
  rwa [World.size_alloc, World.size_alloc, World.size_alloc, World.size_alloc] at this
theorem ref_move_neg (x k : Nat) (hx : x < Nm.big) (hk : k ≤ 255) (w : World) :
    Calls Try.prog 26 #[.agg (numC x), .int .i64 (-(k : Int))] w fun e w' => e = .returned (.agg (numC (Nm.down x k))) ∧ Below w.heap.size w w' := by
  by_cases h : k = 0
  · subst h
    have := ref_move_up x 0 hx (by omega) w
    rw [Nm.up_zero hx] at this
    rw [Nm.down_zero]
    exact this
  · exact ref_move_down x k hx (by omega) (by omega) w
set_option maxRecDepth 100000 in
set_option maxHeartbeats 1000000 in
theorem ref_quo_zero (a : Nat) (w : World) :
    Calls Try.prog 32 #[.agg (numC a), .agg (numC 0)] w fun e w' => e = .returned (.tuple #[.agg (numC 0), .agg (numC 0)]) ∧ Below w.heap.size w w' := by
  have hq : ∀ w, (binOp .eql 24 (.agg (numC 0)) (.agg #[.int .u64 0, .int .u64 0, .int .u64 0, .int .u64 0])).run Try.prog w = .ok (.bool true) w := fun w => eql_same'' 0 w
  go_enter Try.func32, Try.ntmps32
  go_upto_region 2 with fail
  generalize hw1 : World.alloc _ _ = w1
  have h1 : Below w.heap.size w w1 := by rw [← hw1]; exact (((((Below.refl _ _).alloc (Nat.le_refl _) _).alloc (by simp) _).alloc (by simp; omega) _).alloc (by simp; omega) _).alloc (by simp; omega) _
  have hA : Has w1 w.heap.size (numC a) 24 := by rw [← hw1]; exact ((((Has.new _ _).alloc _).alloc _).alloc _).alloc _
  have hB : Has w1 (w.heap.size + 1) (numC 0) 24 := by rw [← hw1]; exact (((Has.new1 _ _ _).alloc _).alloc _).alloc _
  have hR : Has w1 (w.heap.size + 1 + 1) (numC 0) 24 := by rw [← hw1]; exact ((Has.new2 _ _ (numC 0) _).alloc _).alloc _
  have hS : Has w1 (w.heap.size + 1 + 1 + 1) (numC 0) 24 := by rw [← hw1]; exact (Has.new3 _ _ _ (numC 0) _).alloc _
  have hO : Has w1 (w.heap.size + 1 + 1 + 1 + 1) (numC 0) 24 := by rw [← hw1]; exact Has.new4 _ _ _ _ (numC 0) _
  clear hw1
  have hOl := hO.lt
  go_upto_region 3 with (first | (with_reducible refine num_load rfl _ rfl _ rfl _ hA rfl ?_) | (with_reducible refine num_store rfl _ _ rfl _ _ rfl rfl _ (Has.newz _) rfl ?_))
  generalize hw2 : World.setRow _ _ _ = w2
  have h0 : Qs w w2 w.heap.size (w.heap.size + 1) (w.heap.size + 1 + 1) (w.heap.size + 1 + 1 + 1) (w.heap.size + 1 + 1 + 1 + 1) w1.heap.size a 0 0 a := by
    rw [← hw2]
    exact ⟨below_setRow (h1.alloc h1.size _) (by omega) _, (hA.alloc _).otherRow _ _ (by omega), (hB.alloc _).otherRow _ _ (by omega), ⟨_, (hR.alloc _).otherRow _ _ (by omega), rfl⟩, ⟨_, (hS.alloc _).otherRow _ _ (by omega), rfl⟩, (hO.alloc _).otherRow _ _ (by omega), (Has.newz _).row _⟩
  have hd : Apart w w.heap.size (w.heap.size + 1) (w.heap.size + 1 + 1) (w.heap.size + 1 + 1 + 1) (w.heap.size + 1 + 1 + 1 + 1) w1.heap.size := ⟨Nat.le_refl _, by omega, by omega, by omega, by omega, by omega⟩
  have HD := Lib.hid hd
  clear hw2 hA hB hR hS hO h1 hOl hd
  generalize w1.heap.size = T at *
  generalize w.heap.size + 1 + 1 + 1 + 1 = O at *
  generalize w.heap.size + 1 + 1 + 1 = S at *
  generalize w.heap.size + 1 + 1 = R at *
  generalize w.heap.size + 1 = B at *
  generalize hA0 : w.heap.size = A at h0 HD ⊢
  have HAA := Lib.hid hA0
  clear hA0
  go_wp2_with (with_reducible refine num_load rfl _ rfl _ rfl _ h0.b rfl ?_)
  have hs := h0
  refine Rg2.wp_region_inv (by kernel_rfl) (fun w' => Qs w w' A B R S O T a 0 0 a) (fun i v w' => (endTab 0 0 i).holds w.heap.size v w') (fun l _ w' => DoneAt 2 R 0 l w' ∧ DoneAt 3 S 0 l w') (NumStep w.heap.size) (fun _ _ => NumStep.refl _ _) (fun _ _ _ _ _ hs h => Slot.stays _ _ _ _ hs h) (by kernel_rfl) (hs.on (Below.refl _ _).drew) ?_ ?_ ?_
  · exact fun l hl => ⟨fun hk => (by rw [hl] at hk; cases hk), fun hk => (by rw [hl] at hk; cases hk)⟩
  · intro i o listed a wx ho hn hdep hinv
    have hC := hinv.c
    have hI := hinv.i
    have hi : i < 4 := (Array.getElem?_eq_some_iff.1 ho).1
    obtain rfl | rfl | rfl | rfl : i = 0 ∨ i = 1 ∨ i = 2 ∨ i = 3 := by omega
    all_goals obtain rfl := Option.some.inj ho
    · exact duty_value ((fun _ _ => NumStep.refl _ _)) hC (wanted_free rfl) (ex_load_num rfl (hinv.old' 6 (by kernel_rfl)) hC.o) rfl (⟨DoneAt.pre (hinv.aheadT 3 (by kernel_rfl) hn (by decide) (by decide)), DoneAt.pre (hinv.aheadT 3 (by kernel_rfl) hn (by decide) (by decide))⟩)
    · exact duty_value ((fun _ _ => NumStep.refl _ _)) hC (wanted_free rfl) (ex_load_num rfl (hinv.old' 6 (by kernel_rfl)) hC.o) rfl (⟨DoneAt.keep hI.1 (by rw [hinv.size]; decide) (by decide) (fun h => h), DoneAt.pre (hinv.aheadT 3 (by kernel_rfl) hn (by decide) (by decide))⟩)
    · obtain ⟨cs, hh, hsz⟩ := hC.r
      have he : a.eval (.tmp 4) = .pointer (some ⟨R, 0, none⟩) := hinv.old' 4 (by kernel_rfl)
      exact duty_store (wanted_free rfl) (ex_store_num rfl he (hinv.got 0 _ 15 rfl (hdep ⟨0, .data⟩ (by simp) rfl) rfl) hh hsz) (hC.putR HD.out _) (NumStep.row hh) trivial ⟨fun _ => hh.row _, DoneAt.pre (hinv.aheadT 3 (by kernel_rfl) hn (by decide) (by decide))⟩
    · obtain ⟨cs, hh, hsz⟩ := hC.s
      have he : a.eval (.tmp 5) = .pointer (some ⟨S, 0, none⟩) := hinv.old' 5 (by kernel_rfl)
      exact duty_store (wanted_free rfl) (ex_store_num rfl he (hinv.got 1 _ 16 rfl (hdep ⟨1, .data⟩ (by simp) rfl) rfl) hh hsz) (hC.putS HD.out _) (NumStep.row hh) trivial ⟨DoneAt.keep hI.1 (by rw [hinv.size]; decide) (by decide) (fun h => h.otherRow _ _ (by have := HD.out; unfold Apart at this; omega)), fun _ => hh.row _⟩
  · intro listed act wx hall hinv
    have hr := hinv.i.1 (hall 2 (by decide))
    have hsr := hinv.i.2 (hall 3 (by decide))
    have e4 : act.eval (.tmp 4) = .pointer (some ⟨R, 0, none⟩) := hinv.old' 4 (by kernel_rfl)
    have e5 : act.eval (.tmp 5) = .pointer (some ⟨S, 0, none⟩) := hinv.old' 5 (by kernel_rfl)
    have hbel := hinv.c.below
    have hdf := hinv.defers
    obtain ⟨tm, df⟩ := act
    obtain rfl : df = [] := hdf
    clear hinv hall
    go_wp2_with fail
    refine bodyPost_ret (v := .tuple #[.agg (numC 0), .agg (numC 0)]) (num_results_cc Try.results32 _ _ _ _ _ e4 e5 hr hsr) rfl ⟨rfl, hbel⟩
set_option maxRecDepth 100000 in
set_option maxHeartbeats 2000000 in
theorem ref_quo_pos (a b : Nat) (ha : a < Nm.big) (hb : b < Nm.big) (hb0 : 0 < b) (w : World) :
    Calls Try.prog 32 #[.agg (numC a), .agg (numC b)] w fun e w' => e = .returned (.tuple #[.agg (numC (a / b)), .agg (numC (a % b))]) ∧ Below w.heap.size w w' := by
  have hq : ∀ w, (binOp .eql 24 (.agg (numC b)) (.agg #[.int .u64 0, .int .u64 0, .int .u64 0, .int .u64 0])).run Try.prog w = .ok (.bool false) w := fun w => by
    have := eql_num hb (show 0 < Nm.big by decide) w
    rw [show decide (b = 0) = false by simp; omega] at this
    exact this
  have HQ0 := Lib.hid hq
  have HA0 := Lib.hid ha
  have HB0 := Lib.hid hb
  have HBP := Lib.hid hb0
  clear hq ha hb hb0
  go_enter Try.func32, Try.ntmps32
  go_upto_region 2 with fail
  generalize hw1 : World.alloc _ _ = w1
  have h1 : Below w.heap.size w w1 := by rw [← hw1]; exact (((((Below.refl _ _).alloc (Nat.le_refl _) _).alloc (by simp) _).alloc (by simp; omega) _).alloc (by simp; omega) _).alloc (by simp; omega) _
  have hA : Has w1 w.heap.size (numC a) 24 := by rw [← hw1]; exact ((((Has.new _ _).alloc _).alloc _).alloc _).alloc _
  have hB : Has w1 (w.heap.size + 1) (numC b) 24 := by rw [← hw1]; exact (((Has.new1 _ _ _).alloc _).alloc _).alloc _
  have hR : Has w1 (w.heap.size + 1 + 1) (numC 0) 24 := by rw [← hw1]; exact ((Has.new2 _ _ (numC 0) _).alloc _).alloc _
  have hS : Has w1 (w.heap.size + 1 + 1 + 1) (numC 0) 24 := by rw [← hw1]; exact (Has.new3 _ _ _ (numC 0) _).alloc _
  have hO : Has w1 (w.heap.size + 1 + 1 + 1 + 1) (numC 0) 24 := by rw [← hw1]; exact Has.new4 _ _ _ _ (numC 0) _
  clear hw1
  have hOl := hO.lt
  go_upto_region 3 with (first | (with_reducible refine num_load rfl _ rfl _ rfl _ hA rfl ?_) | (with_reducible refine num_store rfl _ _ rfl _ _ rfl rfl _ (Has.newz _) rfl ?_))
  generalize hw2 : World.setRow _ _ _ = w2
  have h0 : Qs w w2 w.heap.size (w.heap.size + 1) (w.heap.size + 1 + 1) (w.heap.size + 1 + 1 + 1) (w.heap.size + 1 + 1 + 1 + 1) w1.heap.size a b 0 a := by
    rw [← hw2]
    exact ⟨below_setRow (h1.alloc h1.size _) (by omega) _, (hA.alloc _).otherRow _ _ (by omega), (hB.alloc _).otherRow _ _ (by omega), ⟨_, (hR.alloc _).otherRow _ _ (by omega), rfl⟩, ⟨_, (hS.alloc _).otherRow _ _ (by omega), rfl⟩, (hO.alloc _).otherRow _ _ (by omega), (Has.newz _).row _⟩
  have hd : Apart w w.heap.size (w.heap.size + 1) (w.heap.size + 1 + 1) (w.heap.size + 1 + 1 + 1) (w.heap.size + 1 + 1 + 1 + 1) w1.heap.size := ⟨Nat.le_refl _, by omega, by omega, by omega, by omega, by omega⟩
  have HD := Lib.hid hd
  clear hw2 hA hB hR hS hO h1 hOl hd
  generalize w1.heap.size = T at *
  generalize w.heap.size + 1 + 1 + 1 + 1 = O at *
  generalize w.heap.size + 1 + 1 + 1 = S at *
  generalize w.heap.size + 1 + 1 = R at *
  generalize w.heap.size + 1 = B at *
  generalize hA0 : w.heap.size = A at h0 HD ⊢
  have HAA := Lib.hid hA0
  clear hA0
  have hq := HQ0.out
  go_wp2_with (with_reducible refine num_load rfl _ rfl _ rfl _ h0.b rfl ?_)
  clear hq
  go_loopw [8] (fun i wr => ∃ out rest : Nat, Qs w wr A B R S O T a b out rest ∧ ((∃ k : Nat, k ≤ 255 ∧ i = .int .i64 k ∧ Hid (Nm.QI a b (k + 1) out rest)) ∨ (∃ z : Int, z < 0 ∧ i = .int .i64 z ∧ Hid (Nm.QI a b 0 out rest)))) (fun i _ => (intOf i + 1).toNat)
  case atStart => exact ⟨_, _, h0, .inl ⟨255, by omega, rfl, Lib.hid (Nm.QI.start _ (by
    have h1 := HA0.out; rw [Nm.big_eq] at h1
    exact Nat.lt_of_lt_of_le h1 (Nat.le_mul_of_pos_left _ HBP.out)))⟩⟩
  case round =>
    clear h0
    obtain ⟨out, rest, hs, ⟨k, hk, rfl, HQ⟩ | ⟨z, hz, rfl, HQ⟩⟩ := hrel
    · obtain ⟨d, hdd⟩ : ∃ d, d = Nm.up b k := ⟨_, rfl⟩
      have hdl : d < Nm.big := by rw [hdd]; exact Nm.up_lt _ _
      have hrl : rest < Nm.big := Nat.lt_of_le_of_lt HQ.out.rest_le HA0.out
      have hol : out < Nm.big := Nat.lt_of_le_of_lt (HQ.out.out_le HBP.out) HA0.out
      have cUp := fun w => ref_move_up b k HB0.out (by omega) w
      have cNeg := fun w => ref_move_neg d k hdl hk w
      have cLess := fun w => ref_less rest d hrl hdl w
      rw [← hdd] at cUp
      have KUp := Lib.hid cUp
      have hk256 : k < 256 := by omega
      by_cases hov : b * 2 ^ k < Nm.big
      · have he := Nm.back_small hov
        rw [← hdd] at he
        have hd2 := Nm.up_small hov
        rw [← hdd] at hd2
        rw [he] at cNeg
        have KNeg := Lib.hid cNeg
        have hq : ∀ w, (binOp .eql 24 (.agg (numC b)) (.agg (numC b))).run Try.prog w = .ok (.bool true) w := fun w => eql_same'' b w
        have HQE := Lib.hid hq
        by_cases htake : d ≤ rest
        · rw [show decide (rest < d) = false by simp; omega] at cLess
          have KLess := Lib.hid cLess
          have cSub := fun w => ref_sub rest d hrl hdl w
          rw [sub_mod hrl htake, show decide (rest < d) = false by simp; omega] at cSub
          obtain ⟨s, hsd⟩ : ∃ s, s = rest - d := ⟨_, rfl⟩
          rw [← hsd] at cSub
          have KSub := Lib.hid cSub
          have hqn := HQ.out.take (by rw [← hd2]; exact htake)
          rw [← hd2, ← hsd] at hqn
          have HQN := Lib.hid hqn
          have cSet := fun w => ref_set out k hk256 w
          have KSet := Lib.hid cSet
          clear cUp cNeg cLess cSub cSet hdd hdl hrl hol he hd2 hq htake hsd hqn hov
          go_wp2_with (with_reducible refine num_load rfl _ rfl _ rfl _ hs.b rfl ?_)
          refine (KUp.out _).mono ?_
          rintro e v1 ⟨rfl, hb1⟩
          have hs1 := hs.on hb1
          clear hb1
          go_wp2_with (with_reducible refine num_store rfl _ _ rfl _ _ rfl rfl _ (Has.newz _) rfl ?_)
          simp only [Act.put]
          generalize hw2 : World.setRow _ _ _ = v2
          have hTl := hs1.t.lt
          have hN : Has v2 v1.heap.size (numC d) 24 := by rw [← hw2]; exact (Has.newz _).row _
          have hb2 : Below v1.heap.size v1 v2 := by rw [← hw2]; exact below_setRow ((Below.refl _ _).alloc (Nat.le_refl _) _) (Nat.le_refl _) _
          have hs2 := hs1.on hb2
          clear hw2 hb2 hs1 hs hTl
          generalize v1.heap.size = bN at *
          have hq := HQE.out
          refine wp_region_quiet_below (by kernel_rfl) (by kernel_rfl) ?_
          repeat (first
            | (go_big_quiet_want; (with_reducible refine quiet_load_num _ rfl _ rfl _ hN.cls ?_); (simp only [Act.put, List.setIfInBounds_toArray, List.set_cons_zero, List.set_cons_succ]); go_big_quiet_on)
            | (go_big_quiet_want; (with_reducible refine quiet_load_num _ rfl _ rfl _ hs2.b.cls ?_); (simp only [Act.put, List.setIfInBounds_toArray, List.set_cons_zero, List.set_cons_succ]); go_big_quiet_on)
            | (go_big_quiet_want; (with_reducible refine quiet_load_num _ rfl _ rfl _ hs2.t.cls ?_); (simp only [Act.put, List.setIfInBounds_toArray, List.set_cons_zero, List.set_cons_succ]); go_big_quiet_on)
            | go_big_quiet_step (first | (go_at_call 26; (with_reducible exact Calls.regrown_of (KNeg.out _))) | (go_at_call 18; (with_reducible exact Calls.regrown_of (KLess.out _)))))
          refine wpQuiet_nil ?_
          intro _ hw'
          obtain ⟨p, hw''⟩ := hw'
          subst hw''
          have hs3 := hs2.on (below_regrown v2 p.d p.os)
          have hN3 := hN.on (below_regrown v2 p.d p.os)
          clear hs2 hN hq
          generalize Sort.grow (redrawn v2 p.d) p.os = v3 at *
          clear p
          go_wp2_with (first | (with_reducible refine num_load rfl _ rfl _ rfl _ hs3.t rfl ?_) | (with_reducible refine num_load rfl _ rfl _ rfl _ hN3 rfl ?_))
          refine (KSub.out _).mono ?_
          rintro e v4 ⟨rfl, hb4⟩
          have hs4 := hs3.on hb4
          clear hb4 hs3 hN3
          go_wp2_with (first
            | (with_reducible refine num_store rfl _ _ rfl _ _ rfl rfl _ hs4.t rfl ?_)
            | (with_reducible refine num_load rfl _ rfl _ rfl _ (hs4.putT HD.out _).o rfl ?_))
          refine (KSet.out _).mono ?_
          rintro e v5 ⟨rfl, hb5⟩
          have hs5 := (hs4.putT HD.out s).on hb5
          clear hb5 hs4
          go_wp2_with (with_reducible refine num_store rfl _ _ rfl _ _ rfl rfl _ hs5.o rfl ?_)
          go_roundw
          case rel =>
            refine ⟨_, _, hs5.putO HD.out _, ?_⟩
            by_cases hk0 : k = 0
            · subst hk0
              exact .inr ⟨-1, by omega, rfl, HQN⟩
            · exact .inl ⟨k - 1, by omega, congrArg (Value.int .i64) (by omega), by rw [show k - 1 + 1 = k by omega]; exact HQN⟩
          case measure => first | (simp [intOf]; done) | (simp [intOf]; omega)
        · rw [show decide (rest < d) = true by simp; omega] at cLess
          have KLess := Lib.hid cLess
          have hqn := HQ.out.skip (by rw [← hd2]; omega)
          have HQN := Lib.hid hqn
          clear cUp cNeg cLess hdd hdl hrl hol he hd2 hq htake hqn hov
          go_wp2_with (with_reducible refine num_load rfl _ rfl _ rfl _ hs.b rfl ?_)
          refine (KUp.out _).mono ?_
          rintro e v1 ⟨rfl, hb1⟩
          have hs1 := hs.on hb1
          clear hb1
          go_wp2_with (with_reducible refine num_store rfl _ _ rfl _ _ rfl rfl _ (Has.newz _) rfl ?_)
          simp only [Act.put]
          generalize hw2 : World.setRow _ _ _ = v2
          have hTl := hs1.t.lt
          have hN : Has v2 v1.heap.size (numC d) 24 := by rw [← hw2]; exact (Has.newz _).row _
          have hb2 : Below v1.heap.size v1 v2 := by rw [← hw2]; exact below_setRow ((Below.refl _ _).alloc (Nat.le_refl _) _) (Nat.le_refl _) _
          have hs2 := hs1.on hb2
          clear hw2 hb2 hs1 hs hTl
          generalize v1.heap.size = bN at *
          have hq := HQE.out
          refine wp_region_quiet_below (by kernel_rfl) (by kernel_rfl) ?_
          repeat (first
            | (go_big_quiet_want; (with_reducible refine quiet_load_num _ rfl _ rfl _ hN.cls ?_); (simp only [Act.put, List.setIfInBounds_toArray, List.set_cons_zero, List.set_cons_succ]); go_big_quiet_on)
            | (go_big_quiet_want; (with_reducible refine quiet_load_num _ rfl _ rfl _ hs2.b.cls ?_); (simp only [Act.put, List.setIfInBounds_toArray, List.set_cons_zero, List.set_cons_succ]); go_big_quiet_on)
            | (go_big_quiet_want; (with_reducible refine quiet_load_num _ rfl _ rfl _ hs2.t.cls ?_); (simp only [Act.put, List.setIfInBounds_toArray, List.set_cons_zero, List.set_cons_succ]); go_big_quiet_on)
            | go_big_quiet_step (first | (go_at_call 26; (with_reducible exact Calls.regrown_of (KNeg.out _))) | (go_at_call 18; (with_reducible exact Calls.regrown_of (KLess.out _)))))
          refine wpQuiet_nil ?_
          intro _ hw'
          obtain ⟨p, hw''⟩ := hw'
          subst hw''
          have hs3 := hs2.on (below_regrown v2 p.d p.os)
          have hN3 := hN.on (below_regrown v2 p.d p.os)
          clear hs2 hN hq
          generalize Sort.grow (redrawn v2 p.d) p.os = v3 at *
          clear p
          go_wp2_with fail
          go_roundw
          case rel =>
            refine ⟨_, _, hs3, ?_⟩
            by_cases hk0 : k = 0
            · subst hk0
              exact .inr ⟨-1, by omega, rfl, HQN⟩
            · exact .inl ⟨k - 1, by omega, congrArg (Value.int .i64) (by omega), by rw [show k - 1 + 1 = k by omega]; exact HQN⟩
          case measure => first | (simp [intOf]; done) | (simp [intOf]; omega)
      · have he := Nm.back_great (show Nm.big ≤ b * 2 ^ k by omega)
        rw [← hdd] at he
        obtain ⟨e, hed⟩ : ∃ e, e = Nm.down d k := ⟨_, rfl⟩
        rw [← hed] at cNeg he
        have hel : e < Nm.big := by rw [hed]; exact Nm.down_lt hdl _
        have hq : ∀ w, (binOp .eql 24 (.agg (numC e)) (.agg (numC b))).run Try.prog w = .ok (.bool false) w := fun w => by
          have := eql_num hel HB0.out w
          rw [show decide (e = b) = false by simp; exact he] at this
          exact this
        have HQE := Lib.hid hq
        have KNeg := Lib.hid cNeg
        have KLess := Lib.hid cLess
        have hqn := HQ.out.skip (by omega)
        have HQN := Lib.hid hqn
        clear cUp cNeg cLess hdd hdl hrl hol he hed hel hq hqn hov
        go_wp2_with (with_reducible refine num_load rfl _ rfl _ rfl _ hs.b rfl ?_)
        refine (KUp.out _).mono ?_
        rintro e v1 ⟨rfl, hb1⟩
        have hs1 := hs.on hb1
        clear hb1
        go_wp2_with (with_reducible refine num_store rfl _ _ rfl _ _ rfl rfl _ (Has.newz _) rfl ?_)
        simp only [Act.put]
        generalize hw2 : World.setRow _ _ _ = v2
        have hTl := hs1.t.lt
        have hN : Has v2 v1.heap.size (numC d) 24 := by rw [← hw2]; exact (Has.newz _).row _
        have hb2 : Below v1.heap.size v1 v2 := by rw [← hw2]; exact below_setRow ((Below.refl _ _).alloc (Nat.le_refl _) _) (Nat.le_refl _) _
        have hs2 := hs1.on hb2
        clear hw2 hb2 hs1 hs hTl
        generalize v1.heap.size = bN at *
        have hq := HQE.out
        refine wp_region_quiet_below (by kernel_rfl) (by kernel_rfl) ?_
        repeat (first
          | (go_big_quiet_want; (with_reducible refine quiet_load_num _ rfl _ rfl _ hN.cls ?_); (simp only [Act.put, List.setIfInBounds_toArray, List.set_cons_zero, List.set_cons_succ]); go_big_quiet_on)
          | (go_big_quiet_want; (with_reducible refine quiet_load_num _ rfl _ rfl _ hs2.b.cls ?_); (simp only [Act.put, List.setIfInBounds_toArray, List.set_cons_zero, List.set_cons_succ]); go_big_quiet_on)
          | (go_big_quiet_want; (with_reducible refine quiet_load_num _ rfl _ rfl _ hs2.t.cls ?_); (simp only [Act.put, List.setIfInBounds_toArray, List.set_cons_zero, List.set_cons_succ]); go_big_quiet_on)
          | go_big_quiet_step (first | (go_at_call 26; (with_reducible exact Calls.regrown_of (KNeg.out _))) | (go_at_call 18; (with_reducible exact Calls.regrown_of (KLess.out _)))))
        refine wpQuiet_nil ?_
        intro _ hw'
        obtain ⟨p, hw''⟩ := hw'
        subst hw''
        have hs3 := hs2.on (below_regrown v2 p.d p.os)
        have hN3 := hN.on (below_regrown v2 p.d p.os)
        clear hs2 hN hq
        generalize Sort.grow (redrawn v2 p.d) p.os = v3 at *
        clear p
        go_wp2_with fail
        go_roundw
        case rel =>
          refine ⟨_, _, hs3, ?_⟩
          by_cases hk0 : k = 0
          · subst hk0
            exact .inr ⟨-1, by omega, rfl, HQN⟩
          · exact .inl ⟨k - 1, by omega, congrArg (Value.int .i64) (by omega), by rw [show k - 1 + 1 = k by omega]; exact HQN⟩
        case measure => first | (simp [intOf]; done) | (simp [intOf]; omega)
    · go_wp2_with fail
      refine Rg2.wp_region_inv (by kernel_rfl) (fun w' => Qs w w' A B R S O T a b out rest) (fun i v w' => (endTab out rest i).holds w.heap.size v w') (fun l _ w' => DoneAt 2 R out l w' ∧ DoneAt 3 S rest l w') (NumStep w.heap.size) (fun _ _ => NumStep.refl _ _) (fun _ _ _ _ _ hs h => Slot.stays _ _ _ _ hs h) (by kernel_rfl) (hs.on (Below.refl _ _).drew) ?_ ?_ ?_
      · exact fun l hl => ⟨fun hk => (by rw [hl] at hk; cases hk), fun hk => (by rw [hl] at hk; cases hk)⟩
      · intro i o listed a wx ho hn hdep hinv
        have hC := hinv.c
        have hI := hinv.i
        have hi : i < 4 := (Array.getElem?_eq_some_iff.1 ho).1
        obtain rfl | rfl | rfl | rfl : i = 0 ∨ i = 1 ∨ i = 2 ∨ i = 3 := by omega
        all_goals obtain rfl := Option.some.inj ho
        · exact duty_value ((fun _ _ => NumStep.refl _ _)) hC (wanted_free rfl) (ex_load_num rfl (hinv.old' 6 (by kernel_rfl)) hC.o) rfl (⟨DoneAt.pre (hinv.aheadT 3 (by kernel_rfl) hn (by decide) (by decide)), DoneAt.pre (hinv.aheadT 3 (by kernel_rfl) hn (by decide) (by decide))⟩)
        · exact duty_value ((fun _ _ => NumStep.refl _ _)) hC (wanted_free rfl) (ex_load_num rfl (hinv.old' 7 (by kernel_rfl)) hC.t) rfl (⟨DoneAt.keep hI.1 (by rw [hinv.size]; decide) (by decide) (fun h => h), DoneAt.pre (hinv.aheadT 3 (by kernel_rfl) hn (by decide) (by decide))⟩)
        · obtain ⟨cs, hh, hsz⟩ := hC.r
          have he : a.eval (.tmp 4) = .pointer (some ⟨R, 0, none⟩) := hinv.old' 4 (by kernel_rfl)
          exact duty_store (wanted_free rfl) (ex_store_num rfl he (hinv.got 0 _ 45 rfl (hdep ⟨0, .data⟩ (by simp) rfl) rfl) hh hsz) (hC.putR HD.out _) (NumStep.row hh) trivial ⟨fun _ => hh.row _, DoneAt.pre (hinv.aheadT 3 (by kernel_rfl) hn (by decide) (by decide))⟩
        · obtain ⟨cs, hh, hsz⟩ := hC.s
          have he : a.eval (.tmp 5) = .pointer (some ⟨S, 0, none⟩) := hinv.old' 5 (by kernel_rfl)
          exact duty_store (wanted_free rfl) (ex_store_num rfl he (hinv.got 1 _ 46 rfl (hdep ⟨1, .data⟩ (by simp) rfl) rfl) hh hsz) (hC.putS HD.out _) (NumStep.row hh) trivial ⟨DoneAt.keep hI.1 (by rw [hinv.size]; decide) (by decide) (fun h => h.otherRow _ _ (by have := HD.out; unfold Apart at this; omega)), fun _ => hh.row _⟩
      · intro listed act wx hall hinv
        have hr := hinv.i.1 (hall 2 (by decide))
        have hsr := hinv.i.2 (hall 3 (by decide))
        have e4 : act.eval (.tmp 4) = .pointer (some ⟨R, 0, none⟩) := hinv.old' 4 (by kernel_rfl)
        have e5 : act.eval (.tmp 5) = .pointer (some ⟨S, 0, none⟩) := hinv.old' 5 (by kernel_rfl)
        have hbel := hinv.c.below
        have hdf := hinv.defers
        obtain ⟨tm, df⟩ := act
        obtain rfl : df = [] := hdf
        clear hinv hall
        go_wp2_with fail
        refine bodyPost_ret (v := .tuple #[.agg (numC out), .agg (numC rest)]) (num_results_cc Try.results32 _ _ _ _ _ e4 e5 hr hsr) rfl ⟨?_, hbel⟩
        obtain ⟨q1, q2⟩ := HQ.out.done
        rw [q1, q2]
end Go.Proofs.Ytlljemggalmcdaa
