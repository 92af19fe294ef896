import Derived.Test.YtlednkbnhnjgcaaQuoMem
import Derived.Test.YtlednkbnhnjgcaaLawBack
import Derived.Test.YtlednkbnhnjgcaaRefMove
namespace Go.Proofs.Ytlednkbnhnjgcaa
open Go.RowKit Rg2
theorem Has.newz1 {w : World} (o : Obj) (t : TypeId) : Has ((w.alloc o).alloc (.cells #[.int .u64 0, .int .u64 0, .int .u64 0, .int .u64 0] t)) (w.heap.size + 1) (numC 0) t := Has.new1 o (numC 0) t
theorem Qs.rowNew {w wr : World} {A B R S O T a b out rest : Nat} (h : Qs w wr A B R S O T a b out rest) {w0 : World} (hd : Apart w0 A B R S O T) (hT : T < w.heap.size) {g : Nat} (hg : w.heap.size ≤ g) (cs : Array Value) : Qs w (wr.setRow g cs) A B R S O T a b out rest := by
  obtain ⟨_, d2, d3, d4, d5, d6⟩ := hd
  exact ⟨below_setRow h.below hg _, h.a.otherRow _ _ (by omega), h.b.otherRow _ _ (by omega), let ⟨cs, h1, h2⟩ := h.r; ⟨cs, h1.otherRow _ _ (by omega), h2⟩, let ⟨cs, h1, h2⟩ := h.s; ⟨cs, h1.otherRow _ _ (by omega), h2⟩, h.o.otherRow _ _ (by omega), h.t.otherRow _ _ (by omega)⟩
theorem Qs.base {w wr w' : World} {A B R S O T a b out rest : Nat} (h : Qs w wr A B R S O T a b out rest) (h' : Qs wr w' A B R S O T a b out rest) : Qs w w' A B R S O T a b out rest :=
  ⟨h.below.trans (h'.below.mono h.below.size), h'.a, h'.b, h'.r, h'.s, h'.o, h'.t⟩
theorem Qs.own {w wr : World} {A B R S O T a b out rest : Nat} (h : Qs w wr A B R S O T a b out rest) : Qs wr wr A B R S O T a b out rest := ⟨Below.refl _ _, h.a, h.b, h.r, h.s, h.o, h.t⟩
def quoTab (b k rest d s : Nat) (c : Bool) : Nat → Slot
  | 0 => .val (.agg (numC rest)) | 1 => .val (.agg (numC b)) | 2 => .val (.int .i64 (k : Int)) | 3 => .val (.agg (numC d)) | 4 => .val (.tuple #[.agg (numC s), .bool c]) | 5 => .val (.tuple #[.agg (numC s), .bool c])
  | 6 => .val (.agg (numC s)) | 7 => .val (.bool c) | 8 => .ptr | 9 => .any | _ => .val (.bool c)
set_option maxRecDepth 100000 in
set_option maxHeartbeats 400000 in
theorem quo_zero (a : Nat) (w : World) :
    Calls Try.prog 17 #[.agg (numC a), .agg (numC 0)] w fun e w' => e = .returned (.tuple #[.agg (numC 0), .agg (numC 0)]) ∧ Below w.heap.size w w' := by
  have cZero := fun w => zero 0 (by decide) w
  have KZero := Lib.hid cZero
  clear cZero
  go_enter Try.func17, Try.ntmps17
  go_upto_region 1 with fail
  generalize hw1 : World.alloc _ _ = w1
  have hbel : Below w.heap.size w w1 := by rw [← hw1]; exact ((((Below.refl _ _).alloc (Nat.le_refl _) _).alloc (by simp) _).alloc (by simp; omega) _).alloc (by simp; omega) _
  have hB : Has w1 (w.heap.size + 1) (numC 0) 24 := by rw [← hw1]; exact ((Has.new1 _ _ _).alloc _).alloc _
  have hR : Has w1 (w.heap.size + 1 + 1) (numC 0) 24 := by rw [← hw1]; exact (Has.new2 _ _ (numC 0) _).alloc _
  have hS : Has w1 (w.heap.size + 1 + 1 + 1) (numC 0) 24 := by rw [← hw1]; exact Has.new3 _ _ _ (numC 0) _
  clear hw1
  go_wp2_with (with_reducible refine num_load rfl _ rfl _ rfl _ hB rfl ?_)
  refine (KZero.out _).mono ?_
  rintro e v1 ⟨rfl, hb1⟩
  have hR2 := hR.on hb1
  have hS2 := hS.on hb1
  have hbel2 := hbel.trans (hb1.mono hbel.size)
  clear hB hR hS hbel hb1
  have hS3 := hS2.otherRow (w.heap.size + 1 + 1) (numC 0) (by omega)
  go_wp2_with (first
    | (with_reducible refine num_store_eq rfl _ _ rfl _ 0 _ rfl rfl zero4 _ hR2 rfl ?_)
    | (with_reducible refine num_store_eq rfl _ _ rfl _ 0 _ rfl rfl zero4 _ hS3 rfl ?_))
  exact bodyPost_ret (v := .tuple #[.agg (numC 0), .agg (numC 0)]) (num_results_cc Try.results17 _ _ _ _ _ rfl rfl ((hR2.row _).otherRow _ _ (by omega)) (hS3.row _)) rfl ⟨rfl, below_setRow (below_setRow hbel2 (by omega) _) (by omega) _⟩
set_option maxRecDepth 100000 in
set_option maxHeartbeats 2000000 in
theorem quo_pos (a b : Nat) (ha : a < Nm.big) (hb : b < Nm.big) (hb0 : 0 < b) (w : World) :
    Calls Try.prog 17 #[.agg (numC a), .agg (numC b)] w fun e w' => e = .returned (.tuple #[.agg (numC (a / b)), .agg (numC (a % b))]) ∧ Below w.heap.size w w' := by
  have cZero := fun w => zero b hb w
  rw [show decide (b = 0) = false by simp; omega] at cZero
  have cLa := fun w => len a ha w
  have cLb := fun w => len b hb w
  obtain ⟨la, hla⟩ : ∃ l, l = Nm.len a := ⟨_, rfl⟩
  obtain ⟨lb, hlb⟩ : ∃ l, l = Nm.len b := ⟨_, rfl⟩
  have bla : la ≤ 256 := by rw [hla]; exact Nm.len_le (by rw [← Nm.big_eq]; exact ha)
  have blb : lb ≤ 256 := by rw [hlb]; exact Nm.len_le (by rw [← Nm.big_eq]; exact hb)
  have blb0 : 0 < lb := by
    rcases Nat.eq_zero_or_pos lb with h | h
    · have := (Nm.len_isLen b).1; rw [← hlb, h] at this; simp at this; omega
    · exact h
  have s1 : lb ≤ la → a < b * 2 ^ (la - lb + 1) := fun h => by
    rw [hla, hlb] at *
    rcases Nm.quo_start h with h' | h'
    · exact h'
    · omega
  have s2 : lb ≤ la → ∀ k, k ≤ la - lb → b * 2 ^ k < Nm.big := fun h k hk => by
    rw [hla, hlb] at *
    exact Nm.quo_small ha h hk
  have s3 : la < lb → a < b := fun h => by rw [hla, hlb] at *; exact Nm.quo_less h
  rw [← hla] at cLa
  rw [← hlb] at cLb
  have KZero := Lib.hid cZero
  have KLa := Lib.hid cLa
  have KLb := Lib.hid cLb
  have S1 := Lib.hid s1
  have S2 := Lib.hid s2
  have S3 := Lib.hid s3
  have HA0 := Lib.hid ha
  have HB0 := Lib.hid hb
  have HBP := Lib.hid hb0
  clear cZero cLa cLb hla hlb s1 s2 s3 ha hb hb0
  go_enter Try.func17, Try.ntmps17
  go_upto_region 1 with fail
  generalize hw1 : World.alloc _ _ = w1
  have hbel : Below w.heap.size w w1 := by rw [← hw1]; exact ((((Below.refl _ _).alloc (Nat.le_refl _) _).alloc (by simp) _).alloc (by simp; omega) _).alloc (by simp; omega) _
  have hA : Has w1 w.heap.size (numC a) 24 := by rw [← hw1]; exact (((Has.new _ _).alloc _).alloc _).alloc _
  have hB : Has w1 (w.heap.size + 1) (numC b) 24 := by rw [← hw1]; exact ((Has.new1 _ _ _).alloc _).alloc _
  have hR : Has w1 (w.heap.size + 1 + 1) (numC 0) 24 := by rw [← hw1]; exact (Has.new2 _ _ (numC 0) _).alloc _
  have hS : Has w1 (w.heap.size + 1 + 1 + 1) (numC 0) 24 := by rw [← hw1]; exact Has.new3 _ _ _ (numC 0) _
  clear hw1
  go_wp2_with (with_reducible refine num_load rfl _ rfl _ rfl _ hB rfl ?_)
  refine (KZero.out _).mono ?_
  rintro e v1 ⟨rfl, hb1⟩
  replace hA := hA.on hb1
  replace hB := hB.on hb1
  replace hR := hR.on hb1
  replace hS := hS.on hb1
  replace hbel := hbel.trans (hb1.mono hbel.size)
  clear hb1
  have hSl := hS.lt
  go_wp2_with (first
    | (with_reducible refine num_load rfl _ rfl _ rfl _ (hA.alloc _) rfl ?_)
    | (with_reducible refine num_store rfl _ _ rfl _ _ rfl rfl _ (Has.newz1 _ _) rfl ?_))
  generalize hw2 : World.setRow _ _ _ = w2
  have h0 : Qs w w2 w.heap.size (w.heap.size + 1) (w.heap.size + 1 + 1) (w.heap.size + 1 + 1 + 1) v1.heap.size (v1.heap.size + 1) a b 0 a := by
    rw [← hw2]
    exact ⟨below_setRow ((hbel.alloc hbel.size _).alloc (by simp; omega) _) (by omega) _, ((hA.alloc _).alloc _).otherRow _ _ (by omega), ((hB.alloc _).alloc _).otherRow _ _ (by omega), ⟨_, ((hR.alloc _).alloc _).otherRow _ _ (by omega), rfl⟩, ⟨_, ((hS.alloc _).alloc _).otherRow _ _ (by omega), rfl⟩, ((Has.newz _).alloc _).otherRow _ _ (by omega), (Has.newz1 _ _).row _⟩
  have hd : Apart w w.heap.size (w.heap.size + 1) (w.heap.size + 1 + 1) (w.heap.size + 1 + 1 + 1) v1.heap.size (v1.heap.size + 1) := ⟨Nat.le_refl _, by omega, by omega, by omega, by omega, by omega⟩
  have HD := Lib.hid hd
  clear hw2 hA hB hR hS hbel hSl hd
  generalize v1.heap.size + 1 = T at *
  generalize v1.heap.size = O at *
  generalize w.heap.size + 1 + 1 + 1 = S at *
  generalize w.heap.size + 1 + 1 = R at *
  generalize w.heap.size + 1 = B at *
  generalize hA0 : w.heap.size = A at h0 HD ⊢
  have HAA := Lib.hid hA0
  clear hA0
  simp only [Act.put]
  refine wp_region_quiet_below (by kernel_rfl) (by kernel_rfl) ?_
  repeat (first
    | (go_big_quiet_want; (with_reducible refine quiet_load_num _ rfl _ rfl _ h0.a.cls ?_); (simp only [Act.put, List.setIfInBounds_toArray, List.set_cons_zero, List.set_cons_succ]); go_big_quiet_on)
    | (go_big_quiet_want; (with_reducible refine quiet_load_num _ rfl _ rfl _ h0.b.cls ?_); (simp only [Act.put, List.setIfInBounds_toArray, List.set_cons_zero, List.set_cons_succ]); go_big_quiet_on)
    | go_big_quiet_step (first | (go_at_call 24; (with_reducible exact Calls.regrown_of (KLa.out _))) | (go_at_call 24; (with_reducible exact Calls.regrown_of (KLb.out _)))))
  refine wpQuiet_nil ?_
  intro _ hw'
  obtain ⟨p, hw''⟩ := hw'
  subst hw''
  replace h0 := h0.on (below_regrown w2 p.d p.os)
  generalize Sort.grow (redrawn w2 p.d) p.os = w3 at *
  clear p
  go_wp2_with fail
  have hst : (∃ k : Nat, k ≤ 255 ∧ (la : Int) - (lb : Int) = (k : Int) ∧ Hid (Nm.QI a b (k + 1) 0 a) ∧ Hid (∀ j, j ≤ k → b * 2 ^ j < Nm.big)) ∨ (∃ z : Int, z < 0 ∧ (la : Int) - (lb : Int) = z ∧ Hid (Nm.QI a b 0 0 a)) := by
    by_cases hl : lb ≤ la
    · exact .inl ⟨la - lb, by omega, by omega, Lib.hid (Nm.QI.start _ (S1.out hl)), Lib.hid (S2.out hl)⟩
    · exact .inr ⟨(la : Int) - (lb : Int), by omega, rfl, Lib.hid (Nm.QI.start 0 (by have := S3.out (by omega); simpa using this))⟩
  have HST := Lib.hid hst
  clear hst bla blb blb0 S1 S2 S3 KLa KLb KZero
  go_loopw [8] (fun i wr => ∃ out rest : Nat, Qs w wr A B R S O T a b out rest ∧ ((∃ k : Nat, k ≤ 255 ∧ i = .int .i64 k ∧ Hid (Nm.QI a b (k + 1) out rest) ∧ Hid (∀ j, j ≤ k → b * 2 ^ j < Nm.big)) ∨ (∃ z : Int, z < 0 ∧ i = .int .i64 z ∧ Hid (Nm.QI a b 0 out rest)))) (fun i _ => (intOf i + 1).toNat)
  case atStart =>
    rcases HST.out with ⟨k, h1, h2, h3, h4⟩ | ⟨z, h1, h2, h3⟩
    · exact ⟨_, _, h0, .inl ⟨k, h1, congrArg (Value.int .i64) h2, h3, h4⟩⟩
    · exact ⟨_, _, h0, .inr ⟨z, h1, congrArg (Value.int .i64) h2, h3⟩⟩
  case round =>
    clear HST h0
    obtain ⟨out, rest, hs, ⟨k, hk, rfl, HQ, HK⟩ | ⟨z, hz, rfl, HQ⟩⟩ := hrel
    · obtain ⟨d, hdd⟩ : ∃ d, d = b * 2 ^ k := ⟨_, rfl⟩
      have hdl : d < Nm.big := by rw [hdd]; exact HK.out k (Nat.le_refl _)
      have hrl : rest < Nm.big := Nat.lt_of_le_of_lt HQ.out.rest_le HA0.out
      have cUp := fun w => up_any b k HB0.out hk w
      rw [Nm.up_small (HK.out k (Nat.le_refl _)), ← hdd] at cUp
      have cSub := fun w => sub rest d hrl hdl w
      obtain ⟨s, hsd⟩ : ∃ s, s = (rest + Nm.big - d) % Nm.big := ⟨_, rfl⟩
      rw [← hsd] at cSub
      have hT : T < wr.heap.size := hs.t.lt
      have KUp := Lib.hid cUp
      have hown := hs.own
      by_cases htake : d ≤ rest
      · have hs2 : s = rest - d := by rw [hsd]; exact sub_mod hrl htake
        rw [show decide (rest < d) = false by simp; omega] at cSub
        have KSub := Lib.hid cSub
        have hq := HQ.out.take (by rw [← hdd]; exact htake)
        rw [← hdd, ← hs2] at hq
        have HQN := Lib.hid hq
        clear cUp cSub hsd hs2 hq htake hdl hrl hdd
        go_wp2_with fail
        refine Rg2.wp_region_inv (by kernel_rfl) (fun w' => Qs wr w' A B R S O T a b out rest) (fun i v w' => (quoTab b k rest d s false i).holds wr.heap.size v w') (Done 9 9 wr.heap.size s) (NumStep wr.heap.size) (fun _ _ => NumStep.refl _ _) (fun _ _ _ _ _ hs h => Slot.stays _ _ _ _ hs h) (by kernel_rfl) (hown.on (Below.refl _ _).drew) ?_ ?_ ?_
        · exact fun l hl => fun hk => by rw [hl] at hk; cases hk
        · intro i o listed a wx ho hn hdep hinv
          have hC := hinv.c
          have hI := hinv.i
          have hi : i < 11 := (Array.getElem?_eq_some_iff.1 ho).1
          obtain rfl | rfl | rfl | rfl | rfl | rfl | rfl | rfl | rfl | rfl | rfl : i = 0 ∨ i = 1 ∨ i = 2 ∨ i = 3 ∨ i = 4 ∨ i = 5 ∨ i = 6 ∨ i = 7 ∨ i = 8 ∨ i = 9 ∨ i = 10 := by omega
          all_goals obtain rfl := Option.some.inj ho
          · exact duty_value ((fun _ _ => NumStep.refl _ _)) hC (wanted_free rfl) (ex_load_num rfl (hinv.old' 7 (by kernel_rfl)) hC.t) rfl (Done.pre (hinv.aheadT 3 (by kernel_rfl) hn (by decide) (by decide)))
          · exact duty_value ((fun _ _ => NumStep.refl _ _)) hC (wanted_free rfl) (ex_load_num rfl (hinv.old' 3 (by kernel_rfl)) hC.b) rfl (Done.pre (hinv.aheadT 3 (by kernel_rfl) hn (by decide) (by decide)))
          · exact duty_value ((fun _ _ => NumStep.refl _ _)) hC (wanted_free rfl) (ex_move rfl) (hinv.old' 8 (by kernel_rfl)) (Done.pre (hinv.aheadT 3 (by kernel_rfl) hn (by decide) (by decide)))
          · have e27 := hinv.got 1 _ 27 rfl (hdep ⟨1, .data⟩ (by simp) rfl) rfl; have e28 := hinv.got 2 _ 28 rfl (hdep ⟨2, .data⟩ (by simp) rfl) rfl
            exact duty_call (wanted_free rfl) (f := 26) (args := #[a.eval (.tmp 27), a.eval (.tmp 28)]) (by kernel_rfl) (by rw [show a.eval (.tmp 27) = _ from e27]; rw [show a.eval (.tmp 28) = _ from e28];  exact KUp.out wx) (fun w' hb => ⟨hC.on hb, NumStep.below hb, rfl, Done.pre (hinv.aheadT 3 (by kernel_rfl) hn (by decide) (by decide))⟩)
          · have e26 := hinv.got 0 _ 26 rfl (hdep ⟨0, .data⟩ (by simp) rfl) rfl; have e29 := hinv.got 3 _ 29 rfl (hdep ⟨3, .data⟩ (by simp) rfl) rfl
            exact duty_call (wanted_free rfl) (f := 25) (args := #[a.eval (.tmp 26), a.eval (.tmp 29)]) (by kernel_rfl) (by rw [show a.eval (.tmp 26) = _ from e26]; rw [show a.eval (.tmp 29) = _ from e29];  exact KSub.out wx) (fun w' hb => ⟨hC.on hb, NumStep.below hb, rfl, Done.pre (hinv.aheadT 3 (by kernel_rfl) hn (by decide) (by decide))⟩)
          · exact duty_value ((fun _ _ => NumStep.refl _ _)) hC (wanted_free rfl) (ex_move rfl) (hinv.got 4 _ 30 rfl (hdep ⟨4, .data⟩ (by simp) rfl) rfl) (Done.pre (hinv.aheadT 3 (by kernel_rfl) hn (by decide) (by decide)))
          · exact duty_value ((fun _ _ => NumStep.refl _ _)) hC (wanted_free rfl) (ex_extract rfl (hinv.got 5 _ 25 rfl (hdep ⟨5, .data⟩ (by simp) rfl) rfl) rfl) rfl (Done.pre (hinv.aheadT 3 (by kernel_rfl) hn (by decide) (by decide)))
          · exact duty_value ((fun _ _ => NumStep.refl _ _)) hC (wanted_free rfl) (ex_extract rfl (hinv.got 5 _ 25 rfl (hdep ⟨5, .data⟩ (by simp) rfl) rfl) rfl) rfl (Done.keep hI (by rw [hinv.size]; decide) (by decide) (by decide) fun _ h => h)
          · have hbel : Below wx.heap.size wx (wx.alloc (.cells (numC 0) 24)) := (Below.refl _ _).alloc (Nat.le_refl _) _
            exact duty_made (wanted_free rfl) (ex_alloc_num rfl) (hC.on hbel) (NumStep.below hbel) ⟨wx.heap.size, numC 0, hC.below.size, rfl, Has.new _ _, rfl⟩ (Done.pre (hinv.aheadT 3 (by kernel_rfl) hn (by decide) (by decide)))
          · obtain ⟨b, cs, hb, he, hh, hsz⟩ : Slot.ptr.holds wr.heap.size (a.eval (.tmp 9)) wx := hinv.got 8 _ 9 rfl (hdep ⟨8, .data⟩ (by simp) rfl) rfl
            exact duty_store (wanted_free rfl) (ex_store_num rfl he (hinv.got 6 _ 31 rfl (hdep ⟨6, .data⟩ (by simp) rfl) rfl) hh hsz) (hC.rowNew HD.out hT hb _) (NumStep.row hh) trivial (fun _ => ⟨b, hb, he, hh.row _⟩)
          · exact duty_value ((fun _ _ => NumStep.refl _ _)) hC (wanted_free rfl) (ex_assign rfl) (hinv.got 7 _ 32 rfl (hdep ⟨7, .data⟩ (by simp) rfl) rfl) (Done.keep hI (by rw [hinv.size]; decide) (by decide) (by decide) fun _ h => h)
        · intro listed act wx hall hinv
          obtain ⟨bN, hbN, e9, hN⟩ := hinv.i (hall 9 (by decide))
          have hC := hs.base hinv.c
          have hTb : T < bN := by omega
          obtain ⟨u, hu⟩ : ∃ u : Nat → Value, ∀ t, u t = act.eval (.tmp t) := ⟨_, fun _ => rfl⟩
          rw [frame_quo act 47 u hinv.tsize hinv.defers hu]
          have f0 := hinv.old' 0 (by kernel_rfl)
          have f1 := hinv.old' 1 (by kernel_rfl)
          have f2 := hinv.old' 2 (by kernel_rfl)
          have f3 := hinv.old' 3 (by kernel_rfl)
          have f4 := hinv.old' 4 (by kernel_rfl)
          have f5 := hinv.old' 5 (by kernel_rfl)
          have f6 := hinv.old' 6 (by kernel_rfl)
          have f7 := hinv.old' 7 (by kernel_rfl)
          have f8 := hinv.old' 8 (by kernel_rfl)
          have f11 := hinv.old' 11 (by kernel_rfl)
          have f12 := hinv.old' 12 (by kernel_rfl)
          have f13 := hinv.old' 13 (by kernel_rfl)
          have f14 := hinv.old' 14 (by kernel_rfl)
          have f15 := hinv.old' 15 (by kernel_rfl)
          have f16 := hinv.old' 16 (by kernel_rfl)
          have f17 := hinv.old' 17 (by kernel_rfl)
          have f18 := hinv.old' 18 (by kernel_rfl)
          have f19 := hinv.old' 19 (by kernel_rfl)
          have f20 := hinv.old' 20 (by kernel_rfl)
          have f21 := hinv.old' 21 (by kernel_rfl)
          have f22 := hinv.old' 22 (by kernel_rfl)
          have f23 := hinv.old' 23 (by kernel_rfl)
          have f24 := hinv.old' 24 (by kernel_rfl)
          have f33 := hinv.old' 33 (by kernel_rfl)
          have f34 := hinv.old' 34 (by kernel_rfl)
          have f35 := hinv.old' 35 (by kernel_rfl)
          have f36 := hinv.old' 36 (by kernel_rfl)
          have f37 := hinv.old' 37 (by kernel_rfl)
          have f38 := hinv.old' 38 (by kernel_rfl)
          have f39 := hinv.old' 39 (by kernel_rfl)
          have f40 := hinv.old' 40 (by kernel_rfl)
          have f41 := hinv.old' 41 (by kernel_rfl)
          have f42 := hinv.old' 42 (by kernel_rfl)
          have f43 := hinv.old' 43 (by kernel_rfl)
          have f44 := hinv.old' 44 (by kernel_rfl)
          have f45 := hinv.old' 45 (by kernel_rfl)
          have f46 := hinv.old' 46 (by kernel_rfl)
          have f9 := e9
          have f10 := (hinv.got 10 _ 10 rfl (hall 10 (by decide)) rfl : act.eval (.tmp 10) = .bool false)
          simp only [← hu] at f0 f1 f2 f3 f4 f5 f6 f7 f8 f9 f10 f11 f12 f13 f14 f15 f16 f17 f18 f19 f20 f21 f22 f23 f24 f33 f34 f35 f36 f37 f38 f39 f40 f41 f42 f43 f44 f45 f46
          simp [Act.eval] at f0 f1 f2 f3 f4 f5 f6 f7 f8 f11 f12 f13 f14 f15 f16 f17 f18 f19 f20 f21 f22 f23 f24 f33 f34 f35 f36 f37 f38 f39 f40 f41 f42 f43 f44 f45 f46
          clear hu hinv hall
          show Exit.then _ _ _ (⟨#[u 0, u 1, u 2, u 3, u 4, u 5, u 6, u 7, u 8, u 9, u 10, u 11, u 12, u 13, u 14, u 15, u 16, u 17, u 18, u 19, u 20, u 21, u 22, u 23, u 24, u 25, u 26, u 27, u 28, u 29, u 30, u 31, u 32, u 33, u 34, u 35, u 36, u 37, u 38, u 39, u 40, u 41, u 42, u 43, u 44, u 45, u 46], []⟩ : Act) _
          rw [f0, f1, f2, f3, f4, f5, f6, f7, f8, f9, f10, f11, f12, f13, f14, f15, f16, f17, f18, f19, f20, f21, f22, f23, f24, f33, f34, f35, f36, f37, f38, f39, f40, f41, f42, f43, f44, f45, f46]
          clear f0 f1 f2 f3 f4 f5 f6 f7 f8 f9 f10 f11 f12 f13 f14 f15 f16 f17 f18 f19 f20 f21 f22 f23 f24 f33 f34 f35 f36 f37 f38 f39 f40 f41 f42 f43 f44 f45 f46
          clear hs hown hT hbN
          go_wp2_with (first
            | (with_reducible refine num_load rfl _ rfl _ rfl _ hN rfl ?_)
            | (with_reducible refine num_store rfl _ _ rfl _ _ rfl rfl _ hC.t rfl ?_))
          simp only [Act.put, List.setIfInBounds_toArray, List.set_cons_zero, List.set_cons_succ]
          have hP := hC.putT HD.out s
          clear hN hC hTb
          generalize World.setRow _ _ _ = w5 at *
          have c1 := hP.o.num (j := k / 64) (by omega)
          have fo := hP.o.free (k / 64)
          go_region
          have h5 := hP.setO HD.out (k / 64) _ (out ||| 2 ^ k) (numC_or out k (by omega))
          clear c1 fo hP
          generalize World.drew _ = w6 at *
          go_wp2_with fail
          go_roundw
          case rel =>
            refine ⟨_, _, h5, ?_⟩
            by_cases hk0 : k = 0
            · subst hk0
              exact .inr ⟨-1, by omega, rfl, HQN⟩
            · exact .inl ⟨k - 1, by omega, congrArg (Value.int .i64) (by omega), by rw [show k - 1 + 1 = k by omega]; exact HQN, Lib.hid fun j hj => HK.out j (by omega)⟩
          case measure => first | (simp [intOf]; done) | (simp [intOf]; omega)
      · rw [show decide (rest < d) = true by simp; omega] at cSub
        have KSub := Lib.hid cSub
        have hq := HQ.out.skip (by rw [← hdd]; omega)
        have HQN := Lib.hid hq
        clear cUp cSub hsd hq htake hdl hrl hdd
        go_wp2_with fail
        refine Rg2.wp_region_inv (by kernel_rfl) (fun w' => Qs wr w' A B R S O T a b out rest) (fun i v w' => (quoTab b k rest d s true i).holds wr.heap.size v w') (Done 9 9 wr.heap.size s) (NumStep wr.heap.size) (fun _ _ => NumStep.refl _ _) (fun _ _ _ _ _ hs h => Slot.stays _ _ _ _ hs h) (by kernel_rfl) (hown.on (Below.refl _ _).drew) ?_ ?_ ?_
        · exact fun l hl => fun hk => by rw [hl] at hk; cases hk
        · intro i o listed a wx ho hn hdep hinv
          have hC := hinv.c
          have hI := hinv.i
          have hi : i < 11 := (Array.getElem?_eq_some_iff.1 ho).1
          obtain rfl | rfl | rfl | rfl | rfl | rfl | rfl | rfl | rfl | rfl | rfl : i = 0 ∨ i = 1 ∨ i = 2 ∨ i = 3 ∨ i = 4 ∨ i = 5 ∨ i = 6 ∨ i = 7 ∨ i = 8 ∨ i = 9 ∨ i = 10 := by omega
          all_goals obtain rfl := Option.some.inj ho
          · exact duty_value ((fun _ _ => NumStep.refl _ _)) hC (wanted_free rfl) (ex_load_num rfl (hinv.old' 7 (by kernel_rfl)) hC.t) rfl (Done.pre (hinv.aheadT 3 (by kernel_rfl) hn (by decide) (by decide)))
          · exact duty_value ((fun _ _ => NumStep.refl _ _)) hC (wanted_free rfl) (ex_load_num rfl (hinv.old' 3 (by kernel_rfl)) hC.b) rfl (Done.pre (hinv.aheadT 3 (by kernel_rfl) hn (by decide) (by decide)))
          · exact duty_value ((fun _ _ => NumStep.refl _ _)) hC (wanted_free rfl) (ex_move rfl) (hinv.old' 8 (by kernel_rfl)) (Done.pre (hinv.aheadT 3 (by kernel_rfl) hn (by decide) (by decide)))
          · have e27 := hinv.got 1 _ 27 rfl (hdep ⟨1, .data⟩ (by simp) rfl) rfl; have e28 := hinv.got 2 _ 28 rfl (hdep ⟨2, .data⟩ (by simp) rfl) rfl
            exact duty_call (wanted_free rfl) (f := 26) (args := #[a.eval (.tmp 27), a.eval (.tmp 28)]) (by kernel_rfl) (by rw [show a.eval (.tmp 27) = _ from e27]; rw [show a.eval (.tmp 28) = _ from e28];  exact KUp.out wx) (fun w' hb => ⟨hC.on hb, NumStep.below hb, rfl, Done.pre (hinv.aheadT 3 (by kernel_rfl) hn (by decide) (by decide))⟩)
          · have e26 := hinv.got 0 _ 26 rfl (hdep ⟨0, .data⟩ (by simp) rfl) rfl; have e29 := hinv.got 3 _ 29 rfl (hdep ⟨3, .data⟩ (by simp) rfl) rfl
            exact duty_call (wanted_free rfl) (f := 25) (args := #[a.eval (.tmp 26), a.eval (.tmp 29)]) (by kernel_rfl) (by rw [show a.eval (.tmp 26) = _ from e26]; rw [show a.eval (.tmp 29) = _ from e29];  exact KSub.out wx) (fun w' hb => ⟨hC.on hb, NumStep.below hb, rfl, Done.pre (hinv.aheadT 3 (by kernel_rfl) hn (by decide) (by decide))⟩)
          · exact duty_value ((fun _ _ => NumStep.refl _ _)) hC (wanted_free rfl) (ex_move rfl) (hinv.got 4 _ 30 rfl (hdep ⟨4, .data⟩ (by simp) rfl) rfl) (Done.pre (hinv.aheadT 3 (by kernel_rfl) hn (by decide) (by decide)))
          · exact duty_value ((fun _ _ => NumStep.refl _ _)) hC (wanted_free rfl) (ex_extract rfl (hinv.got 5 _ 25 rfl (hdep ⟨5, .data⟩ (by simp) rfl) rfl) rfl) rfl (Done.pre (hinv.aheadT 3 (by kernel_rfl) hn (by decide) (by decide)))
          · exact duty_value ((fun _ _ => NumStep.refl _ _)) hC (wanted_free rfl) (ex_extract rfl (hinv.got 5 _ 25 rfl (hdep ⟨5, .data⟩ (by simp) rfl) rfl) rfl) rfl (Done.keep hI (by rw [hinv.size]; decide) (by decide) (by decide) fun _ h => h)
          · have hbel : Below wx.heap.size wx (wx.alloc (.cells (numC 0) 24)) := (Below.refl _ _).alloc (Nat.le_refl _) _
            exact duty_made (wanted_free rfl) (ex_alloc_num rfl) (hC.on hbel) (NumStep.below hbel) ⟨wx.heap.size, numC 0, hC.below.size, rfl, Has.new _ _, rfl⟩ (Done.pre (hinv.aheadT 3 (by kernel_rfl) hn (by decide) (by decide)))
          · obtain ⟨b, cs, hb, he, hh, hsz⟩ : Slot.ptr.holds wr.heap.size (a.eval (.tmp 9)) wx := hinv.got 8 _ 9 rfl (hdep ⟨8, .data⟩ (by simp) rfl) rfl
            exact duty_store (wanted_free rfl) (ex_store_num rfl he (hinv.got 6 _ 31 rfl (hdep ⟨6, .data⟩ (by simp) rfl) rfl) hh hsz) (hC.rowNew HD.out hT hb _) (NumStep.row hh) trivial (fun _ => ⟨b, hb, he, hh.row _⟩)
          · exact duty_value ((fun _ _ => NumStep.refl _ _)) hC (wanted_free rfl) (ex_assign rfl) (hinv.got 7 _ 32 rfl (hdep ⟨7, .data⟩ (by simp) rfl) rfl) (Done.keep hI (by rw [hinv.size]; decide) (by decide) (by decide) fun _ h => h)
        · intro listed act wx hall hinv
          obtain ⟨bN, hbN, e9, hN⟩ := hinv.i (hall 9 (by decide))
          have hC := hs.base hinv.c
          obtain ⟨u, hu⟩ : ∃ u : Nat → Value, ∀ t, u t = act.eval (.tmp t) := ⟨_, fun _ => rfl⟩
          rw [frame_quo act 47 u hinv.tsize hinv.defers hu]
          have f0 := hinv.old' 0 (by kernel_rfl)
          have f1 := hinv.old' 1 (by kernel_rfl)
          have f2 := hinv.old' 2 (by kernel_rfl)
          have f3 := hinv.old' 3 (by kernel_rfl)
          have f4 := hinv.old' 4 (by kernel_rfl)
          have f5 := hinv.old' 5 (by kernel_rfl)
          have f6 := hinv.old' 6 (by kernel_rfl)
          have f7 := hinv.old' 7 (by kernel_rfl)
          have f8 := hinv.old' 8 (by kernel_rfl)
          have f11 := hinv.old' 11 (by kernel_rfl)
          have f12 := hinv.old' 12 (by kernel_rfl)
          have f13 := hinv.old' 13 (by kernel_rfl)
          have f14 := hinv.old' 14 (by kernel_rfl)
          have f15 := hinv.old' 15 (by kernel_rfl)
          have f16 := hinv.old' 16 (by kernel_rfl)
          have f17 := hinv.old' 17 (by kernel_rfl)
          have f18 := hinv.old' 18 (by kernel_rfl)
          have f19 := hinv.old' 19 (by kernel_rfl)
          have f20 := hinv.old' 20 (by kernel_rfl)
          have f21 := hinv.old' 21 (by kernel_rfl)
          have f22 := hinv.old' 22 (by kernel_rfl)
          have f23 := hinv.old' 23 (by kernel_rfl)
          have f24 := hinv.old' 24 (by kernel_rfl)
          have f33 := hinv.old' 33 (by kernel_rfl)
          have f34 := hinv.old' 34 (by kernel_rfl)
          have f35 := hinv.old' 35 (by kernel_rfl)
          have f36 := hinv.old' 36 (by kernel_rfl)
          have f37 := hinv.old' 37 (by kernel_rfl)
          have f38 := hinv.old' 38 (by kernel_rfl)
          have f39 := hinv.old' 39 (by kernel_rfl)
          have f40 := hinv.old' 40 (by kernel_rfl)
          have f41 := hinv.old' 41 (by kernel_rfl)
          have f42 := hinv.old' 42 (by kernel_rfl)
          have f43 := hinv.old' 43 (by kernel_rfl)
          have f44 := hinv.old' 44 (by kernel_rfl)
          have f45 := hinv.old' 45 (by kernel_rfl)
          have f46 := hinv.old' 46 (by kernel_rfl)
          have f9 := e9
          have f10 := (hinv.got 10 _ 10 rfl (hall 10 (by decide)) rfl : act.eval (.tmp 10) = .bool true)
          simp only [← hu] at f0 f1 f2 f3 f4 f5 f6 f7 f8 f9 f10 f11 f12 f13 f14 f15 f16 f17 f18 f19 f20 f21 f22 f23 f24 f33 f34 f35 f36 f37 f38 f39 f40 f41 f42 f43 f44 f45 f46
          simp [Act.eval] at f0 f1 f2 f3 f4 f5 f6 f7 f8 f11 f12 f13 f14 f15 f16 f17 f18 f19 f20 f21 f22 f23 f24 f33 f34 f35 f36 f37 f38 f39 f40 f41 f42 f43 f44 f45 f46
          clear hu hinv hall
          show Exit.then _ _ _ (⟨#[u 0, u 1, u 2, u 3, u 4, u 5, u 6, u 7, u 8, u 9, u 10, u 11, u 12, u 13, u 14, u 15, u 16, u 17, u 18, u 19, u 20, u 21, u 22, u 23, u 24, u 25, u 26, u 27, u 28, u 29, u 30, u 31, u 32, u 33, u 34, u 35, u 36, u 37, u 38, u 39, u 40, u 41, u 42, u 43, u 44, u 45, u 46], []⟩ : Act) _
          rw [f0, f1, f2, f3, f4, f5, f6, f7, f8, f9, f10, f11, f12, f13, f14, f15, f16, f17, f18, f19, f20, f21, f22, f23, f24, f33, f34, f35, f36, f37, f38, f39, f40, f41, f42, f43, f44, f45, f46]
          clear f0 f1 f2 f3 f4 f5 f6 f7 f8 f9 f10 f11 f12 f13 f14 f15 f16 f17 f18 f19 f20 f21 f22 f23 f24 f33 f34 f35 f36 f37 f38 f39 f40 f41 f42 f43 f44 f45 f46
          clear hs hown hT hbN
          go_wp2_with fail
          go_roundw
          case rel =>
            refine ⟨_, _, hC, ?_⟩
            by_cases hk0 : k = 0
            · subst hk0
              exact .inr ⟨-1, by omega, rfl, HQN⟩
            · exact .inl ⟨k - 1, by omega, congrArg (Value.int .i64) (by omega), by rw [show k - 1 + 1 = k by omega]; exact HQN, Lib.hid fun j hj => HK.out j (by omega)⟩
          case measure => first | (simp [intOf]; done) | (simp [intOf]; omega)
    · go_wp2_with fail
      refine Rg2.wp_region_inv (by kernel_rfl) (fun w' => Qs w w' A B R S O T a b out rest) (fun i v w' => (endTab out rest i).holds w.heap.size v w') (fun l _ w' => DoneAt 2 R out l w' ∧ DoneAt 3 S rest l w') (NumStep w.heap.size) (fun _ _ => NumStep.refl _ _) (fun _ _ _ _ _ hs h => Slot.stays _ _ _ _ hs h) (by kernel_rfl) (hs.on (Below.refl _ _).drew) ?_ ?_ ?_
      · exact fun l hl => ⟨fun hk => (by rw [hl] at hk; cases hk), fun hk => (by rw [hl] at hk; cases hk)⟩
      · intro i o listed a wx ho hn hdep hinv
        have hC := hinv.c
        have hI := hinv.i
        have hi : i < 4 := (Array.getElem?_eq_some_iff.1 ho).1
        obtain rfl | rfl | rfl | rfl : i = 0 ∨ i = 1 ∨ i = 2 ∨ i = 3 := by omega
        all_goals obtain rfl := Option.some.inj ho
        · exact duty_value ((fun _ _ => NumStep.refl _ _)) hC (wanted_free rfl) (ex_load_num rfl (hinv.old' 6 (by kernel_rfl)) hC.o) rfl (⟨DoneAt.pre (hinv.aheadT 3 (by kernel_rfl) hn (by decide) (by decide)), DoneAt.pre (hinv.aheadT 3 (by kernel_rfl) hn (by decide) (by decide))⟩)
        · exact duty_value ((fun _ _ => NumStep.refl _ _)) hC (wanted_free rfl) (ex_load_num rfl (hinv.old' 7 (by kernel_rfl)) hC.t) rfl (⟨DoneAt.keep hI.1 (by rw [hinv.size]; decide) (by decide) (fun h => h), DoneAt.pre (hinv.aheadT 3 (by kernel_rfl) hn (by decide) (by decide))⟩)
        · obtain ⟨cs, hh, hsz⟩ := hC.r
          have he : a.eval (.tmp 4) = .pointer (some ⟨R, 0, none⟩) := hinv.old' 4 (by kernel_rfl)
          exact duty_store (wanted_free rfl) (ex_store_num rfl he (hinv.got 0 _ 45 rfl (hdep ⟨0, .data⟩ (by simp) rfl) rfl) hh hsz) (hC.putR HD.out _) (NumStep.row hh) trivial ⟨fun _ => hh.row _, DoneAt.pre (hinv.aheadT 3 (by kernel_rfl) hn (by decide) (by decide))⟩
        · obtain ⟨cs, hh, hsz⟩ := hC.s
          have he : a.eval (.tmp 5) = .pointer (some ⟨S, 0, none⟩) := hinv.old' 5 (by kernel_rfl)
          exact duty_store (wanted_free rfl) (ex_store_num rfl he (hinv.got 1 _ 46 rfl (hdep ⟨1, .data⟩ (by simp) rfl) rfl) hh hsz) (hC.putS HD.out _) (NumStep.row hh) trivial ⟨DoneAt.keep hI.1 (by rw [hinv.size]; decide) (by decide) (fun h => h.otherRow _ _ (by have := HD.out; unfold Apart at this; omega)), fun _ => hh.row _⟩
      · intro listed act wx hall hinv
        have hr := hinv.i.1 (hall 2 (by decide))
        have hsr := hinv.i.2 (hall 3 (by decide))
        have e4 : act.eval (.tmp 4) = .pointer (some ⟨R, 0, none⟩) := hinv.old' 4 (by kernel_rfl)
        have e5 : act.eval (.tmp 5) = .pointer (some ⟨S, 0, none⟩) := hinv.old' 5 (by kernel_rfl)
        have hbel := hinv.c.below
        have hdf := hinv.defers
        obtain ⟨tm, df⟩ := act
        obtain rfl : df = [] := hdf
        clear hinv hall
        go_wp2_with fail
        refine bodyPost_ret (v := .tuple #[.agg (numC out), .agg (numC rest)]) (num_results_cc Try.results17 _ _ _ _ _ e4 e5 hr hsr) rfl ⟨?_, hbel⟩
        obtain ⟨q1, q2⟩ := HQ.out.done
        rw [q1, q2]
end Go.Proofs.Ytlednkbnhnjgcaa
