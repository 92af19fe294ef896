import Derived.Test.YtlljemggalmcdaaRefQuo
namespace Go.Proofs.Ytlljemggalmcdaa
open Go.RowKit Rg2
/-- a number that is read, a result's block, a number that grows -/
structure Ts (w wr : World) (A R O x out : Nat) : Prop where
  below : Below w.heap.size w wr
  a : Has wr A (numC x) 24
  r : Has wr R (numC 0) 24
  o : Has wr O (numC out) 24
section
variable {w wr w' : World} {A R O x out : Nat}
theorem Ts.on (h : Ts w wr A R O x out) (hb : Below wr.heap.size wr w') : Ts w w' A R O x out := ⟨h.below.trans (hb.mono h.below.size), h.a.on hb, h.r.on hb, h.o.on hb⟩
theorem Ts.rowNew (h : Ts w wr A R O x out) (hA : A < w.heap.size) (hR : R < w.heap.size) (hO : O < w.heap.size) {g : Nat} (hg : w.heap.size ≤ g) (cs : Array Value) : Ts w (wr.setRow g cs) A R O x out :=
  ⟨below_setRow h.below hg _, h.a.otherRow _ _ (by omega), h.r.otherRow _ _ (by omega), h.o.otherRow _ _ (by omega)⟩
theorem Ts.base (h : Ts w wr A R O x out) (h' : Ts wr w' A R O x out) : Ts w w' A R O x out := ⟨h.below.trans (h'.below.mono h.below.size), h'.a, h'.r, h'.o⟩
theorem Ts.own (h : Ts w wr A R O x out) : Ts wr wr A R O x out := ⟨Below.refl _ _, h.a, h.r, h.o⟩
theorem Ts.putO (h : Ts w wr A R O x out) (v : Nat) (hA : A ≠ O) (hR : R ≠ O) (hO : w.heap.size ≤ O) : Ts w (wr.setRow O (numC v)) A R O x v := ⟨below_setRow h.below hO _, h.a.otherRow _ _ hA, h.r.otherRow _ _ hR, h.o.row _⟩
end
/-! ### the mathematics -/
theorem times_next (x b i : Nat) : x * (b % 2 ^ (i + 1)) = x * (b % 2 ^ i) + Nm.bit b i * (x * 2 ^ i) := by
  rw [Nm.mod_next, Nat.mul_add, Nat.add_comm, Nat.mul_comm (2 ^ i), ← Nat.mul_assoc, Nat.mul_comm x (Nm.bit b i), Nat.mul_assoc]
theorem times_out {x b i : Nat} (h : Nm.bit b i = 1) : (x * (b % 2 ^ i) % Nm.big + Nm.up x i) % Nm.big = x * (b % 2 ^ (i + 1)) % Nm.big := by
  rw [times_next, h, Nat.one_mul]
  unfold Nm.up
  rw [Nat.shiftLeft_eq, ← Nat.add_mod]
theorem times_over {x b i : Nat} (h : Nm.bit b i = 1) : decide (Nm.big ≤ x * (b % 2 ^ (i + 1))) = (decide (Nm.big ≤ x * (b % 2 ^ i)) || decide (Nm.big ≤ x * (b % 2 ^ i) % Nm.big + Nm.up x i) || !decide (Nm.down (Nm.up x i) i = x)) := by
  rw [times_next, h, Nat.one_mul]
  generalize x * (b % 2 ^ i) = s
  rw [Bool.eq_iff_iff]
  simp only [Bool.or_eq_true, decide_eq_true_eq, Bool.not_eq_true', decide_eq_false_iff_not]
  by_cases hs : Nm.big ≤ s
  · exact ⟨fun _ => .inl (.inl hs), fun _ => by omega⟩
  · rw [Nat.mod_eq_of_lt (by omega)]
    by_cases hx : x * 2 ^ i < Nm.big
    · rw [Nm.up_small hx, ← Nm.up_small hx, Nm.back_small hx, Nm.up_small hx]
      constructor
      · intro h; exact .inl (.inr h)
      · rintro ((h | h) | h)
        · exact absurd h hs
        · exact h
        · exact absurd rfl h
    · exact ⟨fun _ => .inr (Nm.back_great (by omega)), fun _ => by omega⟩
def timTab (x i out m s : Nat) (c : Bool) : Nat → Slot
  | 0 => .val (.agg (numC out)) | 1 => .val (.agg (numC x)) | 2 => .val (.int .i64 (i : Int)) | 3 => .val (.agg (numC m)) | 4 => .val (.tuple #[.agg (numC s), .bool c]) | 5 => .val (.tuple #[.agg (numC s), .bool c])
  | 6 => .val (.agg (numC s)) | 7 => .val (.bool c) | 8 => .ptr | 9 => .any | _ => .val (.bool c)
theorem bitU (b i : Nat) : ((b : Int) / 2 ^ i).tmod 2 = (Nm.bit b i : Nat) := by
  have e : (b : Int) / 2 ^ i = ((b / 2 ^ i : Nat) : Int) := by simp
  rw [e]
  unfold Nm.bit
  generalize b / 2 ^ i = k
  rw [Int.tmod_eq_emod_of_nonneg (by omega)]
  omega
set_option maxRecDepth 100000 in
set_option maxHeartbeats 2000000 in
theorem ref_times (x b : Nat) (hx : x < Nm.big) (hb : b < 18446744073709551616) (w : World) :
    Calls Try.prog 29 #[.agg (numC x), .int .u64 (b : Int)] w fun e w' => e = .returned (.tuple #[.agg (numC (x * b % Nm.big)), .bool (decide (Nm.big ≤ x * b))]) ∧ Below w.heap.size w w' := by
  have HBB := Lib.hid hb
  have HX := Lib.hid hx
  clear hb hx
  go_enter Try.func29, Try.ntmps29
  go_wp2_with fail
  generalize hw1 : World.alloc _ _ = w1
  have h0 : Ts w w1 w.heap.size (w.heap.size + 1) (w.heap.size + 1 + 1) x 0 := by
    rw [← hw1]; exact ⟨(((Below.refl _ _).alloc (Nat.le_refl _) _).alloc (by simp) _).alloc (by simp; omega) _, ((Has.new _ _).alloc _).alloc _, (Has.new1 _ (numC 0) _).alloc _, Has.new2 _ _ (numC 0) _⟩
  clear hw1
  generalize hB : w.heap.size + 1 + 1 = O at *
  generalize hC : w.heap.size + 1 = R at *
  generalize hD : w.heap.size = A at *
  have HO : Hid (w.heap.size ≤ O) := Lib.hid (by omega)
  have HR : Hid (w.heap.size ≤ R) := Lib.hid (by omega)
  have H1 : Hid (A ≠ O) := Lib.hid (by omega)
  have H3 : Hid (R ≠ O) := Lib.hid (by omega)
  clear hB hC hD
  go_loopw [7, 8] (fun ov iv wr => ∃ (i out : Nat) (c : Bool), i ≤ 64 ∧ iv = .int .i64 i ∧ ov = .bool c ∧ Ts w wr A R O x out ∧ Hid (out = x * (b % 2 ^ i) % Nm.big ∧ c = decide (Nm.big ≤ x * (b % 2 ^ i)))) (fun _ iv _ => 64 - (intOf iv).toNat)
  case atStart => exact ⟨0, 0, false, by omega, rfl, rfl, h0, Lib.hid (by simp [Nat.mod_one]; decide)⟩
  case round =>
    obtain ⟨i, out, c, hi, rfl, rfl, hs, HV⟩ := hrel
    by_cases hlt : i < 64
    · have hbu := bitU b i
      have hbl := Nm.bit_lt b i
      by_cases hbit : Nm.bit b i = 1
      · rw [hbit] at hbu
        obtain ⟨m, hm⟩ : ∃ m, m = Nm.up x i := ⟨_, rfl⟩
        have hol : out < Nm.big := by rw [HV.out.1]; exact Nat.mod_lt _ (by decide)
        have hml : m < Nm.big := by rw [hm]; exact Nm.up_lt _ _
        have cUp := fun w => ref_move_up x i HX.out (by omega) w
        rw [← hm] at cUp
        have cAdd := fun w => ref_add out m hol hml w
        obtain ⟨s, hsd⟩ : ∃ s, s = (out + m) % Nm.big := ⟨_, rfl⟩
        obtain ⟨d, hd⟩ : ∃ d, d = decide (Nm.big ≤ out + m) := ⟨_, rfl⟩
        rw [← hsd, ← hd] at cAdd
        have cNeg := fun w => ref_move_neg m i hml (by omega) w
        obtain ⟨e, he⟩ : ∃ e, e = Nm.down m i := ⟨_, rfl⟩
        have hel : e < Nm.big := by rw [he]; exact Nm.down_lt hml _
        rw [← he] at cNeg
        obtain ⟨q, hq⟩ : ∃ q, q = !decide (e = x) := ⟨_, rfl⟩
        have hne := fun w => neq_num hel HX.out w
        rw [← hq] at hne
        have hn1 : s = x * (b % 2 ^ (i + 1)) % Nm.big := by rw [hsd, HV.out.1, hm, times_out hbit]
        have hn2 : (c || d || q) = decide (Nm.big ≤ x * (b % 2 ^ (i + 1))) := by rw [times_over hbit, ← HV.out.2, ← HV.out.1, ← hm, ← hd, ← he, ← hq]
        have HN1 := Lib.hid hn1
        have HN2 := Lib.hid hn2
        have KUp := Lib.hid cUp
        have KAdd := Lib.hid cAdd
        have KNeg := Lib.hid cNeg
        have HNE := Lib.hid hne
        have HBU := Lib.hid hbu
        clear cUp cAdd cNeg hne hn1 hn2 hm hol hml hsd hd he hel hq hbu hbl hbit
        have hbt := HBU.out
        go_wp2_with fail
        clear hbt
        have hA : A < wr.heap.size := hs.a.lt
        have hRl : R < wr.heap.size := hs.r.lt
        have hOl : O < wr.heap.size := hs.o.lt
        have hown := hs.own
        refine Rg2.wp_region_inv (by kernel_rfl) (fun w' => Ts wr w' A R O x out) (fun j v w' => (timTab x i out m s d j).holds wr.heap.size v w') (Done 9 9 wr.heap.size s) (NumStep wr.heap.size) (fun _ _ => NumStep.refl _ _) (fun _ _ _ _ _ hs h => Slot.stays _ _ _ _ hs h) (by kernel_rfl) (hown.on (Below.refl _ _).drew) ?_ ?_ ?_
        · exact fun l hl => fun hk => by rw [hl] at hk; cases hk
        · intro j o listed a wx ho hn hdep hinv
          have hC := hinv.c
          have hI := hinv.i
          have hj : j < 11 := (Array.getElem?_eq_some_iff.1 ho).1
          obtain rfl | rfl | rfl | rfl | rfl | rfl | rfl | rfl | rfl | rfl | rfl : j = 0 ∨ j = 1 ∨ j = 2 ∨ j = 3 ∨ j = 4 ∨ j = 5 ∨ j = 6 ∨ j = 7 ∨ j = 8 ∨ j = 9 ∨ j = 10 := by omega
          all_goals obtain rfl := Option.some.inj ho
          · exact duty_value ((fun _ _ => NumStep.refl _ _)) hC (wanted_free rfl) (ex_load_num rfl (hinv.old' 6 (by kernel_rfl)) hC.o) rfl (Done.pre (hinv.aheadT 3 (by kernel_rfl) hn (by decide) (by decide)))
          · exact duty_value ((fun _ _ => NumStep.refl _ _)) hC (wanted_free rfl) (ex_load_num rfl (hinv.old' 2 (by kernel_rfl)) hC.a) rfl (Done.pre (hinv.aheadT 3 (by kernel_rfl) hn (by decide) (by decide)))
          · exact duty_value ((fun _ _ => NumStep.refl _ _)) hC (wanted_free rfl) (ex_move rfl) (hinv.old' 8 (by kernel_rfl)) (Done.pre (hinv.aheadT 3 (by kernel_rfl) hn (by decide) (by decide)))
          · have e24 := hinv.got 1 _ 24 rfl (hdep ⟨1, .data⟩ (by simp) rfl) rfl; have e25 := hinv.got 2 _ 25 rfl (hdep ⟨2, .data⟩ (by simp) rfl) rfl
            exact duty_call (wanted_free rfl) (f := 26) (args := #[a.eval (.tmp 24), a.eval (.tmp 25)]) (by kernel_rfl) (by rw [show a.eval (.tmp 24) = _ from e24]; rw [show a.eval (.tmp 25) = _ from e25];  exact KUp.out wx) (fun w' hb => ⟨hC.on hb, NumStep.below hb, rfl, Done.pre (hinv.aheadT 3 (by kernel_rfl) hn (by decide) (by decide))⟩)
          · have e23 := hinv.got 0 _ 23 rfl (hdep ⟨0, .data⟩ (by simp) rfl) rfl; have e26 := hinv.got 3 _ 26 rfl (hdep ⟨3, .data⟩ (by simp) rfl) rfl
            exact duty_call (wanted_free rfl) (f := 12) (args := #[a.eval (.tmp 23), a.eval (.tmp 26)]) (by kernel_rfl) (by rw [show a.eval (.tmp 23) = _ from e23]; rw [show a.eval (.tmp 26) = _ from e26];  exact KAdd.out wx) (fun w' hb => ⟨hC.on hb, NumStep.below hb, rfl, Done.pre (hinv.aheadT 3 (by kernel_rfl) hn (by decide) (by decide))⟩)
          · exact duty_value ((fun _ _ => NumStep.refl _ _)) hC (wanted_free rfl) (ex_move rfl) (hinv.got 4 _ 27 rfl (hdep ⟨4, .data⟩ (by simp) rfl) rfl) (Done.pre (hinv.aheadT 3 (by kernel_rfl) hn (by decide) (by decide)))
          · exact duty_value ((fun _ _ => NumStep.refl _ _)) hC (wanted_free rfl) (ex_extract rfl (hinv.got 5 _ 22 rfl (hdep ⟨5, .data⟩ (by simp) rfl) rfl) rfl) rfl (Done.pre (hinv.aheadT 3 (by kernel_rfl) hn (by decide) (by decide)))
          · exact duty_value ((fun _ _ => NumStep.refl _ _)) hC (wanted_free rfl) (ex_extract rfl (hinv.got 5 _ 22 rfl (hdep ⟨5, .data⟩ (by simp) rfl) rfl) rfl) rfl (Done.keep hI (by rw [hinv.size]; decide) (by decide) (by decide) fun _ h => h)
          · have hbel : Below wx.heap.size wx (wx.alloc (.cells (numC 0) 24)) := (Below.refl _ _).alloc (Nat.le_refl _) _
            exact duty_made (wanted_free rfl) (ex_alloc_num rfl) (hC.on hbel) (NumStep.below hbel) ⟨wx.heap.size, numC 0, hC.below.size, rfl, Has.new _ _, rfl⟩ (Done.pre (hinv.aheadT 3 (by kernel_rfl) hn (by decide) (by decide)))
          · obtain ⟨b, cs, hb, he, hh, hsz⟩ : Slot.ptr.holds wr.heap.size (a.eval (.tmp 9)) wx := hinv.got 8 _ 9 rfl (hdep ⟨8, .data⟩ (by simp) rfl) rfl
            exact duty_store (wanted_free rfl) (ex_store_num rfl he (hinv.got 6 _ 28 rfl (hdep ⟨6, .data⟩ (by simp) rfl) rfl) hh hsz) (hC.rowNew hA hRl hOl hb _) (NumStep.row hh) trivial (fun _ => ⟨b, hb, he, hh.row _⟩)
          · exact duty_value ((fun _ _ => NumStep.refl _ _)) hC (wanted_free rfl) (ex_assign rfl) (hinv.got 7 _ 29 rfl (hdep ⟨7, .data⟩ (by simp) rfl) rfl) (Done.keep hI (by rw [hinv.size]; decide) (by decide) (by decide) fun _ h => h)
        · intro listed act wx hall hinv
          obtain ⟨bN, hbN, e9, hN⟩ := hinv.i (hall 9 (by decide))
          have hC := hs.base hinv.c
          have hbNO : bN ≠ O := by omega
          obtain ⟨u, hu⟩ : ∃ u : Nat → Value, ∀ t, u t = act.eval (.tmp t) := ⟨_, fun _ => rfl⟩
          rw [frame_quo act 47 u hinv.tsize hinv.defers hu]
          have f0 := hinv.old' 0 (by kernel_rfl)
          have f1 := hinv.old' 1 (by kernel_rfl)
          have f2 := hinv.old' 2 (by kernel_rfl)
          have f3 := hinv.old' 3 (by kernel_rfl)
          have f4 := hinv.old' 4 (by kernel_rfl)
          have f5 := hinv.old' 5 (by kernel_rfl)
          have f6 := hinv.old' 6 (by kernel_rfl)
          have f7 := hinv.old' 7 (by kernel_rfl)
          have f8 := hinv.old' 8 (by kernel_rfl)
          have f11 := hinv.old' 11 (by kernel_rfl)
          have f12 := hinv.old' 12 (by kernel_rfl)
          have f13 := hinv.old' 13 (by kernel_rfl)
          have f14 := hinv.old' 14 (by kernel_rfl)
          have f15 := hinv.old' 15 (by kernel_rfl)
          have f16 := hinv.old' 16 (by kernel_rfl)
          have f17 := hinv.old' 17 (by kernel_rfl)
          have f18 := hinv.old' 18 (by kernel_rfl)
          have f19 := hinv.old' 19 (by kernel_rfl)
          have f20 := hinv.old' 20 (by kernel_rfl)
          have f21 := hinv.old' 21 (by kernel_rfl)
          have f30 := hinv.old' 30 (by kernel_rfl)
          have f31 := hinv.old' 31 (by kernel_rfl)
          have f32 := hinv.old' 32 (by kernel_rfl)
          have f33 := hinv.old' 33 (by kernel_rfl)
          have f34 := hinv.old' 34 (by kernel_rfl)
          have f35 := hinv.old' 35 (by kernel_rfl)
          have f36 := hinv.old' 36 (by kernel_rfl)
          have f37 := hinv.old' 37 (by kernel_rfl)
          have f38 := hinv.old' 38 (by kernel_rfl)
          have f39 := hinv.old' 39 (by kernel_rfl)
          have f40 := hinv.old' 40 (by kernel_rfl)
          have f41 := hinv.old' 41 (by kernel_rfl)
          have f42 := hinv.old' 42 (by kernel_rfl)
          have f43 := hinv.old' 43 (by kernel_rfl)
          have f44 := hinv.old' 44 (by kernel_rfl)
          have f45 := hinv.old' 45 (by kernel_rfl)
          have f46 := hinv.old' 46 (by kernel_rfl)
          have f9 := e9
          have f10 := (hinv.got 10 _ 10 rfl (hall 10 (by decide)) rfl : act.eval (.tmp 10) = .bool d)
          simp only [← hu] at f0 f1 f2 f3 f4 f5 f6 f7 f8 f9 f10 f11 f12 f13 f14 f15 f16 f17 f18 f19 f20 f21 f30 f31 f32 f33 f34 f35 f36 f37 f38 f39 f40 f41 f42 f43 f44 f45 f46
          simp [Act.eval] at f0 f1 f2 f3 f4 f5 f6 f7 f8 f11 f12 f13 f14 f15 f16 f17 f18 f19 f20 f21 f30 f31 f32 f33 f34 f35 f36 f37 f38 f39 f40 f41 f42 f43 f44 f45 f46
          clear hu hinv hall
          show Exit.then _ _ _ (⟨#[u 0, u 1, u 2, u 3, u 4, u 5, u 6, u 7, u 8, u 9, u 10, u 11, u 12, u 13, u 14, u 15, u 16, u 17, u 18, u 19, u 20, u 21, u 22, u 23, u 24, u 25, u 26, u 27, u 28, u 29, u 30, u 31, u 32, u 33, u 34, u 35, u 36, u 37, u 38, u 39, u 40, u 41, u 42, u 43, u 44, u 45, u 46], []⟩ : Act) _
          rw [f0, f1, f2, f3, f4, f5, f6, f7, f8, f9, f10, f11, f12, f13, f14, f15, f16, f17, f18, f19, f20, f21, f30, f31, f32, f33, f34, f35, f36, f37, f38, f39, f40, f41, f42, f43, f44, f45, f46]
          clear f0 f1 f2 f3 f4 f5 f6 f7 f8 f9 f10 f11 f12 f13 f14 f15 f16 f17 f18 f19 f20 f21 f30 f31 f32 f33 f34 f35 f36 f37 f38 f39 f40 f41 f42 f43 f44 f45 f46
          clear hs hown hA hRl hOl hbN
          go_wp2_with (first
            | (with_reducible refine num_load rfl _ rfl _ rfl _ hN rfl ?_)
            | (with_reducible refine num_store rfl _ _ rfl _ _ rfl rfl _ hC.o rfl ?_))
          simp only [Act.put, List.setIfInBounds_toArray, List.set_cons_zero, List.set_cons_succ]
          have hP := hC.putO s H1.out H3.out HO.out
          clear hN hC hbNO
          generalize World.setRow _ _ _ = w5 at *
          have hn2 := HN2.out
          have hne := HNE.out
          rcases c with _ | _ <;> rcases d with _ | _ <;> rcases q with _ | _
          all_goals
            simp at hn2
            have HN3 := Lib.hid hn2
            clear hn2
            refine wp_region_quiet_below (by kernel_rfl) (by kernel_rfl) ?_
            repeat (first
              | (go_big_quiet_want; (with_reducible refine quiet_load_num _ rfl _ rfl _ hP.a.cls ?_); (simp only [Act.put, List.setIfInBounds_toArray, List.set_cons_zero, List.set_cons_succ]); go_big_quiet_on)
              | go_big_quiet_step (first | (go_at_call 26; (with_reducible exact Calls.regrown_of (KUp.out _))) | (go_at_call 26; (with_reducible exact Calls.regrown_of (KNeg.out _)))))
            refine wpQuiet_nil ?_
            intro _ hw'
            obtain ⟨p, hw''⟩ := hw'
            subst hw''
            have hP2 := hP.on (below_regrown w5 p.d p.os)
            clear hP
            generalize Sort.grow (redrawn w5 p.d) p.os = w6 at *
            clear p hne
            go_wp2_with fail
            go_roundw
            case rel => exact ⟨i + 1, s, _, by omega, by go_num, rfl, hP2, Lib.hid ⟨HN1.out, by have := HN3.out; simp; omega⟩⟩
            case measure => first | (simp [intOf]; done) | (simp [intOf]; omega)
      · have hb0 : Nm.bit b i = 0 := by omega
        rw [hb0] at hbu
        have hn := times_next x b i
        rw [hb0, Nat.zero_mul, Nat.add_zero] at hn
        have HN := Lib.hid hn
        clear hn hb0 hbl hbit
        go_wp2_with fail
        clear hbu
        go_roundw
        case rel => exact ⟨i + 1, out, c, by omega, by go_num, rfl, hs, Lib.hid (by rw [HN.out]; exact HV.out)⟩
        case measure => first | (simp [intOf]; done) | (simp [intOf]; omega)
    · obtain rfl : i = 64 := by omega
      have hV : out = x * b % Nm.big ∧ c = decide (Nm.big ≤ x * b) := by
        have h := HV.out
        rwa [Nat.mod_eq_of_lt (show b < 2 ^ 64 from HBB.out)] at h
      have HW := Lib.hid hV
      clear HV hV
      go_wp2_with (first
        | (with_reducible refine num_load rfl _ rfl _ rfl _ hs.o rfl ?_)
        | (with_reducible refine num_store rfl _ _ rfl _ _ rfl rfl _ hs.r rfl ?_))
      refine bodyPost_ret (v := .tuple #[.agg (numC out), .bool c]) (num_results2 Try.results29 _ _ _ _ rfl rfl (hs.r.row _)) rfl ⟨?_, below_setRow hs.below HR.out _⟩
      rw [HW.out.1, HW.out.2]
end Go.Proofs.Ytlljemggalmcdaa
