import Derived.Test.YthcebnfdapcllaaGreatDoorRBunQ33
import Derived.Test.YthcebnfdapcllaaGreatDoorRBunQ27
import Derived.Test.YthcebnfdapcllaaGreatDoorRBunQ31
import Derived.Test.YthcebnfdapcllaaGreatDoorRBunQ29
import Derived.OpenShut
import Derived.Test.YthcebnfdapcllaaGreatDoorRBunQ34
import Derived.Test.YthcebnfdapcllaaGreatDoorRBunQ26
namespace Go.Proofs.YthcebnfdapcllaaGreatDoor.NN
open Go.RowKit Rg2
theorem frame_backW (a : Act) (n : Nat) (u : Nat → Value) (hs : a.tmps.size = n) (hd : a.defers = []) (hu : ∀ t, u t = a.eval (.tmp t)) : a = ⟨((List.range n).map u).toArray, []⟩ := by
  obtain ⟨tm, df⟩ := a
  obtain rfl : df = [] := hd
  congr 1
  apply Array.ext
  · simpa using hs
  · intro i h1 h2
    simp only [List.getElem_toArray, List.getElem_map, List.getElem_range, hu]
    simp [Act.eval, Array.getD_eq_getD_getElem?, h1]
theorem up_any (x n : Nat) (hx : x < Nm.big) (hn : n ≤ 255) (w : World) :
    Calls Tryz.prog 134 #[.agg (numC x), .int .i64 (n : Int)] w fun e w' => e = .returned (.agg (numC (Nm.up x n))) ∧ Below w.heap.size w w' := by
  by_cases h : n = 0
  · subst h; rw [Nm.up_zero hx]; exact up_neg x 0 (by omega) w
  · exact up_pos x n hx (by omega) (by omega) w
theorem sub_mod {x y : Nat} (hx : x < Nm.big) (hy : y ≤ x) : (x + Nm.big - y) % Nm.big = x - y := by
  rw [show x + Nm.big - y = x - y + Nm.big by omega, Nat.add_mod_right, Nat.mod_eq_of_lt (by omega)]
def Dist (k1 : Nat) (p1 : Tmp) (k2 : Nat) (p2 : Tmp) (listed : Array Bool) (a : Act) : Prop := listed.getD k1 false = true → listed.getD k2 false = true → a.eval (.tmp p1) ≠ a.eval (.tmp p2)
theorem eval_put_ne (a : Act) (d : Option Tmp) (p : Tmp) (v : Value) (h : d ≠ some p) : (a.put d v).eval (.tmp p) = a.eval (.tmp p) :=
  Act.eval_put (fun d' hdd e => h (by rw [hdd]; cases e; rfl))
theorem Dist.keep {k1 k2 i : Nat} {p1 p2 : Tmp} {listed : Array Bool} {a : Act} {d : Option Tmp} {v : Value} (h : Dist k1 p1 k2 p2 listed a) (hi : i < listed.size) (h1 : i ≠ k1) (h2 : i ≠ k2) (d1 : d ≠ some p1) (d2 : d ≠ some p2) : Dist k1 p1 k2 p2 (listed.setIfInBounds i true) (a.put d v) := fun l1 l2 => by
  rw [getD_set _ _ _ hi, if_neg h1] at l1
  rw [getD_set _ _ _ hi, if_neg h2] at l2
  rw [eval_put_ne _ _ _ _ d1, eval_put_ne _ _ _ _ d2]
  exact h l1 l2
theorem Dist.fst {B k1 k2 : Nat} {p1 p2 : Tmp} {listed : Array Bool} {a : Act} {w : World} (hg : listed.getD k2 false = true → Slot.ptr.holds B (a.eval (.tmp p2)) w) (hi : k1 < listed.size) (hk : k1 ≠ k2) (hp : p1 ≠ p2) (hs : p1 < a.tmps.size) : Dist k1 p1 k2 p2 (listed.setIfInBounds k1 true) (a.put (some p1) (.pointer (some ⟨w.heap.size, 0, none⟩))) := fun _ l2 e => by
  rw [getD_set _ _ _ hi, if_neg hk] at l2
  obtain ⟨b, cs, _, hv, hh, _⟩ := hg l2
  rw [put_same _ _ _ hs, eval_put_ne _ _ _ _ (fun h => hp (Option.some.inj h)), hv] at e
  injection e with e; injection e with e; injection e with e
  have := hh.lt
  omega
theorem Dist.snd {B k1 k2 : Nat} {p1 p2 : Tmp} {listed : Array Bool} {a : Act} {w : World} (hg : listed.getD k1 false = true → Slot.ptr.holds B (a.eval (.tmp p1)) w) (hi : k2 < listed.size) (hk : k2 ≠ k1) (hp : p2 ≠ p1) (hs : p2 < a.tmps.size) : Dist k1 p1 k2 p2 (listed.setIfInBounds k2 true) (a.put (some p2) (.pointer (some ⟨w.heap.size, 0, none⟩))) := fun l1 _ e => by
  rw [getD_set _ _ _ hi, if_neg hk] at l1
  obtain ⟨b, cs, _, hv, hh, _⟩ := hg l1
  rw [put_same _ _ _ hs, eval_put_ne _ _ _ _ (fun h => hp (Option.some.inj h)), hv] at e
  injection e with e; injection e with e; injection e with e
  have := hh.lt
  omega
end Go.Proofs.YthcebnfdapcllaaGreatDoor.NN
namespace Go.Proofs.YthcebnfdapcllaaGreatDoor.NN
open Go.RowKit Rg2
theorem Has.newz1 {w : World} (o : Obj) (t : TypeId) : Has ((w.alloc o).alloc (.cells #[.int .u64 0, .int .u64 0, .int .u64 0, .int .u64 0] t)) (w.heap.size + 1) (numC 0) t := Has.new1 o (numC 0) t
theorem Qs.rowNew {w wr : World} {A B R S O T a b out rest : Nat} (h : Qs w wr A B R S O T a b out rest) {w0 : World} (hd : Apart w0 A B R S O T) (hT : T < w.heap.size) {g : Nat} (hg : w.heap.size ≤ g) (cs : Array Value) : Qs w (wr.setRow g cs) A B R S O T a b out rest := by
  obtain ⟨_, d2, d3, d4, d5, d6⟩ := hd
  exact ⟨below_setRow h.below hg _, h.a.otherRow _ _ (by omega), h.b.otherRow _ _ (by omega), let ⟨cs, h1, h2⟩ := h.r; ⟨cs, h1.otherRow _ _ (by omega), h2⟩, let ⟨cs, h1, h2⟩ := h.s; ⟨cs, h1.otherRow _ _ (by omega), h2⟩, h.o.otherRow _ _ (by omega), h.t.otherRow _ _ (by omega)⟩
theorem Qs.base {w wr w' : World} {A B R S O T a b out rest : Nat} (h : Qs w wr A B R S O T a b out rest) (h' : Qs wr w' A B R S O T a b out rest) : Qs w w' A B R S O T a b out rest :=
  ⟨h.below.trans (h'.below.mono h.below.size), h'.a, h'.b, h'.r, h'.s, h'.o, h'.t⟩
theorem Qs.own {w wr : World} {A B R S O T a b out rest : Nat} (h : Qs w wr A B R S O T a b out rest) : Qs wr wr A B R S O T a b out rest := ⟨Below.refl _ _, h.a, h.b, h.r, h.s, h.o, h.t⟩
def quoTab (b k rest d s : Nat) (c : Bool) : Nat → Slot
  | 0 => .val (.agg (numC rest)) | 1 => .val (.agg (numC b)) | 2 => .val (.int .i64 (k : Int)) | 3 => .val (.agg (numC d)) | 4 => .val (.tuple #[.agg (numC s), .bool c]) | 5 => .val (.tuple #[.agg (numC s), .bool c])
  | 6 => .val (.agg (numC s)) | 7 => .val (.bool c) | 8 => .ptr | 9 => .any | _ => .val (.bool c)
set_option maxRecDepth 100000 in
set_option maxHeartbeats 2000000 in
theorem quo_pos (a b : Nat) (ha : a < Nm.big) (hb : b < Nm.big) (hb0 : 0 < b) (w : World) :
    Calls Tryz.prog 123 #[.agg (numC a), .agg (numC b)] w fun e w' => e = .returned (.tuple #[.agg (numC (a / b)), .agg (numC (a % b))]) ∧ Below w.heap.size w w' := by
  have cZero := fun w => zero b hb w
  rw [show decide (b = 0) = false by simp; omega] at cZero
  have cLa := fun w => len a ha w
  have cLb := fun w => len b hb w
  obtain ⟨la, hla⟩ : ∃ l, l = Nm.len a := ⟨_, rfl⟩
  obtain ⟨lb, hlb⟩ : ∃ l, l = Nm.len b := ⟨_, rfl⟩
  have bla : la ≤ 256 := by rw [hla]; exact Nm.len_le (by rw [← Nm.big_eq]; exact ha)
  have blb : lb ≤ 256 := by rw [hlb]; exact Nm.len_le (by rw [← Nm.big_eq]; exact hb)
  have blb0 : 0 < lb := by
    rcases Nat.eq_zero_or_pos lb with h | h
    · have := (Nm.len_isLen b).1; rw [← hlb, h] at this; simp at this; omega
    · exact h
  have s1 : lb ≤ la → a < b * 2 ^ (la - lb + 1) := fun h => by
    rw [hla, hlb] at *
    rcases Nm.quo_start h with h' | h'
    · exact h'
    · omega
  have s2 : lb ≤ la → ∀ k, k ≤ la - lb → b * 2 ^ k < Nm.big := fun h k hk => by
    rw [hla, hlb] at *
    exact Nm.quo_small ha h hk
  have s3 : la < lb → a < b := fun h => by rw [hla, hlb] at *; exact Nm.quo_less h
  rw [← hla] at cLa
  rw [← hlb] at cLb
  have KZero := Lib.hid cZero
  have KLa := Lib.hid cLa
  have KLb := Lib.hid cLb
  have S1 := Lib.hid s1
  have S2 := Lib.hid s2
  have S3 := Lib.hid s3
  have HA0 := Lib.hid ha
  have HB0 := Lib.hid hb
  have HBP := Lib.hid hb0
  clear cZero cLa cLb hla hlb s1 s2 s3 ha hb hb0
  go_enter Tryz.func123, Tryz.ntmps123
  go_upto_region 1 with fail
  generalize hw1 : World.alloc _ _ = w1
  have hbel : Below w.heap.size w w1 := by rw [← hw1]; exact ((((Below.refl _ _).alloc (Nat.le_refl _) _).alloc (by simp) _).alloc (by simp; omega) _).alloc (by simp; omega) _
  have hA : Has w1 w.heap.size (numC a) 26 := by rw [← hw1]; exact (((Has.new _ _).alloc _).alloc _).alloc _
  have hB : Has w1 (w.heap.size + 1) (numC b) 26 := by rw [← hw1]; exact ((Has.new1 _ _ _).alloc _).alloc _
  have hR : Has w1 (w.heap.size + 1 + 1) (numC 0) 26 := by rw [← hw1]; exact (Has.new2 _ _ (numC 0) _).alloc _
  have hS : Has w1 (w.heap.size + 1 + 1 + 1) (numC 0) 26 := by rw [← hw1]; exact Has.new3 _ _ _ (numC 0) _
  clear hw1
  go_wp2_with (with_reducible refine num_load rfl _ rfl _ rfl _ hB rfl ?_)
  refine (KZero.out _).mono ?_
  rintro e v1 ⟨rfl, hb1⟩
  replace hA := hA.on hb1
  replace hB := hB.on hb1
  replace hR := hR.on hb1
  replace hS := hS.on hb1
  replace hbel := hbel.trans (hb1.mono hbel.size)
  clear hb1
  have hSl := hS.lt
  go_wp2_with (first
    | (with_reducible refine num_load rfl _ rfl _ rfl _ (hA.alloc _) rfl ?_)
    | (with_reducible refine num_store rfl _ _ rfl _ _ rfl rfl _ (Has.newz1 _ _) rfl ?_))
  generalize hw2 : World.setRow _ _ _ = w2
  have h0 : Qs w w2 w.heap.size (w.heap.size + 1) (w.heap.size + 1 + 1) (w.heap.size + 1 + 1 + 1) v1.heap.size (v1.heap.size + 1) a b 0 a := by
    rw [← hw2]
    exact ⟨below_setRow ((hbel.alloc hbel.size _).alloc (by simp; omega) _) (by omega) _, ((hA.alloc _).alloc _).otherRow _ _ (by omega), ((hB.alloc _).alloc _).otherRow _ _ (by omega), ⟨_, ((hR.alloc _).alloc _).otherRow _ _ (by omega), rfl⟩, ⟨_, ((hS.alloc _).alloc _).otherRow _ _ (by omega), rfl⟩, ((Has.newz _).alloc _).otherRow _ _ (by omega), (Has.newz1 _ _).row _⟩
  have hd : Apart w w.heap.size (w.heap.size + 1) (w.heap.size + 1 + 1) (w.heap.size + 1 + 1 + 1) v1.heap.size (v1.heap.size + 1) := ⟨Nat.le_refl _, by omega, by omega, by omega, by omega, by omega⟩
  have HD := Lib.hid hd
  clear hw2 hA hB hR hS hbel hSl hd
  generalize v1.heap.size + 1 = T at *
  generalize v1.heap.size = O at *
  generalize w.heap.size + 1 + 1 + 1 = S at *
  generalize w.heap.size + 1 + 1 = R at *
  generalize w.heap.size + 1 = B at *
  generalize hA0 : w.heap.size = A at h0 HD ⊢
  have HAA := Lib.hid hA0
  clear hA0
  simp only [Act.put]
  refine wp_region_quiet_below (by kernel_rfl) (by kernel_rfl) ?_
  repeat (first
    | (go_big_quiet_want; (with_reducible refine quiet_load_num _ rfl _ rfl _ h0.a.cls ?_); (simp only [Act.put, List.setIfInBounds_toArray, List.set_cons_zero, List.set_cons_succ]); go_big_quiet_on)
    | (go_big_quiet_want; (with_reducible refine quiet_load_num _ rfl _ rfl _ h0.b.cls ?_); (simp only [Act.put, List.setIfInBounds_toArray, List.set_cons_zero, List.set_cons_succ]); go_big_quiet_on)
    | go_big_quiet_step (first | (go_at_call 135; (with_reducible exact Calls.regrown_of (KLa.out _))) | (go_at_call 135; (with_reducible exact Calls.regrown_of (KLb.out _)))))
  refine wpQuiet_nil ?_
  intro _ hw'
  obtain ⟨p, hw''⟩ := hw'
  subst hw''
  replace h0 := h0.on (below_regrown w2 p.d p.os)
  generalize Sort.grow (redrawn w2 p.d) p.os = w3 at *
  clear p
  go_wp2_with fail
  have hst : (∃ k : Nat, k ≤ 255 ∧ (la : Int) - (lb : Int) = (k : Int) ∧ Hid (Nm.QI a b (k + 1) 0 a) ∧ Hid (∀ j, j ≤ k → b * 2 ^ j < Nm.big)) ∨ (∃ z : Int, z < 0 ∧ (la : Int) - (lb : Int) = z ∧ Hid (Nm.QI a b 0 0 a)) := by
    by_cases hl : lb ≤ la
    · exact .inl ⟨la - lb, by omega, by omega, Lib.hid (Nm.QI.start _ (S1.out hl)), Lib.hid (S2.out hl)⟩
    · exact .inr ⟨(la : Int) - (lb : Int), by omega, rfl, Lib.hid (Nm.QI.start 0 (by have := S3.out (by omega); simpa using this))⟩
  have HST := Lib.hid hst
  clear hst bla blb blb0 S1 S2 S3 KLa KLb KZero
  go_loopw [8] (fun i wr => ∃ out rest : Nat, Qs w wr A B R S O T a b out rest ∧ ((∃ k : Nat, k ≤ 255 ∧ i = .int .i64 k ∧ Hid (Nm.QI a b (k + 1) out rest) ∧ Hid (∀ j, j ≤ k → b * 2 ^ j < Nm.big)) ∨ (∃ z : Int, z < 0 ∧ i = .int .i64 z ∧ Hid (Nm.QI a b 0 out rest)))) (fun i _ => (intOf i + 1).toNat)
  case atStart =>
    rcases HST.out with ⟨k, h1, h2, h3, h4⟩ | ⟨z, h1, h2, h3⟩
    · exact ⟨_, _, h0, .inl ⟨k, h1, congrArg (Value.int .i64) h2, h3, h4⟩⟩
    · exact ⟨_, _, h0, .inr ⟨z, h1, congrArg (Value.int .i64) h2, h3⟩⟩
  case round =>
    clear HST h0
    obtain ⟨out, rest, hs, ⟨k, hk, rfl, HQ, HK⟩ | ⟨z, hz, rfl, HQ⟩⟩ := hrel
    · obtain ⟨d, hdd⟩ : ∃ d, d = b * 2 ^ k := ⟨_, rfl⟩
      have hdl : d < Nm.big := by rw [hdd]; exact HK.out k (Nat.le_refl _)
      have hrl : rest < Nm.big := Nat.lt_of_le_of_lt HQ.out.rest_le HA0.out
      have cUp := fun w => up_any b k HB0.out hk w
      rw [Nm.up_small (HK.out k (Nat.le_refl _)), ← hdd] at cUp
      have cSub := fun w => sub rest d hrl hdl w
      obtain ⟨s, hsd⟩ : ∃ s, s = (rest + Nm.big - d) % Nm.big := ⟨_, rfl⟩
      rw [← hsd] at cSub
      have hT : T < wr.heap.size := hs.t.lt
      have KUp := Lib.hid cUp
      have hown := hs.own
      by_cases htake : d ≤ rest
      · have hs2 : s = rest - d := by rw [hsd]; exact sub_mod hrl htake
        rw [show decide (rest < d) = false by simp; omega] at cSub
        have KSub := Lib.hid cSub
        have hq := HQ.out.take (by rw [← hdd]; exact htake)
        rw [← hdd, ← hs2] at hq
        have HQN := Lib.hid hq
        clear cUp cSub hsd hs2 hq htake hdl hrl hdd
        go_wp2_with fail
        refine Rg2.wp_region_inv (by kernel_rfl) (fun w' => Qs wr w' A B R S O T a b out rest) (fun i v w' => (quoTab b k rest d s false i).holds wr.heap.size v w') (Done 9 9 wr.heap.size s) (NumStep wr.heap.size) (fun _ _ => NumStep.refl _ _) (fun _ _ _ _ _ hs h => Slot.stays _ _ _ _ hs h) (by kernel_rfl) (hown.on (Below.refl _ _).drew) ?_ ?_ ?_
        · exact fun l hl => fun hk => by rw [hl] at hk; cases hk
        · intro i o listed a wx ho hn hdep hinv
          have hC := hinv.c
          have hI := hinv.i
          have hi : i < 11 := (Array.getElem?_eq_some_iff.1 ho).1
          obtain rfl | rfl | rfl | rfl | rfl | rfl | rfl | rfl | rfl | rfl | rfl : i = 0 ∨ i = 1 ∨ i = 2 ∨ i = 3 ∨ i = 4 ∨ i = 5 ∨ i = 6 ∨ i = 7 ∨ i = 8 ∨ i = 9 ∨ i = 10 := by omega
          all_goals obtain rfl := Option.some.inj ho
          · exact duty_value ((fun _ _ => NumStep.refl _ _)) hC (wanted_free rfl) (ex_load_num rfl (hinv.old' 7 (by kernel_rfl)) hC.t) rfl (Done.pre (hinv.aheadT 3 (by kernel_rfl) hn (by decide) (by decide)))
          · exact duty_value ((fun _ _ => NumStep.refl _ _)) hC (wanted_free rfl) (ex_load_num rfl (hinv.old' 3 (by kernel_rfl)) hC.b) rfl (Done.pre (hinv.aheadT 3 (by kernel_rfl) hn (by decide) (by decide)))
          · exact duty_value ((fun _ _ => NumStep.refl _ _)) hC (wanted_free rfl) (ex_move rfl) (hinv.old' 8 (by kernel_rfl)) (Done.pre (hinv.aheadT 3 (by kernel_rfl) hn (by decide) (by decide)))
          · have e27 := hinv.got 1 _ 27 rfl (hdep ⟨1, .data⟩ (by simp) rfl) rfl; have e28 := hinv.got 2 _ 28 rfl (hdep ⟨2, .data⟩ (by simp) rfl) rfl
            exact duty_call (wanted_free rfl) (f := 134) (args := #[a.eval (.tmp 27), a.eval (.tmp 28)]) (by kernel_rfl) (by rw [show a.eval (.tmp 27) = _ from e27]; rw [show a.eval (.tmp 28) = _ from e28];  exact KUp.out wx) (fun w' hb => ⟨hC.on hb, NumStep.below hb, rfl, Done.pre (hinv.aheadT 3 (by kernel_rfl) hn (by decide) (by decide))⟩)
          · have e26 := hinv.got 0 _ 26 rfl (hdep ⟨0, .data⟩ (by simp) rfl) rfl; have e29 := hinv.got 3 _ 29 rfl (hdep ⟨3, .data⟩ (by simp) rfl) rfl
            exact duty_call (wanted_free rfl) (f := 136) (args := #[a.eval (.tmp 26), a.eval (.tmp 29)]) (by kernel_rfl) (by rw [show a.eval (.tmp 26) = _ from e26]; rw [show a.eval (.tmp 29) = _ from e29];  exact KSub.out wx) (fun w' hb => ⟨hC.on hb, NumStep.below hb, rfl, Done.pre (hinv.aheadT 3 (by kernel_rfl) hn (by decide) (by decide))⟩)
          · exact duty_value ((fun _ _ => NumStep.refl _ _)) hC (wanted_free rfl) (ex_move rfl) (hinv.got 4 _ 30 rfl (hdep ⟨4, .data⟩ (by simp) rfl) rfl) (Done.pre (hinv.aheadT 3 (by kernel_rfl) hn (by decide) (by decide)))
          · exact duty_value ((fun _ _ => NumStep.refl _ _)) hC (wanted_free rfl) (ex_extract rfl (hinv.got 5 _ 25 rfl (hdep ⟨5, .data⟩ (by simp) rfl) rfl) rfl) rfl (Done.pre (hinv.aheadT 3 (by kernel_rfl) hn (by decide) (by decide)))
          · exact duty_value ((fun _ _ => NumStep.refl _ _)) hC (wanted_free rfl) (ex_extract rfl (hinv.got 5 _ 25 rfl (hdep ⟨5, .data⟩ (by simp) rfl) rfl) rfl) rfl (Done.keep hI (by rw [hinv.size]; decide) (by decide) (by decide) fun _ h => h)
          · have hbel : Below wx.heap.size wx (wx.alloc (.cells (numC 0) 26)) := (Below.refl _ _).alloc (Nat.le_refl _) _
            exact duty_made (wanted_free rfl) (ex_alloc_num rfl) (hC.on hbel) (NumStep.below hbel) ⟨wx.heap.size, numC 0, hC.below.size, rfl, Has.new _ _, rfl⟩ (Done.pre (hinv.aheadT 3 (by kernel_rfl) hn (by decide) (by decide)))
          · obtain ⟨b, cs, hb, he, hh, hsz⟩ : Slot.ptr.holds wr.heap.size (a.eval (.tmp 9)) wx := hinv.got 8 _ 9 rfl (hdep ⟨8, .data⟩ (by simp) rfl) rfl
            exact duty_store (wanted_free rfl) (ex_store_num rfl he (hinv.got 6 _ 31 rfl (hdep ⟨6, .data⟩ (by simp) rfl) rfl) hh hsz) (hC.rowNew HD.out hT hb _) (NumStep.row hh) trivial (fun _ => ⟨b, hb, he, hh.row _⟩)
          · exact duty_value ((fun _ _ => NumStep.refl _ _)) hC (wanted_free rfl) (ex_assign rfl) (hinv.got 7 _ 32 rfl (hdep ⟨7, .data⟩ (by simp) rfl) rfl) (Done.keep hI (by rw [hinv.size]; decide) (by decide) (by decide) fun _ h => h)
        · intro listed act wx hall hinv
          obtain ⟨bN, hbN, e9, hN⟩ := hinv.i (hall 9 (by decide))
          have hC := hs.base hinv.c
          have hTb : T < bN := by omega
          obtain ⟨u, hu⟩ : ∃ u : Nat → Value, ∀ t, u t = act.eval (.tmp t) := ⟨_, fun _ => rfl⟩
          rw [frame_quo act 47 u hinv.tsize hinv.defers hu]
          have f0 := hinv.old' 0 (by kernel_rfl)
          have f1 := hinv.old' 1 (by kernel_rfl)
          have f2 := hinv.old' 2 (by kernel_rfl)
          have f3 := hinv.old' 3 (by kernel_rfl)
          have f4 := hinv.old' 4 (by kernel_rfl)
          have f5 := hinv.old' 5 (by kernel_rfl)
          have f6 := hinv.old' 6 (by kernel_rfl)
          have f7 := hinv.old' 7 (by kernel_rfl)
          have f8 := hinv.old' 8 (by kernel_rfl)
          have f11 := hinv.old' 11 (by kernel_rfl)
          have f12 := hinv.old' 12 (by kernel_rfl)
          have f13 := hinv.old' 13 (by kernel_rfl)
          have f14 := hinv.old' 14 (by kernel_rfl)
          have f15 := hinv.old' 15 (by kernel_rfl)
          have f16 := hinv.old' 16 (by kernel_rfl)
          have f17 := hinv.old' 17 (by kernel_rfl)
          have f18 := hinv.old' 18 (by kernel_rfl)
          have f19 := hinv.old' 19 (by kernel_rfl)
          have f20 := hinv.old' 20 (by kernel_rfl)
          have f21 := hinv.old' 21 (by kernel_rfl)
          have f22 := hinv.old' 22 (by kernel_rfl)
          have f23 := hinv.old' 23 (by kernel_rfl)
          have f24 := hinv.old' 24 (by kernel_rfl)
          have f33 := hinv.old' 33 (by kernel_rfl)
          have f34 := hinv.old' 34 (by kernel_rfl)
          have f35 := hinv.old' 35 (by kernel_rfl)
          have f36 := hinv.old' 36 (by kernel_rfl)
          have f37 := hinv.old' 37 (by kernel_rfl)
          have f38 := hinv.old' 38 (by kernel_rfl)
          have f39 := hinv.old' 39 (by kernel_rfl)
          have f40 := hinv.old' 40 (by kernel_rfl)
          have f41 := hinv.old' 41 (by kernel_rfl)
          have f42 := hinv.old' 42 (by kernel_rfl)
          have f43 := hinv.old' 43 (by kernel_rfl)
          have f44 := hinv.old' 44 (by kernel_rfl)
          have f45 := hinv.old' 45 (by kernel_rfl)
          have f46 := hinv.old' 46 (by kernel_rfl)
          have f9 := e9
          have f10 := (hinv.got 10 _ 10 rfl (hall 10 (by decide)) rfl : act.eval (.tmp 10) = .bool false)
          simp only [← hu] at f0 f1 f2 f3 f4 f5 f6 f7 f8 f9 f10 f11 f12 f13 f14 f15 f16 f17 f18 f19 f20 f21 f22 f23 f24 f33 f34 f35 f36 f37 f38 f39 f40 f41 f42 f43 f44 f45 f46
          simp [Act.eval] at f0 f1 f2 f3 f4 f5 f6 f7 f8 f11 f12 f13 f14 f15 f16 f17 f18 f19 f20 f21 f22 f23 f24 f33 f34 f35 f36 f37 f38 f39 f40 f41 f42 f43 f44 f45 f46
          clear hu hinv hall
          show Exit.then _ _ _ (⟨#[u 0, u 1, u 2, u 3, u 4, u 5, u 6, u 7, u 8, u 9, u 10, u 11, u 12, u 13, u 14, u 15, u 16, u 17, u 18, u 19, u 20, u 21, u 22, u 23, u 24, u 25, u 26, u 27, u 28, u 29, u 30, u 31, u 32, u 33, u 34, u 35, u 36, u 37, u 38, u 39, u 40, u 41, u 42, u 43, u 44, u 45, u 46], []⟩ : Act) _
          rw [f0, f1, f2, f3, f4, f5, f6, f7, f8, f9, f10, f11, f12, f13, f14, f15, f16, f17, f18, f19, f20, f21, f22, f23, f24, f33, f34, f35, f36, f37, f38, f39, f40, f41, f42, f43, f44, f45, f46]
          clear f0 f1 f2 f3 f4 f5 f6 f7 f8 f9 f10 f11 f12 f13 f14 f15 f16 f17 f18 f19 f20 f21 f22 f23 f24 f33 f34 f35 f36 f37 f38 f39 f40 f41 f42 f43 f44 f45 f46
          clear hs hown hT hbN
          go_wp2_with (first
            | (with_reducible refine num_load rfl _ rfl _ rfl _ hN rfl ?_)
            | (with_reducible refine num_store rfl _ _ rfl _ _ rfl rfl _ hC.t rfl ?_))
          simp only [Act.put, List.setIfInBounds_toArray, List.set_cons_zero, List.set_cons_succ]
          have hP := hC.putT HD.out s
          clear hN hC hTb
          generalize World.setRow _ _ _ = w5 at *
          have c1 := hP.o.num (j := k / 64) (by omega)
          have fo := hP.o.free (k / 64)
          go_region
          have h5 := hP.setO HD.out (k / 64) _ (out ||| 2 ^ k) (numC_or out k (by omega))
          clear c1 fo hP
          generalize World.drew _ = w6 at *
          go_wp2_with fail
          go_roundw
          case rel =>
            refine ⟨_, _, h5, ?_⟩
            by_cases hk0 : k = 0
            · subst hk0
              exact .inr ⟨-1, by omega, rfl, HQN⟩
            · exact .inl ⟨k - 1, by omega, congrArg (Value.int .i64) (by omega), by rw [show k - 1 + 1 = k by omega]; exact HQN, Lib.hid fun j hj => HK.out j (by omega)⟩
          case measure => first | (simp [intOf]; done) | (simp [intOf]; omega)
      · rw [show decide (rest < d) = true by simp; omega] at cSub
        have KSub := Lib.hid cSub
        have hq := HQ.out.skip (by rw [← hdd]; omega)
        have HQN := Lib.hid hq
        clear cUp cSub hsd hq htake hdl hrl hdd
        go_wp2_with fail
        refine Rg2.wp_region_inv (by kernel_rfl) (fun w' => Qs wr w' A B R S O T a b out rest) (fun i v w' => (quoTab b k rest d s true i).holds wr.heap.size v w') (Done 9 9 wr.heap.size s) (NumStep wr.heap.size) (fun _ _ => NumStep.refl _ _) (fun _ _ _ _ _ hs h => Slot.stays _ _ _ _ hs h) (by kernel_rfl) (hown.on (Below.refl _ _).drew) ?_ ?_ ?_
        · exact fun l hl => fun hk => by rw [hl] at hk; cases hk
        · intro i o listed a wx ho hn hdep hinv
          have hC := hinv.c
          have hI := hinv.i
          have hi : i < 11 := (Array.getElem?_eq_some_iff.1 ho).1
          obtain rfl | rfl | rfl | rfl | rfl | rfl | rfl | rfl | rfl | rfl | rfl : i = 0 ∨ i = 1 ∨ i = 2 ∨ i = 3 ∨ i = 4 ∨ i = 5 ∨ i = 6 ∨ i = 7 ∨ i = 8 ∨ i = 9 ∨ i = 10 := by omega
          all_goals obtain rfl := Option.some.inj ho
          · exact duty_value ((fun _ _ => NumStep.refl _ _)) hC (wanted_free rfl) (ex_load_num rfl (hinv.old' 7 (by kernel_rfl)) hC.t) rfl (Done.pre (hinv.aheadT 3 (by kernel_rfl) hn (by decide) (by decide)))
          · exact duty_value ((fun _ _ => NumStep.refl _ _)) hC (wanted_free rfl) (ex_load_num rfl (hinv.old' 3 (by kernel_rfl)) hC.b) rfl (Done.pre (hinv.aheadT 3 (by kernel_rfl) hn (by decide) (by decide)))
          · exact duty_value ((fun _ _ => NumStep.refl _ _)) hC (wanted_free rfl) (ex_move rfl) (hinv.old' 8 (by kernel_rfl)) (Done.pre (hinv.aheadT 3 (by kernel_rfl) hn (by decide) (by decide)))
          · have e27 := hinv.got 1 _ 27 rfl (hdep ⟨1, .data⟩ (by simp) rfl) rfl; have e28 := hinv.got 2 _ 28 rfl (hdep ⟨2, .data⟩ (by simp) rfl) rfl
            exact duty_call (wanted_free rfl) (f := 134) (args := #[a.eval (.tmp 27), a.eval (.tmp 28)]) (by kernel_rfl) (by rw [show a.eval (.tmp 27) = _ from e27]; rw [show a.eval (.tmp 28) = _ from e28];  exact KUp.out wx) (fun w' hb => ⟨hC.on hb, NumStep.below hb, rfl, Done.pre (hinv.aheadT 3 (by kernel_rfl) hn (by decide) (by decide))⟩)
          · have e26 := hinv.got 0 _ 26 rfl (hdep ⟨0, .data⟩ (by simp) rfl) rfl; have e29 := hinv.got 3 _ 29 rfl (hdep ⟨3, .data⟩ (by simp) rfl) rfl
            exact duty_call (wanted_free rfl) (f := 136) (args := #[a.eval (.tmp 26), a.eval (.tmp 29)]) (by kernel_rfl) (by rw [show a.eval (.tmp 26) = _ from e26]; rw [show a.eval (.tmp 29) = _ from e29];  exact KSub.out wx) (fun w' hb => ⟨hC.on hb, NumStep.below hb, rfl, Done.pre (hinv.aheadT 3 (by kernel_rfl) hn (by decide) (by decide))⟩)
          · exact duty_value ((fun _ _ => NumStep.refl _ _)) hC (wanted_free rfl) (ex_move rfl) (hinv.got 4 _ 30 rfl (hdep ⟨4, .data⟩ (by simp) rfl) rfl) (Done.pre (hinv.aheadT 3 (by kernel_rfl) hn (by decide) (by decide)))
          · exact duty_value ((fun _ _ => NumStep.refl _ _)) hC (wanted_free rfl) (ex_extract rfl (hinv.got 5 _ 25 rfl (hdep ⟨5, .data⟩ (by simp) rfl) rfl) rfl) rfl (Done.pre (hinv.aheadT 3 (by kernel_rfl) hn (by decide) (by decide)))
          · exact duty_value ((fun _ _ => NumStep.refl _ _)) hC (wanted_free rfl) (ex_extract rfl (hinv.got 5 _ 25 rfl (hdep ⟨5, .data⟩ (by simp) rfl) rfl) rfl) rfl (Done.keep hI (by rw [hinv.size]; decide) (by decide) (by decide) fun _ h => h)
          · have hbel : Below wx.heap.size wx (wx.alloc (.cells (numC 0) 26)) := (Below.refl _ _).alloc (Nat.le_refl _) _
            exact duty_made (wanted_free rfl) (ex_alloc_num rfl) (hC.on hbel) (NumStep.below hbel) ⟨wx.heap.size, numC 0, hC.below.size, rfl, Has.new _ _, rfl⟩ (Done.pre (hinv.aheadT 3 (by kernel_rfl) hn (by decide) (by decide)))
          · obtain ⟨b, cs, hb, he, hh, hsz⟩ : Slot.ptr.holds wr.heap.size (a.eval (.tmp 9)) wx := hinv.got 8 _ 9 rfl (hdep ⟨8, .data⟩ (by simp) rfl) rfl
            exact duty_store (wanted_free rfl) (ex_store_num rfl he (hinv.got 6 _ 31 rfl (hdep ⟨6, .data⟩ (by simp) rfl) rfl) hh hsz) (hC.rowNew HD.out hT hb _) (NumStep.row hh) trivial (fun _ => ⟨b, hb, he, hh.row _⟩)
          · exact duty_value ((fun _ _ => NumStep.refl _ _)) hC (wanted_free rfl) (ex_assign rfl) (hinv.got 7 _ 32 rfl (hdep ⟨7, .data⟩ (by simp) rfl) rfl) (Done.keep hI (by rw [hinv.size]; decide) (by decide) (by decide) fun _ h => h)
        · intro listed act wx hall hinv
          obtain ⟨bN, hbN, e9, hN⟩ := hinv.i (hall 9 (by decide))
          have hC := hs.base hinv.c
          obtain ⟨u, hu⟩ : ∃ u : Nat → Value, ∀ t, u t = act.eval (.tmp t) := ⟨_, fun _ => rfl⟩
          rw [frame_quo act 47 u hinv.tsize hinv.defers hu]
          have f0 := hinv.old' 0 (by kernel_rfl)
          have f1 := hinv.old' 1 (by kernel_rfl)
          have f2 := hinv.old' 2 (by kernel_rfl)
          have f3 := hinv.old' 3 (by kernel_rfl)
          have f4 := hinv.old' 4 (by kernel_rfl)
          have f5 := hinv.old' 5 (by kernel_rfl)
          have f6 := hinv.old' 6 (by kernel_rfl)
          have f7 := hinv.old' 7 (by kernel_rfl)
          have f8 := hinv.old' 8 (by kernel_rfl)
          have f11 := hinv.old' 11 (by kernel_rfl)
          have f12 := hinv.old' 12 (by kernel_rfl)
          have f13 := hinv.old' 13 (by kernel_rfl)
          have f14 := hinv.old' 14 (by kernel_rfl)
          have f15 := hinv.old' 15 (by kernel_rfl)
          have f16 := hinv.old' 16 (by kernel_rfl)
          have f17 := hinv.old' 17 (by kernel_rfl)
          have f18 := hinv.old' 18 (by kernel_rfl)
          have f19 := hinv.old' 19 (by kernel_rfl)
          have f20 := hinv.old' 20 (by kernel_rfl)
          have f21 := hinv.old' 21 (by kernel_rfl)
          have f22 := hinv.old' 22 (by kernel_rfl)
          have f23 := hinv.old' 23 (by kernel_rfl)
          have f24 := hinv.old' 24 (by kernel_rfl)
          have f33 := hinv.old' 33 (by kernel_rfl)
          have f34 := hinv.old' 34 (by kernel_rfl)
          have f35 := hinv.old' 35 (by kernel_rfl)
          have f36 := hinv.old' 36 (by kernel_rfl)
          have f37 := hinv.old' 37 (by kernel_rfl)
          have f38 := hinv.old' 38 (by kernel_rfl)
          have f39 := hinv.old' 39 (by kernel_rfl)
          have f40 := hinv.old' 40 (by kernel_rfl)
          have f41 := hinv.old' 41 (by kernel_rfl)
          have f42 := hinv.old' 42 (by kernel_rfl)
          have f43 := hinv.old' 43 (by kernel_rfl)
          have f44 := hinv.old' 44 (by kernel_rfl)
          have f45 := hinv.old' 45 (by kernel_rfl)
          have f46 := hinv.old' 46 (by kernel_rfl)
          have f9 := e9
          have f10 := (hinv.got 10 _ 10 rfl (hall 10 (by decide)) rfl : act.eval (.tmp 10) = .bool true)
          simp only [← hu] at f0 f1 f2 f3 f4 f5 f6 f7 f8 f9 f10 f11 f12 f13 f14 f15 f16 f17 f18 f19 f20 f21 f22 f23 f24 f33 f34 f35 f36 f37 f38 f39 f40 f41 f42 f43 f44 f45 f46
          simp [Act.eval] at f0 f1 f2 f3 f4 f5 f6 f7 f8 f11 f12 f13 f14 f15 f16 f17 f18 f19 f20 f21 f22 f23 f24 f33 f34 f35 f36 f37 f38 f39 f40 f41 f42 f43 f44 f45 f46
          clear hu hinv hall
          show Exit.then _ _ _ (⟨#[u 0, u 1, u 2, u 3, u 4, u 5, u 6, u 7, u 8, u 9, u 10, u 11, u 12, u 13, u 14, u 15, u 16, u 17, u 18, u 19, u 20, u 21, u 22, u 23, u 24, u 25, u 26, u 27, u 28, u 29, u 30, u 31, u 32, u 33, u 34, u 35, u 36, u 37, u 38, u 39, u 40, u 41, u 42, u 43, u 44, u 45, u 46], []⟩ : Act) _
          rw [f0, f1, f2, f3, f4, f5, f6, f7, f8, f9, f10, f11, f12, f13, f14, f15, f16, f17, f18, f19, f20, f21, f22, f23, f24, f33, f34, f35, f36, f37, f38, f39, f40, f41, f42, f43, f44, f45, f46]
          clear f0 f1 f2 f3 f4 f5 f6 f7 f8 f9 f10 f11 f12 f13 f14 f15 f16 f17 f18 f19 f20 f21 f22 f23 f24 f33 f34 f35 f36 f37 f38 f39 f40 f41 f42 f43 f44 f45 f46
          clear hs hown hT hbN
          go_wp2_with fail
          go_roundw
          case rel =>
            refine ⟨_, _, hC, ?_⟩
            by_cases hk0 : k = 0
            · subst hk0
              exact .inr ⟨-1, by omega, rfl, HQN⟩
            · exact .inl ⟨k - 1, by omega, congrArg (Value.int .i64) (by omega), by rw [show k - 1 + 1 = k by omega]; exact HQN, Lib.hid fun j hj => HK.out j (by omega)⟩
          case measure => first | (simp [intOf]; done) | (simp [intOf]; omega)
    · go_wp2_with fail
      refine Rg2.wp_region_inv (by kernel_rfl) (fun w' => Qs w w' A B R S O T a b out rest) (fun i v w' => (endTab out rest i).holds w.heap.size v w') (fun l _ w' => DoneAt 2 R out l w' ∧ DoneAt 3 S rest l w') (NumStep w.heap.size) (fun _ _ => NumStep.refl _ _) (fun _ _ _ _ _ hs h => Slot.stays _ _ _ _ hs h) (by kernel_rfl) (hs.on (Below.refl _ _).drew) ?_ ?_ ?_
      · exact fun l hl => ⟨fun hk => (by rw [hl] at hk; cases hk), fun hk => (by rw [hl] at hk; cases hk)⟩
      · intro i o listed a wx ho hn hdep hinv
        have hC := hinv.c
        have hI := hinv.i
        have hi : i < 4 := (Array.getElem?_eq_some_iff.1 ho).1
        obtain rfl | rfl | rfl | rfl : i = 0 ∨ i = 1 ∨ i = 2 ∨ i = 3 := by omega
        all_goals obtain rfl := Option.some.inj ho
        · exact duty_value ((fun _ _ => NumStep.refl _ _)) hC (wanted_free rfl) (ex_load_num rfl (hinv.old' 6 (by kernel_rfl)) hC.o) rfl (⟨DoneAt.pre (hinv.aheadT 3 (by kernel_rfl) hn (by decide) (by decide)), DoneAt.pre (hinv.aheadT 3 (by kernel_rfl) hn (by decide) (by decide))⟩)
        · exact duty_value ((fun _ _ => NumStep.refl _ _)) hC (wanted_free rfl) (ex_load_num rfl (hinv.old' 7 (by kernel_rfl)) hC.t) rfl (⟨DoneAt.keep hI.1 (by rw [hinv.size]; decide) (by decide) (fun h => h), DoneAt.pre (hinv.aheadT 3 (by kernel_rfl) hn (by decide) (by decide))⟩)
        · obtain ⟨cs, hh, hsz⟩ := hC.r
          have he : a.eval (.tmp 4) = .pointer (some ⟨R, 0, none⟩) := hinv.old' 4 (by kernel_rfl)
          exact duty_store (wanted_free rfl) (ex_store_num rfl he (hinv.got 0 _ 45 rfl (hdep ⟨0, .data⟩ (by simp) rfl) rfl) hh hsz) (hC.putR HD.out _) (NumStep.row hh) trivial ⟨fun _ => hh.row _, DoneAt.pre (hinv.aheadT 3 (by kernel_rfl) hn (by decide) (by decide))⟩
        · obtain ⟨cs, hh, hsz⟩ := hC.s
          have he : a.eval (.tmp 5) = .pointer (some ⟨S, 0, none⟩) := hinv.old' 5 (by kernel_rfl)
          exact duty_store (wanted_free rfl) (ex_store_num rfl he (hinv.got 1 _ 46 rfl (hdep ⟨1, .data⟩ (by simp) rfl) rfl) hh hsz) (hC.putS HD.out _) (NumStep.row hh) trivial ⟨DoneAt.keep hI.1 (by rw [hinv.size]; decide) (by decide) (fun h => h.otherRow _ _ (by have := HD.out; unfold Apart at this; omega)), fun _ => hh.row _⟩
      · intro listed act wx hall hinv
        have hr := hinv.i.1 (hall 2 (by decide))
        have hsr := hinv.i.2 (hall 3 (by decide))
        have e4 : act.eval (.tmp 4) = .pointer (some ⟨R, 0, none⟩) := hinv.old' 4 (by kernel_rfl)
        have e5 : act.eval (.tmp 5) = .pointer (some ⟨S, 0, none⟩) := hinv.old' 5 (by kernel_rfl)
        have hbel := hinv.c.below
        have hdf := hinv.defers
        obtain ⟨tm, df⟩ := act
        obtain rfl : df = [] := hdf
        clear hinv hall
        go_wp2_with fail
        refine bodyPost_ret (v := .tuple #[.agg (numC out), .agg (numC rest)]) (num_results_cc Tryz.results123 _ _ _ _ _ e4 e5 hr hsr) rfl ⟨?_, hbel⟩
        obtain ⟨q1, q2⟩ := HQ.out.done
        rw [q1, q2]
end Go.Proofs.YthcebnfdapcllaaGreatDoor.NN
namespace Go.Proofs.YthcebnfdapcllaaGreatDoor.NN
open Go.RowKit Rg2
theorem less_isW (x y : Nat) (hx : x < Nm.big) (hy : y < Nm.big) (g : Bool) (hg : decide (x < y) = g) (w : World) : Calls Tryz.prog 73 #[.agg (numC x), .agg (numC y)] w fun e w' => e = .returned (.bool g) ∧ Below w.heap.size w w' := by
  rw [← hg]; exact less x y hx hy w
theorem zero_isW (x : Nat) (hx : x < Nm.big) (g : Bool) (hg : decide (x = 0) = g) (w : World) : Calls Tryz.prog 77 #[.agg (numC x)] w fun e w' => e = .returned (.bool g) ∧ Below w.heap.size w w' := by
  rw [← hg]; exact zero x hx w
theorem add_is (x y : Nat) (hx : x < Nm.big) (hy : y < Nm.big) (s : Nat) (g : Bool) (hs : (x + y) % Nm.big = s) (hg : decide (Nm.big ≤ x + y) = g) (w : World) : Calls Tryz.prog 118 #[.agg (numC x), .agg (numC y)] w fun e w' => e = .returned (.tuple #[.agg (numC s), .bool g]) ∧ Below w.heap.size w w' := by
  rw [← hg, ← hs]; exact add x y hx hy w
theorem one_is (w : World) : Calls Tryz.prog 121 #[.int .u64 1] w fun e w' => e = .returned (.agg (numC 1)) ∧ Below w.heap.size w w' := of 1 (by decide) w
theorem build2 (x y : Nat) (w : World) : (Instr.buildSlice 156 2 #[(0, .agg (numC x)), (1, .agg (numC y))]).run Tryz.prog w = .ok (.slice (some ⟨w.heap.size, 0, none⟩) 2 2) (w.alloc (.cells (numRow [x, y]) 26)) := by kernel_rfl
theorem ex_build2 {ρ : Operand → Value} {o : Oper} {w : World} {p0 p1 : Operand} (ho : o.op = .buildSlice 156 2 #[(0, p0), (1, p1)]) {x y : Nat} (h0 : ρ p0 = .agg (numC x)) (h1 : ρ p1 = .agg (numC y)) :
    (execOp ρ o).run Tryz.prog w = .ok (.value (.slice (some ⟨w.heap.size, 0, none⟩) 2 2)) (w.alloc (.cells (numRow [x, y]) 26)) := by
  unfold execOp
  simp only [ho, Sem.run_bind]
  rw [show (#[(0, p0), (1, p1)] : Array (Nat × Operand)).map (fun (i, x) => (i, ρ x)) = #[(0, .agg (numC x)), (1, .agg (numC y))] by simp [h0, h1]]
  rw [build2 x y w]; rfl
theorem build_num2 {ops : Array Oper} {rest : List Oper} {o : Oper} {a : Act} {w : World} {Q : Exit → Act → World → Prop} (hgd : o.guard = none) (p0 p1 : Operand) (ho : o.op = .buildSlice 156 2 #[(0, p0), (1, p1)]) (x y : Nat) (h0 : a.eval p0 = .agg (numC x)) (h1 : a.eval p1 = .agg (numC y))
    (h : wpList Tryz.prog ops Q rest (a.put o.dst (.slice (some ⟨w.heap.size, 0, none⟩) 2 2)) (w.alloc (.cells (numRow [x, y]) 26))) : wpList Tryz.prog ops Q (o :: rest) a w :=
  wpList_plain hgd fun _ hK => by
    unfold Oper.wp
    rw [ex_build2 ho h0 h1]
    exact hK _ _ h
end Go.Proofs.YthcebnfdapcllaaGreatDoor.NN
namespace Go.Proofs.YthcebnfdapcllaaGreatDoor.NN
open Go.RowKit Rg2
namespace Nm
def cap (n : Nat) : Nat := if n < big then n else big - 1
theorem cap_lt (n : Nat) : cap n < big := by 
  have : 0 < big := by decide
  unfold cap; split <;> omega
def work (t : Nat) : Nat := cap (big / (t + 1))
theorem work_lt (t : Nat) : work t < big := cap_lt _
theorem work_top {t : Nat} (h : t + 1 = big) : work t = 1 := by
  unfold work; rw [h, Nat.div_self (by decide)]; decide
theorem work_mid {t : Nat} (h : t + 1 < big) : work t = cap ((big - 1 - t) / (t + 1) + 1) := by
  unfold work
  rw [show big = (big - 1 - t) + (t + 1) by omega, Nat.add_div_right _ (by omega)]
  rw [show (big - 1 - t) + (t + 1) = big by omega]
end Nm
def ofBits (b : Int) : Nat := if 0 ≤ b ∧ b ≤ 4294967295 then (if Nm.decLow b.toNat || Nm.decOver b.toNat || decide (Nm.decN b.toNat = 0) then 0 else Nm.work (Nm.decN b.toNat)) else 0
theorem ofBits_lt (b : Int) : ofBits b < Nm.big := by
  unfold ofBits; split
  · split
    · decide
    · exact Nm.work_lt _
  · decide
theorem sum2 (x y : Nat) (hx : x < Nm.big) : sumTo [x, y] 2 = (x + y) % Nm.big := by
  simp [sumTo, item, Nat.mod_eq_of_lt hx]
theorem over2 (x y : Nat) (hx : x < Nm.big) : overTo [x, y] 2 = decide (Nm.big ≤ x + y) := by
  have h : ¬ Nm.big ≤ x := by omega
  simp [overTo, sumTo, item, Nat.mod_eq_of_lt hx, h]
set_option maxRecDepth 100000 in
set_option maxHeartbeats 2000000 in
theorem wsum_over (b n s : Nat) (xs : List Nat) (KS : Hid (∀ w, Has w b (numRow xs) 26 → Calls Tryz.prog 100 #[.slice (some ⟨b, 0, none⟩) n n] w fun e w' => e = .returned (.tuple #[.agg (numC s), .bool true]) ∧ Below w.heap.size w w')) (w : World) :
    Has w b (numRow xs) 26 → Calls Tryz.prog 68 #[.slice (some ⟨b, 0, none⟩) n n] w fun e w' => e = .returned (.agg (numC (Nm.big - 1))) ∧ Below w.heap.size w w' := by
  intro hL
  go_enter Tryz.func68, Tryz.ntmps68
  go_upto_region 1 with fail
  generalize hw0 : World.alloc _ _ = v0
  have hbel : Below w.heap.size w v0 := by rw [← hw0]; exact (Below.refl _ _).alloc (by first | exact Nat.le_refl _ | (simp; done) | (simp; omega)) _
  have hR : Has v0 (w.heap.size) (numC 0) 26 := by rw [← hw0]; exact Has.new (numC 0) _
  have hR_le : Hid (w.heap.size ≤ w.heap.size) := Lib.hid (by omega)
  replace hL := hL.on hbel
  clear hw0
  go_wp2_with (first | fail | (with_reducible refine num_load rfl _ rfl _ rfl _ hR rfl ?_))
  refine (KS.out _ hL).mono ?_
  rintro e v1 ⟨rfl, hb1⟩
  replace hR := hR.on hb1
  replace hL := hL.on hb1
  replace hbel := hbel.trans (hb1.mono hbel.size)
  clear hb1
  go_upto_region 2 with (with_reducible refine num_store rfl _ _ rfl _ _ rfl rfl _ (Has.newz _) rfl ?_)
  generalize hw2 : World.setRow _ _ _ = v2
  have hb2 : Below v1.heap.size v1 v2 := by rw [← hw2]; exact below_setRow ((Below.refl _ _).alloc (Nat.le_refl _) _) (Nat.le_refl _) _
  have hS : Has v2 v1.heap.size (numC s) 26 := by rw [← hw2]; exact (Has.newz _).row _
  replace hR := hR.on hb2
  replace hL := hL.on hb2
  replace hbel := hbel.trans (hb2.mono hbel.size)
  clear hw2 hb2
  generalize v1.heap.size = b_hS at hS ⊢
  go_wp2_with (first | fail | (with_reducible refine num_load rfl _ rfl _ rfl _ hR rfl ?_) | (with_reducible refine num_load rfl _ rfl _ rfl _ hS rfl ?_))
  refine (most _).mono ?_
  rintro e v3 ⟨rfl, hb3⟩
  replace hR := hR.on hb3
  replace hS := hS.on hb3
  replace hL := hL.on hb3
  replace hbel := hbel.trans (hb3.mono hbel.size)
  clear hb3
  go_wp2_with (first | (with_reducible refine num_load rfl _ rfl _ rfl _ hR rfl ?_) | (with_reducible refine num_load rfl _ rfl _ rfl _ hS rfl ?_) | (with_reducible refine num_store rfl _ _ rfl _ _ rfl rfl _ hR rfl ?_))
  exact bodyPost_ret (v := .agg (numC (Nm.big - 1))) (num_results Tryz.results68 _ _ _ rfl (hR.row _)) rfl ⟨rfl, below_setRow hbel hR_le.out _⟩
set_option maxRecDepth 100000 in
set_option maxHeartbeats 2000000 in
theorem wsum_in (b n s : Nat) (xs : List Nat) (KS : Hid (∀ w, Has w b (numRow xs) 26 → Calls Tryz.prog 100 #[.slice (some ⟨b, 0, none⟩) n n] w fun e w' => e = .returned (.tuple #[.agg (numC s), .bool false]) ∧ Below w.heap.size w w')) (w : World) :
    Has w b (numRow xs) 26 → Calls Tryz.prog 68 #[.slice (some ⟨b, 0, none⟩) n n] w fun e w' => e = .returned (.agg (numC (s))) ∧ Below w.heap.size w w' := by
  intro hL
  go_enter Tryz.func68, Tryz.ntmps68
  go_upto_region 1 with fail
  generalize hw0 : World.alloc _ _ = v0
  have hbel : Below w.heap.size w v0 := by rw [← hw0]; exact (Below.refl _ _).alloc (by first | exact Nat.le_refl _ | (simp; done) | (simp; omega)) _
  have hR : Has v0 (w.heap.size) (numC 0) 26 := by rw [← hw0]; exact Has.new (numC 0) _
  have hR_le : Hid (w.heap.size ≤ w.heap.size) := Lib.hid (by omega)
  replace hL := hL.on hbel
  clear hw0
  go_wp2_with (first | fail | (with_reducible refine num_load rfl _ rfl _ rfl _ hR rfl ?_))
  refine (KS.out _ hL).mono ?_
  rintro e v1 ⟨rfl, hb1⟩
  replace hR := hR.on hb1
  replace hL := hL.on hb1
  replace hbel := hbel.trans (hb1.mono hbel.size)
  clear hb1
  go_upto_region 2 with (with_reducible refine num_store rfl _ _ rfl _ _ rfl rfl _ (Has.newz _) rfl ?_)
  generalize hw2 : World.setRow _ _ _ = v2
  have hb2 : Below v1.heap.size v1 v2 := by rw [← hw2]; exact below_setRow ((Below.refl _ _).alloc (Nat.le_refl _) _) (Nat.le_refl _) _
  have hS : Has v2 v1.heap.size (numC s) 26 := by rw [← hw2]; exact (Has.newz _).row _
  replace hR := hR.on hb2
  replace hL := hL.on hb2
  replace hbel := hbel.trans (hb2.mono hbel.size)
  clear hw2 hb2
  generalize v1.heap.size = b_hS at hS ⊢
  go_wp2_with (first | (with_reducible refine num_load rfl _ rfl _ rfl _ hR rfl ?_) | (with_reducible refine num_load rfl _ rfl _ rfl _ hS rfl ?_) | (with_reducible refine num_store rfl _ _ rfl _ _ rfl rfl _ hR rfl ?_))
  exact bodyPost_ret (v := .agg (numC (s))) (num_results Tryz.results68 _ _ _ rfl (hR.row _)) rfl ⟨rfl, below_setRow hbel hR_le.out _⟩
theorem wsum (b n : Nat) (xs : List Nat) (hx : ∀ x ∈ xs, x < Nm.big) (hn : n = xs.length) (hm : n ≤ 1000) (w : World) (hL : Has w b (numRow xs) 26) :
    Calls Tryz.prog 68 #[.slice (some ⟨b, 0, none⟩) n n] w fun e w' => e = .returned (.agg (numC (if overTo xs n then Nm.big - 1 else sumTo xs n))) ∧ Below w.heap.size w w' := by
  have hS := fun w => sum b xs hx n hn hm w
  generalize overTo xs n = o at *
  cases o
  · exact wsum_in b n _ xs (Lib.hid hS) w hL
  · exact wsum_over b n _ xs (Lib.hid hS) w hL
theorem wsum2 (x y : Nat) (hx : x < Nm.big) (hy : y < Nm.big) (z : Nat) (hz : Nm.cap (x + y) = z) (b : Nat) (w : World) (hL : Has w b (numRow [x, y]) 26) :
    Calls Tryz.prog 68 #[.slice (some ⟨b, 0, none⟩) 2 2] w fun e w' => e = .returned (.agg (numC z)) ∧ Below w.heap.size w w' := by
  have h := wsum b 2 [x, y] (by simp; exact ⟨hx, hy⟩) rfl (by omega) w hL
  rw [sum2 x y hx, over2 x y hx] at h
  rw [← hz]
  unfold Nm.cap
  by_cases hb : x + y < Nm.big
  · rw [decide_eq_false (by omega : ¬ Nm.big ≤ x + y), Nat.mod_eq_of_lt hb] at h
    rw [if_pos hb]; exact h
  · rw [decide_eq_true (by omega : Nm.big ≤ x + y)] at h
    rw [if_neg hb]; exact h
set_option maxRecDepth 100000 in
set_option maxHeartbeats 2000000 in
theorem of_top (t : Nat) (KOne : Hid (∀ w, Calls Tryz.prog 121 #[.int .u64 1] w fun e w' => e = .returned (.agg (numC 1)) ∧ Below w.heap.size w w'))
    (KAdd : Hid (∀ w, Calls Tryz.prog 118 #[.agg (numC t), .agg (numC 1)] w fun e w' => e = .returned (.tuple #[.agg (numC 0), .bool true]) ∧ Below w.heap.size w w')) (w : World) :
    Calls Tryz.prog 103 #[.agg (numC t)] w fun e w' => e = .returned (.agg (numC 1)) ∧ Below w.heap.size w w' := by
  go_enter Tryz.func103, Tryz.ntmps103
  go_upto_region 1 with fail
  generalize hw0 : World.alloc _ _ = v0
  have hbel : Below w.heap.size w v0 := by rw [← hw0]; exact ((Below.refl _ _).alloc (by first | exact Nat.le_refl _ | (simp; done) | (simp; omega)) _).alloc (by first | exact Nat.le_refl _ | (simp; done) | (simp; omega)) _
  have hA : Has v0 (w.heap.size) (numC t) 26 := by rw [← hw0]; exact (Has.new _ _).alloc _
  have hR : Has v0 (w.heap.size + 1) (numC 0) 26 := by rw [← hw0]; exact Has.new1 _ (numC 0) _
  have hR_le : Hid (w.heap.size ≤ w.heap.size + 1) := Lib.hid (by omega)
  clear hw0
  generalize hg1 : w.heap.size + 1 = b_hR at hR hR_le ⊢
  clear hg1
  go_wp2_with (first | fail | (with_reducible refine num_load rfl _ rfl _ rfl _ hA rfl ?_) | (with_reducible refine num_load rfl _ rfl _ rfl _ hR rfl ?_))
  refine (KOne.out _).mono ?_
  rintro e v1 ⟨rfl, hb1⟩
  replace hA := hA.on hb1
  replace hR := hR.on hb1
  replace hbel := hbel.trans (hb1.mono hbel.size)
  clear hb1
  go_upto_region 2 with (with_reducible refine num_store rfl _ _ rfl _ _ rfl rfl _ (Has.newz _) rfl ?_)
  generalize hw2 : World.setRow _ _ _ = v2
  have hb2 : Below v1.heap.size v1 v2 := by rw [← hw2]; exact below_setRow ((Below.refl _ _).alloc (Nat.le_refl _) _) (Nat.le_refl _) _
  have hO : Has v2 v1.heap.size (numC 1) 26 := by rw [← hw2]; exact (Has.newz _).row _
  replace hA := hA.on hb2
  replace hR := hR.on hb2
  replace hbel := hbel.trans (hb2.mono hbel.size)
  clear hw2 hb2
  generalize v1.heap.size = b_hO at hO ⊢
  go_wp2_with (first | fail | (with_reducible refine num_load rfl _ rfl _ rfl _ hA rfl ?_) | (with_reducible refine num_load rfl _ rfl _ rfl _ hR rfl ?_) | (with_reducible refine num_load rfl _ rfl _ rfl _ hO rfl ?_))
  refine (KAdd.out _).mono ?_
  rintro e v3 ⟨rfl, hb3⟩
  replace hA := hA.on hb3
  replace hR := hR.on hb3
  replace hO := hO.on hb3
  replace hbel := hbel.trans (hb3.mono hbel.size)
  clear hb3
  go_upto_region 3 with (with_reducible refine num_store rfl _ _ rfl _ _ rfl rfl _ (Has.newz _) rfl ?_)
  generalize hw4 : World.setRow _ _ _ = v4
  have hb4 : Below v3.heap.size v3 v4 := by rw [← hw4]; exact below_setRow ((Below.refl _ _).alloc (Nat.le_refl _) _) (Nat.le_refl _) _
  have hM : Has v4 v3.heap.size (numC 0) 26 := by rw [← hw4]; exact (Has.newz _).row _
  replace hA := hA.on hb4
  replace hR := hR.on hb4
  replace hO := hO.on hb4
  replace hbel := hbel.trans (hb4.mono hbel.size)
  clear hw4 hb4
  generalize v3.heap.size = b_hM at hM ⊢
  go_wp2_with (first | (with_reducible refine num_load rfl _ rfl _ rfl _ hA rfl ?_) | (with_reducible refine num_load rfl _ rfl _ rfl _ hR rfl ?_) | (with_reducible refine num_load rfl _ rfl _ rfl _ hO rfl ?_) | (with_reducible refine num_load rfl _ rfl _ rfl _ hM rfl ?_) | (with_reducible refine num_store rfl _ _ rfl _ _ rfl rfl _ hR rfl ?_))
  exact bodyPost_ret (v := .agg (numC (1))) (num_results Tryz.results103 _ _ _ rfl (hR.row _)) rfl ⟨rfl, below_setRow hbel hR_le.out _⟩
def ofTab (t n m q r : Nat) : Nat → Slot
  | 0 => .val (.agg (numC t))
  | 1 => .val (.agg (numC n))
  | 2 => .val (.agg (numC m))
  | 3 => .val (.tuple #[.agg (numC q), .agg (numC r)])
  | 4 => .val (.tuple #[.agg (numC q), .agg (numC r)])
  | 5 => .val (.agg (numC q))
  | 6 => .val (.agg (numC r))
  | 7 => .ptr
  | 8 => .ptr
  | _ => .any
set_option maxRecDepth 100000 in
set_option maxHeartbeats 2000000 in
theorem of_mid (t n m q r z : Nat) (KOne : Hid (∀ w, Calls Tryz.prog 121 #[.int .u64 1] w fun e w' => e = .returned (.agg (numC 1)) ∧ Below w.heap.size w w'))
    (KAdd : Hid (∀ w, Calls Tryz.prog 118 #[.agg (numC t), .agg (numC 1)] w fun e w' => e = .returned (.tuple #[.agg (numC m), .bool false]) ∧ Below w.heap.size w w')) (KNot : Hid (∀ w, Calls Tryz.prog 124 #[.agg (numC t)] w fun e w' => e = .returned (.agg (numC n)) ∧ Below w.heap.size w w'))
    (KQuo : Hid (∀ w, Calls Tryz.prog 123 #[.agg (numC n), .agg (numC m)] w fun e w' => e = .returned (.tuple #[.agg (numC q), .agg (numC r)]) ∧ Below w.heap.size w w'))
    (KSum : Hid (∀ b w, Has w b (numRow [q, 1]) 26 → Calls Tryz.prog 68 #[.slice (some ⟨b, 0, none⟩) 2 2] w fun e w' => e = .returned (.agg (numC z)) ∧ Below w.heap.size w w')) (w : World) :
    Calls Tryz.prog 103 #[.agg (numC t)] w fun e w' => e = .returned (.agg (numC z)) ∧ Below w.heap.size w w' := by
  go_enter Tryz.func103, Tryz.ntmps103
  go_upto_region 1 with fail
  generalize hw0 : World.alloc _ _ = v0
  have hbel : Below w.heap.size w v0 := by rw [← hw0]; exact ((Below.refl _ _).alloc (by first | exact Nat.le_refl _ | (simp; done) | (simp; omega)) _).alloc (by first | exact Nat.le_refl _ | (simp; done) | (simp; omega)) _
  have hA : Has v0 (w.heap.size) (numC t) 26 := by rw [← hw0]; exact (Has.new _ _).alloc _
  have hR : Has v0 (w.heap.size + 1) (numC 0) 26 := by rw [← hw0]; exact Has.new1 _ (numC 0) _
  have hR_le : Hid (w.heap.size ≤ w.heap.size + 1) := Lib.hid (by omega)
  clear hw0
  generalize hg1 : w.heap.size + 1 = b_hR at hR hR_le ⊢
  clear hg1
  go_wp2_with (first | fail | (with_reducible refine num_load rfl _ rfl _ rfl _ hA rfl ?_) | (with_reducible refine num_load rfl _ rfl _ rfl _ hR rfl ?_))
  refine (KOne.out _).mono ?_
  rintro e v1 ⟨rfl, hb1⟩
  replace hA := hA.on hb1
  replace hR := hR.on hb1
  replace hbel := hbel.trans (hb1.mono hbel.size)
  clear hb1
  go_upto_region 2 with (with_reducible refine num_store rfl _ _ rfl _ _ rfl rfl _ (Has.newz _) rfl ?_)
  generalize hw2 : World.setRow _ _ _ = v2
  have hb2 : Below v1.heap.size v1 v2 := by rw [← hw2]; exact below_setRow ((Below.refl _ _).alloc (Nat.le_refl _) _) (Nat.le_refl _) _
  have hO : Has v2 v1.heap.size (numC 1) 26 := by rw [← hw2]; exact (Has.newz _).row _
  replace hA := hA.on hb2
  replace hR := hR.on hb2
  replace hbel := hbel.trans (hb2.mono hbel.size)
  clear hw2 hb2
  generalize v1.heap.size = b_hO at hO ⊢
  go_wp2_with (first | fail | (with_reducible refine num_load rfl _ rfl _ rfl _ hA rfl ?_) | (with_reducible refine num_load rfl _ rfl _ rfl _ hR rfl ?_) | (with_reducible refine num_load rfl _ rfl _ rfl _ hO rfl ?_))
  refine (KAdd.out _).mono ?_
  rintro e v3 ⟨rfl, hb3⟩
  replace hA := hA.on hb3
  replace hR := hR.on hb3
  replace hO := hO.on hb3
  replace hbel := hbel.trans (hb3.mono hbel.size)
  clear hb3
  go_upto_region 3 with (with_reducible refine num_store rfl _ _ rfl _ _ rfl rfl _ (Has.newz _) rfl ?_)
  generalize hw4 : World.setRow _ _ _ = v4
  have hb4 : Below v3.heap.size v3 v4 := by rw [← hw4]; exact below_setRow ((Below.refl _ _).alloc (Nat.le_refl _) _) (Nat.le_refl _) _
  have hM : Has v4 v3.heap.size (numC m) 26 := by rw [← hw4]; exact (Has.newz _).row _
  replace hA := hA.on hb4
  replace hR := hR.on hb4
  replace hO := hO.on hb4
  replace hbel := hbel.trans (hb4.mono hbel.size)
  clear hw4 hb4
  generalize v3.heap.size = b_hM at hM ⊢
  go_wp2_with fail
  refine Rg2.wp_region_inv (by kernel_rfl) (fun w' => Below v4.heap.size v4 w') (fun i v' w' => (ofTab t n m q r i).holds v4.heap.size v' w') (fun l a w' => (Done 9 6 v4.heap.size q l a w' ∧ Done 10 7 v4.heap.size r l a w') ∧ Dist 7 6 8 7 l a) (NumStep v4.heap.size) (fun _ _ => NumStep.refl _ _) (fun _ _ _ _ _ hs h => Slot.stays _ _ _ _ hs h) (by kernel_rfl) (Below.refl _ _).drew ?_ ?_ ?_
  · exact fun l hl => ⟨⟨fun hk => (by rw [hl] at hk; cases hk), fun hk => (by rw [hl] at hk; cases hk)⟩, fun hk _ => (by rw [hl] at hk; cases hk)⟩
  · intro i o listed a wx ho hn hdep hinv
    have hC := hinv.c
    have hI := hinv.i
    have hi : i < 11 := (Array.getElem?_eq_some_iff.1 ho).1
    obtain rfl | rfl | rfl | rfl | rfl | rfl | rfl | rfl | rfl | rfl | rfl : i = 0 ∨ i = 1 ∨ i = 2 ∨ i = 3 ∨ i = 4 ∨ i = 5 ∨ i = 6 ∨ i = 7 ∨ i = 8 ∨ i = 9 ∨ i = 10 := by omega
    all_goals obtain rfl := Option.some.inj ho
    · exact duty_value ((fun _ _ => NumStep.refl _ _)) hC (wanted_free rfl) (ex_load_num rfl (hinv.old' 1 (by kernel_rfl)) (hA.on hC)) rfl (⟨⟨Done.pre (hinv.aheadT 8 (by kernel_rfl) hn (by decide) (by decide)), Done.pre (hinv.aheadT 8 (by kernel_rfl) hn (by decide) (by decide))⟩, Dist.keep hI.2 (by rw [hinv.size]; decide) (by decide) (by decide) (by decide) (by decide)⟩)
    · have e18 := hinv.got 0 _ 18 rfl (hdep ⟨0, .data⟩ (by simp) rfl) rfl
      exact duty_call (wanted_free rfl) (f := 124) (args := #[a.eval (.tmp 18)]) (by kernel_rfl) (by rw [show a.eval (.tmp 18) = _ from e18];  exact KNot.out wx) (fun w' hb => ⟨hC.trans (hb.mono hC.size), NumStep.below hb, rfl, ⟨⟨Done.pre (hinv.aheadT 8 (by kernel_rfl) hn (by decide) (by decide)), Done.pre (hinv.aheadT 8 (by kernel_rfl) hn (by decide) (by decide))⟩, Dist.keep hI.2 (by rw [hinv.size]; decide) (by decide) (by decide) (by decide) (by decide)⟩⟩)
    · exact duty_value ((fun _ _ => NumStep.refl _ _)) hC (wanted_free rfl) (ex_load_num rfl (hinv.old' 4 (by kernel_rfl)) (hM.on hC)) rfl (⟨⟨Done.pre (hinv.aheadT 8 (by kernel_rfl) hn (by decide) (by decide)), Done.pre (hinv.aheadT 8 (by kernel_rfl) hn (by decide) (by decide))⟩, Dist.keep hI.2 (by rw [hinv.size]; decide) (by decide) (by decide) (by decide) (by decide)⟩)
    · have e19 := hinv.got 1 _ 19 rfl (hdep ⟨1, .data⟩ (by simp) rfl) rfl; have e20 := hinv.got 2 _ 20 rfl (hdep ⟨2, .data⟩ (by simp) rfl) rfl
      exact duty_call (wanted_free rfl) (f := 123) (args := #[a.eval (.tmp 19), a.eval (.tmp 20)]) (by kernel_rfl) (by rw [show a.eval (.tmp 19) = _ from e19]; rw [show a.eval (.tmp 20) = _ from e20];  exact KQuo.out wx) (fun w' hb => ⟨hC.trans (hb.mono hC.size), NumStep.below hb, rfl, ⟨⟨Done.pre (hinv.aheadT 8 (by kernel_rfl) hn (by decide) (by decide)), Done.pre (hinv.aheadT 8 (by kernel_rfl) hn (by decide) (by decide))⟩, Dist.keep hI.2 (by rw [hinv.size]; decide) (by decide) (by decide) (by decide) (by decide)⟩⟩)
    · exact duty_value ((fun _ _ => NumStep.refl _ _)) hC (wanted_free rfl) (ex_move rfl) (hinv.got 3 _ 21 rfl (hdep ⟨3, .data⟩ (by simp) rfl) rfl) (⟨⟨Done.pre (hinv.aheadT 8 (by kernel_rfl) hn (by decide) (by decide)), Done.pre (hinv.aheadT 8 (by kernel_rfl) hn (by decide) (by decide))⟩, Dist.keep hI.2 (by rw [hinv.size]; decide) (by decide) (by decide) (by decide) (by decide)⟩)
    · exact duty_value ((fun _ _ => NumStep.refl _ _)) hC (wanted_free rfl) (ex_extract rfl (hinv.got 4 _ 17 rfl (hdep ⟨4, .data⟩ (by simp) rfl) rfl) rfl) rfl (⟨⟨Done.pre (hinv.aheadT 8 (by kernel_rfl) hn (by decide) (by decide)), Done.pre (hinv.aheadT 8 (by kernel_rfl) hn (by decide) (by decide))⟩, Dist.keep hI.2 (by rw [hinv.size]; decide) (by decide) (by decide) (by decide) (by decide)⟩)
    · exact duty_value ((fun _ _ => NumStep.refl _ _)) hC (wanted_free rfl) (ex_extract rfl (hinv.got 4 _ 17 rfl (hdep ⟨4, .data⟩ (by simp) rfl) rfl) rfl) rfl (⟨⟨Done.keep hI.1.1 (by rw [hinv.size]; decide) (by decide) (by decide) (fun _ h => h), Done.pre (hinv.aheadT 8 (by kernel_rfl) hn (by decide) (by decide))⟩, Dist.keep hI.2 (by rw [hinv.size]; decide) (by decide) (by decide) (by decide) (by decide)⟩)
    · have hbel' : Below wx.heap.size wx (wx.alloc (.cells (numC 0) 26)) := (Below.refl _ _).alloc (Nat.le_refl _) _
      exact duty_made (wanted_free rfl) (ex_alloc_num rfl) (hC.trans (hbel'.mono hC.size)) (NumStep.below hbel') ⟨wx.heap.size, numC 0, hC.size, rfl, Has.new _ _, rfl⟩ (⟨⟨Done.pre (hinv.aheadT 8 (by kernel_rfl) hn (by decide) (by decide)), Done.pre (hinv.aheadT 8 (by kernel_rfl) hn (by decide) (by decide))⟩, Dist.fst (B := v4.heap.size) (fun l => hinv.got 8 _ 7 rfl l rfl) (by rw [hinv.size]; decide) (by decide) (by decide) (by rw [hinv.tsize]; exact (by decide : 6 < 28))⟩)
    · have hbel' : Below wx.heap.size wx (wx.alloc (.cells (numC 0) 26)) := (Below.refl _ _).alloc (Nat.le_refl _) _
      exact duty_made (wanted_free rfl) (ex_alloc_num rfl) (hC.trans (hbel'.mono hC.size)) (NumStep.below hbel') ⟨wx.heap.size, numC 0, hC.size, rfl, Has.new _ _, rfl⟩ (⟨⟨Done.keep hI.1.1 (by rw [hinv.size]; decide) (by decide) (by decide) (fun _ h => h.on hbel'), Done.pre (hinv.aheadT 8 (by kernel_rfl) hn (by decide) (by decide))⟩, Dist.snd (B := v4.heap.size) (fun l => hinv.got 7 _ 6 rfl l rfl) (by rw [hinv.size]; decide) (by decide) (by decide) (by rw [hinv.tsize]; exact (by decide : 7 < 28))⟩)
    · obtain ⟨b, cs, hb, he, hh, hsz⟩ : Slot.ptr.holds v4.heap.size (a.eval (.tmp 6)) wx := hinv.got 7 _ 6 rfl (hdep ⟨7, .data⟩ (by simp) rfl) rfl
      exact duty_store (wanted_free rfl) (ex_store_num rfl he (hinv.got 5 _ 22 rfl (hdep ⟨5, .data⟩ (by simp) rfl) rfl) hh hsz) (below_setRow hC hb _) (NumStep.row hh) trivial ⟨⟨fun _ => ⟨b, hb, he, hh.row _⟩, Done.pre (hinv.aheadT 8 (by kernel_rfl) hn (by decide) (by decide))⟩, Dist.keep hI.2 (by rw [hinv.size]; decide) (by decide) (by decide) (by decide) (by decide)⟩
    · obtain ⟨b, cs, hb, he, hh, hsz⟩ : Slot.ptr.holds v4.heap.size (a.eval (.tmp 7)) wx := hinv.got 8 _ 7 rfl (hdep ⟨8, .data⟩ (by simp) rfl) rfl
      have l10 : listed.getD 7 false = true := hinv.after (k := 9) (by kernel_rfl) (hdep ⟨9, .phase⟩ (by simp) rfl)
      have l11 : listed.getD 8 false = true := hdep ⟨8, .data⟩ (by simp) rfl
      have hne := hI.2 l10 l11
      refine duty_store (wanted_free rfl) (ex_store_num rfl he (hinv.got 6 _ 23 rfl (hdep ⟨6, .data⟩ (by simp) rfl) rfl) hh hsz) (below_setRow hC hb _) (NumStep.row hh) trivial ⟨⟨fun hl => ?_, fun _ => ⟨b, hb, he, hh.row _⟩⟩, Dist.keep hI.2 (by rw [hinv.size]; decide) (by decide) (by decide) (by decide) (by decide)⟩
      rw [getD_set _ _ _ (by rw [hinv.size]; decide), if_neg (by decide)] at hl
      obtain ⟨b', hb', he', hh'⟩ := hI.1.1 hl
      exact ⟨b', hb', he', hh'.otherRow _ _ (fun e => hne (by rw [he', he, e]))⟩
  · intro listed a wx hall hinv
    have hC := hinv.c
    obtain ⟨b_hQ, hb_hQ, e6, hQ⟩ := hinv.i.1.1 (hall 9 (by decide))
    obtain ⟨b_hT, hb_hT, e7, hT⟩ := hinv.i.1.2 (hall 10 (by decide))
    have e2 : a.eval (.tmp 2) = .pointer (some ⟨b_hR, 0, none⟩) := hinv.old' 2 (by kernel_rfl)
    have e3 : a.eval (.tmp 3) = .pointer (some ⟨b_hO, 0, none⟩) := hinv.old' 3 (by kernel_rfl)
    replace hA := hA.on hC
    replace hR := hR.on hC
    replace hO := hO.on hC
    replace hM := hM.on hC
    replace hbel := hbel.trans (hC.mono hbel.size)
    obtain ⟨u, hu⟩ : ∃ u : Nat → Value, ∀ t, u t = a.eval (.tmp t) := ⟨_, fun _ => rfl⟩
    rw [frame_backW a 28 u hinv.tsize hinv.defers hu]
    rw [← hu] at e2 e3 e6 e7
    clear hu hinv hall hC hb_hQ hb_hT
    show Exit.then _ _ _ (⟨#[u 0, u 1, u 2, u 3, u 4, u 5, u 6, u 7, u 8, u 9, u 10, u 11, u 12, u 13, u 14, u 15, u 16, u 17, u 18, u 19, u 20, u 21, u 22, u 23, u 24, u 25, u 26, u 27], []⟩ : Act) _
    rw [e2, e3, e6, e7]
    clear e2 e3 e6 e7
    go_wp2_with (first | fail | (with_reducible refine num_load rfl _ rfl _ rfl _ hA rfl ?_) | (with_reducible refine num_load rfl _ rfl _ rfl _ hR rfl ?_) | (with_reducible refine num_load rfl _ rfl _ rfl _ hO rfl ?_) | (with_reducible refine num_load rfl _ rfl _ rfl _ hM rfl ?_) | (with_reducible refine num_load rfl _ rfl _ rfl _ hQ rfl ?_) | (with_reducible refine num_load rfl _ rfl _ rfl _ hT rfl ?_) | (with_reducible refine build_num2 rfl _ _ rfl _ _ rfl rfl ?_))
    refine (KSum.out _ _ (Has.new _ _)).mono ?_
    rintro e v_s ⟨rfl, hbs⟩
    have hbs2 : Below wx.heap.size wx v_s := ((Below.refl _ _).alloc (Nat.le_refl _) _).trans (hbs.mono (by simp))
    replace hA := hA.on hbs2
    replace hR := hR.on hbs2
    replace hO := hO.on hbs2
    replace hM := hM.on hbs2
    replace hQ := hQ.on hbs2
    replace hT := hT.on hbs2
    replace hbel := hbel.trans (hbs2.mono hbel.size)
    clear hbs hbs2
    go_wp2_with (first | (with_reducible refine num_load rfl _ rfl _ rfl _ hA rfl ?_) | (with_reducible refine num_load rfl _ rfl _ rfl _ hR rfl ?_) | (with_reducible refine num_load rfl _ rfl _ rfl _ hO rfl ?_) | (with_reducible refine num_load rfl _ rfl _ rfl _ hM rfl ?_) | (with_reducible refine num_load rfl _ rfl _ rfl _ hQ rfl ?_) | (with_reducible refine num_load rfl _ rfl _ rfl _ hT rfl ?_) | (with_reducible refine num_store rfl _ _ rfl _ _ rfl rfl _ hR rfl ?_))
    exact bodyPost_ret (v := .agg (numC (z))) (num_results Tryz.results103 _ _ _ rfl (hR.row _)) rfl ⟨rfl, below_setRow hbel hR_le.out _⟩
theorem wof (t : Nat) (ht : t < Nm.big) (z : Nat) (hz : Nm.work t = z) (w : World) : Calls Tryz.prog 103 #[.agg (numC t)] w fun e w' => e = .returned (.agg (numC z)) ∧ Below w.heap.size w w' := by
  rw [← hz]
  by_cases h : t + 1 < Nm.big
  · rw [Nm.work_mid h]
    refine of_mid t (Nm.big - 1 - t) (t + 1) ((Nm.big - 1 - t) / (t + 1)) ((Nm.big - 1 - t) % (t + 1)) _ (Lib.hid one_is) (Lib.hid (add_is t 1 ht (by decide) _ false (Nat.mod_eq_of_lt h) (decide_eq_false (by omega)))) (Lib.hid (not t ht))
      (Lib.hid (quo_pos _ _ (by omega) h (by omega))) (Lib.hid fun b w hL => wsum2 _ 1 ?_ (by decide) _ rfl b w hL) w
    exact Nat.lt_of_le_of_lt (Nat.div_le_self _ _) (by omega)
  · have he : t + 1 = Nm.big := by omega
    rw [Nm.work_top he]
    exact of_top t (Lib.hid one_is) (Lib.hid (add_is t 1 ht (by decide) 0 true (by rw [he]; exact Nat.mod_self _) (decide_eq_true (by omega)))) w
set_option maxRecDepth 100000 in
set_option maxHeartbeats 2000000 in
theorem bits_low (b : Int) (z : Nat) (over : Bool) (KD : Hid (∀ w, Calls Tryz.prog 102 #[.int .i64 b] w fun e w' => e = .returned (.tuple #[.agg (numC z), .bool true, .bool over]) ∧ Below w.heap.size w w')) (w : World) :
    Calls Tryz.prog 69 #[.int .i64 b] w fun e w' => e = .returned (.agg (numC 0)) ∧ Below w.heap.size w w' := by
  go_enter Tryz.func69, Tryz.ntmps69
  go_upto_region 1 with fail
  generalize hw0 : World.alloc _ _ = v0
  have hbel : Below w.heap.size w v0 := by rw [← hw0]; exact (Below.refl _ _).alloc (by first | exact Nat.le_refl _ | (simp; done) | (simp; omega)) _
  have hR : Has v0 (w.heap.size) (numC 0) 26 := by rw [← hw0]; exact Has.new (numC 0) _
  have hR_le : Hid (w.heap.size ≤ w.heap.size) := Lib.hid (by omega)
  clear hw0
  go_wp2_with (first | fail | (with_reducible refine num_load rfl _ rfl _ rfl _ hR rfl ?_) | (with_reducible refine num_load_g (by with_unfolding_all rfl) _ rfl _ rfl _ hR rfl ?_))
  refine (KD.out _).mono ?_
  rintro e v1 ⟨rfl, hb1⟩
  replace hR := hR.on hb1
  replace hbel := hbel.trans (hb1.mono hbel.size)
  clear hb1
  go_upto_region 2 with (with_reducible refine num_store rfl _ _ rfl _ _ rfl rfl _ (Has.newz _) rfl ?_)
  generalize hw2 : World.setRow _ _ _ = v2
  have hb2 : Below v1.heap.size v1 v2 := by rw [← hw2]; exact below_setRow ((Below.refl _ _).alloc (Nat.le_refl _) _) (Nat.le_refl _) _
  have hZ : Has v2 v1.heap.size (numC z) 26 := by rw [← hw2]; exact (Has.newz _).row _
  replace hR := hR.on hb2
  replace hbel := hbel.trans (hb2.mono hbel.size)
  clear hw2 hb2
  generalize v1.heap.size = b_hZ at hZ ⊢
  go_wp2_with (first | (with_reducible refine num_load rfl _ rfl _ rfl _ hR rfl ?_) | (with_reducible refine num_load rfl _ rfl _ rfl _ hZ rfl ?_) | (with_reducible refine num_load_g (by with_unfolding_all rfl) _ rfl _ rfl _ hR rfl ?_) | (with_reducible refine num_load_g (by with_unfolding_all rfl) _ rfl _ rfl _ hZ rfl ?_) | (with_reducible refine num_store_eq rfl _ _ rfl _ 0 _ rfl rfl zero4 _ hR rfl ?_))
  exact bodyPost_ret (v := .agg (numC (0))) (num_results Tryz.results69 _ _ _ rfl (hR.row _)) rfl ⟨rfl, below_setRow hbel hR_le.out _⟩
set_option maxRecDepth 100000 in
set_option maxHeartbeats 2000000 in
theorem bits_over (b : Int) (z : Nat) (KD : Hid (∀ w, Calls Tryz.prog 102 #[.int .i64 b] w fun e w' => e = .returned (.tuple #[.agg (numC z), .bool false, .bool true]) ∧ Below w.heap.size w w')) (w : World) :
    Calls Tryz.prog 69 #[.int .i64 b] w fun e w' => e = .returned (.agg (numC 0)) ∧ Below w.heap.size w w' := by
  go_enter Tryz.func69, Tryz.ntmps69
  go_upto_region 1 with fail
  generalize hw0 : World.alloc _ _ = v0
  have hbel : Below w.heap.size w v0 := by rw [← hw0]; exact (Below.refl _ _).alloc (by first | exact Nat.le_refl _ | (simp; done) | (simp; omega)) _
  have hR : Has v0 (w.heap.size) (numC 0) 26 := by rw [← hw0]; exact Has.new (numC 0) _
  have hR_le : Hid (w.heap.size ≤ w.heap.size) := Lib.hid (by omega)
  clear hw0
  go_wp2_with (first | fail | (with_reducible refine num_load rfl _ rfl _ rfl _ hR rfl ?_) | (with_reducible refine num_load_g (by with_unfolding_all rfl) _ rfl _ rfl _ hR rfl ?_))
  refine (KD.out _).mono ?_
  rintro e v1 ⟨rfl, hb1⟩
  replace hR := hR.on hb1
  replace hbel := hbel.trans (hb1.mono hbel.size)
  clear hb1
  go_upto_region 2 with (with_reducible refine num_store rfl _ _ rfl _ _ rfl rfl _ (Has.newz _) rfl ?_)
  generalize hw2 : World.setRow _ _ _ = v2
  have hb2 : Below v1.heap.size v1 v2 := by rw [← hw2]; exact below_setRow ((Below.refl _ _).alloc (Nat.le_refl _) _) (Nat.le_refl _) _
  have hZ : Has v2 v1.heap.size (numC z) 26 := by rw [← hw2]; exact (Has.newz _).row _
  replace hR := hR.on hb2
  replace hbel := hbel.trans (hb2.mono hbel.size)
  clear hw2 hb2
  generalize v1.heap.size = b_hZ at hZ ⊢
  go_wp2_with (first | (with_reducible refine num_load rfl _ rfl _ rfl _ hR rfl ?_) | (with_reducible refine num_load rfl _ rfl _ rfl _ hZ rfl ?_) | (with_reducible refine num_load_g (by with_unfolding_all rfl) _ rfl _ rfl _ hR rfl ?_) | (with_reducible refine num_load_g (by with_unfolding_all rfl) _ rfl _ rfl _ hZ rfl ?_) | (with_reducible refine num_store_eq rfl _ _ rfl _ 0 _ rfl rfl zero4 _ hR rfl ?_))
  exact bodyPost_ret (v := .agg (numC (0))) (num_results Tryz.results69 _ _ _ rfl (hR.row _)) rfl ⟨rfl, below_setRow hbel hR_le.out _⟩
set_option maxRecDepth 100000 in
set_option maxHeartbeats 2000000 in
theorem bits_zero (b : Int) (z : Nat) (KD : Hid (∀ w, Calls Tryz.prog 102 #[.int .i64 b] w fun e w' => e = .returned (.tuple #[.agg (numC z), .bool false, .bool false]) ∧ Below w.heap.size w w'))
    (KZ : Hid (∀ w, Calls Tryz.prog 77 #[.agg (numC z)] w fun e w' => e = .returned (.bool true) ∧ Below w.heap.size w w')) (w : World) :
    Calls Tryz.prog 69 #[.int .i64 b] w fun e w' => e = .returned (.agg (numC 0)) ∧ Below w.heap.size w w' := by
  go_enter Tryz.func69, Tryz.ntmps69
  go_upto_region 1 with fail
  generalize hw0 : World.alloc _ _ = v0
  have hbel : Below w.heap.size w v0 := by rw [← hw0]; exact (Below.refl _ _).alloc (by first | exact Nat.le_refl _ | (simp; done) | (simp; omega)) _
  have hR : Has v0 (w.heap.size) (numC 0) 26 := by rw [← hw0]; exact Has.new (numC 0) _
  have hR_le : Hid (w.heap.size ≤ w.heap.size) := Lib.hid (by omega)
  clear hw0
  go_wp2_with (first | fail | (with_reducible refine num_load rfl _ rfl _ rfl _ hR rfl ?_) | (with_reducible refine num_load_g (by with_unfolding_all rfl) _ rfl _ rfl _ hR rfl ?_))
  refine (KD.out _).mono ?_
  rintro e v1 ⟨rfl, hb1⟩
  replace hR := hR.on hb1
  replace hbel := hbel.trans (hb1.mono hbel.size)
  clear hb1
  go_upto_region 2 with (with_reducible refine num_store rfl _ _ rfl _ _ rfl rfl _ (Has.newz _) rfl ?_)
  generalize hw2 : World.setRow _ _ _ = v2
  have hb2 : Below v1.heap.size v1 v2 := by rw [← hw2]; exact below_setRow ((Below.refl _ _).alloc (Nat.le_refl _) _) (Nat.le_refl _) _
  have hZ : Has v2 v1.heap.size (numC z) 26 := by rw [← hw2]; exact (Has.newz _).row _
  replace hR := hR.on hb2
  replace hbel := hbel.trans (hb2.mono hbel.size)
  clear hw2 hb2
  generalize v1.heap.size = b_hZ at hZ ⊢
  go_wp2_with (first | fail | (with_reducible refine num_load rfl _ rfl _ rfl _ hR rfl ?_) | (with_reducible refine num_load rfl _ rfl _ rfl _ hZ rfl ?_) | (with_reducible refine num_load_g (by with_unfolding_all rfl) _ rfl _ rfl _ hR rfl ?_) | (with_reducible refine num_load_g (by with_unfolding_all rfl) _ rfl _ rfl _ hZ rfl ?_))
  refine (KZ.out _).mono ?_
  rintro e v3 ⟨rfl, hb3⟩
  replace hR := hR.on hb3
  replace hZ := hZ.on hb3
  replace hbel := hbel.trans (hb3.mono hbel.size)
  clear hb3
  go_wp2_with (first | (with_reducible refine num_load rfl _ rfl _ rfl _ hR rfl ?_) | (with_reducible refine num_load rfl _ rfl _ rfl _ hZ rfl ?_) | (with_reducible refine num_load_g (by with_unfolding_all rfl) _ rfl _ rfl _ hR rfl ?_) | (with_reducible refine num_load_g (by with_unfolding_all rfl) _ rfl _ rfl _ hZ rfl ?_) | (with_reducible refine num_store_eq rfl _ _ rfl _ 0 _ rfl rfl zero4 _ hR rfl ?_))
  exact bodyPost_ret (v := .agg (numC (0))) (num_results Tryz.results69 _ _ _ rfl (hR.row _)) rfl ⟨rfl, below_setRow hbel hR_le.out _⟩
set_option maxRecDepth 100000 in
set_option maxHeartbeats 2000000 in
theorem bits_some (b : Int) (z : Nat) (KD : Hid (∀ w, Calls Tryz.prog 102 #[.int .i64 b] w fun e w' => e = .returned (.tuple #[.agg (numC z), .bool false, .bool false]) ∧ Below w.heap.size w w'))
    (KZ : Hid (∀ w, Calls Tryz.prog 77 #[.agg (numC z)] w fun e w' => e = .returned (.bool false) ∧ Below w.heap.size w w'))
    (v : Nat) (KO : Hid (∀ w, Calls Tryz.prog 103 #[.agg (numC z)] w fun e w' => e = .returned (.agg (numC v)) ∧ Below w.heap.size w w')) (w : World) :
    Calls Tryz.prog 69 #[.int .i64 b] w fun e w' => e = .returned (.agg (numC v)) ∧ Below w.heap.size w w' := by
  go_enter Tryz.func69, Tryz.ntmps69
  go_upto_region 1 with fail
  generalize hw0 : World.alloc _ _ = v0
  have hbel : Below w.heap.size w v0 := by rw [← hw0]; exact (Below.refl _ _).alloc (by first | exact Nat.le_refl _ | (simp; done) | (simp; omega)) _
  have hR : Has v0 (w.heap.size) (numC 0) 26 := by rw [← hw0]; exact Has.new (numC 0) _
  have hR_le : Hid (w.heap.size ≤ w.heap.size) := Lib.hid (by omega)
  clear hw0
  go_wp2_with (first | fail | (with_reducible refine num_load rfl _ rfl _ rfl _ hR rfl ?_) | (with_reducible refine num_load_g (by with_unfolding_all rfl) _ rfl _ rfl _ hR rfl ?_))
  refine (KD.out _).mono ?_
  rintro e v1 ⟨rfl, hb1⟩
  replace hR := hR.on hb1
  replace hbel := hbel.trans (hb1.mono hbel.size)
  clear hb1
  go_upto_region 2 with (with_reducible refine num_store rfl _ _ rfl _ _ rfl rfl _ (Has.newz _) rfl ?_)
  generalize hw2 : World.setRow _ _ _ = v2
  have hb2 : Below v1.heap.size v1 v2 := by rw [← hw2]; exact below_setRow ((Below.refl _ _).alloc (Nat.le_refl _) _) (Nat.le_refl _) _
  have hZ : Has v2 v1.heap.size (numC z) 26 := by rw [← hw2]; exact (Has.newz _).row _
  replace hR := hR.on hb2
  replace hbel := hbel.trans (hb2.mono hbel.size)
  clear hw2 hb2
  generalize v1.heap.size = b_hZ at hZ ⊢
  go_wp2_with (first | fail | (with_reducible refine num_load rfl _ rfl _ rfl _ hR rfl ?_) | (with_reducible refine num_load rfl _ rfl _ rfl _ hZ rfl ?_) | (with_reducible refine num_load_g (by with_unfolding_all rfl) _ rfl _ rfl _ hR rfl ?_) | (with_reducible refine num_load_g (by with_unfolding_all rfl) _ rfl _ rfl _ hZ rfl ?_))
  refine (KZ.out _).mono ?_
  rintro e v3 ⟨rfl, hb3⟩
  replace hR := hR.on hb3
  replace hZ := hZ.on hb3
  replace hbel := hbel.trans (hb3.mono hbel.size)
  clear hb3
  go_wp2_with (first | fail | (with_reducible refine num_load rfl _ rfl _ rfl _ hR rfl ?_) | (with_reducible refine num_load rfl _ rfl _ rfl _ hZ rfl ?_) | (with_reducible refine num_load_g (by with_unfolding_all rfl) _ rfl _ rfl _ hR rfl ?_) | (with_reducible refine num_load_g (by with_unfolding_all rfl) _ rfl _ rfl _ hZ rfl ?_))
  refine (KO.out _).mono ?_
  rintro e v4 ⟨rfl, hb4⟩
  replace hR := hR.on hb4
  replace hZ := hZ.on hb4
  replace hbel := hbel.trans (hb4.mono hbel.size)
  clear hb4
  go_wp2_with (first | (with_reducible refine num_load rfl _ rfl _ rfl _ hR rfl ?_) | (with_reducible refine num_load rfl _ rfl _ rfl _ hZ rfl ?_) | (with_reducible refine num_load_g (by with_unfolding_all rfl) _ rfl _ rfl _ hR rfl ?_) | (with_reducible refine num_load_g (by with_unfolding_all rfl) _ rfl _ rfl _ hZ rfl ?_) | (with_reducible refine num_store rfl _ _ rfl _ _ rfl rfl _ hR rfl ?_))
  exact bodyPost_ret (v := .agg (numC (v))) (num_results Tryz.results69 _ _ _ rfl (hR.row _)) rfl ⟨rfl, below_setRow hbel hR_le.out _⟩
theorem Nm.decN_lt {n : Nat} : Nm.decN n < Nm.big := Nm.mv_lt (Nat.lt_trans (Nat.mod_lt _ (by decide : 0 < 8388608)) (by decide)) _
theorem wbits (b : Int) (w : World) : Calls Tryz.prog 69 #[.int .i64 b] w fun e w' => e = .returned (.agg (numC (ofBits b))) ∧ Below w.heap.size w w' := by
  unfold ofBits
  by_cases hb : 0 ≤ b ∧ b ≤ 4294967295
  · rw [if_pos hb]
    obtain ⟨n, rfl⟩ := Int.eq_ofNat_of_zero_le hb.1
    have hd := fun w => decode_yes n (by omega) w
    rw [Int.toNat_natCast]
    generalize hl : Nm.decLow n = low at *
    generalize ho : Nm.decOver n = over at *
    cases low
    · cases over
      · by_cases hz : Nm.decN n = 0
        · rw [decide_eq_true hz]
          exact bits_zero _ _ (Lib.hid hd) (Lib.hid (zero_isW _ Nm.decN_lt true (decide_eq_true hz))) w
        · rw [decide_eq_false hz]
          exact bits_some _ _ (Lib.hid hd) (Lib.hid (zero_isW _ Nm.decN_lt false (decide_eq_false hz))) _ (Lib.hid (wof _ Nm.decN_lt _ rfl)) w
      · exact bits_over _ _ (Lib.hid hd) w
    · exact bits_low _ _ _ (Lib.hid hd) w
  · rw [if_neg hb]
    exact bits_zero b 0 (Lib.hid (decode_no b hb)) (Lib.hid (zero_isW 0 (by decide) true (by decide))) w
end Go.Proofs.YthcebnfdapcllaaGreatDoor.NN
namespace Go.Proofs.YthcebnfdapcllaaGreatDoor.NN
namespace Nm
def mvZ (x : Nat) (z : Int) : Nat := if 0 ≤ z then up x z.toNat else down x (-z).toNat
theorem mvZ_up (x n : Nat) : mvZ x (n : Int) = x * 2 ^ n % big := by unfold mvZ; rw [if_pos (by omega), up_eq, Int.toNat_natCast]
theorem mvZ_down (x n : Nat) (hn : 0 < n) : mvZ x (-(n : Int)) = x / 2 ^ n := by
  unfold mvZ; rw [if_neg (by omega), down_eq, Int.neg_neg, Int.toNat_natCast]
theorem fits_iff {m i : Nat} (hm : m < big) : mvZ (mvZ m (i : Int)) (-(i : Int)) = m ↔ m * 2 ^ i < big := by
  have hb : 0 < big := by decide
  by_cases h0 : i = 0
  · subst h0
    rw [show (-((0 : Nat) : Int)) = ((0 : Nat) : Int) by rfl, mvZ_up, mvZ_up, Nat.pow_zero, Nat.mul_one, Nat.mul_one, Nat.mod_mod, Nat.mod_eq_of_lt hm]
    exact ⟨fun _ => hm, fun _ => rfl⟩
  · rw [mvZ_down _ _ (by omega), mvZ_up]
    constructor
    · intro h
      have h1 := Nat.mod_lt (m * 2 ^ i) hb
      have h2 : m * 2 ^ i ≤ m * 2 ^ i % big := by
        have := Nat.div_mul_le_self (m * 2 ^ i % big) (2 ^ i)
        rwa [h] at this
      omega
    · intro h
      rw [Nat.mod_eq_of_lt h, Nat.mul_div_cancel _ (Nat.two_pow_pos i)]
theorem work_div {t : Nat} (ht : 0 < t) : work t = big / (t + 1) := by
  have h : big / (t + 1) < big := Nat.div_lt_self (by decide) (by omega)
  unfold work cap
  rw [if_pos h]
theorem work_zero : work 0 = big - 1 := by unfold work; decide
def LD (t k o r : Nat) : Prop := r + 1 + o * (t + 1) = big ∧ r + 1 ≤ (t + 1) * 2 ^ (256 - k)
theorem LD.start (t : Nat) : LD t 0 0 (big - 1) := by
  have e : big - 1 + 1 = big := by decide
  refine ⟨by rw [e]; omega, ?_⟩
  rw [e, show 256 - 0 = 256 from rfl, ← big_eq]
  exact Nat.le_mul_of_pos_left _ (by omega)
theorem LD.last {t o r : Nat} (ht : 0 < t) (h : LD t 256 o r) : (decide (r < t) = true → o = work t) ∧ (decide (r < t) = false → (o + 1) % big = work t) := by
  obtain ⟨h1, h2⟩ := h
  rw [show 256 - 256 = 0 from rfl, Nat.pow_zero, Nat.mul_one] at h2
  rw [work_div ht]
  constructor
  · intro h3
    have h3 := of_decide_eq_true h3
    rw [← h1, Nat.add_mul_div_right _ _ (by omega), Nat.div_eq_of_lt (by omega), Nat.zero_add]
  · intro h3
    have h3 := of_decide_eq_false h3
    have e : (o + 1) * (t + 1) = big := by rw [Nat.add_mul]; omega
    have e2 : big / (t + 1) = o + 1 := by rw [← e, Nat.mul_div_cancel _ (by omega)]
    rw [e2]
    refine Nat.mod_eq_of_lt ?_
    rw [← e2]
    exact Nat.div_lt_self (by decide) (by omega)
theorem LD.step {t k o r d m2 s r2 m3 o2 : Nat} {z : Int} (ht : 0 < t) (htb : t + 1 < big) (hk : k < 256) (hz : z = 255 - (k : Int)) (hr : r < big) (h : LD t k o r)
    (hd : d = mvZ (t + 1) z) (hm2 : m2 = mvZ d (-z)) (hs : s = (d + big - 1) % big) (hr2 : r2 = (r + big - d) % big) (hm3 : m3 = mvZ 1 z) (ho2 : o2 = (o + m3) % big) :
    ((!decide (m2 = t + 1)) = true → LD t (k + 1) o r) ∧ ((!decide (m2 = t + 1)) = false → decide (r < s) = true → LD t (k + 1) o r) ∧
    ((!decide (m2 = t + 1)) = false → decide (r < s) = false → decide (r2 = big - 1) = false → LD t (k + 1) o2 r2) ∧ ((!decide (m2 = t + 1)) = false → decide (r < s) = false → decide (r2 = big - 1) = true → o2 = work t) := by
  obtain ⟨h1, h2⟩ := h
  obtain ⟨i, hi⟩ : ∃ i, i = 255 - k := ⟨_, rfl⟩
  have hzi : z = (i : Int) := by omega
  have e1 : 256 - (k + 1) = i := by omega
  have e2 : 256 - k = i + 1 := by omega
  rw [e2, Nat.pow_succ] at h2
  subst hzi
  have hf := fits_iff (m := t + 1) (i := i) htb
  rw [← hd, ← hm2] at hf
  unfold LD
  rw [e1]
  have hbp : 0 < big := by decide
  by_cases hm : m2 = t + 1
  · have hfit := hf.1 hm
    have hd' : d = (t + 1) * 2 ^ i := by rw [hd, mvZ_up, Nat.mod_eq_of_lt hfit]
    have hp : 0 < 2 ^ i := Nat.two_pow_pos i
    have hdp : 0 < d := by rw [hd']; exact Nat.mul_pos (by omega) hp
    have hs' : s = d - 1 := by
      rw [hs, show d + big - 1 = (d - 1) + big by omega, Nat.add_mod_right, Nat.mod_eq_of_lt (by omega)]
    have h2i : 2 ^ i < big := Nat.lt_of_le_of_lt (Nat.le_mul_of_pos_left _ (by omega)) hfit
    have hm3' : m3 = 2 ^ i := by rw [hm3, mvZ_up, Nat.one_mul, Nat.mod_eq_of_lt h2i]
    have hdec : (!decide (m2 = t + 1)) = false := by simp [hm]
    rw [← hd']
    rw [← Nat.mul_assoc, ← hd'] at h2
    refine ⟨fun hc => (by rw [hdec] at hc; cases hc), fun _ h3 => ?_, fun _ h3 h4 => ?_, fun _ h3 h4 => ?_⟩
    · have := of_decide_eq_true h3
      exact ⟨h1, by omega⟩
    all_goals
      have h3 := of_decide_eq_false h3
      have hrd : d ≤ r + 1 := by omega
      have e3 : (o + 2 ^ i) * (t + 1) = o * (t + 1) + d := by rw [Nat.add_mul, hd', Nat.mul_comm (2 ^ i)]
      have hol : o + 2 ^ i < big := by
        have h5 : (o + 2 ^ i) * (t + 1) ≤ big := by omega
        have h6 : o + 2 ^ i ≤ big / (t + 1) := (Nat.le_div_iff_mul_le (by omega)).2 h5
        have h7 : big / (t + 1) < big := Nat.div_lt_self hbp (by omega)
        omega
      have ho2' : o2 = o + 2 ^ i := by rw [ho2, hm3', Nat.mod_eq_of_lt hol]
    · have h4 := of_decide_eq_false h4
      have hrd2 : d ≤ r := by
        rcases Nat.lt_or_ge r d with hc | hc
        · exact absurd (by rw [hr2, Nat.mod_eq_of_lt (by omega)]; omega) h4
        · exact hc
      have hr2' : r2 = r - d := by rw [hr2, show r + big - d = (r - d) + big by omega, Nat.add_mod_right, Nat.mod_eq_of_lt (by omega)]
      rw [ho2', e3, hr2']
      exact ⟨by omega, by omega⟩
    · have h4 := of_decide_eq_true h4
      have hrd2 : r + 1 = d := by
        rcases Nat.lt_or_ge r d with hc | hc
        · omega
        · have hr2' : r2 = r - d := by rw [hr2, show r + big - d = (r - d) + big by omega, Nat.add_mod_right, Nat.mod_eq_of_lt (by omega)]
          omega
      have e4 : (o + 2 ^ i) * (t + 1) = big := by rw [e3]; omega
      rw [work_div ht, ho2', ← e4, Nat.mul_div_cancel _ (by omega)]
  · have hfit : big ≤ (t + 1) * 2 ^ i := Nat.le_of_not_lt fun hc => hm (hf.2 hc)
    have hdec : (!decide (m2 = t + 1)) = true := by simp [hm]
    refine ⟨fun _ => ⟨h1, by omega⟩, fun hc => (by rw [hdec] at hc; cases hc), fun hc => (by rw [hdec] at hc; cases hc), fun hc => (by rw [hdec] at hc; cases hc)⟩
end Nm
end Go.Proofs.YthcebnfdapcllaaGreatDoor.NN
namespace Go.Proofs.YthcebnfdapcllaaGreatDoor.NN
open Go.RowKit Rg2
theorem big_pos : 0 < Nm.big := by rw [Nm.big_eq]; exact Nat.two_pow_pos _
theorem one4w : (#[.int .u64 1, .int .u64 0, .int .u64 0, .int .u64 0] : Array Value) = numC 1 := rfl
theorem ref_not0 (w : World) : Calls Tryz.prog 53 #[.agg #[.int .u64 0, .int .u64 0, .int .u64 0, .int .u64 0]] w fun e w' => e = .returned (.agg (numC (Nm.big - 1))) ∧ Below w.heap.size w w' := ref_not 0 big_pos w
set_option maxRecDepth 100000 in
theorem rmost (w : World) : Calls Tryz.prog 37 #[] w fun e w' => e = .returned (.agg (numC (Nm.big - 1))) ∧ Below w.heap.size w w' := by
  have KN := Lib.hid ref_not0
  go_enter Tryz.func37, Tryz.ntmps37
  go_upto_region 1 with fail
  generalize hw0 : World.alloc _ _ = v0
  have hR : Has v0 w.heap.size (numC 0) 26 := by rw [← hw0]; exact Has.newz _
  have hbel : Below w.heap.size w v0 := by rw [← hw0]; exact (Below.refl _ _).alloc (Nat.le_refl _) _
  clear hw0
  go_wp2_with fail
  refine (KN.out _).mono ?_
  rintro e v1 ⟨rfl, hb⟩
  replace hR := hR.on hb
  replace hbel := hbel.trans (hb.mono hbel.size)
  go_wp2_with (with_reducible refine num_store rfl _ _ rfl _ _ rfl rfl _ hR rfl ?_)
  exact bodyPost_ret (v := .agg (numC (Nm.big - 1))) (num_results Tryz.results37 _ _ _ rfl (hR.row _)) rfl ⟨rfl, below_setRow hbel (Nat.le_refl _) _⟩
set_option maxRecDepth 100000 in
theorem rsum_over (x y s : Nat) (KA : Hid (∀ w, Calls Tryz.prog 36 #[.agg (numC x), .agg (numC y)] w fun e w' => e = .returned (.tuple #[.agg (numC s), .bool true]) ∧ Below w.heap.size w w')) (w : World) : Calls Tryz.prog 19 #[.agg (numC x), .agg (numC y)] w fun e w' => e = .returned (.agg (numC (Nm.big - 1))) ∧ Below w.heap.size w w' := by
  have KM := Lib.hid rmost
  go_enter Tryz.func19, Tryz.ntmps19
  go_upto_region 1 with fail
  generalize hw0 : World.alloc _ _ = v0
  have hbel : Below w.heap.size w v0 := by rw [← hw0]; exact (((Below.refl _ _).alloc (by first | exact Nat.le_refl _ | (simp; done) | (simp; omega)) _).alloc (by first | exact Nat.le_refl _ | (simp; done) | (simp; omega)) _).alloc (by first | exact Nat.le_refl _ | (simp; done) | (simp; omega)) _
  have h1 : Has v0 (w.heap.size) (numC x) 26 := by rw [← hw0]; exact ((Has.new _ _).alloc _).alloc _
  have h2 : Has v0 (w.heap.size + 1) (numC y) 26 := by rw [← hw0]; exact (Has.new1 _ _ _).alloc _
  have hR : Has v0 (w.heap.size + 1 + 1) (numC 0) 26 := by rw [← hw0]; exact Has.new2 _ _ (numC 0) _
  have hR_le : Hid (w.heap.size ≤ w.heap.size + 1 + 1) := Lib.hid (by omega)
  clear hw0
  generalize hg2 : w.heap.size + 1 + 1 = b_hR at hR hR_le ⊢
  clear hg2
  generalize hg1 : w.heap.size + 1 = b_h2 at h2 ⊢
  clear hg1
  go_wp2_with (first | fail | (with_reducible refine num_load rfl _ rfl _ rfl _ h1 rfl ?_) | (with_reducible refine num_load rfl _ rfl _ rfl _ h2 rfl ?_) | (with_reducible refine num_load rfl _ rfl _ rfl _ hR rfl ?_))
  refine (KA.out _).mono ?_
  rintro e v1 ⟨rfl, hb1⟩
  replace h1 := h1.on hb1
  replace h2 := h2.on hb1
  replace hR := hR.on hb1
  replace hbel := hbel.trans (hb1.mono hbel.size)
  clear hb1
  go_upto_region 2 with (with_reducible refine num_store rfl _ _ rfl _ _ rfl rfl _ (Has.newz _) rfl ?_)
  generalize hw2 : World.setRow _ _ _ = v2
  have hb2 : Below v1.heap.size v1 v2 := by rw [← hw2]; exact below_setRow ((Below.refl _ _).alloc (Nat.le_refl _) _) (Nat.le_refl _) _
  have h5 : Has v2 v1.heap.size (numC s) 26 := by rw [← hw2]; exact (Has.newz _).row _
  replace h1 := h1.on hb2
  replace h2 := h2.on hb2
  replace hR := hR.on hb2
  replace hbel := hbel.trans (hb2.mono hbel.size)
  clear hw2 hb2
  generalize v1.heap.size = b_h5 at h5 ⊢
  go_wp2_with (first | fail | (with_reducible refine num_load rfl _ rfl _ rfl _ h1 rfl ?_) | (with_reducible refine num_load rfl _ rfl _ rfl _ h2 rfl ?_) | (with_reducible refine num_load rfl _ rfl _ rfl _ hR rfl ?_) | (with_reducible refine num_load rfl _ rfl _ rfl _ h5 rfl ?_))
  refine (KM.out _).mono ?_
  rintro e v3 ⟨rfl, hb3⟩
  replace h1 := h1.on hb3
  replace h2 := h2.on hb3
  replace hR := hR.on hb3
  replace h5 := h5.on hb3
  replace hbel := hbel.trans (hb3.mono hbel.size)
  clear hb3
  go_wp2_with (first | (with_reducible refine num_load rfl _ rfl _ rfl _ h1 rfl ?_) | (with_reducible refine num_load rfl _ rfl _ rfl _ h2 rfl ?_) | (with_reducible refine num_load rfl _ rfl _ rfl _ hR rfl ?_) | (with_reducible refine num_load rfl _ rfl _ rfl _ h5 rfl ?_) | (with_reducible refine num_store rfl _ _ rfl _ _ rfl rfl _ hR rfl ?_))
  exact bodyPost_ret (v := .agg (numC (Nm.big - 1))) (num_results Tryz.results19 _ _ _ rfl (hR.row _)) rfl ⟨rfl, below_setRow hbel hR_le.out _⟩
set_option maxRecDepth 100000 in
theorem rsum_in (x y s : Nat) (KA : Hid (∀ w, Calls Tryz.prog 36 #[.agg (numC x), .agg (numC y)] w fun e w' => e = .returned (.tuple #[.agg (numC s), .bool false]) ∧ Below w.heap.size w w')) (w : World) : Calls Tryz.prog 19 #[.agg (numC x), .agg (numC y)] w fun e w' => e = .returned (.agg (numC s)) ∧ Below w.heap.size w w' := by
  go_enter Tryz.func19, Tryz.ntmps19
  go_upto_region 1 with fail
  generalize hw0 : World.alloc _ _ = v0
  have hbel : Below w.heap.size w v0 := by rw [← hw0]; exact (((Below.refl _ _).alloc (by first | exact Nat.le_refl _ | (simp; done) | (simp; omega)) _).alloc (by first | exact Nat.le_refl _ | (simp; done) | (simp; omega)) _).alloc (by first | exact Nat.le_refl _ | (simp; done) | (simp; omega)) _
  have h1 : Has v0 (w.heap.size) (numC x) 26 := by rw [← hw0]; exact ((Has.new _ _).alloc _).alloc _
  have h2 : Has v0 (w.heap.size + 1) (numC y) 26 := by rw [← hw0]; exact (Has.new1 _ _ _).alloc _
  have hR : Has v0 (w.heap.size + 1 + 1) (numC 0) 26 := by rw [← hw0]; exact Has.new2 _ _ (numC 0) _
  have hR_le : Hid (w.heap.size ≤ w.heap.size + 1 + 1) := Lib.hid (by omega)
  clear hw0
  generalize hg2 : w.heap.size + 1 + 1 = b_hR at hR hR_le ⊢
  clear hg2
  generalize hg1 : w.heap.size + 1 = b_h2 at h2 ⊢
  clear hg1
  go_wp2_with (first | fail | (with_reducible refine num_load rfl _ rfl _ rfl _ h1 rfl ?_) | (with_reducible refine num_load rfl _ rfl _ rfl _ h2 rfl ?_) | (with_reducible refine num_load rfl _ rfl _ rfl _ hR rfl ?_))
  refine (KA.out _).mono ?_
  rintro e v1 ⟨rfl, hb1⟩
  replace h1 := h1.on hb1
  replace h2 := h2.on hb1
  replace hR := hR.on hb1
  replace hbel := hbel.trans (hb1.mono hbel.size)
  clear hb1
  go_upto_region 2 with (with_reducible refine num_store rfl _ _ rfl _ _ rfl rfl _ (Has.newz _) rfl ?_)
  generalize hw2 : World.setRow _ _ _ = v2
  have hb2 : Below v1.heap.size v1 v2 := by rw [← hw2]; exact below_setRow ((Below.refl _ _).alloc (Nat.le_refl _) _) (Nat.le_refl _) _
  have h5 : Has v2 v1.heap.size (numC s) 26 := by rw [← hw2]; exact (Has.newz _).row _
  replace h1 := h1.on hb2
  replace h2 := h2.on hb2
  replace hR := hR.on hb2
  replace hbel := hbel.trans (hb2.mono hbel.size)
  clear hw2 hb2
  generalize v1.heap.size = b_h5 at h5 ⊢
  go_wp2_with (first | (with_reducible refine num_load rfl _ rfl _ rfl _ h1 rfl ?_) | (with_reducible refine num_load rfl _ rfl _ rfl _ h2 rfl ?_) | (with_reducible refine num_load rfl _ rfl _ rfl _ hR rfl ?_) | (with_reducible refine num_load rfl _ rfl _ rfl _ h5 rfl ?_) | (with_reducible refine num_store rfl _ _ rfl _ _ rfl rfl _ hR rfl ?_))
  exact bodyPost_ret (v := .agg (numC (s))) (num_results Tryz.results19 _ _ _ rfl (hR.row _)) rfl ⟨rfl, below_setRow hbel hR_le.out _⟩
theorem move_ex (x : Nat) (hx : x < Nm.big) (z : Int) (h1 : -300 ≤ z) (h2 : z ≤ 300) : ∃ d, d = Nm.mvZ x z ∧ d < Nm.big ∧ ∀ w, Calls Tryz.prog 46 #[.agg (numC x), .int .i64 z] w fun e w' => e = .returned (.agg (numC d)) ∧ Below w.heap.size w w' := by
  by_cases h0 : 0 ≤ z
  · obtain ⟨n, rfl⟩ : ∃ n : Nat, z = (n : Int) := ⟨z.toNat, by omega⟩
    refine ⟨Nm.up x n, ?_, Nm.up_lt _ _, fun w => ref_move_up x n hx (by omega) w⟩
    unfold Nm.mvZ; rw [if_pos h0, Int.toNat_natCast]
  · obtain ⟨n, rfl⟩ : ∃ n : Nat, z = -(n : Int) := ⟨(-z).toNat, by omega⟩
    refine ⟨Nm.down x n, ?_, Nm.down_lt hx _, fun w => ref_move_down x n hx (by omega) (by omega) w⟩
    unfold Nm.mvZ; rw [if_neg h0, Int.neg_neg, Int.toNat_natCast]
theorem rsum_at (x y : Nat) (hx : x < Nm.big) (hy : y < Nm.big) (w : World) : Calls Tryz.prog 19 #[.agg (numC x), .agg (numC y)] w fun e w' => e = .returned (.agg (numC (Nm.cap (x + y)))) ∧ Below w.heap.size w w' := by
  unfold Nm.cap
  cases h : decide (Nm.big ≤ x + y)
  · have h1 := of_decide_eq_false h
    rw [if_pos (by omega)]
    have := rsum_in x y ((x + y) % Nm.big) (Lib.hid fun w => by have := ref_add x y hx hy w; rwa [h] at this) w
    rwa [Nat.mod_eq_of_lt (by omega)] at this
  · have h1 := of_decide_eq_true h
    rw [if_neg (by omega)]
    exact rsum_over x y ((x + y) % Nm.big) (Lib.hid fun w => by have := ref_add x y hx hy w; rwa [h] at this) w
end Go.Proofs.YthcebnfdapcllaaGreatDoor.NN
