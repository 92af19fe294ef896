/-
  Package score: Blame.
-/
import Derived.Test.YtehineieklpgoaaSrShun
namespace Go.Proofs.Ytehineieklpgoaa.An
open Go.RowKit Mem NN.Rg2
open Sr (Bd pt pts upd wo shunRow last16)
set_option maxRecDepth 100000
theorem blame_nil (k : Int) (v : Value) (w : World) : Calls Try.prog 13 #[.pointer none, .int .i64 k, v] w fun e w' => e = .returned (.bool false) ∧ w' = w := by
  go_enter Try.func13, Try.ntmps13
  go_wp2_with fail
  go_ret
  exact ⟨rfl, rfl⟩
section
variable {w : World} {F : Nat → Prop} {b m : Nat} {x : Bd}
theorem BdR.mapped {w0 w w' : World} {F : Nat → Prop} {b mg m n : Nat} {p q : Int → Nat} {rv : Value} {l : List Int} (h : BdR w0 w F b mg m p rv l) (hM : MapP w' mg n q) (g : w.grownBy w' (some mg)) : BdR w0 w' F b mg n q rv l := by
  have hkp : Kp (fun i => i = mg) w w' := Kp.gb g fun k hk => (Option.some.inj hk).symm
  exact ⟨hkp.has h.h (h.mp.not_cells h.h), hM, rowi_kp h.row hkp fun i hi => by
    obtain ⟨cs, hc⟩ := rowi_blk h.row hi
    exact h.mp.not_cells hc, h.fm, h.fb, h.own, h.kp.trans hkp fun i hi _ => hi ▸ h.fm⟩
theorem BdR.more {w0 w : World} {F : Nat → Prop} {b mg m n : Nat} {p : Int → Nat} {rv : Value} {l : List Int} (h : BdR w0 w F b mg m p rv l) (hm : m ≤ n) : BdR w0 w F b mg n p rv l := ⟨h.h, h.mp.more hm, h.row, h.fm, h.fb, h.own, h.kp⟩
theorem BdR.drew {w0 w : World} {F : Nat → Prop} {b mg m : Nat} {p : Int → Nat} {rv : Value} {l : List Int} (h : BdR w0 w F b mg m p rv l) : BdR w0 w.drew F b mg m p rv l := h.rest ((Below.refl _ _).drew)
set_option maxHeartbeats 8000000 in
theorem blame_at (h : BdS w F b m x) (hm : m < 1000) (k : Int) (hk : in64 k) (p : Option Addr) (l : List Int) (n c : Nat) (hn : n = l.length) (hl : n ≤ 1000) (hA : FsAt w p l) :
    Calls Try.prog 13 #[.pointer (some ⟨b, 0, none⟩), .int .i64 k, .slice p n c] w fun e w' => e = .returned (.bool ((x.blame k (pts l)).shuns k)) ∧ BdS w' (Nxt F w w') b (m + 1) (x.blame k (pts l)) ∧ Kp F w w' := by
  obtain ⟨mg, rv, hR⟩ := h.raw
  have hok := h.ok.blame k (pts l)
  have KP := Lib.hid (points_row p l n c hn hl w.drew (hA.below ((Below.refl _ _).drew)))
  have hql := Sr.pts_le l
  obtain ⟨q, hq⟩ : ∃ q, q = pts l := ⟨_, rfl⟩
  obtain ⟨d, hd⟩ : ∃ d, d = x.p k := ⟨_, rfl⟩
  have hd1 : d < 100 := by rw [hd]; exact h.ok.low k
  have HX := Lib.hid (And.intro hd h.ok)
  rw [← hq] at KP hok hql ⊢
  have hq1 : q ≤ 100000 := by omega
  obtain ⟨s, hs⟩ : ∃ s, s = d + q := ⟨_, rfl⟩
  obtain ⟨mn, hmn⟩ : ∃ mn, mn = min s 100000 := ⟨_, rfl⟩
  have hw : IntKind.i64.wrap ((d : Int) + (q : Int)) = (s : Int) := by rw [IntKind.wrap_i64]; omega
  have hmi : ((mn : Nat) : Int) = min (s : Int) 100000 := by omega
  have hmp := hR.drew.mp
  have hc0 := hR.drew.c0
  have HR := Lib.hid hR.drew
  have HQ := Lib.hid hq
  clear hn hA hql hq hR h hq1
  go_enter Try.func13, Try.ntmps13
  go_upto_region 3 with fail
  refine wp_tab (fun _ _ w' => w' = w.drew) 99 98 [3, 5, 7, 8, 9] [.pointer (some ⟨b, 0, none⟩), .pointer (some ⟨b, 0, none⟩), .pointer (some ⟨b, 0, none⟩), .map (some mg), .int .i64 k, .int .i64 (d : Int), .slice p n c, .int .i64 (q : Int), .int .i64 (s : Int), .int .i64 (mn : Int), .int .i64 (mn : Int)] rfl ⟨fun _ _ w' _ _ hC => ?_, fun _ _ w' _ _ hC => ?_, fun _ _ w' _ _ hC => ?_, fun _ _ w' _ _ hC => ?_, fun _ _ w' _ _ hC => ?_, trivial⟩ ?_
  · subst hC; exact .val (ex_load_of rfl rfl (ld_mp hc0)) rfl
  · subst hC; exact .val (ex_look rfl rfl rfl hmp hk (by rw [← HX.out.1])) rfl
  · subst hC; exact .call (KP.out.mono fun e w'' h => ⟨h.1, h.2⟩)
  · exact .val (ex_addi rfl rfl rfl hw) hC
  · exact .val (ex_min rfl rfl rfl hmi) hC
  · intro w' hJ
    subst hJ
    clear KP hc0 hmp
    simp only [finT, List.set_cons_zero, List.set_cons_succ, List.tail_cons, List.headD_cons]
    have HS : Hid (∀ (w' : World) (rv' : Value) (y : Bd), BdR w w' F b mg (m + 1) y.p rv' y.row → y = x.blame k q → Calls Try.prog 20 #[.pointer (some ⟨b, 0, none⟩), .int .i64 k] w' fun e w'' => e = .returned (.bool ((x.blame k q).shuns k)) ∧ BdS w'' (Nxt F w w'') b (m + 1) (x.blame k q) ∧ Kp F w w'') := Lib.hid fun w' rv' y hy e => by
      subst e
      obtain ⟨h1, h2⟩ := hy.done hok
      refine (shuns_at h1 k).mono fun e w'' hh => ?_
      obtain ⟨rfl, rfl⟩ := hh
      exact ⟨rfl, h1, h2⟩
    by_cases h100 : 100 ≤ s
    · have e : x.blame k q = ⟨upd x.p k 0, shunRow x.row k⟩ := by unfold Bd.blame; rw [if_pos (by rw [← HX.out.1]; omega)]
      have t1 : decide ((100 : Int) ≤ (mn : Int)) = true := decide_eq_true (by omega)
      have KN := Lib.hid (shun_at (HR.out.more (Nat.le_succ m)) HX.out.2.few HX.out.2.once k hk)
      have HE := Lib.hid e
      clear h100 hmi hw hmn hs hd hok e HR
      go_wp2_with fail
      refine (KN.out).mono ?_
      rintro r w2 ⟨rfl, rv2, h2⟩
      have KS := Lib.hid (HS.out w2 rv2 ⟨_, _⟩ h2 HE.out.symm)
      clear HS HE KN h2
      go_wp2_with fail
      refine (KS.out).mono ?_
      rintro r w3 ⟨rfl, h3, h4⟩
      have H3 := Lib.hid (And.intro h3 h4)
      clear h3 h4 KS
      go_wp2_with fail
      go_ret
      exact ⟨rfl, H3.out⟩
    · have e : x.blame k q = ⟨upd x.p k s, x.row⟩ := by unfold Bd.blame; rw [if_neg (by rw [← HX.out.1]; omega), hs, HX.out.1]
      obtain rfl : mn = s := by omega
      have t1 : decide ((100 : Int) ≤ (mn : Int)) = false := decide_eq_false (by omega)
      have hv1 : mn < 1000 := by omega
      by_cases h0 : mn = 0
      · have e0 : x.blame k q = x := by
          have hd0 : d = 0 := by omega
          rw [e, h0, ← hd0, hd, Sr.upd_id]
        have t2 : ¬ 0 < mn := by omega
        have KS := Lib.hid (HS.out _ rv x (HR.out.more (Nat.le_succ m)) e0.symm)
        clear HS e e0 h100 hmi hw hmn hs hd hok HR h0 hv1
        go_wp2_with fail
        refine (KS.out).mono ?_
        rintro r w3 ⟨rfl, h3, h4⟩
        have H3 := Lib.hid (And.intro h3 h4)
        clear h3 h4 KS
        go_wp2_with fail
        go_ret
        exact ⟨rfl, H3.out⟩
      · have t2 : 0 < mn := by omega
        have hmp := HR.out.mp
        have hc0 := HR.out.c0
        have HE := Lib.hid e
        clear e h100 hmi hw hmn hs hd hok h0
        go_wp2_with (with_reducible refine mapp_put rfl _ _ _ rfl k mn rfl rfl rfl hmp hk hm hv1 ?_; intro w2 hM2 g2)
        refine (HS.out w2 rv ⟨upd x.p k mn, x.row⟩ (HR.out.mapped hM2 g2) HE.out.symm).mono ?_
        rintro r w3 ⟨rfl, h3, h4⟩
        have H3 := Lib.hid (And.intro h3 h4)
        clear h3 h4 HS HE hM2 g2 HR
        go_wp2_with fail
        go_ret
        exact ⟨rfl, H3.out⟩
end
end Go.Proofs.Ytehineieklpgoaa.An
