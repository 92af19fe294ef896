/-
  ScoreApart: the walk.
-/
import Derived.Test.YtehineieklpgoaaSrDuo
namespace Go.Proofs.Ytehineieklpgoaa.An
open Go.RowKit Mem NN.Rg2
open Sr (Bd pt pts upd wo shunRow last16)
set_option maxRecDepth 100000
/-- what stands between all that was done, and what was done to one alone -/
structure Inv (x y : Bd) (bl ot : Bool) (k : Int) : Prop where
  p : x.p k = y.p k
  no : bl = false → k ∉ x.row
  row : ot = false → x.row = y.row
theorem Inv.start (k : Int) : Inv Bd.new Bd.new false false k := ⟨rfl, fun _ => by simp [Bd.new], fun _ => rfl⟩
theorem Inv.forget {x y : Bd} {bl ot : Bool} {k : Int} (h : Inv x y bl ot k) : Inv (x.forget k) (y.forget k) bl ot k := ⟨by show upd x.p k 0 k = upd y.p k 0 k; rw [Sr.upd_same, Sr.upd_same], h.no, h.row⟩
theorem Inv.other {x y : Bd} {bl ot : Bool} {k c : Int} (h : Inv x y bl ot k) (hc : c ≠ k) : Inv (x.forget c) y bl ot k := ⟨by show upd x.p c 0 k = y.p k; rw [Sr.upd_other _ _ (Ne.symm hc)]; exact h.p, h.no, h.row⟩
theorem Inv.blame {x y : Bd} {bl ot : Bool} {k : Int} (h : Inv x y bl ot k) (n : Nat) : Inv (x.blame k n) (y.blame k n) true ot k := by
  unfold Bd.blame
  rw [h.p]
  by_cases h1 : 100 ≤ y.p k + n
  · rw [if_pos h1, if_pos h1]
    exact ⟨by show upd x.p k 0 k = upd y.p k 0 k; rw [Sr.upd_same, Sr.upd_same], fun e => (by cases e), fun e => by show shunRow x.row k = shunRow y.row k; rw [h.row e]⟩
  · rw [if_neg h1, if_neg h1]
    exact ⟨by show upd x.p k _ k = upd y.p k _ k; rw [Sr.upd_same, Sr.upd_same], fun e => (by cases e), h.row⟩
theorem Inv.away {x y : Bd} {bl ot : Bool} {k c : Int} (h : Inv x y bl ot k) (hc : c ≠ k) (n : Nat) : Inv (x.blame c n) y bl true k := by
  unfold Bd.blame
  by_cases h1 : 100 ≤ x.p c + n
  · rw [if_pos h1]
    exact ⟨by show upd x.p c 0 k = y.p k; rw [Sr.upd_other _ _ (Ne.symm hc)]; exact h.p, fun e hm => (Sr.mem_shun hm).elim (h.no e) fun e => hc e.symm, fun e => (by cases e)⟩
  · rw [if_neg h1]
    exact ⟨by show upd x.p c _ k = y.p k; rw [Sr.upd_other _ _ (Ne.symm hc)]; exact h.p, h.no, fun e => (by cases e)⟩
theorem Inv.shuns {x y : Bd} {bl ot : Bool} {k : Int} (h : Inv x y bl ot k) : (bl = false → x.shuns k = false) ∧ (ot = false → x.shuns k = y.shuns k) :=
  ⟨fun e => decide_eq_false (h.no e), fun e => by unfold Bd.shuns; rw [h.row e]⟩
set_option maxHeartbeats 16000000 in
theorem sapart_walk (a : Option Addr) (l : List Cl) (n c : Nat) (k : Int) (hn : n = l.length) (hn9 : n < 9223372036854775808) (hk : in64 k) (w : World) (hA : CallsAt w a l) : Calls Try.prog 4 #[.slice a n c, .int .i64 k] w fun e w' => e = .returned (.bool true) ∧ Below w.heap.size w w' := by
  have HA := Lib.hid hA
  have HN := Lib.hid hn
  have KG := Lib.hid (fun wq (hb : Below w.heap.size w wq) => great_at a l n c hn hn9 wq (hA.below hb))
  clear hA hn
  go_enter Try.func4, Try.ntmps4
  go_wp2_with fail
  refine (alive20 w).mono ?_
  rintro e w1 ⟨rfl, hB⟩
  go_wp2_with fail
  refine (KG.out _ hB).mono ?_
  rintro e w2 ⟨g, rfl, hg, hb2⟩
  replace hB := hB.trans (hb2.mono hB.size)
  clear hb2 KG
  cases g with
  | true =>
    clear hg
    go_wp2_with fail
    go_ret
    exact ⟨rfl, hB⟩
  | false =>
    have HG := Lib.hid (hg rfl)
    have hn100 := HG.out.1
    clear hg
    go_wp2_with fail
    refine (new_at w2).mono ?_
    rintro e w3 ⟨b, rfl, hwb, hS, hb3⟩
    have HS := Lib.hid (And.intro hS hb3)
    have hB3 := hB.trans (hb3.mono hB.size)
    clear hS hb3 hwb
    go_wp2_with fail
    refine (new_at w3).mono ?_
    rintro e w4 ⟨o, rfl, hwo, hS4, hb4⟩
    have HD : Hid (Duo w w4 (PB b 0 Bd.new) (PB o 0 Bd.new) none []) := Lib.hid ⟨_, _, HS.out.1.below hb4 fun i hi => hi.2, hS4, fun i hi => ⟨Nat.le_trans hB.size hi.1, Nat.lt_of_lt_of_le hi.2 hb4.size, fun h => absurd hi.2 (Nat.not_lt_of_le h.1)⟩, fun i hi => ⟨Nat.le_trans hB3.size hi.1, hi.2⟩, fun z hz => (by cases hz), fun z hz => (by cases hz), hB3.trans (hb4.mono hB3.size)⟩
    clear HS hS4 hb4 hwo hB3 hB
    go_wp2_with fail
    go_loopw [7, 8, 19] (fun s7 s8 i wr => ∃ (u : Nat) (bl ot : Bool) (x y : Bd), u ≤ n ∧ s7 = .bool bl ∧ s8 = .bool ot ∧ i = .int .i64 (u : Int) ∧ Hid (Duo w wr (PB b u x) (PB o u y) none [] ∧ Inv x y bl ot k)) (fun _ _ i _ => n - (intOf i).toNat)
    case atStart => exact ⟨0, false, false, Bd.new, Bd.new, Nat.zero_le _, rfl, rfl, rfl, Lib.hid ⟨HD.out, Inv.start k⟩⟩
    case round =>
      obtain ⟨u, bl, ot, x, y, hu, rfl, rfl, rfl, HI⟩ := hrel
      rename World => wl
      clear HD
      by_cases hlt : u < n
      · obtain ⟨q, hq⟩ : ∃ q, l[u]? = some q := ⟨l[u]'(by rw [← HN.out]; exact hlt), List.getElem?_eq_getElem _⟩
        have hbw := HI.out.1.below
        obtain ⟨ab, ao, rfl, _, hcc⟩ := (HA.out.below hbw) (by rw [← HN.out]; omega)
        obtain ⟨hok, hr⟩ := hcc u q hq
        have h20 := HG.out.2 u q hq
        have HQ : Hid (∀ wq, Below w.heap.size w wq → FsAt wq q.na q.ls) := Lib.hid fun wq hbq => by
          obtain ⟨ab2, ao2, e, _, hcc2⟩ := (HA.out.below hbq) (by rw [← HN.out]; omega)
          exact (hcc2 u q hq).1.at_
        have hp64 := hok.p64
        have HQN := Lib.hid hok.n
        have hnew : Has (wl.alloc (.cells #[.int .i64 0, .int .i64 0, .slice none 0 0] 32)) wl.heap.size #[.int .i64 0, .int .i64 0, .slice none 0 0] 32 := Has.new _ _
        clear hcc hq hok hbw
        go_upto_region 10 with (first
          | (with_reducible refine cl_load_mid rfl _ rfl ab (ao + u * 3) rfl q hr ?_)
          | (with_reducible refine cl_store rfl _ _ rfl _ q rfl rfl _ hnew rfl ?_))
        have hC3 := cl_new wl q
        have hB3 : Below wl.heap.size wl ((wl.alloc (.cells #[.int .i64 0, .int .i64 0, .slice none 0 0] 32)).setRow wl.heap.size (clA q)) := by
          have := gb_setRow (gb_below ((Below.refl wl.heap.size wl).alloc (Nat.le_refl _) (.cells #[.int .i64 0, .int .i64 0, .slice none 0 0] 32)) (some wl.heap.size)) (clA q)
          exact gb_toBelow this (Nat.le_refl _) (Nat.le_refl _)
        generalize World.setRow _ _ _ = w5 at *
        clear hnew hr
        obtain ⟨bC, hbC⟩ : ∃ bC, bC = wl.heap.size := ⟨_, rfl⟩
        have H5 : Hid (Duo w w5 (PB b u x) (PB o u y) (some (bC, q)) [] ∧ Inv x y bl ot k) := Lib.hid ⟨HI.out.1.box (PB.own _ _ _) (PB.own _ _ _) hB3 (hbC ▸ hC3) (by omega), HI.out.2⟩
        rw [← hbC]
        clear hB3 hbC hC3 HI
        obtain ⟨kd, hkd⟩ : ∃ kd, kd = q.kind := ⟨_, rfl⟩
        obtain ⟨pe, hpe⟩ : ∃ pe, pe = q.peer := ⟨_, rfl⟩
        obtain ⟨na, hna⟩ : ∃ na, na = q.na := ⟨_, rfl⟩
        obtain ⟨nn, hnn⟩ : ∃ nn, nn = q.nn := ⟨_, rfl⟩
        obtain ⟨nc, hnc⟩ : ∃ nc, nc = q.nc := ⟨_, rfl⟩
        obtain ⟨ls, hls⟩ : ∃ ls, ls = q.ls := ⟨_, rfl⟩
        have HCL : Hid (∀ (wq : World) (A B : OwnP) (E : FsL), Duo w wq A B (some (bC, q)) E → wq.cell? ⟨bC, 0, none⟩ = some (.int .i64 kd) ∧ wq.cell? ⟨bC, 1, none⟩ = some (.int .i64 pe) ∧ wq.cell? ⟨bC, 2, none⟩ = some (.slice na nn nc)) := Lib.hid fun wq A B E hd => by
          rw [hkd, hpe, hna, hnn, hnc]
          exact ⟨hd.cl.c0, hd.cl.c1, hd.cl.c2⟩
        rw [← hpe] at hp64
        rw [← hnn] at h20
        rw [← hna, ← hls] at HQ
        rw [← hnn, ← hls] at HQN
        clear hkd hpe hna hnn hnc hls
        obtain ⟨c0, c1, c2⟩ := HCL.out _ _ _ _ H5.out.1
        have ob1 := PB.own b u x
        have oo1 := PB.own o u y
        by_cases e1 : kd = 1
        · have t1 : (kd == 1) = true := by simpa using e1
          have K6 := Lib.hid (duo_forget1 H5.out.1 oo1 pe hp64)
          have HV := Lib.hid H5.out.2
          clear e1 H5 HQ HQN h20
          go_wp2_with fail
          refine (K6.out).mono ?_
          rintro e w6 ⟨rfl, h6⟩
          have c1 := (HCL.out _ _ _ _ h6).2.1
          by_cases e2 : pe = k
          · have t2 : (pe == k) = true := by simpa using e2
            have K7 := Lib.hid (duo_forget2 h6 (PB.own _ _ _) k hk)
            have HE := Lib.hid e2
            clear e2 K6 h6
            go_wp2_with fail
            refine (K7.out).mono ?_
            rintro e w7 ⟨rfl, h7⟩
            have H7 : Hid (Duo w w7 (PB b (u + 1) (x.forget k)) (PB o (u + 1) (y.forget k)) none [] ∧ Inv (x.forget k) (y.forget k) bl ot k) := Lib.hid ⟨(((HE.out ▸ h7 : Duo w w7 (PB b u (x.forget k)) _ _ _).mapA fun F h => PB.more h (Nat.le_succ u)).mapB fun F h => PB.more h (Nat.le_succ u)).free, HV.out.forget⟩
            clear h7 K7 HV
            go_wp2_with fail
            go_roundw
            case rel => exact ⟨u + 1, bl, ot, _, _, by omega, rfl, rfl, by go_num, H7⟩
            case measure => simp [intOf]; omega
          · have t2 : (pe == k) = false := by simpa using e2
            have H7 : Hid (Duo w w6 (PB b (u + 1) (x.forget pe)) (PB o (u + 1) y) none [] ∧ Inv (x.forget pe) y bl ot k) := Lib.hid ⟨((h6.mapA fun F h => PB.more h (Nat.le_succ u)).mapB fun F h => PB.more h (Nat.le_succ u)).free, HV.out.other e2⟩
            clear e2 h6 HV K6
            go_wp2_with fail
            go_roundw
            case rel => exact ⟨u + 1, bl, ot, _, _, by omega, rfl, rfl, by go_num, H7⟩
            case measure => simp [intOf]; omega
        · have t1 : (kd == 1) = false := by simpa using e1
          by_cases e0 : kd = 0
          · have t0 : (kd != 0) = false := by simpa using e0
            obtain ⟨an, han⟩ : ∃ an, an = (x.blame pe (pts ls)).shuns pe := ⟨_, rfl⟩
            have H5d := Lib.hid (H5.out.1.rest ob1 oo1 ((Below.refl _ _).drew))
            have HV := Lib.hid H5.out.2
            clear e1 e0 H5
            go_upto_region 15 with fail
            refine wp_tabG (fun b1 b2 (g : Option Addr × Nat) w' => Duo w w' (bif b2 then PB b (u + 1) (x.blame pe (pts ls)) else PB b u x) (PB o u y) (some (bC, q)) (bif b1 then [(g.1, ls)] else [])) 5 6 [2, 4, 5, 6] (fun g => [.pointer (some ⟨b, 0, none⟩), .pointer (some ⟨bC, 1, none⟩), .int .i64 pe, .pointer (some ⟨bC, 2, none⟩), .slice na nn nc, .slice g.1 nn g.2, .bool an]) (none, 0) H5d.out ⟨fun b1 b2 g w' h1 h2 hC => ?_, fun b1 b2 g w' h1 h2 hC => ?_, fun b1 b2 g w' h1 h2 hC => ?_, fun b1 b2 g w' h1 h2 hC => ?_, trivial⟩ ?_
            · exact .val (ex_load_of rfl rfl (ld_i (HCL.out _ _ _ _ hC).2.1)) hC
            · exact .val (ex_load_of rfl rfl (ld_sl (HCL.out _ _ _ _ hC).2.2)) hC
            · obtain rfl := h1.no (by kernel_rfl)
              obtain rfl := h2.no (by kernel_rfl)
              exact .callN [5] ((duo_faults hC ob1 oo1 na ls nn nc HQN.out (by omega) (HQ.out _ hC.below)).mono fun e w'' ⟨p', c', he, hd⟩ => ⟨(p', c'), rfl, he, hd⟩)
            · obtain rfl := h1.yes (by kernel_rfl)
              obtain rfl := h2.no (by kernel_rfl)
              exact .call ((duo_blame1 hC oo1 (by omega) pe hp64 g.1 ls nn g.2 HQN.out (by omega) (hC.fs (List.mem_singleton.2 rfl))).mono fun e w'' h => ⟨by rw [h.1, ← han]; rfl, h.2⟩)
            · intro g w' hJ
              have H6 := Lib.hid (Duo.sub (E' := []) hJ fun z hz => by cases hz)
              clear hJ H5d ob1
              simp only [finT, List.set_cons_zero, List.set_cons_succ, List.tail_cons, List.headD_cons]
              rename World => w6
              obtain ⟨c0, c1, c2⟩ := HCL.out _ _ _ _ H6.out
              by_cases e2 : pe = k
              case' pos =>
                have t2 : (pe == k) = true := by simpa using e2
                have HE := Lib.hid e2
                have K7 := Lib.hid (duo_faults H6.out (PB.own _ _ _) oo1 na ls nn nc HQN.out (by omega) (HQ.out _ H6.out.below))
                clear e2
                go_wp2_with fail
                refine (K7.out).mono ?_
                rintro e w7 ⟨p7, c7, rfl, h7⟩
                have K8 := Lib.hid (duo_blame2 h7 (PB.own _ _ _) (by omega) k hk p7 ls nn c7 HQN.out (by omega) (h7.fs (List.mem_cons_self ..)))
                clear h7 K7
                go_wp2_with fail
                refine (K8.out).mono ?_
                rintro e w8 ⟨rfl, h8⟩
                have H20 : Hid (∃ x' y', Duo w w8 (PB b (u + 1) x') (PB o (u + 1) y') (some (bC, q)) [] ∧ Inv x' y' true ot k) := Lib.hid ⟨_, _, Duo.sub (E' := []) h8 fun z hz => (by cases hz), HE.out ▸ HV.out.blame (pts ls)⟩
                clear h8 K8 HV HE oo1 t0 t1 H6
                go_upto_region 20 with fail
                obtain ⟨x2, y2, h20, hI⟩ := H20.out
                have KA := Lib.hid (duo_sum1 h20 k hk)
                have KB := Lib.hid (duo_sum2 h20 k hk)
                rw [← hI.p] at KB
                have KS := Lib.hid (duo_shuns1 h20 k)
                have KO := Lib.hid (duo_shuns2 h20 k)
                have hss := hI.shuns
                have HR := Lib.hid (And.intro h20.free hI)
                obtain ⟨v, hv⟩ : ∃ v : Int, v = (x2.p k : Int) := ⟨_, rfl⟩
                obtain ⟨s1, hs1⟩ : ∃ s, s = x2.shuns k := ⟨_, rfl⟩
                obtain ⟨s2, hs2⟩ : ∃ s, s = y2.shuns k := ⟨_, rfl⟩
                rw [← hv] at KA KB
                rw [← hs1] at KS hss
                rw [← hs2] at KO hss
                have t5 : (v != v) = false := by simp
                clear hv hs1 hs2 h20 hI H20
                cases ot
                · have e : s1 = s2 := hss.2 rfl
                  subst e
                  have t6 : (s1 != s1) = false := by simp
                  clear hss
                  go_wp2_with fail
                  refine (KA.out).mono ?_
                  rintro e w' ⟨rfl, rfl⟩
                  go_wp2_with fail
                  refine (KB.out).mono ?_
                  rintro e w' ⟨rfl, rfl⟩
                  go_wp2_with fail
                  refine (KS.out).mono ?_
                  rintro e w' ⟨rfl, rfl⟩
                  go_wp2_with fail
                  refine (KO.out).mono ?_
                  rintro e w' ⟨rfl, rfl⟩
                  go_wp2_with fail
                  go_roundw
                  case rel => exact ⟨u + 1, true, false, _, _, by omega, rfl, rfl, by go_num, HR⟩
                  case measure => simp [intOf]; omega
                · clear hss
                  go_wp2_with fail
                  refine (KA.out).mono ?_
                  rintro e w' ⟨rfl, rfl⟩
                  go_wp2_with fail
                  refine (KB.out).mono ?_
                  rintro e w' ⟨rfl, rfl⟩
                  go_wp2_with fail
                  go_roundw
                  case rel => exact ⟨u + 1, true, true, _, _, by omega, rfl, rfl, by go_num, HR⟩
                  case measure => simp [intOf]; omega
              case' neg =>
                have t2 : (pe == k) = false := by simpa using e2
                have H20 : Hid (∃ x' y', Duo w w6 (PB b (u + 1) x') (PB o (u + 1) y') (some (bC, q)) [] ∧ Inv x' y' bl true k) := Lib.hid ⟨_, _, H6.out.mapB fun F h => PB.more h (Nat.le_succ u), HV.out.away e2 _⟩
                clear HV e2 oo1 t0 t1 H6
                go_upto_region 20 with fail
                obtain ⟨x2, y2, h20, hI⟩ := H20.out
                have KA := Lib.hid (duo_sum1 h20 k hk)
                have KB := Lib.hid (duo_sum2 h20 k hk)
                rw [← hI.p] at KB
                have KS := Lib.hid (duo_shuns1 h20 k)
                have KO := Lib.hid (duo_shuns2 h20 k)
                have hss := hI.shuns
                have HR := Lib.hid (And.intro h20.free hI)
                obtain ⟨v, hv⟩ : ∃ v : Int, v = (x2.p k : Int) := ⟨_, rfl⟩
                obtain ⟨s1, hs1⟩ : ∃ s, s = x2.shuns k := ⟨_, rfl⟩
                obtain ⟨s2, hs2⟩ : ∃ s, s = y2.shuns k := ⟨_, rfl⟩
                rw [← hv] at KA KB
                rw [← hs1] at KS hss
                rw [← hs2] at KO hss
                have t5 : (v != v) = false := by simp
                clear hv hs1 hs2 h20 hI H20
                cases bl
                · have e : s1 = false := hss.1 rfl
                  subst e
                  clear hss
                  go_wp2_with fail
                  refine (KA.out).mono ?_
                  rintro e w' ⟨rfl, rfl⟩
                  go_wp2_with fail
                  refine (KB.out).mono ?_
                  rintro e w' ⟨rfl, rfl⟩
                  go_wp2_with fail
                  refine (KS.out).mono ?_
                  rintro e w' ⟨rfl, rfl⟩
                  go_wp2_with fail
                  go_roundw
                  case rel => exact ⟨u + 1, false, true, _, _, by omega, rfl, rfl, by go_num, HR⟩
                  case measure => simp [intOf]; omega
                · clear hss
                  go_wp2_with fail
                  refine (KA.out).mono ?_
                  rintro e w' ⟨rfl, rfl⟩
                  go_wp2_with fail
                  refine (KB.out).mono ?_
                  rintro e w' ⟨rfl, rfl⟩
                  go_wp2_with fail
                  go_roundw
                  case rel => exact ⟨u + 1, true, true, _, _, by omega, rfl, rfl, by go_num, HR⟩
                  case measure => simp [intOf]; omega
          · have t0 : (kd != 0) = true := by simpa using e0
            have H7 : Hid (Duo w w5 (PB b (u + 1) x) (PB o (u + 1) y) none [] ∧ Inv x y bl ot k) := Lib.hid ⟨((H5.out.1.mapA fun F h => PB.more h (Nat.le_succ u)).mapB fun F h => PB.more h (Nat.le_succ u)).free, H5.out.2⟩
            clear e0 e1 H5
            go_wp2_with fail
            go_roundw
            case rel => exact ⟨u + 1, bl, ot, _, _, by omega, rfl, rfl, by go_num, H7⟩
            case measure => simp [intOf]; omega
      · obtain rfl : u = n := by omega
        have hbw := HI.out.1.below
        clear HI HA HN HG
        go_wp2_with fail
        go_ret
        exact ⟨rfl, hbw⟩
end Go.Proofs.Ytehineieklpgoaa.An
