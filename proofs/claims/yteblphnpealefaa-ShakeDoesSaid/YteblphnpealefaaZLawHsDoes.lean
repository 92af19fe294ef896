/-
  ShakeDoes (P21.1): in every script each answer, and the state, are the document's; a nil talk.
-/
import Derived.Test.YteblphnpealefaaBunQ24
namespace Go.Proofs.Yteblphnpealefaa.An
open Go.RowKit Mem Sc Rg2
set_option maxRecDepth 100000
set_option maxHeartbeats 16000000 in
theorem shdoes_walk (ve se he nb : Int) (g0 : Bool) (since : Int) (a : Option Addr) (l : List Cl) (n c : Nat) (hn : n = l.length) (hn9 : n < 9223372036854775808) (W : World) (hA : CallsAt W a l) :
    Calls Try.prog 3 #[.agg #[.int .i64 ve, .int .i64 se, .int .i64 he, .int .i64 nb], .bool g0, .int .i64 since, .slice a n c] W fun e w' => e = .returned (.bool true) ∧ Below W.heap.size W w' := by
  have KA := Lib.hid (fun w => alive21 w)
  have HA := Lib.hid hA
  have HN := Lib.hid hn
  obtain ⟨g1, hg1⟩ : ∃ g1, decide ((60 : Int) < (n : Int)) = g1 := ⟨_, rfl⟩
  clear hA hn
  have hO : Has (W.alloc (.cells #[.int .i64 ve, .int .i64 se, .int .i64 he, .int .i64 nb] 23)) W.heap.size #[.int .i64 ve, .int .i64 se, .int .i64 he, .int .i64 nb] 23 := Has.new _ _
  have hB := below_box W (.cells #[.int .i64 ve, .int .i64 se, .int .i64 he, .int .i64 nb] 23)
  go_enter Try.func3, Try.ntmps3
  go_upto_region 1 with fail
  generalize World.alloc _ _ = w1 at *
  obtain ⟨P, hP⟩ : ∃ P, P = W.heap.size := ⟨_, rfl⟩
  rw [← hP] at hO ⊢
  have hPW : W.heap.size ≤ P := by omega
  clear hP
  go_wp2_with fail
  refine (KA.out _).mono ?_
  rintro e w2 ⟨rfl, hb⟩
  have hB2 := hB.trans (hb.mono hB.size)
  have hO2 : Has w2 P #[.int .i64 ve, .int .i64 se, .int .i64 he, .int .i64 nb] 23 := (hb.block P hO.lt).trans hO
  have c0 : w2.cell? ⟨P, 0, none⟩ = some (.int .i64 ve) := hO2.cell 0
  have c1 : w2.cell? ⟨P, 1, none⟩ = some (.int .i64 se) := hO2.cell 1
  have c2 : w2.cell? ⟨P, 2, none⟩ = some (.int .i64 he) := hO2.cell 2
  have c3 : w2.cell? ⟨P, 3, none⟩ = some (.int .i64 nb) := hO2.cell 3
  clear hO hB hb KA
  obtain rfl | rfl : g1 = true ∨ g1 = false := by cases g1 <;> simp
  · go_wp2_with fail
    go_ret
    exact ⟨rfl, hB2⟩
  have K := Lib.hid (open_at ve se he nb since g0 w2)
  have HO := Lib.hid hO2
  clear hO2
  go_wp2_with fail
  refine (K.out).mono ?_
  rintro e w3 ⟨b, v, rfl, hbw, hT, hr, ho, hB3⟩
  have hO3 : Has w3 P #[.int .i64 ve, .int .i64 se, .int .i64 he, .int .i64 nb] 23 := (hB3.block P HO.out.lt).trans HO.out
  have hPb : P ≠ b := Nat.ne_of_lt (Nat.lt_of_lt_of_le HO.out.lt hbw)
  have hbW : W.heap.size ≤ b := Nat.le_trans hB2.size hbw
  have hB4 := hB2.trans (hB3.mono hB2.size)
  obtain ⟨p, cc, rfl, hl⟩ := hr.lie
  clear K c0 c1 c2 c3 ho hr hbw hB3 hB2 HO hg1
  have c3 : w3.cell? ⟨P, 3, none⟩ = some (.int .i64 nb) := hO3.cell 3
  have hR4 : RkAt (w3.alloc (.cells #[.bool g0, .int .i64 nb, .int .i64 since, .int .i64 0, .bool false, .int .i64 0, .int .i64 0, .int .i64 0] 32)) w3.heap.size (Tk.new ve se he nb g0 since) := Has.new _ _
  have hbx := below_box w3 (.cells #[.bool g0, .int .i64 nb, .int .i64 since, .int .i64 0, .bool false, .int .i64 0, .int .i64 0, .int .i64 0] 32)
  go_upto_region 7 with fail
  generalize World.alloc _ _ = w4 at *
  obtain ⟨r, hr⟩ : ∃ r, r = w3.heap.size := ⟨_, rfl⟩
  rw [← hr] at hR4 ⊢
  have hbr : b ≠ r := by have := hT.lt; omega
  have hPr : P ≠ r := by have := hO3.lt; omega
  have hrW : W.heap.size ≤ r := by have := hB4.size; omega
  obtain ⟨o, hoe⟩ : ∃ o : Mo, o = ⟨1, ve, se, he, nb⟩ := ⟨_, rfl⟩
  have AP : Ap W P b r := ⟨hPb, hPr, hbr, hPW, hbW, hrW⟩
  have ov : o.v = ve := by rw [hoe]
  have os : o.s = se := by rw [hoe]
  have oh : o.h = he := by rw [hoe]
  have on : o.n = nb := by rw [hoe]
  have HE0 : Hid (∀ w, Has w P #[.int .i64 o.v, .int .i64 o.s, .int .i64 o.h, .int .i64 o.n] 23 → Has w P #[.int .i64 ve, .int .i64 se, .int .i64 he, .int .i64 nb] 23) := Lib.hid fun w h => by rw [ov, os, oh, on] at h; exact h
  have HHE : Hid (∀ w, Calls Try.prog 9 #[.agg (mmA o.m), .agg #[.int .i64 ve, .int .i64 se, .int .i64 he, .int .i64 nb]] w fun e w' => e = .returned (.bool true) ∧ Below w.heap.size w w') := Lib.hid fun w => by rw [hoe]; exact hello_at ⟨ve, se, he, nb, false, 0, 0, 0, false, 0, 0⟩ w
  have HS : Hid (St W P b r o w4 (Tk.new ve se he nb g0 since) (Tk.new ve se he nb g0 since)) := Lib.hid ⟨hT.on hbx, hR4, by rw [ov, os, oh, on]; exact (hbx.block P hO3.lt).trans hO3, hoe.symm, Tk.new_ok _ _ _ _ _ _, hB4.trans (hbx.mono hB4.size)⟩
  have hl4 := hl.below hbx
  rw [← hoe] at hl hl4
  have HL4 := Lib.hid hl4
  have HOK : Hid (o.k = 1) := Lib.hid (by rw [hoe])
  clear hT hR4 hO3 hl hl4 hB4 hbx hr hbr hPr hrW hbW hPb hPW c3 ov os oh on hoe
  go_cut [65] from 43 to 65 (fun s65 wx => s65 = .bool false ∧ Hid (St W P b r o wx (Tk.new ve se he nb g0 since) (Tk.new ve se he nb g0 since)))
  case first =>
    cases g0
    · obtain ⟨gq, fq, rfl, _, hcq⟩ := HL4.out (by show 0 < 1; decide)
      have rq : w4.rangeAt gq fq (mmC o.m) := by
        have := hcq 0 o rfl
        simpa using this
      clear hcq
      refine wp_tab (fun _ _ w' => Below w4.heap.size w4 w') 99 98 [16, 17, 18] [.bool false, .bool false, undef, undef, undef, .bool false, .bool false, .bool false, .bool true, .bool true, .slice (some ⟨gq, fq, none⟩) 1 cc, .int .i64 1, .bool false, .bool false, .slice (some ⟨gq, fq, none⟩) 1 cc, .pointer (some ⟨gq, fq, none⟩), .agg (mmA o.m), .agg #[.int .i64 ve, .int .i64 se, .int .i64 he, .int .i64 nb], .bool true, .bool false, .bool false, .bool false, .bool false] (Below.refl _ _).drew ⟨fun _ _ w' _ _ hC => ?_, fun _ _ w' _ _ hC => ?_, fun _ _ w' _ _ hC => ?_, trivial⟩ ?_ (hc := by as_aux_lemma => kernel_rfl) (hE := by intro w; as_aux_lemma => kernel_rfl)
      · exact .val (ex_load_of rfl rfl (ld_msg (range_below rq hC (block_lt_of_cell (rq 0 _ rfl))) rfl)) hC
      · exact .val (ex_load_of rfl rfl (ld_ownP (HE0.out _ (HS.out.rest hC).own))) hC
      · exact .call ((HHE.out w').mono fun e w'' h => ⟨h.1, hC.trans (h.2.mono hC.size)⟩)
      intro w5 hb5
      have H5 := Lib.hid (HS.out.rest hb5)
      clear hb5 HS HL4 rq
      dsimp only [finT, List.set_cons_zero, List.set_cons_succ, List.tail_cons, List.headD_cons]
      go_wp2_with fail
      go_meet
      case rel => exact ⟨rfl, H5⟩
    · refine wp_tab (fun _ _ w' => Below w4.heap.size w4 w') 99 98 [] [.bool true, .bool true, .slice p 0 cc, .int .i64 0, .bool false, .bool false, .bool false, .bool true, .bool false, .bool false, undef, undef, undef, undef, undef, undef, undef, undef, undef, undef, undef, .bool false, .bool false] (Below.refl _ _).drew trivial ?_
      intro w5 hb5
      have H5 := Lib.hid (HS.out.rest hb5)
      clear hb5 HS HL4
      dsimp only [finT, List.set_cons_zero, List.set_cons_succ, List.tail_cons, List.headD_cons]
      go_wp2_with fail
      go_meet
      case rel => exact ⟨rfl, H5⟩
  case rest =>
    obtain ⟨rfl, H5⟩ := hcut
    generalize Tk.new ve se he nb g0 since = x0 at *
    clear HS HL4
    go_wp2_with fail
    go_loopw [68] (fun i wl => ∃ (u : Nat) (x : Tk), u ≤ n ∧ i = .int .i64 (u : Int) ∧ Hid (St W P b r o wl x x)) (fun i _ => n - (intOf i).toNat)
    case atStart => exact ⟨0, x0, Nat.zero_le _, rfl, H5⟩
    case round =>
      obtain ⟨u, x, hu, rfl, HI⟩ := hrel
      rename World => wl
      clear H5
      by_cases hlt : u < n
      · obtain ⟨y, hy⟩ : ∃ y, l[u]? = some y := ⟨l[u]'(by rw [← HN.out]; exact hlt), List.getElem?_eq_getElem _⟩
        obtain ⟨ab, ao, rfl, _, hcc⟩ := (HA.out.below HI.out.bel) (by rw [← HN.out]; omega)
        obtain ⟨hok, hr⟩ := hcc u y hy
        have hyl := clC_length hok
        have HYO := Lib.hid hok
        have hnew : Has (wl.alloc (.cells (clA clZ) 41)) wl.heap.size (clA clZ) 41 := Has.new _ _
        clear hcc hy hok
        go_upto_region 12 with (first
          | (with_reducible refine cl_load_mid rfl _ rfl ab (ao + u * 42) rfl y hr hyl ?_)
          | (with_reducible refine cl_alloc rfl rfl ?_)
          | (with_reducible refine cl_store rfl _ _ rfl _ y rfl rfl hyl _ hnew rfl ?_))
        have hC3 := cl_new wl y
        have hB3 := cl_bel wl y
        generalize World.setRow _ _ _ = w5 at *
        clear hnew hr hyl
        obtain ⟨bC, hbC⟩ : ∃ bC, bC = wl.heap.size := ⟨_, rfl⟩
        rw [← hbC] at hC3 ⊢
        have hnb : ¬ bC = b := fun e => absurd HI.out.t.lt (by omega)
        have hnr : ¬ bC = r := fun e => absurd HI.out.r.lt (by omega)
        have HS5 := Lib.hid (HI.out.rest hB3)
        have HC5 := Lib.hid hC3
        have k0 := hC3.c0
        clear hB3 hbC HI hC3
        go_upto_block 2 with fail
        clear k0
        have k0 := HC5.out.c0
        go_cut [14, 15, 16, 17, 18, 19, 20, 21] from 74 to 199 (fun s14 s15 s16 s17 s18 s19 s20 s21 wx => ∃ x' : Tk, Hid (St W P b r o wx x' x'))
        case first =>
          by_cases e0 : y.kind = 0
          · have t0 : (y.kind == 0) = true := by rw [e0]; rfl
            have r1 := HC5.out.m
            have rl := mmC_length HYO.out
            have KI := Lib.hid (in_at HS5.out.t y.m HYO.out)
            clear e0
            go_wp2_with (first
              | (with_reducible refine mm_load_mid rfl _ rfl bC 1 rfl y.m r1 rl ?_))
            refine (KI.out).mono ?_
            rintro e w6 ⟨v1, rfl, hT6, hr6, hv6, hk6⟩
            have HS6 := Lib.hid (HS5.out.actB AP hk6 hT6 ((Tk.inn_own _ _).trans HS5.out.xo))
            have HC6 := Lib.hid (HC5.out.keep hk6 hnb)
            have hr5 := HS5.out.r.lt
            have hok5 := HS5.out.zk
            have KR := Lib.hid (rin_at HS6.out.r HS6.out.zk y.m)
            obtain ⟨p1, c1, rfl, hl1⟩ := hr6.lie
            clear r1 KI k0 hT6 hr6 hk6 HS5 HC5
            have r1 := HC6.out.m
            go_wp2_with (first
              | (with_reducible refine mm_load_mid rfl _ rfl bC 1 rfl y.m r1 rl ?_))
            refine (KR.out).mono ?_
            rintro e w7 ⟨v2, rfl, hR7, hr7, _, hk7⟩
            obtain ⟨p2, c2, rfl, hl2⟩ := hr7.lie
            have HS7 := Lib.hid (HS6.out.actR AP hk7 hR7 (Tk.inn_ok hok5 y.m))
            have HC7 := Lib.hid (HC6.out.keep hk7 hnr)
            have HL1 := Lib.hid (hl1.on hk7.size fun bb off ee hlt => hk7.block bb hlt fun er => absurd (hv6 bb (by rw [ee]; rfl)) (by omega))
            have HL2 := Lib.hid hl2
            have HSD := Lib.hid (x.said y.m)
            have HFEW := Lib.hid (x.said_few y.m)
            rw [show x.hello = o from (Tk.inn_own x y.m).symm.trans HS6.out.xo] at HSD
            rw [List.length_map] at *
            clear r1 KR hR7 hr7 hk7 HS6 HC6 hl1 hl2 hv6 hr5 hok5
            generalize (x.inn y.m).1 = x' at *
            generalize (x.inn y.m).2.1 = L at *
            generalize (x.inn y.m).2.2 = ff at *
            have hff : (ff != ff) = false := by simp
            have HFW := HFEW.out
            obtain ⟨N, hN⟩ : ∃ N, N = L.length := ⟨_, rfl⟩
            have HNL := Lib.hid hN
            have hNN : ((N : Int) != (N : Int)) = false := by simp
            rw [← hN] at HFW ⊢
            clear hN HFEW
            go_wp2_with fail
            go_loopw [102] (fun i wq => ∃ j : Nat, j ≤ N ∧ i = .int .i64 (j : Int) ∧ Below w7.heap.size w7 wq) (fun i _ => N - (intOf i).toNat)
            case atStart => exact ⟨0, Nat.zero_le _, rfl, Below.refl _ _⟩
            case round =>
              obtain ⟨j, hj, rfl, hbq⟩ := hrel
              rename World => wq
              by_cases hlt2 : j < N
              · obtain ⟨o1, ho1⟩ : ∃ o1, L[j]? = some o1 := ⟨L[j]'(by rw [← HNL.out]; exact hlt2), List.getElem?_eq_getElem _⟩
                obtain ⟨g1, f1, rfl, hg1, hq1⟩ := HL1.out (by rw [← HNL.out]; omega)
                obtain ⟨g2, f2, rfl, hg2, hq2⟩ := HL2.out (by rw [List.length_map, ← HNL.out]; omega)
                have rr1 := range_below (hq1 j o1 ho1) hbq hg1
                have rr2 : wq.cell? ⟨g2, f2 + j, none⟩ = some (.int .i64 o1.k) := (World.cell?_of_block (a := ⟨g2, f2 + j, none⟩) (hbq.block g2 hg2)).trans (hq2 j o1.k (by rw [List.getElem?_map, ho1]; rfl))
                have hg2q : g2 < wq.heap.size := Nat.lt_of_lt_of_le hg2 hbq.size
                have hSD := HSD.out o1 (List.mem_of_getElem? ho1)
                have hnewm := mm_new wq (mmZ 0)
                have s1 : (mmA o1.m).size = 39 := mmA_size o1.ok
                have s2 : (mmC o1.m).length = 39 := mmC_length o1.ok
                have HSq := Lib.hid (HS7.out.rest hbq)
                have HCq := Lib.hid (HC7.out.on hbq)
                clear hq1 hq2 ho1 hg1 hg2
                go_upto_region 21 with (first
                  | (with_reducible refine mm_load_mid rfl _ rfl g1 (f1 + j * 39) rfl o1.m rr1 s2 ?_)
                  | (with_reducible refine mm_alloc rfl rfl ?_)
                  | (with_reducible refine mm_store rfl _ _ rfl _ _ o1.m rfl rfl rfl s1 hnewm rfl ?_))
                have hM8 : MmAt ((wq.alloc (.cells (mmA (mmZ 0)) 39)).setRow wq.heap.size (mmA o1.m)) wq.heap.size o1.m := (Has.new (w := wq) (mmA (mmZ 0)) 39).row _
                have hb8 : Below wq.heap.size wq ((wq.alloc (.cells (mmA (mmZ 0)) 39)).setRow wq.heap.size (mmA o1.m)) := gb_toBelow (gb_setRow (gb_below (below_box wq (.cells (mmA (mmZ 0)) 39)) (some wq.heap.size)) (mmA o1.m)) (Nat.le_refl _) (Nat.le_refl _)
                generalize World.setRow _ _ _ = w8 at *
                generalize wq.heap.size = B at hM8 ⊢
                have HS8 := Lib.hid (HSq.out.rest hb8)
                have HC8 := Lib.hid (HCq.out.on hb8)
                have rr3 : w8.cell? ⟨g2, f2 + j, none⟩ = some (.int .i64 o1.k) := (World.cell?_of_block (a := ⟨g2, f2 + j, none⟩) (hb8.block g2 hg2q)).trans rr2
                have hg28 : g2 < w8.heap.size := Nat.lt_of_lt_of_le hg2q hb8.size
                have hbq8 := hbq.trans (hb8.mono hbq.size)
                have HR3 : Hid (∀ w', Below w8.heap.size w8 w' → w'.cell? ⟨g2, f2 + j, none⟩ = some (.int .i64 o1.k)) := Lib.hid fun w' hb => (World.cell?_of_block (a := ⟨g2, f2 + j, none⟩) (hb.block g2 hg28)).trans rr3
                have HM8 : Hid (∀ w', Below w8.heap.size w8 w' → MmAt w' B o1.m) := Lib.hid fun w' hb => hM8.on hb
                clear rr1 rr2 rr3 hnewm HSq HCq hb8 hbq hM8 hg2q hg28 s1 s2 HS7 HC7 HL1 HL2
                dsimp only [Act.put]
                go_cut [137] from 107 to 137 (fun s137 wx => s137 = .bool false ∧ Below w8.heap.size w8 wx)
                case first =>
                  rcases hSD with hSD | hSD | hSD | hSD
                  · subst hSD
                    have HKM : Hid (∀ w', MmAt w' B o1.m → w'.cell? ⟨B, 0, none⟩ = some (.int .i64 1)) := Lib.hid fun w' h => by rw [h.kind]; show some (Value.int .i64 o1.k) = _; rw [HOK.out]
                    have HK2 : Hid (∀ w', Below w8.heap.size w8 w' → w'.cell? ⟨g2, f2 + j, none⟩ = some (.int .i64 1)) := Lib.hid fun w' h => by rw [HR3.out w' h, HOK.out]
                    refine wp_tab (fun _ _ w' => Below w8.heap.size w8 w') 99 98 [1, 4, 5, 9, 12, 13, 14, 20] [.pointer (some ⟨B, 0, none⟩), .int .i64 1, .slice (some ⟨g2, f2, none⟩) N c2, .int .i64 (j : Int), .pointer (some ⟨g2, f2 + j, none⟩), .int .i64 1, .bool false, .bool false, .pointer (some ⟨B, 0, none⟩), .int .i64 1, .bool true, .bool true, .agg (mmA o1.m), .agg #[.int .i64 ve, .int .i64 se, .int .i64 he, .int .i64 nb], .bool true, .bool false, .bool false, .bool false, .bool false, .pointer (some ⟨B, 0, none⟩), .int .i64 1, .bool false, .bool false, undef, undef, undef, undef, undef, undef, .bool false, .bool false] (Below.refl _ _).drew ⟨fun _ _ w' _ _ hC => ?_, fun _ _ w' _ _ hC => ?_, fun _ _ w' _ _ hC => ?_, fun _ _ w' _ _ hC => ?_, fun _ _ w' _ _ hC => ?_, fun _ _ w' _ _ hC => ?_, fun _ _ w' _ _ hC => ?_, fun _ _ w' _ _ hC => ?_, trivial⟩ ?_ (hc := by as_aux_lemma => kernel_rfl) (hE := by intro w; as_aux_lemma => kernel_rfl)
                    · exact .val (ex_load_of rfl rfl (ld_i (HKM.out _ (HM8.out _ hC)))) hC
                    · exact .val (ex_idx rfl rfl rfl (idx_ints _ _ _ _ _ _ hlt2)) hC
                    · exact .val (ex_load_of rfl rfl (ld_i (HK2.out _ hC))) hC
                    · exact .val (ex_load_of rfl rfl (ld_i (HKM.out _ (HM8.out _ hC)))) hC
                    · exact .val (ex_load_of rfl rfl (run_loadVar_row _ B 39 39 (mmA o1.m) (0, 0) _ (Has.out (HM8.out _ hC)) Try.underlying39 rfl (mminfo.trans (by rw [mmA_size o1.ok])))) hC
                    · exact .val (ex_load_of rfl rfl (ld_ownP (HE0.out _ (HS8.out.rest hC).own))) hC
                    · exact .call ((HHE.out w').mono fun e w'' h => ⟨h.1, hC.trans (h.2.mono hC.size)⟩)
                    · exact .val (ex_load_of rfl rfl (ld_i (HKM.out _ (HM8.out _ hC)))) hC
                    intro w9 hb9
                    clear hbq8 HR3 HM8 HS8 HC8
                    dsimp only [finT, List.set_cons_zero, List.set_cons_succ, List.tail_cons, List.headD_cons]
                    go_wp2_with fail
                    go_meet
                    case rel => exact ⟨rfl, hb9⟩
                  · subst hSD
                    refine wp_tab (fun _ _ w' => Below w8.heap.size w8 w') 99 98 [1, 4, 5, 9, 20] [.pointer (some ⟨B, 0, none⟩), .int .i64 2, .slice (some ⟨g2, f2, none⟩) N c2, .int .i64 (j : Int), .pointer (some ⟨g2, f2 + j, none⟩), .int .i64 2, .bool false, .bool false, .pointer (some ⟨B, 0, none⟩), .int .i64 2, .bool false, .bool false, undef, undef, undef, undef, .bool false, .bool false, .bool false, .pointer (some ⟨B, 0, none⟩), .int .i64 2, .bool false, .bool false, undef, undef, undef, undef, undef, undef, .bool false, .bool false] (Below.refl _ _).drew ⟨fun _ _ w' _ _ hC => ?_, fun _ _ w' _ _ hC => ?_, fun _ _ w' _ _ hC => ?_, fun _ _ w' _ _ hC => ?_, fun _ _ w' _ _ hC => ?_, trivial⟩ ?_ (hc := by as_aux_lemma => kernel_rfl) (hE := by intro w; as_aux_lemma => kernel_rfl)
                    · exact .val (ex_load_of rfl rfl (ld_i ((HM8.out _ hC).kind))) hC
                    · exact .val (ex_idx rfl rfl rfl (idx_ints _ _ _ _ _ _ hlt2)) hC
                    · exact .val (ex_load_of rfl rfl (ld_i (HR3.out _ hC))) hC
                    · exact .val (ex_load_of rfl rfl (ld_i ((HM8.out _ hC).kind))) hC
                    · exact .val (ex_load_of rfl rfl (ld_i ((HM8.out _ hC).kind))) hC
                    intro w9 hb9
                    clear hbq8 HR3 HM8 HS8 HC8
                    dsimp only [finT, List.set_cons_zero, List.set_cons_succ, List.tail_cons, List.headD_cons]
                    go_wp2_with fail
                    go_meet
                    case rel => exact ⟨rfl, hb9⟩
                  · subst hSD
                    refine wp_tab (fun _ _ w' => Below w8.heap.size w8 w') 99 98 [1, 4, 5, 9, 20, 24, 27, 28] [.pointer (some ⟨B, 0, none⟩), .int .i64 7, .slice (some ⟨g2, f2, none⟩) N c2, .int .i64 (j : Int), .pointer (some ⟨g2, f2 + j, none⟩), .int .i64 7, .bool false, .bool false, .pointer (some ⟨B, 0, none⟩), .int .i64 7, .bool false, .bool false, undef, undef, undef, undef, .bool false, .bool false, .bool false, .pointer (some ⟨B, 0, none⟩), .int .i64 7, .bool true, .bool true, .pointer (some ⟨B, 4, none⟩), .int .i64 y.m.nb, .pointer (some ⟨bC, 1, none⟩), .pointer (some ⟨bC, 5, none⟩), .int .i64 y.m.nb, .bool false, .bool false, .bool false] (Below.refl _ _).drew ⟨fun _ _ w' _ _ hC => ?_, fun _ _ w' _ _ hC => ?_, fun _ _ w' _ _ hC => ?_, fun _ _ w' _ _ hC => ?_, fun _ _ w' _ _ hC => ?_, fun _ _ w' _ _ hC => ?_, fun _ _ w' _ _ hC => ?_, fun _ _ w' _ _ hC => ?_, trivial⟩ ?_ (hc := by as_aux_lemma => kernel_rfl) (hE := by intro w; as_aux_lemma => kernel_rfl)
                    · exact .val (ex_load_of rfl rfl (ld_i ((HM8.out _ hC).kind))) hC
                    · exact .val (ex_idx rfl rfl rfl (idx_ints _ _ _ _ _ _ hlt2)) hC
                    · exact .val (ex_load_of rfl rfl (ld_i (HR3.out _ hC))) hC
                    · exact .val (ex_load_of rfl rfl (ld_i ((HM8.out _ hC).kind))) hC
                    · exact .val (ex_load_of rfl rfl (ld_i ((HM8.out _ hC).kind))) hC
                    · exact .val (ex_load_of rfl rfl (ld_i ((HM8.out _ hC).nb))) hC
                    · exact .val (ex_load_of rfl rfl (ld_i ((HC8.out.on hC).nb))) hC
                    · exact .val (ex_neqi rfl rfl rfl (by simp)) hC
                    intro w9 hb9
                    clear hbq8 HR3 HM8 HS8 HC8
                    dsimp only [finT, List.set_cons_zero, List.set_cons_succ, List.tail_cons, List.headD_cons]
                    go_wp2_with fail
                    go_meet
                    case rel => exact ⟨rfl, hb9⟩
                  · subst hSD
                    refine wp_tab (fun _ _ w' => Below w8.heap.size w8 w') 99 98 [1, 4, 5, 9, 20] [.pointer (some ⟨B, 0, none⟩), .int .i64 8, .slice (some ⟨g2, f2, none⟩) N c2, .int .i64 (j : Int), .pointer (some ⟨g2, f2 + j, none⟩), .int .i64 8, .bool false, .bool false, .pointer (some ⟨B, 0, none⟩), .int .i64 8, .bool false, .bool false, undef, undef, undef, undef, .bool false, .bool false, .bool false, .pointer (some ⟨B, 0, none⟩), .int .i64 8, .bool false, .bool false, undef, undef, undef, undef, undef, undef, .bool false, .bool false] (Below.refl _ _).drew ⟨fun _ _ w' _ _ hC => ?_, fun _ _ w' _ _ hC => ?_, fun _ _ w' _ _ hC => ?_, fun _ _ w' _ _ hC => ?_, fun _ _ w' _ _ hC => ?_, trivial⟩ ?_ (hc := by as_aux_lemma => kernel_rfl) (hE := by intro w; as_aux_lemma => kernel_rfl)
                    · exact .val (ex_load_of rfl rfl (ld_i ((HM8.out _ hC).kind))) hC
                    · exact .val (ex_idx rfl rfl rfl (idx_ints _ _ _ _ _ _ hlt2)) hC
                    · exact .val (ex_load_of rfl rfl (ld_i (HR3.out _ hC))) hC
                    · exact .val (ex_load_of rfl rfl (ld_i ((HM8.out _ hC).kind))) hC
                    · exact .val (ex_load_of rfl rfl (ld_i ((HM8.out _ hC).kind))) hC
                    intro w9 hb9
                    clear hbq8 HR3 HM8 HS8 HC8
                    dsimp only [finT, List.set_cons_zero, List.set_cons_succ, List.tail_cons, List.headD_cons]
                    go_wp2_with fail
                    go_meet
                    case rel => exact ⟨rfl, hb9⟩
                case rest =>
                  obtain ⟨rfl, hb9⟩ := hcut
                  have hb10 := hbq8.trans (hb9.mono hbq8.size)
                  clear hb9 hbq8 HR3 HM8 HS8 HC8 hSD
                  go_wp2_with fail
                  go_roundw
                  case rel => exact ⟨j + 1, by omega, by go_num, hb10⟩
                  case measure => simp [intOf]; omega
              · obtain rfl : j = N := by omega
                have HSZ := Lib.hid (HS7.out.rest hbq)
                clear HS7 HC7 HL1 HL2 hbq HNL HSD
                go_wp2_with fail
                go_meet
                case rel => exact ⟨x', HSZ⟩
          · have t0 : (y.kind == 0) = false := beq_eq_false_iff_ne.2 e0
            clear e0
            by_cases e1 : y.kind = 1
            · have t1 : (y.kind == 1) = true := by rw [e1]; rfl
              have k40 := HC5.out.n HYO.out
              have k41 := HC5.out.now HYO.out
              clear e1
              obtain ⟨g, hg⟩ : ∃ g, decide (x.pings y.n) = g := ⟨_, rfl⟩
              have KI := Lib.hid (ping_any HS5.out.t y.n y.now g hg)
              go_wp2_with fail
              refine (KI.out).mono ?_
              rintro e w6 ⟨v6, rfl, hT6, hr6, hv6, hk6⟩
              have HS6 := Lib.hid (HS5.out.actB AP hk6 hT6 ((Tk.pinged_own _ _ _).trans HS5.out.xo))
              have HC6 := Lib.hid (HC5.out.keep hk6 hnb)
              have hlr := HS5.out.r.lt
              have hok5 := HS5.out.zk
              have KR := Lib.hid (rping_any HS6.out.r y.n y.now g hg)
              obtain ⟨p6, c6, rfl, hl6⟩ := hr6.lie
              clear KI k40 k41 k0 hT6 hr6 hk6 HS5 HC5
              have k40 := HC6.out.n HYO.out
              have k41 := HC6.out.now HYO.out
              go_wp2_with fail
              refine (KR.out).mono ?_
              rintro e w7 ⟨rfl, hR7, hk7⟩
              have HS7 := Lib.hid (HS6.out.actR AP hk7 hR7 (Tk.pinged_ok hok5 y.n y.now))
              have HC7 := Lib.hid (HC6.out.keep hk7 hnr)
              have HL7 := Lib.hid (hl6.on hk7.size fun bb off ee hlt => hk7.block bb hlt fun er => absurd (hv6 bb (by rw [ee]; rfl)) (by omega))
              clear KR k40 k41 hR7 hk7 HS6 HC6 hl6 hv6 hlr hok5 hg
              have k40 := HC7.out.n HYO.out
              go_wp2_with fail
              go_cut [181] from 153 to 181 (fun s181 wx => s181 = .bool false ∧ wx = w7.drew)
              case first =>
                cases g
                · refine wp_tab (fun _ _ w' => w' = w7.drew) 99 98 [] [.slice p6 0 c6, .int .i64 0, .bool false, .bool false, .bool false, .bool false, .slice p6 0 c6, .int .i64 0, .bool false, .bool false, .bool false, .bool false, .bool false, undef, undef, undef, undef, undef, undef, undef, undef, undef, undef, undef, undef, undef, undef, .bool false, .bool false] rfl trivial ?_ (hc := by as_aux_lemma => kernel_rfl) (hE := by intro w; as_aux_lemma => kernel_rfl)
                  intro w8 hC
                  subst hC
                  clear HS7 HC7 HL7 k40
                  dsimp only [finT, List.set_cons_zero, List.set_cons_succ, List.tail_cons, List.headD_cons]
                  go_wp2_with fail
                  go_meet
                  case rel => exact ⟨rfl, rfl⟩
                · obtain ⟨gq, fq, rfl, _, hcq⟩ := HL7.out (by show 0 < 1; decide)
                  have q0 : w7.cell? ⟨gq, fq, none⟩ = some (.int .i64 6) := by
                    have h : w7.cell? ⟨gq, fq + 0 * 39 + 0, none⟩ = some (.int .i64 6) := hcq 0 _ rfl 0 _ rfl
                    simpa using h
                  have q4 : w7.cell? ⟨gq, fq + 4, none⟩ = some (.int .i64 y.n) := by
                    have h : w7.cell? ⟨gq, fq + 0 * 39 + 4, none⟩ = some (.int .i64 y.n) := hcq 0 _ rfl 4 _ rfl
                    simpa using h
                  refine wp_tab (fun _ _ w' => w' = w7.drew) 99 98 [16, 22, 24, 25] [.slice (some ⟨gq, fq, none⟩) 1 c6, .int .i64 1, .bool true, .bool true, .bool false, .bool false, .slice (some ⟨gq, fq, none⟩) 1 c6, .int .i64 1, .bool false, .bool false, .bool false, .bool true, .bool true, .slice (some ⟨gq, fq, none⟩) 1 c6, .pointer (some ⟨gq, fq, none⟩), .pointer (some ⟨gq, fq, none⟩), .int .i64 6, .bool false, .bool false, .slice (some ⟨gq, fq, none⟩) 1 c6, .pointer (some ⟨gq, fq, none⟩), .pointer (some ⟨gq, fq + 4, none⟩), .int .i64 y.n, .pointer (some ⟨bC, 40, none⟩), .int .i64 y.n, .bool false, .bool false, .bool false, .bool false] rfl ⟨fun _ _ w' _ _ hC => ?_, fun _ _ w' _ _ hC => ?_, fun _ _ w' _ _ hC => ?_, fun _ _ w' _ _ hC => ?_, trivial⟩ ?_ (hc := by as_aux_lemma => kernel_rfl) (hE := by intro w; as_aux_lemma => kernel_rfl)
                  · subst hC; exact .val (ex_load_of rfl rfl (ld_i q0)) rfl
                  · subst hC; exact .val (ex_load_of rfl rfl (ld_i q4)) rfl
                  · subst hC; exact .val (ex_load_of rfl rfl (ld_i k40)) rfl
                  · exact .val (ex_neqi rfl rfl rfl (by simp)) hC
                  intro w8 hC
                  subst hC
                  clear HS7 HC7 HL7 k40 hcq q0 q4
                  dsimp only [finT, List.set_cons_zero, List.set_cons_succ, List.tail_cons, List.headD_cons]
                  go_wp2_with fail
                  go_meet
                  case rel => exact ⟨rfl, rfl⟩
              case rest =>
                obtain ⟨rfl, rfl⟩ := hcut
                have HS8 := Lib.hid (HS7.out.rest (Below.refl _ _).drew)
                clear HS7 HC7 HL7 k40
                go_wp2_with fail
                go_meet
                case rel => exact ⟨_, HS8⟩
            · have t1 : (y.kind == 1) = false := beq_eq_false_iff_ne.2 e1
              clear e1
              by_cases e2 : y.kind = 2
              · have t2 : (y.kind == 2) = true := by rw [e2]; rfl
                have k41 := HC5.out.now HYO.out
                clear e2
                obtain ⟨tk, htk⟩ : ∃ tk, tk = (x.tick y.now).2 := ⟨_, rfl⟩
                obtain ⟨x', hx'⟩ : ∃ x', x' = (x.tick y.now).1 := ⟨_, rfl⟩
                have HTO : Hid (x'.hello = o ∧ x'.Ok) := Lib.hid ⟨by rw [hx', Tk.tick_own]; exact HS5.out.xo, by rw [hx']; exact Tk.tick_ok HS5.out.zk _⟩
                have HKT : Hid (∀ w', TkAt w' b x → Calls Try.prog 14 #[.pointer (some ⟨b, 0, none⟩), .int .i64 y.now] w' fun e w'' => e = .returned (.bool tk) ∧ TkAt w'' b x' ∧ Kp (fun k => k = b) w' w'') := Lib.hid fun w' h => by rw [htk, hx']; exact tick_at h y.now
                have HKR : Hid (∀ w', RkAt w' r x → Calls Try.prog 15 #[.pointer (some ⟨r, 0, none⟩), .int .i64 y.now] w' fun e w'' => e = .returned (.bool tk) ∧ RkAt w'' r x' ∧ Kp (fun k => k = r) w' w'') := Lib.hid fun w' h => by rw [htk, hx']; exact rtick_at h HS5.out.zk y.now
                clear htk hx' k41
                go_wp2_with fail
                refine wp_tab (fun b1 b2 w' => St W P b r o w' (bif b1 then x' else x) (bif b2 then x' else x) ∧ ClAt w' bC y) 3 7 [2, 3, 6, 7, 8] [.pointer (some ⟨b, 0, none⟩), .pointer (some ⟨bC, 41, none⟩), .int .i64 y.now, .bool tk, .pointer (some ⟨r, 0, none⟩), .pointer (some ⟨bC, 41, none⟩), .int .i64 y.now, .bool tk, .bool false] ⟨HS5.out.rest (Below.refl _ _).drew, HC5.out.on (Below.refl _ _).drew⟩ ⟨fun b1 b2 w' f1 f2 hC => ?_, fun b1 b2 w' f1 f2 hC => ?_, fun b1 b2 w' f1 f2 hC => ?_, fun b1 b2 w' f1 f2 hC => ?_, fun b1 b2 w' f1 f2 hC => ?_, trivial⟩ ?_ (hc := by as_aux_lemma => kernel_rfl) (hE := by intro w; as_aux_lemma => kernel_rfl)
                · exact .val (ex_load_of rfl rfl (ld_i (hC.2.now HYO.out))) hC
                · have h1 := f1.no (by kernel_rfl)
                  subst h1
                  exact .call ((HKT.out w' hC.1.t).mono fun e w'' h => ⟨h.1, hC.1.actB AP h.2.2 h.2.1 HTO.out.1, hC.2.keep h.2.2 hnb⟩)
                · exact .val (ex_load_of rfl rfl (ld_i (hC.2.now HYO.out))) hC
                · have h2 := f2.no (by kernel_rfl)
                  subst h2
                  exact .call ((HKR.out w' hC.1.r).mono fun e w'' h => ⟨h.1, hC.1.actR AP h.2.2 h.2.1 HTO.out.2, hC.2.keep h.2.2 hnr⟩)
                · exact .val (ex_neqb rfl rfl rfl (by simp)) hC
                intro w8 hC
                have HS8 : Hid (St W P b r o w8 x' x') := Lib.hid hC.1
                clear hC HKT HKR HTO HS5 HC5 k0
                dsimp only [finT, List.set_cons_zero, List.set_cons_succ, List.tail_cons, List.headD_cons]
                go_wp2_with fail
                go_meet
                case rel => exact ⟨_, HS8⟩
              · have t2 : (y.kind == 2) = false := beq_eq_false_iff_ne.2 e2
                clear e2
                by_cases e3 : y.kind = 3
                · have t3 : (y.kind == 3) = true := by rw [e3]; rfl
                  have KI := Lib.hid (end_at HS5.out.t)
                  clear e3
                  go_wp2_with fail
                  refine (KI.out).mono ?_
                  rintro e w6 ⟨rfl, hT6, hk6⟩
                  have HS6 := Lib.hid (HS5.out.actB AP hk6 hT6 (show Tk.hello _ = o from HS5.out.xo))
                  have c3 := HS6.out.r.far
                  have f3 := HS6.out.r.free 3
                  have HS7 := Lib.hid (HS6.out.actR AP (kp_set w6 r 3 (.int .i64 3)) (HS6.out.r.setFar 3) (Tk.over_ok (x := x)))
                  clear KI hT6 hk6 HS5 HC5 HS6 k0
                  go_wp2_with fail
                  go_meet
                  case rel => exact ⟨x.over, HS7⟩
                · have t3 : (y.kind == 3) = false := beq_eq_false_iff_ne.2 e3
                  clear e3 HC5
                  go_wp2_with fail
                  go_meet
                  case rel => exact ⟨x, HS5⟩
        case rest =>
          obtain ⟨x', HX⟩ := hcut
          have hxd := HX.out.rest (Below.refl _ _).drew
          have KA := ready_at hxd.t
          have KB := gone_at hxd.t
          have KC := direct_at hxd.t
          have KD := height_at hxd.t
          have q3 := hxd.r.far
          have q4 := hxd.r.dir
          have q5 := hxd.r.hgt
          clear hxd
          obtain ⟨A1, hA1⟩ : ∃ A1, A1 = decide (x'.far = 2) := ⟨_, rfl⟩
          obtain ⟨G1, hG1⟩ : ∃ G1, G1 = decide (x'.far = 3) := ⟨_, rfl⟩
          obtain ⟨ht, hht⟩ : ∃ ht, ht = x'.hgt := ⟨_, rfl⟩
          obtain ⟨dr, hdr⟩ : ∃ dr, dr = x'.dir := ⟨_, rfl⟩
          obtain ⟨fr, hfr⟩ : ∃ fr, fr = x'.far := ⟨_, rfl⟩
          rw [← hA1] at KA KC
          rw [← hdr] at KC
          rw [← hG1] at KB
          rw [← hht] at KD q5
          rw [← hdr] at q4
          rw [← hfr] at q3
          have hA2 : (fr == 2) = A1 := by rw [hA1, hfr]; rfl
          have hG2 : (fr == 3) = G1 := by rw [hG1, hfr]; rfl
          have KA := Lib.hid KA
          have KB := Lib.hid KB
          have KC := Lib.hid KC
          have KD := Lib.hid KD
          clear hA1 hG1 hht hdr hfr HS5 HC5 k0
          go_wp2_with fail
          go_cut [242] from 200 to 242 (fun s242 wx => s242 = .bool false ∧ wx = wc.drew)
          case first =>
            cases A1
            · refine wp_tab (fun _ _ w' => w' = wc.drew) 99 98 [1, 5, 6, 10, 14, 15, 16, 20, 24, 25, 36, 40, 41] [.pointer (some ⟨b, 0, none⟩), .bool false, .pointer (some ⟨r, 0, none⟩), .pointer (some ⟨r, 0, none⟩), .pointer (some ⟨r, 3, none⟩), .int .i64 fr, .bool false, .bool false, .bool false, .pointer (some ⟨b, 0, none⟩), .bool G1, .pointer (some ⟨r, 0, none⟩), .pointer (some ⟨r, 0, none⟩), .pointer (some ⟨r, 3, none⟩), .int .i64 fr, .bool G1, .bool false, .bool false, .bool false, .pointer (some ⟨b, 0, none⟩), .bool false, .pointer (some ⟨r, 0, none⟩), .pointer (some ⟨r, 0, none⟩), .pointer (some ⟨r, 3, none⟩), .int .i64 fr, .bool false, .bool false, undef, undef, undef, undef, .bool false, .bool false, .bool false, .bool false, .pointer (some ⟨b, 0, none⟩), .int .i64 ht, .pointer (some ⟨r, 0, none⟩), .pointer (some ⟨r, 0, none⟩), .pointer (some ⟨r, 5, none⟩), .int .i64 ht, .bool false, .bool false] rfl ⟨fun _ _ w' _ _ hC => ?_, fun _ _ w' _ _ hC => ?_, fun _ _ w' _ _ hC => ?_, fun _ _ w' _ _ hC => ?_, fun _ _ w' _ _ hC => ?_, fun _ _ w' _ _ hC => ?_, fun _ _ w' _ _ hC => ?_, fun _ _ w' _ _ hC => ?_, fun _ _ w' _ _ hC => ?_, fun _ _ w' _ _ hC => ?_, fun _ _ w' _ _ hC => ?_, fun _ _ w' _ _ hC => ?_, fun _ _ w' _ _ hC => ?_, trivial⟩ ?_ (hc := by as_aux_lemma => kernel_rfl) (hE := by intro w; as_aux_lemma => kernel_rfl)
              · subst hC; exact .call (KA.out.mono fun e w'' h => h)
              · subst hC; exact .val (ex_load_of rfl rfl (ld_i q3)) rfl
              · exact .val (ex_eqi rfl rfl rfl hA2) hC
              · subst hC; exact .call (KB.out.mono fun e w'' h => h)
              · subst hC; exact .val (ex_load_of rfl rfl (ld_i q3)) rfl
              · exact .val (ex_eqi rfl rfl rfl hG2) hC
              · exact .val (ex_neqb rfl rfl rfl (by simp)) hC
              · subst hC; exact .call (KC.out.mono fun e w'' h => h)
              · subst hC; exact .val (ex_load_of rfl rfl (ld_i q3)) rfl
              · exact .val (ex_eqi rfl rfl rfl hA2) hC
              · subst hC; exact .call (KD.out.mono fun e w'' h => h)
              · subst hC; exact .val (ex_load_of rfl rfl (ld_i q5)) rfl
              · exact .val (ex_neqi rfl rfl rfl (by simp)) hC
              intro w8 hC
              subst hC
              clear q3 q4 q5 HX KA KB KC KD
              dsimp only [finT, List.set_cons_zero, List.set_cons_succ, List.tail_cons, List.headD_cons]
              go_wp2_with fail
              go_meet
              case rel => exact ⟨rfl, rfl⟩
            · refine wp_tab (fun _ _ w' => w' = wc.drew) 99 98 [1, 5, 6, 10, 14, 15, 16, 20, 24, 25, 30, 32, 36, 40, 41] [.pointer (some ⟨b, 0, none⟩), .bool true, .pointer (some ⟨r, 0, none⟩), .pointer (some ⟨r, 0, none⟩), .pointer (some ⟨r, 3, none⟩), .int .i64 fr, .bool true, .bool false, .bool false, .pointer (some ⟨b, 0, none⟩), .bool G1, .pointer (some ⟨r, 0, none⟩), .pointer (some ⟨r, 0, none⟩), .pointer (some ⟨r, 3, none⟩), .int .i64 fr, .bool G1, .bool false, .bool false, .bool false, .pointer (some ⟨b, 0, none⟩), .bool dr, .pointer (some ⟨r, 0, none⟩), .pointer (some ⟨r, 0, none⟩), .pointer (some ⟨r, 3, none⟩), .int .i64 fr, .bool true, .bool true, .pointer (some ⟨r, 0, none⟩), .pointer (some ⟨r, 0, none⟩), .pointer (some ⟨r, 4, none⟩), .bool dr, .bool dr, .bool false, .bool false, .bool false, .pointer (some ⟨b, 0, none⟩), .int .i64 ht, .pointer (some ⟨r, 0, none⟩), .pointer (some ⟨r, 0, none⟩), .pointer (some ⟨r, 5, none⟩), .int .i64 ht, .bool false, .bool false] rfl ⟨fun _ _ w' _ _ hC => ?_, fun _ _ w' _ _ hC => ?_, fun _ _ w' _ _ hC => ?_, fun _ _ w' _ _ hC => ?_, fun _ _ w' _ _ hC => ?_, fun _ _ w' _ _ hC => ?_, fun _ _ w' _ _ hC => ?_, fun _ _ w' _ _ hC => ?_, fun _ _ w' _ _ hC => ?_, fun _ _ w' _ _ hC => ?_, fun _ _ w' _ _ hC => ?_, fun _ _ w' _ _ hC => ?_, fun _ _ w' _ _ hC => ?_, fun _ _ w' _ _ hC => ?_, fun _ _ w' _ _ hC => ?_, trivial⟩ ?_ (hc := by as_aux_lemma => kernel_rfl) (hE := by intro w; as_aux_lemma => kernel_rfl)
              · subst hC; exact .call (KA.out.mono fun e w'' h => h)
              · subst hC; exact .val (ex_load_of rfl rfl (ld_i q3)) rfl
              · exact .val (ex_eqi rfl rfl rfl hA2) hC
              · subst hC; exact .call (KB.out.mono fun e w'' h => h)
              · subst hC; exact .val (ex_load_of rfl rfl (ld_i q3)) rfl
              · exact .val (ex_eqi rfl rfl rfl hG2) hC
              · exact .val (ex_neqb rfl rfl rfl (by simp)) hC
              · subst hC; exact .call (KC.out.mono fun e w'' h => h)
              · subst hC; exact .val (ex_load_of rfl rfl (ld_i q3)) rfl
              · exact .val (ex_eqi rfl rfl rfl hA2) hC
              · subst hC; exact .val (ex_load_of rfl rfl (ld_b q4)) rfl
              · exact .val (ex_neqb rfl rfl rfl (by simp)) hC
              · subst hC; exact .call (KD.out.mono fun e w'' h => h)
              · subst hC; exact .val (ex_load_of rfl rfl (ld_i q5)) rfl
              · exact .val (ex_neqi rfl rfl rfl (by simp)) hC
              intro w8 hC
              subst hC
              clear q3 q4 q5 HX KA KB KC KD
              dsimp only [finT, List.set_cons_zero, List.set_cons_succ, List.tail_cons, List.headD_cons]
              go_wp2_with fail
              go_meet
              case rel => exact ⟨rfl, rfl⟩
          case rest =>
            obtain ⟨rfl, rfl⟩ := hcut
            have HX8 := Lib.hid (HX.out.rest (Below.refl _ _).drew)
            clear q3 q4 q5 HX KA KB KC KD
            go_wp2_with fail
            go_roundw
            case rel => exact ⟨u + 1, x', by omega, by go_num, HX8⟩
            case measure => simp [intOf]; omega
      · obtain rfl : u = n := by omega
        have hB5 := HI.out.bel
        have hb0 := mo_built0
        have K1 := Lib.hid (end_nil wl)
        have K2 := Lib.hid (in_nil (mo1 0 0).m wl)
        clear HI HA HN
        go_wp2_with fail
        refine (K1.out).mono ?_
        rintro e w' ⟨rfl, rfl⟩
        clear K1
        go_wp2_with (first
          | (with_reducible refine mo_make rfl _ rfl _ (by with_unfolding_all rfl) _ hb0 ?_))
        refine (K2.out).mono ?_
        rintro e w6 ⟨rfl, hb6⟩
        have hB6 := hB5.trans (hb6.mono hB5.size)
        have K3 := Lib.hid (ping_nil 1 1 w6)
        have K4 := Lib.hid (tick_nil 1 w6)
        have K5 := Lib.hid (ready_nil w6)
        have K6 := Lib.hid (gone_nil w6)
        have K7 := Lib.hid (direct_nil w6)
        have K8 := Lib.hid (height_nil w6)
        clear K2 hb6 hB5
        go_wp2_with fail
        refine (K3.out).mono ?_
        rintro e w' ⟨rfl, rfl⟩
        go_wp2_with fail
        refine (K4.out).mono ?_
        rintro e w' ⟨rfl, rfl⟩
        go_wp2_with fail
        refine (K5.out).mono ?_
        rintro e w' ⟨rfl, rfl⟩
        go_wp2_with fail
        refine (K6.out).mono ?_
        rintro e w' ⟨rfl, rfl⟩
        go_wp2_with fail
        refine (K7.out).mono ?_
        rintro e w' ⟨rfl, rfl⟩
        go_wp2_with fail
        refine (K8.out).mono ?_
        rintro e w' ⟨rfl, rfl⟩
        go_wp2_with fail
        go_ret
        exact ⟨rfl, hB6⟩
end Go.Proofs.Yteblphnpealefaa.An
