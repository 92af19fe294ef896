/-
  ShakeAgrees (P21.2): two who keep to this, and hear one another, agree, and never blame one another, whoever's words go first; pings are answered.
-/
import Derived.Test.YteblphnpealefaaBunQ25
namespace Go.Proofs.Yteblphnpealefaa.An
open Go.RowKit Mem Sc Rg2
set_option maxRecDepth 100000
set_option maxHeartbeats 16000000 in
theorem sagr_walk (va sa ha na vb sb hb nb : Int) (a : Option Addr) (l : List Bool) (n c : Nat) (number : Int) (hn : n = l.length) (hn9 : n < 9223372036854775808) (W : World) (hA : PicksAt W a l) :
    Calls Try.prog 4 #[.agg #[.int .i64 va, .int .i64 sa, .int .i64 ha, .int .i64 na], .agg #[.int .i64 vb, .int .i64 sb, .int .i64 hb, .int .i64 nb], .slice a n c, .int .i64 number] W fun e w' => e = .returned (.bool true) ∧ Below W.heap.size W w' := by
  have KA := Lib.hid (fun w => alive21 w)
  have HA := Lib.hid hA
  have HN := Lib.hid hn
  obtain ⟨g1, hg1⟩ : ∃ g, decide ((40 : Int) < (n : Int)) = g := ⟨_, rfl⟩
  obtain ⟨g2, hg2⟩ : ∃ g, (na == nb) = g := ⟨_, rfl⟩
  obtain ⟨g3, hg3⟩ : ∃ g, decide (va < 31800) = g := ⟨_, rfl⟩
  obtain ⟨g4, hg4⟩ : ∃ g, decide (vb < 31800) = g := ⟨_, rfl⟩
  obtain ⟨g5, hg5⟩ : ∃ g, decide (number < 1) = g := ⟨_, rfl⟩
  obtain ⟨g6, hg6⟩ : ∃ g, decide ((72057594037927936 : Int) ≤ number) = g := ⟨_, rfl⟩
  clear hA hn
  have hO : Has ((W.alloc (.cells #[.int .i64 va, .int .i64 sa, .int .i64 ha, .int .i64 na] 23)).alloc (.cells #[.int .i64 vb, .int .i64 sb, .int .i64 hb, .int .i64 nb] 23)) W.heap.size #[.int .i64 va, .int .i64 sa, .int .i64 ha, .int .i64 na] 23 := (Has.new _ _).alloc _
  have hO' : Has ((W.alloc (.cells #[.int .i64 va, .int .i64 sa, .int .i64 ha, .int .i64 na] 23)).alloc (.cells #[.int .i64 vb, .int .i64 sb, .int .i64 hb, .int .i64 nb] 23)) (W.heap.size + 1) #[.int .i64 vb, .int .i64 sb, .int .i64 hb, .int .i64 nb] 23 := Has.new1 _ _ _
  have hB : Below W.heap.size W ((W.alloc (.cells #[.int .i64 va, .int .i64 sa, .int .i64 ha, .int .i64 na] 23)).alloc (.cells #[.int .i64 vb, .int .i64 sb, .int .i64 hb, .int .i64 nb] 23)) := (below_box W _).trans ((below_box _ _).mono (below_box W _).size)
  go_enter Try.func4, Try.ntmps4
  go_upto_region 1 with fail
  generalize World.alloc _ _ = w1 at *
  obtain ⟨P, hP⟩ : ∃ P, P = W.heap.size := ⟨_, rfl⟩
  obtain ⟨R, hR⟩ : ∃ R, R = W.heap.size + 1 := ⟨_, rfl⟩
  rw [← hR] at hO' ⊢
  rw [← hP] at hO ⊢
  clear hP hR
  go_wp2_with fail
  refine (KA.out _).mono ?_
  rintro e w2 ⟨rfl, hb2⟩
  have hB2 := hB.trans (hb2.mono hB.size)
  have hO2 : Has w2 P #[.int .i64 va, .int .i64 sa, .int .i64 ha, .int .i64 na] 23 := (hb2.block P hO.lt).trans hO
  have hO2' : Has w2 R #[.int .i64 vb, .int .i64 sb, .int .i64 hb, .int .i64 nb] 23 := (hb2.block R hO'.lt).trans hO'
  have c0 : w2.cell? ⟨P, 0, none⟩ = some (.int .i64 va) := hO2.cell 0
  have c1 : w2.cell? ⟨P, 1, none⟩ = some (.int .i64 sa) := hO2.cell 1
  have c2 : w2.cell? ⟨P, 2, none⟩ = some (.int .i64 ha) := hO2.cell 2
  have c3 : w2.cell? ⟨P, 3, none⟩ = some (.int .i64 na) := hO2.cell 3
  have d0 : w2.cell? ⟨R, 0, none⟩ = some (.int .i64 vb) := hO2'.cell 0
  have d3 : w2.cell? ⟨R, 3, none⟩ = some (.int .i64 nb) := hO2'.cell 3
  have HO := Lib.hid hO2
  have HO' := Lib.hid hO2'
  clear hO hO' hO2 hO2' hB hb2 KA
  obtain rfl | rfl : g1 = true ∨ g1 = false := by cases g1 <;> simp
  · go_wp2_with fail
    go_ret
    exact ⟨rfl, hB2⟩
  obtain rfl | rfl : g2 = true ∨ g2 = false := by cases g2 <;> simp
  · go_wp2_with fail
    go_ret
    exact ⟨rfl, hB2⟩
  obtain rfl | rfl : g3 = true ∨ g3 = false := by cases g3 <;> simp
  · go_wp2_with fail
    go_ret
    exact ⟨rfl, hB2⟩
  obtain rfl | rfl : g4 = true ∨ g4 = false := by cases g4 <;> simp
  · go_wp2_with fail
    go_ret
    exact ⟨rfl, hB2⟩
  obtain rfl | rfl : g5 = true ∨ g5 = false := by cases g5 <;> simp
  · go_wp2_with fail
    go_ret
    exact ⟨rfl, hB2⟩
  obtain rfl | rfl : g6 = true ∨ g6 = false := by cases g6 <;> simp
  · go_wp2_with fail
    go_ret
    exact ⟨rfl, hB2⟩
  have b2 : na ≠ nb := beq_eq_false_iff_ne.1 hg2
  have b3 : ¬ va < 31800 := of_decide_eq_false hg3
  have b4 : ¬ vb < 31800 := of_decide_eq_false hg4
  have b5 : ¬ number < 1 := of_decide_eq_false hg5
  have b6 : ¬ (72057594037927936 : Int) ≤ number := of_decide_eq_false hg6
  have HBN : Hid (na ≠ nb ∧ 31800 ≤ va ∧ 31800 ≤ vb ∧ 1 ≤ number ∧ number ≤ 72057594037927935) := Lib.hid ⟨b2, by omega, by omega, by omega, by omega⟩
  clear b2 b3 b4 b5 b6
  have K := Lib.hid (open_out va sa ha na 0 w2)
  go_wp2_with fail
  refine (K.out).mono ?_
  rintro e w3 ⟨bx, v3, rfl, hbx, hT3, hr3, hv3, hB3⟩
  have d0 : w3.cell? ⟨R, 0, none⟩ = some (.int .i64 vb) := Has.cell ((hB3.block R HO'.out.lt).trans HO'.out) 0
  have d1 : w3.cell? ⟨R, 1, none⟩ = some (.int .i64 sb) := Has.cell ((hB3.block R HO'.out.lt).trans HO'.out) 1
  have d2 : w3.cell? ⟨R, 2, none⟩ = some (.int .i64 hb) := Has.cell ((hB3.block R HO'.out.lt).trans HO'.out) 2
  have d3 : w3.cell? ⟨R, 3, none⟩ = some (.int .i64 nb) := Has.cell ((hB3.block R HO'.out.lt).trans HO'.out) 3
  have K2 := Lib.hid (open_in vb sb hb nb 0 w3)
  clear K c0 c1 c2 c3
  go_wp2_with fail
  refine (K2.out).mono ?_
  rintro e w4 ⟨bz, v4, rfl, hbz, hT4, hr4, hv4, hB4⟩
  obtain ⟨x0, hx0⟩ : ∃ x0, x0 = Tk.new va sa ha na false 0 := ⟨_, rfl⟩
  obtain ⟨y0, hy0⟩ : ∃ y0, y0 = Tk.new vb sb hb nb true 0 := ⟨_, rfl⟩
  have hT3' := hT3.on hB4
  have hr3q : RowQ w4 v3 [⟨1, va, sa, ha, na⟩] := hr3.q.keep fun k e => hB4.block k (hr3.q.lt e)
  have hq3 : ∀ k, qb v3 = some k → v3.ownBlock = some k := fun k e => by
    obtain ⟨p, c, rfl, _⟩ := hr3.slice
    cases p with
    | none => rw [qb_none] at e; cases e
    | some q => rw [← (qb_some e).2]; rfl
  have hq4 : ∀ k, qb v4 = some k → v4.ownBlock = some k := fun k e => by
    obtain ⟨p, c, rfl, _⟩ := hr4.slice
    cases p with
    | none => rw [qb_none] at e; cases e
    | some q => rw [← (qb_some e).2]; rfl
  have HI : Hid (Ag w2 w4 bx bz (ats x0 y0.tall 0) (ats y0 x0.tall 0) v4 v3 (qx y0 0 0) (qy x0 0 0)) := Lib.hid (by
    rw [hx0, hy0]
    exact ⟨hT3', hT4, hr4.q, hr3q, fun k e => ⟨Nat.le_trans hB3.size (hv4 k (hq4 k e)).1, Nat.ne_of_gt (Nat.lt_of_lt_of_le hT3.lt (hv4 k (hq4 k e)).1), (hv4 k (hq4 k e)).2, fun e2 => absurd (hr3.q.lt e2) (Nat.not_lt_of_le (hv4 k (hq4 k e)).1)⟩, fun k e => ⟨(hv3 k (hq3 k e)).1, (hv3 k (hq3 k e)).2, fun e2 => absurd (hr3.q.lt e) (Nat.not_lt_of_le (e2 ▸ hbz))⟩, fun e => absurd hT3.lt (Nat.not_lt_of_le (e ▸ hbz)), hbx, Nat.le_trans hB3.size hbz, hB3.trans (hB4.mono hB3.size)⟩)
  have HXY : Hid (x0.far = 0 ∧ x0.inb = false ∧ y0.far = 0 ∧ y0.inb = true ∧ x0.num ≠ y0.num ∧ 31800 ≤ x0.ver ∧ 31800 ≤ y0.ver ∧ x0.tall = ha ∧ y0.tall = hb ∧ x0.ping = 0 ∧ y0.ping = 0) := Lib.hid (by
    rw [hx0, hy0]
    exact ⟨rfl, rfl, rfl, rfl, HBN.out.1, HBN.out.2.1, HBN.out.2.2.1, rfl, rfl, rfl, rfl⟩)
  have HAW : Hid (PicksAt w2 a l) := Lib.hid (HA.out.below hB2)
  obtain ⟨p3, q3, rfl, _⟩ := hr3.slice
  obtain ⟨p4, q4, rfl, _⟩ := hr4.slice
  clear K2 d0 d1 d2 d3 hT3 hr3 hv3 hB3 hT4 hr4 hv4 hB4 hT3' hr3q hq3 hq4 hx0 hy0 hbx hbz HA
  go_wp2_with fail
  go_loopw [10, 12, 13] (fun sy_ sx_ iv wl => ∃ (u i j : Nat) (py : Option Addr) (ny cy : Nat) (px : Option Addr) (nx cx : Nat), u ≤ 30 ∧ sy_ = .slice py ny cy ∧ sx_ = .slice px nx cx ∧ iv = .int .i64 (u : Int) ∧ Hid (i ≤ 3 ∧ j ≤ 3 ∧ i ≤ sx j ∧ j ≤ sy i ∧ (u ≤ i + j ∨ (i = 3 ∧ j = 3))) ∧ Hid (ny = (qy x0 i j).length ∧ nx = (qx y0 i j).length ∧ Ag w2 wl bx bz (ats x0 y0.tall i) (ats y0 x0.tall j) (.slice px nx cx) (.slice py ny cy) (qx y0 i j) (qy x0 i j))) (fun _ _ iv _ => 30 - (intOf iv).toNat)
  case atStart => exact ⟨0, 0, 0, p3, _, q3, p4, _, q4, Nat.zero_le _, rfl, rfl, rfl, Lib.hid ⟨by decide, by decide, by decide, by decide, .inl (Nat.zero_le _)⟩, Lib.hid ⟨rfl, rfl, HI.out⟩⟩
  case round =>
    obtain ⟨u, i, j, py, ny, cy, px, nx, cx, hu, rfl, rfl, rfl, HIJ, HS⟩ := hrel
    rename World => wl
    clear HI
    by_cases hlt : u < 30
    · have HAl := HAW.out.below HS.out.2.2.bel
      go_upto_region 10 with fail
      go_cut [14] from 66 to 75 (fun s14 wx => wx = wl ∧ ∃ g, s14 = .bool g)
      case first =>
        by_cases hp : u < n
        · obtain ⟨g, hg⟩ : ∃ g, l[u]? = some g := ⟨l[u]'(by rw [← HN.out]; exact hp), List.getElem?_eq_getElem _⟩
          obtain ⟨ab, ao, rfl, _, hcc⟩ := HAl (by rw [← HN.out]; omega)
          have k1 := hcc u g hg
          have q1 : decide (n ≤ u) = false := decide_eq_false (by omega)
          clear hcc hg
          go_wp2_with fail
          go_meet
          case rel => exact ⟨rfl, g, rfl⟩
        · have q1 : decide (n ≤ u) = true := decide_eq_true (by omega)
          go_wp2_with fail
          go_meet
          case rel => exact ⟨rfl, true, rfl⟩
      case rest =>
        obtain ⟨rfl, g, rfl⟩ := hcut
        clear HAl
        obtain ⟨b1, hb1⟩ : ∃ b1, decide (0 < ny) = b1 := ⟨_, rfl⟩
        obtain ⟨b2, hb2⟩ : ∃ b2, ((nx : Int) == 0) = b2 := ⟨_, rfl⟩
        obtain ⟨C, hC⟩ : ∃ C, C = ((g && b1) || (b2 && b1)) := ⟨_, rfl⟩
        have HCE := Lib.hid hC
        have HB1 := Lib.hid hb1
        have HB2 := Lib.hid hb2
        go_upto_region 11 with fail
        go_cut [91] from 76 to 91 (fun s91 wx => Hid (wx = wc) ∧ s91 = .bool C)
        case first =>
          clear hC HB1 HB2
          cases g <;> cases b1 <;> cases b2
          all_goals
            go_wp2_with fail
            go_meet
            case rel => exact ⟨Lib.hid rfl, by rw [HCE.out]; rfl⟩
        case rest =>
          obtain ⟨hw, rfl⟩ := hcut
          obtain rfl := hw.out
          rename World => wl
          have HPN : Hid (C = true → 0 < ny) := Lib.hid fun e => by
            have h1 := HB1.out
            rw [HCE.out] at e
            have : b1 = true := by revert e; cases g <;> cases b1 <;> cases b2 <;> simp
            rw [this] at h1
            have := of_decide_eq_true h1
            omega
          have HPE : Hid (C = false → nx = 0 → ny = 0) := Lib.hid fun e h0 => by
            have h1 := HB1.out
            have h2 := HB2.out
            subst h0
            have h3 : b2 = true := h2.symm
            have : b1 = false := by
              have e2 := HCE.out
              rw [e, h3] at e2
              revert e2
              cases g <;> cases b1 <;> simp
            rw [this] at h1
            have := of_decide_eq_false h1
            omega
          clear hb1 hb2 hC HCE HB1 HB2
          cases C
          · have hpe := HPE.out rfl
            clear HPN HPE
            by_cases hpos : 0 < nx
            · clear hpe
              obtain ⟨m, ou, hq1, hq2, hq3, hj3, hj1, hj2⟩ := step_x HXY.out.1 HXY.out.2.1 HXY.out.2.2.2.2.1 (Int.not_lt.2 HXY.out.2.2.2.2.2.2.1) HIJ.out.1 HIJ.out.2.2.1 HIJ.out.2.2.2.1 (fun e => by have h := HS.out.2.1; rw [e] at h; rw [h] at hpos; exact absurd hpos (by decide))
              have hS := HS.out.2.2.swap
              rw [hq1] at hS
              have hou : ou.length ≤ 3 := by
                have h := qy_few x0 (i + 1) j
                rw [← hq3, List.length_append] at h
                omega
              have hfw := qy_few x0 i j
              obtain ⟨bq, oq, cq, hv, _, hrq, _⟩ := hS.rz.first
              have sm : (mmC m.m).length = 39 := mmC_length m.ok
              have K := Lib.hid (hS.inZ m.m m.ok _ _ _ hq2)
              have HQ3 := Lib.hid hq3
              have HJ := Lib.hid (And.intro hj3 (And.intro hj1 hj2))
              have HON := Lib.hid (HS.out.1)
              obtain ⟨N, hN⟩ : ∃ N, (qx y0 (i + 1) j).length = N := ⟨_, rfl⟩
              have HNQ := Lib.hid hN
              rw [hN] at hv
              have HIJ2 : Hid ((i + 1) ≤ 3 ∧ j ≤ 3 ∧ (i + 1) ≤ sx j ∧ j ≤ sy (i + 1) ∧ (u + 1 ≤ (i + 1) + j ∨ ((i + 1) = 3 ∧ j = 3))) := Lib.hid (by
                have h := HIJ.out
                refine ⟨by omega, by omega, by assumption, by assumption, ?_⟩
                omega)
              clear HS hS hq1 hq2 hq3 hj3 hj1 hj2 hN hpos
              cases hv
              go_wp2_with (first
                | (with_reducible refine mm_load_mid rfl _ rfl bq oq rfl m.m hrq sm ?_))
              refine (K.out).mono ?_
              rintro e w5 ⟨u5, rfl, hG, hru⟩
              obtain ⟨b2, o2, c2, hv2, _, _, p2, hsl, hrp, hkp⟩ := hG.rz.first
              rw [HNQ.out] at hv2 hsl hrp hkp
              cases hv2
              have hC := hG.cutZ hrp hkp
              obtain ⟨pu, cu, rfl, _⟩ := hru.slice
              clear K hrq hG hrp hkp
              go_wp2_with (first
                | ((with_reducible refine app_op rfl _ _ rfl (.slice py ny cy) (qy x0 i j) rfl hC.rx (.slice pu ou.length cu) ou rfl hru (by omega) ?_); intro v6 w6 hr6 hk6 hn6; obtain ⟨p6, c6, e6, _⟩ := id hr6; obtain ⟨n6, hn6e⟩ : ∃ n6, n6 = ((qy x0 i j) ++ ou).length := ⟨_, rfl⟩; rw [← hn6e] at e6; subst e6; have HN6 := Lib.hid hn6e; have hD := hC.appX hr6 hk6 hn6; clear hn6e; clear hr6 hk6 hn6 hC hru hsl))
              rw [HQ3.out] at hD
              have HS3 := Lib.hid ((And.intro (HN6.out.trans (congrArg List.length HQ3.out)) (And.intro HNQ.out.symm hD.swap)))
              clear hD
              go_roundw
              case rel => exact ⟨u + 1, i + 1, j, p6, _, c6, p2, N, _, by omega, rfl, rfl, by go_num, HIJ2, HS3⟩
              case measure => simp [intOf]; omega
            · obtain rfl : nx = 0 := by omega
              obtain rfl : ny = 0 := hpe rfl
              have HEE := Lib.hid (step_end (x := x0) (y := y0) HIJ.out.1 HIJ.out.2.1 HIJ.out.2.2.1 HIJ.out.2.2.2.1 (List.eq_nil_of_length_eq_zero HS.out.2.1.symm) (List.eq_nil_of_length_eq_zero HS.out.1.symm))
              clear hpe
              go_wp2_with fail
              go_roundw
              case rel => exact ⟨u + 1, i, j, py, 0, cy, px, 0, cx, by omega, rfl, rfl, by go_num, Lib.hid ⟨HIJ.out.1, HIJ.out.2.1, HIJ.out.2.2.1, HIJ.out.2.2.2.1, .inr HEE.out⟩, HS⟩
              case measure => simp [intOf]; omega
          · have hpos := HPN.out rfl
            clear HPN HPE
            obtain ⟨m, ou, hq1, hq2, hq3, hj3, hj1, hj2⟩ := step_y HXY.out.2.2.1 HXY.out.2.2.2.1 HXY.out.2.2.2.2.1 (Int.not_lt.2 HXY.out.2.2.2.2.2.1) HIJ.out.2.1 HIJ.out.2.2.1 HIJ.out.2.2.2.1 (fun e => by have h := HS.out.1; rw [e] at h; rw [h] at hpos; exact absurd hpos (by decide))
            have hS := HS.out.2.2
            rw [hq1] at hS
            have hou : ou.length ≤ 3 := by
              have h := qx_few y0 i (j + 1)
              rw [← hq3, List.length_append] at h
              omega
            have hfw := qx_few y0 i j
            obtain ⟨bq, oq, cq, hv, _, hrq, _⟩ := hS.rz.first
            have sm : (mmC m.m).length = 39 := mmC_length m.ok
            have K := Lib.hid (hS.inZ m.m m.ok _ _ _ hq2)
            have HQ3 := Lib.hid hq3
            have HJ := Lib.hid (And.intro hj3 (And.intro hj1 hj2))
            have HON := Lib.hid (HS.out.2.1)
            obtain ⟨N, hN⟩ : ∃ N, (qy x0 i (j + 1)).length = N := ⟨_, rfl⟩
            have HNQ := Lib.hid hN
            rw [hN] at hv
            have HIJ2 : Hid (i ≤ 3 ∧ (j + 1) ≤ 3 ∧ i ≤ sx (j + 1) ∧ (j + 1) ≤ sy i ∧ (u + 1 ≤ i + (j + 1) ∨ (i = 3 ∧ (j + 1) = 3))) := Lib.hid (by
              have h := HIJ.out
              refine ⟨by omega, by omega, by assumption, by assumption, ?_⟩
              omega)
            clear HS hS hq1 hq2 hq3 hj3 hj1 hj2 hN hpos
            cases hv
            go_wp2_with (first
              | (with_reducible refine mm_load_mid rfl _ rfl bq oq rfl m.m hrq sm ?_))
            refine (K.out).mono ?_
            rintro e w5 ⟨u5, rfl, hG, hru⟩
            obtain ⟨b2, o2, c2, hv2, _, _, p2, hsl, hrp, hkp⟩ := hG.rz.first
            rw [HNQ.out] at hv2 hsl hrp hkp
            cases hv2
            have hC := hG.cutZ hrp hkp
            obtain ⟨pu, cu, rfl, _⟩ := hru.slice
            clear K hrq hG hrp hkp
            go_wp2_with (first
              | ((with_reducible refine app_op rfl _ _ rfl (.slice px nx cx) (qx y0 i j) rfl hC.rx (.slice pu ou.length cu) ou rfl hru (by omega) ?_); intro v6 w6 hr6 hk6 hn6; obtain ⟨p6, c6, e6, _⟩ := id hr6; obtain ⟨n6, hn6e⟩ : ∃ n6, n6 = ((qx y0 i j) ++ ou).length := ⟨_, rfl⟩; rw [← hn6e] at e6; subst e6; have HN6 := Lib.hid hn6e; have hD := hC.appX hr6 hk6 hn6; clear hn6e; clear hr6 hk6 hn6 hC hru hsl))
            rw [HQ3.out] at hD
            have HS3 := Lib.hid ((And.intro HNQ.out.symm (And.intro (HN6.out.trans (congrArg List.length HQ3.out)) hD)))
            clear hD
            go_roundw
            case rel => exact ⟨u + 1, i, j + 1, p2, N, _, p6, _, c6, by omega, rfl, rfl, by go_num, HIJ2, HS3⟩
            case measure => simp [intOf]; omega
    · obtain rfl : u = 30 := by omega
      have hij : i = 3 ∧ j = 3 := by have h := HIJ.out; omega
      obtain ⟨rfl, rfl⟩ := hij
      have hB5 := HS.out.2.2.bel
      have hd : Below wl.heap.size wl wl.drew := (Below.refl _ _).drew
      have hX := HS.out.2.2.tx.on hd
      have hZ := HS.out.2.2.tz.on hd
      have hne := HS.out.2.2.ne
      have hwx := HS.out.2.2.wx
      have hwz := HS.out.2.2.wz
      have hB6 := hB5.trans (hd.mono hB5.size)
      have c2 : wl.drew.cell? ⟨P, 2, none⟩ = some (.int .i64 ha) := Has.cell ((hB6.block P HO.out.lt).trans HO.out) 2
      have d2 : wl.drew.cell? ⟨R, 2, none⟩ = some (.int .i64 hb) := Has.cell ((hB6.block R HO'.out.lt).trans HO'.out) 2
      have K1 := Lib.hid (ready_at hX)
      have K2 := Lib.hid (ready_at hZ)
      have K3 := Lib.hid (direct_at hX)
      have K4 := Lib.hid (direct_at hZ)
      have K5 := height_at hX
      have K6 := height_at hZ
      rw [show (ats x0 y0.tall 3).hgt = hb from HXY.out.2.2.2.2.2.2.2.2.1] at K5
      rw [show (ats y0 x0.tall 3).hgt = ha from HXY.out.2.2.2.2.2.2.2.1] at K6
      have K5 := Lib.hid K5
      have K6 := Lib.hid K6
      have HX := Lib.hid hX
      have HZ := Lib.hid hZ
      clear HS HIJ hX hZ hd hB5
      go_wp2_with fail
      refine wp_tab (fun _ _ w' => w' = wl.drew) 99 98 [1, 5, 10, 15, 20, 22, 23, 27, 29, 30] [.pointer (some ⟨bx, 0, none⟩), .bool true, .bool false, .bool false, .pointer (some ⟨bz, 0, none⟩), .bool true, .bool false, .bool false, .bool false, .pointer (some ⟨bx, 0, none⟩), .bool true, .bool false, .bool false, .bool false, .pointer (some ⟨bz, 0, none⟩), .bool true, .bool false, .bool false, .bool false, .pointer (some ⟨bx, 0, none⟩), .int .i64 hb, .pointer (some ⟨R, 2, none⟩), .int .i64 hb, .bool false, .bool false, .bool false, .pointer (some ⟨bz, 0, none⟩), .int .i64 ha, .pointer (some ⟨P, 2, none⟩), .int .i64 ha, .bool false, .bool false] rfl ⟨fun _ _ w' _ _ hC => ?_, fun _ _ w' _ _ hC => ?_, fun _ _ w' _ _ hC => ?_, fun _ _ w' _ _ hC => ?_, fun _ _ w' _ _ hC => ?_, fun _ _ w' _ _ hC => ?_, fun _ _ w' _ _ hC => ?_, fun _ _ w' _ _ hC => ?_, fun _ _ w' _ _ hC => ?_, fun _ _ w' _ _ hC => ?_, trivial⟩ ?_
      · subst hC; exact .call (K1.out.mono fun e w'' h => h)
      · subst hC; exact .call (K2.out.mono fun e w'' h => h)
      · subst hC; exact .call (K3.out.mono fun e w'' h => h)
      · subst hC; exact .call (K4.out.mono fun e w'' h => h)
      · subst hC; exact .call (K5.out.mono fun e w'' h => h)
      · subst hC; exact .val (ex_load_of rfl rfl (ld_i d2)) rfl
      · exact .val (ex_neqi rfl rfl rfl (by simp)) hC
      · subst hC; exact .call (K6.out.mono fun e w'' h => h)
      · subst hC; exact .val (ex_load_of rfl rfl (ld_i c2)) rfl
      · exact .val (ex_neqi rfl rfl rfl (by simp)) hC
      intro w5 hC
      subst hC
      clear c2 d2 K1 K2 K3 K4 K5 K6
      dsimp only [finT, List.set_cons_zero, List.set_cons_succ, List.tail_cons, List.headD_cons]
      generalize World.drew wl = w5 at *
      have K1 := Lib.hid (ping_yes HX.out number 1 ⟨rfl, HXY.out.2.2.2.2.2.2.2.2.2.1, HBN.out.2.2.2.1, HBN.out.2.2.2.2⟩)
      go_wp2_with fail
      refine (K1.out).mono ?_
      rintro e w6 ⟨g, rfl, hX6, hr6, _, hk6⟩
      have hZ6 : TkAt w6 bz (ats y0 x0.tall 3) := hk6.has HZ.out (fun e => hne e.symm)
      have hB7 := hB6.trans (hk6.below (fun i hi => by rw [hi]; exact hwx) hB6.size)
      have r6 : w6.rangeAt g 0 (mmC (mo1 6 number).m) := by
        obtain ⟨pq, cq, eq1, hlq⟩ := hr6.lie
        cases eq1
        obtain ⟨gq, fq, eq2, _, hcq⟩ := hlq (by show 0 < 1; decide)
        cases eq2
        exact hcq 0 _ rfl
      have s6 : (mmC (mo1 6 number).m).length = 39 := mmC_length (Mo.ok _)
      have K2 := in_at hZ6 (mo1 6 number).m (Mo.ok _)
      rw [show (ats y0 x0.tall 3).inn (mo1 6 number).m = (ats y0 x0.tall 3, [mo1 7 number], 0) from rfl] at K2
      have K2 := Lib.hid K2
      have HX6 := Lib.hid hX6
      clear K1 HX HZ hr6 hk6 hZ6 hX6 hB6
      go_wp2_with (first
        | (with_reducible refine mm_load_mid rfl _ rfl g 0 rfl (mo1 6 number).m r6 s6 ?_))
      refine (K2.out).mono ?_
      rintro e w7 ⟨v7, rfl, hZ7, hr7, _, hk7⟩
      have hX7 : TkAt w7 bx { ats x0 y0.tall 3 with ping := number, since := 1 } := hk7.has HX6.out hne
      have hB8 := hB7.trans (hk7.below (fun i hi => by rw [hi]; exact hwz) hB7.size)
      obtain ⟨pq, cq, rfl, hlq⟩ := hr7.lie
      obtain ⟨gq, fq, rfl, _, hcq⟩ := hlq (by show 0 < 1; decide)
      have r7 : w7.rangeAt gq fq (mmC (mo1 7 number).m) := by
        have h := hcq 0 _ rfl
        simpa using h
      have s7 : (mmC (mo1 7 number).m).length = 39 := mmC_length (Mo.ok _)
      have K3 := in_at hX7 (mo1 7 number).m (Mo.ok _)
      rw [inn_pong (x := { ats x0 y0.tall 3 with ping := number, since := 1 }) rfl (n := number) (by have := HBN.out.2.2.2.1; omega) rfl] at K3
      have K3 := Lib.hid K3
      have HZ7 := Lib.hid hZ7
      clear K2 HX6 hr7 hk7 hZ7 hX7 hlq hcq r6 s6 hB7
      go_wp2_with (first
        | (with_reducible refine mm_load_mid rfl _ rfl gq fq rfl (mo1 7 number).m r7 s7 ?_))
      refine (K3.out).mono ?_
      rintro e w8 ⟨v8, rfl, hX8, hr8, _, hk8⟩
      have hZ8 : TkAt w8 bz (ats y0 x0.tall 3) := hk8.has HZ7.out (fun e => hne e.symm)
      have hB9 := hB8.trans (hk8.below (fun i hi => by rw [hi]; exact hwx) hB8.size)
      obtain ⟨p8, c8, rfl, _⟩ := hr8.slice
      have K4 := Lib.hid (tick_on hX8 (by show (2 : Int) ≠ 3; decide) 1000 rfl)
      have K5 := Lib.hid (tick_on hZ8 (by show (2 : Int) ≠ 3; decide) 1000 (late_calm (x := ats y0 x0.tall 3) rfl HXY.out.2.2.2.2.2.2.2.2.2.2 1000))
      have hB10 := hB2.trans (hB9.mono hB2.size)
      clear K3 HZ7 hr8 hk8 hX8 hZ8 r7 s7 hB8 hB9
      go_wp2_with fail
      refine (K4.out).mono ?_
      rintro e w9 ⟨rfl, rfl⟩
      go_wp2_with fail
      refine (K5.out).mono ?_
      rintro e w9 ⟨rfl, rfl⟩
      go_wp2_with fail
      go_ret
      exact ⟨rfl, hB10⟩
end Go.Proofs.Yteblphnpealefaa.An
