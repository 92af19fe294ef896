/-
  ShakeEnds (P21.1): a talk that has ended says nothing more, blames nobody, and doesn't go on; nor is there a second ping while one waits.
-/
import Derived.Test.YteblphnpealefaaBunQ24
namespace Go.Proofs.Yteblphnpealefaa.An
open Go.RowKit Mem Sc Rg2
set_option maxRecDepth 100000
set_option maxHeartbeats 8000000 in
theorem sends_walk (ve se he nb : Int) (g0 : Bool) (a : Option Addr) (l : List Cl) (n c : Nat) (a2 : Option Addr) (l2 : List Cl) (n2 c2 : Nat) (hn : n = l.length) (hn9 : n < 9223372036854775808) (hm : n2 = l2.length) (hm9 : n2 < 9223372036854775808) (W : World) (hA : CallsAt W a l) (hA2 : CallsAt W a2 l2) :
    Calls Try.prog 6 #[.agg #[.int .i64 ve, .int .i64 se, .int .i64 he, .int .i64 nb], .bool g0, .slice a n c, .slice a2 n2 c2] W fun e w' => e = .returned (.bool true) ∧ Below W.heap.size W w' := by
  have KA := Lib.hid (fun w => alive21 w)
  have HA := Lib.hid hA
  have HN := Lib.hid hn
  have HA2 := Lib.hid hA2
  have HN2 := Lib.hid hm
  obtain ⟨g1, hg1⟩ : ∃ g1, decide ((60 : Int) < (n : Int)) = g1 := ⟨_, rfl⟩
  obtain ⟨g2, hg2⟩ : ∃ g2, decide ((60 : Int) < (n2 : Int)) = g2 := ⟨_, rfl⟩
  clear hA hn hA2 hm
  have hO : Has (W.alloc (.cells #[.int .i64 ve, .int .i64 se, .int .i64 he, .int .i64 nb] 23)) W.heap.size #[.int .i64 ve, .int .i64 se, .int .i64 he, .int .i64 nb] 23 := Has.new _ _
  have hB := below_box W (.cells #[.int .i64 ve, .int .i64 se, .int .i64 he, .int .i64 nb] 23)
  go_enter Try.func6, Try.ntmps6
  go_upto_region 1 with fail
  generalize World.alloc _ _ = w1 at *
  obtain ⟨P, hP⟩ : ∃ P, P = W.heap.size := ⟨_, rfl⟩
  rw [← hP] at hO ⊢
  clear hP
  go_wp2_with fail
  refine (KA.out _).mono ?_
  rintro e w2 ⟨rfl, hb⟩
  have hB2 := hB.trans (hb.mono hB.size)
  have hO2 : Has w2 P #[.int .i64 ve, .int .i64 se, .int .i64 he, .int .i64 nb] 23 := (hb.block P hO.lt).trans hO
  have c0 : w2.cell? ⟨P, 0, none⟩ = some (.int .i64 ve) := hO2.cell 0
  have c1 : w2.cell? ⟨P, 1, none⟩ = some (.int .i64 se) := hO2.cell 1
  have c2 : w2.cell? ⟨P, 2, none⟩ = some (.int .i64 he) := hO2.cell 2
  have c3 : w2.cell? ⟨P, 3, none⟩ = some (.int .i64 nb) := hO2.cell 3
  clear hO hO2 hB hb KA
  obtain rfl | rfl : g1 = true ∨ g1 = false := by cases g1 <;> simp
  · go_wp2_with fail
    go_ret
    exact ⟨rfl, hB2⟩
  obtain rfl | rfl : g2 = true ∨ g2 = false := by cases g2 <;> simp
  · go_wp2_with fail
    go_ret
    exact ⟨rfl, hB2⟩
  have K := Lib.hid (open_at ve se he nb 0 g0 w2)
  go_wp2_with fail
  refine (K.out).mono ?_
  rintro e w3 ⟨b, v, rfl, hbw, hT, hr, ho, hB3⟩
  obtain ⟨p, cc, rfl, _⟩ := hr.slice
  have hbW : W.heap.size ≤ b := Nat.le_trans hB2.size hbw
  have hF : ∀ i, i = b → W.heap.size ≤ i := fun i hi => hi ▸ hbW
  have hB4 := hB2.trans (hB3.mono hB2.size)
  clear K c0 c1 c2 c3 ho hr hbw hB3 hB2 hg1 hg2
  go_wp2_with fail
  go_loopw [11, 37] (fun v i wl => ∃ (u : Nat) (g : Bool) (x : Tk), u ≤ n ∧ v = .bool g ∧ i = .int .i64 (u : Int) ∧ Hid (TkAt wl b x ∧ (g = true → x.ping ≠ 0) ∧ Below W.heap.size W wl)) (fun _ i _ => n - (intOf i).toNat)
  case atStart => exact ⟨0, false, _, Nat.zero_le _, rfl, rfl, Lib.hid ⟨hT, fun h => (by cases h), hB4⟩⟩
  case round =>
    obtain ⟨u, g, x, hu, rfl, rfl, HI⟩ := hrel
    rename World => wl
    clear hT hB4
    by_cases hlt : u < n
    · obtain ⟨y, hy⟩ : ∃ y, l[u]? = some y := ⟨l[u]'(by rw [← HN.out]; exact hlt), List.getElem?_eq_getElem _⟩
      obtain ⟨ab, ao, rfl, _, hcc⟩ := (HA.out.below HI.out.2.2) (by rw [← HN.out]; omega)
      obtain ⟨hok, hr⟩ := hcc u y hy
      have hyl := clC_length hok
      have HOK := Lib.hid hok
      have hnew : Has (wl.alloc (.cells (clA clZ) 41)) wl.heap.size (clA clZ) 41 := Has.new _ _
      clear hcc hy hok
      go_upto_region 10 with (first
        | (with_reducible refine cl_load_mid rfl _ rfl ab (ao + u * 42) rfl y hr hyl ?_)
        | (with_reducible refine cl_alloc rfl rfl ?_)
        | (with_reducible refine cl_store rfl _ _ rfl _ y rfl rfl hyl _ hnew rfl ?_))
      have hC3 := cl_new wl y
      have hB3 := cl_bel wl y
      generalize World.setRow _ _ _ = w5 at *
      clear hnew hr hyl
      obtain ⟨bC, hbC⟩ : ∃ bC, bC = wl.heap.size := ⟨_, rfl⟩
      rw [← hbC] at hC3 ⊢
      have hT5 := HI.out.1.on hB3
      have hnb : ¬ bC = b := fun e => absurd HI.out.1.lt (by omega)
      have hB5 := HI.out.2.2.trans (hB3.mono HI.out.2.2.size)
      have HX := Lib.hid HI.out.2.1
      have k0 := hC3.c0
      clear hB3 hbC HI
      by_cases e0 : y.kind = 0
      · have t0 : (y.kind == 0) = true := by rw [e0]; rfl
        have r1 := hC3.m
        have rl := mmC_length HOK.out
        have K := Lib.hid (in_at hT5 y.m HOK.out)
        clear e0
        go_wp2_with (first
          | (with_reducible refine mm_load_mid rfl _ rfl bC 1 rfl y.m r1 rl ?_))
        refine (K.out).mono ?_
        rintro e w6 ⟨v6, rfl, hT6, hr6, _, hk6⟩
        have kk := (hC3.keep hk6 hnb).k
        have hB6 := hB5.trans (hk6.below hF hB5.size)
        have HX6 : Hid ((g && (y.m.kind != 7)) = true → (x.inn y.m).1.ping ≠ 0) := Lib.hid fun h => by
          simp only [Bool.and_eq_true, bne_iff_ne] at h
          rw [Tk.inn_ping x y.m h.2]
          exact HX.out h.1
        clear K r1 rl k0 hr6 hk6 hC3 hT5 hB5 HX
        obtain ⟨g7, hg7⟩ : ∃ g7, (y.m.kind != 7) = g7 := ⟨_, rfl⟩
        rw [hg7] at HX6
        cases g
        · go_wp2_with fail
          go_roundw
          case rel => exact ⟨u + 1, false, _, by omega, rfl, by go_num, Lib.hid ⟨hT6, HX6.out, hB6⟩⟩
          case measure => simp [intOf]; omega
        · go_wp2_with fail
          go_roundw
          case rel => exact ⟨u + 1, g7, _, by omega, rfl, by go_num, Lib.hid ⟨hT6, HX6.out, hB6⟩⟩
          case measure => simp [intOf]; omega
      · have t0 : (y.kind == 0) = false := beq_eq_false_iff_ne.2 e0
        by_cases e1 : y.kind = 1
        · have t1 : (y.kind == 1) = true := by rw [e1]; rfl
          have k40 := hC3.n HOK.out
          have k41 := hC3.now HOK.out
          clear e0 e1
          by_cases hp : x.pings y.n
          · have K := Lib.hid (ping_yes hT5 y.n y.now hp)
            obtain rfl : g = false := by
              cases g
              · rfl
              · exact absurd hp.2.1 (HX.out rfl)
            have hp1 := hp.2.2.1
            clear hp HX
            go_wp2_with fail
            refine (K.out).mono ?_
            rintro e w6 ⟨gg, rfl, hT6, _, _, hk6⟩
            have hB6 := hB5.trans (hk6.below hF hB5.size)
            clear K k40 k41 k0 hk6 hC3 hT5 hB5
            go_wp2_with fail
            go_roundw
            case rel => exact ⟨u + 1, true, _, by omega, rfl, by go_num, Lib.hid ⟨hT6, fun _ => (by show y.n ≠ 0; omega), hB6⟩⟩
            case measure => simp [intOf]; omega
          · have K := Lib.hid (ping_no hT5 y.n y.now hp)
            clear hp
            cases g
            · go_wp2_with fail
              refine (K.out).mono ?_
              rintro e w6 ⟨rfl, rfl⟩
              clear K k40 k41 k0 hC3
              go_wp2_with fail
              go_roundw
              case rel => exact ⟨u + 1, false, _, by omega, rfl, by go_num, Lib.hid ⟨hT5, HX.out, hB5⟩⟩
              case measure => simp [intOf]; omega
            · go_wp2_with fail
              refine (K.out).mono ?_
              rintro e w6 ⟨rfl, rfl⟩
              clear K k40 k41 k0 hC3
              go_wp2_with fail
              go_roundw
              case rel => exact ⟨u + 1, true, _, by omega, rfl, by go_num, Lib.hid ⟨hT5, fun _ => HX.out trivial, hB5⟩⟩
              case measure => simp [intOf]; omega
        · have t1 : (y.kind == 1) = false := beq_eq_false_iff_ne.2 e1
          clear e0 e1 hC3
          go_wp2_with fail
          go_roundw
          case rel => exact ⟨u + 1, g, _, by omega, rfl, by go_num, Lib.hid ⟨hT5, HX.out, hB5⟩⟩
          case measure => simp [intOf]; omega
    · obtain rfl : u = n := by omega
      have K := Lib.hid (end_at HI.out.1)
      have hB5 := HI.out.2.2
      clear HI HA HN
      go_wp2_with fail
      refine (K.out).mono ?_
      rintro e w6 ⟨rfl, hT6, hk6⟩
      have hB6 := hB5.trans (hk6.below hF hB5.size)
      have hx3 : x.over.far = 3 := rfl
      clear K hB5 hk6
      generalize x.over = x3 at *
      go_wp2_with fail
      go_loopw [81] (fun i wl => ∃ (u : Nat), u ≤ n2 ∧ i = .int .i64 (u : Int) ∧ Hid (TkAt wl b x3 ∧ Below W.heap.size W wl)) (fun i _ => n2 - (intOf i).toNat)
      case atStart => exact ⟨0, Nat.zero_le _, rfl, Lib.hid ⟨hT6, hB6⟩⟩
      case round =>
        obtain ⟨u, hu, rfl, HI⟩ := hrel
        rename World => wl
        clear hT6 hB6
        by_cases hlt : u < n2
        · obtain ⟨y, hy⟩ : ∃ y, l2[u]? = some y := ⟨l2[u]'(by rw [← HN2.out]; exact hlt), List.getElem?_eq_getElem _⟩
          obtain ⟨ab, ao, rfl, _, hcc⟩ := (HA2.out.below HI.out.2) (by rw [← HN2.out]; omega)
          obtain ⟨hok, hr⟩ := hcc u y hy
          have hyl := clC_length hok
          have HOK := Lib.hid hok
          have hnew : Has (wl.alloc (.cells (clA clZ) 41)) wl.heap.size (clA clZ) 41 := Has.new _ _
          clear hcc hy hok
          go_upto_region 24 with (first
            | (with_reducible refine cl_load_mid rfl _ rfl ab (ao + u * 42) rfl y hr hyl ?_)
            | (with_reducible refine cl_alloc rfl rfl ?_)
            | (with_reducible refine cl_store rfl _ _ rfl _ y rfl rfl hyl _ hnew rfl ?_))
          have hC3 := cl_new wl y
          have hB3 := cl_bel wl y
          generalize World.setRow _ _ _ = w5 at *
          clear hnew hr hyl
          obtain ⟨bC, hbC⟩ : ∃ bC, bC = wl.heap.size := ⟨_, rfl⟩
          rw [← hbC] at hC3 ⊢
          have hT5 := HI.out.1.on hB3
          have hB5 := HI.out.2.trans (hB3.mono HI.out.2.size)
          have r1 := hC3.m
          have rl := mmC_length HOK.out
          have K := Lib.hid (in_gone hT5 y.m HOK.out hx3)
          clear hB3 hbC HI
          go_wp2_with (first
            | (with_reducible refine mm_load_mid rfl _ rfl bC 1 rfl y.m r1 rl ?_))
          refine (K.out).mono ?_
          rintro e w7 ⟨rfl, hB7⟩
          have hT7 := hT5.on hB7
          have hC7 := hC3.on hB7
          have k40 := hC7.n HOK.out
          have k41 := hC7.now HOK.out
          have hB8 := hB5.trans (hB7.mono hB5.size)
          have K1 := Lib.hid (ping_no hT7 y.n y.now (fun h => absurd (h.1.symm.trans hx3) (by decide)))
          have K2 := Lib.hid (tick_gone hT7 hx3 y.now)
          have K3 := ready_at hT7
          have K4 := direct_at hT7
          have K5 := gone_at hT7
          rw [hx3] at K3 K4 K5
          have K3 := Lib.hid K3
          have K4 := Lib.hid K4
          have K5 := Lib.hid K5
          clear K r1 rl hC3 hC7 hT5 hB5 hB7
          go_wp2_with fail
          refine (K1.out).mono ?_
          rintro e w8 ⟨rfl, rfl⟩
          go_wp2_with fail
          refine (K2.out).mono ?_
          rintro e w8 ⟨rfl, rfl⟩
          go_wp2_with fail
          refine (K3.out).mono ?_
          rintro e w8 ⟨rfl, rfl⟩
          go_wp2_with fail
          refine (K4.out).mono ?_
          rintro e w8 ⟨rfl, rfl⟩
          go_wp2_with fail
          refine (K5.out).mono ?_
          rintro e w8 ⟨rfl, rfl⟩
          go_wp2_with fail
          go_roundw
          case rel => exact ⟨u + 1, by omega, by go_num, Lib.hid ⟨hT7, hB8⟩⟩
          case measure => simp [intOf]; omega
        · obtain rfl : u = n2 := by omega
          have K5 := gone_at HI.out.1
          rw [hx3] at K5
          have K5 := Lib.hid K5
          have hB5 := HI.out.2
          clear HI HA2 HN2
          go_wp2_with fail
          refine (K5.out).mono ?_
          rintro e w8 ⟨rfl, rfl⟩
          go_wp2_with fail
          go_ret
          exact ⟨rfl, hB5⟩
end Go.Proofs.Yteblphnpealefaa.An
