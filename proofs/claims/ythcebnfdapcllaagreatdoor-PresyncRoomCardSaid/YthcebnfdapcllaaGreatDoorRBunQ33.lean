import Derived.Test.YthcebnfdapcllaaGreatDoorRBunQ28
import Derived.Test.YthcebnfdapcllaaGreatDoorRWTimes
import Derived.Test.YthcebnfdapcllaaGreatDoorRBunQ27
import Derived.Test.YthcebnfdapcllaaGreatDoorRBunQ31
namespace Go.Proofs.YthcebnfdapcllaaGreatDoor.NN
open Go.RowKit
theorem wrap_nat (z : Int) : ∃ n : Nat, IntKind.u64.wrap z = (n : Nat) := ⟨(z % 18446744073709551616).toNat, by rw [IntKind.wrap_u64]; omega⟩
theorem wrap_same {n : Nat} (h : n < 18446744073709551616) : IntKind.u64.wrap (n : Int) = (n : Nat) := by rw [IntKind.wrap_u64]; omega
theorem maskD (a : Nat) (ha : a < 18446744073709551616) : bits .and .u64 (a : Int) 4294967295 = ((a % 4294967296 : Nat) : Int) := by
  have h := bits_and_u64_nat a 4294967295 ha (by omega)
  have e : a &&& 4294967295 = a % 4294967296 := Nat.and_two_pow_sub_one_eq_mod a 32
  rw [e] at h
  exact h
theorem shifted (hi lo s : Nat) (hs : s < 64) : (hi * 18446744073709551616 + lo) * 2 ^ s = (hi * 2 ^ s + lo / 2 ^ (64 - s)) * 18446744073709551616 + lo * 2 ^ s % 18446744073709551616 := by
  have e : (18446744073709551616 : Nat) = 2 ^ (64 - s) * 2 ^ s := by rw [← Nat.pow_add, show 64 - s + s = 64 by omega]
  have h : lo * 2 ^ s / 18446744073709551616 = lo / 2 ^ (64 - s) := by rw [e, Nat.mul_div_mul_right _ _ (Nat.pow_pos (by decide))]
  have h2 := Nat.div_add_mod' (lo * 2 ^ s) 18446744073709551616
  rw [h] at h2
  have e1 : hi * 18446744073709551616 * 2 ^ s = hi * 2 ^ s * 18446744073709551616 := Nat.mul_right_comm _ _ _
  rw [Nat.add_mul, Nat.add_mul, e1, Nat.add_assoc, h2]
theorem or_hi (hi lo s : Nat) (hs : s < 64) (hl : lo < 18446744073709551616) : hi * 2 ^ s ||| lo / 2 ^ (64 - s) = hi * 2 ^ s + lo / 2 ^ (64 - s) := by
  have h : lo / 2 ^ (64 - s) < 2 ^ s := by
    refine (Nat.div_lt_iff_lt_mul (Nat.pow_pos (by decide))).2 ?_
    rw [← Nat.pow_add, show s + (64 - s) = 64 by omega]; exact hl
  rw [Nat.mul_comm, Nat.two_pow_add_eq_or_of_lt h]
theorem start_facts {u d y1 y0 : Nat} (k : Nm.KY u d y1 y0) : ∃ q r m : Nat, IntKind.u64.wrap ((u : Int) / (y1 : Int)) = (q : Nat) ∧ IntKind.u64.wrap ((q : Int) * (y1 : Int)) = (m : Nat) ∧ IntKind.u64.wrap ((u : Int) - (m : Int)) = (r : Nat) ∧ Nm.KI u d y1 y0 q r ∧ r < 4294967296 := by
  have h1 := k.h1
  have h2 := k.h2
  have h0 := k.h0
  have hu := k.hu
  have hm := Nat.div_add_mod' u y1
  have hl := Nat.mod_lt u (show 0 < y1 by omega)
  refine ⟨u / y1, u % y1, u / y1 * y1, ?_, ?_, ?_, k.start, by omega⟩
  · rw [← Int.natCast_ediv]; exact wrap_same (Nat.lt_of_le_of_lt (Nat.div_le_self _ _) (by omega))
  · rw [← Int.natCast_mul]; exact wrap_same (by omega)
  · rw [IntKind.wrap_u64]; omega
theorem test_facts {q r y0 d : Nat} (hq : q < 4294967296) (hr : r < 4294967296) (hy : y0 < 4294967296) (hd : d < 4294967296) : ∃ P R S : Nat, IntKind.u64.wrap ((q : Int) * (y0 : Int)) = (P : Nat) ∧ IntKind.u64.wrap ((4294967296 : Int) * (r : Int)) = (R : Nat) ∧ IntKind.u64.wrap ((R : Int) + (d : Int)) = (S : Nat) ∧ P = q * y0 ∧ S = 4294967296 * r + d := by
  refine ⟨q * y0, 4294967296 * r, 4294967296 * r + d, ?_, ?_, ?_, rfl, rfl⟩
  · rw [← Int.natCast_mul]; exact wrap_same (by have := Nat.mul_le_mul (show q ≤ 4294967295 by omega) (show y0 ≤ 4294967295 by omega); omega)
  · rw [IntKind.wrap_u64]; omega
  · rw [IntKind.wrap_u64]; omega
theorem next_facts {q r y1 : Nat} (hq : 0 < q) (hq2 : q ≤ 4294967297) (hr : r < 4294967296) (hy : y1 < 4294967296) : ∃ p t : Nat, IntKind.u64.wrap ((q : Int) - 1) = (p : Nat) ∧ IntKind.u64.wrap ((r : Int) + (y1 : Int)) = (t : Nat) ∧ p = q - 1 ∧ t = r + y1 := by
  refine ⟨q - 1, r + y1, ?_, ?_, rfl, rfl⟩
  · rw [IntKind.wrap_u64]; omega
  · rw [IntKind.wrap_u64]; omega
theorem left_facts {u d Y q : Nat} (hy : 0 < Y) (hy2 : Y < 18446744073709551616) (hq : q = (u * 4294967296 + d) / Y) : ∃ m1 m2 m3 v : Nat, IntKind.u64.wrap ((u : Int) * 4294967296) = (m1 : Nat) ∧ IntKind.u64.wrap ((m1 : Int) + (d : Int)) = (m2 : Nat) ∧ IntKind.u64.wrap ((q : Int) * (Y : Int)) = (m3 : Nat) ∧ IntKind.u64.wrap ((m2 : Int) - (m3 : Int)) = (v : Nat) ∧ v = (u * 4294967296 + d) % Y := by
  obtain ⟨m1, e1⟩ := wrap_nat ((u : Int) * 4294967296)
  obtain ⟨m2, e2⟩ := wrap_nat ((m1 : Int) + (d : Int))
  obtain ⟨m3, e3⟩ := wrap_nat ((q : Int) * (Y : Int))
  have e4 := Nm.digit_left hy hy2 hq
  rw [e1, e2, e3] at e4
  exact ⟨m1, m2, m3, _, e1, e2, e3, e4, rfl⟩
theorem quo_facts {q p quo : Nat} (h : quo = q * 4294967296 + p) (hl : quo < 18446744073709551616) : ∃ m : Nat, IntKind.u64.wrap ((q : Int) * 4294967296) = (m : Nat) ∧ IntKind.u64.wrap ((m : Int) + (p : Int)) = (quo : Nat) := by
  refine ⟨q * 4294967296, ?_, ?_⟩
  · rw [IntKind.wrap_u64]; omega
  · rw [IntKind.wrap_u64]; omega
theorem final {u d1 d0 Y v q p quo rem s : Nat} (hv : v = (u * 4294967296 + d1) % Y) (hq : q = (u * 4294967296 + d1) / Y) (hp : p = (v * 4294967296 + d0) / Y) (hd : quo = (u * 18446744073709551616 + d1 * 4294967296 + d0) / Y ∧ rem = (u * 18446744073709551616 + d1 * 4294967296 + d0) % Y / 2 ^ s) (hY : 0 < Y) :
    quo = q * 4294967296 + p ∧ rem = (v * 4294967296 + d0) % Y / 2 ^ s := by
  obtain ⟨t1, t2⟩ := Nm.two_digits (u := u) (d1 := d1) (d0 := d0) hY
  rw [hd.1, hd.2, t1, t2, hq, hp, hv]
  exact ⟨rfl, rfl⟩
set_option maxRecDepth 100000 in
set_option maxHeartbeats 2000000 in
theorem div64_great (hi lo y : Nat) (h0 : hi ≠ 0) (hh : hi < y) (hl : lo < 18446744073709551616) (hy : y < 18446744073709551616) (w : World) :
    Calls Tryz.prog 155 #[.int .u64 (hi : Int), .int .u64 (lo : Int), .int .u64 (y : Int)] w fun e w' => e = .returned (.tuple #[.int .u64 (((hi * 18446744073709551616 + lo) / y : Nat) : Int), .int .u64 (((hi * 18446744073709551616 + lo) % y : Nat) : Int)]) ∧ Below w.heap.size w w' := by
  have f1 : ¬ (y : Int) = 0 := by omega
  have f2 : ¬ (y : Int) ≤ (hi : Int) := by omega
  have f3 : ¬ (hi : Int) = 0 := by omega
  obtain ⟨s, hs, hse, hs1, hs2⟩ := Nm.lead (y := y) (by omega) hy
  have cL : ∀ w, Calls Tryz.prog 159 #[.int .u64 (y : Int)] w fun e w' => e = .returned (.int .i64 (s : Nat)) ∧ w = w' := fun w =>
    (Tryz.bits_LeadingZeros64 (y : Int) w (by omega) (by omega)).mono fun _ _ ⟨he, hw⟩ => ⟨by rw [he, Int.toNat_natCast, hse], hw.symm⟩
  have KL := Lib.hid cL
  clear cL hse
  obtain ⟨quo, equo⟩ : ∃ z, z = (hi * 18446744073709551616 + lo) / y := ⟨_, rfl⟩
  obtain ⟨rem, erem⟩ : ∃ z, z = (hi * 18446744073709551616 + lo) % y := ⟨_, rfl⟩
  rw [← equo, ← erem]
  have HQ : Hid (quo < 18446744073709551616) := Lib.hid (by rw [equo]; exact (Nat.div_lt_iff_lt_mul (by omega)).2 (by omega))
  have hpow : 0 < 2 ^ s := Nat.pow_pos (by decide)
  obtain ⟨Y, hY⟩ : ∃ Y, Y = y * 2 ^ s := ⟨_, rfl⟩
  obtain ⟨h, hh2⟩ : ∃ h, h = hi * 2 ^ s := ⟨_, rfl⟩
  obtain ⟨l, hl2⟩ : ∃ l, l = lo / 2 ^ (64 - s) := ⟨_, rfl⟩
  obtain ⟨L, hL⟩ : ∃ L, L = lo * 2 ^ s % 18446744073709551616 := ⟨_, rfl⟩
  have hLl : L < 18446744073709551616 := by rw [hL]; exact Nat.mod_lt _ (by decide)
  rw [← hY] at hs1 hs2
  have hX := shifted hi lo s hs
  rw [← hh2, ← hl2, ← hL] at hX
  obtain ⟨mq, mr⟩ := Nm.moved_div (h := hi * 18446744073709551616 + lo) (y := y) hpow
  rw [← equo, ← hY, hX] at mq
  rw [← erem, ← hY, hX] at mr
  have huY : h + l < Y := by
    have h1 : (hi * 18446744073709551616 + lo) * 2 ^ s < y * 18446744073709551616 * 2 ^ s := Nat.mul_lt_mul_of_pos_right (by omega) hpow
    rw [hX, Nat.mul_assoc, Nat.mul_comm _ (2 ^ s), ← Nat.mul_assoc, ← hY] at h1
    omega
  have a1 : IntKind.u64.wrap ((y : Int) * 2 ^ s) = (Y : Nat) := by rw [upW, Nat.shiftLeft_eq, ← hY, Nat.mod_eq_of_lt hs2]
  have a4 : IntKind.u64.wrap ((hi : Int) * 2 ^ s) = (h : Nat) := by rw [upW, Nat.shiftLeft_eq, ← hh2, Nat.mod_eq_of_lt (by omega)]
  have a5 : bits .or .u64 (h : Int) ((lo : Int) / 2 ^ (64 - s)) = ((h + l : Nat) : Int) := by
    rw [upOr h lo (64 - s) (by omega) hl, Nat.shiftRight_eq_div_pow, hh2, or_hi hi lo s hs hl, ← hh2, ← hl2]
  have a6 : IntKind.u64.wrap ((lo : Int) * 2 ^ s) = (L : Nat) := by rw [upW, Nat.shiftLeft_eq, ← hL]
  obtain ⟨u, hu⟩ : ∃ u, u = h + l := ⟨_, rfl⟩
  rw [← hu] at a5 huY mq mr
  have a2 : (Y : Int) / 4294967296 = (Y / 4294967296 : Nat) := by omega
  have a3 := maskD Y hs2
  have a7 : (L : Int) / 4294967296 = (L / 4294967296 : Nat) := by omega
  have a8 := maskD L hLl
  obtain ⟨y1, hy1⟩ : ∃ z, z = Y / 4294967296 := ⟨_, rfl⟩
  obtain ⟨y0, hy0⟩ : ∃ z, z = Y % 4294967296 := ⟨_, rfl⟩
  obtain ⟨d1, hd1⟩ : ∃ z, z = L / 4294967296 := ⟨_, rfl⟩
  obtain ⟨d0, hd0⟩ : ∃ z, z = L % 4294967296 := ⟨_, rfl⟩
  rw [← hy1] at a2
  rw [← hy0] at a3
  rw [← hd1] at a7
  rw [← hd0] at a8
  have hy1g : 2147483648 ≤ y1 := by omega
  have hy1l : y1 < 4294967296 := by omega
  have hy0l : y0 < 4294967296 := by omega
  have d1_lt : d1 < 4294967296 := by omega
  have d0_lt : d0 < 4294967296 := by omega
  have HY : Hid (Y = y1 * 4294967296 + y0) := Lib.hid (by omega)
  have hYp : 0 < Y := by omega
  have hYl := hs2
  have e64 : u * 18446744073709551616 + L = u * 18446744073709551616 + d1 * 4294967296 + d0 := by omega
  rw [e64] at mq mr
  have HD : Hid (quo = (u * 18446744073709551616 + d1 * 4294967296 + d0) / Y ∧ rem = (u * 18446744073709551616 + d1 * 4294967296 + d0) % Y / 2 ^ s) := Lib.hid ⟨mq.symm, mr.symm⟩
  have k1 : Nm.KY u d1 y1 y0 := ⟨hy1g, hy1l, hy0l, d1_lt, by rw [← HY.out]; exact huY⟩
  have K1 := Lib.hid k1
  obtain ⟨q, r, m, s1, s2, s3, s4, s5⟩ := start_facts k1
  have HS1 := Lib.hid (And.intro s4 s5)
  have f4 : ¬ (y1 : Int) = 0 := by omega
  have hb0 := Below.refl w.heap.size w
  clear k1 s4 s5 e64 mq mr hd1 hd0 hy1 hy0 hX huY hLl hu hl2 hh2 hL hY hs1 equo erem hpow
  go_enter Tryz.func155, Tryz.ntmps155
  go_wp2_with (go_at_call 159; refine (KL.out _).mono ?_; rintro e w3 ⟨rfl, rfl⟩)
  clear a1 a2 a3 a4 a5 a6 a7 a8 s1 s2 s3 f1 f2 f3
  go_loopw [15, 16] (fun qv rv wr => ∃ q r : Nat, qv = .int .u64 (q : Nat) ∧ rv = .int .u64 (r : Nat) ∧ w = wr ∧ Hid (Nm.KI u d1 y1 y0 q r ∧ r < 4294967296)) (fun qv _ _ => (intOf qv).toNat)
  case atStart => exact ⟨_, _, rfl, rfl, rfl, HS1⟩
  case round =>
    obtain ⟨q1, r1, rfl, rfl, rfl, HI⟩ := hrel
    obtain ⟨hI, hr⟩ := HI.out
    have hle := hI.le
    by_cases hq : 4294967296 ≤ q1
    case' pos =>
      have hq2 : (4294967296 : Int) ≤ (q1 : Int) := by omega
      have hn := hI.next K1.out (.inl hq)
      have hpos : 0 < q1 := Nat.lt_of_le_of_lt (Nat.zero_le _) (hI.more K1.out (.inl hq))
      obtain ⟨p1, t1, n1, n2, n3, n4⟩ := next_facts hpos hle hr hy1l
      rw [← n3, ← n4] at hn
      by_cases hb : 4294967296 ≤ t1
      case' pos =>
        have hend := hn.leave K1.out hb (by omega)
        rw [← HY.out] at hend
        have HE1 := Lib.hid hend
        have hb2 : (4294967296 : Int) ≤ (t1 : Int) := by omega
        clear hend hn hpos n3 n4 hI hle hr hb
      case neg =>
        have hb2 : decide ((4294967296 : Int) ≤ (t1 : Int)) = false := decide_eq_false (by omega)
        have HN := Lib.hid (And.intro hn (show t1 < 4294967296 by omega))
        have HM : Hid (p1 < q1) := Lib.hid (by omega)
        clear hn hpos n3 n4 hI hle hr hb
        go_wp2_with fail
        go_roundw
        case rel => exact ⟨_, _, rfl, rfl, by trivial, HN⟩
        case measure => have := HM.out; simp [intOf]; omega
    case' neg =>
      obtain ⟨P, R, S, g1, g2, g3, g4, g5⟩ := test_facts (q := q1) (by omega) hr hy0l d1_lt
      have hq2 : decide ((4294967296 : Int) ≤ (q1 : Int)) = false := decide_eq_false (by omega)
      by_cases hc : S < P
      case' pos =>
        have hc2 : (S : Int) < (P : Int) := by omega
        have hn := hI.next K1.out (.inr (by omega))
        have hpos : 0 < q1 := Nat.lt_of_le_of_lt (Nat.zero_le _) (hI.more K1.out (.inr (by omega)))
        obtain ⟨p1, t1, n1, n2, n3, n4⟩ := next_facts hpos hle hr hy1l
        rw [← n3, ← n4] at hn
        by_cases hb : 4294967296 ≤ t1
        case' pos =>
          have hend := hn.leave K1.out hb (by omega)
          rw [← HY.out] at hend
          have HE1 := Lib.hid hend
          have hb2 : (4294967296 : Int) ≤ (t1 : Int) := by omega
          clear hend hn hpos n3 n4 hI hle hr hb
        case neg =>
          have hb2 : decide ((4294967296 : Int) ≤ (t1 : Int)) = false := decide_eq_false (by omega)
          have HN := Lib.hid (And.intro hn (show t1 < 4294967296 by omega))
          have HM : Hid (p1 < q1) := Lib.hid (by omega)
          clear hn hpos n3 n4 hI hle hr hb
          go_wp2_with fail
          go_roundw
          case rel => exact ⟨_, _, rfl, rfl, by trivial, HN⟩
          case measure => have := HM.out; simp [intOf]; omega
      case' neg =>
        have hc2 : ¬ (S : Int) < (P : Int) := by omega
        have hend := hI.stop K1.out (by omega)
        rw [← HY.out] at hend
        have HE1 := Lib.hid hend
        clear hend hI hle hr g4 g5 hc hq
    all_goals
      obtain ⟨m1, m2, m3, v, b1, b2, b3, b4, b5⟩ := left_facts hYp hYl HE1.out
      have k2 : Nm.KY v d0 y1 y0 := ⟨hy1g, hy1l, hy0l, d0_lt, by rw [← HY.out, b5]; exact Nat.mod_lt _ hYp⟩
      have K2 := Lib.hid k2
      have HV := Lib.hid b5
      obtain ⟨q0, r0, m0, s1, s2, s3, s4, s5⟩ := start_facts k2
      have HS2 := Lib.hid (And.intro s4 s5)
      clear k2 b5 s4 s5
      go_wp2_with fail
      clear b1 b2 b3 b4 s1 s2 s3
      first | clear hb2 n1 n2 | clear hc2 g1 g2 g3 hq2
      go_loopw [18, 16] (fun qv rv wr => ∃ q r : Nat, qv = .int .u64 (q : Nat) ∧ rv = .int .u64 (r : Nat) ∧ w = wr ∧ Hid (Nm.KI v d0 y1 y0 q r ∧ r < 4294967296)) (fun qv _ _ => (intOf qv).toNat)
      case atStart => exact ⟨_, _, rfl, rfl, rfl, HS2⟩
      case round =>
        obtain ⟨q2, r2, rfl, rfl, rfl, HI⟩ := hrel
        obtain ⟨hI, hr⟩ := HI.out
        have hle := hI.le
        by_cases hq : 4294967296 ≤ q2
        case' pos =>
          have hq2 : (4294967296 : Int) ≤ (q2 : Int) := by omega
          have hn := hI.next K2.out (.inl hq)
          have hpos : 0 < q2 := Nat.lt_of_le_of_lt (Nat.zero_le _) (hI.more K2.out (.inl hq))
          obtain ⟨p2, t2, n1, n2, n3, n4⟩ := next_facts hpos hle hr hy1l
          rw [← n3, ← n4] at hn
          by_cases hb : 4294967296 ≤ t2
          case' pos =>
            have hend := hn.leave K2.out hb (by omega)
            rw [← HY.out] at hend
            have HE2 := Lib.hid hend
            have hb2 : (4294967296 : Int) ≤ (t2 : Int) := by omega
            clear hend hn hpos n3 n4 hI hle hr hb
          case neg =>
            have hb2 : decide ((4294967296 : Int) ≤ (t2 : Int)) = false := decide_eq_false (by omega)
            have HN := Lib.hid (And.intro hn (show t2 < 4294967296 by omega))
            have HM : Hid (p2 < q2) := Lib.hid (by omega)
            clear hn hpos n3 n4 hI hle hr hb
            go_wp2_with fail
            go_roundw
            case rel => exact ⟨_, _, rfl, rfl, by trivial, HN⟩
            case measure => have := HM.out; simp [intOf]; omega
        case' neg =>
          obtain ⟨P, R, S, g1, g2, g3, g4, g5⟩ := test_facts (q := q2) (by omega) hr hy0l d0_lt
          have hq2 : decide ((4294967296 : Int) ≤ (q2 : Int)) = false := decide_eq_false (by omega)
          by_cases hc : S < P
          case' pos =>
            have hc2 : (S : Int) < (P : Int) := by omega
            have hn := hI.next K2.out (.inr (by omega))
            have hpos : 0 < q2 := Nat.lt_of_le_of_lt (Nat.zero_le _) (hI.more K2.out (.inr (by omega)))
            obtain ⟨p2, t2, n1, n2, n3, n4⟩ := next_facts hpos hle hr hy1l
            rw [← n3, ← n4] at hn
            by_cases hb : 4294967296 ≤ t2
            case' pos =>
              have hend := hn.leave K2.out hb (by omega)
              rw [← HY.out] at hend
              have HE2 := Lib.hid hend
              have hb2 : (4294967296 : Int) ≤ (t2 : Int) := by omega
              clear hend hn hpos n3 n4 hI hle hr hb
            case neg =>
              have hb2 : decide ((4294967296 : Int) ≤ (t2 : Int)) = false := decide_eq_false (by omega)
              have HN := Lib.hid (And.intro hn (show t2 < 4294967296 by omega))
              have HM : Hid (p2 < q2) := Lib.hid (by omega)
              clear hn hpos n3 n4 hI hle hr hb
              go_wp2_with fail
              go_roundw
              case rel => exact ⟨_, _, rfl, rfl, by trivial, HN⟩
              case measure => have := HM.out; simp [intOf]; omega
          case' neg =>
            have hc2 : ¬ (S : Int) < (P : Int) := by omega
            have hend := hI.stop K2.out (by omega)
            rw [← HY.out] at hend
            have HE2 := Lib.hid hend
            clear hend hI hle hr g4 g5 hc hq
        all_goals
          obtain ⟨hquo, hrem⟩ := final HV.out HE1.out HE2.out HD.out hYp
          obtain ⟨m4, c1, c2⟩ := quo_facts hquo HQ.out
          obtain ⟨m5, m6, m7, v2, c3, c4, c5, c6, c7⟩ := left_facts hYp hYl HE2.out
          rw [← c7] at hrem
          have c8 : (v2 : Int) / 2 ^ s = (rem : Nat) := by rw [hrem]; simp
          clear hquo hrem c7
          go_wp2_with fail
          exact bodyPost_ret (v := .tuple #[.int .u64 (quo : Nat), .int .u64 (rem : Nat)]) (by simp [results, Tryz.results155, go_sem]) rfl ⟨rfl, hb0⟩
set_option maxRecDepth 100000 in
theorem div64_small (lo y : Nat) (hh : 0 < y) (hl : lo < 18446744073709551616) (hy : y < 18446744073709551616) (w : World) :
    Calls Tryz.prog 155 #[.int .u64 0, .int .u64 (lo : Int), .int .u64 (y : Int)] w fun e w' => e = .returned (.tuple #[.int .u64 ((lo / y : Nat) : Int), .int .u64 ((lo % y : Nat) : Int)]) ∧ Below w.heap.size w w' := by
  have f1 : ¬ (y : Int) = 0 := by omega
  have f2 : ¬ (y : Int) ≤ (0 : Int) := by omega
  obtain ⟨q, hq⟩ : ∃ q, q = lo / y := ⟨_, rfl⟩
  obtain ⟨r, hr⟩ : ∃ r, r = lo % y := ⟨_, rfl⟩
  have z1 : IntKind.u64.wrap ((lo : Int) / (y : Int)) = (q : Nat) := by
    rw [← Int.natCast_ediv, ← hq]; exact wrap_same (by rw [hq]; exact Nat.lt_of_le_of_lt (Nat.div_le_self _ _) hl)
  have z2 : (lo : Int) % (y : Int) = (r : Nat) := by rw [hr]; rfl
  rw [← hq, ← hr]
  clear hq hr
  go_enter Tryz.func155, Tryz.ntmps155
  go_wp2_with fail
  refine wp_region_quiet_below (by kernel_rfl) (by kernel_rfl) ?_
  repeat (go_big_quiet_step (fail))
  refine wpQuiet_nil ?_
  intro _ hw'
  obtain ⟨p, hw''⟩ := hw'
  subst hw''
  have hb := below_regrown w p.d p.os
  go_wp2_with fail
  exact bodyPost_ret (v := .tuple #[.int .u64 (q : Nat), .int .u64 (r : Nat)]) (by simp [results, Tryz.results155, go_sem, z2]) rfl ⟨rfl, hb⟩
theorem div64 (hi lo y : Nat) (hh : hi < y) (hl : lo < 18446744073709551616) (hy : y < 18446744073709551616) (w : World) :
    Calls Tryz.prog 155 #[.int .u64 (hi : Int), .int .u64 (lo : Int), .int .u64 (y : Int)] w fun e w' => e = .returned (.tuple #[.int .u64 (((hi * 18446744073709551616 + lo) / y : Nat) : Int), .int .u64 (((hi * 18446744073709551616 + lo) % y : Nat) : Int)]) ∧ Below w.heap.size w w' := by
  by_cases h0 : hi = 0
  · subst h0
    rw [Nat.zero_mul, Nat.zero_add]
    exact div64_small lo y hh hl hy w
  · exact div64_great hi lo y h0 hh hl hy w
end Go.Proofs.YthcebnfdapcllaaGreatDoor.NN
namespace Go.Proofs.YthcebnfdapcllaaGreatDoor.NN
open Go.RowKit
theorem Nm.over_step {x b : Nat} (k : Nat) (hb : 0 < b) :
    Nm.wd (x / b) k = (x / 2 ^ (64 * (k + 1)) % b * 18446744073709551616 + Nm.wd x k) / b ∧ x / 2 ^ (64 * k) % b = (x / 2 ^ (64 * (k + 1)) % b * 18446744073709551616 + Nm.wd x k) % b := by
  have e1 : x / 2 ^ (64 * (k + 1)) = x / 2 ^ (64 * k) / 18446744073709551616 := by rw [Nat.div_div_eq_div_mul, show (18446744073709551616 : Nat) = 2 ^ 64 from rfl, ← Nat.pow_add, Nat.mul_add]
  have e2 : x / b / 2 ^ (64 * k) = x / 2 ^ (64 * k) / b := by rw [Nat.div_div_eq_div_mul, Nat.div_div_eq_div_mul, Nat.mul_comm]
  unfold Nm.wd
  rw [e1, e2]
  generalize x / 2 ^ (64 * k) = n
  have hM := Nat.div_add_mod n 18446744073709551616
  have hd := Nat.mod_lt n (show 18446744073709551616 > 0 by decide)
  generalize n / 18446744073709551616 = M at *
  generalize n % 18446744073709551616 = d at *
  have hr := Nat.mod_lt M hb
  have hQ := Nat.div_add_mod M b
  have e : n = b * (M / b * 18446744073709551616) + (M % b * 18446744073709551616 + d) := by
    rw [← Nat.mul_assoc]
    generalize b * (M / b) = z at *
    omega
  have hs : (M % b * 18446744073709551616 + d) / b < 18446744073709551616 := (Nat.div_lt_iff_lt_mul hb).2 (by omega)
  rw [e, Nat.mul_add_div hb, Nat.mul_add_mod]
  refine ⟨?_, rfl⟩
  rw [Nat.add_comm, Nat.add_mul_mod_self_right, Nat.mod_eq_of_lt hs]
theorem Tm.on {w wr w' : World} {A R O x : Nat} {g : Nat → Nat} (h : Tm w wr A R O x g) (hb : Below wr.heap.size wr w') : Tm w w' A R O x g := ⟨h.below.trans (hb.mono h.below.size), h.a.on hb, h.r.on hb, h.o.on hb⟩
def FromHigh (z k : Nat) (g : Nat → Nat) : Prop := ∀ j, k ≤ j → j < 4 → g j = Nm.wd z j
theorem FromHigh.next {z k : Nat} {g : Nat → Nat} (h : FromHigh z (k + 1) g) : FromHigh z k (upd g k (Nm.wd z k)) := fun j h1 h2 => by
  unfold upd
  split
  · rename_i e; rw [e]
  · rename_i e; exact h j (by omega) h2
set_option maxRecDepth 100000 in
set_option maxHeartbeats 1000000 in
theorem over (x b : Nat) (hx : x < Nm.big) (hb : b < 18446744073709551616) (w : World) :
    Calls Tryz.prog 146 #[.agg (numC x), .int .u64 (b : Int)] w fun e w' => e = .returned (.tuple #[.agg (numC (x / b)), .int .u64 ((if b = 0 then 0 else x % b : Nat) : Int)]) ∧ Below w.heap.size w w' := by
  by_cases h0 : b = 0
  · subst h0
    have hz : numC (x / 0) = numC 0 := by rw [Nat.div_zero]
    rw [if_pos rfl, hz]
    clear hz
    go_enter Tryz.func146, Tryz.ntmps146
    go_wp2_with fail
    generalize hw1 : World.alloc _ _ = w1
    have hr : Has w1 (w.heap.size + 1) (numC 0) 26 := by rw [← hw1]; exact Has.new1 _ (numC 0) _
    have hbel : Below w.heap.size w w1 := by rw [← hw1]; exact ((Below.refl _ _).alloc (Nat.le_refl _) _).alloc (by simp) _
    clear hw1
    exact bodyPost_ret (v := .tuple #[.agg (numC 0), .int .u64 0]) (num_results2 Tryz.results146 _ _ _ _ rfl rfl hr) rfl ⟨rfl, hbel⟩
  · rw [if_neg h0]
    have hb0 : ¬ (b : Int) = 0 := by omega
    have hbz : ((b : Int) == 0) = false := by simp; omega
    have HB0 : Hid (0 < b) := Lib.hid (by omega)
    have HBB := Lib.hid hb
    have HX := Lib.hid hx
    clear hb hx h0
    go_enter Tryz.func146, Tryz.ntmps146
    go_upto_region 5 with fail
    generalize hw1 : World.alloc _ _ = w1
    have h0 : Tm w w1 w.heap.size (w.heap.size + 1) (w.heap.size + 1 + 1) x (fun _ => 0) := by
      rw [← hw1]; exact ⟨(((Below.refl _ _).alloc (Nat.le_refl _) _).alloc (by simp) _).alloc (by simp; omega) _, ((Has.new _ _).alloc _).alloc _, (Has.new1 _ (numC 0) _).alloc _, Has.new2 _ _ (cells4 fun _ => 0) _⟩
    clear hw1
    generalize hB : w.heap.size + 1 + 1 = O at *
    generalize hC : w.heap.size + 1 = R at *
    generalize hD : w.heap.size = A at *
    have HO : Hid (w.heap.size ≤ O) := Lib.hid (by omega)
    have HR : Hid (w.heap.size ≤ R) := Lib.hid (by omega)
    have H1 : Hid (A ≠ O) := Lib.hid (by omega)
    have H3 : Hid (R ≠ O) := Lib.hid (by omega)
    clear hB hC hD
    go_wp2_with fail
    go_loopw [7, 8] (fun c i wr => ∃ g : Nat → Nat, Tm w wr A R O x g ∧ ((∃ k : Nat, k ≤ 3 ∧ i = .int .i64 k ∧ c = .int .u64 ((x / 2 ^ (64 * (k + 1)) % b : Nat) : Int) ∧ Hid (FromHigh (x / b) (k + 1) g)) ∨ (i = .int .i64 (-1) ∧ c = .int .u64 ((x % b : Nat) : Int) ∧ Hid (FromHigh (x / b) 0 g)))) (fun _ i _ => (intOf i + 1).toNat)
    case atStart => exact ⟨_, h0, .inl ⟨3, by omega, rfl, by rw [Nat.div_eq_of_lt (by have := HX.out; rw [Nm.big_eq] at this; exact this), Nat.zero_mod]; rfl, Lib.hid (fun j h1 h2 => by omega)⟩⟩
    case round =>
      obtain ⟨g, hs, ⟨k, hk, rfl, rfl, HG⟩ | ⟨rfl, rfl, HG⟩⟩ := hrel
      · have hst := Nm.over_step (x := x) k HB0.out
        have hrl := Nat.mod_lt (x / 2 ^ (64 * (k + 1))) HB0.out
        generalize x / 2 ^ (64 * (k + 1)) % b = r at *
        have cD := fun w => div64 r (Nm.wd x k) b hrl (Nm.wd_lt x k) HBB.out w
        rw [← hst.1, ← hst.2] at cD
        have KD := Lib.hid cD
        have c1 := hs.a.num (j := k) (by omega)
        clear cD hst hrl
        go_wp2_with fail
        refine (KD.out _).mono ?_
        rintro e w' ⟨rfl, hbw⟩
        have hs2 := hs.on hbw
        have co := hs2.o.word (j := k) (by omega)
        have fo := hs2.o.free k
        clear c1 hs hbw
        go_wp2_with fail
        have hs3 := hs2.set k (Nm.wd (x / b) k) (by omega) H1.out H3.out HO.out
        clear hs2 co fo
        generalize World.setCell _ _ _ = w4 at *
        go_wp2_with fail
        go_roundw
        case rel =>
          refine ⟨_, hs3, ?_⟩
          by_cases hk0 : k = 0
          · subst hk0
            exact .inr ⟨rfl, by simp, Lib.hid (FromHigh.next HG.out)⟩
          · exact .inl ⟨k - 1, by omega, congrArg (Value.int .i64) (by omega), by rw [show k - 1 + 1 = k by omega]; simp, by rw [show k - 1 + 1 = k by omega]; exact Lib.hid (FromHigh.next HG.out)⟩
        case measure => first | (simp [intOf]; done) | (simp [intOf]; omega)
      · have e := cells4_done (g := g) (x := x / b) (Lib.hid fun j hj => HG.out j (by omega) hj)
        have ho := hs.o
        have hr := hs.r
        have hbel := hs.below
        rw [e] at ho
        clear e hs
        go_wp2_with (first
          | (with_reducible refine num_load rfl _ rfl _ rfl _ ho rfl ?_)
          | (with_reducible refine num_store rfl _ _ rfl _ _ rfl rfl _ hr rfl ?_))
        exact bodyPost_ret (v := .tuple #[.agg (numC (x / b)), .int .u64 ((x % b : Nat) : Int)]) (num_results2 Tryz.results146 _ _ _ _ rfl rfl (hr.row _)) rfl ⟨rfl, below_setRow hbel HR.out _⟩
end Go.Proofs.YthcebnfdapcllaaGreatDoor.NN
namespace Go.Proofs.YthcebnfdapcllaaGreatDoor.NN
open Go.RowKit
end Go.Proofs.YthcebnfdapcllaaGreatDoor.NN
