/-
  Heights, the program's and the reference's.
-/
import Derived.Test.YtfpolfokebklhaaLcApp
import Derived.Test.YtfpolfokebklhaaLcHts
namespace Go.Proofs.Ytfpolfokebklhaa.An
open Go.RowKit Mem Ht
/-- a row of so many numbers that came up since -/
def NatsAt (w w' : World) (v : Value) (l : List Nat) : Prop := w'.ownsRow w.heap.size 3 1 v l.length (natC l) ∧ l.length ≤ 60
theorem heights_neg (z : Int) (hz : z < 0) (w : World) : Calls Try.prog 5 #[.int .i64 z] w fun e w' => e = .returned (.slice none 0 0) ∧ Below w.heap.size w w' := by
  have hB := Below.refl w.heap.size w
  have t1 : decide (z < 0) = true := decide_eq_true hz
  clear hz
  go_enter Try.func5, Try.ntmps5
  go_wp2_with fail
  go_ret
  exact ⟨rfl, hB⟩
set_option maxRecDepth 100000 in
set_option maxHeartbeats 4000000 in
theorem heights_at (f : Nat) (hf : f ≤ 1099511627776) (w : World) : Calls Try.prog 5 #[.int .i64 (f : Int)] w fun e w' => ∃ v, e = .returned v ∧ NatsAt w w' v (hts 0 f) ∧ Below w.heap.size w w' := by
  have hB := Below.refl w.heap.size w
  have hS := Lo.start f
  have t1 : ¬ f < 0 := by omega
  go_enter Try.func5, Try.ntmps5
  go_wp2_with fail
  go_loopw [3, 4, 5] (fun v s h wr => ∃ (n sN : Nat) (hh : Int) (P : List Nat), n ≤ 51 ∧ -2199023255552 ≤ hh ∧ hh ≤ 1099511627776 ∧ s = .int .i64 (sN : Int) ∧ h = .int .i64 hh ∧ Hid (Lo f P n hh sN ∧ sN ≤ 2199023255552) ∧ wr.ownsRow w.heap.size 3 1 v n (natC P) ∧ Below w.heap.size w wr) (fun _ _ h _ => (intOf h).toNat)
  case atStart => exact ⟨0, 1, (f : Int), [], by omega, by omega, by omega, rfl, rfl, Lib.hid ⟨hS, by omega⟩, World.ownsRow_nil _ _ _ _, hB⟩
  case round =>
    clear hB hS t1
    obtain ⟨n, sN, hh, P, hn, hlo, hhi, rfl, rfl, HL, hR, hB⟩ := hrel
    obtain ⟨p, c, rfl, hc⟩ := own_slice hR
    by_cases h0 : 0 < hh
    · obtain ⟨q, rfl⟩ := Int.eq_ofNat_of_zero_le (by omega : 0 ≤ hh)
      have hsm := HL.out.1.small h0 hf
      obtain ⟨t, ht⟩ : ∃ t, t = if 11 ≤ n + 1 then sN * 2 else sN := ⟨_, rfl⟩
      have hnx := HL.out.1.next h0 ht
      have ht0 : 0 < t := by rw [hnx.step]; exact Nat.pow_pos (by decide)
      rw [Int.toNat_natCast] at hnx
      have hmk := fun w => build_nat w (q : Int)
      have hb1 : Below w.heap.size w (wr.alloc (.cells #[.int .i64 (q : Int)] 3)) := hB.alloc hB.size _
      have hb1' : Below wr.heap.size wr (wr.alloc (.cells #[.int .i64 (q : Int)] 3)) := (Below.refl _ _).alloc (Nat.le_refl _) _
      have hR1 := row_below hR hb1' (Nat.le_refl _)
      have hz1 : (wr.alloc (.cells #[.int .i64 (q : Int)] 3)).cell? ⟨wr.heap.size, 0, none⟩ = some (.int .i64 (q : Int)) := Has.cell (Has.new _ _) 0
      have hn9 : n ≤ 1000 := by omega
      have hbs := hb1.size
      have hqd : q ≤ 1099511627776 := by omega
      obtain ⟨dd, hdd⟩ : ∃ dd : Int, dd = (q : Int) - (t : Int) := ⟨_, rfl⟩
      rw [← hdd] at hnx
      have hs1 : IntKind.i64.wrap ((q : Int) - (t : Int)) = dd := by
        have : t ≤ 2199023255552 := by rw [ht]; split <;> omega
        rw [IntKind.wrap_i64]; omega
      have HX : Hid (Lo f (P ++ [q]) (n + 1) dd t ∧ t ≤ 2199023255552 ∧ -2199023255552 ≤ dd ∧ dd ≤ 1099511627776 ∧ dd < (q : Int)) := Lib.hid ⟨hnx, by rw [ht]; split <;> omega, by have : t ≤ 2199023255552 := (by rw [ht]; split <;> omega); omega, by omega, by omega⟩
      have HS := Lib.hid hsm
      clear hsm hnx ht0 HL hR hb1' hdd hlo hhi hqd
      by_cases h11 : 10 ≤ n
      · have tw : IntKind.i64.wrap ((sN : Int) * 2) = (t : Int) := by
          have := HX.out.2.1
          rw [ht, if_pos (by omega)] at this ⊢
          rw [IntKind.wrap_i64]; omega
        have t3 : decide ((11 : Int) ≤ (n : Int) + 1) = true := decide_eq_true (by omega)
        clear ht
        go_wp2_with ((with_reducible refine app_nat rfl _ _ rfl w.heap.size (.slice p n c) n P rfl hR1 wr.heap.size q rfl hz1 hn9 hbs ?_); intro v2 w2 hR2 hb2; obtain ⟨p2, c2, rfl, hc2⟩ := own_slice hR2)
        go_roundw
        case rel => exact ⟨n + 1, t, dd, P ++ [q], by have := HS.out.1; omega, HX.out.2.2.1, HX.out.2.2.2.1, rfl, rfl, Lib.hid ⟨HX.out.1, HX.out.2.1⟩, hR2, hb1.trans hb2⟩
        case measure => have := HX.out.2.2.2.2; simp [intOf]; omega
      · obtain rfl : t = sN := by rw [ht, if_neg (by omega)]
        have t3 : decide ((11 : Int) ≤ (n : Int) + 1) = false := decide_eq_false (by omega)
        clear ht
        go_wp2_with ((with_reducible refine app_nat rfl _ _ rfl w.heap.size (.slice p n c) n P rfl hR1 wr.heap.size q rfl hz1 hn9 hbs ?_); intro v2 w2 hR2 hb2; obtain ⟨p2, c2, rfl, hc2⟩ := own_slice hR2)
        go_roundw
        case rel => exact ⟨n + 1, t, dd, P ++ [q], by have := HS.out.1; omega, HX.out.2.2.1, HX.out.2.2.2.1, rfl, rfl, Lib.hid ⟨HX.out.1, HX.out.2.1⟩, hR2, hb1.trans hb2⟩
        case measure => have := HX.out.2.2.2.2; simp [intOf]; omega
    · have HE := Lib.hid (HL.out.1.done (by omega))
      have t0 : decide (0 < hh) = false := decide_eq_false h0
      have hmk := fun w => build_nat w 0
      have hb1 : Below w.heap.size w (wr.alloc (.cells #[.int .i64 (0 : Int)] 3)) := hB.alloc hB.size _
      have hb1' : Below wr.heap.size wr (wr.alloc (.cells #[.int .i64 (0 : Int)] 3)) := (Below.refl _ _).alloc (Nat.le_refl _) _
      have hR1 := row_below hR hb1' (Nat.le_refl _)
      have hz1 : (wr.alloc (.cells #[.int .i64 (0 : Int)] 3)).cell? ⟨wr.heap.size, 0, none⟩ = some (.int .i64 ((0 : Nat) : Int)) := Has.cell (Has.new _ _) 0
      have hn9 : n ≤ 1000 := by omega
      have hbs := hb1.size
      have HLN := Lib.hid HL.out.1.len
      clear HL hR hb1' h0 hlo hhi
      go_wp2_with ((with_reducible refine app_nat rfl _ _ rfl w.heap.size (.slice p n c) n P rfl hR1 wr.heap.size 0 rfl hz1 hn9 hbs ?_); intro v2 w2 hR2 hb2; obtain ⟨p2, c2, rfl, hc2⟩ := own_slice hR2)
      go_ret
      rw [HE.out] at hR2
      have e : (hts 0 f).length = n + 1 := by rw [← HE.out, List.length_append, HLN.out]; rfl
      exact ⟨_, rfl, ⟨by rw [e]; exact hR2, by rw [e]; omega⟩, hb1.trans hb2⟩
theorem rheights_neg (z : Int) (hz : z < 0) (w : World) : Calls Try.prog 6 #[.int .i64 z] w fun e w' => e = .returned (.slice none 0 0) ∧ Below w.heap.size w w' := by
  have hB := Below.refl w.heap.size w
  have t1 : decide (0 ≤ z) = false := decide_eq_false (by omega)
  have t2 : decide (0 < z) = false := decide_eq_false (by omega)
  have HZ := Lib.hid hz
  clear hz
  go_enter Try.func6, Try.ntmps6
  go_wp2_with fail
  go_loopw [3, 4, 5] (fun v h s wr => v = .slice none 0 0 ∧ h = .int .i64 z ∧ s = .int .i64 1 ∧ Below w.heap.size w wr) (fun _ _ _ _ => 0)
  case atStart => exact ⟨rfl, rfl, rfl, hB⟩
  case round =>
    clear hB
    obtain ⟨rfl, rfl, rfl, hB⟩ := hrel
    go_wp2_with fail
    go_ret
    exact ⟨rfl, hB⟩
set_option maxRecDepth 100000 in
set_option maxHeartbeats 4000000 in
theorem rheights_at (f : Nat) (hf : f ≤ 1099511627776) (w : World) : Calls Try.prog 6 #[.int .i64 (f : Int)] w fun e w' => ∃ v, e = .returned v ∧ NatsAt w w' v (hts 0 f) ∧ Below w.heap.size w w' := by
  have hB := Below.refl w.heap.size w
  have hS := Lo.start f
  have HF : Hid (f = 0 ∨ 0 < f) := Lib.hid (by omega)
  go_enter Try.func6, Try.ntmps6
  go_wp2_with fail
  go_loopw [3, 4, 5] (fun v h s wr => ∃ (n sN : Nat) (hh : Int) (P : List Nat), n ≤ 51 ∧ -2199023255552 ≤ hh ∧ hh ≤ 1099511627776 ∧ s = .int .i64 (sN : Int) ∧ h = .int .i64 hh ∧ Hid (Lo f P n hh sN ∧ sN ≤ 2199023255552 ∧ (hh < 0 → 0 < f)) ∧ wr.ownsRow w.heap.size 3 1 v n (natC P) ∧ Below w.heap.size w wr) (fun _ h _ _ => (intOf h).toNat)
  case atStart => exact ⟨0, 1, (f : Int), [], by omega, by omega, by omega, rfl, rfl, Lib.hid ⟨hS, by omega, by omega⟩, World.ownsRow_nil _ _ _ _, hB⟩
  case round =>
    clear hB hS
    obtain ⟨n, sN, hh, P, hn, hlo, hhi, rfl, rfl, HL, hR, hB⟩ := hrel
    obtain ⟨p, c, rfl, hc⟩ := own_slice hR
    by_cases hneg : hh < 0
    · have HE := Lib.hid (HL.out.1.done (by omega))
      have hf0 := HL.out.2.2 hneg
      have t0 : decide (0 ≤ hh) = false := decide_eq_false (by omega)
      have hmk := fun w => build_nat w 0
      have hb1 : Below w.heap.size w (wr.alloc (.cells #[.int .i64 (0 : Int)] 3)) := hB.alloc hB.size _
      have hb1' : Below wr.heap.size wr (wr.alloc (.cells #[.int .i64 (0 : Int)] 3)) := (Below.refl _ _).alloc (Nat.le_refl _) _
      have hR1 := row_below hR hb1' (Nat.le_refl _)
      have hz1 : (wr.alloc (.cells #[.int .i64 (0 : Int)] 3)).cell? ⟨wr.heap.size, 0, none⟩ = some (.int .i64 ((0 : Nat) : Int)) := Has.cell (Has.new _ _) 0
      have hn9 : n ≤ 1000 := by omega
      have hbs := hb1.size
      have HLN := Lib.hid HL.out.1.len
      clear HL hR hb1' hneg hlo hhi
      go_wp2_with ((with_reducible refine app_nat rfl _ _ rfl w.heap.size (.slice p n c) n P rfl hR1 wr.heap.size 0 rfl hz1 hn9 hbs ?_); intro v2 w2 hR2 hb2; obtain ⟨p2, c2, rfl, hc2⟩ := own_slice hR2)
      go_ret
      rw [HE.out] at hR2
      have e : (hts 0 f).length = n + 1 := by rw [← HE.out, List.length_append, HLN.out]; rfl
      exact ⟨_, rfl, ⟨by rw [e]; exact hR2, by rw [e]; omega⟩, hb1.trans hb2⟩
    · obtain ⟨q, rfl⟩ := Int.eq_ofNat_of_zero_le (by omega : 0 ≤ hh)
      have hmk := fun w => build_nat w (q : Int)
      have hb1 : Below w.heap.size w (wr.alloc (.cells #[.int .i64 (q : Int)] 3)) := hB.alloc hB.size _
      have hb1' : Below wr.heap.size wr (wr.alloc (.cells #[.int .i64 (q : Int)] 3)) := (Below.refl _ _).alloc (Nat.le_refl _) _
      have hR1 := row_below hR hb1' (Nat.le_refl _)
      have hz1 : (wr.alloc (.cells #[.int .i64 (q : Int)] 3)).cell? ⟨wr.heap.size, 0, none⟩ = some (.int .i64 (q : Int)) := Has.cell (Has.new _ _) 0
      have hn9 : n ≤ 1000 := by omega
      have hbs := hb1.size
      by_cases hq0 : q = 0
      · have HE := Lib.hid (by have := HL.out.1; rw [hq0] at this; exact this.zero)
        have tq : ((q : Int) == 0) = true := by simp [hq0]
        have HQ := Lib.hid hq0
        have HLN := Lib.hid HL.out.1.len
        clear HL hR hb1' hneg hlo hhi hq0
        go_wp2_with ((with_reducible refine app_nat rfl _ _ rfl w.heap.size (.slice p n c) n P rfl hR1 wr.heap.size q rfl hz1 hn9 hbs ?_); intro v2 w2 hR2 hb2; obtain ⟨p2, c2, rfl, hc2⟩ := own_slice hR2)
        go_ret
        rw [HQ.out, HE.out] at hR2
        have e : (hts 0 f).length = n + 1 := by rw [← HE.out, List.length_append, HLN.out]; rfl
        exact ⟨_, rfl, ⟨by rw [e]; exact hR2, by rw [e]; omega⟩, hb1.trans hb2⟩
      · have h0 : (0 : Int) < (q : Int) := by omega
        have hsm := HL.out.1.small h0 hf
        obtain ⟨t, ht⟩ : ∃ t, t = if 11 ≤ n + 1 then sN * 2 else sN := ⟨_, rfl⟩
        have hnx := HL.out.1.next h0 ht
        have ht0 : 0 < t := by rw [hnx.step]; exact Nat.pow_pos (by decide)
        rw [Int.toNat_natCast] at hnx
        have hqd : q ≤ 1099511627776 := by omega
        have hqf : q ≤ f := by have := HL.out.1.low; omega
        obtain ⟨dd, hdd⟩ : ∃ dd : Int, dd = (q : Int) - (t : Int) := ⟨_, rfl⟩
        rw [← hdd] at hnx
        have hs1 : IntKind.i64.wrap ((q : Int) - (t : Int)) = dd := by
          have : t ≤ 2199023255552 := by rw [ht]; split <;> omega
          rw [IntKind.wrap_i64]; omega
        have tq : ((q : Int) == 0) = false := by simp; omega
        have HX : Hid (Lo f (P ++ [q]) (n + 1) dd t ∧ t ≤ 2199023255552 ∧ -2199023255552 ≤ dd ∧ dd ≤ 1099511627776 ∧ dd < (q : Int) ∧ 0 < f ∧ 0 < q) := Lib.hid ⟨hnx, by rw [ht]; split <;> omega, by have : t ≤ 2199023255552 := (by rw [ht]; split <;> omega); omega, by omega, by omega, by omega, by omega⟩
        have HS := Lib.hid hsm
        clear hsm hnx ht0 HL hR hb1' hdd hlo hhi hqd hqf hneg hq0 h0
        by_cases h11 : 10 ≤ n
        · have tw : IntKind.i64.wrap ((sN : Int) * 2) = (t : Int) := by
            have := HX.out.2.1
            rw [ht, if_pos (by omega)] at this ⊢
            rw [IntKind.wrap_i64]; omega
          have t3 : decide ((11 : Int) ≤ (n : Int) + 1) = true := decide_eq_true (by omega)
          clear ht
          go_wp2_with ((with_reducible refine app_nat rfl _ _ rfl w.heap.size (.slice p n c) n P rfl hR1 wr.heap.size q rfl hz1 hn9 hbs ?_); intro v2 w2 hR2 hb2; obtain ⟨p2, c2, rfl, hc2⟩ := own_slice hR2)
          go_roundw
          case rel => exact ⟨n + 1, t, dd, P ++ [q], by have := HS.out.1; omega, HX.out.2.2.1, HX.out.2.2.2.1, rfl, rfl, Lib.hid ⟨HX.out.1, HX.out.2.1, fun _ => HX.out.2.2.2.2.2.1⟩, hR2, hb1.trans hb2⟩
          case measure => have := HX.out.2.2.2.2.1; have := HX.out.2.2.2.2.2.2; simp [intOf]; omega
        · obtain rfl : t = sN := by rw [ht, if_neg (by omega)]
          have t3 : decide ((11 : Int) ≤ (n : Int) + 1) = false := decide_eq_false (by omega)
          clear ht
          go_wp2_with ((with_reducible refine app_nat rfl _ _ rfl w.heap.size (.slice p n c) n P rfl hR1 wr.heap.size q rfl hz1 hn9 hbs ?_); intro v2 w2 hR2 hb2; obtain ⟨p2, c2, rfl, hc2⟩ := own_slice hR2)
          go_roundw
          case rel => exact ⟨n + 1, t, dd, P ++ [q], by have := HS.out.1; omega, HX.out.2.2.1, HX.out.2.2.2.1, rfl, rfl, Lib.hid ⟨HX.out.1, HX.out.2.1, fun _ => HX.out.2.2.2.2.2.1⟩, hR2, hb1.trans hb2⟩
          case measure => have := HX.out.2.2.2.2.1; have := HX.out.2.2.2.2.2.2; simp [intOf]; omega
end Go.Proofs.Ytfpolfokebklhaa.An
