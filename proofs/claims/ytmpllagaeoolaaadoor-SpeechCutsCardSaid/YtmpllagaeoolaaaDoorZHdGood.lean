/-
  header: Good, hasRoom; the reference's Good.
-/
import Derived.Test.YtmpllagaeoolaaaDoorZHdMem
namespace Go.Proofs.YtmpllagaeoolaaaDoor
open Go.RowKit Mem Sc
theorem room_yes (n : Int) (h0 : 0 ≤ n) (h1 : n ≤ 4294967295) (w : World) : Calls Tryd.prog 71 #[.int .i64 n] w fun e w' => e = .returned (.bool true) ∧ w = w' := by
  have t0 : decide (0 ≤ n) = true := decide_eq_true h0
  have t1 : decide (n ≤ 4294967295) = true := decide_eq_true h1
  clear h0 h1
  go_enter Tryd.func71, Tryd.ntmps71
  go_wp2_with fail
  go_ret
  exact ⟨rfl, rfl⟩
theorem room_no (n : Int) (h : ¬ (0 ≤ n ∧ n ≤ 4294967295)) (w : World) : Calls Tryd.prog 71 #[.int .i64 n] w fun e w' => e = .returned (.bool false) ∧ w = w' := by
  by_cases h0 : 0 ≤ n
  · have t0 : decide (0 ≤ n) = true := decide_eq_true h0
    have t1 : decide (n ≤ 4294967295) = false := decide_eq_false (fun h1 => h ⟨h0, h1⟩)
    clear h h0
    go_enter Tryd.func71, Tryd.ntmps71
    go_wp2_with fail
    go_ret
    exact ⟨rfl, rfl⟩
  · have t0 : decide (0 ≤ n) = false := decide_eq_false h0
    clear h h0
    go_enter Tryd.func71, Tryd.ntmps71
    go_wp2_with fail
    go_ret
    exact ⟨rfl, rfl⟩
set_option maxHeartbeats 400000 in
theorem good_0 (h : Hd) (ho : h.ok) (a1 : ¬ -2147483648 ≤ h.v) (w : World) : Calls Tryd.prog 51 #[.agg (hdA h)] w fun e w' => e = .returned (.bool false) ∧ Below w.heap.size w w' := by
  have t1 : decide ((-2147483648 : Int) ≤ h.v) = false := decide_eq_false a1
  have hH := hd_new w h
  have hB : Below w.heap.size w (w.alloc (.cells (hdA h) 48)) := (Below.refl _ _).alloc (Nat.le_refl _) _
  have c0 := hH.v
  obtain ⟨v, p, q, t, b, n⟩ := h
  simp only at *
  clear a1 hH ho
  go_enter Tryd.func51, Tryd.ntmps51
  go_wp2_with fail
  go_ret
  exact ⟨rfl, hB⟩
set_option maxHeartbeats 400000 in
theorem good_1 (h : Hd) (ho : h.ok) (a1 : -2147483648 ≤ h.v) (a2 : ¬ h.v ≤ 2147483647) (w : World) : Calls Tryd.prog 51 #[.agg (hdA h)] w fun e w' => e = .returned (.bool false) ∧ Below w.heap.size w w' := by
  have t1 : decide ((-2147483648 : Int) ≤ h.v) = true := decide_eq_true a1
  have t2 : decide (h.v ≤ 2147483647) = false := decide_eq_false a2
  have hH := hd_new w h
  have hB : Below w.heap.size w (w.alloc (.cells (hdA h) 48)) := (Below.refl _ _).alloc (Nat.le_refl _) _
  have c0 := hH.v
  obtain ⟨v, p, q, t, b, n⟩ := h
  simp only at *
  clear a1 a2 hH ho
  go_enter Tryd.func51, Tryd.ntmps51
  go_wp2_with fail
  go_ret
  exact ⟨rfl, hB⟩
set_option maxHeartbeats 400000 in
theorem good_2 (h : Hd) (ho : h.ok) (a1 : -2147483648 ≤ h.v) (a2 : h.v ≤ 2147483647) (b0 : ¬ (0 ≤ h.time ∧ h.time ≤ 4294967295)) (w : World) : Calls Tryd.prog 51 #[.agg (hdA h)] w fun e w' => e = .returned (.bool false) ∧ Below w.heap.size w w' := by
  have t1 : decide ((-2147483648 : Int) ≤ h.v) = true := decide_eq_true a1
  have t2 : decide (h.v ≤ 2147483647) = true := decide_eq_true a2
  have C0 := Lib.hid (room_no h.time b0)
  have hH := hd_new w h
  have hB : Below w.heap.size w (w.alloc (.cells (hdA h) 48)) := (Below.refl _ _).alloc (Nat.le_refl _) _
  have c0 := hH.v
  have c1 := hH.time ho
  obtain ⟨v, p, q, t, b, n⟩ := h
  simp only at *
  clear a1 a2 b0 hH ho
  go_enter Tryd.func51, Tryd.ntmps51
  go_wp2_with fail
  refine (C0.out _).mono ?_
  rintro e w2 ⟨rfl, rfl⟩
  go_wp2_with fail
  go_ret
  exact ⟨rfl, hB⟩
set_option maxHeartbeats 400000 in
theorem good_3 (h : Hd) (ho : h.ok) (a1 : -2147483648 ≤ h.v) (a2 : h.v ≤ 2147483647) (b0 : 0 ≤ h.time ∧ h.time ≤ 4294967295) (b1 : ¬ (0 ≤ h.bits ∧ h.bits ≤ 4294967295)) (w : World) : Calls Tryd.prog 51 #[.agg (hdA h)] w fun e w' => e = .returned (.bool false) ∧ Below w.heap.size w w' := by
  have t1 : decide ((-2147483648 : Int) ≤ h.v) = true := decide_eq_true a1
  have t2 : decide (h.v ≤ 2147483647) = true := decide_eq_true a2
  have C0 := Lib.hid (room_yes h.time b0.1 b0.2)
  have C1 := Lib.hid (room_no h.bits b1)
  have hH := hd_new w h
  have hB : Below w.heap.size w (w.alloc (.cells (hdA h) 48)) := (Below.refl _ _).alloc (Nat.le_refl _) _
  have c0 := hH.v
  have c1 := hH.time ho
  have c2 := hH.bits ho
  obtain ⟨v, p, q, t, b, n⟩ := h
  simp only at *
  clear a1 a2 b0 b1 hH ho
  go_enter Tryd.func51, Tryd.ntmps51
  go_wp2_with fail
  refine (C0.out _).mono ?_
  rintro e w2 ⟨rfl, rfl⟩
  go_wp2_with fail
  refine (C1.out _).mono ?_
  rintro e w3 ⟨rfl, rfl⟩
  go_wp2_with fail
  go_ret
  exact ⟨rfl, hB⟩
set_option maxHeartbeats 400000 in
theorem good_4 (h : Hd) (ho : h.ok) (a1 : -2147483648 ≤ h.v) (a2 : h.v ≤ 2147483647) (b0 : 0 ≤ h.time ∧ h.time ≤ 4294967295) (b1 : 0 ≤ h.bits ∧ h.bits ≤ 4294967295) (b2 : ¬ (0 ≤ h.nonce ∧ h.nonce ≤ 4294967295)) (w : World) : Calls Tryd.prog 51 #[.agg (hdA h)] w fun e w' => e = .returned (.bool false) ∧ Below w.heap.size w w' := by
  have t1 : decide ((-2147483648 : Int) ≤ h.v) = true := decide_eq_true a1
  have t2 : decide (h.v ≤ 2147483647) = true := decide_eq_true a2
  have C0 := Lib.hid (room_yes h.time b0.1 b0.2)
  have C1 := Lib.hid (room_yes h.bits b1.1 b1.2)
  have C2 := Lib.hid (room_no h.nonce b2)
  have hH := hd_new w h
  have hB : Below w.heap.size w (w.alloc (.cells (hdA h) 48)) := (Below.refl _ _).alloc (Nat.le_refl _) _
  have c0 := hH.v
  have c1 := hH.time ho
  have c2 := hH.bits ho
  have c3 := hH.nonce ho
  obtain ⟨v, p, q, t, b, n⟩ := h
  simp only at *
  clear a1 a2 b0 b1 b2 hH ho
  go_enter Tryd.func51, Tryd.ntmps51
  go_wp2_with fail
  refine (C0.out _).mono ?_
  rintro e w2 ⟨rfl, rfl⟩
  go_wp2_with fail
  refine (C1.out _).mono ?_
  rintro e w3 ⟨rfl, rfl⟩
  go_wp2_with fail
  refine (C2.out _).mono ?_
  rintro e w4 ⟨rfl, rfl⟩
  go_wp2_with fail
  go_ret
  exact ⟨rfl, hB⟩
set_option maxHeartbeats 400000 in
theorem good_5 (h : Hd) (ho : h.ok) (a1 : -2147483648 ≤ h.v) (a2 : h.v ≤ 2147483647) (b0 : 0 ≤ h.time ∧ h.time ≤ 4294967295) (b1 : 0 ≤ h.bits ∧ h.bits ≤ 4294967295) (b2 : 0 ≤ h.nonce ∧ h.nonce ≤ 4294967295) (w : World) : Calls Tryd.prog 51 #[.agg (hdA h)] w fun e w' => e = .returned (.bool true) ∧ Below w.heap.size w w' := by
  have t1 : decide ((-2147483648 : Int) ≤ h.v) = true := decide_eq_true a1
  have t2 : decide (h.v ≤ 2147483647) = true := decide_eq_true a2
  have C0 := Lib.hid (room_yes h.time b0.1 b0.2)
  have C1 := Lib.hid (room_yes h.bits b1.1 b1.2)
  have C2 := Lib.hid (room_yes h.nonce b2.1 b2.2)
  have hH := hd_new w h
  have hB : Below w.heap.size w (w.alloc (.cells (hdA h) 48)) := (Below.refl _ _).alloc (Nat.le_refl _) _
  have c0 := hH.v
  have c1 := hH.time ho
  have c2 := hH.bits ho
  have c3 := hH.nonce ho
  obtain ⟨v, p, q, t, b, n⟩ := h
  simp only at *
  clear a1 a2 b0 b1 b2 hH ho
  go_enter Tryd.func51, Tryd.ntmps51
  go_wp2_with fail
  refine (C0.out _).mono ?_
  rintro e w2 ⟨rfl, rfl⟩
  go_wp2_with fail
  refine (C1.out _).mono ?_
  rintro e w3 ⟨rfl, rfl⟩
  go_wp2_with fail
  refine (C2.out _).mono ?_
  rintro e w4 ⟨rfl, rfl⟩
  go_wp2_with fail
  go_ret
  exact ⟨rfl, hB⟩
/-- Good -/
theorem good_at (h : Hd) (ho : h.ok) (w : World) : Calls Tryd.prog 51 #[.agg (hdA h)] w fun e w' => e = .returned (.bool (decide h.P)) ∧ Below w.heap.size w w' := by
  by_cases hp : h.P
  · rw [decide_eq_true hp]
    obtain ⟨a1, a2, b1, b2, b3, b4, b5, b6⟩ := hp
    exact good_5 h ho a1 a2 ⟨b1, b2⟩ ⟨b3, b4⟩ ⟨b5, b6⟩ w
  · rw [decide_eq_false hp]
    unfold Hd.P at hp
    by_cases a1 : -2147483648 ≤ h.v
    · by_cases a2 : h.v ≤ 2147483647
      · by_cases b0 : 0 ≤ h.time ∧ h.time ≤ 4294967295
        · by_cases b1 : 0 ≤ h.bits ∧ h.bits ≤ 4294967295
          · exact good_4 h ho a1 a2 b0 b1 (fun b2 => hp ⟨a1, a2, b0.1, b0.2, b1.1, b1.2, b2.1, b2.2⟩) w
          · exact good_3 h ho a1 a2 b0 b1 w
        · exact good_2 h ho a1 a2 b0 w
      · exact good_1 h ho a1 a2 w
    · exact good_0 h ho a1 w
set_option maxHeartbeats 400000 in
theorem rgood_0 (h : Hd) (ho : h.ok) (a0 : ¬ (-2147483648 ≤ h.v)) (w : World) : Calls Tryd.prog 23 #[.agg (hdA h)] w fun e w' => e = .returned (.bool false) ∧ Below w.heap.size w w' := by
  have t0 : decide ((-2147483648 : Int) ≤ h.v) = false := decide_eq_false a0
  have hH := hd_new w h
  have hB : Below w.heap.size w (w.alloc (.cells (hdA h) 48)) := (Below.refl _ _).alloc (Nat.le_refl _) _
  have c0 := hH.v
  obtain ⟨v, p, q, t, b, n⟩ := h
  simp only at *
  clear a0 hH ho
  go_enter Tryd.func23, Tryd.ntmps23
  go_wp2_with fail
  go_ret
  exact ⟨rfl, hB⟩
set_option maxHeartbeats 400000 in
theorem rgood_1 (h : Hd) (ho : h.ok) (a0 : -2147483648 ≤ h.v) (a1 : ¬ (h.v ≤ 2147483647)) (w : World) : Calls Tryd.prog 23 #[.agg (hdA h)] w fun e w' => e = .returned (.bool false) ∧ Below w.heap.size w w' := by
  have t0 : decide ((-2147483648 : Int) ≤ h.v) = true := decide_eq_true a0
  have t1 : decide (h.v ≤ 2147483647) = false := decide_eq_false a1
  have hH := hd_new w h
  have hB : Below w.heap.size w (w.alloc (.cells (hdA h) 48)) := (Below.refl _ _).alloc (Nat.le_refl _) _
  have c0 := hH.v
  obtain ⟨v, p, q, t, b, n⟩ := h
  simp only at *
  clear a0 a1 hH ho
  go_enter Tryd.func23, Tryd.ntmps23
  go_wp2_with fail
  go_ret
  exact ⟨rfl, hB⟩
set_option maxHeartbeats 400000 in
theorem rgood_2 (h : Hd) (ho : h.ok) (a0 : -2147483648 ≤ h.v) (a1 : h.v ≤ 2147483647) (a2 : ¬ (0 ≤ h.time)) (w : World) : Calls Tryd.prog 23 #[.agg (hdA h)] w fun e w' => e = .returned (.bool false) ∧ Below w.heap.size w w' := by
  have t0 : decide ((-2147483648 : Int) ≤ h.v) = true := decide_eq_true a0
  have t1 : decide (h.v ≤ 2147483647) = true := decide_eq_true a1
  have t2 : decide (0 ≤ h.time) = false := decide_eq_false a2
  have hH := hd_new w h
  have hB : Below w.heap.size w (w.alloc (.cells (hdA h) 48)) := (Below.refl _ _).alloc (Nat.le_refl _) _
  have c0 := hH.v
  have c1 := hH.time ho
  obtain ⟨v, p, q, t, b, n⟩ := h
  simp only at *
  clear a0 a1 a2 hH ho
  go_enter Tryd.func23, Tryd.ntmps23
  go_wp2_with fail
  go_ret
  exact ⟨rfl, hB⟩
set_option maxHeartbeats 400000 in
theorem rgood_3 (h : Hd) (ho : h.ok) (a0 : -2147483648 ≤ h.v) (a1 : h.v ≤ 2147483647) (a2 : 0 ≤ h.time) (a3 : ¬ (h.time < 4294967296)) (w : World) : Calls Tryd.prog 23 #[.agg (hdA h)] w fun e w' => e = .returned (.bool false) ∧ Below w.heap.size w w' := by
  have t0 : decide ((-2147483648 : Int) ≤ h.v) = true := decide_eq_true a0
  have t1 : decide (h.v ≤ 2147483647) = true := decide_eq_true a1
  have t2 : decide (0 ≤ h.time) = true := decide_eq_true a2
  have t3 : decide (h.time < 4294967296) = false := decide_eq_false a3
  have hH := hd_new w h
  have hB : Below w.heap.size w (w.alloc (.cells (hdA h) 48)) := (Below.refl _ _).alloc (Nat.le_refl _) _
  have c0 := hH.v
  have c1 := hH.time ho
  obtain ⟨v, p, q, t, b, n⟩ := h
  simp only at *
  clear a0 a1 a2 a3 hH ho
  go_enter Tryd.func23, Tryd.ntmps23
  go_wp2_with fail
  go_ret
  exact ⟨rfl, hB⟩
set_option maxHeartbeats 400000 in
theorem rgood_4 (h : Hd) (ho : h.ok) (a0 : -2147483648 ≤ h.v) (a1 : h.v ≤ 2147483647) (a2 : 0 ≤ h.time) (a3 : h.time < 4294967296) (a4 : ¬ (0 ≤ h.bits)) (w : World) : Calls Tryd.prog 23 #[.agg (hdA h)] w fun e w' => e = .returned (.bool false) ∧ Below w.heap.size w w' := by
  have t0 : decide ((-2147483648 : Int) ≤ h.v) = true := decide_eq_true a0
  have t1 : decide (h.v ≤ 2147483647) = true := decide_eq_true a1
  have t2 : decide (0 ≤ h.time) = true := decide_eq_true a2
  have t3 : decide (h.time < 4294967296) = true := decide_eq_true a3
  have t4 : decide (0 ≤ h.bits) = false := decide_eq_false a4
  have hH := hd_new w h
  have hB : Below w.heap.size w (w.alloc (.cells (hdA h) 48)) := (Below.refl _ _).alloc (Nat.le_refl _) _
  have c0 := hH.v
  have c1 := hH.time ho
  have c2 := hH.bits ho
  obtain ⟨v, p, q, t, b, n⟩ := h
  simp only at *
  clear a0 a1 a2 a3 a4 hH ho
  go_enter Tryd.func23, Tryd.ntmps23
  go_wp2_with fail
  go_ret
  exact ⟨rfl, hB⟩
set_option maxHeartbeats 400000 in
theorem rgood_5 (h : Hd) (ho : h.ok) (a0 : -2147483648 ≤ h.v) (a1 : h.v ≤ 2147483647) (a2 : 0 ≤ h.time) (a3 : h.time < 4294967296) (a4 : 0 ≤ h.bits) (a5 : ¬ (h.bits < 4294967296)) (w : World) : Calls Tryd.prog 23 #[.agg (hdA h)] w fun e w' => e = .returned (.bool false) ∧ Below w.heap.size w w' := by
  have t0 : decide ((-2147483648 : Int) ≤ h.v) = true := decide_eq_true a0
  have t1 : decide (h.v ≤ 2147483647) = true := decide_eq_true a1
  have t2 : decide (0 ≤ h.time) = true := decide_eq_true a2
  have t3 : decide (h.time < 4294967296) = true := decide_eq_true a3
  have t4 : decide (0 ≤ h.bits) = true := decide_eq_true a4
  have t5 : decide (h.bits < 4294967296) = false := decide_eq_false a5
  have hH := hd_new w h
  have hB : Below w.heap.size w (w.alloc (.cells (hdA h) 48)) := (Below.refl _ _).alloc (Nat.le_refl _) _
  have c0 := hH.v
  have c1 := hH.time ho
  have c2 := hH.bits ho
  obtain ⟨v, p, q, t, b, n⟩ := h
  simp only at *
  clear a0 a1 a2 a3 a4 a5 hH ho
  go_enter Tryd.func23, Tryd.ntmps23
  go_wp2_with fail
  go_ret
  exact ⟨rfl, hB⟩
set_option maxHeartbeats 400000 in
theorem rgood_6 (h : Hd) (ho : h.ok) (a0 : -2147483648 ≤ h.v) (a1 : h.v ≤ 2147483647) (a2 : 0 ≤ h.time) (a3 : h.time < 4294967296) (a4 : 0 ≤ h.bits) (a5 : h.bits < 4294967296) (a6 : ¬ (0 ≤ h.nonce)) (w : World) : Calls Tryd.prog 23 #[.agg (hdA h)] w fun e w' => e = .returned (.bool false) ∧ Below w.heap.size w w' := by
  have t0 : decide ((-2147483648 : Int) ≤ h.v) = true := decide_eq_true a0
  have t1 : decide (h.v ≤ 2147483647) = true := decide_eq_true a1
  have t2 : decide (0 ≤ h.time) = true := decide_eq_true a2
  have t3 : decide (h.time < 4294967296) = true := decide_eq_true a3
  have t4 : decide (0 ≤ h.bits) = true := decide_eq_true a4
  have t5 : decide (h.bits < 4294967296) = true := decide_eq_true a5
  have t6 : decide (0 ≤ h.nonce) = false := decide_eq_false a6
  have hH := hd_new w h
  have hB : Below w.heap.size w (w.alloc (.cells (hdA h) 48)) := (Below.refl _ _).alloc (Nat.le_refl _) _
  have c0 := hH.v
  have c1 := hH.time ho
  have c2 := hH.bits ho
  have c3 := hH.nonce ho
  obtain ⟨v, p, q, t, b, n⟩ := h
  simp only at *
  clear a0 a1 a2 a3 a4 a5 a6 hH ho
  go_enter Tryd.func23, Tryd.ntmps23
  go_wp2_with fail
  go_ret
  exact ⟨rfl, hB⟩
set_option maxHeartbeats 400000 in
theorem rgood_7 (h : Hd) (ho : h.ok) (a0 : -2147483648 ≤ h.v) (a1 : h.v ≤ 2147483647) (a2 : 0 ≤ h.time) (a3 : h.time < 4294967296) (a4 : 0 ≤ h.bits) (a5 : h.bits < 4294967296) (a6 : 0 ≤ h.nonce) (a7 : ¬ (h.nonce < 4294967296)) (w : World) : Calls Tryd.prog 23 #[.agg (hdA h)] w fun e w' => e = .returned (.bool false) ∧ Below w.heap.size w w' := by
  have t0 : decide ((-2147483648 : Int) ≤ h.v) = true := decide_eq_true a0
  have t1 : decide (h.v ≤ 2147483647) = true := decide_eq_true a1
  have t2 : decide (0 ≤ h.time) = true := decide_eq_true a2
  have t3 : decide (h.time < 4294967296) = true := decide_eq_true a3
  have t4 : decide (0 ≤ h.bits) = true := decide_eq_true a4
  have t5 : decide (h.bits < 4294967296) = true := decide_eq_true a5
  have t6 : decide (0 ≤ h.nonce) = true := decide_eq_true a6
  have t7 : decide (h.nonce < 4294967296) = false := decide_eq_false a7
  have hH := hd_new w h
  have hB : Below w.heap.size w (w.alloc (.cells (hdA h) 48)) := (Below.refl _ _).alloc (Nat.le_refl _) _
  have c0 := hH.v
  have c1 := hH.time ho
  have c2 := hH.bits ho
  have c3 := hH.nonce ho
  obtain ⟨v, p, q, t, b, n⟩ := h
  simp only at *
  clear a0 a1 a2 a3 a4 a5 a6 a7 hH ho
  go_enter Tryd.func23, Tryd.ntmps23
  go_wp2_with fail
  go_ret
  exact ⟨rfl, hB⟩
set_option maxHeartbeats 400000 in
theorem rgood_8 (h : Hd) (ho : h.ok) (a0 : -2147483648 ≤ h.v) (a1 : h.v ≤ 2147483647) (a2 : 0 ≤ h.time) (a3 : h.time < 4294967296) (a4 : 0 ≤ h.bits) (a5 : h.bits < 4294967296) (a6 : 0 ≤ h.nonce) (a7 : h.nonce < 4294967296) (w : World) : Calls Tryd.prog 23 #[.agg (hdA h)] w fun e w' => e = .returned (.bool true) ∧ Below w.heap.size w w' := by
  have t0 : decide ((-2147483648 : Int) ≤ h.v) = true := decide_eq_true a0
  have t1 : decide (h.v ≤ 2147483647) = true := decide_eq_true a1
  have t2 : decide (0 ≤ h.time) = true := decide_eq_true a2
  have t3 : decide (h.time < 4294967296) = true := decide_eq_true a3
  have t4 : decide (0 ≤ h.bits) = true := decide_eq_true a4
  have t5 : decide (h.bits < 4294967296) = true := decide_eq_true a5
  have t6 : decide (0 ≤ h.nonce) = true := decide_eq_true a6
  have t7 : decide (h.nonce < 4294967296) = true := decide_eq_true a7
  have hH := hd_new w h
  have hB : Below w.heap.size w (w.alloc (.cells (hdA h) 48)) := (Below.refl _ _).alloc (Nat.le_refl _) _
  have c0 := hH.v
  have c1 := hH.time ho
  have c2 := hH.bits ho
  have c3 := hH.nonce ho
  obtain ⟨v, p, q, t, b, n⟩ := h
  simp only at *
  clear a0 a1 a2 a3 a4 a5 a6 a7 hH ho
  go_enter Tryd.func23, Tryd.ntmps23
  go_wp2_with fail
  go_ret
  exact ⟨rfl, hB⟩
/-- the reference's Good -/
theorem rgood_at (h : Hd) (ho : h.ok) (w : World) : Calls Tryd.prog 23 #[.agg (hdA h)] w fun e w' => e = .returned (.bool (decide h.P)) ∧ Below w.heap.size w w' := by
  by_cases a0 : -2147483648 ≤ h.v
  · skip
    by_cases a1 : h.v ≤ 2147483647
    · skip
      by_cases a2 : 0 ≤ h.time
      · skip
        by_cases a3 : h.time < 4294967296
        · skip
          by_cases a4 : 0 ≤ h.bits
          · skip
            by_cases a5 : h.bits < 4294967296
            · skip
              by_cases a6 : 0 ≤ h.nonce
              · skip
                by_cases a7 : h.nonce < 4294967296
                · skip
                  rw [decide_eq_true (show h.P from ⟨a0, a1, a2, by omega, a4, by omega, a6, by omega⟩)]
                  exact rgood_8 h ho a0 a1 a2 a3 a4 a5 a6 a7 w
                · rw [decide_eq_false (show ¬ h.P from fun hp => by unfold Hd.P at hp; omega)]
                  exact rgood_7 h ho a0 a1 a2 a3 a4 a5 a6 a7 w
              · rw [decide_eq_false (show ¬ h.P from fun hp => by unfold Hd.P at hp; omega)]
                exact rgood_6 h ho a0 a1 a2 a3 a4 a5 a6 w
            · rw [decide_eq_false (show ¬ h.P from fun hp => by unfold Hd.P at hp; omega)]
              exact rgood_5 h ho a0 a1 a2 a3 a4 a5 w
          · rw [decide_eq_false (show ¬ h.P from fun hp => by unfold Hd.P at hp; omega)]
            exact rgood_4 h ho a0 a1 a2 a3 a4 w
        · rw [decide_eq_false (show ¬ h.P from fun hp => by unfold Hd.P at hp; omega)]
          exact rgood_3 h ho a0 a1 a2 a3 w
      · rw [decide_eq_false (show ¬ h.P from fun hp => by unfold Hd.P at hp; omega)]
        exact rgood_2 h ho a0 a1 a2 w
    · rw [decide_eq_false (show ¬ h.P from fun hp => by unfold Hd.P at hp; omega)]
      exact rgood_1 h ho a0 a1 w
  · rw [decide_eq_false (show ¬ h.P from fun hp => by unfold Hd.P at hp; omega)]
    exact rgood_0 h ho a0 w
end Go.Proofs.YtmpllagaeoolaaaDoor
