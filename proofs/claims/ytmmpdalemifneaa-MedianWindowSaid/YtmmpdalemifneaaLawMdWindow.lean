/-
  MedianWindow: the walk.
-/
import Derived.Test.YtmmpdalemifneaaLawMdOne
namespace Go.Proofs.Ytmmpdalemifneaa
open Go.RowKit Mem Md
variable {lo hi : Nat}
set_option maxRecDepth 100000 in
set_option maxHeartbeats 1000000 in
theorem window_out (c : Int) (p : Option Addr) (n cap : Nat) (h : 60 < n ∨ (n ≤ 60 ∧ c < 0) ∨ (n ≤ 60 ∧ 0 ≤ c ∧ (n : Int) < c)) (w : World) :
    Calls Try.prog 5 #[.slice p n cap, .int .i64 c] w fun r w' => r = .returned (.bool true) ∧ Below w.heap.size w w' := by
  rcases h with h | ⟨h, h2⟩ | ⟨h, h2, h3⟩
  · have hd : decide ((60 : Int) < (n : Int)) = true := decide_eq_true (by omega)
    clear h
    go_enter Try.func5, Try.ntmps5
    go_wp2_with fail
    refine (alive9 w).mono ?_
    rintro r w1 ⟨rfl, hB⟩
    go_wp2_with fail
    go_ret
    exact ⟨rfl, hB⟩
  · have hd : decide ((60 : Int) < (n : Int)) = false := decide_eq_false (by omega)
    have h3 : decide (c < 0) = true := decide_eq_true h2
    clear h h2
    go_enter Try.func5, Try.ntmps5
    go_wp2_with fail
    refine (alive9 w).mono ?_
    rintro r w1 ⟨rfl, hB⟩
    go_wp2_with fail
    go_ret
    exact ⟨rfl, hB⟩
  · have hd : decide ((60 : Int) < (n : Int)) = false := decide_eq_false (by omega)
    have h4 : decide (c < 0) = false := decide_eq_false (by omega)
    have h5 : decide ((n : Int) < c) = true := decide_eq_true h3
    clear h h2 h3
    go_enter Try.func5, Try.ntmps5
    go_wp2_with fail
    refine (alive9 w).mono ?_
    rintro r w1 ⟨rfl, hB⟩
    go_wp2_with fail
    go_ret
    exact ⟨rfl, hB⟩
set_option maxRecDepth 100000 in
set_option maxHeartbeats 4000000 in
theorem window_in (k : Nat) (p : Option Addr) (n cap : Nat) (l : List Int) (hl : l.length = n) (hc : n ≤ cap) (h60 : n ≤ 60) (hk : k ≤ n) (w : World) (h : Lie w lo hi p l) (hh : hi ≤ w.heap.size) :
    Calls Try.prog 5 #[.slice p n cap, .int .i64 (k : Int)] w fun r w' => r = .returned (.bool true) ∧ Below w.heap.size w w' := by
  have hd : decide ((60 : Int) < (n : Int)) = false := decide_eq_false (by omega)
  have hd2 : decide ((k : Int) < 0) = false := decide_eq_false (by omega)
  have hd3 : ¬ n < k := by omega
  obtain ⟨p1, hcut1, hL1⟩ := cut_take hl hk hc h
  obtain ⟨p2, hcut2, hL2⟩ := cut_drop hl hk hc h
  obtain ⟨H, hH⟩ : ∃ H, H = l.reverse := ⟨_, rfl⟩
  obtain ⟨s, hs⟩ : ∃ s, s = min n 11 := ⟨_, rfl⟩
  have hHl : H.length = n := by rw [hH]; simp [hl]
  have K0 := Lib.hid (fun w' g hb h1 h2 h3 => push_at g n cap lo hi p l [] hl hc (by omega) w' (h.below (w' := w') hb hh) h1 h2 h3)
  have K1 := Lib.hid (fun w' g hb h1 h2 h3 => push_at g k cap lo hi p1 (l.take k) [] (by simp; omega) (by omega) (by omega) w' (hL1.below (w' := w') hb hh) h1 h2 h3)
  have K2 := Lib.hid (fun w' g hb h1 h2 h3 => push_at g (n - k) (cap - k) lo hi p2 (l.drop k) (l.take k).reverse (by simp; omega) (by omega) (by omega) w' (hL2.below (w' := w') hb hh) h1 h2 h3)
  have KL := Lib.hid (fun w' hb h1 => ref_last p n cap l hl (by omega) w' (h.below (w' := w') hb hh) h1)
  rw [List.append_nil, ← hH] at K0
  rw [List.append_nil] at K1
  rw [← List.reverse_append, List.take_append_drop, ← hH] at K2
  rw [show last l = H.take 11 by rw [hH]; rfl, ← hs] at KL
  have KT := Lib.hid (fun w' g hW => times_at g H w' hW)
  rw [hHl, ← hs] at KT
  have HT : Hid ((H.take 11).length = s) := Lib.hid (by rw [hs]; simp; omega)
  have hs11 : s ≤ 11 := by omega
  obtain ⟨m, hm⟩ : ∃ m, m = mid H := ⟨_, rfl⟩
  have KM := Lib.hid (fun w' g hW => mid_at g H w' hW)
  rw [← hm] at KM
  have KR := Lib.hid (fun w' p' c' lo' hi' (h1 : s ≤ c') h2 h3 => ref_of (lo := lo') (hi := hi') p' s c' (H.take 11) HT.out h1 (by omega) w' h2 h3)
  rw [mid_take, ← hm] at KR
  generalize (l.take k).reverse = H1 at *
  clear hm hHl hs hH hL1 hL2 h hl
  go_enter Try.func5, Try.ntmps5
  go_wp2_with fail
  refine (alive9 w).mono ?_
  rintro r w1 ⟨rfl, hB⟩
  go_wp2_with fail
  have hg0 : w.heap.size ≤ w1.heap.size := hB.size
  have hV1 : Has ((w1.alloc (.cells #[.int .i64 0, .int .i64 0, .int .i64 0, .int .i64 0, .int .i64 0, .int .i64 0, .int .i64 0, .int .i64 0, .int .i64 0, .int .i64 0, .int .i64 0, .int .i64 0] 32)).alloc (.cells #[.int .i64 0, .int .i64 0, .int .i64 0, .int .i64 0, .int .i64 0, .int .i64 0, .int .i64 0, .int .i64 0, .int .i64 0, .int .i64 0, .int .i64 0, .int .i64 0] 32)) (w1.heap.size + 1) (winC []) 32 := by
    have := win_new (w1.alloc (.cells #[.int .i64 0, .int .i64 0, .int .i64 0, .int .i64 0, .int .i64 0, .int .i64 0, .int .i64 0, .int .i64 0, .int .i64 0, .int .i64 0, .int .i64 0, .int .i64 0] 32))
    rwa [World.size_alloc] at this
  have hW1 := (win_new w1).alloc (.cells #[.int .i64 0, .int .i64 0, .int .i64 0, .int .i64 0, .int .i64 0, .int .i64 0, .int .i64 0, .int .i64 0, .int .i64 0, .int .i64 0, .int .i64 0, .int .i64 0] 32)
  have hB1 : Below w.heap.size w ((w1.alloc (.cells #[.int .i64 0, .int .i64 0, .int .i64 0, .int .i64 0, .int .i64 0, .int .i64 0, .int .i64 0, .int .i64 0, .int .i64 0, .int .i64 0, .int .i64 0, .int .i64 0] 32)).alloc (.cells #[.int .i64 0, .int .i64 0, .int .i64 0, .int .i64 0, .int .i64 0, .int .i64 0, .int .i64 0, .int .i64 0, .int .i64 0, .int .i64 0, .int .i64 0, .int .i64 0] 32)) := (hB.alloc hB.size _).alloc (by rw [World.size_alloc]; omega) _
  generalize World.alloc (World.alloc w1 _) _ = W1 at *
  generalize hg2 : w1.heap.size + 1 = g2 at *
  generalize w1.heap.size = g at *
  have hgg : w.heap.size ≤ g2 := by omega
  have hne : g ≠ g2 := by omega
  clear hB hg2
  refine (K0.out W1 g hB1 (.inr (by omega)) (Nat.le_trans hh hB1.size) hW1).mono ?_
  rintro r w2 ⟨rfl, hq, hW2⟩
  have hV2 := gb_has hq hV1 (by intro e; cases e; exact hne rfl)
  have hB2 := pushed hB1 hq hg0 hB1.size
  clear hq hW1 hV1 hB1 K0
  go_wp2_with fail
  refine (K1.out w2 g2 hB2 (.inr (by omega)) (Nat.le_trans hh hB2.size) hV2).mono ?_
  rintro r w3 ⟨rfl, hq, hV3⟩
  have hW3 := gb_has hq hW2 (by intro e; cases e; exact hne rfl)
  have hB3 := pushed hB2 hq hgg hB2.size
  clear hq hW2 hV2 hB2 K1
  go_wp2_with fail
  refine (K2.out w3 g2 hB3 (.inr (by omega)) (Nat.le_trans hh hB3.size) hV3).mono ?_
  rintro r w4 ⟨rfl, hq, hV4⟩
  have hW4 := gb_has hq hW3 (by intro e; cases e; exact hne rfl)
  have hB4 := pushed hB3 hq hgg hB3.size
  clear hq hW3 hV3 hB3 K2
  go_wp2_with fail
  refine (KL.out w4 hB4 (Nat.le_trans hh hB4.size)).mono ?_
  rintro r w5 ⟨p5, c5, rfl, hc5, hL5, hb5⟩
  have hW5 := below_has hb5 hW4 hW4.lt
  have hV5 := below_has hb5 hV4 hV4.lt
  have hB5 := hB4.trans (hb5.mono hB4.size)
  clear hb5 hW4 hV4 hB4 KL
  go_wp2_with fail
  refine (KT.out w5 g hW5).mono ?_
  rintro r w6 ⟨p6, c6, rfl, hc6, hL6, hb6⟩
  have hW6 := below_has hb6 hW5 hW5.lt
  have hV6 := below_has hb6 hV5 hV5.lt
  have hL56 := hL5.below hb6 (Nat.le_refl _)
  have hB6 := hB5.trans (hb6.mono hB5.size)
  have hs56 := hb6.size
  clear hb6 hW5 hV5 hL5 hB5
  go_wp2_with fail
  refine (KT.out w6 g2 hV6).mono ?_
  rintro r w7 ⟨p7, c7, rfl, hc7, hL7, hb7⟩
  have hW7 := below_has hb7 hW6 hW6.lt
  have hL57 := hL56.below hb7 hs56
  have hL67 := hL6.below hb7 (Nat.le_refl _)
  have hB7 := hB6.trans (hb7.mono hB6.size)
  have hs67 := hb7.size
  have H5 := Lib.hid hL57
  have H6 := Lib.hid hL67
  have H7 := Lib.hid hL7
  have HW := Lib.hid hW7
  have HB := Lib.hid hB7
  clear hb7 hW6 hV6 hL56 hL6 hB6 hW7 hL57 hL67 hL7 hB7
  go_wp2_with fail
  go_loopw [64] (fun q wr => ∃ i : Nat, i ≤ s ∧ q = .int .i64 i ∧ Below w7.heap.size w7 wr) (fun q _ => s - (intOf q).toNat)
  case atStart => exact ⟨0, by omega, rfl, Below.refl _ _⟩
  case round =>
    obtain ⟨i, hi2, rfl, hb⟩ := hrel
    by_cases hlt : i < s
    · obtain ⟨b5, off5, rfl, _, hq5, hc5'⟩ := H5.out (by rw [HT.out]; omega)
      obtain ⟨b6, off6, rfl, _, hq6, hc6'⟩ := H6.out (by rw [HT.out]; omega)
      obtain ⟨b7, off7, rfl, _, hq7, hc7'⟩ := H7.out (by rw [HT.out]; omega)
      have e5 : wr.cell? ⟨b5, off5 + i, none⟩ = some (.int .i64 ((H.take 11).getD i 0)) := by
        rw [hb.cell (p := ⟨b5, off5 + i, none⟩) (show b5 < _ by omega)]; exact hc5' i (by rw [HT.out]; omega)
      have e6 : wr.cell? ⟨b6, off6 + i, none⟩ = some (.int .i64 ((H.take 11).getD i 0)) := by
        rw [hb.cell (p := ⟨b6, off6 + i, none⟩) (show b6 < _ by omega)]; exact hc6' i (by rw [HT.out]; omega)
      have e7 : wr.cell? ⟨b7, off7 + i, none⟩ = some (.int .i64 ((H.take 11).getD i 0)) := by
        rw [hb.cell (p := ⟨b7, off7 + i, none⟩) (show b7 < _ by omega)]; exact hc7' i (by rw [HT.out]; omega)
      generalize (H.take 11).getD i 0 = x at *
      have HBD := Lib.hid hb.drew
      clear hc5' hc6' hc7' hb
      go_wp2_with fail
      go_region
      go_wp2_with fail
      go_roundw
      case rel => exact ⟨i + 1, by omega, by go_num, HBD.out⟩
      case measure => simp [intOf]; omega
    · obtain rfl : i = s := by omega
      have HBD := Lib.hid hb
      clear hb
      go_wp2_with fail
      refine (push_nil _ 1 1 _).mono ?_
      rintro r w8 ⟨rfl, rfl⟩
      have hb8 : Below w7.heap.size w7 (wr.alloc (.cells #[.int .i64 1] 3)) := HBD.out.alloc HBD.out.size _
      generalize World.alloc wr _ = W8 at *
      go_wp2_with fail
      refine (KM.out W8 g (below_has hb8 HW.out HW.out.lt)).mono ?_
      rintro r w9 ⟨rfl, hb9⟩
      replace hb9 := hb8.trans (hb9.mono hb8.size)
      clear hb8
      go_wp2_with fail
      refine (KR.out w9 p5 c5 _ _ hc5 (H5.out.below hb9 (by omega)) (by have := hb9.size; omega)).mono ?_
      rintro r w10 ⟨rfl, hb10⟩
      replace hb10 := hb9.trans (hb10.mono hb9.size)
      clear hb9
      go_wp2_with fail
      refine (mid_none _).mono ?_
      rintro r w11 ⟨rfl, hb11⟩
      replace hb11 := hb10.trans (hb11.mono hb10.size)
      clear hb10
      go_wp2_with fail
      refine (times_nil _).mono ?_
      rintro r w12 ⟨rfl, rfl⟩
      go_wp2_with fail
      go_ret
      exact ⟨rfl, HB.out.trans (hb11.mono HB.out.size)⟩
theorem law_window (c : Int) (_b : -9223372036854775808 ≤ c ∧ c ≤ 9223372036854775807) (p : Option Addr) (n cap : Nat) (l : List Int) (hl : l.length = n) (hc : n ≤ cap) (w : World) (h : Lie w lo hi p l) (hh : hi ≤ w.heap.size) :
    Calls Try.prog 5 #[.slice p n cap, .int .i64 c] w fun r w' => r = .returned (.bool true) ∧ Below w.heap.size w w' := by
  by_cases h1 : 60 < n ∨ (n ≤ 60 ∧ c < 0) ∨ (n ≤ 60 ∧ 0 ≤ c ∧ (n : Int) < c)
  · exact window_out c p n cap h1 w
  · obtain ⟨k, rfl⟩ : ∃ k : Nat, c = k := ⟨c.toNat, by omega⟩
    exact window_in k p n cap l hl hc (by omega) (by omega) w h hh
end Go.Proofs.Ytmmpdalemifneaa
