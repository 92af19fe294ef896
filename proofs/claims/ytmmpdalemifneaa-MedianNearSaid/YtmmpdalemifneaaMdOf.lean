/-
  median.Of: its contract.
-/
import Derived.Test.YtmmpdalemifneaaMdMem
namespace Go.Proofs.Ytmmpdalemifneaa
open Go.RowKit Mem Md
variable {lo hi : Nat} {p : Option Addr}
set_option maxRecDepth 100000 in
set_option maxHeartbeats 1000000 in
theorem of_none (p : Option Addr) (cap : Nat) (w : World) : Calls Try.prog 11 #[.slice p 0 cap] w fun r w' => r = .returned (.int .i64 0) ∧ Below w.heap.size w w' := by
  go_enter Try.func11, Try.ntmps11
  go_wp2_with fail
  go_ret
  exact ⟨rfl, Below.refl _ _⟩
theorem take_min {l : List Int} {k : Nat} (hk : k = min l.length 11) : l.take k = l.take 11 := by
  subst hk
  by_cases h : l.length ≤ 11
  · rw [Nat.min_eq_left h, List.take_length, List.take_of_length_le h]
  · rw [Nat.min_eq_right (by omega)]
/-- what Sort leaves of a slice that is the call's own -/
theorem sorted_cell {w : World} {g n : Nat} {os : Array Obj} {l : List Int} (hH : Sort.Holds (Value.int .i64) w g 0 l.toArray) (hg : g < w.heap.size) (m : Nat) (hm : m < l.length) :
    (Sort.grow (Sort.putRow (Value.int .i64) (Sort.ahead w n) g 0 (l.mergeSort fun x y => decide (x ≤ y)).toArray) os).cell? ⟨g, m, none⟩ = some (.int .i64 ((srt l).getD m 0)) := by
  have h2 := Sort.holds_grow (Value.int .i64) _ os g 0 (l.mergeSort fun x y => decide (x ≤ y)).toArray (by simpa [Sort.putRow, Sort.mapBlock, Sort.ahead] using hg)
    (Sort.holds_putRow (Value.int .i64) _ g 0 _ _ (Sort.holds_ahead (Value.int .i64) w n g 0 _ hH) (by simp))
  have h3 := (h2 m (by simpa using hm)).1
  rw [Nat.zero_add] at h3
  rw [h3]
  simp [srt, List.getD_eq_getElem?_getD, hm]
theorem sorted_below {w : World} {g n : Nat} {os : Array Obj} (d : Array Int) (B : Nat) (hB : B ≤ g) (hs : B ≤ w.heap.size) : Below B w (Sort.grow (Sort.putRow (Value.int .i64) (Sort.ahead w n) g 0 d) os) :=
  gb_toBelow (grownBy_sortedI d) hB hs
set_option maxRecDepth 100000 in
set_option maxHeartbeats 1000000 in
theorem of_some (p : Option Addr) (n cap : Nat) (l : List Int) (hl : l.length = n) (hc : n ≤ cap) (h0 : 0 < n) (hmax : n < 9223372036854775808) (w : World) (h : Lie w lo hi p l) :
    Calls Try.prog 11 #[.slice p n cap] w fun r w' => r = .returned (.int .i64 (mid l)) ∧ Below w.heap.size w w' := by
  obtain ⟨k, hk⟩ : ∃ k, k = min n 11 := ⟨_, rfl⟩
  have hmin := min_is (P := Try.prog) (n : Int) 11 (k : Int) (by omega)
  obtain ⟨p', hcut, hL⟩ := cut_take hl (by omega : k ≤ n) hc h
  have hlen : (l.take k).length = k := by simp; omega
  obtain ⟨b, off, rfl, _, _, hcell⟩ := hL (by omega)
  have e11 : l.take k = l.take 11 := take_min (by omega)
  have KC := Lib.hid (fun w' hcl => Try.slices_Clone_int b off k cap (l.take k) w' (by omega) (by omega) hcl)
  rw [show (l.take k).take k = l.take k by rw [List.take_take, Nat.min_self]] at KC
  obtain ⟨m, hm⟩ : ∃ m, m = k / 2 := ⟨_, rfl⟩
  obtain ⟨x, hx⟩ : ∃ x, x = mid l := ⟨_, rfl⟩
  have HX : Hid ((srt (l.take k)).getD m 0 = x) := Lib.hid (by rw [hx, hm]; unfold mid; rw [← e11, hlen])
  have hm1 : m < k := by omega
  have f1 : (k : Int).tdiv 2 = (m : Int) := by rw [Int.tdiv_eq_ediv_of_nonneg (by omega)]; omega
  have f2 : (k : Int) / 2 = (m : Int) := by omega
  have HC := Lib.hid hcell
  have d0 : ((n : Int) == 0) = false := by simp; omega
  have HK := Lib.hid hk
  have hk11 : k ≤ 11 := by omega
  rw [← hx]
  generalize l.take k = L at *
  clear hcell hx hk hm h hL e11 hc hl
  go_enter Try.func11, Try.ntmps11
  go_wp2_with fail
  refine (KC.out _ HC.out).mono ?_
  rintro r w1 ⟨v1, rfl, hown, hnn, hbel⟩
  obtain ⟨g, cap1, rfl, hbg, hgl, hncap, hcm, hlen1, hH⟩ := Lib.holds_of_ownsRow hown hnn
  have KS := Lib.hid (Try.slices_Sort_int g 0 cap1 L w1 hH hgl (by omega))
  rw [hlen] at KS
  have HH := Lib.hid hH
  have HB := Lib.hid hbel
  have HG := Lib.hid hbg
  have HG2 := Lib.hid hgl
  clear hown hnn hH hbel hbg hgl hcm KC HC
  go_wp2_with fail
  refine KS.out.mono ?_
  rintro r w2 ⟨rfl, nn, os, hw2⟩
  have hcl : w2.cell? ⟨g, m, none⟩ = some (.int .i64 x) := by
    rw [hw2, ← HX.out]; exact sorted_cell HH.out HG2.out m (by omega)
  have HB2 : Hid (Below w.heap.size w w2) := Lib.hid (by
    rw [hw2]; exact HB.out.trans (sorted_below _ _ HG.out HB.out.size))
  clear KS hw2 HH HB HX
  go_wp2_with fail
  go_ret
  exact ⟨rfl, HB2.out⟩
theorem of_at (p : Option Addr) (n cap : Nat) (l : List Int) (hl : l.length = n) (hc : n ≤ cap) (hmax : n < 9223372036854775808) (w : World) (h : Lie w lo hi p l) :
    Calls Try.prog 11 #[.slice p n cap] w fun r w' => r = .returned (.int .i64 (mid l)) ∧ Below w.heap.size w w' := by
  by_cases h0 : 0 < n
  · exact of_some p n cap l hl hc h0 hmax w h
  · obtain rfl : n = 0 := by omega
    obtain rfl := List.eq_nil_of_length_eq_zero hl
    rw [mid_nil]
    exact of_none p cap w
end Go.Proofs.Ytmmpdalemifneaa
