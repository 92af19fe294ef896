import Derived.Test.YthcebnfdapcllaaGreatDoorRMem
import Derived.Test.YthcebnfdapcllaaGreatDoorRMdMath
import Derived.Test.YthcebnfdapcllaaGreatDoorRBunQ21
import Derived.Sort.OwnSortedInts
import Derived.Lib.OwnBridge
namespace Go.Proofs.YthcebnfdapcllaaGreatDoor.MM
open Go.RowKit Mem Md
theorem max_is {P : Program} (x y m : Int) (h : m = max x y) (ts : Array TypeId) (t : TypeId) (w : World) : (Builtin.max_ ts t #[.int .i64 x, .int .i64 y]).run P w = .ok (.int .i64 m) w := by
  rw [run_max_int2, show (if y > x then y else x) = m by split <;> omega]
theorem min_is {P : Program} (x y m : Int) (h : m = min x y) (ts : Array TypeId) (t : TypeId) (w : World) : (Builtin.min_ ts t #[.int .i64 x, .int .i64 y]).run P w = .ok (.int .i64 m) w := by
  rw [run_min_int2, show (if y < x then y else x) = m by split <;> omega]
def Lie (w : World) (lo hi : Nat) (p : Option Addr) (l : List Int) : Prop :=
  0 < l.length → ∃ b off, p = some ⟨b, off, none⟩ ∧ lo ≤ b ∧ b < hi ∧ ∀ j, j < l.length → w.cell? ⟨b, off + j, none⟩ = some (.int .i64 (l.getD j 0))
variable {w w' : World} {lo hi n cap k r B : Nat} {p : Option Addr} {l : List Int}
theorem Lie.on (h : Lie w lo hi p l) (hs : ∀ k, lo ≤ k → k < hi → w'.heap[k]? = w.heap[k]?) : Lie w' lo hi p l := fun h0 => by
  obtain ⟨b, off, e, h1, h2, hc⟩ := h h0
  exact ⟨b, off, e, h1, h2, fun j hj => (World.cell?_of_block (w := w) (a := ⟨b, off + j, none⟩) (hs b h1 h2)).trans (hc j hj)⟩
theorem Lie.below (h : Lie w lo hi p l) (hb : Below B w w') (hB : hi ≤ B) : Lie w' lo hi p l := h.on fun k _ hk => hb.block k (by omega)
theorem Lie.grown (h : Lie w lo hi p l) (hg : w.grownBy w' (some r)) (hh : hi ≤ w.heap.size) (hr : r < lo ∨ hi ≤ r) : Lie w' lo hi p l := h.on fun k h1 h2 => hg.block k (by omega) (by intro e; cases e; omega)
theorem Lie.wide {lo' hi' : Nat} (h : Lie w lo hi p l) (h1 : lo' ≤ lo) (h2 : hi ≤ hi') : Lie w lo' hi' p l := fun h0 => by
  obtain ⟨b, off, e, h3, h4, hc⟩ := h h0
  exact ⟨b, off, e, by omega, by omega, hc⟩
theorem Lie.none : Lie w lo hi p [] := fun h => by simp at h
theorem add_at (b off j : Nat) : (⟨b, off, none⟩ : Addr).add j = ⟨b, off + j, none⟩ := by unfold Addr.add; by_cases h : j = 0 <;> simp [h]
theorem cut_take (hl : l.length = n) (hk : k ≤ n) (hc : n ≤ cap) (h : Lie w lo hi p l) :
    ∃ p', (∀ w' : World, (Instr.sliceAt 58 (.slice p n cap) none (some (.int .i64 (k : Int))) none).run Tryz.prog w' = .ok (.slice p' k cap) w') ∧ Lie w lo hi p' (l.take k) := by
  refine ⟨if cap = 0 then p else p.map (·.add 0), fun w' => ?_, fun h0 => ?_⟩
  · rw [run_sliceAt_slice w' 58 _ _ _ _ (by kernel_rfl), run_slice_h w' 58 p n cap (by kernel_rfl) .i64 k (by omega) (by omega)]
    rw [show Tryz.prog.elem 58 = 3 by kernel_rfl]
    simp [sliced, Tryz.sizeOf3]
  · have h1 : 0 < k ∧ 0 < n := by simp at h0; omega
    obtain ⟨b, off, rfl, h2, h3, hcl⟩ := h (by omega)
    refine ⟨b, off, by rw [if_neg (by omega)]; simp [add_at], h2, h3, fun j hj => ?_⟩
    rw [hcl j (by simp at hj; omega)]
    congr 2
    simp at hj
    simp [List.getD_eq_getElem?_getD, show j < k by omega]
theorem lie_of_owns {base : Nat} {v : Value} (h : w.ownsRow base 3 1 v n (l.map (Value.int .i64))) : ∃ p cap, v = .slice p n cap ∧ n ≤ cap ∧ l.length = n ∧ Lie w base w.heap.size p l := by
  have hl : l.length = n := by simpa using h.1
  by_cases hv : v = .slice none 0 0
  · subst hv
    rcases h.2 with ⟨_, rfl⟩ | ⟨g, c, cur, e, _⟩
    · exact ⟨none, 0, rfl, Nat.le_refl _, hl, fun h0 => by omega⟩
    · cases e
  · obtain ⟨g, c, rfl, h1, h2, h3, _, h5, hH⟩ := Lib.holds_of_ownsRow h hv
    refine ⟨some ⟨g, 0, none⟩, c, rfl, h3, hl, fun h0 => ⟨g, 0, rfl, h1, h2, fun j hj => ?_⟩⟩
    have := (hH j (by simpa using hj)).1
    rw [this]
    congr 1
    simp [List.getD_eq_getElem?_getD, hj]
end Go.Proofs.YthcebnfdapcllaaGreatDoor.MM
namespace Go.Proofs.YthcebnfdapcllaaGreatDoor.MM
open Go.RowKit Mem Md
variable {lo hi : Nat} {p : Option Addr}
set_option maxRecDepth 100000 in
set_option maxHeartbeats 1000000 in
theorem of_none (p : Option Addr) (cap : Nat) (w : World) : Calls Tryz.prog 30 #[.slice p 0 cap] w fun r w' => r = .returned (.int .i64 0) ∧ Below w.heap.size w w' := by
  go_enter Tryz.func30, Tryz.ntmps30
  go_wp2_with fail
  go_ret
  exact ⟨rfl, Below.refl _ _⟩
theorem take_min {l : List Int} {k : Nat} (hk : k = min l.length 11) : l.take k = l.take 11 := by
  subst hk
  by_cases h : l.length ≤ 11
  · rw [Nat.min_eq_left h, List.take_length, List.take_of_length_le h]
  · rw [Nat.min_eq_right (by omega)]
theorem sorted_cell {w : World} {g n : Nat} {os : Array Obj} {l : List Int} (hH : Sort.Holds (Value.int .i64) w g 0 l.toArray) (hg : g < w.heap.size) (m : Nat) (hm : m < l.length) :
    (Sort.grow (Sort.putRow (Value.int .i64) (Sort.ahead w n) g 0 (l.mergeSort fun x y => decide (x ≤ y)).toArray) os).cell? ⟨g, m, none⟩ = some (.int .i64 ((srt l).getD m 0)) := by
  have h2 := Sort.holds_grow (Value.int .i64) _ os g 0 (l.mergeSort fun x y => decide (x ≤ y)).toArray (by simpa [Sort.putRow, Sort.mapBlock, Sort.ahead] using hg)
    (Sort.holds_putRow (Value.int .i64) _ g 0 _ _ (Sort.holds_ahead (Value.int .i64) w n g 0 _ hH) (by simp))
  have h3 := (h2 m (by simpa using hm)).1
  rw [Nat.zero_add] at h3
  rw [h3]
  simp [srt, List.getD_eq_getElem?_getD, hm]
theorem sorted_below {w : World} {g n : Nat} {os : Array Obj} (d : Array Int) (B : Nat) (hB : B ≤ g) (hs : B ≤ w.heap.size) : Below B w (Sort.grow (Sort.putRow (Value.int .i64) (Sort.ahead w n) g 0 d) os) :=
  gb_toBelow (grownBy_sortedI d) hB hs
set_option maxRecDepth 100000 in
set_option maxHeartbeats 1000000 in
theorem of_some (p : Option Addr) (n cap : Nat) (l : List Int) (hl : l.length = n) (hc : n ≤ cap) (h0 : 0 < n) (hmax : n < 9223372036854775808) (w : World) (h : Lie w lo hi p l) :
    Calls Tryz.prog 30 #[.slice p n cap] w fun r w' => r = .returned (.int .i64 (mid l)) ∧ Below w.heap.size w w' := by
  obtain ⟨k, hk⟩ : ∃ k, k = min n 11 := ⟨_, rfl⟩
  have hmin := min_is (P := Tryz.prog) (n : Int) 11 (k : Int) (by omega)
  obtain ⟨p', hcut, hL⟩ := cut_take hl (by omega : k ≤ n) hc h
  have hlen : (l.take k).length = k := by simp; omega
  obtain ⟨b, off, rfl, _, _, hcell⟩ := hL (by omega)
  have e11 : l.take k = l.take 11 := take_min (by omega)
  have KC := Lib.hid (fun w' hcl => Tryz.slices_Clone_int b off k cap (l.take k) w' (by omega) (by omega) hcl)
  rw [show (l.take k).take k = l.take k by rw [List.take_take, Nat.min_self]] at KC
  obtain ⟨m, hm⟩ : ∃ m, m = k / 2 := ⟨_, rfl⟩
  obtain ⟨x, hx⟩ : ∃ x, x = mid l := ⟨_, rfl⟩
  have HX : Hid ((srt (l.take k)).getD m 0 = x) := Lib.hid (by rw [hx, hm]; unfold mid; rw [← e11, hlen])
  have hm1 : m < k := by omega
  have f1 : (k : Int).tdiv 2 = (m : Int) := by rw [Int.tdiv_eq_ediv_of_nonneg (by omega)]; omega
  have f2 : (k : Int) / 2 = (m : Int) := by omega
  have HC := Lib.hid hcell
  have d0 : ((n : Int) == 0) = false := by simp; omega
  have HK := Lib.hid hk
  have hk11 : k ≤ 11 := by omega
  rw [← hx]
  generalize l.take k = L at *
  clear hcell hx hk hm h hL e11 hc hl
  go_enter Tryz.func30, Tryz.ntmps30
  go_wp2_with fail
  refine (KC.out _ HC.out).mono ?_
  rintro r w1 ⟨v1, rfl, hown, hnn, hbel⟩
  obtain ⟨g, cap1, rfl, hbg, hgl, hncap, hcm, hlen1, hH⟩ := Lib.holds_of_ownsRow hown hnn
  have KS := Lib.hid (Tryz.slices_Sort_int g 0 cap1 L w1 hH hgl (by omega))
  rw [hlen] at KS
  have HH := Lib.hid hH
  have HB := Lib.hid hbel
  have HG := Lib.hid hbg
  have HG2 := Lib.hid hgl
  clear hown hnn hH hbel hbg hgl hcm KC HC
  go_wp2_with fail
  refine KS.out.mono ?_
  rintro r w2 ⟨rfl, nn, os, hw2⟩
  have hcl : w2.cell? ⟨g, m, none⟩ = some (.int .i64 x) := by
    rw [hw2, ← HX.out]; exact sorted_cell HH.out HG2.out m (by omega)
  have HB2 : Hid (Below w.heap.size w w2) := Lib.hid (by
    rw [hw2]; exact HB.out.trans (sorted_below _ _ HG.out HB.out.size))
  clear KS hw2 HH HB HX
  go_wp2_with fail
  go_ret
  exact ⟨rfl, HB2.out⟩
theorem of_at (p : Option Addr) (n cap : Nat) (l : List Int) (hl : l.length = n) (hc : n ≤ cap) (hmax : n < 9223372036854775808) (w : World) (h : Lie w lo hi p l) :
    Calls Tryz.prog 30 #[.slice p n cap] w fun r w' => r = .returned (.int .i64 (mid l)) ∧ Below w.heap.size w w' := by
  by_cases h0 : 0 < n
  · exact of_some p n cap l hl hc h0 hmax w h
  · obtain rfl : n = 0 := by omega
    obtain rfl := List.eq_nil_of_length_eq_zero hl
    rw [mid_nil]
    exact of_none p cap w
end Go.Proofs.YthcebnfdapcllaaGreatDoor.MM
namespace Go.Proofs.YthcebnfdapcllaaGreatDoor.MM
open Go.RowKit Mem Md
def late (t : Int) (l : List Int) : Bool := l.isEmpty || decide (mid l < t)
set_option maxRecDepth 100000 in
set_option maxHeartbeats 1000000 in
theorem late_at (t : Int) (p : Option Addr) (n cap lo hi : Nat) (l : List Int) (hl : l.length = n) (hc : n ≤ cap) (hmax : n < 9223372036854775808) (w : World) (h : Lie w lo hi p l) :
    Calls Tryz.prog 96 #[.int .i64 t, .slice p n cap] w fun r w' => r = .returned (.bool (late t l)) ∧ Below w.heap.size w w' := by
  by_cases h0 : n = 0
  · subst h0
    obtain rfl := List.eq_nil_of_length_eq_zero hl
    have e : late t [] = true := rfl
    rw [e]
    clear e h hmax hl hc
    go_enter Tryz.func96, Tryz.ntmps96
    go_wp2_with fail
    go_ret
    exact ⟨rfl, Below.refl _ _⟩
  · have KO := Lib.hid (of_at p n cap l hl hc hmax w h)
    have e : late t l = decide (mid l < t) := by
      unfold late
      cases l with
      | nil => simp at hl; omega
      | cons a l => rfl
    rw [e]
    have d0 : ((n : Int) == 0) = false := by simp; omega
    generalize mid l = x at *
    clear e h hmax hl hc
    go_enter Tryz.func96, Tryz.ntmps96
    go_wp2_with fail
    refine KO.out.mono ?_
    rintro r w2 ⟨rfl, hB2⟩
    go_wp2_with fail
    go_ret
    exact ⟨rfl, hB2⟩
set_option maxRecDepth 100000 in
set_option maxHeartbeats 1000000 in
theorem near_at (t now future q : Int) (hq : q = IntKind.i64.wrap (t - now)) (w : World) :
    Calls Tryz.prog 97 #[.int .i64 t, .int .i64 now, .int .i64 future] w fun r w' => r = .returned (.bool (decide (0 ≤ future) && decide (q ≤ future))) ∧ w' = w := by
  by_cases h0 : 0 ≤ future
  · have hd : decide (0 ≤ future) = true := decide_eq_true h0
    rw [hd, Bool.true_and]
    have hq2 := hq.symm
    clear hq h0
    go_enter Tryz.func97, Tryz.ntmps97
    go_wp2_with fail
    go_ret
    exact ⟨rfl, rfl⟩
  · have hd : decide (0 ≤ future) = false := decide_eq_false h0
    rw [hd, Bool.false_and]
    clear hq h0
    go_enter Tryz.func97, Tryz.ntmps97
    go_wp2_with fail
    go_ret
    exact ⟨rfl, rfl⟩
end Go.Proofs.YthcebnfdapcllaaGreatDoor.MM
namespace Go.Proofs.YthcebnfdapcllaaGreatDoor.MM
open Go.RowKit Mem Md
theorem less_succ (x : Int) (L : List Int) (j : Nat) (hj : j < L.length) : less x (L.take (j + 1)) = less x (L.take j) + (if L.getD j 0 < x then 1 else 0) := by
  unfold less
  rw [List.take_add_one, List.countP_append]
  simp [List.getD_eq_getElem?_getD, hj, List.countP_cons]
theorem same_succ (x : Int) (L : List Int) (j : Nat) (hj : j < L.length) : same x (L.take (j + 1)) = same x (L.take j) + (if L.getD j 0 = x then 1 else 0) := by
  unfold same
  rw [List.take_add_one, List.countP_append]
  simp [List.getD_eq_getElem?_getD, hj, List.countP_cons]
theorem less_le (x : Int) (L : List Int) : less x L ≤ L.length := List.countP_le_length
theorem same_le (x : Int) (L : List Int) : same x L ≤ L.length := List.countP_le_length
set_option maxRecDepth 100000 in
set_option maxHeartbeats 2000000 in
theorem ref_of {lo hi : Nat} (p : Option Addr) (n cap : Nat) (l : List Int) (hl : l.length = n) (hc : n ≤ cap) (hmax : n < 9223372036854775808) (w : World) (hL : Lie w lo hi p l) (hi2 : hi ≤ w.heap.size) :
    Calls Tryz.prog 20 #[.slice p n cap] w fun r w' => r = .returned (.int .i64 (mid l)) ∧ Below w.heap.size w w' := by
  obtain ⟨k, hk⟩ : ∃ k, k = min n 11 := ⟨_, rfl⟩
  have hmin := min_is (P := Tryz.prog) (n : Int) 11 (k : Int) (by omega)
  have e11 : l.take k = l.take 11 := take_min (by omega)
  obtain ⟨x0, hx0⟩ : ∃ x, x = mid l := ⟨_, rfl⟩
  have HEmpty : Hid (k = 0 → (0 : Int) = x0) := Lib.hid (fun h => by
    obtain rfl : n = 0 := by omega
    obtain rfl := List.eq_nil_of_length_eq_zero hl
    rw [hx0, mid_nil])
  have HRank : Hid (0 < k → rank x0 (l.take k)) := Lib.hid (fun h => by rw [hx0, e11]; exact mid_rank l (by omega))
  have HMem : Hid (0 < k → ∃ i, i < k ∧ (l.take k).getD i 0 = x0) := Lib.hid (fun h => by
    have := mid_mem l (by omega)
    rw [← hx0, ← e11] at this
    obtain ⟨i, hi, e⟩ := List.getElem_of_mem this
    exact ⟨i, by simp at hi; omega, by rw [List.getD_eq_getElem?_getD, List.getElem?_eq_getElem hi]; exact e⟩)
  have HCell : Hid (∀ w', Below w.heap.size w w' → ∀ j, j < k → ∃ b off, p = some ⟨b, off, none⟩ ∧ w'.cell? ⟨b, off + j, none⟩ = some (.int .i64 ((l.take k).getD j 0))) := Lib.hid (fun w' hb j hj => by
    obtain ⟨b, off, e, h1, h2, h3⟩ := hL (by omega)
    refine ⟨b, off, e, ?_⟩
    rw [hb.cell (p := ⟨b, off + j, none⟩) (show b < _ by omega), h3 j (by omega)]
    simp [List.getD_eq_getElem?_getD, hj])
  have hlen : (l.take k).length = k := by simp; omega
  have hk11 : k ≤ 11 := by omega
  have hkn : k ≤ n := by omega
  rw [← hx0]
  generalize l.take k = L at *
  clear hk hx0 hL hl e11 hi2
  obtain ⟨m, hm⟩ : ∃ m, m = k / 2 := ⟨_, rfl⟩
  have f1 : (k : Int).tdiv 2 = (m : Int) := by rw [Int.tdiv_eq_ediv_of_nonneg (by omega)]; omega
  have f2 : (k : Int) / 2 = (m : Int) := by omega
  have HM := Lib.hid hm
  have hm5 : m ≤ 5 := by omega
  clear hm
  go_enter Tryz.func20, Tryz.ntmps20
  go_wp2_with fail
  go_loopw [4] (fun i wr => ∃ q : Nat, q ≤ k ∧ i = .int .i64 q ∧ Below w.heap.size w wr ∧ Hid (∀ j, j < q → ¬ rank (L.getD j 0) L)) (fun i _ => k - (intOf i).toNat)
  case atStart => exact ⟨0, by omega, rfl, Below.refl _ _, Lib.hid (by intro j hj; omega)⟩
  case round =>
    obtain ⟨q, hq, rfl, hb, HN⟩ := hrel
    by_cases hlt : q < k
    · obtain ⟨x, hx⟩ : ∃ x, x = L.getD q 0 := ⟨_, rfl⟩
      have HX := Lib.hid hx
      clear hx
      go_wp2_with fail
      go_loopw [5, 6, 7] (fun u v i w2 => ∃ j : Nat, j ≤ k ∧ i = .int .i64 j ∧ ∃ A B : Nat, u = .int .i64 A ∧ v = .int .i64 B ∧ Below w.heap.size w w2 ∧ Hid (A = less x (L.take j)) ∧ Hid (B = same x (L.take j))) (fun _ _ i _ => k - (intOf i).toNat)
      case atStart => exact ⟨0, by omega, rfl, 0, 0, rfl, rfl, hb, Lib.hid rfl, Lib.hid rfl⟩
      case round =>
        obtain ⟨j, hj, rfl, A, B, rfl, rfl, hb2, HA, HB⟩ := hrel
        have hA : A ≤ 11 := by have := less_le x (L.take j); rw [← HA.out] at this; simp at this; omega
        have hB : B ≤ 11 := by have := same_le x (L.take j); rw [← HB.out] at this; simp at this; omega
        by_cases hj2 : j < k
        · obtain ⟨b, off, rfl, cq⟩ := HCell.out wr hb2 q hlt
          obtain ⟨_, _, e, cj⟩ := HCell.out wr hb2 j hj2
          cases e
          obtain ⟨y, hy⟩ : ∃ y, y = L.getD j 0 := ⟨_, rfl⟩
          have SA := less_succ x L j (by omega)
          have SB := same_succ x L j (by omega)
          rw [← hy, ← HA.out] at SA
          rw [← hy, ← HB.out] at SB
          rw [← hy] at cj
          rw [← HX.out] at cq
          rcases Int.lt_trichotomy y x with h | h | h
          · have t1 : decide (y < x) = true := decide_eq_true h
            have t2 : (y == x) = false := by simp; omega
            have HA2 : Hid (A + 1 = less x (L.take (j + 1))) := Lib.hid (by rw [SA, if_pos h])
            have HB2 : Hid (B = same x (L.take (j + 1))) := Lib.hid (by rw [SB, if_neg (by omega), Nat.add_zero])
            clear h SA SB hy HA HB
            go_wp2_with fail
            all_goals go_region
            all_goals go_wp2_with fail
            all_goals go_region
            all_goals go_wp2_with fail
            all_goals go_roundw
            case rel => exact ⟨j + 1, by omega, by go_num, A + 1, B, by go_num, by go_num, hb2.drew.drew, HA2, HB2⟩
            case measure => simp [intOf]; omega
          · have t1 : decide (y < x) = false := decide_eq_false (by omega)
            have t2 : (y == x) = true := by simp; omega
            have HA2 : Hid (A = less x (L.take (j + 1))) := Lib.hid (by rw [SA, if_neg (by omega), Nat.add_zero])
            have HB2 : Hid (B + 1 = same x (L.take (j + 1))) := Lib.hid (by rw [SB, if_pos h])
            clear h SA SB hy HA HB
            go_wp2_with fail
            all_goals go_region
            all_goals go_wp2_with fail
            all_goals go_region
            all_goals go_wp2_with fail
            all_goals go_roundw
            case rel => exact ⟨j + 1, by omega, by go_num, A, B + 1, by go_num, by go_num, hb2.drew.drew, HA2, HB2⟩
            case measure => simp [intOf]; omega
          · have t1 : decide (y < x) = false := decide_eq_false (by omega)
            have t2 : (y == x) = false := by simp; omega
            have HA2 : Hid (A = less x (L.take (j + 1))) := Lib.hid (by rw [SA, if_neg (by omega), Nat.add_zero])
            have HB2 : Hid (B = same x (L.take (j + 1))) := Lib.hid (by rw [SB, if_neg (by omega), Nat.add_zero])
            clear h SA SB hy HA HB
            go_wp2_with fail
            all_goals go_region
            all_goals go_wp2_with fail
            all_goals go_region
            all_goals go_wp2_with fail
            all_goals go_roundw
            case rel => exact ⟨j + 1, by omega, by go_num, A, B, by go_num, by go_num, hb2.drew.drew, HA2, HB2⟩
            case measure => simp [intOf]; omega
        · obtain rfl : j = k := by omega
          rw [List.take_of_length_le (by omega)] at HA HB
          have hrk : rank x L ↔ (A ≤ m ∧ m < A + B) := by unfold rank; rw [hlen, ← HA.out, ← HB.out, ← HM.out]
          by_cases hr : A ≤ m ∧ m < A + B
          · obtain ⟨b, off, rfl, cq⟩ := HCell.out wr hb2 q hlt
            rw [← HX.out] at cq
            have ex : x = x0 := rank_one (hrk.2 hr) (HRank.out (by omega))
            have t1 : A ≤ m := by omega
            have t2 : decide ((m : Int) < (A : Int) + (B : Int)) = true := decide_eq_true (by omega)
            have t3 : m < A + B := by omega
            rw [ex] at cq
            clear hr hrk HA HB HRank HMem HCell ex HX HN HEmpty
            go_wp2_with fail
            go_ret
            exact ⟨rfl, hb2⟩
          · have HN2 : Hid (∀ j, j < q + 1 → ¬ rank (L.getD j 0) L) := Lib.hid (fun i hi hh => by
              by_cases hiq : i < q
              · exact HN.out i hiq hh
              · obtain rfl : i = q := by omega
                rw [← HX.out] at hh
                exact hr (hrk.1 hh))
            by_cases hA2 : A ≤ m
            · have t1 : A ≤ m := by omega
              have t2 : decide ((m : Int) < (A : Int) + (B : Int)) = false := decide_eq_false (by omega)
              have t3 : ¬ m < A + B := by omega
              clear hr hrk hA2 HA HB HRank HMem HCell HX HN HEmpty
              go_wp2_with fail
              go_roundw
              case rel => exact ⟨q + 1, by omega, by go_num, hb2, HN2⟩
              case measure => simp [intOf]; omega
            · have t1 : ¬ A ≤ m := hA2
              clear hr hrk hA2 HA HB HRank HMem HCell HX HN HEmpty
              go_wp2_with fail
              go_roundw
              case rel => exact ⟨q + 1, by omega, by go_num, hb2, HN2⟩
              case measure => simp [intOf]; omega
    · obtain rfl : q = k := by omega
      have h0 : q = 0 := by
        by_cases h : q = 0
        · exact h
        · obtain ⟨i, hi, e⟩ := HMem.out (by omega)
          exact absurd (by rw [e]; exact HRank.out (by omega)) (HN.out i hi)
      have ex := HEmpty.out h0
      have EX := Lib.hid ex
      clear ex
      go_wp2_with fail
      go_ret
      exact ⟨congrArg (fun z => Ending.returned (.int .i64 z)) EX.out, hb⟩
end Go.Proofs.YthcebnfdapcllaaGreatDoor.MM
