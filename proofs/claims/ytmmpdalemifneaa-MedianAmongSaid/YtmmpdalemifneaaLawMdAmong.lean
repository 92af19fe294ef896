/-
  MedianAmong: the walk.
-/
import Derived.Test.YtmmpdalemifneaaMdAlive
namespace Go.Proofs.Ytmmpdalemifneaa
open Go.RowKit Mem Md
/-- the least, the greatest, of these and one more; whether one is among them -/
def lst (y : Int) (L : List Int) : Int := L.foldl min y
def mst (y : Int) (L : List Int) : Int := L.foldl max y
def inn (m : Int) (L : List Int) : Bool := L.any (· == m)
theorem take_one {L : List Int} {i : Nat} {x : Int} (h : i < L.length) (hx : x = L.getD i 0) : L.take (i + 1) = L.take i ++ [x] := by
  rw [List.take_add_one, hx]
  simp [List.getD_eq_getElem?_getD, h]
theorem lst_app (y x : Int) (L : List Int) : lst y (L ++ [x]) = min (lst y L) x := by simp [lst]
theorem mst_app (y x : Int) (L : List Int) : mst y (L ++ [x]) = max (mst y L) x := by simp [mst]
theorem inn_app (m x : Int) (L : List Int) : inn m (L ++ [x]) = (inn m L || (x == m)) := by simp [inn]
theorem lst_le (y : Int) (L : List Int) : lst y L ≤ y ∧ ∀ x ∈ L, lst y L ≤ x := by
  induction L generalizing y with
  | nil => exact ⟨Int.le_refl _, fun x h => by cases h⟩
  | cons a L ih =>
    have := ih (min y a)
    refine ⟨Int.le_trans this.1 (Int.min_le_left _ _), fun x hx => ?_⟩
    rcases List.mem_cons.1 hx with rfl | h
    · exact Int.le_trans this.1 (Int.min_le_right _ _)
    · exact this.2 x h
theorem le_mst (y : Int) (L : List Int) : y ≤ mst y L ∧ ∀ x ∈ L, x ≤ mst y L := by
  induction L generalizing y with
  | nil => exact ⟨Int.le_refl _, fun x h => by cases h⟩
  | cons a L ih =>
    have := ih (max y a)
    refine ⟨Int.le_trans (Int.le_max_left _ _) this.1, fun x hx => ?_⟩
    rcases List.mem_cons.1 hx with rfl | h
    · exact Int.le_trans (Int.le_max_right _ _) this.1
    · exact this.2 x h
theorem mst_in (B y : Int) (L : List Int) (hy : y ≤ B) (h : ∀ x ∈ L, x ≤ B) : mst y L ≤ B := by
  induction L generalizing y with
  | nil => exact hy
  | cons a L ih => exact ih (max y a) (by have := h a (by simp); omega) (fun x hx => h x (by simp [hx]))
variable {lo hi : Nat}
set_option maxRecDepth 100000 in
set_option maxHeartbeats 1000000 in
theorem among_out (p : Option Addr) (n cap : Nat) (h : 100 < n ∨ n = 0) (w : World) :
    Calls Try.prog 7 #[.slice p n cap] w fun r w' => r = .returned (.bool true) ∧ Below w.heap.size w w' := by
  rcases h with h | rfl
  · have hd : decide ((100 : Int) < (n : Int)) = true := decide_eq_true (by omega)
    have hmin := min_is (P := Try.prog) (n : Int) 11 11 (by omega)
    clear h
    go_enter Try.func7, Try.ntmps7
    go_wp2_with fail
    refine (alive9 w).mono ?_
    rintro r w1 ⟨rfl, hB⟩
    go_wp2_with fail
    go_ret
    exact ⟨rfl, hB⟩
  · have hmin := min_is (P := Try.prog) 0 11 0 (by omega)
    go_enter Try.func7, Try.ntmps7
    go_wp2_with fail
    refine (alive9 w).mono ?_
    rintro r w1 ⟨rfl, hB⟩
    go_wp2_with fail
    go_ret
    exact ⟨rfl, hB⟩
set_option maxRecDepth 100000 in
set_option maxHeartbeats 2000000 in
theorem among_in (p : Option Addr) (n cap : Nat) (l : List Int) (hl : l.length = n) (hc : n ≤ cap) (h0 : 0 < n) (h100 : n ≤ 100) (hz : ∀ x ∈ l, -9223372036854775808 ≤ x ∧ x < 9223372036854775808) (w : World) (h : Lie w lo hi p l) (hh : hi ≤ w.heap.size) :
    Calls Try.prog 7 #[.slice p n cap] w fun r w' => r = .returned (.bool true) ∧ Below w.heap.size w w' := by
  have hd : decide ((100 : Int) < (n : Int)) = false := decide_eq_false (by omega)
  obtain ⟨k, hk⟩ : ∃ k, k = min n 11 := ⟨_, rfl⟩
  have hmin := min_is (P := Try.prog) (n : Int) 11 (k : Int) (by omega)
  obtain ⟨p', hcut, hL2⟩ := cut_take hl (by omega : k ≤ n) hc h
  have hk0 : 0 < k := by omega
  have hk11 : k ≤ 11 := by omega
  have d0 : ((k : Int) == 0) = false := by simp; omega
  have hlen : (l.take k).length = k := by simp; omega
  have hmem : mid l ∈ l.take k := by rw [take_min (by omega)]; exact mid_mem l (by omega)
  have hzL : ∀ x ∈ l.take k, -9223372036854775808 ≤ x ∧ x < 9223372036854775808 := fun x hx => hz x (List.mem_of_mem_take hx)
  obtain ⟨b, off, rfl, hlo, hhi, hcell⟩ := h (by omega)
  obtain ⟨b', off', rfl, hlo', hhi', hcell'⟩ := hL2 (by omega)
  obtain ⟨y, hy⟩ : ∃ y, y = l.getD 0 0 := ⟨_, rfl⟩
  have hyL : y ∈ l.take k := by
    rw [hy]
    have e : l.getD 0 0 = (l.take k)[0]'(by omega) := by simp [List.getD_eq_getElem?_getD, show 0 < l.length by omega]
    rw [e]; exact List.getElem_mem _
  have KO := Lib.hid (fun w' (hb : Below w.heap.size w w') => of_at (some ⟨b, off, none⟩) n cap l hl hc (by omega) w' (h.below hb hh))
  have KL := Lib.hid (fun t w' (hb : Below w.heap.size w w') => late_at t (some ⟨b, off, none⟩) n cap lo hi l hl hc (by omega) w' (h.below hb hh))
  have hlate : ∀ t, late t l = decide (mid l < t) := fun t => by
    unfold late
    cases l with
    | nil => simp at hl; omega
    | cons a l => rfl
  simp only [hlate] at KL
  have HC0 : Hid (∀ w', Below w.heap.size w w' → w'.cell? ⟨b, off, none⟩ = some (.int .i64 y)) := Lib.hid (fun w' hb => by
    have := hcell 0 (by omega)
    rw [Nat.add_zero] at this
    rw [hb.cell (p := ⟨b, off, none⟩) (show b < _ by omega), this, hy])
  have HC : Hid (∀ w', Below w.heap.size w w' → ∀ j, j < k → w'.cell? ⟨b', off' + j, none⟩ = some (.int .i64 ((l.take k).getD j 0))) := Lib.hid (fun w' hb j hj => by
    rw [hb.cell (p := ⟨b', off' + j, none⟩) (show b' < _ by omega), hcell' j (by omega)])
  obtain ⟨m, hm⟩ : ∃ m, m = mid l := ⟨_, rfl⟩
  rw [← hm] at KO KL hmem
  generalize l.take k = L at *
  have HMem := Lib.hid hmem
  have HZ := Lib.hid hzL
  have HY := Lib.hid hyL
  clear hk hy hm hcell hcell' hlate h hL2 hl hz h100 hmem hzL hyL
  go_enter Try.func7, Try.ntmps7
  go_wp2_with fail
  refine (alive9 w).mono ?_
  rintro r w1 ⟨rfl, hB⟩
  go_wp2_with fail
  refine (KO.out _ hB).mono ?_
  rintro r w2 ⟨rfl, hb⟩
  replace hB := hB.trans (hb.mono hB.size)
  clear hb KO
  have c0 := HC0.out w2 hB
  go_wp2_with fail
  go_region
  have hBd := Lib.hid hB.drew
  clear c0 HC0 hB
  go_wp2_with fail
  go_loopw [5, 6, 7, 34] (fun u v s q wr => ∃ i : Nat, ∃ a b : Int, ∃ c : Bool, i ≤ k ∧ u = .int .i64 a ∧ v = .int .i64 b ∧ s = .bool c ∧ q = .int .i64 i ∧ Below w.heap.size w wr ∧ Hid (lst y (L.take i) = a) ∧ Hid (mst y (L.take i) = b) ∧ Hid (inn m (L.take i) = c)) (fun _ _ _ q _ => k - (intOf q).toNat)
  case atStart => exact ⟨0, y, y, false, by omega, rfl, rfl, rfl, rfl, hBd.out, Lib.hid rfl, Lib.hid rfl, Lib.hid rfl⟩
  case round =>
    obtain ⟨i, a, b, c, hi, rfl, rfl, rfl, rfl, hb, HA, HB, HI⟩ := hrel
    by_cases hlt : i < k
    · have c1 := HC.out wr hb i hlt
      obtain ⟨x, hx⟩ : ∃ x, x = L.getD i 0 := ⟨_, rfl⟩
      have HS := Lib.hid (take_one (by omega : i < L.length) hx)
      rw [← hx] at c1
      obtain ⟨a2, ha2⟩ : ∃ a2, a2 = min a x := ⟨_, rfl⟩
      obtain ⟨b2, hb2⟩ : ∃ b2, b2 = max b x := ⟨_, rfl⟩
      have M1 := min_is (P := Try.prog) a x a2 ha2
      have M2 := max_is (P := Try.prog) b x b2 hb2
      have HA2 : Hid (lst y (L.take (i + 1)) = a2) := Lib.hid (by rw [HS.out, lst_app, HA.out, ha2])
      have HB2 : Hid (mst y (L.take (i + 1)) = b2) := Lib.hid (by rw [HS.out, mst_app, HB.out, hb2])
      clear ha2 hb2 hx HA HB
      cases c
      · by_cases hxm : x = m
        · have e2 : (x == m) = true := by simpa using hxm
          have HI2 : Hid (inn m (L.take (i + 1)) = true) := Lib.hid (by rw [HS.out, inn_app, HI.out]; simp [hxm])
          clear HI hxm
          go_wp2_with fail
          go_roundw
          case rel => exact ⟨i + 1, a2, b2, true, by omega, rfl, rfl, rfl, by go_num, hb, HA2, HB2, HI2⟩
          case measure => simp [intOf]; omega
        · have e2 : (x == m) = false := by simpa using hxm
          have HI2 : Hid (inn m (L.take (i + 1)) = false) := Lib.hid (by rw [HS.out, inn_app, HI.out]; simp [hxm])
          clear HI hxm
          go_wp2_with fail
          go_roundw
          case rel => exact ⟨i + 1, a2, b2, false, by omega, rfl, rfl, rfl, by go_num, hb, HA2, HB2, HI2⟩
          case measure => simp [intOf]; omega
      · have HI2 : Hid (inn m (L.take (i + 1)) = true) := Lib.hid (by rw [HS.out, inn_app, HI.out]; rfl)
        clear HI
        go_wp2_with fail
        go_roundw
        case rel => exact ⟨i + 1, a2, b2, true, by omega, rfl, rfl, rfl, by go_num, hb, HA2, HB2, HI2⟩
        case measure => simp [intOf]; omega
    · obtain rfl : i = k := by omega
      rw [List.take_of_length_le (by omega)] at HA HB HI
      obtain rfl : c = true := by
        rw [← HI.out]; unfold inn
        rw [List.any_eq_true]
        exact ⟨m, HMem.out, by simp⟩
      have h1 := lst_le y L
      have h2 := le_mst y L
      have h3 := mst_in 9223372036854775807 y L (by have := HZ.out y HY.out; omega) (fun x hx => by have := HZ.out x hx; omega)
      rw [HA.out] at h1
      rw [HB.out] at h2 h3
      have g1 : a ≤ m := h1.2 m HMem.out
      have g2 : m ≤ b := h2.2 m HMem.out
      have g4 : -9223372036854775808 ≤ b := by have := HZ.out m HMem.out; omega
      have e1 : decide (a ≤ m) = true := decide_eq_true g1
      have e2 : decide (m ≤ b) = true := decide_eq_true g2
      have KA := Lib.hid (KL.out a)
      rw [decide_eq_false (by omega : ¬ m < a)] at KA
      clear h1 h2 HA HB HI HZ HY HMem HC hi hlt
      by_cases h4 : b = 9223372036854775807
      · have e3 : (b == 9223372036854775807) = true := by simpa using h4
        clear h4 h3 g1 g2 g4 KL
        go_wp2_with fail
        refine (KA.out _ hb).mono ?_
        rintro r w3 ⟨rfl, hb3⟩
        replace hb := hb.trans (hb3.mono hb.size)
        clear hb3 KA
        go_wp2_with fail
        go_ret
        exact ⟨rfl, hb⟩
      · have e3 : (b == 9223372036854775807) = false := by simpa using h4
        obtain ⟨b1, hb1⟩ : ∃ b1, b1 = b + 1 := ⟨_, rfl⟩
        have hw1 : IntKind.i64.wrap (b + 1) = b1 := by rw [IntKind.wrap_i64]; omega
        have KB := Lib.hid (KL.out b1)
        rw [decide_eq_true (by omega : m < b1)] at KB
        clear h4 h3 g1 g2 g4 KL hb1
        go_wp2_with fail
        refine (KA.out _ hb).mono ?_
        rintro r w3 ⟨rfl, hb3⟩
        replace hb := hb.trans (hb3.mono hb.size)
        clear hb3 KA
        go_wp2_with fail
        refine (KB.out _ hb).mono ?_
        rintro r w4 ⟨rfl, hb3⟩
        replace hb := hb.trans (hb3.mono hb.size)
        clear hb3 KB
        go_wp2_with fail
        go_ret
        exact ⟨rfl, hb⟩
theorem law_among (p : Option Addr) (n cap : Nat) (l : List Int) (hl : l.length = n) (hc : n ≤ cap) (hz : ∀ x ∈ l, -9223372036854775808 ≤ x ∧ x < 9223372036854775808) (w : World) (h : Lie w lo hi p l) (hh : hi ≤ w.heap.size) :
    Calls Try.prog 7 #[.slice p n cap] w fun r w' => r = .returned (.bool true) ∧ Below w.heap.size w w' := by
  by_cases h1 : 100 < n ∨ n = 0
  · exact among_out p n cap h1 w
  · exact among_in p n cap l hl hc (by omega) (by omega) hz w h hh
end Go.Proofs.Ytmmpdalemifneaa
