/-
  MedianOf: the walk.
-/
import Derived.Test.YtmmpdalemifneaaMdAlive
namespace Go.Proofs.Ytmmpdalemifneaa
open Go.RowKit Mem Md
variable {lo hi : Nat}
set_option maxRecDepth 100000 in
set_option maxHeartbeats 1000000 in
theorem law_of_long (t : Int) (p : Option Addr) (n cap : Nat) (h100 : 100 < n) (w : World) : Calls Try.prog 3 #[.slice p n cap, .int .i64 t] w fun r w' => r = .returned (.bool true) ∧ Below w.heap.size w w' := by
  have hd : decide ((100 : Int) < (n : Int)) = true := decide_eq_true (by omega)
  clear h100
  go_enter Try.func3, Try.ntmps3
  go_wp2_with fail
  refine (alive9 w).mono ?_
  rintro r w1 ⟨rfl, hB⟩
  go_wp2_with fail
  go_ret
  exact ⟨rfl, hB⟩
set_option maxRecDepth 100000 in
set_option maxHeartbeats 1000000 in
theorem law_of (t : Int) (p : Option Addr) (n cap : Nat) (l : List Int) (hl : l.length = n) (hc : n ≤ cap) (h100 : ¬ 100 < n) (w : World) (h : Lie w lo hi p l) (hh : hi ≤ w.heap.size) :
    Calls Try.prog 3 #[.slice p n cap, .int .i64 t] w fun r w' => r = .returned (.bool true) ∧ Below w.heap.size w w' := by
  have hd : decide ((100 : Int) < (n : Int)) = false := decide_eq_false (by omega)
  obtain ⟨k, hk⟩ : ∃ k, k = min n 11 := ⟨_, rfl⟩
  have hmin := min_is (P := Try.prog) (n : Int) 11 (k : Int) (by omega)
  obtain ⟨p', hcut, hL2⟩ := cut_take hl (by omega : k ≤ n) hc h
  have hmk : mid (l.take k) = mid l := by rw [take_min (by omega), mid_take]
  have KR := Lib.hid (fun w' (hb : Below w.heap.size w w') => ref_of p n cap l hl hc (by omega) w' (h.below hb hh) (Nat.le_trans hh hb.size))
  have KO := Lib.hid (fun w' (hb : Below w.heap.size w w') => of_at p n cap l hl hc (by omega) w' (h.below hb hh))
  have KC := Lib.hid (fun w' (hb : Below w.heap.size w w') => of_at p' k cap (l.take k) (by simp; omega) (by omega) (by omega) w' (hL2.below hb hh))
  have KL := Lib.hid (fun w' (hb : Below w.heap.size w w') => late_at t p n cap lo hi l hl hc (by omega) w' (h.below hb hh))
  rw [hmk] at KC
  have hlate : (n = 0 ∧ late t l = true) ∨ (n ≠ 0 ∧ late t l = decide (mid l < t)) := by
    unfold late
    cases l with
    | nil => left; exact ⟨hl.symm, rfl⟩
    | cons a l => right; exact ⟨by simp at hl; omega, rfl⟩
  obtain ⟨x, hx⟩ : ∃ x, x = mid l := ⟨_, rfl⟩
  rw [← hx] at hlate KR KO KC
  generalize late t l = L at *
  clear hx hmk h hL2 hk h100 hl
  have hB := Below.refl w.heap.size w
  rcases hlate with ⟨h0, rfl⟩ | ⟨h0, hL⟩
  · have d0 : ((n : Int) == 0) = true := by simp; omega
    clear h0
    go_enter Try.func3, Try.ntmps3
    go_wp2_with fail
    refine (alive9 w).mono ?_
    rintro r w1 ⟨rfl, hb⟩
    replace hB := hB.trans hb
    go_wp2_with fail
    refine (KR.out _ hB).mono ?_
    rintro r w2 ⟨rfl, hb⟩
    replace hB := hB.trans (hb.mono hB.size)
    go_wp2_with fail
    refine (KO.out _ hB).mono ?_
    rintro r w3 ⟨rfl, hb⟩
    replace hB := hB.trans (hb.mono hB.size)
    go_wp2_with fail
    refine (KC.out _ hB).mono ?_
    rintro r w4 ⟨rfl, hb⟩
    replace hB := hB.trans (hb.mono hB.size)
    go_wp2_with fail
    refine (KL.out _ hB).mono ?_
    rintro r w5 ⟨rfl, hb⟩
    replace hB := hB.trans (hb.mono hB.size)
    go_wp2_with fail
    go_ret
    exact ⟨rfl, hB⟩
  · have d0 : ((n : Int) == 0) = false := by simp; omega
    subst hL
    clear h0
    go_enter Try.func3, Try.ntmps3
    go_wp2_with fail
    refine (alive9 w).mono ?_
    rintro r w1 ⟨rfl, hb⟩
    replace hB := hB.trans hb
    go_wp2_with fail
    refine (KR.out _ hB).mono ?_
    rintro r w2 ⟨rfl, hb⟩
    replace hB := hB.trans (hb.mono hB.size)
    go_wp2_with fail
    refine (KO.out _ hB).mono ?_
    rintro r w3 ⟨rfl, hb⟩
    replace hB := hB.trans (hb.mono hB.size)
    go_wp2_with fail
    refine (KC.out _ hB).mono ?_
    rintro r w4 ⟨rfl, hb⟩
    replace hB := hB.trans (hb.mono hB.size)
    go_wp2_with fail
    refine (KL.out _ hB).mono ?_
    rintro r w5 ⟨rfl, hb⟩
    replace hB := hB.trans (hb.mono hB.size)
    go_wp2_with fail
    go_ret
    exact ⟨rfl, hB⟩
theorem law_of_all (t : Int) (p : Option Addr) (n cap : Nat) (l : List Int) (hl : l.length = n) (hc : n ≤ cap) (w : World) (h : Lie w lo hi p l) (hh : hi ≤ w.heap.size) :
    Calls Try.prog 3 #[.slice p n cap, .int .i64 t] w fun r w' => r = .returned (.bool true) ∧ Below w.heap.size w w' := by
  by_cases h100 : 100 < n
  · exact law_of_long t p n cap h100 w
  · exact law_of t p n cap l hl hc h100 w h hh
end Go.Proofs.Ytmmpdalemifneaa
