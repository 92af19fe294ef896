import Derived.Test.YthcebnfdapcllaaGreatDoorRBunQ16
import Derived.Test.YthcebnfdapcllaaGreatDoorRBunQ36
namespace Go.Proofs.YthcebnfdapcllaaGreatDoor.An
open Go.RowKit Mem Sc NN.Rg2
open Pg (Pl pbit gv Ws)
set_option maxRecDepth 100000
def mostV (x : Pl) (s : Int) : Int := if x.good = true ∧ 0 ≤ s then (6 * min s 8589934592).tdiv x.p + 1 else 0
theorem most_range (x : Pl) (s : Int) : 0 ≤ mostV x s ∧ mostV x s ≤ 51539607553 := by
  unfold mostV
  split
  · rename_i h
    have hp : 1 ≤ x.p := by
      have := h.1
      rw [pl_good] at this
      simp only [Bool.and_eq_true, decide_eq_true_eq] at this
      exact this.1
    have h6 : 0 ≤ 6 * min s 8589934592 := by omega
    rw [Int.tdiv_eq_ediv_of_nonneg h6]
    have h1 : 0 ≤ (6 * min s 8589934592) / x.p := Int.ediv_nonneg h6 (by omega)
    have h2 : (6 * min s 8589934592) / x.p ≤ 6 * min s 8589934592 := Int.ediv_le_self _ h6
    omega
  · omega
set_option maxHeartbeats 2000000 in
theorem most_at (x : Pl) (s : Int) (w : World) : Calls Tryz.prog 14 #[.agg (plA x), .int .i64 s] w fun r w' => r = .returned (.int .i64 (mostV x s)) ∧ Below w.heap.size w w' := by
  have KG := Lib.hid (fun w' => good_at x w')
  obtain ⟨g, hg⟩ : ∃ g, x.good = g := ⟨_, rfl⟩
  obtain ⟨v, hv⟩ : ∃ v, mostV x s = v := ⟨_, rfl⟩
  have hr := most_range x s
  rw [hv] at hr ⊢
  have hp : x.good = true → 1 ≤ x.p := fun h => by
    rw [pl_good] at h
    simp only [Bool.and_eq_true, decide_eq_true_eq] at h
    exact h.1
  unfold mostV at hv
  rw [hg] at KG hv hp
  obtain ⟨xs, p, o⟩ := x
  unfold plA at KG ⊢
  dsimp only at KG hv hp ⊢
  clear hg
  have HV := Lib.hid hv
  have HP := Lib.hid hp
  have HR := Lib.hid hr
  clear hv hp hr
  go_enter Tryz.func14, Tryz.ntmps14
  go_upto_region 1 with fail
  generalize hw0 : World.alloc _ _ = v0
  have hB : Below w.heap.size w v0 := by rw [← hw0]; exact (Below.refl _ _).alloc (Nat.le_refl _) _
  have hP : Has v0 w.heap.size #[.int .i64 xs, .int .i64 p, .int .i64 o] 35 := by rw [← hw0]; exact Has.new _ _
  have c0 : v0.cell? ⟨w.heap.size, 0, none⟩ = some (.int .i64 xs) := hP.cell 0
  have c1 : v0.cell? ⟨w.heap.size, 1, none⟩ = some (.int .i64 p) := hP.cell 1
  have c2 : v0.cell? ⟨w.heap.size, 2, none⟩ = some (.int .i64 o) := hP.cell 2
  clear hw0
  cases g
  · have hv : v = 0 := by have := HV.out; simpa using this.symm
    subst hv
    go_wp2_with fail
    refine (KG.out _).mono ?_
    rintro r v1 ⟨rfl, hb⟩
    have HB := Lib.hid (hB.trans (hb.mono hB.size))
    clear hb hB hP c0 c1 c2
    go_wp2_with fail
    go_ret
    exact ⟨rfl, HB.out⟩
  · by_cases hs : s < 0
    · have hv : v = 0 := by have := HV.out; rw [if_neg (by omega)] at this; exact this.symm
      subst hv
      go_wp2_with fail
      refine (KG.out _).mono ?_
      rintro r v1 ⟨rfl, hb⟩
      have HB := Lib.hid (hB.trans (hb.mono hB.size))
      clear hb hB hP c0 c1 c2
      go_wp2_with fail
      go_ret
      exact ⟨rfl, HB.out⟩
    · have HV1 := Lib.hid (show v = (6 * min s 8589934592).tdiv p + 1 by have := HV.out; rw [if_pos ⟨rfl, by omega⟩] at this; exact this.symm)
      have HP0 := Lib.hid (HP.out rfl)
      clear HV HP
      go_wp2_with fail
      refine (KG.out _).mono ?_
      rintro r v1 ⟨rfl, hb⟩
      have hP1 := below_has hb hP hP.lt
      have c1 : v1.cell? ⟨w.heap.size, 1, none⟩ = some (.int .i64 p) := hP1.cell 1
      have HB := Lib.hid (hB.trans (hb.mono hB.size))
      obtain ⟨m, hm⟩ : ∃ m, m = min s 8589934592 := ⟨_, rfl⟩
      have hmin := MM.min_is (P := Tryz.prog) s 8589934592 m hm
      obtain ⟨m6, hm6⟩ : ∃ m6, m6 = 6 * m := ⟨_, rfl⟩
      have hw6 : IntKind.i64.wrap (6 * m) = m6 := by rw [IntKind.wrap_i64]; omega
      obtain ⟨q, hq⟩ : ∃ q, m6.tdiv p = q := ⟨_, rfl⟩
      have hv : v = q + 1 := by have := HV1.out; rw [← hm, ← hm6, hq] at this; exact this
      have hr := HR.out
      have hwq : IntKind.i64.wrap q = q := by rw [IntKind.wrap_i64]; omega
      have hw1 : IntKind.i64.wrap (q + 1) = v := by rw [IntKind.wrap_i64]; omega
      have hp0 : ¬ p = 0 := by have := HP0.out; omega
      clear hb hB hP hP1 c0 c2 hm hm6 hv hr HV1
      go_wp2_with fail
      go_ret
      exact ⟨rfl, HB.out⟩
end Go.Proofs.YthcebnfdapcllaaGreatDoor.An
