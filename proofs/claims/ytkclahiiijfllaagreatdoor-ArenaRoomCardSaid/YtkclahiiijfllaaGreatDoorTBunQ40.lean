import Derived.Test.YtkclahiiijfllaaGreatDoorTBunQ39
import Derived.Test.YtkclahiiijfllaaGreatDoorTBunQ35
namespace Go.Proofs.YtkclahiiijfllaaGreatDoor.An
open Go.RowKit Mem Sc NN.Rg2
open Ar (Ent Ru entZ Ok)
set_option maxRecDepth 100000 in
theorem must_at (p : NN.Pr) (hp : p.ok) (room : Int) (r : Ru) (w : World) (KN : Hid (∀ w', Below w.heap.size w w' → Calls Tryz.prog 10 #[.agg (NN.prA p), .int .i64 room] w' fun e w'' => ∃ b F, e = .returned (.tuple #[.pointer (some ⟨b, 0, none⟩), .int .i64 0]) ∧ ArS w'' F b r [entZ] ∧ (∀ i, F i → w'.heap.size ≤ i) ∧ Below w'.heap.size w' w'')) :
    Calls Tryz.prog 28 #[.agg (NN.prA p), .int .i64 room] w fun e w' => ∃ b F, e = .returned (.pointer (some ⟨b, 0, none⟩)) ∧ (ArS w' F b r [entZ] ∧ ∀ i, F i → w.heap.size ≤ i) ∧ Below w.heap.size w w' := by
  have hz := NN.prA_size hp
  go_enter Tryz.func28, Tryz.ntmps28
  go_upto_region 1 with fail
  generalize hw0 : World.alloc _ _ = v0
  have hB : Below w.heap.size w v0 := by rw [← hw0]; exact (Below.refl _ _).alloc (Nat.le_refl _) _
  have hP : NN.PrAt v0 w.heap.size p := by rw [← hw0]; exact NN.Has.new _ _
  clear hw0
  go_wp2_with (first | fail | (with_reducible refine NN.pr_load rfl _ rfl _ rfl hP hz ?_))
  refine (KN.out _ hB).mono ?_
  rintro e v4 ⟨b, F, rfl, hS, hF, hb⟩
  have hF0 : ∀ i, F i → w.heap.size ≤ i := fun i hi => Nat.le_trans hB.size (hF i hi)
  replace hB := hB.trans (hb.mono hB.size)
  clear hb hF hP
  go_wp2_with fail
  go_ret
  exact ⟨b, F, rfl, ⟨hS, hF0⟩, hB⟩
def RmI (B : Nat) (ra rb : Ru) (l : Array Bool) (a : Act) (w : World) : Prop :=
  (l.getD 2 false = true → l.getD 4 false = false → ∃ b F, a.eval (.tmp 39) = .pointer (some ⟨b, 0, none⟩) ∧ ArS w F b ra [entZ] ∧ ∀ i, F i → B ≤ i) ∧
  (l.getD 2 false = false → l.getD 4 false = true → ∃ b F, a.eval (.tmp 41) = .pointer (some ⟨b, 0, none⟩) ∧ ArS w F b rb [entZ] ∧ ∀ i, F i → B ≤ i) ∧
  (l.getD 2 false = true → l.getD 4 false = true → ∃ b F b' F', a.eval (.tmp 39) = .pointer (some ⟨b, 0, none⟩) ∧ a.eval (.tmp 41) = .pointer (some ⟨b', 0, none⟩) ∧ ArS w F b ra [entZ] ∧ ArS w F' b' rb [entZ] ∧ (∀ i, F i → B ≤ i) ∧ (∀ i, F' i → B ≤ i) ∧ ∀ i, F i → ¬ F' i) ∧
  (l.getD 5 false = true → a.eval (.tmp 7) = a.eval (.tmp 39)) ∧ (l.getD 6 false = true → a.eval (.tmp 8) = a.eval (.tmp 41))
theorem RmI.keep {B : Nat} {ra rb : Ru} {l : Array Bool} {a : Act} {w : World} (h : RmI B ra rb l a w) (i : Nat) (hi : i < l.size) (h2 : i ≠ 2) (h4 : i ≠ 4) (h5 : i ≠ 5) (h6 : i ≠ 6) (d : Option Tmp) (u : Value) (d1 : d ≠ some 39) (d2 : d ≠ some 41) (d3 : d ≠ some 7) (d4 : d ≠ some 8) : RmI B ra rb (l.setIfInBounds i true) (a.put d u) w := by
  unfold RmI at *
  rw [getD_none l i 2 hi h2, getD_none l i 4 hi h4, getD_none l i 5 hi h5, getD_none l i 6 hi h6, Act.eval_put (fun d' hdd e => d1 (by rw [hdd]; cases e; rfl)), Act.eval_put (fun d' hdd e => d2 (by rw [hdd]; cases e; rfl)), Act.eval_put (fun d' hdd e => d3 (by rw [hdd]; cases e; rfl)), Act.eval_put (fun d' hdd e => d4 (by rw [hdd]; cases e; rfl))]
  exact h
def RmR (p : NN.Pr) (room : Int) : Nat → Value → Prop
  | 0, u => u = .agg (NN.prA p)
  | 1, u => u = .int .i64 room
  | 3, u => u = .agg (NN.prA p)
  | _, _ => room = room
theorem add_full_is (r : Ru) (M : List Ent) (h : Hd) (now : Int) (e : (Ar.add r M h now).1.2.2 = 6) : r.room ≤ M.length ∧ (Ar.add r M h now).2 = M := by
  revert e
  unfold Ar.add
  split
  · intro e; simp at e
  · split
    · intro e; simp at e
    · split
      · intro e; simp at e
      · split
        · intro e; simp at e
        · split
          · rename_i h5; intro _; exact ⟨h5, rfl⟩
          · intro e; simp at e
set_option maxRecDepth 100000 in
set_option maxHeartbeats 4000000 in
theorem room_great (p : NN.Pr) (hp : p.ok) (a : Option Addr) (n c : Nat) (room : Int) (w : World) (KA : Hid (∀ w', Below w.heap.size w w' → Calls Tryz.prog 8 #[] w' fun e w'' => e = .returned (.bool true) ∧ Below w'.heap.size w' w'')) (KG : Hid (∀ w', Below w.heap.size w w' → Calls Tryz.prog 9 #[.agg (NN.prA p), .slice a n c] w' fun e w'' => e = .returned (.bool true) ∧ Below w'.heap.size w' w'')) :
    Calls Tryz.prog 7 #[.agg (NN.prA p), .slice a n c, .int .i64 room] w fun e w' => e = .returned (.bool true) ∧ Below w.heap.size w w' := by
  have hz := NN.prA_size hp
  go_enter Tryz.func7, Tryz.ntmps7
  go_upto_region 1 with fail
  generalize hw0 : World.alloc _ _ = v0
  have hB : Below w.heap.size w v0 := by rw [← hw0]; exact (Below.refl _ _).alloc (Nat.le_refl _) _
  have hP : NN.PrAt v0 w.heap.size p := by rw [← hw0]; exact NN.Has.new _ _
  clear hw0
  obtain ⟨bP, hbP⟩ : ∃ x, x = w.heap.size := ⟨_, rfl⟩
  rw [← hbP] at hP ⊢
  have HBP : Hid (bP = w.heap.size) := Lib.hid hbP
  clear hbP
  go_wp2_with (first | fail)
  refine (KA.out _ hB).mono ?_
  rintro e v1 ⟨rfl, hb⟩
  replace hP := hP.on hb
  replace hB := hB.trans (hb.mono hB.size)
  clear hb
  go_wp2_with (first | fail | (with_reducible refine NN.pr_load rfl _ rfl _ rfl hP hz ?_) | (with_reducible refine NN.pr_load_g (by with_unfolding_all rfl) _ rfl _ rfl hP hz ?_))
  refine (KG.out _ hB).mono ?_
  rintro e v2 ⟨rfl, hb⟩
  replace hP := hP.on hb
  replace hB := hB.trans (hb.mono hB.size)
  clear hb
  go_wp2_with fail
  go_ret
  exact ⟨rfl, hB⟩
set_option maxRecDepth 100000 in
set_option maxHeartbeats 4000000 in
theorem room_bad (p : NN.Pr) (hp : p.ok) (a : Option Addr) (n c : Nat) (room : Int) (w : World) (KA : Hid (∀ w', Below w.heap.size w w' → Calls Tryz.prog 8 #[] w' fun e w'' => e = .returned (.bool true) ∧ Below w'.heap.size w' w'')) (KG : Hid (∀ w', Below w.heap.size w w' → Calls Tryz.prog 9 #[.agg (NN.prA p), .slice a n c] w' fun e w'' => e = .returned (.bool false) ∧ Below w'.heap.size w' w'')) (KR : Hid (∀ w', Below w.heap.size w w' → Calls Tryz.prog 17 #[.agg (NN.prA p)] w' fun e w'' => e = .returned (.bool false) ∧ Below w'.heap.size w' w'')) :
    Calls Tryz.prog 7 #[.agg (NN.prA p), .slice a n c, .int .i64 room] w fun e w' => e = .returned (.bool true) ∧ Below w.heap.size w w' := by
  have hz := NN.prA_size hp
  go_enter Tryz.func7, Tryz.ntmps7
  go_upto_region 1 with fail
  generalize hw0 : World.alloc _ _ = v0
  have hB : Below w.heap.size w v0 := by rw [← hw0]; exact (Below.refl _ _).alloc (Nat.le_refl _) _
  have hP : NN.PrAt v0 w.heap.size p := by rw [← hw0]; exact NN.Has.new _ _
  clear hw0
  obtain ⟨bP, hbP⟩ : ∃ x, x = w.heap.size := ⟨_, rfl⟩
  rw [← hbP] at hP ⊢
  have HBP : Hid (bP = w.heap.size) := Lib.hid hbP
  clear hbP
  go_wp2_with (first | fail)
  refine (KA.out _ hB).mono ?_
  rintro e v1 ⟨rfl, hb⟩
  replace hP := hP.on hb
  replace hB := hB.trans (hb.mono hB.size)
  clear hb
  go_wp2_with (first | fail | (with_reducible refine NN.pr_load rfl _ rfl _ rfl hP hz ?_) | (with_reducible refine NN.pr_load_g (by with_unfolding_all rfl) _ rfl _ rfl hP hz ?_))
  refine (KG.out _ hB).mono ?_
  rintro e v2 ⟨rfl, hb⟩
  replace hP := hP.on hb
  replace hB := hB.trans (hb.mono hB.size)
  clear hb
  go_wp2_with (first | fail | (with_reducible refine NN.pr_load rfl _ rfl _ rfl hP hz ?_) | (with_reducible refine NN.pr_load_g (by with_unfolding_all rfl) _ rfl _ rfl hP hz ?_))
  refine (KR.out _ hB).mono ?_
  rintro e v3 ⟨rfl, hb⟩
  replace hP := hP.on hb
  replace hB := hB.trans (hb.mono hB.size)
  clear hb
  go_wp2_with fail
  go_ret
  exact ⟨rfl, hB⟩
set_option maxRecDepth 100000 in
set_option maxHeartbeats 4000000 in
theorem room_low (p : NN.Pr) (hp : p.ok) (a : Option Addr) (n c : Nat) (room : Int) (w : World) (hr : decide (room < 1) = true) (KA : Hid (∀ w', Below w.heap.size w w' → Calls Tryz.prog 8 #[] w' fun e w'' => e = .returned (.bool true) ∧ Below w'.heap.size w' w'')) (KG : Hid (∀ w', Below w.heap.size w w' → Calls Tryz.prog 9 #[.agg (NN.prA p), .slice a n c] w' fun e w'' => e = .returned (.bool false) ∧ Below w'.heap.size w' w'')) (KR : Hid (∀ w', Below w.heap.size w w' → Calls Tryz.prog 17 #[.agg (NN.prA p)] w' fun e w'' => e = .returned (.bool true) ∧ Below w'.heap.size w' w'')) :
    Calls Tryz.prog 7 #[.agg (NN.prA p), .slice a n c, .int .i64 room] w fun e w' => e = .returned (.bool true) ∧ Below w.heap.size w w' := by
  have hz := NN.prA_size hp
  go_enter Tryz.func7, Tryz.ntmps7
  go_upto_region 1 with fail
  generalize hw0 : World.alloc _ _ = v0
  have hB : Below w.heap.size w v0 := by rw [← hw0]; exact (Below.refl _ _).alloc (Nat.le_refl _) _
  have hP : NN.PrAt v0 w.heap.size p := by rw [← hw0]; exact NN.Has.new _ _
  clear hw0
  obtain ⟨bP, hbP⟩ : ∃ x, x = w.heap.size := ⟨_, rfl⟩
  rw [← hbP] at hP ⊢
  have HBP : Hid (bP = w.heap.size) := Lib.hid hbP
  clear hbP
  go_wp2_with (first | fail)
  refine (KA.out _ hB).mono ?_
  rintro e v1 ⟨rfl, hb⟩
  replace hP := hP.on hb
  replace hB := hB.trans (hb.mono hB.size)
  clear hb
  go_wp2_with (first | fail | (with_reducible refine NN.pr_load rfl _ rfl _ rfl hP hz ?_) | (with_reducible refine NN.pr_load_g (by with_unfolding_all rfl) _ rfl _ rfl hP hz ?_))
  refine (KG.out _ hB).mono ?_
  rintro e v2 ⟨rfl, hb⟩
  replace hP := hP.on hb
  replace hB := hB.trans (hb.mono hB.size)
  clear hb
  go_wp2_with (first | fail | (with_reducible refine NN.pr_load rfl _ rfl _ rfl hP hz ?_) | (with_reducible refine NN.pr_load_g (by with_unfolding_all rfl) _ rfl _ rfl hP hz ?_))
  refine (KR.out _ hB).mono ?_
  rintro e v3 ⟨rfl, hb⟩
  replace hP := hP.on hb
  replace hB := hB.trans (hb.mono hB.size)
  clear hb
  go_wp2_with fail
  go_ret
  exact ⟨rfl, hB⟩
set_option maxRecDepth 100000 in
set_option maxHeartbeats 4000000 in
theorem room_high (p : NN.Pr) (hp : p.ok) (a : Option Addr) (n c : Nat) (room : Int) (w : World) (hr : decide (room < 1) = false) (hr2 : decide (40 < room) = true) (KA : Hid (∀ w', Below w.heap.size w w' → Calls Tryz.prog 8 #[] w' fun e w'' => e = .returned (.bool true) ∧ Below w'.heap.size w' w'')) (KG : Hid (∀ w', Below w.heap.size w w' → Calls Tryz.prog 9 #[.agg (NN.prA p), .slice a n c] w' fun e w'' => e = .returned (.bool false) ∧ Below w'.heap.size w' w'')) (KR : Hid (∀ w', Below w.heap.size w w' → Calls Tryz.prog 17 #[.agg (NN.prA p)] w' fun e w'' => e = .returned (.bool true) ∧ Below w'.heap.size w' w'')) :
    Calls Tryz.prog 7 #[.agg (NN.prA p), .slice a n c, .int .i64 room] w fun e w' => e = .returned (.bool true) ∧ Below w.heap.size w w' := by
  have hz := NN.prA_size hp
  go_enter Tryz.func7, Tryz.ntmps7
  go_upto_region 1 with fail
  generalize hw0 : World.alloc _ _ = v0
  have hB : Below w.heap.size w v0 := by rw [← hw0]; exact (Below.refl _ _).alloc (Nat.le_refl _) _
  have hP : NN.PrAt v0 w.heap.size p := by rw [← hw0]; exact NN.Has.new _ _
  clear hw0
  obtain ⟨bP, hbP⟩ : ∃ x, x = w.heap.size := ⟨_, rfl⟩
  rw [← hbP] at hP ⊢
  have HBP : Hid (bP = w.heap.size) := Lib.hid hbP
  clear hbP
  go_wp2_with (first | fail)
  refine (KA.out _ hB).mono ?_
  rintro e v1 ⟨rfl, hb⟩
  replace hP := hP.on hb
  replace hB := hB.trans (hb.mono hB.size)
  clear hb
  go_wp2_with (first | fail | (with_reducible refine NN.pr_load rfl _ rfl _ rfl hP hz ?_) | (with_reducible refine NN.pr_load_g (by with_unfolding_all rfl) _ rfl _ rfl hP hz ?_))
  refine (KG.out _ hB).mono ?_
  rintro e v2 ⟨rfl, hb⟩
  replace hP := hP.on hb
  replace hB := hB.trans (hb.mono hB.size)
  clear hb
  go_wp2_with (first | fail | (with_reducible refine NN.pr_load rfl _ rfl _ rfl hP hz ?_) | (with_reducible refine NN.pr_load_g (by with_unfolding_all rfl) _ rfl _ rfl hP hz ?_))
  refine (KR.out _ hB).mono ?_
  rintro e v3 ⟨rfl, hb⟩
  replace hP := hP.on hb
  replace hB := hB.trans (hb.mono hB.size)
  clear hb
  go_wp2_with fail
  go_ret
  exact ⟨rfl, hB⟩
set_option maxRecDepth 100000 in
set_option maxHeartbeats 4000000 in
theorem room_main (p : NN.Pr) (hp : p.ok) (p0 : NN.Pr) (g0 : Hd) (gs : List Gt) (cs : List Ck) (R : Nat) (a : Option Addr) (n c : Nat) (ls : List Cm) (w : World) (hR1 : 1 ≤ R) (hR2 : R ≤ 40) (hr : decide ((R : Int) < 1) = false) (hr2 : decide (40 < (R : Int)) = false) (HA : Hid (∀ w', Below w.heap.size w w' → ComesAt w' a ls)) (HN : Hid (n = ls.length)) (hn40 : n ≤ 40) (HT : Hid (∀ w', Below w.heap.size w w' → Tab w')) (HG : Hid (g0.ok ∧ g0.P ∧ gs.length ≤ 1000 ∧ cs.length ≤ 1000)) (KA : Hid (∀ w', Below w.heap.size w w' → Calls Tryz.prog 8 #[] w' fun e w'' => e = .returned (.bool true) ∧ Below w'.heap.size w' w'')) (KG : Hid (∀ w', Below w.heap.size w w' → Calls Tryz.prog 9 #[.agg (NN.prA p), .slice a n c] w' fun e w'' => e = .returned (.bool false) ∧ Below w'.heap.size w' w'')) (KR : Hid (∀ w', Below w.heap.size w w' → Calls Tryz.prog 17 #[.agg (NN.prA p)] w' fun e w'' => e = .returned (.bool true) ∧ Below w'.heap.size w' w'')) (KM : Hid (∀ w', Below w.heap.size w w' → Calls Tryz.prog 28 #[.agg (NN.prA p), .int .i64 (R : Int)] w' fun e w'' => ∃ b F, e = .returned (.pointer (some ⟨b, 0, none⟩)) ∧ (ArS w'' F b (Ar.Ru.mk p0 g0 gs cs R) [entZ] ∧ ∀ i, F i → w'.heap.size ≤ i) ∧ Below w'.heap.size w' w'')) (KM2 : Hid (∀ w', Below w.heap.size w w' → Calls Tryz.prog 28 #[.agg (NN.prA p), .int .i64 100] w' fun e w'' => ∃ b F, e = .returned (.pointer (some ⟨b, 0, none⟩)) ∧ (ArS w'' F b (Ar.Ru.mk p0 g0 gs cs 100) [entZ] ∧ ∀ i, F i → w'.heap.size ≤ i) ∧ Below w'.heap.size w' w'')) :
    Calls Tryz.prog 7 #[.agg (NN.prA p), .slice a n c, .int .i64 (R : Int)] w fun e w' => e = .returned (.bool true) ∧ Below w.heap.size w w' := by
  have hz := NN.prA_size hp
  go_enter Tryz.func7, Tryz.ntmps7
  go_upto_region 1 with fail
  generalize hw0 : World.alloc _ _ = v0
  have hB : Below w.heap.size w v0 := by rw [← hw0]; exact (Below.refl _ _).alloc (Nat.le_refl _) _
  have hP : NN.PrAt v0 w.heap.size p := by rw [← hw0]; exact NN.Has.new _ _
  clear hw0
  obtain ⟨bP, hbP⟩ : ∃ x, x = w.heap.size := ⟨_, rfl⟩
  rw [← hbP] at hP ⊢
  have HBP : Hid (bP = w.heap.size) := Lib.hid hbP
  clear hbP
  go_wp2_with (first | fail)
  refine (KA.out _ hB).mono ?_
  rintro e v1 ⟨rfl, hb⟩
  replace hP := hP.on hb
  replace hB := hB.trans (hb.mono hB.size)
  clear hb
  go_wp2_with (first | fail | (with_reducible refine NN.pr_load rfl _ rfl _ rfl hP hz ?_) | (with_reducible refine NN.pr_load_g (by with_unfolding_all rfl) _ rfl _ rfl hP hz ?_))
  refine (KG.out _ hB).mono ?_
  rintro e v2 ⟨rfl, hb⟩
  replace hP := hP.on hb
  replace hB := hB.trans (hb.mono hB.size)
  clear hb
  go_wp2_with (first | fail | (with_reducible refine NN.pr_load rfl _ rfl _ rfl hP hz ?_) | (with_reducible refine NN.pr_load_g (by with_unfolding_all rfl) _ rfl _ rfl hP hz ?_))
  refine (KR.out _ hB).mono ?_
  rintro e v3 ⟨rfl, hb⟩
  replace hP := hP.on hb
  replace hB := hB.trans (hb.mono hB.size)
  clear hb
  go_upto_region 5 with fail
  refine wp_region_inv (by kernel_rfl) (fun w' => Below v3.heap.size v3 w') (fun i v' _ => RmR p (R : Int) i v') (fun l a w' => RmI v3.heap.size (Ar.Ru.mk p0 g0 gs cs R) (Ar.Ru.mk p0 g0 gs cs 100) l a w') (fun _ _ => True) (fun _ _ => trivial) (fun _ _ _ _ _ _ h => h) (by kernel_rfl) (Below.refl _ _).drew ?_ ?_ ?_
  · exact fun l hl => ⟨fun h => (by rw [hl] at h; cases h), fun _ h => (by rw [hl] at h; cases h), fun h => (by rw [hl] at h; cases h), fun h => (by rw [hl] at h; cases h), fun h => (by rw [hl] at h; cases h)⟩
  · intro i o listed a wx ho' hnl hdep hinv
    have hC := hinv.c
    have hI := hinv.i
    have hi : i < 7 := (Array.getElem?_eq_some_iff.1 ho').1
    have hPx : NN.PrAt wx bP p := NN.PrAt.on hP hC
    obtain rfl | rfl | rfl | rfl | rfl | rfl | rfl : i = 0 ∨ i = 1 ∨ i = 2 ∨ i = 3 ∨ i = 4 ∨ i = 5 ∨ i = 6 := by omega
    all_goals obtain rfl := Option.some.inj ho'
    · have hsz : 0 < listed.size := by rw [hinv.size]; decide
      exact duty_value (C := fun w' => Below v3.heap.size v3 w') (S := fun _ _ => True) (R := fun v' _ => RmR p (R : Int) 0 v') (J := fun a w' => RmI v3.heap.size (Ar.Ru.mk p0 g0 gs cs R) (Ar.Ru.mk p0 g0 gs cs 100) (listed.setIfInBounds 0 true) a w') (fun _ _ => trivial) hC (wanted_free rfl) (NN.ex_load_pr rfl (hinv.old' 3 (by kernel_rfl)) hPx hz) rfl (hI.keep 0 hsz (by decide) (by decide) (by decide) (by decide) _ _ (by decide) (by decide) (by decide) (by decide))
    · have hsz : 1 < listed.size := by rw [hinv.size]; decide
      exact duty_value (C := fun w' => Below v3.heap.size v3 w') (S := fun _ _ => True) (R := fun v' _ => RmR p (R : Int) 1 v') (J := fun a w' => RmI v3.heap.size (Ar.Ru.mk p0 g0 gs cs R) (Ar.Ru.mk p0 g0 gs cs 100) (listed.setIfInBounds 1 true) a w') (fun _ _ => trivial) hC (wanted_free rfl) (NN.ex_move rfl) (hinv.old' 2 (by kernel_rfl)) (hI.keep 1 hsz (by decide) (by decide) (by decide) (by decide) _ _ (by decide) (by decide) (by decide) (by decide))
    · have hsz : 2 < listed.size := by rw [hinv.size]; decide
      have h5 : (listed.setIfInBounds 2 true).getD 5 false = false := hinv.aheadT 5 (by kernel_rfl) hnl (by decide) (by decide)
      have es : (listed.setIfInBounds 2 true).getD 2 false = true := by rw [getD_set _ _ _ hsz, if_pos rfl]
      have eo : (listed.setIfInBounds 2 true).getD 4 false = listed.getD 4 false := getD_none listed 2 4 hsz (by decide)
      have ev : (listed.setIfInBounds 2 true).getD 6 false = listed.getD 6 false := getD_none listed 2 6 hsz (by decide)
      exact duty_call_any (C := fun w' => Below v3.heap.size v3 w') (S := fun _ _ => True) (R := fun v' _ => RmR p (R : Int) 2 v') (J := fun a w' => RmI v3.heap.size (Ar.Ru.mk p0 g0 gs cs R) (Ar.Ru.mk p0 g0 gs cs 100) (listed.setIfInBounds 2 true) a w') (wanted_free rfl) (f := 28) (args := #[a.eval (.tmp 37), a.eval (.tmp 38)]) (by kernel_rfl) (by
        rw [show a.eval (.tmp 37) = _ from hinv.got 0 _ 37 rfl (hdep ⟨0, .data⟩ (by simp) rfl) rfl, show a.eval (.tmp 38) = _ from hinv.got 1 _ 38 rfl (hdep ⟨1, .data⟩ (by simp) rfl) rfl]
        refine (KM.out wx (hB.trans (hC.mono hB.size))).mono ?_
        rintro e w' ⟨b, F, rfl, ⟨g1, g2⟩, hb⟩
        have hlx := hC.size
        refine ⟨_, rfl, hC.trans (hb.mono hC.size), trivial, rfl, ?_⟩
        have e39 : (a.put (some 39) (.pointer (some ⟨b, 0, none⟩))).eval (.tmp 39) = .pointer (some ⟨b, 0, none⟩) := put_same a 39 _ (by rw [hinv.tsize]; exact (show 39 < 113 by decide))
        have e41 : ∀ u, (a.put (some 39) u).eval (.tmp 41) = a.eval (.tmp 41) := fun u => Act.eval_put (fun d' hdd e => by cases hdd; cases e)
        have e8 : ∀ u, (a.put (some 39) u).eval (.tmp 8) = a.eval (.tmp 8) := fun u => Act.eval_put (fun d' hdd e => by cases hdd; cases e)
        unfold RmI
        rw [es, eo, h5, ev]
        cases ho : listed.getD 4 false
        · exact ⟨fun _ _ => ⟨b, F, e39, g1, fun i hi => Nat.le_trans hlx (g2 i hi)⟩, fun h => (by cases h), fun _ h => (by cases h), fun h => (by cases h), fun h => ((e8 _).trans (hI.2.2.2.2 h)).trans (e41 _).symm⟩
        · obtain ⟨b', F', e1, g3, g4⟩ := hI.2.1 hnl ho
          have g5 := g3.1
          exact ⟨fun _ h => (by cases h), fun h => (by cases h), fun _ _ => ⟨b, F, b', F', e39, (e41 _).trans e1, g1, g3.below hb, fun i hi => Nat.le_trans hlx (g2 i hi), g4, fun i hi hf => by have := g2 i hi; have := g5 i hf; omega⟩, fun h => (by cases h), fun h => ((e8 _).trans (hI.2.2.2.2 h)).trans (e41 _).symm⟩)
    · have hsz : 3 < listed.size := by rw [hinv.size]; decide
      exact duty_value (C := fun w' => Below v3.heap.size v3 w') (S := fun _ _ => True) (R := fun v' _ => RmR p (R : Int) 3 v') (J := fun a w' => RmI v3.heap.size (Ar.Ru.mk p0 g0 gs cs R) (Ar.Ru.mk p0 g0 gs cs 100) (listed.setIfInBounds 3 true) a w') (fun _ _ => trivial) hC (wanted_free rfl) (NN.ex_load_pr rfl (hinv.old' 3 (by kernel_rfl)) hPx hz) rfl (hI.keep 3 hsz (by decide) (by decide) (by decide) (by decide) _ _ (by decide) (by decide) (by decide) (by decide))
    · have hsz : 4 < listed.size := by rw [hinv.size]; decide
      have h5 : (listed.setIfInBounds 4 true).getD 6 false = false := hinv.aheadT 6 (by kernel_rfl) hnl (by decide) (by decide)
      have es : (listed.setIfInBounds 4 true).getD 4 false = true := by rw [getD_set _ _ _ hsz, if_pos rfl]
      have eo : (listed.setIfInBounds 4 true).getD 2 false = listed.getD 2 false := getD_none listed 4 2 hsz (by decide)
      have ev : (listed.setIfInBounds 4 true).getD 5 false = listed.getD 5 false := getD_none listed 4 5 hsz (by decide)
      exact duty_call_any (C := fun w' => Below v3.heap.size v3 w') (S := fun _ _ => True) (R := fun v' _ => RmR p (R : Int) 4 v') (J := fun a w' => RmI v3.heap.size (Ar.Ru.mk p0 g0 gs cs R) (Ar.Ru.mk p0 g0 gs cs 100) (listed.setIfInBounds 4 true) a w') (wanted_free rfl) (f := 28) (args := #[a.eval (.tmp 40), .int .i64 100]) (by kernel_rfl) (by
        rw [show a.eval (.tmp 40) = _ from hinv.got 3 _ 40 rfl (hdep ⟨3, .data⟩ (by simp) rfl) rfl]
        refine (KM2.out wx (hB.trans (hC.mono hB.size))).mono ?_
        rintro e w' ⟨b, F, rfl, ⟨g1, g2⟩, hb⟩
        have hlx := hC.size
        refine ⟨_, rfl, hC.trans (hb.mono hC.size), trivial, rfl, ?_⟩
        have e41 : (a.put (some 41) (.pointer (some ⟨b, 0, none⟩))).eval (.tmp 41) = .pointer (some ⟨b, 0, none⟩) := put_same a 41 _ (by rw [hinv.tsize]; exact (show 41 < 113 by decide))
        have e39 : ∀ u, (a.put (some 41) u).eval (.tmp 39) = a.eval (.tmp 39) := fun u => Act.eval_put (fun d' hdd e => by cases hdd; cases e)
        have e8 : ∀ u, (a.put (some 41) u).eval (.tmp 7) = a.eval (.tmp 7) := fun u => Act.eval_put (fun d' hdd e => by cases hdd; cases e)
        unfold RmI
        rw [es, eo, h5, ev]
        cases ho : listed.getD 2 false
        · exact ⟨fun h => (by cases h), fun _ _ => ⟨b, F, e41, g1, fun i hi => Nat.le_trans hlx (g2 i hi)⟩, fun h => (by cases h), fun h => ((e8 _).trans (hI.2.2.2.1 h)).trans (e39 _).symm, fun h => (by cases h)⟩
        · obtain ⟨b', F', e1, g3, g4⟩ := hI.1 ho hnl
          have g5 := g3.1
          exact ⟨fun _ h => (by cases h), fun h => (by cases h), fun _ _ => ⟨b', F', b, F, (e39 _).trans e1, e41, g3.below hb, g1, g4, fun i hi => Nat.le_trans hlx (g2 i hi), fun i hf hi => by have := g2 i hi; have := g5 i hf; omega⟩, fun h => ((e8 _).trans (hI.2.2.2.1 h)).trans (e39 _).symm, fun h => (by cases h)⟩)
    · have hsz : 5 < listed.size := by rw [hinv.size]; decide
      refine duty_value (C := fun w' => Below v3.heap.size v3 w') (S := fun _ _ => True) (R := fun v' _ => RmR p (R : Int) 5 v') (J := fun a w' => RmI v3.heap.size (Ar.Ru.mk p0 g0 gs cs R) (Ar.Ru.mk p0 g0 gs cs 100) (listed.setIfInBounds 5 true) a w') (fun _ _ => trivial) hC (wanted_free rfl) (NN.ex_assign rfl) rfl ?_
      have e1 : ∀ u, (a.put (some 7) u).eval (.tmp 39) = a.eval (.tmp 39) := fun u => Act.eval_put (fun d' hdd e => by cases hdd; cases e)
      have e2 : ∀ u, (a.put (some 7) u).eval (.tmp 41) = a.eval (.tmp 41) := fun u => Act.eval_put (fun d' hdd e => by cases hdd; cases e)
      have e3 : ∀ u, (a.put (some 7) u).eval (.tmp 8) = a.eval (.tmp 8) := fun u => Act.eval_put (fun d' hdd e => by cases hdd; cases e)
      have e4 : (a.put (some 7) (a.eval (.tmp 39))).eval (.tmp 7) = a.eval (.tmp 39) := put_same a 7 _ (by rw [hinv.tsize]; exact (show 7 < 113 by decide))
      unfold RmI at *
      rw [getD_none listed 5 2 hsz (by decide), getD_none listed 5 4 hsz (by decide), getD_none listed 5 6 hsz (by decide)]
      refine ⟨fun h2 h4 => ?_, fun h2 h4 => ?_, fun h2 h4 => ?_, fun _ => e4.trans (e1 _).symm, fun h => ((e3 _).trans (hI.2.2.2.2 h)).trans (e2 _).symm⟩
      · obtain ⟨b, F, q1, q2⟩ := hI.1 h2 h4
        exact ⟨b, F, (e1 _).trans q1, q2⟩
      · obtain ⟨b, F, q1, q2⟩ := hI.2.1 h2 h4
        exact ⟨b, F, (e2 _).trans q1, q2⟩
      · obtain ⟨b, F, b', F', q1, q2, q3⟩ := hI.2.2.1 h2 h4
        exact ⟨b, F, b', F', (e1 _).trans q1, (e2 _).trans q2, q3⟩
    · have hsz : 6 < listed.size := by rw [hinv.size]; decide
      refine duty_value (C := fun w' => Below v3.heap.size v3 w') (S := fun _ _ => True) (R := fun v' _ => RmR p (R : Int) 6 v') (J := fun a w' => RmI v3.heap.size (Ar.Ru.mk p0 g0 gs cs R) (Ar.Ru.mk p0 g0 gs cs 100) (listed.setIfInBounds 6 true) a w') (fun _ _ => trivial) hC (wanted_free rfl) (NN.ex_assign rfl) rfl ?_
      have e1 : ∀ u, (a.put (some 8) u).eval (.tmp 39) = a.eval (.tmp 39) := fun u => Act.eval_put (fun d' hdd e => by cases hdd; cases e)
      have e2 : ∀ u, (a.put (some 8) u).eval (.tmp 41) = a.eval (.tmp 41) := fun u => Act.eval_put (fun d' hdd e => by cases hdd; cases e)
      have e3 : ∀ u, (a.put (some 8) u).eval (.tmp 7) = a.eval (.tmp 7) := fun u => Act.eval_put (fun d' hdd e => by cases hdd; cases e)
      have e4 : (a.put (some 8) (a.eval (.tmp 41))).eval (.tmp 8) = a.eval (.tmp 41) := put_same a 8 _ (by rw [hinv.tsize]; exact (show 8 < 113 by decide))
      unfold RmI at *
      rw [getD_none listed 6 2 hsz (by decide), getD_none listed 6 4 hsz (by decide), getD_none listed 6 5 hsz (by decide)]
      refine ⟨fun h2 h4 => ?_, fun h2 h4 => ?_, fun h2 h4 => ?_, fun h => ((e3 _).trans (hI.2.2.2.1 h)).trans (e1 _).symm, fun _ => e4.trans (e2 _).symm⟩
      · obtain ⟨b, F, q1, q2⟩ := hI.1 h2 h4
        exact ⟨b, F, (e1 _).trans q1, q2⟩
      · obtain ⟨b, F, q1, q2⟩ := hI.2.1 h2 h4
        exact ⟨b, F, (e2 _).trans q1, q2⟩
      · obtain ⟨b, F, b', F', q1, q2, q3⟩ := hI.2.2.1 h2 h4
        exact ⟨b, F, b', F', (e1 _).trans q1, (e2 _).trans q2, q3⟩
  intro listed a' v4 hall hinv
  have hC := hinv.c
  obtain ⟨ba, Fa, bb, Fb, e39, e41, hSa, hSb, hFa, hFb, hd⟩ := hinv.i.2.2.1 (hall 2 (by decide)) (hall 4 (by decide))
  have e7 : a'.eval (.tmp 7) = .pointer (some ⟨ba, 0, none⟩) := (hinv.i.2.2.2.1 (hall 5 (by decide))).trans e39
  have e8 : a'.eval (.tmp 8) = .pointer (some ⟨bb, 0, none⟩) := (hinv.i.2.2.2.2 (hall 6 (by decide))).trans e41
  have e1 : a'.eval (.tmp 1) = .slice a n c := hinv.old' 1 (by kernel_rfl)
  have e2 : a'.eval (.tmp 2) = .int .i64 (R : Int) := hinv.old' 2 (by kernel_rfl)
  clear e39 e41
  obtain ⟨u, hu⟩ : ∃ u : Nat → Value, ∀ t, u t = a'.eval (.tmp t) := ⟨_, fun _ => rfl⟩
  rw [rl_frame a' 113 u hinv.tsize hinv.defers hu]
  rw [← hu] at e1 e2 e7 e8
  clear hu hinv hall
  show Exit.then _ _ _ (⟨#[u 0, u 1, u 2, u 3, u 4, u 5, u 6, u 7, u 8, u 9, u 10, u 11, u 12, u 13, u 14, u 15, u 16, u 17, u 18, u 19, u 20, u 21, u 22, u 23, u 24, u 25, u 26, u 27, u 28, u 29, u 30, u 31, u 32, u 33, u 34, u 35, u 36, u 37, u 38, u 39, u 40, u 41, u 42, u 43, u 44, u 45, u 46, u 47, u 48, u 49, u 50, u 51, u 52, u 53, u 54, u 55, u 56, u 57, u 58, u 59, u 60, u 61, u 62, u 63, u 64, u 65, u 66, u 67, u 68, u 69, u 70, u 71, u 72, u 73, u 74, u 75, u 76, u 77, u 78, u 79, u 80, u 81, u 82, u 83, u 84, u 85, u 86, u 87, u 88, u 89, u 90, u 91, u 92, u 93, u 94, u 95, u 96, u 97, u 98, u 99, u 100, u 101, u 102, u 103, u 104, u 105, u 106, u 107, u 108, u 109, u 110, u 111, u 112], []⟩ : Act) v4
  rw [e1, e2, e7, e8]
  clear e1 e2 e7 e8
  have HF0 : Hid ((∀ i, Fa i → w.heap.size ≤ i) ∧ (∀ i, Fb i → w.heap.size ≤ i) ∧ ∀ i, Fa i → ¬ Fb i) := Lib.hid ⟨fun i hi => Nat.le_trans hB.size (hFa i hi), fun i hi => Nat.le_trans hB.size (hFb i hi), hd⟩
  have hB4 := hB.trans (hC.mono hB.size)
  clear hC hB hP hFa hFb hd
  go_wp2_with fail
  go_loopw [44] (fun i wr => ∃ k : Nat, k ≤ n ∧ i = .int .i64 (k : Int) ∧ ∃ Fa Fb M, ArS wr Fa ba (Ar.Ru.mk p0 g0 gs cs R) (M.take R) ∧ ArS wr Fb bb (Ar.Ru.mk p0 g0 gs cs 100) M ∧ Hid (Ok (Ar.Ru.mk p0 g0 gs cs R) (M.take R) ∧ Ok (Ar.Ru.mk p0 g0 gs cs 100) M ∧ M.length ≤ k + 1 ∧ (∀ i, Fa i → w.heap.size ≤ i) ∧ (∀ i, Fb i → w.heap.size ≤ i) ∧ ∀ i, Fa i → ¬ Fb i) ∧ Below w.heap.size w wr) (fun i _ => n - (intOf i).toNat)
  case atStart =>
    have e0 : ([entZ] : List Ent).take R = [entZ] := List.take_of_length_le hR1
    exact ⟨0, by omega, rfl, Fa, Fb, [entZ], by rw [e0]; exact hSa, hSb, Lib.hid ⟨by rw [e0]; exact Ok.one _, Ok.one _, Nat.le_refl _, HF0.out.1, HF0.out.2.1, HF0.out.2.2⟩, hB4⟩
  case round =>
    clear hSa hSb hB4 HF0 Fa Fb
    obtain ⟨k, hk, rfl, Fa, Fb, M, hSa, hSb, HM, hB⟩ := hrel
    by_cases hlt : k < n
    · obtain ⟨ab, ao, hae, habl, hc⟩ := (HA.out _ hB) (by rw [← HN.out]; omega)
      subst hae
      have hk2 : k < ls.length := by rw [← HN.out]; exact hlt
      obtain ⟨q0, q1⟩ := hc k hk2
      clear hc
      generalize ls[k] = y at *
      clear hk2
      have z1 := cmC_length q0
      have z2 := cmA_size q0
      have z0 := cmA_size (c := cmZ) hdZ_ok
      have zy := hdC_length q0
      have hb2 : Below wr.heap.size wr ((wr.alloc (.cells Tryz.zeroCells54 54)).setRow wr.heap.size (cmA y)) := below_setRow ((Below.refl _ _).alloc (Nat.le_refl _) _) (Nat.le_refl _) _
      have hY := cm_made wr y
      have hnew := cm_newz wr
      have hB2 := hB.trans (hb2.mono hB.size)
      have hSa2 := hSa.below hb2
      have hSb2 := hSb.below hb2
      have hT2 := HT.out _ hB2
      have cn := hY.now q0
      have rh := hY.head
      have hnY : ¬ Fa wr.heap.size := fun hf => by have := hSa.1 _ hf; omega
      have KAdd := Lib.hid (add_at hSa2 HM.out.1 (by have := HM.out.2.2.1; rw [List.length_take]; omega) HG.out.2.2.1 HG.out.2.2.2 hT2 y.h q0 y.now)
      clear hSa hSb hSa2 hB hT2
      go_wp2_with (first | (with_reducible refine cm_load_mid rfl _ rfl ab (ao + k * 69) rfl y q1 z1 ?_) | (with_reducible refine cm_store rfl _ _ rfl _ _ y rfl rfl rfl z2 hnew z0 ?_) | (with_reducible refine hd_load_mid rfl _ rfl _ 0 rfl y.h rh zy ?_))
      refine KAdd.out.mono ?_
      rintro e v6 ⟨rfl, hSa6, hK6⟩
      generalize World.setRow _ _ _ = v5 at *
      obtain ⟨bY, hbY⟩ : ∃ x, x = wr.heap.size := ⟨_, rfl⟩
      rw [← hbY] at hY hnY ⊢
      clear hbY
      have hY6 : CmAt v6 bY y := hK6.has hY hnY
      have hSb6 := hSb2.on hK6 (fun i hi hf => HM.out.2.2.2.2.2 i hf hi)
      have hB6 := hB2.trans (hK6.below HM.out.2.2.2.1 hB2.size)
      have cn6 := hY6.now q0
      have rh6 := hY6.head
      have KAdd2 := Lib.hid (add_at hSb6 HM.out.2.1 (by have := HM.out.2.2.1; omega) HG.out.2.2.1 HG.out.2.2.2 (HT.out _ hB6) y.h q0 y.now)
      have HDj : Hid (∀ i, Nxt Fa v5 v6 i → ¬ Fb i) := Lib.hid fun i hi hf => hi.elim (fun h => HM.out.2.2.2.2.2 i h hf) (fun h => by have := hSb2.1 i hf; omega)
      have HFa6 : Hid (∀ i, Nxt Fa v5 v6 i → w.heap.size ≤ i) := Lib.hid fun i hi => hi.elim (HM.out.2.2.2.1 i) (fun h => Nat.le_trans hB2.size h.1)
      have eM := Ar.add_room (Ar.Ru.mk p0 g0 gs cs 100) R y.h y.now (show M.length < 100 by have := HM.out.2.2.1; omega)
      have eM' : (Ar.add (Ar.Ru.mk p0 g0 gs cs R) (M.take R) y.h y.now).2 = (Ar.add (Ar.Ru.mk p0 g0 gs cs 100) M y.h y.now).2.take R := eM
      have eF := add_full_is (Ar.Ru.mk p0 g0 gs cs R) (M.take R) y.h y.now
      have hOka := HM.out.1.add q0 y.now
      have hOkb := HM.out.2.1.add q0 y.now
      have hlen := add_len (Ar.Ru.mk p0 g0 gs cs 100) M y.h y.now
      have HL2 : Hid (M.length ≤ k + 1) := Lib.hid HM.out.2.2.1
      have HFb : Hid (∀ i, Fb i → w.heap.size ≤ i) := Lib.hid HM.out.2.2.2.2.1
      clear hK6 hB2 KAdd hb2 HM hSb2 hY hnY cn rh
      rw [eM'] at hSa6 hOka
      generalize hres : (Ar.add (Ar.Ru.mk p0 g0 gs cs R) (M.take R) y.h y.now).1 = res at *
      obtain ⟨x1, x2, er⟩ := res
      go_wp2_with (first | fail | (with_reducible refine hd_load_mid rfl _ rfl _ 0 rfl y.h rh6 zy ?_))
      refine KAdd2.out.mono ?_
      rintro e v7 ⟨rfl, hSb7, hK7⟩
      have hSa7 := hSa6.on hK7 (fun i hi hf => HDj.out i hi hf)
      have hB7 := hB6.trans (hK7.below HFb.out hB6.size)
      have hlx := hSa6.1
      have HM7 : Hid (Ok (Ar.Ru.mk p0 g0 gs cs R) ((Ar.add (Ar.Ru.mk p0 g0 gs cs 100) M y.h y.now).2.take R) ∧ Ok (Ar.Ru.mk p0 g0 gs cs 100) (Ar.add (Ar.Ru.mk p0 g0 gs cs 100) M y.h y.now).2 ∧ (Ar.add (Ar.Ru.mk p0 g0 gs cs 100) M y.h y.now).2.length ≤ k + 1 + 1 ∧ (∀ i, Nxt Fa v5 v6 i → w.heap.size ≤ i) ∧ (∀ i, Nxt Fb v6 v7 i → w.heap.size ≤ i) ∧ ∀ i, Nxt Fa v5 v6 i → ¬ Nxt Fb v6 v7 i) := Lib.hid ⟨hOka, hOkb, by have := HL2.out; omega, HFa6.out, fun i hi => hi.elim (HFb.out i) (fun h => Nat.le_trans hB6.size h.1), fun i hi hf => hf.elim (HDj.out i hi) (fun h => by have := hlx i hi; omega)⟩
      have HEF : Hid (er = 6 → ((Ar.add (Ar.Ru.mk p0 g0 gs cs 100) M y.h y.now).2.take R).length = R) := Lib.hid fun e6 => by
        obtain ⟨f1, f2⟩ := eF e6
        rw [← eM', f2]
        have : R ≤ (M.take R).length := f1
        rw [List.length_take] at this ⊢
        omega
      clear hK7 hB6 KAdd2 hSa6 hSb6 hOka hOkb hlen hlx eM eM' eF HDj HFa6 hres cn6 rh6 hY6
      generalize (Ar.add (Ar.Ru.mk p0 g0 gs cs 100) M y.h y.now).1 = res2 at *
      generalize (Ar.add (Ar.Ru.mk p0 g0 gs cs 100) M y.h y.now).2 = M' at *
      generalize Nxt Fa v5 v6 = Fa' at *
      generalize Nxt Fb v6 v7 = Fb' at *
      obtain ⟨LA, hLA⟩ : ∃ x, x = (M'.take R).length := ⟨_, rfl⟩
      have hLR : ¬ R < LA := by rw [hLA, List.length_take]; omega
      have KL := Lib.hid fun (w' : World) (hb : Below v7.heap.size v7 w') => len_at (hSa7.below hb)
      rw [← hLA] at KL HEF
      clear hLA
      cases t6 : (er == 6)
      · go_wp2_with fail
        refine (KL.out _ (Below.refl _ _)).mono ?_
        rintro e v8 ⟨rfl, hb⟩
        replace hSa7 := hSa7.below hb
        replace hSb7 := hSb7.below hb
        replace hB7 := hB7.trans (hb.mono hB7.size)
        clear hb KL
        go_wp2_with fail
        go_roundw
        case rel => exact ⟨k + 1, by omega, by go_num, Fa', Fb', M', hSa7, hSb7, HM7, hB7⟩
        case measure => simp [intOf]; omega
      · have hLA2 : LA = R := HEF.out (by simpa using t6)
        obtain rfl : er = 6 := by simpa using t6
        clear t6 HEF
        subst hLA2
        go_wp2_with fail
        refine (KL.out _ (Below.refl _ _)).mono ?_
        rintro e v8 ⟨rfl, hb⟩
        replace hSa7 := hSa7.below hb
        replace hSb7 := hSb7.below hb
        replace hB7 := hB7.trans (hb.mono hB7.size)
        go_wp2_with fail
        refine (KL.out _ hb).mono ?_
        rintro e v9 ⟨rfl, hb⟩
        replace hSa7 := hSa7.below hb
        replace hSb7 := hSb7.below hb
        replace hB7 := hB7.trans (hb.mono hB7.size)
        clear hb KL
        go_wp2_with fail
        go_roundw
        case rel => exact ⟨k + 1, by omega, by go_num, Fa', Fb', M', hSa7, hSb7, HM7, hB7⟩
        case measure => simp [intOf]; omega
    · obtain rfl : k = n := by omega
      have hml := HM.out.2.2.1
      have hnew := en_newz
      obtain ⟨LA, hLA⟩ : ∃ x, x = (M.take R).length := ⟨_, rfl⟩
      have HLA := Lib.hid hLA
      have hmin := NN.min_is (P := Tryz.prog) ((M.length : Nat) : Int) (R : Int) (LA : Int) (by rw [hLA, List.length_take]; omega)
      have hLA41 : LA ≤ 41 := by rw [hLA, List.length_take]; omega
      clear HM hml hLA
      go_wp2_with fail
      go_loopw [14] (fun i wr => ∃ k : Nat, k ≤ LA ∧ i = .int .i64 (k : Int) ∧ ArS wr Fa ba (Ar.Ru.mk p0 g0 gs cs R) (M.take R) ∧ ArS wr Fb bb (Ar.Ru.mk p0 g0 gs cs 100) M ∧ Below w.heap.size w wr) (fun i _ => LA - (intOf i).toNat)
      case atStart => exact ⟨0, by omega, rfl, hSa, hSb, hB⟩
      case round =>
        clear hSa hSb hB
        obtain ⟨i, hi, rfl, hSa, hSb, hB⟩ := hrel
        go_wp2_with fail
        refine (len_at hSa).mono ?_
        rintro x v8 ⟨rfl, hb⟩
        replace hSa := hSa.below hb
        replace hSb := hSb.below hb
        replace hB := hB.trans (hb.mono hB.size)
        clear hb
        rw [← HLA.out]
        by_cases hlt : i < LA
        · have hiM : i < M.length ∧ i < R := by have := HLA.out; rw [List.length_take] at this; omega
          have he : M[i]? = some (M[i]'hiM.1) := List.getElem?_eq_getElem _
          generalize M[i]'hiM.1 = e at he
          have he2 : (M.take R)[i]? = some e := by rw [List.getElem?_take, if_pos hiM.2]; exact he
          have hok := enOf_ok hSb he
          have KA1 := Lib.hid (at_at hSa he2 (i : Int) rfl)
          have KA2 := Lib.hid fun (w' : World) (hb : Below v8.heap.size v8 w') => at_at (hSb.below hb) he (i : Int) rfl
          rw [show enOf (Ar.Ru.mk p0 g0 gs cs R) e = enOf (Ar.Ru.mk p0 g0 gs cs 100) e from rfl] at KA1
          have ze := enA_size hok
          have zz := enA_size enZ_ok
          have hq := en_neq (enOf (Ar.Ru.mk p0 g0 gs cs 100) e) hok
          generalize enOf (Ar.Ru.mk p0 g0 gs cs 100) e = E at *
          clear he he2 hiM
          go_wp2_with fail
          refine KA1.out.mono ?_
          rintro x v9 ⟨rfl, hb⟩
          replace hSa := hSa.below hb
          replace hSb := hSb.below hb
          replace hB := hB.trans (hb.mono hB.size)
          clear KA1
          have hb2 := mk_below v9 44 Tryz.zeroCells44 (enA E)
          have hE := en_made v9 E
          go_upto_region 18 with (with_reducible refine en_store rfl _ _ rfl _ _ E rfl rfl rfl ze (hnew v9) zz ?_)
          generalize World.setRow _ _ _ = v10 at *
          replace hb := hb.trans (hb2.mono hb.size)
          replace hSa := hSa.below hb2
          replace hSb := hSb.below hb2
          replace hB := hB.trans (hb2.mono hB.size)
          generalize v9.heap.size = bE at *
          clear hb2
          go_wp2_with fail
          refine (KA2.out _ hb).mono ?_
          rintro x v11 ⟨rfl, hb⟩
          replace hE := EnAt.on hE hb
          replace hSa := hSa.below hb
          replace hSb := hSb.below hb
          replace hB := hB.trans (hb.mono hB.size)
          clear KA2 hb
          have hb2 := mk_below v11 44 Tryz.zeroCells44 (enA E)
          have hU := en_made v11 E
          go_upto_region 19 with (with_reducible refine en_store rfl _ _ rfl _ _ E rfl rfl rfl ze (hnew v11) zz ?_)
          generalize World.setRow _ _ _ = v12 at *
          replace hE := EnAt.on hE hb2
          replace hSa := hSa.below hb2
          replace hSb := hSb.below hb2
          replace hB := hB.trans (hb2.mono hB.size)
          generalize v11.heap.size = bU at *
          clear hb2
          go_wp2_with (first
            | (with_reducible refine en_load rfl _ rfl _ rfl hE ze ?_)
            | (with_reducible refine en_load rfl _ rfl _ rfl hU ze ?_)
            | (with_reducible refine enneq_f rfl _ _ _ rfl _ _ _ rfl rfl hq ?_))
          go_roundw
          case rel => exact ⟨i + 1, by omega, by go_num, hSa, hSb, hB⟩
          case measure => simp [intOf]; omega
        · obtain rfl : i = LA := by omega
          have KA1 := Lib.hid (len_at hSa)
          have KA2 := Lib.hid fun (w' : World) (hb : Below v8.heap.size v8 w') => len_at (hSb.below hb)
          rw [← HLA.out] at KA1
          generalize M.length = LB at *
          clear HLA
          go_wp2_with fail
          refine KA1.out.mono ?_
          rintro x v9 ⟨rfl, hb⟩
          replace hB := hB.trans (hb.mono hB.size)
          go_wp2_with fail
          refine (KA2.out _ hb).mono ?_
          rintro x v10 ⟨rfl, hb⟩
          replace hB := hB.trans (hb.mono hB.size)
          go_wp2_with fail
          go_ret
          exact ⟨rfl, hB⟩
theorem room_walk (p : NN.Pr) (hp : p.ok) (h1 : p.one) (t : Tl) (tt : p.tl = t.C) (ht : t.ok) (gs : List Gt) (cs : List Ck) (hgn : t.gn = gs.length) (hcn : t.cn = cs.length) (a : Option Addr) (ls : List Cm) (n c : Nat) (hn : n = ls.length) (hl : n ≤ 4611686018427387904) (_ : ∀ x ∈ ls, -9223372036854775808 ≤ x.now ∧ x.now ≤ 9223372036854775807) (room : Int) (w : World) (hT : Tab w) (hA : ComesAt w a ls) (hG : GatesAt w t.ga gs) (hC : ChecksAt w t.ca cs) :
    Calls Tryz.prog 7 #[.agg (NN.prA p), .slice a n c, .int .i64 room] w fun e w' => e = .returned (.bool true) ∧ Below w.heap.size w w' := by
  have KA : Hid (∀ w', Below w.heap.size w w' → Calls Tryz.prog 8 #[] w' fun e w'' => e = .returned (.bool true) ∧ Below w'.heap.size w' w'') := Lib.hid fun w' hb => alive12 w' (hT.below hb)
  have KG : ∀ g, grt t ls = g → Hid (∀ w', Below w.heap.size w w' → Calls Tryz.prog 9 #[.agg (NN.prA p), .slice a n c] w' fun e w'' => e = .returned (.bool g) ∧ Below w'.heap.size w' w'') := fun g hg => Lib.hid fun w' hb => grt_at p t tt ls n a c hn hl g hg w' (hA.below hb)
  cases hg : grt t ls
  · have KG1 := KG false hg
    unfold grt at hg
    simp only [Bool.or_eq_false_iff, decide_eq_false_iff_not] at hg
    obtain ⟨⟨⟨hg0, hg1⟩, hg2⟩, hg3⟩ := hg
    have KR : ∀ g, ruleP p t.g gs cs = g → Hid (∀ w', Below w.heap.size w w' → Calls Tryz.prog 17 #[.agg (NN.prA p)] w' fun e w'' => e = .returned (.bool g) ∧ Below w'.heap.size w' w'') := fun g hr => Lib.hid fun w' hb => by
      rw [← hr]
      exact rgood11_at p hp t tt ht gs cs hgn hcn (by omega) (by omega) w' (hG.below hb) (hC.below hb)
    cases hr : ruleP p t.g gs cs
    · exact room_bad p hp a n c room w KA KG1 (KR false hr)
    · have hgP : t.g.P := by
        unfold ruleP at hr
        simp only [Bool.and_eq_true, decide_eq_true_eq] at hr
        exact hr.1.1.2
      have KN : ∀ room : Int, Hid (∀ w', Below w.heap.size w w' → Calls Tryz.prog 10 #[.agg (NN.prA p), .int .i64 room] w' fun e w'' => ∃ b F, e = .returned (.tuple #[.pointer (some ⟨b, 0, none⟩), .int .i64 0]) ∧ ArS w'' F b ⟨p, t.g, gs, cs, clampR room⟩ [entZ] ∧ (∀ i, F i → w'.heap.size ≤ i) ∧ Below w'.heap.size w' w'') := fun room => Lib.hid fun w' hb => new_at p hp h1 t tt ht gs cs hgn hcn (by omega) (by omega) room hr w' (hT.below hb) (hG.below hb) (hC.below hb)
      have HA := Lib.hid fun w' (hb : Below w.heap.size w w') => hA.below hb
      have HT := Lib.hid fun w' (hb : Below w.heap.size w w') => hT.below hb
      have hn40 : n ≤ 40 := by omega
      have HGG : Hid (t.g.ok ∧ t.g.P ∧ gs.length ≤ 1000 ∧ cs.length ≤ 1000) := Lib.hid ⟨ht.2, hgP, by omega, by omega⟩
      cases hr1 : decide (room < 1)
      · cases hr2 : decide (40 < room)
        · have h1 := of_decide_eq_false hr1
          have h2 := of_decide_eq_false hr2
          obtain ⟨R, rfl⟩ : ∃ R : Nat, room = (R : Int) := ⟨room.toNat, by omega⟩
          have KM : ∀ room : Int, Hid (∀ w', Below w.heap.size w w' → Calls Tryz.prog 28 #[.agg (NN.prA p), .int .i64 room] w' fun e w'' => ∃ b F, e = .returned (.pointer (some ⟨b, 0, none⟩)) ∧ (ArS w'' F b ⟨p, t.g, gs, cs, clampR room⟩ [entZ] ∧ ∀ i, F i → w'.heap.size ≤ i) ∧ Below w'.heap.size w' w'') := fun room => Lib.hid fun w' hb => must_at p hp room _ w' (Lib.hid fun w2 hb2 => (KN room).out w2 (hb.trans (hb2.mono hb.size)))
          have e1 : clampR (R : Int) = R := by unfold clampR; omega
          have e2 : clampR 100 = 100 := by unfold clampR; omega
          have K1 := KM (R : Int)
          have K2 := KM 100
          rw [e1] at K1
          rw [e2] at K2
          exact room_main p hp p t.g gs cs R a n c ls w (by omega) (by omega) hr1 hr2 HA (Lib.hid hn) hn40 HT HGG KA KG1 (KR true hr) K1 K2
        · exact room_high p hp a n c room w hr1 hr2 KA KG1 (KR true hr)
      · exact room_low p hp a n c room w hr1 KA KG1 (KR true hr)
  · exact room_great p hp a n c room w KA (KG true hg)
end Go.Proofs.YtkclahiiijfllaaGreatDoor.An
namespace Go.Proofs.YtkclahiiijfllaaGreatDoor.An
open Go.RowKit Mem Sc
open Ar (Ent Ru entZ Ok)
end Go.Proofs.YtkclahiiijfllaaGreatDoor.An
namespace Go.Proofs.YtkclahiiijfllaaGreatDoor.An
open Go.RowKit Mem Sc NN.Rg2
open Ar (Ent Ru entZ Ok)
end Go.Proofs.YtkclahiiijfllaaGreatDoor.An
