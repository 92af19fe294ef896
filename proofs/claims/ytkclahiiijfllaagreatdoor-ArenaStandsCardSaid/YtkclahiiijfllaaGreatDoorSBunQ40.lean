import Derived.Test.YtkclahiiijfllaaGreatDoorSIdm
import Derived.Test.YtkclahiiijfllaaGreatDoorSBunQ39
import Derived.Test.YtkclahiiijfllaaGreatDoorSBunQ35
set_option maxRecDepth 100000
set_option maxHeartbeats 4000000
namespace Go.Proofs.YtkclahiiijfllaaGreatDoor.An
open Go.RowKit Mem Sc NN.Rg2
open Ar (Ent Ru entZ Ok)
theorem must_at (p : NN.Pr) (hp : p.ok) (room : Int) (r : Ru) (w : World) (KN : Hid (∀ w', Below w.heap.size w w' → Calls Tryz.prog 10 #[.agg (NN.prA p), .int .i64 room] w' fun e w'' => ∃ b F, e = .returned (.tuple #[.pointer (some ⟨b, 0, none⟩), .int .i64 0]) ∧ ArS w'' F b r [entZ] ∧ (∀ i, F i → w'.heap.size ≤ i) ∧ Below w'.heap.size w' w'')) :
  Calls Tryz.prog 28 #[.agg (NN.prA p), .int .i64 room] w fun e w' => ∃ b F, e = .returned (.pointer (some ⟨b, 0, none⟩)) ∧ (ArS w' F b r [entZ] ∧ ∀ i, F i → w.heap.size ≤ i) ∧ Below w.heap.size w w' := by
 have hz := NN.qal_ hp
 go_enter Tryz.func28, Tryz.ntmps28
 go_upto_region 1 with fail
 generalize hw0 : World.alloc _ _ = v0
 have hB : Below w.heap.size w v0 := bl_ hw0
 have hP : NN.PrAt v0 w.heap.size p := by rw [← hw0]; exact NN.Has.new _ _
 clear hw0
 go_wp2_with (first | fail | (with_reducible refine NN.qh_ rfl _ rfl _ rfl hP hz ?_))
 refine (KN.out _ hB).mono ?_
 rintro e v4 ⟨b, F, rfl, hS, hF, hb⟩
 have hF0 : ∀ i, F i → w.heap.size ≤ i := fun i hi => Nat.le_trans hB.size (hF i hi)
 replace hB := hB.trans (hb.mono hB.size)
 clear hb hF hP
 go_wp2_with fail
 go_ret
 exact ⟨b, F, rfl, ⟨hS, hF0⟩, hB⟩
def RmI (B : Nat) (ra rb : Ru) (l : Array Bool) (a : Act) (w : World) : Prop :=
 (l.getD 2 false = true → l.getD 4 false = false → ∃ b F, a.eval (.tmp 39) = .pointer (some ⟨b, 0, none⟩) ∧ ArS w F b ra [entZ] ∧ ∀ i, F i → B ≤ i) ∧
 (l.getD 2 false = false → l.getD 4 false = true → ∃ b F, a.eval (.tmp 41) = .pointer (some ⟨b, 0, none⟩) ∧ ArS w F b rb [entZ] ∧ ∀ i, F i → B ≤ i) ∧
 (l.getD 2 false = true → l.getD 4 false = true → ∃ b F b' F', a.eval (.tmp 39) = .pointer (some ⟨b, 0, none⟩) ∧ a.eval (.tmp 41) = .pointer (some ⟨b', 0, none⟩) ∧ ArS w F b ra [entZ] ∧ ArS w F' b' rb [entZ] ∧ (∀ i, F i → B ≤ i) ∧ (∀ i, F' i → B ≤ i) ∧ ∀ i, F i → ¬ F' i) ∧
 (l.getD 5 false = true → a.eval (.tmp 7) = a.eval (.tmp 39)) ∧ (l.getD 6 false = true → a.eval (.tmp 8) = a.eval (.tmp 41))
theorem RmI.keep {B : Nat} {ra rb : Ru} {l : Array Bool} {a : Act} {w : World} (h : RmI B ra rb l a w) (i : Nat) (hi : i < l.size) (h2 : i ≠ 2) (h4 : i ≠ 4) (h5 : i ≠ 5) (h6 : i ≠ 6) (d : Option Tmp) (u : Value) (d1 : d ≠ some 39) (d2 : d ≠ some 41) (d3 : d ≠ some 7) (d4 : d ≠ some 8) : RmI B ra rb (l.setIfInBounds i true) (a.put d u) w := by
 unfold RmI at *
 rw [qk_ l i 2 hi h2, qk_ l i 4 hi h4, qk_ l i 5 hi h5, qk_ l i 6 hi h6, Act.eval_put (fun d' hdd e => d1 (by rw [hdd]; cases e; rfl)), Act.eval_put (fun d' hdd e => d2 (by rw [hdd]; cases e; rfl)), Act.eval_put (fun d' hdd e => d3 (by rw [hdd]; cases e; rfl)), Act.eval_put (fun d' hdd e => d4 (by rw [hdd]; cases e; rfl))]
 exact h
def RmR (p : NN.Pr) (room : Int) : Nat → Value → Prop
 | 0, u => u = .agg (NN.prA p)
 | 1, u => u = .int .i64 room
 | 3, u => u = .agg (NN.prA p)
 | _, _ => room = room
theorem qnv_ (r : Ru) (M : List Ent) (h : Hd) (now : Int) (e : (Ar.add r M h now).1.2.2 = 6) : r.room ≤ M.length ∧ (Ar.add r M h now).2 = M := by
 revert e
 unfold Ar.add
 split
 ·intro e; simp at e
 ·split
  ·intro e; simp at e
  ·split
   ·intro e; simp at e
   ·split
    ·intro e; simp at e
    ·split
     ·rename_i h5; intro _; exact ⟨h5, rfl⟩
     ·intro e; simp at e
theorem qsb_ (p : NN.Pr) (hp : p.ok) (a : Option Addr) (n c : Nat) (room : Int) (w : World) (KA : Hid (∀ w', Below w.heap.size w w' → Calls Tryz.prog 8 #[] w' fun e w'' => e = .returned (.bool true) ∧ Below w'.heap.size w' w'')) (KG : Hid (∀ w', Below w.heap.size w w' → Calls Tryz.prog 9 #[.agg (NN.prA p), .slice a n c] w' fun e w'' => e = .returned (.bool true) ∧ Below w'.heap.size w' w'')) :
  Ca_ 7 #[.agg (NN.prA p), .slice a n c, .int .i64 room] w (.bool true) := by
 have hz := NN.qal_ hp
 go_enter Tryz.func7, Tryz.ntmps7
 go_upto_region 1 with fail
 generalize hw0 : World.alloc _ _ = v0
 have hB : Below w.heap.size w v0 := bl_ hw0
 have hP : NN.PrAt v0 w.heap.size p := by rw [← hw0]; exact NN.Has.new _ _
 clear hw0
 obtain ⟨bP, hbP⟩ : ∃ x, x = w.heap.size := ⟨_, rfl⟩
 rw [← hbP] at hP ⊢
 have HBP : Hid (bP = w.heap.size) := Lib.hid hbP
 clear hbP
 go_wp2_with (first | fail)
 refine (KA.out _ hB).mono ?_
 rintro e v1 ⟨rfl, hb⟩
 replace hP := hP.on hb
 replace hB := hB.trans (hb.mono hB.size)
 clear hb
 go_wp2_with (with_reducible first | refine NN.qh_ rfl _ rfl _ rfl hP hz ?_ | refine NN.qf_ (by with_unfolding_all rfl) _ rfl _ rfl hP hz ?_)
 refine (KG.out _ hB).mono ?_
 rintro e v2 ⟨rfl, hb⟩
 replace hP := hP.on hb
 replace hB := hB.trans (hb.mono hB.size)
 clear hb
 go_wp2_with fail
 go_ret
 exact ⟨rfl, hB⟩
set_option maxHeartbeats 12000000 in
theorem grp13_ : (∀ (p : NN.Pr) (_hp : p.ok) (a : Option Addr) (n c : Nat) (room : Int) (w : World) (_KA : Hid (∀ w', Below w.heap.size w w' → Calls Tryz.prog 8 #[] w' fun e w'' => e = .returned (.bool true) ∧ Below w'.heap.size w' w'')) (_KG : Hid (∀ w', Below w.heap.size w w' → Calls Tryz.prog 9 #[.agg (NN.prA p), .slice a n c] w' fun e w'' => e = .returned (.bool false) ∧ Below w'.heap.size w' w'')) (_KR : Hid (∀ w', Below w.heap.size w w' → Calls Tryz.prog 17 #[.agg (NN.prA p)] w' fun e w'' => e = .returned (.bool false) ∧ Below w'.heap.size w' w'')), Ca_ 7 #[.agg (NN.prA p), .slice a n c, .int .i64 room] w (.bool true)) ∧
  (∀ (p : NN.Pr) (_hp : p.ok) (a : Option Addr) (n c : Nat) (room : Int) (w : World) (_hr : decide (room < 1) = true) (_KA : Hid (∀ w', Below w.heap.size w w' → Calls Tryz.prog 8 #[] w' fun e w'' => e = .returned (.bool true) ∧ Below w'.heap.size w' w'')) (_KG : Hid (∀ w', Below w.heap.size w w' → Calls Tryz.prog 9 #[.agg (NN.prA p), .slice a n c] w' fun e w'' => e = .returned (.bool false) ∧ Below w'.heap.size w' w'')) (_KR : Hid (∀ w', Below w.heap.size w w' → Calls Tryz.prog 17 #[.agg (NN.prA p)] w' fun e w'' => e = .returned (.bool true) ∧ Below w'.heap.size w' w'')), Ca_ 7 #[.agg (NN.prA p), .slice a n c, .int .i64 room] w (.bool true)) ∧
  (∀ (p : NN.Pr) (_hp : p.ok) (a : Option Addr) (n c : Nat) (room : Int) (w : World) (_hr : decide (room < 1) = false) (_hr2 : decide (40 < room) = true) (_KA : Hid (∀ w', Below w.heap.size w w' → Calls Tryz.prog 8 #[] w' fun e w'' => e = .returned (.bool true) ∧ Below w'.heap.size w' w'')) (_KG : Hid (∀ w', Below w.heap.size w w' → Calls Tryz.prog 9 #[.agg (NN.prA p), .slice a n c] w' fun e w'' => e = .returned (.bool false) ∧ Below w'.heap.size w' w'')) (_KR : Hid (∀ w', Below w.heap.size w w' → Calls Tryz.prog 17 #[.agg (NN.prA p)] w' fun e w'' => e = .returned (.bool true) ∧ Below w'.heap.size w' w'')), Ca_ 7 #[.agg (NN.prA p), .slice a n c, .int .i64 room] w (.bool true)) := by
 refine ⟨fun p hp a n c room w KA KG KR => ?_,
  fun p hp a n c room w hr KA KG KR => ?_,
  fun p hp a n c room w hr hr2 KA KG KR => ?_⟩
 all_goals
  have hz := NN.qal_ hp
  go_enter Tryz.func7, Tryz.ntmps7
  go_upto_region 1 with fail
  generalize hw0 : World.alloc _ _ = v0
  have hB : Below w.heap.size w v0 := bl_ hw0
  have hP : NN.PrAt v0 w.heap.size p := by rw [← hw0]; exact NN.Has.new _ _
  clear hw0
  obtain ⟨bP, hbP⟩ : ∃ x, x = w.heap.size := ⟨_, rfl⟩
  rw [← hbP] at hP ⊢
  have HBP : Hid (bP = w.heap.size) := Lib.hid hbP
  clear hbP
  go_wp2_with (first | fail)
  refine (KA.out _ hB).mono ?_
  rintro e v1 ⟨rfl, hb⟩
  replace hP := hP.on hb
  replace hB := hB.trans (hb.mono hB.size)
  clear hb
  go_wp2_with (with_reducible first | refine NN.qh_ rfl _ rfl _ rfl hP hz ?_ | refine NN.qf_ (by with_unfolding_all rfl) _ rfl _ rfl hP hz ?_)
  refine (KG.out _ hB).mono ?_
  rintro e v2 ⟨rfl, hb⟩
  replace hP := hP.on hb
  replace hB := hB.trans (hb.mono hB.size)
  clear hb
  go_wp2_with (with_reducible first | refine NN.qh_ rfl _ rfl _ rfl hP hz ?_ | refine NN.qf_ (by with_unfolding_all rfl) _ rfl _ rfl hP hz ?_)
  refine (KR.out _ hB).mono ?_
  rintro e v3 ⟨rfl, hb⟩
  replace hP := hP.on hb
  replace hB := hB.trans (hb.mono hB.size)
  clear hb
  go_wp2_with fail
  go_ret
  exact ⟨rfl, hB⟩
theorem qvp_ (p : NN.Pr) (hp : p.ok) (p0 : NN.Pr) (g0 : Hd) (gs : List Gt) (cs : List Ck) (R : Nat) (a : Option Addr) (n c : Nat) (ls : List Cm) (w : World) (hR1 : 1 ≤ R) (hR2 : R ≤ 40) (hr : decide ((R : Int) < 1) = false) (hr2 : decide (40 < (R : Int)) = false) (HA : Hid (∀ w', Below w.heap.size w w' → ComesAt w' a ls)) (HN : Hid (n = ls.length)) (hn40 : n ≤ 40) (HT : Hid (∀ w', Below w.heap.size w w' → Tab w')) (HG : Hid (g0.ok ∧ g0.P ∧ gs.length ≤ 1000 ∧ cs.length ≤ 1000)) (KA : Hid (∀ w', Below w.heap.size w w' → Calls Tryz.prog 8 #[] w' fun e w'' => e = .returned (.bool true) ∧ Below w'.heap.size w' w'')) (KG : Hid (∀ w', Below w.heap.size w w' → Calls Tryz.prog 9 #[.agg (NN.prA p), .slice a n c] w' fun e w'' => e = .returned (.bool false) ∧ Below w'.heap.size w' w'')) (KR : Hid (∀ w', Below w.heap.size w w' → Calls Tryz.prog 17 #[.agg (NN.prA p)] w' fun e w'' => e = .returned (.bool true) ∧ Below w'.heap.size w' w'')) (KM : Hid (∀ w', Below w.heap.size w w' → Calls Tryz.prog 28 #[.agg (NN.prA p), .int .i64 (R : Int)] w' fun e w'' => ∃ b F, e = .returned (.pointer (some ⟨b, 0, none⟩)) ∧ (ArS w'' F b (Ar.Ru.mk p0 g0 gs cs R) [entZ] ∧ ∀ i, F i → w'.heap.size ≤ i) ∧ Below w'.heap.size w' w'')) (KM2 : Hid (∀ w', Below w.heap.size w w' → Calls Tryz.prog 28 #[.agg (NN.prA p), .int .i64 100] w' fun e w'' => ∃ b F, e = .returned (.pointer (some ⟨b, 0, none⟩)) ∧ (ArS w'' F b (Ar.Ru.mk p0 g0 gs cs 100) [entZ] ∧ ∀ i, F i → w'.heap.size ≤ i) ∧ Below w'.heap.size w' w'')) :
  Ca_ 7 #[.agg (NN.prA p), .slice a n c, .int .i64 (R : Int)] w (.bool true) := by
 have hz := NN.qal_ hp
 go_enter Tryz.func7, Tryz.ntmps7
 go_upto_region 1 with fail
 generalize hw0 : World.alloc _ _ = v0
 have hB : Below w.heap.size w v0 := bl_ hw0
 have hP : NN.PrAt v0 w.heap.size p := by rw [← hw0]; exact NN.Has.new _ _
 clear hw0
 obtain ⟨bP, hbP⟩ : ∃ x, x = w.heap.size := ⟨_, rfl⟩
 rw [← hbP] at hP ⊢
 have HBP : Hid (bP = w.heap.size) := Lib.hid hbP
 clear hbP
 go_wp2_with (first | fail)
 refine (KA.out _ hB).mono ?_
 rintro e v1 ⟨rfl, hb⟩
 replace hP := hP.on hb
 replace hB := hB.trans (hb.mono hB.size)
 clear hb
 go_wp2_with (with_reducible first | refine NN.qh_ rfl _ rfl _ rfl hP hz ?_ | refine NN.qf_ (by with_unfolding_all rfl) _ rfl _ rfl hP hz ?_)
 refine (KG.out _ hB).mono ?_
 rintro e v2 ⟨rfl, hb⟩
 replace hP := hP.on hb
 replace hB := hB.trans (hb.mono hB.size)
 clear hb
 go_wp2_with (with_reducible first | refine NN.qh_ rfl _ rfl _ rfl hP hz ?_ | refine NN.qf_ (by with_unfolding_all rfl) _ rfl _ rfl hP hz ?_)
 refine (KR.out _ hB).mono ?_
 rintro e v3 ⟨rfl, hb⟩
 replace hP := hP.on hb
 replace hB := hB.trans (hb.mono hB.size)
 clear hb
 go_upto_region 5 with fail
 refine ql_ (by kernel_rfl) (fun w' => Below v3.heap.size v3 w') (fun i v' _ => RmR p (R : Int) i v') (fun l a w' => RmI v3.heap.size (Ar.Ru.mk p0 g0 gs cs R) (Ar.Ru.mk p0 g0 gs cs 100) l a w') (fun _ _ => True) (fun _ _ => trivial) (fun _ _ _ _ _ _ h => h) (by kernel_rfl) (Below.refl _ _).drew ?_ ?_ ?_
 ·exact fun l hl => ⟨fun h => (by rw [hl] at h; cases h), fun _ h => (by rw [hl] at h; cases h), fun h => (by rw [hl] at h; cases h), fun h => (by rw [hl] at h; cases h), fun h => (by rw [hl] at h; cases h)⟩
 ·intro i o listed a wx ho' hnl hdep hinv
  have hC := hinv.c
  have hI := hinv.i
  have hi : i < 7 := (Array.getElem?_eq_some_iff.1 ho').1
  have hPx : NN.PrAt wx bP p := NN.PrAt.on hP hC
  obtain rfl | rfl | rfl | rfl | rfl | rfl | rfl : i = 0 ∨ i = 1 ∨ i = 2 ∨ i = 3 ∨ i = 4 ∨ i = 5 ∨ i = 6 := by omega
  all_goals obtain rfl := Option.some.inj ho'
  ·have hsz : 0 < listed.size := by rw [hinv.size]; decide
   exact qd_ (C := fun w' => Below v3.heap.size v3 w') (S := fun _ _ => True) (R := fun v' _ => RmR p (R : Int) 0 v') (J := fun a w' => RmI v3.heap.size (Ar.Ru.mk p0 g0 gs cs R) (Ar.Ru.mk p0 g0 gs cs 100) (listed.setIfInBounds 0 true) a w') (fun _ _ => trivial) hC (qa_ rfl) (NN.qdl_ rfl (hinv.old' 3 (by kernel_rfl)) hPx hz) rfl (hI.keep 0 hsz (by decide) (by decide) (by decide) (by decide) _ _ (by decide) (by decide) (by decide) (by decide))
  ·have hsz : 1 < listed.size := by rw [hinv.size]; decide
   exact qd_ (C := fun w' => Below v3.heap.size v3 w') (S := fun _ _ => True) (R := fun v' _ => RmR p (R : Int) 1 v') (J := fun a w' => RmI v3.heap.size (Ar.Ru.mk p0 g0 gs cs R) (Ar.Ru.mk p0 g0 gs cs 100) (listed.setIfInBounds 1 true) a w') (fun _ _ => trivial) hC (qa_ rfl) (NN.qbd_ rfl) (hinv.old' 2 (by kernel_rfl)) (hI.keep 1 hsz (by decide) (by decide) (by decide) (by decide) _ _ (by decide) (by decide) (by decide) (by decide))
  ·have hsz : 2 < listed.size := by rw [hinv.size]; decide
   have h5 : (listed.setIfInBounds 2 true).getD 5 false = false := hinv.aheadT 5 (by kernel_rfl) hnl (by decide) (by decide)
   have es : (listed.setIfInBounds 2 true).getD 2 false = true := by rw [qp_ _ _ _ hsz, if_pos rfl]
   have eo : (listed.setIfInBounds 2 true).getD 4 false = listed.getD 4 false := qk_ listed 2 4 hsz (by decide)
   have ev : (listed.setIfInBounds 2 true).getD 6 false = listed.getD 6 false := qk_ listed 2 6 hsz (by decide)
   exact qcj_ (C := fun w' => Below v3.heap.size v3 w') (S := fun _ _ => True) (R := fun v' _ => RmR p (R : Int) 2 v') (J := fun a w' => RmI v3.heap.size (Ar.Ru.mk p0 g0 gs cs R) (Ar.Ru.mk p0 g0 gs cs 100) (listed.setIfInBounds 2 true) a w') (qa_ rfl) (f := 28) (args := #[a.eval (.tmp 37), a.eval (.tmp 38)]) (by kernel_rfl) (by
    rw [show a.eval (.tmp 37) = _ from hinv.got 0 _ 37 rfl (hdep ⟨0, .data⟩ (by simp) rfl) rfl, show a.eval (.tmp 38) = _ from hinv.got 1 _ 38 rfl (hdep ⟨1, .data⟩ (by simp) rfl) rfl]
    refine (KM.out wx (hB.trans (hC.mono hB.size))).mono ?_
    rintro e w' ⟨b, F, rfl, ⟨g1, g2⟩, hb⟩
    have hlx := hC.size
    refine ⟨_, rfl, hC.trans (hb.mono hC.size), trivial, rfl, ?_⟩
    have e39 : (a.put (some 39) (.pointer (some ⟨b, 0, none⟩))).eval (.tmp 39) = .pointer (some ⟨b, 0, none⟩) := qbc_ a 39 _ (by rw [hinv.tsize]; exact (show 39 < 113 by decide))
    have e41 : ∀ u, (a.put (some 39) u).eval (.tmp 41) = a.eval (.tmp 41) := fun u => Act.eval_put (fun d' hdd e => by cases hdd; cases e)
    have e8 : ∀ u, (a.put (some 39) u).eval (.tmp 8) = a.eval (.tmp 8) := fun u => Act.eval_put (fun d' hdd e => by cases hdd; cases e)
    unfold RmI
    rw [es, eo, h5, ev]
    cases ho : listed.getD 4 false
    ·exact ⟨fun _ _ => ⟨b, F, e39, g1, fun i hi => Nat.le_trans hlx (g2 i hi)⟩, fun h => (by cases h), fun _ h => (by cases h), fun h => (by cases h), fun h => ((e8 _).trans (hI.2.2.2.2 h)).trans (e41 _).symm⟩
    ·obtain ⟨b', F', e1, g3, g4⟩ := hI.2.1 hnl ho
     have g5 := g3.1
     exact ⟨fun _ h => (by cases h), fun h => (by cases h), fun _ _ => ⟨b, F, b', F', e39, (e41 _).trans e1, g1, g3.below hb, fun i hi => Nat.le_trans hlx (g2 i hi), g4, fun i hi hf => by have := g2 i hi; have := g5 i hf; omega⟩, fun h => (by cases h), fun h => ((e8 _).trans (hI.2.2.2.2 h)).trans (e41 _).symm⟩)
  ·have hsz : 3 < listed.size := by rw [hinv.size]; decide
   exact qd_ (C := fun w' => Below v3.heap.size v3 w') (S := fun _ _ => True) (R := fun v' _ => RmR p (R : Int) 3 v') (J := fun a w' => RmI v3.heap.size (Ar.Ru.mk p0 g0 gs cs R) (Ar.Ru.mk p0 g0 gs cs 100) (listed.setIfInBounds 3 true) a w') (fun _ _ => trivial) hC (qa_ rfl) (NN.qdl_ rfl (hinv.old' 3 (by kernel_rfl)) hPx hz) rfl (hI.keep 3 hsz (by decide) (by decide) (by decide) (by decide) _ _ (by decide) (by decide) (by decide) (by decide))
  ·have hsz : 4 < listed.size := by rw [hinv.size]; decide
   have h5 : (listed.setIfInBounds 4 true).getD 6 false = false := hinv.aheadT 6 (by kernel_rfl) hnl (by decide) (by decide)
   have es : (listed.setIfInBounds 4 true).getD 4 false = true := by rw [qp_ _ _ _ hsz, if_pos rfl]
   have eo : (listed.setIfInBounds 4 true).getD 2 false = listed.getD 2 false := qk_ listed 4 2 hsz (by decide)
   have ev : (listed.setIfInBounds 4 true).getD 5 false = listed.getD 5 false := qk_ listed 4 5 hsz (by decide)
   exact qcj_ (C := fun w' => Below v3.heap.size v3 w') (S := fun _ _ => True) (R := fun v' _ => RmR p (R : Int) 4 v') (J := fun a w' => RmI v3.heap.size (Ar.Ru.mk p0 g0 gs cs R) (Ar.Ru.mk p0 g0 gs cs 100) (listed.setIfInBounds 4 true) a w') (qa_ rfl) (f := 28) (args := #[a.eval (.tmp 40), .int .i64 100]) (by kernel_rfl) (by
    rw [show a.eval (.tmp 40) = _ from hinv.got 3 _ 40 rfl (hdep ⟨3, .data⟩ (by simp) rfl) rfl]
    refine (KM2.out wx (hB.trans (hC.mono hB.size))).mono ?_
    rintro e w' ⟨b, F, rfl, ⟨g1, g2⟩, hb⟩
    have hlx := hC.size
    refine ⟨_, rfl, hC.trans (hb.mono hC.size), trivial, rfl, ?_⟩
    have e41 : (a.put (some 41) (.pointer (some ⟨b, 0, none⟩))).eval (.tmp 41) = .pointer (some ⟨b, 0, none⟩) := qbc_ a 41 _ (by rw [hinv.tsize]; exact (show 41 < 113 by decide))
    have e39 : ∀ u, (a.put (some 41) u).eval (.tmp 39) = a.eval (.tmp 39) := fun u => Act.eval_put (fun d' hdd e => by cases hdd; cases e)
    have e8 : ∀ u, (a.put (some 41) u).eval (.tmp 7) = a.eval (.tmp 7) := fun u => Act.eval_put (fun d' hdd e => by cases hdd; cases e)
    unfold RmI
    rw [es, eo, h5, ev]
    cases ho : listed.getD 2 false
    ·exact ⟨fun h => (by cases h), fun _ _ => ⟨b, F, e41, g1, fun i hi => Nat.le_trans hlx (g2 i hi)⟩, fun h => (by cases h), fun h => ((e8 _).trans (hI.2.2.2.1 h)).trans (e39 _).symm, fun h => (by cases h)⟩
    ·obtain ⟨b', F', e1, g3, g4⟩ := hI.1 ho hnl
     have g5 := g3.1
     exact ⟨fun _ h => (by cases h), fun h => (by cases h), fun _ _ => ⟨b', F', b, F, (e39 _).trans e1, e41, g3.below hb, g1, g4, fun i hi => Nat.le_trans hlx (g2 i hi), fun i hf hi => by have := g2 i hi; have := g5 i hf; omega⟩, fun h => ((e8 _).trans (hI.2.2.2.1 h)).trans (e39 _).symm, fun h => (by cases h)⟩)
  ·have hsz : 5 < listed.size := by rw [hinv.size]; decide
   refine qd_ (C := fun w' => Below v3.heap.size v3 w') (S := fun _ _ => True) (R := fun v' _ => RmR p (R : Int) 5 v') (J := fun a w' => RmI v3.heap.size (Ar.Ru.mk p0 g0 gs cs R) (Ar.Ru.mk p0 g0 gs cs 100) (listed.setIfInBounds 5 true) a w') (fun _ _ => trivial) hC (qa_ rfl) (NN.qby_ rfl) rfl ?_
   have e1 : ∀ u, (a.put (some 7) u).eval (.tmp 39) = a.eval (.tmp 39) := fun u => Act.eval_put (fun d' hdd e => by cases hdd; cases e)
   have e2 : ∀ u, (a.put (some 7) u).eval (.tmp 41) = a.eval (.tmp 41) := fun u => Act.eval_put (fun d' hdd e => by cases hdd; cases e)
   have e3 : ∀ u, (a.put (some 7) u).eval (.tmp 8) = a.eval (.tmp 8) := fun u => Act.eval_put (fun d' hdd e => by cases hdd; cases e)
   have e4 : (a.put (some 7) (a.eval (.tmp 39))).eval (.tmp 7) = a.eval (.tmp 39) := qbc_ a 7 _ (by rw [hinv.tsize]; exact (show 7 < 113 by decide))
   unfold RmI at *
   rw [qk_ listed 5 2 hsz (by decide), qk_ listed 5 4 hsz (by decide), qk_ listed 5 6 hsz (by decide)]
   refine ⟨fun h2 h4 => ?_, fun h2 h4 => ?_, fun h2 h4 => ?_, fun _ => e4.trans (e1 _).symm, fun h => ((e3 _).trans (hI.2.2.2.2 h)).trans (e2 _).symm⟩
   ·obtain ⟨b, F, q1, q2⟩ := hI.1 h2 h4
    exact ⟨b, F, (e1 _).trans q1, q2⟩
   ·obtain ⟨b, F, q1, q2⟩ := hI.2.1 h2 h4
    exact ⟨b, F, (e2 _).trans q1, q2⟩
   ·obtain ⟨b, F, b', F', q1, q2, q3⟩ := hI.2.2.1 h2 h4
    exact ⟨b, F, b', F', (e1 _).trans q1, (e2 _).trans q2, q3⟩
  ·have hsz : 6 < listed.size := by rw [hinv.size]; decide
   refine qd_ (C := fun w' => Below v3.heap.size v3 w') (S := fun _ _ => True) (R := fun v' _ => RmR p (R : Int) 6 v') (J := fun a w' => RmI v3.heap.size (Ar.Ru.mk p0 g0 gs cs R) (Ar.Ru.mk p0 g0 gs cs 100) (listed.setIfInBounds 6 true) a w') (fun _ _ => trivial) hC (qa_ rfl) (NN.qby_ rfl) rfl ?_
   have e1 : ∀ u, (a.put (some 8) u).eval (.tmp 39) = a.eval (.tmp 39) := fun u => Act.eval_put (fun d' hdd e => by cases hdd; cases e)
   have e2 : ∀ u, (a.put (some 8) u).eval (.tmp 41) = a.eval (.tmp 41) := fun u => Act.eval_put (fun d' hdd e => by cases hdd; cases e)
   have e3 : ∀ u, (a.put (some 8) u).eval (.tmp 7) = a.eval (.tmp 7) := fun u => Act.eval_put (fun d' hdd e => by cases hdd; cases e)
   have e4 : (a.put (some 8) (a.eval (.tmp 41))).eval (.tmp 8) = a.eval (.tmp 41) := qbc_ a 8 _ (by rw [hinv.tsize]; exact (show 8 < 113 by decide))
   unfold RmI at *
   rw [qk_ listed 6 2 hsz (by decide), qk_ listed 6 4 hsz (by decide), qk_ listed 6 5 hsz (by decide)]
   refine ⟨fun h2 h4 => ?_, fun h2 h4 => ?_, fun h2 h4 => ?_, fun h => ((e3 _).trans (hI.2.2.2.1 h)).trans (e1 _).symm, fun _ => e4.trans (e2 _).symm⟩
   ·obtain ⟨b, F, q1, q2⟩ := hI.1 h2 h4
    exact ⟨b, F, (e1 _).trans q1, q2⟩
   ·obtain ⟨b, F, q1, q2⟩ := hI.2.1 h2 h4
    exact ⟨b, F, (e2 _).trans q1, q2⟩
   ·obtain ⟨b, F, b', F', q1, q2, q3⟩ := hI.2.2.1 h2 h4
    exact ⟨b, F, b', F', (e1 _).trans q1, (e2 _).trans q2, q3⟩
 intro listed a' v4 hall hinv
 have hC := hinv.c
 obtain ⟨ba, Fa, bb, Fb, e39, e41, hSa, hSb, hFa, hFb, hd⟩ := hinv.i.2.2.1 (hall 2 (by decide)) (hall 4 (by decide))
 have e7 : a'.eval (.tmp 7) = .pointer (some ⟨ba, 0, none⟩) := (hinv.i.2.2.2.1 (hall 5 (by decide))).trans e39
 have e8 : a'.eval (.tmp 8) = .pointer (some ⟨bb, 0, none⟩) := (hinv.i.2.2.2.2 (hall 6 (by decide))).trans e41
 have e1 : a'.eval (.tmp 1) = .slice a n c := hinv.old' 1 (by kernel_rfl)
 have e2 : a'.eval (.tmp 2) = .int .i64 (R : Int) := hinv.old' 2 (by kernel_rfl)
 clear e39 e41
 obtain ⟨u, hu⟩ : ∃ u : Nat → Value, ∀ t, u t = a'.eval (.tmp t) := ⟨_, fun _ => rfl⟩
 rw [qbh_ a' 113 u hinv.tsize hinv.defers hu]
 rw [← hu] at e1 e2 e7 e8
 clear hu hinv hall
 show Exit.then _ _ _ (⟨#[u 0, u 1, u 2, u 3, u 4, u 5, u 6, u 7, u 8, u 9, u 10, u 11, u 12, u 13, u 14, u 15, u 16, u 17, u 18, u 19, u 20, u 21, u 22, u 23, u 24, u 25, u 26, u 27, u 28, u 29, u 30, u 31, u 32, u 33, u 34, u 35, u 36, u 37, u 38, u 39, u 40, u 41, u 42, u 43, u 44, u 45, u 46, u 47, u 48, u 49, u 50, u 51, u 52, u 53, u 54, u 55, u 56, u 57, u 58, u 59, u 60, u 61, u 62, u 63, u 64, u 65, u 66, u 67, u 68, u 69, u 70, u 71, u 72, u 73, u 74, u 75, u 76, u 77, u 78, u 79, u 80, u 81, u 82, u 83, u 84, u 85, u 86, u 87, u 88, u 89, u 90, u 91, u 92, u 93, u 94, u 95, u 96, u 97, u 98, u 99, u 100, u 101, u 102, u 103, u 104, u 105, u 106, u 107, u 108, u 109, u 110, u 111, u 112], []⟩ : Act) v4
 rw [e1, e2, e7, e8]
 clear e1 e2 e7 e8
 have HF0 : Hid ((∀ i, Fa i → w.heap.size ≤ i) ∧ (∀ i, Fb i → w.heap.size ≤ i) ∧ ∀ i, Fa i → ¬ Fb i) := Lib.hid ⟨fun i hi => Nat.le_trans hB.size (hFa i hi), fun i hi => Nat.le_trans hB.size (hFb i hi), hd⟩
 have hB4 := hB.trans (hC.mono hB.size)
 clear hC hB hP hFa hFb hd
 go_wp2_with fail
 go_loopw [44] (fun i wr => ∃ k : Nat, k ≤ n ∧ i = .int .i64 (k : Int) ∧ ∃ Fa Fb M, ArS wr Fa ba (Ar.Ru.mk p0 g0 gs cs R) (M.take R) ∧ ArS wr Fb bb (Ar.Ru.mk p0 g0 gs cs 100) M ∧ Hid (Ok (Ar.Ru.mk p0 g0 gs cs R) (M.take R) ∧ Ok (Ar.Ru.mk p0 g0 gs cs 100) M ∧ M.length ≤ k + 1 ∧ (∀ i, Fa i → w.heap.size ≤ i) ∧ (∀ i, Fb i → w.heap.size ≤ i) ∧ ∀ i, Fa i → ¬ Fb i) ∧ Below w.heap.size w wr) (fun i _ => n - (intOf i).toNat)
 case atStart =>
  have e0 : ([entZ] : List Ent).take R = [entZ] := List.take_of_length_le hR1
  exact ⟨0, by omega, rfl, Fa, Fb, [entZ], by rw [e0]; exact hSa, hSb, Lib.hid ⟨by rw [e0]; exact Ok.one _, Ok.one _, Nat.le_refl _, HF0.out.1, HF0.out.2.1, HF0.out.2.2⟩, hB4⟩
 case round =>
  clear hSa hSb hB4 HF0 Fa Fb
  obtain ⟨k, hk, rfl, Fa, Fb, M, hSa, hSb, HM, hB⟩ := hrel
  by_cases hlt : k < n
  ·obtain ⟨ab, ao, hae, habl, hc⟩ := (HA.out _ hB) (by rw [← HN.out]; omega)
   subst hae
   have hk2 : k < ls.length := by rw [← HN.out]; exact hlt
   obtain ⟨q0, q1⟩ := hc k hk2
   clear hc
   generalize ls[k] = y at *
   clear hk2
   have z1 := qes_ q0
   have z2 := qfc_ q0
   have z0 := qfc_ (c := cmZ) hdZ_ok
   have zy := qj_ q0
   have hb2 : Below wr.heap.size wr ((wr.alloc (.cells Tryz.zeroCells54 54)).setRow wr.heap.size (cmA y)) := below_setRow ((Below.refl _ _).alloc (Nat.le_refl _) _) (Nat.le_refl _) _
   have hY := qrz_ wr y
   have hnew := qml_ wr
   have hB2 := hB.trans (hb2.mono hB.size)
   have hSa2 := hSa.below hb2
   have hSb2 := hSb.below hb2
   have hT2 := HT.out _ hB2
   have cn := hY.now q0
   have rh := hY.head
   have hnY : ¬ Fa wr.heap.size := fun hf => by have := hSa.1 _ hf; omega
   have KAdd := Lib.hid (add_at hSa2 HM.out.1 (by have := HM.out.2.2.1; rw [List.length_take]; omega) HG.out.2.2.1 HG.out.2.2.2 hT2 y.h q0 y.now)
   clear hSa hSb hSa2 hB hT2
   go_wp2_with (with_reducible first | refine qed_ rfl _ rfl ab (ao + k * 69) rfl y q1 z1 ?_ | refine qic_ rfl _ _ rfl _ _ y rfl rfl rfl z2 hnew z0 ?_ | refine qaa_ rfl _ rfl _ 0 rfl y.h rh zy ?_)
   refine KAdd.out.mono ?_
   rintro e v6 ⟨rfl, hSa6, hK6⟩
   generalize World.setRow _ _ _ = v5 at *
   obtain ⟨bY, hbY⟩ : ∃ x, x = wr.heap.size := ⟨_, rfl⟩
   rw [← hbY] at hY hnY ⊢
   clear hbY
   have hY6 : CmAt v6 bY y := hK6.has hY hnY
   have hSb6 := hSb2.on hK6 (fun i hi hf => HM.out.2.2.2.2.2 i hf hi)
   have hB6 := hB2.trans (hK6.below HM.out.2.2.2.1 hB2.size)
   have cn6 := hY6.now q0
   have rh6 := hY6.head
   have KAdd2 := Lib.hid (add_at hSb6 HM.out.2.1 (by have := HM.out.2.2.1; omega) HG.out.2.2.1 HG.out.2.2.2 (HT.out _ hB6) y.h q0 y.now)
   have HDj : Hid (∀ i, Nxt Fa v5 v6 i → ¬ Fb i) := Lib.hid fun i hi hf => hi.elim (fun h => HM.out.2.2.2.2.2 i h hf) (fun h => by have := hSb2.1 i hf; omega)
   have HFa6 : Hid (∀ i, Nxt Fa v5 v6 i → w.heap.size ≤ i) := Lib.hid fun i hi => hi.elim (HM.out.2.2.2.1 i) (fun h => Nat.le_trans hB2.size h.1)
   have eM := Ar.qzt_ (Ar.Ru.mk p0 g0 gs cs 100) R y.h y.now (show M.length < 100 by have := HM.out.2.2.1; omega)
   have eM' : (Ar.add (Ar.Ru.mk p0 g0 gs cs R) (M.take R) y.h y.now).2 = (Ar.add (Ar.Ru.mk p0 g0 gs cs 100) M y.h y.now).2.take R := eM
   have eF := qnv_ (Ar.Ru.mk p0 g0 gs cs R) (M.take R) y.h y.now
   have hOka := HM.out.1.add q0 y.now
   have hOkb := HM.out.2.1.add q0 y.now
   have hlen := add_len (Ar.Ru.mk p0 g0 gs cs 100) M y.h y.now
   have HL2 : Hid (M.length ≤ k + 1) := Lib.hid HM.out.2.2.1
   have HFb : Hid (∀ i, Fb i → w.heap.size ≤ i) := Lib.hid HM.out.2.2.2.2.1
   clear hK6 hB2 KAdd hb2 HM hSb2 hY hnY cn rh
   rw [eM'] at hSa6 hOka
   generalize hres : (Ar.add (Ar.Ru.mk p0 g0 gs cs R) (M.take R) y.h y.now).1 = res at *
   obtain ⟨x1, x2, er⟩ := res
   go_wp2_with (first | fail | (with_reducible refine qaa_ rfl _ rfl _ 0 rfl y.h rh6 zy ?_))
   refine KAdd2.out.mono ?_
   rintro e v7 ⟨rfl, hSb7, hK7⟩
   have hSa7 := hSa6.on hK7 (fun i hi hf => HDj.out i hi hf)
   have hB7 := hB6.trans (hK7.below HFb.out hB6.size)
   have hlx := hSa6.1
   have HM7 : Hid (Ok (Ar.Ru.mk p0 g0 gs cs R) ((Ar.add (Ar.Ru.mk p0 g0 gs cs 100) M y.h y.now).2.take R) ∧ Ok (Ar.Ru.mk p0 g0 gs cs 100) (Ar.add (Ar.Ru.mk p0 g0 gs cs 100) M y.h y.now).2 ∧ (Ar.add (Ar.Ru.mk p0 g0 gs cs 100) M y.h y.now).2.length ≤ k + 1 + 1 ∧ (∀ i, Nxt Fa v5 v6 i → w.heap.size ≤ i) ∧ (∀ i, Nxt Fb v6 v7 i → w.heap.size ≤ i) ∧ ∀ i, Nxt Fa v5 v6 i → ¬ Nxt Fb v6 v7 i) := Lib.hid ⟨hOka, hOkb, by have := HL2.out; omega, HFa6.out, fun i hi => hi.elim (HFb.out i) (fun h => Nat.le_trans hB6.size h.1), fun i hi hf => hf.elim (HDj.out i hi) (fun h => by have := hlx i hi; omega)⟩
   have HEF : Hid (er = 6 → ((Ar.add (Ar.Ru.mk p0 g0 gs cs 100) M y.h y.now).2.take R).length = R) := Lib.hid fun e6 => by
    obtain ⟨f1, f2⟩ := eF e6
    rw [← eM', f2]
    have : R ≤ (M.take R).length := f1
    rw [List.length_take] at this ⊢
    omega
   clear hK7 hB6 KAdd2 hSa6 hSb6 hOka hOkb hlen hlx eM eM' eF HDj HFa6 hres cn6 rh6 hY6
   generalize (Ar.add (Ar.Ru.mk p0 g0 gs cs 100) M y.h y.now).1 = res2 at *
   generalize (Ar.add (Ar.Ru.mk p0 g0 gs cs 100) M y.h y.now).2 = M' at *
   generalize Nxt Fa v5 v6 = Fa' at *
   generalize Nxt Fb v6 v7 = Fb' at *
   obtain ⟨LA, hLA⟩ : ∃ x, x = (M'.take R).length := ⟨_, rfl⟩
   have hLR : ¬ R < LA := by rw [hLA, List.length_take]; omega
   have KL := Lib.hid fun (w' : World) (hb : Below v7.heap.size v7 w') => len_at (hSa7.below hb)
   rw [← hLA] at KL HEF
   clear hLA
   cases t6 : (er == 6)
   ·go_wp2_with fail
    refine (KL.out _ (Below.refl _ _)).mono ?_
    rintro e v8 ⟨rfl, hb⟩
    replace hSa7 := hSa7.below hb
    replace hSb7 := hSb7.below hb
    replace hB7 := hB7.trans (hb.mono hB7.size)
    clear hb KL
    go_wp2_with fail
    go_roundw
    case rel => exact ⟨k + 1, by omega, by go_num, Fa', Fb', M', hSa7, hSb7, HM7, hB7⟩
    case measure => simp [intOf]; omega
   ·have hLA2 : LA = R := HEF.out (by simpa using t6)
    obtain rfl : er = 6 := by simpa using t6
    clear t6 HEF
    subst hLA2
    go_wp2_with fail
    refine (KL.out _ (Below.refl _ _)).mono ?_
    rintro e v8 ⟨rfl, hb⟩
    replace hSa7 := hSa7.below hb
    replace hSb7 := hSb7.below hb
    replace hB7 := hB7.trans (hb.mono hB7.size)
    go_wp2_with fail
    refine (KL.out _ hb).mono ?_
    rintro e v9 ⟨rfl, hb⟩
    replace hSa7 := hSa7.below hb
    replace hSb7 := hSb7.below hb
    replace hB7 := hB7.trans (hb.mono hB7.size)
    clear hb KL
    go_wp2_with fail
    go_roundw
    case rel => exact ⟨k + 1, by omega, by go_num, Fa', Fb', M', hSa7, hSb7, HM7, hB7⟩
    case measure => simp [intOf]; omega
  ·obtain rfl : k = n := by omega
   have hml := HM.out.2.2.1
   have hnew := qhn_
   obtain ⟨LA, hLA⟩ : ∃ x, x = (M.take R).length := ⟨_, rfl⟩
   have HLA := Lib.hid hLA
   have hmin := NN.min_is (P := Tryz.prog) ((M.length : Nat) : Int) (R : Int) (LA : Int) (by rw [hLA, List.length_take]; omega)
   have hLA41 : LA ≤ 41 := by rw [hLA, List.length_take]; omega
   clear HM hml hLA
   go_wp2_with fail
   go_loopw [14] (fun i wr => ∃ k : Nat, k ≤ LA ∧ i = .int .i64 (k : Int) ∧ ArS wr Fa ba (Ar.Ru.mk p0 g0 gs cs R) (M.take R) ∧ ArS wr Fb bb (Ar.Ru.mk p0 g0 gs cs 100) M ∧ Below w.heap.size w wr) (fun i _ => LA - (intOf i).toNat)
   case atStart => exact ⟨0, by omega, rfl, hSa, hSb, hB⟩
   case round =>
    clear hSa hSb hB
    obtain ⟨i, hi, rfl, hSa, hSb, hB⟩ := hrel
    go_wp2_with fail
    refine (len_at hSa).mono ?_
    rintro x v8 ⟨rfl, hb⟩
    replace hSa := hSa.below hb
    replace hSb := hSb.below hb
    replace hB := hB.trans (hb.mono hB.size)
    clear hb
    rw [← HLA.out]
    by_cases hlt : i < LA
    ·have hiM : i < M.length ∧ i < R := by have := HLA.out; rw [List.length_take] at this; omega
     have he : M[i]? = some (M[i]'hiM.1) := List.getElem?_eq_getElem _
     generalize M[i]'hiM.1 = e at he
     have he2 : (M.take R)[i]? = some e := by rw [List.getElem?_take, if_pos hiM.2]; exact he
     have hok := qmj_ hSb he
     have KA1 := Lib.hid (at_at hSa he2 (i : Int) rfl)
     have KA2 := Lib.hid fun (w' : World) (hb : Below v8.heap.size v8 w') => at_at (hSb.below hb) he (i : Int) rfl
     rw [show enOf (Ar.Ru.mk p0 g0 gs cs R) e = enOf (Ar.Ru.mk p0 g0 gs cs 100) e from rfl] at KA1
     have ze := qbx_ hok
     have zz := qbx_ enZ_ok
     have hq := en_neq (enOf (Ar.Ru.mk p0 g0 gs cs 100) e) hok
     generalize enOf (Ar.Ru.mk p0 g0 gs cs 100) e = E at *
     clear he he2 hiM
     go_wp2_with fail
     refine KA1.out.mono ?_
     rintro x v9 ⟨rfl, hb⟩
     replace hSa := hSa.below hb
     replace hSb := hSb.below hb
     replace hB := hB.trans (hb.mono hB.size)
     clear KA1
     have hb2 := qid_ v9 44 Tryz.zeroCells44 (enA E)
     have hE := qmm_ v9 E
     go_upto_region 18 with (with_reducible refine qfa_ rfl _ _ rfl _ _ E rfl rfl rfl ze (hnew v9) zz ?_)
     generalize World.setRow _ _ _ = v10 at *
     replace hb := hb.trans (hb2.mono hb.size)
     replace hSa := hSa.below hb2
     replace hSb := hSb.below hb2
     replace hB := hB.trans (hb2.mono hB.size)
     generalize v9.heap.size = bE at *
     clear hb2
     go_wp2_with fail
     refine (KA2.out _ hb).mono ?_
     rintro x v11 ⟨rfl, hb⟩
     replace hE := EnAt.on hE hb
     replace hSa := hSa.below hb
     replace hSb := hSb.below hb
     replace hB := hB.trans (hb.mono hB.size)
     clear KA2 hb
     have hb2 := qid_ v11 44 Tryz.zeroCells44 (enA E)
     have hU := qmm_ v11 E
     go_upto_region 19 with (with_reducible refine qfa_ rfl _ _ rfl _ _ E rfl rfl rfl ze (hnew v11) zz ?_)
     generalize World.setRow _ _ _ = v12 at *
     replace hE := EnAt.on hE hb2
     replace hSa := hSa.below hb2
     replace hSb := hSb.below hb2
     replace hB := hB.trans (hb2.mono hB.size)
     generalize v11.heap.size = bU at *
     clear hb2
     go_wp2_with (first
      | (with_reducible refine qws_ rfl _ rfl _ rfl hE ze ?_)
      | (with_reducible refine qws_ rfl _ rfl _ rfl hU ze ?_)
      | (with_reducible refine enneq_f rfl _ _ _ rfl _ _ _ rfl rfl hq ?_))
     go_roundw
     case rel => exact ⟨i + 1, by omega, by go_num, hSa, hSb, hB⟩
     case measure => simp [intOf]; omega
    ·obtain rfl : i = LA := by omega
     have KA1 := Lib.hid (len_at hSa)
     have KA2 := Lib.hid fun (w' : World) (hb : Below v8.heap.size v8 w') => len_at (hSb.below hb)
     rw [← HLA.out] at KA1
     generalize M.length = LB at *
     clear HLA
     go_wp2_with fail
     refine KA1.out.mono ?_
     rintro x v9 ⟨rfl, hb⟩
     replace hB := hB.trans (hb.mono hB.size)
     go_wp2_with fail
     refine (KA2.out _ hb).mono ?_
     rintro x v10 ⟨rfl, hb⟩
     replace hB := hB.trans (hb.mono hB.size)
     go_wp2_with fail
     go_ret
     exact ⟨rfl, hB⟩
theorem room_walk (p : NN.Pr) (hp : p.ok) (h1 : p.one) (t : Tl) (tt : p.tl = t.C) (ht : t.ok) (gs : List Gt) (cs : List Ck) (hgn : t.gn = gs.length) (hcn : t.cn = cs.length) (a : Option Addr) (ls : List Cm) (n c : Nat) (hn : n = ls.length) (hl : n ≤ 4611686018427387904) (_ : ∀ x ∈ ls, -9223372036854775808 ≤ x.now ∧ x.now ≤ 9223372036854775807) (room : Int) (w : World) (hT : Tab w) (hA : ComesAt w a ls) (hG : GatesAt w t.ga gs) (hC : ChecksAt w t.ca cs) :
  Ca_ 7 #[.agg (NN.prA p), .slice a n c, .int .i64 room] w (.bool true) := by
 have KA : Hid (∀ w', Below w.heap.size w w' → Calls Tryz.prog 8 #[] w' fun e w'' => e = .returned (.bool true) ∧ Below w'.heap.size w' w'') := Lib.hid fun w' hb => alive12 w' (hT.below hb)
 have KG : ∀ g, grt t ls = g → Hid (∀ w', Below w.heap.size w w' → Calls Tryz.prog 9 #[.agg (NN.prA p), .slice a n c] w' fun e w'' => e = .returned (.bool g) ∧ Below w'.heap.size w' w'') := fun g hg => Lib.hid fun w' hb => grt_at p t tt ls n a c hn hl g hg w' (hA.below hb)
 cases hg : grt t ls
 ·have KG1 := KG false hg
  unfold grt at hg
  simp only [Bool.or_eq_false_iff, decide_eq_false_iff_not] at hg
  obtain ⟨⟨⟨hg0, hg1⟩, hg2⟩, hg3⟩ := hg
  have KR : ∀ g, ruleP p t.g gs cs = g → Hid (∀ w', Below w.heap.size w w' → Calls Tryz.prog 17 #[.agg (NN.prA p)] w' fun e w'' => e = .returned (.bool g) ∧ Below w'.heap.size w' w'') := fun g hr => Lib.hid fun w' hb => by
   rw [← hr]
   exact qjl_ p hp t tt ht gs cs hgn hcn (by omega) (by omega) w' (hG.below hb) (hC.below hb)
  cases hr : ruleP p t.g gs cs
  ·exact grp13_.1 p hp a n c room w KA KG1 (KR false hr)
  ·have hgP : t.g.P := by
    unfold ruleP at hr
    simp only [Bool.and_eq_true, decide_eq_true_eq] at hr
    exact hr.1.1.2
   have KN : ∀ room : Int, Hid (∀ w', Below w.heap.size w w' → Calls Tryz.prog 10 #[.agg (NN.prA p), .int .i64 room] w' fun e w'' => ∃ b F, e = .returned (.tuple #[.pointer (some ⟨b, 0, none⟩), .int .i64 0]) ∧ ArS w'' F b ⟨p, t.g, gs, cs, clampR room⟩ [entZ] ∧ (∀ i, F i → w'.heap.size ≤ i) ∧ Below w'.heap.size w' w'') := fun room => Lib.hid fun w' hb => new_at p hp h1 t tt ht gs cs hgn hcn (by omega) (by omega) room hr w' (hT.below hb) (hG.below hb) (hC.below hb)
   have HA := Lib.hid fun w' (hb : Below w.heap.size w w') => hA.below hb
   have HT := Lib.hid fun w' (hb : Below w.heap.size w w') => hT.below hb
   have hn40 : n ≤ 40 := by omega
   have HGG : Hid (t.g.ok ∧ t.g.P ∧ gs.length ≤ 1000 ∧ cs.length ≤ 1000) := Lib.hid ⟨ht.2, hgP, by omega, by omega⟩
   cases hr1 : decide (room < 1)
   ·cases hr2 : decide (40 < room)
    ·have h1 := of_decide_eq_false hr1
     have h2 := of_decide_eq_false hr2
     obtain ⟨R, rfl⟩ : ∃ R : Nat, room = (R : Int) := ⟨room.toNat, by omega⟩
     have KM : ∀ room : Int, Hid (∀ w', Below w.heap.size w w' → Calls Tryz.prog 28 #[.agg (NN.prA p), .int .i64 room] w' fun e w'' => ∃ b F, e = .returned (.pointer (some ⟨b, 0, none⟩)) ∧ (ArS w'' F b ⟨p, t.g, gs, cs, clampR room⟩ [entZ] ∧ ∀ i, F i → w'.heap.size ≤ i) ∧ Below w'.heap.size w' w'') := fun room => Lib.hid fun w' hb => must_at p hp room _ w' (Lib.hid fun w2 hb2 => (KN room).out w2 (hb.trans (hb2.mono hb.size)))
     have e1 : clampR (R : Int) = R := by unfold clampR; omega
     have e2 : clampR 100 = 100 := by unfold clampR; omega
     have K1 := KM (R : Int)
     have K2 := KM 100
     rw [e1] at K1
     rw [e2] at K2
     exact qvp_ p hp p t.g gs cs R a n c ls w (by omega) (by omega) hr1 hr2 HA (Lib.hid hn) hn40 HT HGG KA KG1 (KR true hr) K1 K2
    ·exact grp13_.2.2 p hp a n c room w hr1 hr2 KA KG1 (KR true hr)
   ·exact grp13_.2.1 p hp a n c room w hr1 KA KG1 (KR true hr)
 ·exact qsb_ p hp a n c room w KA (KG true hg)
end Go.Proofs.YtkclahiiijfllaaGreatDoor.An
namespace Go.Proofs.YtkclahiiijfllaaGreatDoor.An
open Go.RowKit Mem Sc
open Ar (Ent Ru entZ Ok)
structure OkC (r : Ru) (M : List Ent) (cl : List Int) : Prop where
 ok : Ok r M
 len : cl.length = M.length
 came : ∀ (i : Nat) (e : Ent), 0 < i → M[i]? = some e → ∃ (j : Nat) (d : Ent) (h : Hd), j < i ∧ M[j]? = some d ∧ e = ⟨d.hs ++ [h], (j : Nat)⟩ ∧ h.ok ∧ Ar.why r d h (cl.getD i 0) = 0 ∧ -9223372036854775808 ≤ cl.getD i 0 ∧ cl.getD i 0 ≤ 9223372036854775807
theorem OkC.one (r : Ru) (t : Int) : OkC r [entZ] [t] := ⟨Ok.one r, rfl, fun i e h0 he => by
 have := (List.getElem?_eq_some_iff.1 he).1
 simp at this; omega⟩
theorem add_two (r : Ru) (M : List Ent) (h : Hd) (now : Int) : (Ar.add r M h now).2 = M ∨ ∃ j d, M[j]? = some d ∧ Ar.why r d h now = 0 ∧ (Ar.add r M h now).2 = M ++ [⟨d.hs ++ [h], (j : Nat)⟩] := by
 unfold Ar.add
 split
 ·exact .inl rfl
 ·split
  ·exact .inl rfl
  ·split
   ·exact .inl rfl
   ·rename_i j hj
    obtain ⟨d, hd, _⟩ := Ar.qks_ hj
    have eD : M.getD j entZ = d := by rw [List.getD_eq_getElem?_getD, hd]; rfl
    split
    ·exact .inl rfl
    ·split
     ·exact .inl rfl
     ·rename_i h3 _
      rw [eD] at h3 ⊢
      exact .inr ⟨j, d, hd, by simpa using h3, rfl⟩
theorem OkC.add {r : Ru} {M : List Ent} {cl : List Int} (hM : OkC r M cl) {h : Hd} (ho : h.ok) (now : Int) (b1 : -9223372036854775808 ≤ now) (b2 : now ≤ 9223372036854775807) :
  ((Ar.add r M h now).2.length = M.length ∧ (Ar.add r M h now).2 = M) ∨ ((Ar.add r M h now).2.length = M.length + 1 ∧ OkC r (Ar.add r M h now).2 (cl ++ [now])) := by
 have hok := hM.ok.add ho now
 rcases add_two r M h now with e | ⟨j, d, hd, hw, e⟩
 ·rw [e]; exact .inl ⟨rfl, rfl⟩
 ·rw [e] at hok ⊢
  have hj := (List.getElem?_eq_some_iff.1 hd).1
  refine .inr ⟨by simp, hok, by simp [hM.len], fun i x h0 hx => ?_⟩
  by_cases hi : i < M.length
  ·rw [List.getElem?_append_left hi] at hx
   obtain ⟨j', d', h', q1, q2, q3, q4, q5⟩ := hM.came i x h0 hx
   have e2 : (cl ++ [now]).getD i 0 = cl.getD i 0 := by rw [List.getD_eq_getElem?_getD, List.getD_eq_getElem?_getD, List.getElem?_append_left (by rw [hM.len]; exact hi)]
   rw [e2]
   exact ⟨j', d', h', q1, by rw [List.getElem?_append_left (by omega)]; exact q2, q3, q4, q5⟩
  ·have hl := (List.getElem?_eq_some_iff.1 hx).1
   simp at hl
   obtain rfl : i = M.length := by omega
   rw [List.getElem?_append_right (Nat.le_refl _), Nat.sub_self] at hx
   obtain rfl : x = ⟨d.hs ++ [h], (j : Nat)⟩ := by simpa using hx.symm
   have e2 : (cl ++ [now]).getD M.length 0 = now := by rw [List.getD_eq_getElem?_getD, List.getElem?_append_right (by rw [hM.len]; exact Nat.le_refl _), hM.len, Nat.sub_self]; rfl
   rw [e2]
   exact ⟨j, d, h, hj, by rw [List.getElem?_append_left hj]; exact hd, rfl, ho, hw, b1, b2⟩
theorem qkl_ : ∃ i y, Tryz.prog.info? 3 = some i ∧ i.zero = some y ∧ i.size = 1 ∧ i.bytes = 8 ∧ y.cells.size = 1 := qlz_ (by kernel_rfl) (by kernel_rfl) (by kernel_rfl)
theorem qsc_ {w : World} {ops : Array Oper} {rest : List Oper} {o : Oper} {a : Act} {Q : Exit → Act → World → Prop} (hgd : o.guard = none) (s x : Operand) (ho : o.op = .call { callee := .builtin .append, args := #[s, x], argTypes := #[59, 59] }) (v : Value) (n : Nat) (l : List Int) (hs : a.eval s = v) (hown : w.ownsRow 0 3 1 v n (l.map (Value.int .i64)))
  (g : Nat) (z : Int) (hx : a.eval x = .slice (some ⟨g, 0, none⟩) 1 1) (hz : w.cell? ⟨g, 0, none⟩ = some (.int .i64 z)) (hn : n ≤ 900)
  (h : ∀ v' w', w'.ownsRow 0 3 1 v' (n + 1) ((l ++ [z]).map (Value.int .i64)) → w.grownBy w' v.ownBlock → (v'.ownBlock = v.ownBlock ∨ v'.ownBlock = some w.heap.size) → wpList Tryz.prog ops Q rest (a.put o.dst v') w') : wpList Tryz.prog ops Q (o :: rest) a w := by
 obtain ⟨i, y, hi, hzz, h1, h2, h3⟩ := qkl_
 refine wpList_append_own_at (P := Tryz.prog) w hgd s x 59 ho 0 3 i y 1 8 Tryz.underlying59 hi hzz h1 h2 h3 (by decide) v n _ hs hown ⟨g, 0, none⟩ 1 1 [.int .i64 z] hx rfl (fun j u hj => ?_) (fun u hu => ?_) (by unfold maxLen; omega) (by omega) (Nat.zero_le _) (fun v' w' g1 g2 _ g4 => h v' w' (by rw [List.map_append]; exact g1) g2 g4)
 ·match j, hj with
  | 0, hj => rw [Addr.add_lit, Nat.zero_add, hz]; exact hj
  | j + 1, hj => simp at hj
 ·obtain rfl : u = .int .i64 z := by simpa using hu
  rfl
theorem qie_ {w : World} {ops : Array Oper} {rest : List Oper} {o : Oper} {a : Act} {Q : Exit → Act → World → Prop} (hgd : o.guard = none) (s x : Operand) (ho : o.op = .call { callee := .builtin .append, args := #[s, x], argTypes := #[60, 60] }) (hty : o.type = 60) (base g : Nat) (y : Hd) (hy : y.ok) (hs : a.eval s = .slice (some ⟨g, 0, none⟩) 1 1) (hg : Has w g (hdA y) 30) (hbg : base ≤ g) (hbase : base ≤ w.heap.size)
  (ad : Option Addr) (m c : Nat) (z : List Hd) (hx : a.eval x = .slice ad m c) (hz : z.length = m) (hnil : ad = none → m = 0 ∧ c = 0) (hL : HeadersAt w ad z) (hn : m ≤ 900)
  (h : ∀ ad' c' w', HeadersAt w' ad' (y :: z) → ad' ≠ none → w.grownBy w' (some g) → wpList Tryz.prog ops Q rest (a.put o.dst (.slice ad' (m + 1) c')) w') : wpList Tryz.prog ops Q (o :: rest) a w := by
 obtain ⟨i, y0, hi, hzz, h1, h2, h3⟩ := qvy_
 have hown : w.ownsRow base 30 68 (.slice (some ⟨g, 0, none⟩) 1 1) 1 (hdC y) := ⟨by rw [qj_ hy], .inr ⟨g, 1, hdA y, rfl, hbg, hg, Nat.le_refl _, by decide, qq_ hy, by show ((hdC y).toArray.toList).take 68 = _; rw [← qj_ hy]; simp⟩⟩
 by_cases h0 : 0 < m
 ·obtain ⟨ab, ao, rfl, hlt, hc⟩ := hL (by omega)
  have hok : ∀ q ∈ z, q.ok := fun q hq => by obtain ⟨i, hi, e⟩ := List.mem_iff_getElem.1 hq; rw [← e]; exact (hc i hi).1
  refine wpList_append_own_at (P := Tryz.prog) w hgd s x 60 ho base 30 i y0 68 96 Tryz.underlying60 hi hzz h1 h2 h3 (by decide) _ 1 _ hs hown ⟨ab, ao, none⟩ m c (headersC z) hx ?_ (fun j u hj => ?_) (fun u hu => ?_) (by unfold maxLen; omega) (by omega) hbase (fun v' w' g1 g2 _ _ => ?_)
  ·rw [← hz]; exact qdy_ hdC 68 z (fun q hq => qj_ (hok q hq))
  ·rw [Addr.add_lit]
   exact qgm_ hdC 68 (by decide) z (fun q hq => qj_ (hok q hq)) (fun i q hi => by
    obtain ⟨e1, e2⟩ := List.getElem?_eq_some_iff.1 hi
    rw [← e2]; exact (hc i e1).2) j u hj
  ·exact qde_ hdC z (fun q _ => qij_ q) u hu
  ·have hok2 : ∀ q ∈ y :: z, q.ok := fun q hq => by
    rcases List.mem_cons.1 hq with rfl | hq
    ·exact hy
    ·exact hok q hq
   obtain ⟨a', c', rfl, h4⟩ := qgc_ (hs := y :: z) (n := 1 + m) g1 (by simp; omega) hok2
   rw [Nat.add_comm]
   exact h a' c' w' h4 (fun e => by obtain ⟨_, _, e2, _⟩ := h4 (by simp); rw [e] at e2; cases e2) g2
 ·obtain rfl : z = [] := List.eq_nil_of_length_eq_zero (by omega)
  have hm0 : m = 0 := by omega
  have hHA : HeadersAt w (some ⟨g, 0, none⟩) [y] := fun _ => ⟨g, 0, rfl, Has.lt hg, fun i hi => by
   obtain rfl : i = 0 := by simpa using hi
   refine ⟨hy, ?_⟩
   have := qcg_ (A := []) (cs := hdC y) (C := []) (o := 0) (w := w) (b := g) (t := 30) (by rw [List.append_nil]; exact hg) rfl
   exact this⟩
  cases ad with
  | none =>
   obtain ⟨_, rfl⟩ := hnil rfl
   subst hm0
   have hrun := run_append_owned_none (P := Tryz.prog) (w := w) base 60 60 30 i 68 Tryz.underlying60 hi _ 1 _ hown
   refine wpList_plain hgd fun _ hK => ?_
   unfold Oper.wp execOp
   simp only [ho, hty, resolve, invoke, builtin, Sem.run_bind, Sem.run_pure, Result.andThen_ok, List.map_toArray, List.map_cons, List.map_nil, hs, hx, hrun]
   exact hK _ _ (h _ _ w hHA (fun e => by cases e) ⟨rfl, rfl, rfl, Nat.le_refl _, fun _ _ _ => rfl⟩)
  | some ad =>
   subst hm0
   refine wpList_append_own_at (P := Tryz.prog) w hgd s x 60 ho base 30 i y0 68 96 Tryz.underlying60 hi hzz h1 h2 h3 (by decide) _ 1 _ hs hown ad 0 c [] hx rfl (fun j u hj => by simp at hj) (fun u hu => by cases hu) (by unfold maxLen; omega) (by omega) hbase (fun v' w' g1 g2 _ _ => ?_)
   obtain ⟨a', c', rfl, h4⟩ := qgc_ (hs := [y]) (n := 1 + 0) (by rw [List.append_nil] at g1; show w'.ownsRow _ _ _ _ _ (hdC y ++ []); rw [List.append_nil]; exact g1) rfl (fun q hq => (List.mem_singleton.1 hq).symm ▸ hy)
   exact h a' c' w' h4 (fun e => by obtain ⟨_, _, e2, _⟩ := h4 (by simp); rw [e] at e2; cases e2) g2
end Go.Proofs.YtkclahiiijfllaaGreatDoor.An
namespace Go.Proofs.YtkclahiiijfllaaGreatDoor.An
open Go.RowKit Mem Sc NN.Rg2
open Ar (Ent Ru entZ Ok)
theorem qvq_ {w : World} {v : Value} {n : Nat} {l : List Int} (h : w.ownsRow 0 3 1 v n (l.map (Value.int .i64))) (h0 : 0 < n) : ∃ g c, v = .slice (some ⟨g, 0, none⟩) n c ∧ g < w.heap.size ∧ ∀ j, j < n → w.cell? ⟨g, j, none⟩ = some (.int .i64 (l.getD j 0)) := by
 obtain ⟨a, c, rfl, _, h2⟩ := qgl_ (fun z : Int => [Value.int .i64 z]) 1 l (fun _ _ => rfl) (n := n) (v := v) (w := w) (base := 0) (T := 3) (by
  have e : l.flatMap (fun z : Int => [Value.int .i64 z]) = l.map (Value.int .i64) := by
   clear h h0
   induction l with
   | nil => rfl
   | cons x l ih => rw [List.flatMap_cons, ih]; rfl
  rw [e]; exact h) (by have := h.1; simpa using this.symm)
 obtain ⟨g, rfl, _, h3, h4⟩ := h2 h0
 have hl : l.length = n := by have := h.1; simpa using this
 refine ⟨g, c, rfl, h3, fun j hj => ?_⟩
 have := h4 j (l.getD j 0) (by rw [List.getD_eq_getElem?_getD, List.getElem?_eq_getElem (by omega)]; rfl) 0 _ rfl
 simpa using this
theorem qlb_ (p : NN.Pr) (hp : p.ok) (a : Option Addr) (n c : Nat) (room : Int) (w : World) (KA : Hid (∀ w', Below w.heap.size w w' → Calls Tryz.prog 8 #[] w' fun e w'' => e = .returned (.bool true) ∧ Below w'.heap.size w' w'')) (KG : Hid (∀ w', Below w.heap.size w w' → Calls Tryz.prog 9 #[.agg (NN.prA p), .slice a n c] w' fun e w'' => e = .returned (.bool true) ∧ Below w'.heap.size w' w'')) :
  Ca_ 4 #[.agg (NN.prA p), .int .i64 room, .slice a n c] w (.bool true) := by
 have hz := NN.qal_ hp
 go_enter Tryz.func4, Tryz.ntmps4
 go_upto_region 1 with fail
 generalize hw0 : World.alloc _ _ = v0
 have hB : Below w.heap.size w v0 := bl_ hw0
 have hP : NN.PrAt v0 w.heap.size p := by rw [← hw0]; exact NN.Has.new _ _
 clear hw0
 obtain ⟨bP, hbP⟩ : ∃ x, x = w.heap.size := ⟨_, rfl⟩
 rw [← hbP] at hP ⊢
 have HBP : Hid (bP = w.heap.size) := Lib.hid hbP
 clear hbP
 go_wp2_with (first | fail)
 refine (KA.out _ hB).mono ?_
 rintro e v1 ⟨rfl, hb⟩
 replace hP := hP.on hb
 replace hB := hB.trans (hb.mono hB.size)
 clear hb
 go_wp2_with (with_reducible first | refine NN.qh_ rfl _ rfl _ rfl hP hz ?_ | refine NN.qf_ (by with_unfolding_all rfl) _ rfl _ rfl hP hz ?_)
 refine (KG.out _ hB).mono ?_
 rintro e v2 ⟨rfl, hb⟩
 replace hP := hP.on hb
 replace hB := hB.trans (hb.mono hB.size)
 clear hb
 go_wp2_with fail
 go_ret
 exact ⟨rfl, hB⟩
theorem qsd_ (p : NN.Pr) (hp : p.ok) (a : Option Addr) (n c : Nat) (room : Int) (w : World) (KA : Hid (∀ w', Below w.heap.size w w' → Calls Tryz.prog 8 #[] w' fun e w'' => e = .returned (.bool true) ∧ Below w'.heap.size w' w'')) (KG : Hid (∀ w', Below w.heap.size w w' → Calls Tryz.prog 9 #[.agg (NN.prA p), .slice a n c] w' fun e w'' => e = .returned (.bool false) ∧ Below w'.heap.size w' w'')) (KR : Hid (∀ w', Below w.heap.size w w' → Calls Tryz.prog 17 #[.agg (NN.prA p)] w' fun e w'' => e = .returned (.bool false) ∧ Below w'.heap.size w' w'')) :
  Ca_ 4 #[.agg (NN.prA p), .int .i64 room, .slice a n c] w (.bool true) := by
 have hz := NN.qal_ hp
 go_enter Tryz.func4, Tryz.ntmps4
 go_upto_region 1 with fail
 generalize hw0 : World.alloc _ _ = v0
 have hB : Below w.heap.size w v0 := bl_ hw0
 have hP : NN.PrAt v0 w.heap.size p := by rw [← hw0]; exact NN.Has.new _ _
 clear hw0
 obtain ⟨bP, hbP⟩ : ∃ x, x = w.heap.size := ⟨_, rfl⟩
 rw [← hbP] at hP ⊢
 have HBP : Hid (bP = w.heap.size) := Lib.hid hbP
 clear hbP
 go_wp2_with (first | fail)
 refine (KA.out _ hB).mono ?_
 rintro e v1 ⟨rfl, hb⟩
 replace hP := hP.on hb
 replace hB := hB.trans (hb.mono hB.size)
 clear hb
 go_wp2_with (with_reducible first | refine NN.qh_ rfl _ rfl _ rfl hP hz ?_ | refine NN.qf_ (by with_unfolding_all rfl) _ rfl _ rfl hP hz ?_)
 refine (KG.out _ hB).mono ?_
 rintro e v2 ⟨rfl, hb⟩
 replace hP := hP.on hb
 replace hB := hB.trans (hb.mono hB.size)
 clear hb
 go_wp2_with (with_reducible first | refine NN.qh_ rfl _ rfl _ rfl hP hz ?_ | refine NN.qf_ (by with_unfolding_all rfl) _ rfl _ rfl hP hz ?_)
 refine (KR.out _ hB).mono ?_
 rintro e v3 ⟨rfl, hb⟩
 replace hP := hP.on hb
 replace hB := hB.trans (hb.mono hB.size)
 clear hb
 go_wp2_with fail
 go_ret
 exact ⟨rfl, hB⟩
theorem qnw_ (p : NN.Pr) (hp : p.ok) (t : Tl) (tt : p.tl = t.C) (ht : t.ok) (r : Ru) (er : Hid (r.g = t.g)) (a : Option Addr) (n c : Nat) (ls : List Cm) (room : Int) (w : World) (HA : Hid (∀ w', Below w.heap.size w w' → ComesAt w' a ls)) (HN : Hid (n = ls.length)) (hn40 : n ≤ 40) (HT : Hid (∀ w', Below w.heap.size w w' → Tab w')) (HG : Hid (r.g.ok ∧ r.g.P ∧ r.gs.length ≤ 1000 ∧ r.cs.length ≤ 1000)) (KA : Hid (∀ w', Below w.heap.size w w' → Calls Tryz.prog 8 #[] w' fun e w'' => e = .returned (.bool true) ∧ Below w'.heap.size w' w'')) (KG : Hid (∀ w', Below w.heap.size w w' → Calls Tryz.prog 9 #[.agg (NN.prA p), .slice a n c] w' fun e w'' => e = .returned (.bool false) ∧ Below w'.heap.size w' w'')) (KR : Hid (∀ w', Below w.heap.size w w' → Calls Tryz.prog 17 #[.agg (NN.prA p)] w' fun e w'' => e = .returned (.bool true) ∧ Below w'.heap.size w' w'')) (KN : Hid (∀ w', Below w.heap.size w w' → Calls Tryz.prog 10 #[.agg (NN.prA p), .int .i64 room] w' fun e w'' => ∃ b F, e = .returned (.tuple #[.pointer (some ⟨b, 0, none⟩), .int .i64 0]) ∧ ArS w'' F b r [entZ] ∧ (∀ i, F i → w'.heap.size ≤ i) ∧ Below w'.heap.size w' w'')) (KC : Hid (∀ w', Below w.heap.size w w' → ∀ (ad : Option Addr) (hs : List Hd) (m c : Nat) (h : Hd) (now : Int), m = hs.length + 1 → m ≤ 1000 → h.ok → HeadersAt w' ad (r.g :: hs) → Calls Tryz.prog 22 #[.agg (NN.prA p), .slice ad m c, .agg (hdA h), .int .i64 now] w' fun e w'' => e = .returned (.int .i64 (rchk p r.gs r.cs (way p r.g hs hs.length) h now)) ∧ Below w'.heap.size w' w'')) (erp : Hid (r.p = p)) (hiv : Hid (2 ≤ r.p.ivl)) (HNW : Hid (∀ x ∈ ls, -9223372036854775808 ≤ x.now ∧ x.now ≤ 9223372036854775807)) :
  Ca_ 4 #[.agg (NN.prA p), .int .i64 room, .slice a n c] w (.bool true) := by
 have hz := NN.qal_ hp
 go_enter Tryz.func4, Tryz.ntmps4
 go_upto_region 1 with fail
 generalize hw0 : World.alloc _ _ = v0
 have hB : Below w.heap.size w v0 := bl_ hw0
 have hP : NN.PrAt v0 w.heap.size p := by rw [← hw0]; exact NN.Has.new _ _
 clear hw0
 obtain ⟨bP, hbP⟩ : ∃ x, x = w.heap.size := ⟨_, rfl⟩
 rw [← hbP] at hP ⊢
 have HBP : Hid (bP = w.heap.size) := Lib.hid hbP
 clear hbP
 go_wp2_with (first | fail)
 refine (KA.out _ hB).mono ?_
 rintro e v1 ⟨rfl, hb⟩
 replace hP := hP.on hb
 replace hB := hB.trans (hb.mono hB.size)
 clear hb
 go_wp2_with (with_reducible first | refine NN.qh_ rfl _ rfl _ rfl hP hz ?_ | refine NN.qf_ (by with_unfolding_all rfl) _ rfl _ rfl hP hz ?_)
 refine (KG.out _ hB).mono ?_
 rintro e v2 ⟨rfl, hb⟩
 replace hP := hP.on hb
 replace hB := hB.trans (hb.mono hB.size)
 clear hb
 go_wp2_with (with_reducible first | refine NN.qh_ rfl _ rfl _ rfl hP hz ?_ | refine NN.qf_ (by with_unfolding_all rfl) _ rfl _ rfl hP hz ?_)
 refine (KR.out _ hB).mono ?_
 rintro e v3 ⟨rfl, hb⟩
 replace hP := hP.on hb
 replace hB := hB.trans (hb.mono hB.size)
 clear hb
 go_wp2_with (first | fail | (with_reducible refine NN.qh_ rfl _ rfl _ rfl hP hz ?_))
 refine (KN.out _ hB).mono ?_
 rintro e v4 ⟨b, F, rfl, hS, hF, hb⟩
 have hPl : bP < v3.heap.size := NN.Has.lt hP
 have hF0 : ∀ i, F i → bP < i := fun i hi => Nat.lt_of_lt_of_le hPl (hF i hi)
 have hFn : ∀ i, F i → i < v4.heap.size := hS.1
 replace hB := hB.trans (hb.mono hB.size)
 replace hP := hP.on hb
 have HP4 := Lib.hid hP
 clear hb hF hPl
 have hmk : ∀ w, (Instr.buildSlice 59 1 #[(0, .int .i64 0)]).run Tryz.prog w = .ok (.slice (some ⟨w.heap.size, 0, none⟩) 1 1) (w.alloc (.cells #[.int .i64 0] 3)) := fun w => qhz_ w 0
 go_upto_region 7 with fail
 have hb2 : Below v4.heap.size v4 (v4.alloc (.cells #[.int .i64 0] 3)) := (Below.refl _ _).alloc (Nat.le_refl _) _
 have hrow : (v4.alloc (.cells #[.int .i64 0] 3)).ownsRow 0 3 1 (.slice (some ⟨v4.heap.size, 0, none⟩) 1 1) 1 ([(0 : Int)].map (Value.int .i64)) := qgo_ (Has.new _ _) (Nat.zero_le _)
 have hdis : ∀ q, (Value.slice (some ⟨v4.heap.size, 0, none⟩) 1 1).ownBlock = some q → ¬ F q := fun q hq hf => by
  have : v4.heap.size = q := Option.some.inj hq
  have := hFn q hf
  omega
 generalize World.alloc _ _ = v5 at *
 replace hS := hS.below hb2
 replace hP := hP.on hb2
 replace hB := hB.trans (hb2.mono hB.size)
 have HG4 : Hid (bP < v4.heap.size) := Lib.hid (NN.Has.lt HP4.out)
 generalize v4.heap.size = g4 at *
 clear hb2 hmk hFn HP4
 go_wp2_with fail
 go_loopw [9, 39] (fun cv i wr => ∃ k : Nat, k ≤ n ∧ i = .int .i64 (k : Int) ∧ ∃ c9 F M cl, c9 = cv ∧ ArS wr F b r M ∧ wr.ownsRow 0 3 1 c9 M.length (cl.map (Value.int .i64)) ∧ Hid (OkC r M cl ∧ M.length ≤ k + 1 ∧ (∀ i, F i → bP < i) ∧ ∀ q, c9.ownBlock = some q → ¬ F q ∧ bP < q) ∧ NN.PrAt wr bP p ∧ Below w.heap.size w wr) (fun _ i _ => n - (intOf i).toNat)
 case atStart => exact ⟨0, by omega, rfl, _, F, [entZ], [0], rfl, hS, hrow, Lib.hid ⟨OkC.one r 0, Nat.le_refl _, hF0, fun q hq => ⟨hdis q hq, by have := (row_lt hrow hq).1; have e : g4 = q := Option.some.inj hq; exact e ▸ HG4.out⟩⟩, hP, hB⟩
 case round =>
  clear hS hB hF0 hrow hdis hP F
  obtain ⟨k, hk, rfl, cv, F, M, cl, rfl, hS, hrow, HM, hP, hB⟩ := hrel
  by_cases hlt : k < n
  ·obtain ⟨ab, ao, hae, habl, hc⟩ := (HA.out _ hB) (by rw [← HN.out]; omega)
   subst hae
   have hk2 : k < ls.length := by rw [← HN.out]; exact hlt
   obtain ⟨q0, q1⟩ := hc k hk2
   clear hc
   have HNy := HNW.out _ (List.getElem_mem hk2)
   generalize ls[k] = y at *
   clear hk2
   have z1 := qes_ q0
   have z2 := qfc_ q0
   have z0 := qfc_ (c := cmZ) hdZ_ok
   have zy := qj_ q0
   have hb2 : Below wr.heap.size wr ((wr.alloc (.cells Tryz.zeroCells54 54)).setRow wr.heap.size (cmA y)) := below_setRow ((Below.refl _ _).alloc (Nat.le_refl _) _) (Nat.le_refl _) _
   have hY := qrz_ wr y
   have hnew := qml_ wr
   have hB2 := hB.trans (hb2.mono hB.size)
   have hS2 := hS.below hb2
   have hP2 := hP.on hb2
   have hrow2 := kp_row hrow (Kp.of (F := fun _ => False) hb2) (fun _ _ h => h)
   have hnY : ¬ F wr.heap.size := fun hf => by have := hS.1 _ hf; omega
   clear hS hP hrow hB
   go_upto_region 10 with (with_reducible first | refine qed_ rfl _ rfl ab (ao + k * 69) rfl y q1 z1 ?_ | refine qic_ rfl _ _ rfl _ _ y rfl rfl rfl z2 hnew z0 ?_)
   generalize World.setRow _ _ _ = v6 at *
   generalize wr.heap.size = bY at *
   clear hb2 hnew habl
   go_wp2_with fail
   refine (len_at hS2).mono ?_
   rintro e v7 ⟨rfl, hb⟩
   replace hS2 := hS2.below hb
   replace hP2 := hP2.on hb
   replace hrow2 := kp_row hrow2 (Kp.of (F := fun _ => False) hb) (fun _ _ h => h)
   replace hY := CmAt.on hY hb
   replace hB2 := hB2.trans (hb.mono hB2.size)
   clear hb
   have cn := hY.now q0
   have rh := hY.head
   have KAdd := Lib.hid (add_at hS2 HM.out.1.ok (by have := HM.out.2.1; omega) HG.out.2.2.1 HG.out.2.2.2 (HT.out _ hB2) y.h q0 y.now)
   have hFl := hS2.1
   go_wp2_with (first | fail | (with_reducible refine qaa_ rfl _ rfl _ 0 rfl y.h rh zy ?_))
   refine KAdd.out.mono ?_
   rintro e v8 ⟨rfl, hS8, hK⟩
   have hnP : ¬ F bP := fun hf => by have := HM.out.2.2.1 bP hf; omega
   have hP8 := hK.nhas hP2 hnP
   have hY8 : CmAt v8 bY y := hK.has hY hnY
   have hrow8 := kp_row hrow2 hK (fun q hq => (HM.out.2.2.2 q hq).1)
   have hB8 := hB2.trans (hK.below (fun i hi => Nat.le_of_lt (by rw [← HBP.out]; exact HM.out.2.2.1 i hi)) hB2.size)
   have hF8 : Hid ((∀ i, Nxt F v7 v8 i → bP < i) ∧ ∀ q, cv.ownBlock = some q → ¬ Nxt F v7 v8 q ∧ bP < q) := Lib.hid ⟨fun i hi => hi.elim (HM.out.2.2.1 i) (fun h => Nat.lt_of_lt_of_le (NN.Has.lt hP2) h.1), fun q hq => ⟨fun hn => hn.elim (HM.out.2.2.2 q hq).1 (fun h => by have := (row_lt hrow2 hq).1; omega), (HM.out.2.2.2 q hq).2⟩⟩
   have HOK := Lib.hid HM.out.1
   have HL : Hid (M.length ≤ k + 1) := Lib.hid HM.out.2.1
   clear hK KAdd hS2 hP2 hY hrow2 hB2 hnY hnP cn rh hFl HM
   generalize hF' : Nxt F v7 v8 = F' at *
   clear hF'
   have hadd := HOK.out.add q0 y.now HNy.1 HNy.2
   have cn := hY8.now q0
   obtain ⟨m0, hm0⟩ : ∃ x, x = M.length := ⟨_, rfl⟩
   have HM0 := Lib.hid hm0
   rw [← hm0] at hrow8 hadd HL ⊢
   have hm40 : m0 ≤ 41 := by have := HL.out; omega
   clear hm0
   generalize (Ar.add r M y.h y.now).1 = res at *
   go_wp2_with fail
   refine (len_at hS8).mono ?_
   rintro e v9 ⟨rfl, hb⟩
   replace hS8 := hS8.below hb
   replace hP8 := hP8.on hb
   replace hrow8 := kp_row hrow8 (Kp.of (F := fun _ => False) hb) (fun _ _ h => h)
   replace hY8 := CmAt.on hY8 hb
   replace hB8 := hB8.trans (hb.mono hB8.size)
   replace cn := hY8.now q0
   clear hb
   rcases hadd with ⟨h1, h2⟩ | ⟨h1, h2⟩
   ·rw [h1]
    rw [h2] at hS8
    have HM9 : Hid (OkC r M cl ∧ M.length ≤ k + 1 + 1 ∧ (∀ i, F' i → bP < i) ∧ ∀ q, cv.ownBlock = some q → ¬ F' q ∧ bP < q) := Lib.hid ⟨HOK.out, by have := HM0.out; have := HL.out; omega, hF8.out.1, hF8.out.2⟩
    rw [HM0.out] at hrow8
    clear h1 h2
    go_wp2_with fail
    go_roundw
    case rel => exact ⟨k + 1, by omega, by go_num, _, F', M, cl, rfl, hS8, hrow8, HM9, hP8, hB8⟩
    case measure => simp [intOf]; omega
   ·have h2' := Lib.hid h2
    rw [h1]
    generalize (Ar.add r M y.h y.now).2 = M' at *
    have H1 := Lib.hid h1
    clear h1 h2
    have hmk := fun w => qhz_ w y.now
    have hb2 : Below v9.heap.size v9 (v9.alloc (.cells #[.int .i64 y.now] 3)) := (Below.refl _ _).alloc (Nat.le_refl _) _
    have hrow9 := kp_row hrow8 (Kp.of (F := fun _ => False) hb2) (fun _ _ h => h)
    have hz9 : (v9.alloc (.cells #[.int .i64 y.now] 3)).cell? ⟨v9.heap.size, 0, none⟩ = some (.int .i64 y.now) := Has.cell (Has.new _ _) 0
    have hS9 := hS8.below hb2
    have hP9 := hP8.on hb2
    have hB9 := hB8.trans (hb2.mono hB8.size)
    have hm9 : m0 ≤ 900 := by omega
    clear hS8 hP8 hB8 hrow8
    go_wp2_with ((with_reducible refine qsc_ rfl _ _ rfl cv m0 cl rfl hrow9 v9.heap.size y.now rfl hz9 hm9 ?_); intro cv' v10 hrow10 hg10 hloc)
    have hK10 : Kp (fun q => cv.ownBlock = some q) (v9.alloc (.cells #[.int .i64 y.now] 3)) v10 := Kp.gb hg10 (fun q hq => hq)
    have hS10 := hS9.on hK10 (fun i hi hq => (hF8.out.2 i hq).1 hi)
    have hP10 := hK10.nhas hP9 (fun hq => by have := (hF8.out.2 bP hq).2; omega)
    have hB10 := hB9.trans (hK10.below (B := w.heap.size) (fun i hi => Nat.le_of_lt (by rw [← HBP.out]; exact (hF8.out.2 i hi).2)) hB9.size)
    have HM10 : Hid (OkC r M' (cl ++ [y.now]) ∧ M'.length ≤ k + 1 + 1 ∧ (∀ i, F' i → bP < i) ∧ ∀ q, cv'.ownBlock = some q → ¬ F' q ∧ bP < q) := Lib.hid ⟨h2'.out, by rw [H1.out]; have := HL.out; omega, hF8.out.1, fun q hq => by
     rcases hloc with hl | hl
     ·exact hF8.out.2 q (hl.symm.trans hq)
     ·rw [hl] at hq
      have e : (v9.alloc (.cells #[.int .i64 y.now] 3)).heap.size = q := Option.some.inj hq
      exact ⟨fun hf => by have := hS9.1 q hf; omega, by have := NN.Has.lt hP9; omega⟩⟩
    rw [← H1.out] at hrow10
    clear hK10 hS9 hP9 hB9 hg10 hloc hz9 hrow9 hb2 hmk
    go_roundw
    case rel => exact ⟨k + 1, by omega, by go_num, _, F', M', _, rfl, hS10, hrow10, HM10, hP10, hB10⟩
    case measure => simp [intOf]; omega
  ·obtain rfl : k = n := by omega
   have HOK : Hid (OkC r M cl) := Lib.hid HM.out.1
   have hml : M.length ≤ 41 := by have := HM.out.2.1; omega
   have hpos := HM.out.1.ok.pos
   obtain ⟨gC, cC, rfl, hgC, hcC⟩ := qvq_ hrow hpos
   have HS := Lib.hid fun (w' : World) (hb : Below wr.heap.size wr w') => hS.below hb
   have HP := Lib.hid fun (w' : World) (hb : Below wr.heap.size wr w') => hP.on hb
   have HBB := Lib.hid fun (w' : World) (hb : Below wr.heap.size wr w') => hB.trans (hb.mono hB.size)
   have HCl := Lib.hid fun (w' : World) (hb : Below wr.heap.size wr w') (j : Nat) (hj : j < M.length) => (hb.cell (p := ⟨gC, j, none⟩) hgC).trans (hcC j hj)
   have hb0 := Below.refl wr.heap.size wr
   obtain ⟨m, hm⟩ : ∃ m, m = M.length := ⟨_, rfl⟩
   rw [← hm] at hml hpos HCl ⊢
   have HML := Lib.hid hm
   have hnew := qhn_
   have zz := qbx_ enZ_ok
   clear hS hP hB hrow HM hgC hcC hm
   generalize wr = v7 at *
   go_wp2_with fail
   go_loopw [13] (fun i wr => ∃ k : Nat, 1 ≤ k ∧ k ≤ m ∧ i = .int .i64 (k : Int) ∧ Below v7.heap.size v7 wr) (fun i _ => m - (intOf i).toNat)
   case atStart => exact ⟨1, by omega, by omega, rfl, hb0⟩
   case round =>
    clear hb0
    obtain ⟨i, hi1, hi, rfl, hb7⟩ := hrel
    go_wp2_with fail
    refine (len_at (HS.out _ hb7)).mono ?_
    rintro x v8 ⟨rfl, hb⟩
    replace hb7 := hb7.trans (hb.mono hb7.size)
    clear hb
    rw [← HML.out]
    by_cases hlt : i < m
    ·have hS := HS.out _ hb7
     have he : M[i]? = some (M[i]'(by rw [← HML.out]; exact hlt)) := List.getElem?_eq_getElem _
     generalize M[i]'(by rw [← HML.out]; exact hlt) = e at he
     obtain ⟨j, d, h, q1, q2, q3, q4, q5, q6, q7⟩ := HOK.out.came i e (by omega) he
     obtain ⟨heo, heP⟩ := HOK.out.ok.head HG.out.1 HG.out.2.1 he
     have hok := qmj_ hS he
     have eh : Hid (e.h r.g = h) := Lib.hid (by rw [q3]; exact Ar.h_app _ _ _ _)
     have hdl : d.hs.length ≤ 40 := by have := (HOK.out.ok.chain j d q2).1; omega
     have KAt := Lib.hid (at_at hS he (i : Int) rfl)
     have eup : (enOf r e).up = (j : Int) := by rw [q3]; rfl
     have ze := qbx_ hok
     have HQ : Hid (j < i ∧ M[j]? = some d ∧ Ar.why r d h (cl.getD i 0) = 0 ∧ -9223372036854775808 ≤ cl.getD i 0 ∧ cl.getD i 0 ≤ 9223372036854775807 ∧ d.hs.length ≤ 40) := Lib.hid ⟨q1, q2, q5, q6, q7, hdl⟩
     clear hS he q1 q2 q3 q5 q6 q7 heo heP hdl
     go_wp2_with fail
     refine KAt.out.mono ?_
     rintro x v9 ⟨rfl, hb⟩
     replace hb7 := hb7.trans (hb.mono hb7.size)
     clear hb KAt
     have hb2 := qid_ v9 44 Tryz.zeroCells44 (enA (enOf r e))
     have hE := qmm_ v9 (enOf r e)
     go_upto_region 20 with (with_reducible refine qfa_ rfl _ _ rfl _ _ (enOf r e) rfl rfl rfl ze (hnew v9) zz ?_)
     generalize World.setRow _ _ _ = v10 at *
     replace hb7 := hb7.trans (hb2.mono hb7.size)
     generalize v9.heap.size = bE at *
     clear hb2
     have c0 := EnAt.up hE hok (z := (j : Int)) (Lib.hid eup)
     have hb10 := Below.refl v10.heap.size v10
     have HE := Lib.hid fun (w' : World) (hb : Below v10.heap.size v10 w') => EnAt.on hE hb
     have H7 := Lib.hid fun (w' : World) (hb : Below v10.heap.size v10 w') => hb7.trans (hb.mono hb7.size)
     go_wp2_with fail
     go_loopw [14, 17] (fun cv kv wr => ∃ (chain : List Hd) (ad : Option Addr) (mm cc : Nat) (kz : Int), cv = .slice ad mm cc ∧ kv = .int .i64 kz ∧ Hid (chain.length = mm ∧ (ad = none → mm = 0 ∧ cc = 0) ∧ ((∃ (q : Nat) (d' : Ent), q < i ∧ kz = (q : Int) ∧ M[q]? = some d' ∧ r.g :: d.hs = (r.g :: d'.hs) ++ chain) ∨ (kz = -1 ∧ chain = r.g :: d.hs))) ∧ HeadersAt wr ad chain ∧ Below v10.heap.size v10 wr) (fun _ kv _ => ((intOf kv) + 1).toNat)
     case atStart => exact ⟨[], none, 0, 0, (j : Int), rfl, rfl, Lib.hid ⟨rfl, fun _ => ⟨rfl, rfl⟩, .inl ⟨j, d, HQ.out.1, rfl, HQ.out.2.1, by simp⟩⟩, fun h => by simp at h, hb10⟩
     case round =>
      clear hE hb7 c0 hb10
      obtain ⟨chain, ad, mm, cc, kz, rfl, rfl, HST, hH, hb⟩ := hrel
      obtain ⟨st1, st2, st3⟩ := HST.out
      rcases st3 with ⟨q, d', x1, rfl, x3, x4⟩ | ⟨rfl, x2⟩
      ·have hmm : mm ≤ 40 := by
        have := congrArg List.length x4
        have := HQ.out.2.2.2.2.2
        simp at this ⊢
        simp at *
        omega
       have hS := HS.out _ (H7.out _ hb)
       have hokd := qmj_ hS x3
       have KAt := Lib.hid (at_at hS x3 (q : Int) rfl)
       have zd := qbx_ hokd
       have hyo : (d'.h r.g).ok := hokd.1
       have hst : ∃ kz' : Int, (enOf r d').up = kz' ∧ -1 ≤ kz' ∧ kz' < q ∧ ((∃ (q2 : Nat) (d2 : Ent), q2 < i ∧ kz' = (q2 : Int) ∧ M[q2]? = some d2 ∧ r.g :: d.hs = (r.g :: d2.hs) ++ (d'.h r.g :: chain)) ∨ (kz' = -1 ∧ d'.h r.g :: chain = r.g :: d.hs)) := by
        by_cases h0 : 0 < q
        ·obtain ⟨j2, d2, h2, n2, y1, y2, y3, y4, y5, y6⟩ := HOK.out.ok.up q d' h0 x3
         refine ⟨(j2 : Int), by rw [y3]; rfl, by omega, by omega, .inl ⟨j2, d2, by omega, rfl, y2, ?_⟩⟩
         rw [x4, y3, Ar.h_app]
         simp
        ·obtain rfl : q = 0 := by omega
         obtain rfl : d' = entZ := Option.some.inj (x3.symm.trans HOK.out.ok.zero)
         exact ⟨-1, rfl, by omega, by omega, .inr ⟨rfl, by rw [x4]; rfl⟩⟩
       obtain ⟨kz', eu, ek1, ek2, est⟩ := hst
       have d40 : decide ((40 : Int) < (mm : Int)) = false := decide_eq_false (by omega)
       have HX : Hid ((d'.h r.g :: chain).length = mm + 1) := Lib.hid (by simp [st1])
       have HEST := Lib.hid est
       have HM40 := Lib.hid hmm
       clear hS x3 x4 est HST
       go_wp2_with fail
       refine KAt.out.mono ?_
       rintro x v12 ⟨rfl, hb2⟩
       replace hH := hH.below hb2
       replace hb := hb.trans (hb2.mono hb.size)
       clear hb2 KAt
       have hb2 := qid_ v12 44 Tryz.zeroCells44 (enA (enOf r d'))
       have hX := qmm_ v12 (enOf r d')
       go_upto_region 23 with (with_reducible refine qfa_ rfl _ _ rfl _ _ (enOf r d') rfl rfl rfl zd (hnew v12) zz ?_)
       generalize World.setRow _ _ _ = v13 at *
       replace hH := hH.below hb2
       replace hb := hb.trans (hb2.mono hb.size)
       generalize v12.heap.size = bX at *
       clear hb2
       have hX2 := hX
       have rh : v13.rangeAt bX 0 (hdC (d'.h r.g)) := hX.head
       have zh := qj_ hyo
       have za := qq_ hyo
       have hmm9 : mm ≤ 900 := by omega
       have hbW : Below v13.heap.size v13 (v13.alloc (.cells (hdA (d'.h r.g)) 30)) := (Below.refl _ _).alloc (Nat.le_refl _) _
       have hgW : Has (v13.alloc (.cells (hdA (d'.h r.g)) 30)) v13.heap.size (hdA (d'.h r.g)) 30 := Has.new _ _
       have hHW := hH.below hbW
       have hXW := EnAt.on hX hbW
       have hbg : v13.heap.size ≤ (v13.alloc (.cells (hdA (d'.h r.g)) 30)).heap.size := hbW.size
       go_upto_region 26 with (first
        | (with_reducible refine qaa_ rfl _ rfl bX 0 rfl (d'.h r.g) rh zh ?_)
        | (with_reducible refine qxj_ rfl _ rfl (hdA (d'.h r.g)) rfl za ?_)
        | ((with_reducible refine qie_ rfl _ _ rfl rfl v13.heap.size v13.heap.size (d'.h r.g) hyo rfl hgW (Nat.le_refl _) hbg ad mm cc chain rfl st1 st2 hHW hmm9 ?_); intro ad' c' v14 hH' hne hg'))
       have hb14 : Below v13.heap.size v13 v14 := (hbW).grown hg' hbW.size (fun q hq => by have : v13.heap.size = q := Option.some.inj hq; omega)
       have hX14 := EnAt.on hX hb14
       replace hb := hb.trans (hb14.mono hb.size)
       have c1 := EnAt.up hX14 hokd (Lib.hid eu)
       clear hX hX2 hXW hgW hHW hbg hg' hbW rh hH hb14
       go_wp2_with fail
       go_roundw
       case rel => exact ⟨_, ad', mm + 1, c', kz', rfl, rfl, Lib.hid ⟨HX.out, fun e => absurd e hne, HEST.out⟩, hH', hb⟩
       case measure => simp [intOf]; omega
      ·subst x2
       have hH2 := Lib.hid hH
       obtain ⟨ab, ao, rfl, habl, hc⟩ := hH (by simp)
       have r0 : wr.rangeAt ab ao (hdC r.g) := by have := (hc 0 (by simp)).2; simpa using this
       have hb7 := H7.out _ hb
       have hE := HE.out _ hb
       have hP := HP.out _ hb7
       have rg := pr_gen hP tt ht
       rw [← er.out] at rg
       have rE : wr.rangeAt bE 0 (hdC (e.h r.g)) := hE.head
       have hgo := HG.out.1
       have heo : (e.h r.g).ok := hok.1
       have s1 := qj_ hgo
       have s2 := qj_ heo
       have hq := fun w => hd_neq r.g r.g hgo hgo false (by simp) w
       have qa := qs_ r0 (qcd_ _)
       have qg := qs_ rg (qcd_ _)
       have qe := qs_ rE (qcd_ _)
       have qP := NN.PrAt.cls hP
       have cC := HCl.out _ hb7 i hlt
       have u1 : ∀ d os, (Sort.grow (redrawn wr d) os).cell? ⟨gC, i, none⟩ = some (.int .i64 (cl.getD i 0)) := cell_regrown cC
       have HBr : ∀ d os, Below wr.heap.size wr (Sort.grow (redrawn wr d) os) := fun d os => below_regrown wr d os
       have hw0 : rchk p r.gs r.cs (way p r.g d.hs d.hs.length) (e.h r.g) (cl.getD i 0) = 0 := by
        have := HOK.out.ok.rwhy hiv.out HQ.out.2.1 (e.h r.g) (cl.getD i 0) HQ.out.2.2.2.1 HQ.out.2.2.2.2.1
        rw [← erp.out]
        exact this.trans (by rw [eh.out]; exact HQ.out.2.2.1)
       obtain ⟨ci, hci⟩ : ∃ x, x = cl.getD i 0 := ⟨_, rfl⟩
       rw [← hci] at hw0 u1
       have HKC : Hid (∀ w', Below wr.heap.size wr w' → Calls Tryz.prog 22 #[.agg (NN.prA p), .slice (some ⟨ab, ao, none⟩) mm cc, .agg (hdA (e.h r.g)), .int .i64 ci] w' fun e w'' => e = .returned (.int .i64 0) ∧ Below w'.heap.size w' w'') := Lib.hid fun (w' : World) (hbw : Below wr.heap.size wr w') => by
        have := KC.out w' (HBB.out _ (hb7.trans (hbw.mono hb7.size))) (some ⟨ab, ao, none⟩) d.hs mm cc (e.h r.g) ci (by rw [← st1]; rfl) (by have := HQ.out.2.2.2.2.2; have := st1; simp at this; omega) heo (hH2.out.below hbw)
        rw [hw0] at this
        exact this
       have hmp : 0 < mm := by rw [← st1]; simp
       clear hci cC
       clear hc habl r0 rg rE hE hP hw0 st1 st2 HST hH2
       go_upto_region 27 with fail
       refine wp_region_quiet_below (by kernel_rfl) (by kernel_rfl) ?_
       repeat (first
        | (go_big_quiet_want; (with_reducible refine qt_ _ rfl ab ao rfl r.g s1 qa ?_); (simp only [Act.put, List.setIfInBounds_toArray, List.set_cons_zero, List.set_cons_succ]); go_big_quiet_on)
        | (go_big_quiet_want; (with_reducible refine qt_ _ rfl bP 15 rfl r.g s1 qg ?_); (simp only [Act.put, List.setIfInBounds_toArray, List.set_cons_zero, List.set_cons_succ]); go_big_quiet_on)
        | (go_big_quiet_want; (with_reducible refine qt_ _ rfl bE 0 rfl (e.h r.g) s2 qe ?_); (simp only [Act.put, List.setIfInBounds_toArray, List.set_cons_zero, List.set_cons_succ]); go_big_quiet_on)
        | (go_big_quiet_want; (with_reducible refine qmv_ _ _ _ rfl _ _ _ rfl rfl hq ?_); (simp only [Act.put, List.setIfInBounds_toArray, List.set_cons_zero, List.set_cons_succ]); go_big_quiet_on)
        | (go_big_quiet_want; (with_reducible refine NN.qar_ _ rfl _ rfl hz qP ?_); (simp only [Act.put, List.setIfInBounds_toArray, List.set_cons_zero, List.set_cons_succ]); go_big_quiet_on)
        | go_big_quiet_step ((go_at_call 22; exact Calls.regrown_of (HKC.out _ (HBr _ _)))))
       refine wpQuiet_nil ?_
       intro v14 hw'
       have hb14 := hb7.trans ((qas_ v14 hw').mono hb7.size)
       clear hw' qa qg qe qP u1 HBr HKC hq hb
       go_wp2_with fail
       go_roundw
       case rel => exact ⟨i + 1, by omega, by omega, by go_num, hb14⟩
       case measure => simp [intOf]; omega
    ·obtain rfl : i = m := by omega
     have hB := HBB.out _ hb7
     go_wp2_with fail
     go_ret
     exact ⟨rfl, hB⟩
theorem qnx_ (p : NN.Pr) (hp : p.ok) (h1 : p.one) (t : Tl) (tt : p.tl = t.C) (ht : t.ok) (gs : List Gt) (cs : List Ck) (hgn : t.gn = gs.length) (hcn : t.cn = cs.length) (a : Option Addr) (ls : List Cm) (n c : Nat) (hn : n = ls.length) (hl : n ≤ 4611686018427387904) (hnow : ∀ x ∈ ls, -9223372036854775808 ≤ x.now ∧ x.now ≤ 9223372036854775807) (room : Int) (w : World) (hT : Tab w) (hA : ComesAt w a ls) (hG : GatesAt w t.ga gs) (hC : ChecksAt w t.ca cs) :
  Ca_ 4 #[.agg (NN.prA p), .int .i64 room, .slice a n c] w (.bool true) := by
 have KA : Hid (∀ w', Below w.heap.size w w' → Calls Tryz.prog 8 #[] w' fun e w'' => e = .returned (.bool true) ∧ Below w'.heap.size w' w'') := Lib.hid fun w' hb => alive12 w' (hT.below hb)
 have KG : ∀ g, grt t ls = g → Hid (∀ w', Below w.heap.size w w' → Calls Tryz.prog 9 #[.agg (NN.prA p), .slice a n c] w' fun e w'' => e = .returned (.bool g) ∧ Below w'.heap.size w' w'') := fun g hg => Lib.hid fun w' hb => grt_at p t tt ls n a c hn hl g hg w' (hA.below hb)
 cases hg : grt t ls
 ·have KG1 := KG false hg
  unfold grt at hg
  simp only [Bool.or_eq_false_iff, decide_eq_false_iff_not] at hg
  obtain ⟨⟨⟨hg0, hg1⟩, hg2⟩, hg3⟩ := hg
  have KR : ∀ g, ruleP p t.g gs cs = g → Hid (∀ w', Below w.heap.size w w' → Calls Tryz.prog 17 #[.agg (NN.prA p)] w' fun e w'' => e = .returned (.bool g) ∧ Below w'.heap.size w' w'') := fun g hr => Lib.hid fun w' hb => by
   rw [← hr]
   exact qjl_ p hp t tt ht gs cs hgn hcn (by omega) (by omega) w' (hG.below hb) (hC.below hb)
  cases hr : ruleP p t.g gs cs
  ·exact qsd_ p hp a n c room w KA KG1 (KR false hr)
  ·have hgP : t.g.P := by
    unfold ruleP at hr
    simp only [Bool.and_eq_true, decide_eq_true_eq] at hr
    exact hr.1.1.2
   have KN : ∀ room : Int, Hid (∀ w', Below w.heap.size w w' → Calls Tryz.prog 10 #[.agg (NN.prA p), .int .i64 room] w' fun e w'' => ∃ b F, e = .returned (.tuple #[.pointer (some ⟨b, 0, none⟩), .int .i64 0]) ∧ ArS w'' F b ⟨p, t.g, gs, cs, clampR room⟩ [entZ] ∧ (∀ i, F i → w'.heap.size ≤ i) ∧ Below w'.heap.size w' w'') := fun room => Lib.hid fun w' hb => new_at p hp h1 t tt ht gs cs hgn hcn (by omega) (by omega) room hr w' (hT.below hb) (hG.below hb) (hC.below hb)
   have HA := Lib.hid fun w' (hb : Below w.heap.size w w') => hA.below hb
   have HT := Lib.hid fun w' (hb : Below w.heap.size w w') => hT.below hb
   have hn40 : n ≤ 40 := by omega
   have HGG : Hid (t.g.ok ∧ t.g.P ∧ gs.length ≤ 1000 ∧ cs.length ≤ 1000) := Lib.hid ⟨ht.2, hgP, by omega, by omega⟩
   have hiv : 2 ≤ p.ivl := by
    unfold ruleP NN.Pr.good at hr
    simp only [Bool.and_eq_true, decide_eq_true_eq] at hr
    exact hr.1.1.1.1.1.1.1.1.2
   exact qnw_ p hp t tt ht ⟨p, t.g, gs, cs, clampR room⟩ (Lib.hid rfl) a n c ls room w HA (Lib.hid hn) hn40 HT HGG KA KG1 (KR true hr) (KN room) (Lib.hid fun w' hb ad hs m c h now hm hm2 ho hH => quq_ p hp t tt gs cs hgn hcn (by omega) (by omega) ad t.g hs m c hm hm2 h ho now w' hH (hG.below hb) (hC.below hb)) (Lib.hid rfl) (Lib.hid hiv) (Lib.hid hnow)
 ·exact qlb_ p hp a n c room w KA (KG true hg)
end Go.Proofs.YtkclahiiijfllaaGreatDoor.An
