import Derived.Test.YtkclahiiijfllaaGreatDoorSIdm
import Derived.Test.YtkclahiiijfllaaGreatDoorSBunQ24
import Derived.Test.YtkclahiiijfllaaGreatDoorSBunQ27
import Derived.Test.YtkclahiiijfllaaGreatDoorSBunQ21
import Derived.Test.YtkclahiiijfllaaGreatDoorSBunQ20
import Derived.Test.YtkclahiiijfllaaGreatDoorSBunQ25
import Derived.Test.YtkclahiiijfllaaGreatDoorSBunQ23
set_option maxRecDepth 100000
set_option maxHeartbeats 4000000
namespace Go.Proofs.YtkclahiiijfllaaGreatDoor.NN
open Go.RowKit Rg2
def Turned (k O x y : Nat) (l : Array Bool) (w : World) : Prop := (l.getD k false = false → Has w O (numC x) 26) ∧ (l.getD k false = true → Has w O (numC y) 26)
theorem Turned.now {k O x y i : Nat} {l : Array Bool} {w : World} (h : Turned k O x y l w) (hi : i < l.size) (hik : i ≠ k) (ha : (l.setIfInBounds i true).getD k false = false) : Has w O (numC x) 26 :=
 h.1 (by rw [qp_ _ _ _ hi, if_neg hik] at ha; exact ha)
theorem Turned.pre {k O x y i : Nat} {l : Array Bool} {w w' : World} (h : Turned k O x y l w) (hi : i < l.size) (hik : i ≠ k) (ha : (l.setIfInBounds i true).getD k false = false) (hw : Has w O (numC x) 26 → Has w' O (numC x) 26) : Turned k O x y (l.setIfInBounds i true) w' :=
 ⟨fun _ => hw (h.now hi hik ha), fun hk => by rw [ha] at hk; cases hk⟩
theorem Turned.keep {k O x y i : Nat} {l : Array Bool} {w : World} (h : Turned k O x y l w) (hi : i < l.size) (hik : i ≠ k) : Turned k O x y (l.setIfInBounds i true) w :=
 ⟨fun hk => h.1 (by rw [qp_ _ _ _ hi, if_neg hik] at hk; exact hk), fun hk => h.2 (by rw [qp_ _ _ _ hi, if_neg hik] at hk; exact hk)⟩
theorem qqm_ (a : Act) (n : Nat) (u : Nat → Value) (hs : a.tmps.size = n) (hd : a.defers = []) (hu : ∀ t, u t = a.eval (.tmp t)) : a = ⟨((List.range n).map u).toArray, []⟩ := by
 obtain ⟨tm, df⟩ := a
 obtain rfl : df = [] := hd
 congr 1
 apply Array.ext
 ·simpa using hs
 ·intro i h1 h2
  simp only [List.getElem_toArray, List.getElem_map, List.getElem_range, hu]
  simp [Act.eval, Array.getD_eq_getD_getElem?, h1]
structure ScC (w wr : World) (R : Nat) : Prop where
 below : Below w.heap.size w wr
 r : Has wr R (numC 0) 26
theorem ScC.on {w wr w' : World} {R : Nat} (h : ScC w wr R) (hb : Below wr.heap.size wr w') : ScC w w' R := ⟨h.below.trans (hb.mono h.below.size), h.r.on hb⟩
def scR (o1 r a m1 b m s : Nat) (g2 : Bool) : Nat → Value → Prop
 | 0, v => v = .agg (numC o1)
 | 1, v => v = .int .u64 (r : Int)
 | 2, v => v = .int .u64 (a : Int)
 | 3, v => v = .int .u64 (m1 : Int)
 | 4, v => v = .int .u64 (b : Int)
 | 5, v => v = .int .u64 (m : Int)
 | 6, v => v = .agg (numC m)
 | 7, v => v = .tuple #[.agg (numC s), .bool g2]
 | 8, v => v = .tuple #[.agg (numC s), .bool g2]
 | 9, v => v = .agg (numC s)
 | 10, v => v = .bool g2
 | 12, v => v = .bool g2
 | _, _ => True
set_option maxHeartbeats 8000000 in
theorem grp3_ : (∀ (n c b q r o1 m1 m s : Nat) (g2 : Bool) (_f1 : IntKind.u64.wrap ((r : Int) * (c : Int)) = (m1 : Int)) (_f2 : IntKind.u64.wrap ((m1 : Int) / (b : Int)) = (m : Int)) (_f3 : (b : Int) ≠ 0)
  (_KO : Hid (Gv_ 131 #[.agg (numC n), .int .u64 (b : Int)] (.tuple #[.agg (numC q), .int .u64 (r : Int)])))
  (_KT : Hid (Gv_ 132 #[.agg (numC q), .int .u64 (c : Int)] (.tuple #[.agg (numC o1), .bool true])))
  (_KF : Hid (Gv_ 95 #[.int .u64 (m : Int)] (.agg (numC m))))
  (_KA : Hid (Gv_ 92 #[.agg (numC o1), .agg (numC m)] (.tuple #[.agg (numC s), .bool g2]))) (w : World), Ca_ 116 #[.agg (numC n), .int .u64 (c : Int), .int .u64 (b : Int)] w (.tuple #[.agg (numC s), .bool true])) ∧
  (∀ (n c b q r o1 m1 m s : Nat) (g2 : Bool) (_f1 : IntKind.u64.wrap ((r : Int) * (c : Int)) = (m1 : Int)) (_f2 : IntKind.u64.wrap ((m1 : Int) / (b : Int)) = (m : Int)) (_f3 : (b : Int) ≠ 0)
  (_KO : Hid (Gv_ 131 #[.agg (numC n), .int .u64 (b : Int)] (.tuple #[.agg (numC q), .int .u64 (r : Int)])))
  (_KT : Hid (Gv_ 132 #[.agg (numC q), .int .u64 (c : Int)] (.tuple #[.agg (numC o1), .bool false])))
  (_KF : Hid (Gv_ 95 #[.int .u64 (m : Int)] (.agg (numC m))))
  (_KA : Hid (Gv_ 92 #[.agg (numC o1), .agg (numC m)] (.tuple #[.agg (numC s), .bool g2]))) (w : World), Ca_ 116 #[.agg (numC n), .int .u64 (c : Int), .int .u64 (b : Int)] w (.tuple #[.agg (numC s), .bool g2])) := by
 refine ⟨fun n c b q r o1 m1 m s g2 f1 f2 f3 KO KT KF KA w => ?_,
  fun n c b q r o1 m1 m s g2 f1 f2 f3 KO KT KF KA w => ?_⟩
 all_goals
  go_enter Tryz.func116, Tryz.ntmps116
  go_upto_region 1 with fail
  generalize hw0 : World.alloc _ _ = v0
  have hbel : Below w.heap.size w v0 := by rw [← hw0]; exact ((Below.refl _ _).alloc (by simp <;> omega) _).alloc (by simp <;> omega) _
  have hN : Has v0 (w.heap.size) (numC n) 26 := by rw [← hw0]; exact (Has.new _ _).alloc _
  have hR : Has v0 (w.heap.size + 1) (numC 0) 26 := by rw [← hw0]; exact Has.new1 _ (numC 0) _
  have hR_le : Hid (w.heap.size ≤ w.heap.size + 1) := Lib.hid (by omega)
  clear hw0
  generalize hg1 : w.heap.size + 1 = b_hR at hR hR_le ⊢
  clear hg1
  go_wp2_with (with_reducible first | refine qb_ rfl _ rfl _ rfl _ hN rfl ?_ | refine qb_ rfl _ rfl _ rfl _ hR rfl ?_)
  refine (KO.out _).mono ?_
  rintro e v1 ⟨rfl, hb1⟩
  replace hN := hN.on hb1
  replace hR := hR.on hb1
  replace hbel := hbel.trans (hb1.mono hbel.size)
  clear hb1
  go_upto_region 2 with (with_reducible refine qe_ rfl _ _ rfl _ _ rfl rfl _ (Has.newz _) rfl ?_)
  generalize hw2 : World.setRow _ _ _ = v2
  have hb2 : Below v1.heap.size v1 v2 := bw_ hw2
  have hQ : Has v2 v1.heap.size (numC q) 26 := by rw [← hw2]; exact (Has.newz _).row _
  replace hN := hN.on hb2
  replace hR := hR.on hb2
  replace hbel := hbel.trans (hb2.mono hbel.size)
  clear hw2 hb2
  generalize v1.heap.size = b_hQ at hQ ⊢
  go_wp2_with (with_reducible first | refine qb_ rfl _ rfl _ rfl _ hN rfl ?_ | refine qb_ rfl _ rfl _ rfl _ hR rfl ?_ | refine qb_ rfl _ rfl _ rfl _ hQ rfl ?_)
  refine (KT.out _).mono ?_
  rintro e v3 ⟨rfl, hb3⟩
  replace hN := hN.on hb3
  replace hR := hR.on hb3
  replace hQ := hQ.on hb3
  replace hbel := hbel.trans (hb3.mono hbel.size)
  clear hb3
  have hbel0 := hbel
  have hRlt := hR.lt
  go_upto_region 3 with (with_reducible refine qe_ rfl _ _ rfl _ _ rfl rfl _ (Has.newz _) rfl ?_)
  generalize hw4 : World.setRow _ _ _ = v4
  have hb4 : Below v3.heap.size v3 v4 := bw_ hw4
  have hO : Has v4 v3.heap.size (numC o1) 26 := by rw [← hw4]; exact (Has.newz _).row _
  replace hN := hN.on hb4
  replace hR := hR.on hb4
  replace hQ := hQ.on hb4
  replace hbel := hbel.trans (hb4.mono hbel.size)
  clear hw4 hb4
  have HOle : Hid (w.heap.size ≤ v3.heap.size) := Lib.hid hbel0.size
  have hne : Hid (b_hR ≠ v3.heap.size) := Lib.hid (by have := hRlt; omega)
  clear hbel0 hRlt
  generalize v3.heap.size = b_hO at hO HOle hne ⊢
  have hT : ScC w v4 b_hR := ⟨hbel, hR⟩
  refine Rg2.ql_ (by kernel_rfl) (fun w' => ScC w w' b_hR) (fun i v _ => scR o1 r c m1 b m s g2 i v) (fun l _ w' => Turned 11 b_hO o1 s l w') (fun _ _ => True) (fun _ _ => trivial) (fun _ _ _ _ _ _ h => h) (by kernel_rfl) ⟨hT.below.drew, hT.r.drew⟩ ?_ ?_ ?_
  ·exact fun l hl => ⟨fun _ => hO.drew, fun hk => (by rw [hl] at hk; cases hk)⟩
  ·intro i o listed a wx ho hn hdep hinv
   have hC := hinv.c
   have hI := hinv.i
   have hi : i < 13 := (Array.getElem?_eq_some_iff.1 ho).1
   obtain rfl | rfl | rfl | rfl | rfl | rfl | rfl | rfl | rfl | rfl | rfl | rfl | rfl : i = 0 ∨ i = 1 ∨ i = 2 ∨ i = 3 ∨ i = 4 ∨ i = 5 ∨ i = 6 ∨ i = 7 ∨ i = 8 ∨ i = 9 ∨ i = 10 ∨ i = 11 ∨ i = 12 := by omega
   all_goals obtain rfl := Option.some.inj ho
   ·exact qd_ (C := fun w' => ScC w w' b_hR) (S := fun _ _ => True) (R := fun v _ => scR o1 r c m1 b m s g2 0 v) (J := fun _ w' => Turned 11 b_hO o1 s (listed.setIfInBounds 0 true) w') (fun _ _ => trivial) hC (qa_ rfl) (qaz_ rfl (hinv.old' 10 (by kernel_rfl)) (hI.now (by rw [hinv.size]; decide) (by decide) (hinv.aheadT 8 (by kernel_rfl) hn (by decide) (by decide)))) rfl (hI.pre (by rw [hinv.size]; decide) (by decide) (hinv.aheadT 8 (by kernel_rfl) hn (by decide) (by decide)) (fun h => h))
   ·exact qd_ (C := fun w' => ScC w w' b_hR) (S := fun _ _ => True) (R := fun v _ => scR o1 r c m1 b m s g2 1 v) (J := fun _ w' => Turned 11 b_hO o1 s (listed.setIfInBounds 1 true) w') (fun _ _ => trivial) hC (qa_ rfl) (qbd_ rfl) (hinv.old' 9 (by kernel_rfl)) (hI.pre (by rw [hinv.size]; decide) (by decide) (hinv.aheadT 8 (by kernel_rfl) hn (by decide) (by decide)) (fun h => h))
   ·exact qd_ (C := fun w' => ScC w w' b_hR) (S := fun _ _ => True) (R := fun v _ => scR o1 r c m1 b m s g2 2 v) (J := fun _ w' => Turned 11 b_hO o1 s (listed.setIfInBounds 2 true) w') (fun _ _ => trivial) hC (qa_ rfl) (qbd_ rfl) (hinv.old' 1 (by kernel_rfl)) (hI.pre (by rw [hinv.size]; decide) (by decide) (hinv.aheadT 8 (by kernel_rfl) hn (by decide) (by decide)) (fun h => h))
   ·exact qd_ (C := fun w' => ScC w w' b_hR) (S := fun _ _ => True) (R := fun v _ => scR o1 r c m1 b m s g2 3 v) (J := fun _ w' => Turned 11 b_hO o1 s (listed.setIfInBounds 3 true) w') (fun _ _ => trivial) hC (qa_ rfl) (qyc_ rfl (hinv.got 1 _ 27 rfl (hdep ⟨1, .data⟩ (by simp) rfl) rfl) (hinv.got 2 _ 28 rfl (hdep ⟨2, .data⟩ (by simp) rfl) rfl) (m1 : Int) f1) rfl (hI.pre (by rw [hinv.size]; decide) (by decide) (hinv.aheadT 8 (by kernel_rfl) hn (by decide) (by decide)) (fun h => h))
   ·exact qd_ (C := fun w' => ScC w w' b_hR) (S := fun _ _ => True) (R := fun v _ => scR o1 r c m1 b m s g2 4 v) (J := fun _ w' => Turned 11 b_hO o1 s (listed.setIfInBounds 4 true) w') (fun _ _ => trivial) hC (qa_ rfl) (qbd_ rfl) (hinv.old' 2 (by kernel_rfl)) (hI.pre (by rw [hinv.size]; decide) (by decide) (hinv.aheadT 8 (by kernel_rfl) hn (by decide) (by decide)) (fun h => h))
   ·exact qd_ (C := fun w' => ScC w w' b_hR) (S := fun _ _ => True) (R := fun v _ => scR o1 r c m1 b m s g2 5 v) (J := fun _ w' => Turned 11 b_hO o1 s (listed.setIfInBounds 5 true) w') (fun _ _ => trivial) hC (qa_ rfl) (qyd_ rfl (hinv.got 3 _ 29 rfl (hdep ⟨3, .data⟩ (by simp) rfl) rfl) (hinv.got 4 _ 30 rfl (hdep ⟨4, .data⟩ (by simp) rfl) rfl) f3 (m : Int) f2) rfl (hI.pre (by rw [hinv.size]; decide) (by decide) (hinv.aheadT 8 (by kernel_rfl) hn (by decide) (by decide)) (fun h => h))
   ·have e31 : a.eval (.tmp 31) = .int .u64 (m : Int) := hinv.got 5 _ 31 rfl (hdep ⟨5, .data⟩ (by simp) rfl) rfl
    exact qam_ (C := fun w' => ScC w w' b_hR) (S := fun _ _ => True) (R := fun v _ => scR o1 r c m1 b m s g2 6 v) (J := fun _ w' => Turned 11 b_hO o1 s (listed.setIfInBounds 6 true) w') (qa_ rfl) (f := 95) (args := #[a.eval (.tmp 31)]) (by kernel_rfl) (by rw [e31]; exact KF.out wx) (fun w' hb => ⟨hC.on hb, trivial, rfl, hI.pre (by rw [hinv.size]; decide) (by decide) (hinv.aheadT 8 (by kernel_rfl) hn (by decide) (by decide)) (fun h => h.on hb)⟩)
   ·have e26 : a.eval (.tmp 26) = .agg (numC o1) := hinv.got 0 _ 26 rfl (hdep ⟨0, .data⟩ (by simp) rfl) rfl
    have e32 : a.eval (.tmp 32) = .agg (numC m) := hinv.got 6 _ 32 rfl (hdep ⟨6, .data⟩ (by simp) rfl) rfl
    exact qam_ (C := fun w' => ScC w w' b_hR) (S := fun _ _ => True) (R := fun v _ => scR o1 r c m1 b m s g2 7 v) (J := fun _ w' => Turned 11 b_hO o1 s (listed.setIfInBounds 7 true) w') (qa_ rfl) (f := 92) (args := #[a.eval (.tmp 26), a.eval (.tmp 32)]) (by kernel_rfl) (by rw [e26, e32]; exact KA.out wx) (fun w' hb => ⟨hC.on hb, trivial, rfl, hI.pre (by rw [hinv.size]; decide) (by decide) (hinv.aheadT 8 (by kernel_rfl) hn (by decide) (by decide)) (fun h => h.on hb)⟩)
   ·exact qd_ (C := fun w' => ScC w w' b_hR) (S := fun _ _ => True) (R := fun v _ => scR o1 r c m1 b m s g2 8 v) (J := fun _ w' => Turned 11 b_hO o1 s (listed.setIfInBounds 8 true) w') (fun _ _ => trivial) hC (qa_ rfl) (qbd_ rfl) (hinv.got 7 _ 33 rfl (hdep ⟨7, .data⟩ (by simp) rfl) rfl) (hI.pre (by rw [hinv.size]; decide) (by decide) (hinv.aheadT 8 (by kernel_rfl) hn (by decide) (by decide)) (fun h => h))
   ·exact qd_ (C := fun w' => ScC w w' b_hR) (S := fun _ _ => True) (R := fun v _ => scR o1 r c m1 b m s g2 9 v) (J := fun _ w' => Turned 11 b_hO o1 s (listed.setIfInBounds 9 true) w') (fun _ _ => trivial) hC (qa_ rfl) (qbq_ rfl (hinv.got 8 _ 25 rfl (hdep ⟨8, .data⟩ (by simp) rfl) rfl) rfl) rfl (hI.pre (by rw [hinv.size]; decide) (by decide) (hinv.aheadT 8 (by kernel_rfl) hn (by decide) (by decide)) (fun h => h))
   ·exact qd_ (C := fun w' => ScC w w' b_hR) (S := fun _ _ => True) (R := fun v _ => scR o1 r c m1 b m s g2 10 v) (J := fun _ w' => Turned 11 b_hO o1 s (listed.setIfInBounds 10 true) w') (fun _ _ => trivial) hC (qa_ rfl) (qbq_ rfl (hinv.got 8 _ 25 rfl (hdep ⟨8, .data⟩ (by simp) rfl) rfl) rfl) rfl (hI.keep (by rw [hinv.size]; decide) (by decide))
   ·have hO := hI.1 (by exact hn)
    exact qx_ (C := fun w' => ScC w w' b_hR) (S := fun _ _ => True) (R := fun v _ => scR o1 r c m1 b m s g2 11 v) (J := fun _ w' => Turned 11 b_hO o1 s (listed.setIfInBounds 11 true) w') (qa_ rfl) (qau_ rfl (hinv.old' 10 (by kernel_rfl)) (hinv.got 9 _ 34 rfl (hdep ⟨9, .data⟩ (by simp) rfl) rfl) hO rfl) ⟨below_setRow hC.below HOle.out _, hC.r.otherRow _ _ hne.out⟩ trivial trivial ⟨fun hk => (by rw [qp_ _ _ _ (by rw [hinv.size]; decide), if_pos rfl] at hk; cases hk), fun _ => hO.row _⟩
   ·exact qd_ (C := fun w' => ScC w w' b_hR) (S := fun _ _ => True) (R := fun v _ => scR o1 r c m1 b m s g2 12 v) (J := fun _ w' => Turned 11 b_hO o1 s (listed.setIfInBounds 12 true) w') (fun _ _ => trivial) hC (qa_ rfl) (qby_ rfl) (hinv.got 10 _ 35 rfl (hdep ⟨10, .data⟩ (by simp) rfl) rfl) (hI.keep (by rw [hinv.size]; decide) (by decide))
  ·intro listed a wx hall hinv
   have hC := hinv.c
   have hO2 := hinv.i.2 (hall 11 (by decide))
   have hR2 := hC.r
   have hbel2 := hC.below
   obtain ⟨u, hu⟩ : ∃ u : Nat → Value, ∀ t, u t = a.eval (.tmp t) := ⟨_, fun _ => rfl⟩
   rw [qqm_ a 41 u hinv.tsize hinv.defers hu]
   have f0 := hinv.old' 0 (by kernel_rfl)
   have f1 := hinv.old' 1 (by kernel_rfl)
   have f2 := hinv.old' 2 (by kernel_rfl)
   have f3 := hinv.old' 3 (by kernel_rfl)
   have f4 := hinv.old' 4 (by kernel_rfl)
   have f5 := hinv.old' 5 (by kernel_rfl)
   have f6 := hinv.old' 6 (by kernel_rfl)
   have f7 := hinv.old' 7 (by kernel_rfl)
   have f8 := hinv.old' 8 (by kernel_rfl)
   have f9 := hinv.old' 9 (by kernel_rfl)
   have f10 := hinv.old' 10 (by kernel_rfl)
   have f11 := hinv.old' 11 (by kernel_rfl)
   have f13 := hinv.old' 13 (by kernel_rfl)
   have f14 := hinv.old' 14 (by kernel_rfl)
   have f15 := hinv.old' 15 (by kernel_rfl)
   have f16 := hinv.old' 16 (by kernel_rfl)
   have f17 := hinv.old' 17 (by kernel_rfl)
   have f18 := hinv.old' 18 (by kernel_rfl)
   have f19 := hinv.old' 19 (by kernel_rfl)
   have f20 := hinv.old' 20 (by kernel_rfl)
   have f21 := hinv.old' 21 (by kernel_rfl)
   have f22 := hinv.old' 22 (by kernel_rfl)
   have f23 := hinv.old' 23 (by kernel_rfl)
   have f24 := hinv.old' 24 (by kernel_rfl)
   have f36 := hinv.old' 36 (by kernel_rfl)
   have f37 := hinv.old' 37 (by kernel_rfl)
   have f38 := hinv.old' 38 (by kernel_rfl)
   have f39 := hinv.old' 39 (by kernel_rfl)
   have f40 := hinv.old' 40 (by kernel_rfl)
   have f12 := hinv.got 12 _ 12 rfl (hall 12 (by decide)) rfl
   simp only [← hu] at f0 f1 f2 f3 f4 f5 f6 f7 f8 f9 f10 f11 f12 f13 f14 f15 f16 f17 f18 f19 f20 f21 f22 f23 f24 f36 f37 f38 f39 f40
   simp [Act.eval] at f0 f1 f2 f3 f4 f5 f6 f7 f8 f9 f10 f11 f13 f14 f15 f16 f17 f18 f19 f20 f21 f22 f23 f24 f36 f37 f38 f39 f40
   clear hu hinv hall
   show Exit.then _ _ _ (⟨#[u 0, u 1, u 2, u 3, u 4, u 5, u 6, u 7, u 8, u 9, u 10, u 11, u 12, u 13, u 14, u 15, u 16, u 17, u 18, u 19, u 20, u 21, u 22, u 23, u 24, u 25, u 26, u 27, u 28, u 29, u 30, u 31, u 32, u 33, u 34, u 35, u 36, u 37, u 38, u 39, u 40], []⟩ : Act) _
   rw [f0, f1, f2, f3, f4, f5, f6, f7, f8, f9, f10, f11, f12, f13, f14, f15, f16, f17, f18, f19, f20, f21, f22, f23, f24, f36, f37, f38, f39, f40]
   clear f0 f1 f2 f3 f4 f5 f6 f7 f8 f9 f10 f11 f12 f13 f14 f15 f16 f17 f18 f19 f20 f21 f22 f23 f24 f36 f37 f38 f39 f40
   clear hN hQ hO hR hbel hT hC
   go_wp2_with (with_reducible first | refine qb_ rfl _ rfl _ rfl _ hO2 rfl ?_ | refine qe_ rfl _ _ rfl _ _ rfl rfl _ hR2 rfl ?_)
   exact bodyPost_ret (qu_ Tryz.results116 _ _ _ _ rfl rfl (hR2.row _)) rfl ⟨rfl, below_setRow hbel2 hR_le.out _⟩
theorem qtt_ (n a b : Nat) (hn : n < Nm.big) (ha : a < 4294967296) (hb : b < 4294967296) (h0 : b ≠ 0) (w : World) :
  Ca_ 116 #[.agg (numC n), .int .u64 (a : Int), .int .u64 (b : Int)] w (.tuple #[.agg (numC (n * a / b % Nm.big)), .bool (decide (Nm.big ≤ n * a / b))]) := by
 have hr : n % b < b := Nat.mod_lt _ (by omega)
 have hm1 : n % b * a < 18446744073709551616 := by
  have := Nat.mul_le_mul (show n % b ≤ 4294967295 by omega) (show a ≤ 4294967295 by omega)
  omega
 have hm : n % b * a / b ≤ n % b * a := Nat.div_le_self _ _
 have KO := fun w => over n b hn (by omega) w
 rw [if_neg h0] at KO
 have hq : n / b < Nm.big := Nat.lt_of_le_of_lt (Nat.div_le_self _ _) hn
 have KT := fun w => times (n / b) a hq (by omega) w
 have KF := fun w => of (n % b * a / b) (by omega) w
 have KA := fun w => add (n / b * a % Nm.big) (n % b * a / b) (Nat.mod_lt _ (by decide)) (by unfold Nm.big; omega) w
 have f1 : IntKind.u64.wrap (((n % b : Nat) : Int) * (a : Int)) = ((n % b * a : Nat) : Int) := by rw [← Int.natCast_mul, IntKind.wrap_u64]; omega
 have f2 : IntKind.u64.wrap (((n % b * a : Nat) : Int) / (b : Int)) = ((n % b * a / b : Nat) : Int) := by
  rw [← Int.natCast_ediv, IntKind.wrap_u64]
  have h9 := Nat.lt_of_le_of_lt hm hm1
  generalize n % b * a / b = M at h9 ⊢
  omega
 have e1 := qtk_ n a b (by omega)
 have e2 := qtl_ (n / b * a) (n % b * a / b)
 have e3 := qqf_ (n / b * a) (n % b * a / b)
 rw [← e1] at e2 e3
 rw [← e2, ← e3]
 by_cases hg : Nm.big ≤ n / b * a
 ·rw [decide_eq_true hg] at KT ⊢
  rw [Bool.true_or]
  exact grp3_.1 n a b _ _ _ _ _ _ _ f1 f2 (by omega) (Lib.hid KO) (Lib.hid KT) (Lib.hid KF) (Lib.hid KA) w
 ·rw [decide_eq_false hg] at KT ⊢
  rw [Bool.false_or]
  exact grp3_.2 n a b _ _ _ _ _ _ _ f1 f2 (by omega) (Lib.hid KO) (Lib.hid KT) (Lib.hid KF) (Lib.hid KA) w
end Go.Proofs.YtkclahiiijfllaaGreatDoor.NN
namespace Go.Proofs.YtkclahiiijfllaaGreatDoor.NN
open Go.RowKit
theorem qyi_ (p : Pr) (hz : (prA p).size = 83) (b fr to' lim : Int) (e0 : Hid (p.lim = lim)) (t : Nat)
    (KT : Hid (Gv_ 85 #[.int .i64 b, .int .i64 b] (.tuple #[.agg (numC t), .bool false])))
     (w : World) :
    Ca_ 89 #[.agg (prA p), .int .i64 b, .int .i64 fr, .int .i64 to'] w (.int .i64 lim) := by
  have hP_z := hz
  go_enter Tryz.func89, Tryz.ntmps89
  go_upto_region 1 with fail
  generalize hw0 : World.alloc _ _ = v0
  have hbel : Below w.heap.size w v0 := by rw [← hw0]; exact (Below.refl _ _).alloc (by simp <;> omega) _
  have hP : PrAt v0 (w.heap.size) p := by rw [← hw0]; exact Has.new _ _
  clear hw0
  have c0 := hP.c0 e0
  go_wp2_with (with_reducible first | refine qh_ rfl _ rfl _ rfl hP hP_z ?_ | refine qf_ (by with_unfolding_all rfl) _ rfl _ rfl hP hP_z ?_)
  refine (KT.out _).mono ?_
  rintro e v1 ⟨rfl, hb1⟩
  replace hP := hP.on hb1
  replace c0 := hP.c0 e0
  replace hbel := hbel.trans (hb1.mono hbel.size)
  clear hb1
  go_upto_region 2 with (with_reducible refine qe_ rfl _ _ rfl _ _ rfl rfl _ (Has.newz _) rfl ?_)
  generalize hw2 : World.setRow _ _ _ = v2
  have hb2 : Below v1.heap.size v1 v2 := bw_ hw2
  have hT : Has v2 v1.heap.size (numC t) 26 := by rw [← hw2]; exact (Has.newz _).row _
  replace hP := hP.on hb2
  replace c0 := hP.c0 e0
  replace hbel := hbel.trans (hb2.mono hbel.size)
  clear hw2 hb2
  generalize v1.heap.size = b_hT at hT ⊢
  go_wp2_with (with_reducible first | refine qh_ rfl _ rfl _ rfl hP hP_z ?_ | refine qf_ (by with_unfolding_all rfl) _ rfl _ rfl hP hP_z ?_ | refine qb_ rfl _ rfl _ rfl _ hT rfl ?_ | refine qc_ (by with_unfolding_all rfl) _ rfl _ rfl _ hT rfl ?_)
  go_ret
  exact ⟨rfl, hbel⟩
theorem ret_bad (p : Pr) (hz : (prA p).size = 83) (b fr to' lim : Int) (e0 : Hid (p.lim = lim)) (t : Nat)
    (KT : Hid (Gv_ 85 #[.int .i64 b, .int .i64 b] (.tuple #[.agg (numC t), .bool true])))
    (KG : Hid (Gv_ 54 #[.agg (prA p)] (.bool false)))
     (w : World) :
    Ca_ 89 #[.agg (prA p), .int .i64 b, .int .i64 fr, .int .i64 to'] w (.int .i64 lim) := by
  have hP_z := hz
  go_enter Tryz.func89, Tryz.ntmps89
  go_upto_region 1 with fail
  generalize hw0 : World.alloc _ _ = v0
  have hbel : Below w.heap.size w v0 := by rw [← hw0]; exact (Below.refl _ _).alloc (by simp <;> omega) _
  have hP : PrAt v0 (w.heap.size) p := by rw [← hw0]; exact Has.new _ _
  clear hw0
  have c0 := hP.c0 e0
  go_wp2_with (with_reducible first | refine qh_ rfl _ rfl _ rfl hP hP_z ?_ | refine qf_ (by with_unfolding_all rfl) _ rfl _ rfl hP hP_z ?_)
  refine (KT.out _).mono ?_
  rintro e v1 ⟨rfl, hb1⟩
  replace hP := hP.on hb1
  replace c0 := hP.c0 e0
  replace hbel := hbel.trans (hb1.mono hbel.size)
  clear hb1
  go_upto_region 2 with (with_reducible refine qe_ rfl _ _ rfl _ _ rfl rfl _ (Has.newz _) rfl ?_)
  generalize hw2 : World.setRow _ _ _ = v2
  have hb2 : Below v1.heap.size v1 v2 := bw_ hw2
  have hT : Has v2 v1.heap.size (numC t) 26 := by rw [← hw2]; exact (Has.newz _).row _
  replace hP := hP.on hb2
  replace c0 := hP.c0 e0
  replace hbel := hbel.trans (hb2.mono hbel.size)
  clear hw2 hb2
  generalize v1.heap.size = b_hT at hT ⊢
  go_wp2_with (with_reducible first | refine qh_ rfl _ rfl _ rfl hP hP_z ?_ | refine qf_ (by with_unfolding_all rfl) _ rfl _ rfl hP hP_z ?_ | refine qb_ rfl _ rfl _ rfl _ hT rfl ?_ | refine qc_ (by with_unfolding_all rfl) _ rfl _ rfl _ hT rfl ?_)
  refine (KG.out _).mono ?_
  rintro e v3 ⟨rfl, hb3⟩
  replace hP := hP.on hb3
  replace hT := hT.on hb3
  replace c0 := hP.c0 e0
  replace hbel := hbel.trans (hb3.mono hbel.size)
  clear hb3
  go_wp2_with (with_reducible first | refine qh_ rfl _ rfl _ rfl hP hP_z ?_ | refine qf_ (by with_unfolding_all rfl) _ rfl _ rfl hP hP_z ?_ | refine qb_ rfl _ rfl _ rfl _ hT rfl ?_ | refine qc_ (by with_unfolding_all rfl) _ rfl _ rfl _ hT rfl ?_)
  go_ret
  exact ⟨rfl, hbel⟩
theorem qtu_ (p : Pr) (hz : (prA p).size = 83) (b fr to' lim ivl spc : Int) (e0 : Hid (p.lim = lim)) (e1 : Hid (p.ivl = ivl)) (e2 : Hid (p.spc = spc)) (t z L : Nat) (oL : Bool)
    (sn s4 s16 tk : Nat) (d mx : Int) (f1 : IntKind.i64.wrap (ivl * spc) = (sn : Int)) (f2 : IntKind.i64.wrap (to' - fr) = d) (f3 : (sn : Int) / 4 = (s4 : Int)) (f4 : IntKind.i64.wrap ((sn : Int) * 4) = (s16 : Int)) (f5 : IntKind.i64.wrap (s4 : Int) = (s4 : Int))
    (f6 : mx = max d (s4 : Int)) (f7 : (tk : Int) = min mx (s16 : Int)) (f8 : IntKind.u64.wrap (tk : Int) = (tk : Int)) (f9 : IntKind.u64.wrap (sn : Int) = (sn : Int))
    (KT : Hid (Gv_ 85 #[.int .i64 b, .int .i64 b] (.tuple #[.agg (numC t), .bool true])))
    (KG : Hid (Gv_ 54 #[.agg (prA p)] (.bool true)))
    (KS : Hid (Gv_ 116 #[.agg (numC t), .int .u64 (tk : Int), .int .u64 (sn : Int)] (.tuple #[.agg (numC z), .bool true])))
    (KL : Hid (Gv_ 85 #[.int .i64 lim, .int .i64 lim] (.tuple #[.agg (numC L), .bool oL])))
     (w : World) :
    Ca_ 89 #[.agg (prA p), .int .i64 b, .int .i64 fr, .int .i64 to'] w (.int .i64 lim) := by
  have hP_z := hz
  go_enter Tryz.func89, Tryz.ntmps89
  go_upto_region 1 with fail
  generalize hw0 : World.alloc _ _ = v0
  have hbel : Below w.heap.size w v0 := by rw [← hw0]; exact (Below.refl _ _).alloc (by simp <;> omega) _
  have hP : PrAt v0 (w.heap.size) p := by rw [← hw0]; exact Has.new _ _
  clear hw0
  have c0 := hP.c0 e0
  have c1 := hP.c1 e1
  have c2 := hP.c2 e2
  go_wp2_with (with_reducible first | refine qh_ rfl _ rfl _ rfl hP hP_z ?_ | refine qf_ (by with_unfolding_all rfl) _ rfl _ rfl hP hP_z ?_)
  refine (KT.out _).mono ?_
  rintro e v1 ⟨rfl, hb1⟩
  replace hP := hP.on hb1
  replace c0 := hP.c0 e0
  replace c1 := hP.c1 e1
  replace c2 := hP.c2 e2
  replace hbel := hbel.trans (hb1.mono hbel.size)
  clear hb1
  go_upto_region 2 with (with_reducible refine qe_ rfl _ _ rfl _ _ rfl rfl _ (Has.newz _) rfl ?_)
  generalize hw2 : World.setRow _ _ _ = v2
  have hb2 : Below v1.heap.size v1 v2 := bw_ hw2
  have hT : Has v2 v1.heap.size (numC t) 26 := by rw [← hw2]; exact (Has.newz _).row _
  replace hP := hP.on hb2
  replace c0 := hP.c0 e0
  replace c1 := hP.c1 e1
  replace c2 := hP.c2 e2
  replace hbel := hbel.trans (hb2.mono hbel.size)
  clear hw2 hb2
  generalize v1.heap.size = b_hT at hT ⊢
  go_wp2_with (with_reducible first | refine qh_ rfl _ rfl _ rfl hP hP_z ?_ | refine qf_ (by with_unfolding_all rfl) _ rfl _ rfl hP hP_z ?_ | refine qb_ rfl _ rfl _ rfl _ hT rfl ?_ | refine qc_ (by with_unfolding_all rfl) _ rfl _ rfl _ hT rfl ?_)
  refine (KG.out _).mono ?_
  rintro e v3 ⟨rfl, hb3⟩
  replace hP := hP.on hb3
  replace hT := hT.on hb3
  replace c0 := hP.c0 e0
  replace c1 := hP.c1 e1
  replace c2 := hP.c2 e2
  replace hbel := hbel.trans (hb3.mono hbel.size)
  clear hb3
  have M1 := max_is (P := Tryz.prog) d (s4 : Int) mx f6
  have M2 := min_is (P := Tryz.prog) mx (s16 : Int) (tk : Int) f7
  clear f6 f7
  go_wp2_with (with_reducible first | refine qh_ rfl _ rfl _ rfl hP hP_z ?_ | refine qf_ (by with_unfolding_all rfl) _ rfl _ rfl hP hP_z ?_ | refine qb_ rfl _ rfl _ rfl _ hT rfl ?_ | refine qc_ (by with_unfolding_all rfl) _ rfl _ rfl _ hT rfl ?_)
  refine (KS.out _).mono ?_
  rintro e v4 ⟨rfl, hb4⟩
  replace hP := hP.on hb4
  replace hT := hT.on hb4
  replace c0 := hP.c0 e0
  replace c1 := hP.c1 e1
  replace c2 := hP.c2 e2
  replace hbel := hbel.trans (hb4.mono hbel.size)
  clear hb4
  go_upto_region 7 with (with_reducible refine qe_ rfl _ _ rfl _ _ rfl rfl _ (Has.newz _) rfl ?_)
  generalize hw5 : World.setRow _ _ _ = v5
  have hb5 : Below v4.heap.size v4 v5 := bw_ hw5
  have hZ : Has v5 v4.heap.size (numC z) 26 := by rw [← hw5]; exact (Has.newz _).row _
  replace hP := hP.on hb5
  replace hT := hT.on hb5
  replace c0 := hP.c0 e0
  replace c1 := hP.c1 e1
  replace c2 := hP.c2 e2
  replace hbel := hbel.trans (hb5.mono hbel.size)
  clear hw5 hb5
  generalize v4.heap.size = b_hZ at hZ ⊢
  clear M1 M2
  go_wp2_with (with_reducible first | refine qh_ rfl _ rfl _ rfl hP hP_z ?_ | refine qf_ (by with_unfolding_all rfl) _ rfl _ rfl hP hP_z ?_ | refine qb_ rfl _ rfl _ rfl _ hT rfl ?_ | refine qc_ (by with_unfolding_all rfl) _ rfl _ rfl _ hT rfl ?_ | refine qb_ rfl _ rfl _ rfl _ hZ rfl ?_ | refine qc_ (by with_unfolding_all rfl) _ rfl _ rfl _ hZ rfl ?_)
  refine (KL.out _).mono ?_
  rintro e v6 ⟨rfl, hb6⟩
  replace hP := hP.on hb6
  replace hT := hT.on hb6
  replace hZ := hZ.on hb6
  replace c0 := hP.c0 e0
  replace c1 := hP.c1 e1
  replace c2 := hP.c2 e2
  replace hbel := hbel.trans (hb6.mono hbel.size)
  clear hb6
  go_upto_region 8 with (with_reducible refine qe_ rfl _ _ rfl _ _ rfl rfl _ (Has.newz _) rfl ?_)
  generalize hw7 : World.setRow _ _ _ = v7
  have hb7 : Below v6.heap.size v6 v7 := bw_ hw7
  have hL : Has v7 v6.heap.size (numC L) 26 := by rw [← hw7]; exact (Has.newz _).row _
  replace hP := hP.on hb7
  replace hT := hT.on hb7
  replace hZ := hZ.on hb7
  replace c0 := hP.c0 e0
  replace c1 := hP.c1 e1
  replace c2 := hP.c2 e2
  replace hbel := hbel.trans (hb7.mono hbel.size)
  clear hw7 hb7
  generalize v6.heap.size = b_hL at hL ⊢
  go_wp2_with (with_reducible first | refine qh_ rfl _ rfl _ rfl hP hP_z ?_ | refine qf_ (by with_unfolding_all rfl) _ rfl _ rfl hP hP_z ?_ | refine qb_ rfl _ rfl _ rfl _ hT rfl ?_ | refine qc_ (by with_unfolding_all rfl) _ rfl _ rfl _ hT rfl ?_ | refine qb_ rfl _ rfl _ rfl _ hZ rfl ?_ | refine qc_ (by with_unfolding_all rfl) _ rfl _ rfl _ hZ rfl ?_ | refine qb_ rfl _ rfl _ rfl _ hL rfl ?_ | refine qc_ (by with_unfolding_all rfl) _ rfl _ rfl _ hL rfl ?_)
  go_ret
  exact ⟨rfl, hbel⟩
theorem qyj_ (p : Pr) (hz : (prA p).size = 83) (b fr to' lim ivl spc : Int) (e0 : Hid (p.lim = lim)) (e1 : Hid (p.ivl = ivl)) (e2 : Hid (p.spc = spc)) (t z L : Nat) (oL : Bool)
    (sn s4 s16 tk : Nat) (d mx : Int) (f1 : IntKind.i64.wrap (ivl * spc) = (sn : Int)) (f2 : IntKind.i64.wrap (to' - fr) = d) (f3 : (sn : Int) / 4 = (s4 : Int)) (f4 : IntKind.i64.wrap ((sn : Int) * 4) = (s16 : Int)) (f5 : IntKind.i64.wrap (s4 : Int) = (s4 : Int))
    (f6 : mx = max d (s4 : Int)) (f7 : (tk : Int) = min mx (s16 : Int)) (f8 : IntKind.u64.wrap (tk : Int) = (tk : Int)) (f9 : IntKind.u64.wrap (sn : Int) = (sn : Int))
    (KT : Hid (Gv_ 85 #[.int .i64 b, .int .i64 b] (.tuple #[.agg (numC t), .bool true])))
    (KG : Hid (Gv_ 54 #[.agg (prA p)] (.bool true)))
    (KS : Hid (Gv_ 116 #[.agg (numC t), .int .u64 (tk : Int), .int .u64 (sn : Int)] (.tuple #[.agg (numC z), .bool false])))
    (KL : Hid (Gv_ 85 #[.int .i64 lim, .int .i64 lim] (.tuple #[.agg (numC L), .bool oL])))
    (KLess : Hid (Gv_ 110 #[.agg (numC L), .agg (numC z)] (.bool true)))
     (w : World) :
    Ca_ 89 #[.agg (prA p), .int .i64 b, .int .i64 fr, .int .i64 to'] w (.int .i64 lim) := by
  have hP_z := hz
  go_enter Tryz.func89, Tryz.ntmps89
  go_upto_region 1 with fail
  generalize hw0 : World.alloc _ _ = v0
  have hbel : Below w.heap.size w v0 := by rw [← hw0]; exact (Below.refl _ _).alloc (by simp <;> omega) _
  have hP : PrAt v0 (w.heap.size) p := by rw [← hw0]; exact Has.new _ _
  clear hw0
  have c0 := hP.c0 e0
  have c1 := hP.c1 e1
  have c2 := hP.c2 e2
  go_wp2_with (with_reducible first | refine qh_ rfl _ rfl _ rfl hP hP_z ?_ | refine qf_ (by with_unfolding_all rfl) _ rfl _ rfl hP hP_z ?_)
  refine (KT.out _).mono ?_
  rintro e v1 ⟨rfl, hb1⟩
  replace hP := hP.on hb1
  replace c0 := hP.c0 e0
  replace c1 := hP.c1 e1
  replace c2 := hP.c2 e2
  replace hbel := hbel.trans (hb1.mono hbel.size)
  clear hb1
  go_upto_region 2 with (with_reducible refine qe_ rfl _ _ rfl _ _ rfl rfl _ (Has.newz _) rfl ?_)
  generalize hw2 : World.setRow _ _ _ = v2
  have hb2 : Below v1.heap.size v1 v2 := bw_ hw2
  have hT : Has v2 v1.heap.size (numC t) 26 := by rw [← hw2]; exact (Has.newz _).row _
  replace hP := hP.on hb2
  replace c0 := hP.c0 e0
  replace c1 := hP.c1 e1
  replace c2 := hP.c2 e2
  replace hbel := hbel.trans (hb2.mono hbel.size)
  clear hw2 hb2
  generalize v1.heap.size = b_hT at hT ⊢
  go_wp2_with (with_reducible first | refine qh_ rfl _ rfl _ rfl hP hP_z ?_ | refine qf_ (by with_unfolding_all rfl) _ rfl _ rfl hP hP_z ?_ | refine qb_ rfl _ rfl _ rfl _ hT rfl ?_ | refine qc_ (by with_unfolding_all rfl) _ rfl _ rfl _ hT rfl ?_)
  refine (KG.out _).mono ?_
  rintro e v3 ⟨rfl, hb3⟩
  replace hP := hP.on hb3
  replace hT := hT.on hb3
  replace c0 := hP.c0 e0
  replace c1 := hP.c1 e1
  replace c2 := hP.c2 e2
  replace hbel := hbel.trans (hb3.mono hbel.size)
  clear hb3
  have M1 := max_is (P := Tryz.prog) d (s4 : Int) mx f6
  have M2 := min_is (P := Tryz.prog) mx (s16 : Int) (tk : Int) f7
  clear f6 f7
  go_wp2_with (with_reducible first | refine qh_ rfl _ rfl _ rfl hP hP_z ?_ | refine qf_ (by with_unfolding_all rfl) _ rfl _ rfl hP hP_z ?_ | refine qb_ rfl _ rfl _ rfl _ hT rfl ?_ | refine qc_ (by with_unfolding_all rfl) _ rfl _ rfl _ hT rfl ?_)
  refine (KS.out _).mono ?_
  rintro e v4 ⟨rfl, hb4⟩
  replace hP := hP.on hb4
  replace hT := hT.on hb4
  replace c0 := hP.c0 e0
  replace c1 := hP.c1 e1
  replace c2 := hP.c2 e2
  replace hbel := hbel.trans (hb4.mono hbel.size)
  clear hb4
  go_upto_region 7 with (with_reducible refine qe_ rfl _ _ rfl _ _ rfl rfl _ (Has.newz _) rfl ?_)
  generalize hw5 : World.setRow _ _ _ = v5
  have hb5 : Below v4.heap.size v4 v5 := bw_ hw5
  have hZ : Has v5 v4.heap.size (numC z) 26 := by rw [← hw5]; exact (Has.newz _).row _
  replace hP := hP.on hb5
  replace hT := hT.on hb5
  replace c0 := hP.c0 e0
  replace c1 := hP.c1 e1
  replace c2 := hP.c2 e2
  replace hbel := hbel.trans (hb5.mono hbel.size)
  clear hw5 hb5
  generalize v4.heap.size = b_hZ at hZ ⊢
  clear M1 M2
  go_wp2_with (with_reducible first | refine qh_ rfl _ rfl _ rfl hP hP_z ?_ | refine qf_ (by with_unfolding_all rfl) _ rfl _ rfl hP hP_z ?_ | refine qb_ rfl _ rfl _ rfl _ hT rfl ?_ | refine qc_ (by with_unfolding_all rfl) _ rfl _ rfl _ hT rfl ?_ | refine qb_ rfl _ rfl _ rfl _ hZ rfl ?_ | refine qc_ (by with_unfolding_all rfl) _ rfl _ rfl _ hZ rfl ?_)
  refine (KL.out _).mono ?_
  rintro e v6 ⟨rfl, hb6⟩
  replace hP := hP.on hb6
  replace hT := hT.on hb6
  replace hZ := hZ.on hb6
  replace c0 := hP.c0 e0
  replace c1 := hP.c1 e1
  replace c2 := hP.c2 e2
  replace hbel := hbel.trans (hb6.mono hbel.size)
  clear hb6
  go_upto_region 8 with (with_reducible refine qe_ rfl _ _ rfl _ _ rfl rfl _ (Has.newz _) rfl ?_)
  generalize hw7 : World.setRow _ _ _ = v7
  have hb7 : Below v6.heap.size v6 v7 := bw_ hw7
  have hL : Has v7 v6.heap.size (numC L) 26 := by rw [← hw7]; exact (Has.newz _).row _
  replace hP := hP.on hb7
  replace hT := hT.on hb7
  replace hZ := hZ.on hb7
  replace c0 := hP.c0 e0
  replace c1 := hP.c1 e1
  replace c2 := hP.c2 e2
  replace hbel := hbel.trans (hb7.mono hbel.size)
  clear hw7 hb7
  generalize v6.heap.size = b_hL at hL ⊢
  go_wp2_with (with_reducible first | refine qh_ rfl _ rfl _ rfl hP hP_z ?_ | refine qf_ (by with_unfolding_all rfl) _ rfl _ rfl hP hP_z ?_ | refine qb_ rfl _ rfl _ rfl _ hT rfl ?_ | refine qc_ (by with_unfolding_all rfl) _ rfl _ rfl _ hT rfl ?_ | refine qb_ rfl _ rfl _ rfl _ hZ rfl ?_ | refine qc_ (by with_unfolding_all rfl) _ rfl _ rfl _ hZ rfl ?_ | refine qb_ rfl _ rfl _ rfl _ hL rfl ?_ | refine qc_ (by with_unfolding_all rfl) _ rfl _ rfl _ hL rfl ?_)
  refine (KLess.out _).mono ?_
  rintro e v8 ⟨rfl, hb8⟩
  replace hP := hP.on hb8
  replace hT := hT.on hb8
  replace hZ := hZ.on hb8
  replace hL := hL.on hb8
  replace c0 := hP.c0 e0
  replace c1 := hP.c1 e1
  replace c2 := hP.c2 e2
  replace hbel := hbel.trans (hb8.mono hbel.size)
  clear hb8
  go_wp2_with (with_reducible first | refine qh_ rfl _ rfl _ rfl hP hP_z ?_ | refine qf_ (by with_unfolding_all rfl) _ rfl _ rfl hP hP_z ?_ | refine qb_ rfl _ rfl _ rfl _ hT rfl ?_ | refine qc_ (by with_unfolding_all rfl) _ rfl _ rfl _ hT rfl ?_ | refine qb_ rfl _ rfl _ rfl _ hZ rfl ?_ | refine qc_ (by with_unfolding_all rfl) _ rfl _ rfl _ hZ rfl ?_ | refine qb_ rfl _ rfl _ rfl _ hL rfl ?_ | refine qc_ (by with_unfolding_all rfl) _ rfl _ rfl _ hL rfl ?_)
  go_ret
  exact ⟨rfl, hbel⟩
theorem ret_in (p : Pr) (hz : (prA p).size = 83) (b fr to' lim ivl spc : Int) (e0 : Hid (p.lim = lim)) (e1 : Hid (p.ivl = ivl)) (e2 : Hid (p.spc = spc)) (t z L : Nat) (oL : Bool)
  (en : Int) (sn s4 s16 tk : Nat) (d mx : Int) (f1 : IntKind.i64.wrap (ivl * spc) = (sn : Int)) (f2 : IntKind.i64.wrap (to' - fr) = d) (f3 : (sn : Int) / 4 = (s4 : Int)) (f4 : IntKind.i64.wrap ((sn : Int) * 4) = (s16 : Int)) (f5 : IntKind.i64.wrap (s4 : Int) = (s4 : Int))
  (f6 : mx = max d (s4 : Int)) (f7 : (tk : Int) = min mx (s16 : Int)) (f8 : IntKind.u64.wrap (tk : Int) = (tk : Int)) (f9 : IntKind.u64.wrap (sn : Int) = (sn : Int))
  (KT : Hid (Gv_ 85 #[.int .i64 b, .int .i64 b] (.tuple #[.agg (numC t), .bool true])))
  (KG : Hid (Gv_ 54 #[.agg (prA p)] (.bool true)))
  (KS : Hid (Gv_ 116 #[.agg (numC t), .int .u64 (tk : Int), .int .u64 (sn : Int)] (.tuple #[.agg (numC z), .bool false])))
  (KL : Hid (Gv_ 85 #[.int .i64 lim, .int .i64 lim] (.tuple #[.agg (numC L), .bool oL])))
  (KLess : Hid (Gv_ 110 #[.agg (numC L), .agg (numC z)] (.bool false)))
  (KZ : Hid (Gv_ 71 #[.agg (numC z)] (.bool false)))
  (KE : Hid (Gv_ 117 #[.agg (numC z)] (.int .i64 en))) (w : World) :
  Ca_ 89 #[.agg (prA p), .int .i64 b, .int .i64 fr, .int .i64 to'] w (.int .i64 en) := by
 have hP_z := hz
 go_enter Tryz.func89, Tryz.ntmps89
 go_upto_region 1 with fail
 generalize hw0 : World.alloc _ _ = v0
 have hbel : Below w.heap.size w v0 := by rw [← hw0]; exact (Below.refl _ _).alloc (by simp <;> omega) _
 have hP : PrAt v0 (w.heap.size) p := by rw [← hw0]; exact Has.new _ _
 clear hw0
 have c0 := hP.c0 e0
 have c1 := hP.c1 e1
 have c2 := hP.c2 e2
 go_wp2_with (with_reducible first | refine qh_ rfl _ rfl _ rfl hP hP_z ?_ | refine qf_ (by with_unfolding_all rfl) _ rfl _ rfl hP hP_z ?_)
 refine (KT.out _).mono ?_
 rintro e v1 ⟨rfl, hb1⟩
 replace hP := hP.on hb1
 replace c0 := hP.c0 e0
 replace c1 := hP.c1 e1
 replace c2 := hP.c2 e2
 replace hbel := hbel.trans (hb1.mono hbel.size)
 clear hb1
 go_upto_region 2 with (with_reducible refine qe_ rfl _ _ rfl _ _ rfl rfl _ (Has.newz _) rfl ?_)
 generalize hw2 : World.setRow _ _ _ = v2
 have hb2 : Below v1.heap.size v1 v2 := bw_ hw2
 have hT : Has v2 v1.heap.size (numC t) 26 := by rw [← hw2]; exact (Has.newz _).row _
 replace hP := hP.on hb2
 replace c0 := hP.c0 e0
 replace c1 := hP.c1 e1
 replace c2 := hP.c2 e2
 replace hbel := hbel.trans (hb2.mono hbel.size)
 clear hw2 hb2
 generalize v1.heap.size = b_hT at hT ⊢
 go_wp2_with (with_reducible first | refine qh_ rfl _ rfl _ rfl hP hP_z ?_ | refine qf_ (by with_unfolding_all rfl) _ rfl _ rfl hP hP_z ?_ | refine qb_ rfl _ rfl _ rfl _ hT rfl ?_ | refine qc_ (by with_unfolding_all rfl) _ rfl _ rfl _ hT rfl ?_)
 refine (KG.out _).mono ?_
 rintro e v3 ⟨rfl, hb3⟩
 replace hP := hP.on hb3
 replace hT := hT.on hb3
 replace c0 := hP.c0 e0
 replace c1 := hP.c1 e1
 replace c2 := hP.c2 e2
 replace hbel := hbel.trans (hb3.mono hbel.size)
 clear hb3
 have M1 := max_is (P := Tryz.prog) d (s4 : Int) mx f6
 have M2 := min_is (P := Tryz.prog) mx (s16 : Int) (tk : Int) f7
 clear f6 f7
 go_wp2_with (with_reducible first | refine qh_ rfl _ rfl _ rfl hP hP_z ?_ | refine qf_ (by with_unfolding_all rfl) _ rfl _ rfl hP hP_z ?_ | refine qb_ rfl _ rfl _ rfl _ hT rfl ?_ | refine qc_ (by with_unfolding_all rfl) _ rfl _ rfl _ hT rfl ?_)
 refine (KS.out _).mono ?_
 rintro e v4 ⟨rfl, hb4⟩
 replace hP := hP.on hb4
 replace hT := hT.on hb4
 replace c0 := hP.c0 e0
 replace c1 := hP.c1 e1
 replace c2 := hP.c2 e2
 replace hbel := hbel.trans (hb4.mono hbel.size)
 clear hb4
 go_upto_region 7 with (with_reducible refine qe_ rfl _ _ rfl _ _ rfl rfl _ (Has.newz _) rfl ?_)
 generalize hw5 : World.setRow _ _ _ = v5
 have hb5 : Below v4.heap.size v4 v5 := bw_ hw5
 have hZ : Has v5 v4.heap.size (numC z) 26 := by rw [← hw5]; exact (Has.newz _).row _
 replace hP := hP.on hb5
 replace hT := hT.on hb5
 replace c0 := hP.c0 e0
 replace c1 := hP.c1 e1
 replace c2 := hP.c2 e2
 replace hbel := hbel.trans (hb5.mono hbel.size)
 clear hw5 hb5
 generalize v4.heap.size = b_hZ at hZ ⊢
 clear M1 M2
 go_wp2_with (with_reducible first | refine qh_ rfl _ rfl _ rfl hP hP_z ?_ | refine qf_ (by with_unfolding_all rfl) _ rfl _ rfl hP hP_z ?_ | refine qb_ rfl _ rfl _ rfl _ hT rfl ?_ | refine qc_ (by with_unfolding_all rfl) _ rfl _ rfl _ hT rfl ?_ | refine qb_ rfl _ rfl _ rfl _ hZ rfl ?_ | refine qc_ (by with_unfolding_all rfl) _ rfl _ rfl _ hZ rfl ?_)
 refine (KL.out _).mono ?_
 rintro e v6 ⟨rfl, hb6⟩
 replace hP := hP.on hb6
 replace hT := hT.on hb6
 replace hZ := hZ.on hb6
 replace c0 := hP.c0 e0
 replace c1 := hP.c1 e1
 replace c2 := hP.c2 e2
 replace hbel := hbel.trans (hb6.mono hbel.size)
 clear hb6
 go_upto_region 8 with (with_reducible refine qe_ rfl _ _ rfl _ _ rfl rfl _ (Has.newz _) rfl ?_)
 generalize hw7 : World.setRow _ _ _ = v7
 have hb7 : Below v6.heap.size v6 v7 := bw_ hw7
 have hL : Has v7 v6.heap.size (numC L) 26 := by rw [← hw7]; exact (Has.newz _).row _
 replace hP := hP.on hb7
 replace hT := hT.on hb7
 replace hZ := hZ.on hb7
 replace c0 := hP.c0 e0
 replace c1 := hP.c1 e1
 replace c2 := hP.c2 e2
 replace hbel := hbel.trans (hb7.mono hbel.size)
 clear hw7 hb7
 generalize v6.heap.size = b_hL at hL ⊢
 go_wp2_with (with_reducible first | refine qh_ rfl _ rfl _ rfl hP hP_z ?_ | refine qf_ (by with_unfolding_all rfl) _ rfl _ rfl hP hP_z ?_ | refine qb_ rfl _ rfl _ rfl _ hT rfl ?_ | refine qc_ (by with_unfolding_all rfl) _ rfl _ rfl _ hT rfl ?_ | refine qb_ rfl _ rfl _ rfl _ hZ rfl ?_ | refine qc_ (by with_unfolding_all rfl) _ rfl _ rfl _ hZ rfl ?_ | refine qb_ rfl _ rfl _ rfl _ hL rfl ?_ | refine qc_ (by with_unfolding_all rfl) _ rfl _ rfl _ hL rfl ?_)
 refine (KLess.out _).mono ?_
 rintro e v8 ⟨rfl, hb8⟩
 replace hP := hP.on hb8
 replace hT := hT.on hb8
 replace hZ := hZ.on hb8
 replace hL := hL.on hb8
 replace c0 := hP.c0 e0
 replace c1 := hP.c1 e1
 replace c2 := hP.c2 e2
 replace hbel := hbel.trans (hb8.mono hbel.size)
 clear hb8
 go_wp2_with (with_reducible first | refine qh_ rfl _ rfl _ rfl hP hP_z ?_ | refine qf_ (by with_unfolding_all rfl) _ rfl _ rfl hP hP_z ?_ | refine qb_ rfl _ rfl _ rfl _ hT rfl ?_ | refine qc_ (by with_unfolding_all rfl) _ rfl _ rfl _ hT rfl ?_ | refine qb_ rfl _ rfl _ rfl _ hZ rfl ?_ | refine qc_ (by with_unfolding_all rfl) _ rfl _ rfl _ hZ rfl ?_ | refine qb_ rfl _ rfl _ rfl _ hL rfl ?_ | refine qc_ (by with_unfolding_all rfl) _ rfl _ rfl _ hL rfl ?_)
 refine (KZ.out _).mono ?_
 rintro e v9 ⟨rfl, hb9⟩
 replace hP := hP.on hb9
 replace hT := hT.on hb9
 replace hZ := hZ.on hb9
 replace hL := hL.on hb9
 replace c0 := hP.c0 e0
 replace c1 := hP.c1 e1
 replace c2 := hP.c2 e2
 replace hbel := hbel.trans (hb9.mono hbel.size)
 clear hb9
 go_wp2_with (with_reducible first | refine qh_ rfl _ rfl _ rfl hP hP_z ?_ | refine qf_ (by with_unfolding_all rfl) _ rfl _ rfl hP hP_z ?_ | refine qb_ rfl _ rfl _ rfl _ hT rfl ?_ | refine qc_ (by with_unfolding_all rfl) _ rfl _ rfl _ hT rfl ?_ | refine qb_ rfl _ rfl _ rfl _ hZ rfl ?_ | refine qc_ (by with_unfolding_all rfl) _ rfl _ rfl _ hZ rfl ?_ | refine qb_ rfl _ rfl _ rfl _ hL rfl ?_ | refine qc_ (by with_unfolding_all rfl) _ rfl _ rfl _ hL rfl ?_)
 refine (KE.out _).mono ?_
 rintro e v10 ⟨rfl, hb10⟩
 replace hP := hP.on hb10
 replace hT := hT.on hb10
 replace hZ := hZ.on hb10
 replace hL := hL.on hb10
 replace c0 := hP.c0 e0
 replace c1 := hP.c1 e1
 replace c2 := hP.c2 e2
 replace hbel := hbel.trans (hb10.mono hbel.size)
 clear hb10
 go_wp2_with (with_reducible first | refine qh_ rfl _ rfl _ rfl hP hP_z ?_ | refine qf_ (by with_unfolding_all rfl) _ rfl _ rfl hP hP_z ?_ | refine qb_ rfl _ rfl _ rfl _ hT rfl ?_ | refine qc_ (by with_unfolding_all rfl) _ rfl _ rfl _ hT rfl ?_ | refine qb_ rfl _ rfl _ rfl _ hZ rfl ?_ | refine qc_ (by with_unfolding_all rfl) _ rfl _ rfl _ hZ rfl ?_ | refine qb_ rfl _ rfl _ rfl _ hL rfl ?_ | refine qc_ (by with_unfolding_all rfl) _ rfl _ rfl _ hL rfl ?_)
 go_ret
 exact ⟨rfl, hbel⟩
theorem qyk_ (p : Pr) (hz : (prA p).size = 83) (b fr to' lim ivl spc : Int) (e0 : Hid (p.lim = lim)) (e1 : Hid (p.ivl = ivl)) (e2 : Hid (p.spc = spc)) (t z L : Nat) (oL : Bool)
  (en : Int) (sn s4 s16 tk : Nat) (d mx : Int) (f1 : IntKind.i64.wrap (ivl * spc) = (sn : Int)) (f2 : IntKind.i64.wrap (to' - fr) = d) (f3 : (sn : Int) / 4 = (s4 : Int)) (f4 : IntKind.i64.wrap ((sn : Int) * 4) = (s16 : Int)) (f5 : IntKind.i64.wrap (s4 : Int) = (s4 : Int))
  (f6 : mx = max d (s4 : Int)) (f7 : (tk : Int) = min mx (s16 : Int)) (f8 : IntKind.u64.wrap (tk : Int) = (tk : Int)) (f9 : IntKind.u64.wrap (sn : Int) = (sn : Int))
  (KT : Hid (Gv_ 85 #[.int .i64 b, .int .i64 b] (.tuple #[.agg (numC t), .bool true])))
  (KG : Hid (Gv_ 54 #[.agg (prA p)] (.bool true)))
  (KS : Hid (Gv_ 116 #[.agg (numC t), .int .u64 (tk : Int), .int .u64 (sn : Int)] (.tuple #[.agg (numC z), .bool false])))
  (KL : Hid (Gv_ 85 #[.int .i64 lim, .int .i64 lim] (.tuple #[.agg (numC L), .bool oL])))
  (KLess : Hid (Gv_ 110 #[.agg (numC L), .agg (numC z)] (.bool false)))
  (KZ : Hid (Gv_ 71 #[.agg (numC z)] (.bool true)))
  (KO : Hid (Gv_ 95 #[.int .u64 1] (.agg (numC 1))))
  (KE : Hid (Gv_ 117 #[.agg (numC 1)] (.int .i64 en))) (w : World) :
  Ca_ 89 #[.agg (prA p), .int .i64 b, .int .i64 fr, .int .i64 to'] w (.int .i64 en) := by
 have hP_z := hz
 go_enter Tryz.func89, Tryz.ntmps89
 go_upto_region 1 with fail
 generalize hw0 : World.alloc _ _ = v0
 have hbel : Below w.heap.size w v0 := by rw [← hw0]; exact (Below.refl _ _).alloc (by simp <;> omega) _
 have hP : PrAt v0 (w.heap.size) p := by rw [← hw0]; exact Has.new _ _
 clear hw0
 have c0 := hP.c0 e0
 have c1 := hP.c1 e1
 have c2 := hP.c2 e2
 go_wp2_with (with_reducible first | refine qh_ rfl _ rfl _ rfl hP hP_z ?_ | refine qf_ (by with_unfolding_all rfl) _ rfl _ rfl hP hP_z ?_)
 refine (KT.out _).mono ?_
 rintro e v1 ⟨rfl, hb1⟩
 replace hP := hP.on hb1
 replace c0 := hP.c0 e0
 replace c1 := hP.c1 e1
 replace c2 := hP.c2 e2
 replace hbel := hbel.trans (hb1.mono hbel.size)
 clear hb1
 go_upto_region 2 with (with_reducible refine qe_ rfl _ _ rfl _ _ rfl rfl _ (Has.newz _) rfl ?_)
 generalize hw2 : World.setRow _ _ _ = v2
 have hb2 : Below v1.heap.size v1 v2 := bw_ hw2
 have hT : Has v2 v1.heap.size (numC t) 26 := by rw [← hw2]; exact (Has.newz _).row _
 replace hP := hP.on hb2
 replace c0 := hP.c0 e0
 replace c1 := hP.c1 e1
 replace c2 := hP.c2 e2
 replace hbel := hbel.trans (hb2.mono hbel.size)
 clear hw2 hb2
 generalize v1.heap.size = b_hT at hT ⊢
 go_wp2_with (with_reducible first | refine qh_ rfl _ rfl _ rfl hP hP_z ?_ | refine qf_ (by with_unfolding_all rfl) _ rfl _ rfl hP hP_z ?_ | refine qb_ rfl _ rfl _ rfl _ hT rfl ?_ | refine qc_ (by with_unfolding_all rfl) _ rfl _ rfl _ hT rfl ?_)
 refine (KG.out _).mono ?_
 rintro e v3 ⟨rfl, hb3⟩
 replace hP := hP.on hb3
 replace hT := hT.on hb3
 replace c0 := hP.c0 e0
 replace c1 := hP.c1 e1
 replace c2 := hP.c2 e2
 replace hbel := hbel.trans (hb3.mono hbel.size)
 clear hb3
 have M1 := max_is (P := Tryz.prog) d (s4 : Int) mx f6
 have M2 := min_is (P := Tryz.prog) mx (s16 : Int) (tk : Int) f7
 clear f6 f7
 go_wp2_with (with_reducible first | refine qh_ rfl _ rfl _ rfl hP hP_z ?_ | refine qf_ (by with_unfolding_all rfl) _ rfl _ rfl hP hP_z ?_ | refine qb_ rfl _ rfl _ rfl _ hT rfl ?_ | refine qc_ (by with_unfolding_all rfl) _ rfl _ rfl _ hT rfl ?_)
 refine (KS.out _).mono ?_
 rintro e v4 ⟨rfl, hb4⟩
 replace hP := hP.on hb4
 replace hT := hT.on hb4
 replace c0 := hP.c0 e0
 replace c1 := hP.c1 e1
 replace c2 := hP.c2 e2
 replace hbel := hbel.trans (hb4.mono hbel.size)
 clear hb4
 have hbel0 := hbel
 go_upto_region 7 with (with_reducible refine qe_ rfl _ _ rfl _ _ rfl rfl _ (Has.newz _) rfl ?_)
 generalize hw5 : World.setRow _ _ _ = v5
 have hb5 : Below v4.heap.size v4 v5 := bw_ hw5
 have hZ : Has v5 v4.heap.size (numC z) 26 := by rw [← hw5]; exact (Has.newz _).row _
 replace hP := hP.on hb5
 replace hT := hT.on hb5
 replace c0 := hP.c0 e0
 replace c1 := hP.c1 e1
 replace c2 := hP.c2 e2
 replace hbel := hbel.trans (hb5.mono hbel.size)
 clear hw5 hb5
 have HZ : Hid (w.heap.size ≤ v4.heap.size) := Lib.hid hbel0.size
 clear hbel0
 generalize v4.heap.size = b_hZ at hZ HZ ⊢
 clear M1 M2
 go_wp2_with (with_reducible first | refine qh_ rfl _ rfl _ rfl hP hP_z ?_ | refine qf_ (by with_unfolding_all rfl) _ rfl _ rfl hP hP_z ?_ | refine qb_ rfl _ rfl _ rfl _ hT rfl ?_ | refine qc_ (by with_unfolding_all rfl) _ rfl _ rfl _ hT rfl ?_ | refine qb_ rfl _ rfl _ rfl _ hZ rfl ?_ | refine qc_ (by with_unfolding_all rfl) _ rfl _ rfl _ hZ rfl ?_)
 refine (KL.out _).mono ?_
 rintro e v6 ⟨rfl, hb6⟩
 replace hP := hP.on hb6
 replace hT := hT.on hb6
 replace hZ := hZ.on hb6
 replace c0 := hP.c0 e0
 replace c1 := hP.c1 e1
 replace c2 := hP.c2 e2
 replace hbel := hbel.trans (hb6.mono hbel.size)
 clear hb6
 go_upto_region 8 with (with_reducible refine qe_ rfl _ _ rfl _ _ rfl rfl _ (Has.newz _) rfl ?_)
 generalize hw7 : World.setRow _ _ _ = v7
 have hb7 : Below v6.heap.size v6 v7 := bw_ hw7
 have hL : Has v7 v6.heap.size (numC L) 26 := by rw [← hw7]; exact (Has.newz _).row _
 replace hP := hP.on hb7
 replace hT := hT.on hb7
 replace hZ := hZ.on hb7
 replace c0 := hP.c0 e0
 replace c1 := hP.c1 e1
 replace c2 := hP.c2 e2
 replace hbel := hbel.trans (hb7.mono hbel.size)
 clear hw7 hb7
 generalize v6.heap.size = b_hL at hL ⊢
 go_wp2_with (with_reducible first | refine qh_ rfl _ rfl _ rfl hP hP_z ?_ | refine qf_ (by with_unfolding_all rfl) _ rfl _ rfl hP hP_z ?_ | refine qb_ rfl _ rfl _ rfl _ hT rfl ?_ | refine qc_ (by with_unfolding_all rfl) _ rfl _ rfl _ hT rfl ?_ | refine qb_ rfl _ rfl _ rfl _ hZ rfl ?_ | refine qc_ (by with_unfolding_all rfl) _ rfl _ rfl _ hZ rfl ?_ | refine qb_ rfl _ rfl _ rfl _ hL rfl ?_ | refine qc_ (by with_unfolding_all rfl) _ rfl _ rfl _ hL rfl ?_)
 refine (KLess.out _).mono ?_
 rintro e v8 ⟨rfl, hb8⟩
 replace hP := hP.on hb8
 replace hT := hT.on hb8
 replace hZ := hZ.on hb8
 replace hL := hL.on hb8
 replace c0 := hP.c0 e0
 replace c1 := hP.c1 e1
 replace c2 := hP.c2 e2
 replace hbel := hbel.trans (hb8.mono hbel.size)
 clear hb8
 go_wp2_with (with_reducible first | refine qh_ rfl _ rfl _ rfl hP hP_z ?_ | refine qf_ (by with_unfolding_all rfl) _ rfl _ rfl hP hP_z ?_ | refine qb_ rfl _ rfl _ rfl _ hT rfl ?_ | refine qc_ (by with_unfolding_all rfl) _ rfl _ rfl _ hT rfl ?_ | refine qb_ rfl _ rfl _ rfl _ hZ rfl ?_ | refine qc_ (by with_unfolding_all rfl) _ rfl _ rfl _ hZ rfl ?_ | refine qb_ rfl _ rfl _ rfl _ hL rfl ?_ | refine qc_ (by with_unfolding_all rfl) _ rfl _ rfl _ hL rfl ?_)
 refine (KZ.out _).mono ?_
 rintro e v9 ⟨rfl, hb9⟩
 replace hP := hP.on hb9
 replace hT := hT.on hb9
 replace hZ := hZ.on hb9
 replace hL := hL.on hb9
 replace c0 := hP.c0 e0
 replace c1 := hP.c1 e1
 replace c2 := hP.c2 e2
 replace hbel := hbel.trans (hb9.mono hbel.size)
 clear hb9
 go_wp2_with (with_reducible first | refine qh_ rfl _ rfl _ rfl hP hP_z ?_ | refine qf_ (by with_unfolding_all rfl) _ rfl _ rfl hP hP_z ?_ | refine qb_ rfl _ rfl _ rfl _ hT rfl ?_ | refine qc_ (by with_unfolding_all rfl) _ rfl _ rfl _ hT rfl ?_ | refine qb_ rfl _ rfl _ rfl _ hZ rfl ?_ | refine qc_ (by with_unfolding_all rfl) _ rfl _ rfl _ hZ rfl ?_ | refine qb_ rfl _ rfl _ rfl _ hL rfl ?_ | refine qc_ (by with_unfolding_all rfl) _ rfl _ rfl _ hL rfl ?_)
 refine (KO.out _).mono ?_
 rintro e v10 ⟨rfl, hb10⟩
 replace hP := hP.on hb10
 replace hT := hT.on hb10
 replace hZ := hZ.on hb10
 replace hL := hL.on hb10
 replace c0 := hP.c0 e0
 replace c1 := hP.c1 e1
 replace c2 := hP.c2 e2
 replace hbel := hbel.trans (hb10.mono hbel.size)
 clear hb10
 go_upto_region 12 with (with_reducible refine qe_ rfl _ _ rfl _ _ rfl rfl _ hZ rfl ?_)
 generalize hw : World.setRow _ _ _ = v_s
 replace hZ : Has v_s b_hZ (numC 1) 26 := by rw [← hw]; exact hZ.row _
 replace hbel : Below w.heap.size w v_s := by rw [← hw]; exact below_setRow hbel HZ.out _
 clear hw
 go_wp2_with (with_reducible first | refine qb_ rfl _ rfl _ rfl _ hZ rfl ?_ | refine qc_ (by with_unfolding_all rfl) _ rfl _ rfl _ hZ rfl ?_)
 refine (KE.out _).mono ?_
 rintro e v11 ⟨rfl, hb11⟩
 replace hZ := hZ.on hb11
 replace hbel := hbel.trans (hb11.mono hbel.size)
 clear hb11
 go_wp2_with fail
 go_ret
 exact ⟨rfl, hbel⟩
def Pr.should (p : Pr) : Nat := (p.ivl * p.spc).toNat
def Pr.anew (p : Pr) (b d : Int) : Nat := Go.Proofs.YtkclahiiijfllaaGreatDoor.NN.anew (tg b b) p.should d
def rt (p : Pr) (b d : Int) : Int := if (tok b b && p.good) = true then (if tg p.lim p.lim < p.anew b d then p.lim else (Nm.enc (max 1 (p.anew b d)) : Nat)) else p.lim
theorem qqn_ {p : Pr} (h : p.good = true) : tok p.lim p.lim = true ∧ 2 ≤ p.ivl ∧ p.ivl ≤ 64 ∧ 1 ≤ p.spc ∧ p.spc ≤ 10000 ∧ 0 ≤ p.fut ∧ p.fut < 4294967296 := by
 unfold Pr.good at h
 simp only [Bool.and_eq_true, decide_eq_true_eq] at h
 obtain ⟨⟨⟨⟨⟨⟨h0, h1⟩, h2⟩, h3⟩, h4⟩, h5⟩, h6⟩ := h
 exact ⟨h0, h1, h2, h3, h4, h5, h6⟩
theorem qlv_ {p : Pr} (h : p.good = true) : 0 < p.should ∧ p.should ≤ 640000 ∧ (p.should : Int) = p.ivl * p.spc := by
 obtain ⟨_, h1, h2, h3, h4, _, _⟩ := qqn_ h
 obtain ⟨i, hi⟩ := Int.eq_ofNat_of_zero_le (show 0 ≤ p.ivl by omega)
 obtain ⟨s, hs⟩ := Int.eq_ofNat_of_zero_le (show 0 ≤ p.spc by omega)
 have e : p.should = i * s := by unfold Pr.should; rw [hi, hs, ← Int.natCast_mul, Int.toNat_natCast]
 have hp : 0 < i * s := Nat.mul_pos (by omega) (by omega)
 have hle : i * s ≤ 64 * 10000 := Nat.mul_le_mul (by omega) (by omega)
 rw [e, hi, hs, ← Int.natCast_mul]
 exact ⟨hp, by omega, rfl⟩
theorem qnd_ (p : Pr) (ho : p.ok) (b fr to' d : Int) (hd : IntKind.i64.wrap (to' - fr) = d) (w : World) :
  Ca_ 89 #[.agg (prA p), .int .i64 b, .int .i64 fr, .int .i64 to'] w (.int .i64 (rt p b d)) := by
 have hz := qal_ ho
 have KT := fun w => tgt_at b b w
 by_cases h1 : tok b b = false
 ·rw [h1] at KT
  have e : rt p b d = p.lim := by unfold rt; rw [h1]; rfl
  rw [e]
  exact qyi_ p hz b fr to' _ (Lib.hid rfl) _ (Lib.hid KT) w
 rw [Bool.not_eq_false] at h1
 rw [h1] at KT
 have KG := fun w => qqk_ p w
 by_cases h2 : p.good = false
 ·rw [h2] at KG
  have e : rt p b d = p.lim := by unfold rt; rw [h2, Bool.and_false]; rfl
  rw [e]
  exact ret_bad p hz b fr to' _ (Lib.hid rfl) _ (Lib.hid KT) (Lib.hid KG) w
 rw [Bool.not_eq_false] at h2
 rw [h2] at KG
 obtain ⟨s0, s1, s2⟩ := qlv_ h2
 have e : rt p b d = if tg p.lim p.lim < p.anew b d then p.lim else (Nm.enc (max 1 (p.anew b d)) : Nat) := by unfold rt; rw [h1, h2]; rfl
 rw [e]
 have ha : p.anew b d = tg b b * tk p.should d / p.should := rfl
 obtain ⟨sn, hsn⟩ : ∃ sn, sn = p.should := ⟨_, rfl⟩
 rw [← hsn] at s0 s1 s2 ha
 have htk := tk_le sn d
 have hti := tk_int sn d
 have KS := fun w => qtt_ (tg b b) (tk sn d) sn (tg_lt b b) (by omega) (by omega) (by omega) w
 rw [← ha] at KS
 have KL := fun w => tgt_at p.lim p.lim w
 have hL := tg_lt p.lim p.lim
 have f1 : IntKind.i64.wrap (p.ivl * p.spc) = (sn : Int) := by rw [← s2, IntKind.wrap_i64]; omega
 have f4 : IntKind.i64.wrap ((sn : Int) * 4) = ((sn * 4 : Nat) : Int) := by rw [IntKind.wrap_i64]; omega
 have f5 : IntKind.i64.wrap ((sn / 4 : Nat) : Int) = ((sn / 4 : Nat) : Int) := by rw [IntKind.wrap_i64]; omega
 have f3 : (sn : Int) / 4 = ((sn / 4 : Nat) : Int) := by omega
 have f8 : IntKind.u64.wrap (tk sn d : Int) = (tk sn d : Int) := by rw [IntKind.wrap_u64]; omega
 have f9 : IntKind.u64.wrap (sn : Int) = (sn : Int) := by rw [IntKind.wrap_u64]; omega
 generalize p.anew b d = q at *
 by_cases h3 : Nm.big ≤ q
 ·rw [decide_eq_true h3] at KS
  rw [if_pos (by omega)]
  exact qtu_ p hz b fr to' _ _ _ (Lib.hid rfl) (Lib.hid rfl) (Lib.hid rfl) _ _ _ _ sn _ _ _ d _ f1 hd f3 f4 f5 rfl hti f8 f9 (Lib.hid KT) (Lib.hid KG) (Lib.hid KS) (Lib.hid KL) w
 rw [decide_eq_false h3, Nat.mod_eq_of_lt (by omega)] at KS
 by_cases h4 : tg p.lim p.lim < q
 ·rw [if_pos h4]
  exact qyj_ p hz b fr to' _ _ _ (Lib.hid rfl) (Lib.hid rfl) (Lib.hid rfl) _ _ _ _ sn _ _ _ d _ f1 hd f3 f4 f5 rfl hti f8 f9 (Lib.hid KT) (Lib.hid KG) (Lib.hid KS) (Lib.hid KL) (Lib.hid (qlr_ _ _ hL (by omega) true (decide_eq_true h4))) w
 rw [if_neg h4]
 have KLess := qlr_ _ q hL (by omega) false (decide_eq_false h4)
 by_cases h5 : q = 0
 ·subst h5
  exact qyk_ p hz b fr to' _ _ _ (Lib.hid rfl) (Lib.hid rfl) (Lib.hid rfl) _ _ _ _ _ sn _ _ _ d _ f1 hd f3 f4 f5 rfl hti f8 f9 (Lib.hid KT) (Lib.hid KG) (Lib.hid KS) (Lib.hid KL) (Lib.hid KLess) (Lib.hid (qiv_ _ (by decide) true rfl)) (Lib.hid (of 1 (by decide))) (Lib.hid (encode 1 (by decide))) w
 ·rw [show max 1 q = q by omega]
  exact ret_in p hz b fr to' _ _ _ (Lib.hid rfl) (Lib.hid rfl) (Lib.hid rfl) _ _ _ _ _ sn _ _ _ d _ f1 hd f3 f4 f5 rfl hti f8 f9 (Lib.hid KT) (Lib.hid KG) (Lib.hid KS) (Lib.hid KL) (Lib.hid KLess) (Lib.hid (qiv_ _ (by omega) false (decide_eq_false h5))) (Lib.hid (encode q (by omega))) w
end Go.Proofs.YtkclahiiijfllaaGreatDoor.NN
namespace Go.Proofs.YtkclahiiijfllaaGreatDoor.NN
open Go.RowKit
def starts (i h : Int) : Bool := decide (0 < i) && (h.tmod i == 0)
theorem qqo_ (p : Pr) (h i m : Int) (e1 : Hid (p.ivl = i)) (t1 : decide (0 < i) = true) (hne : ¬ i = 0) (hm : h.tmod i = m) (w : World) :
  Ca_ 50 #[.agg (prA p), .int .i64 h] w (.bool (m == 0)) := by
 have hP := pr_new w p
 have hbel : Below w.heap.size w (w.alloc (.cells (prA p) 32)) := (Below.refl _ _).alloc (Nat.le_refl _) _
 have c1 := hP.c1 e1
 go_enter Tryz.func50, Tryz.ntmps50
 go_wp2_with fail
 go_ret
 exact ⟨rfl, hbel⟩
theorem qtv_ (p : Pr) (h i : Int) (e1 : Hid (p.ivl = i)) (t1 : decide (0 < i) = false) (w : World) :
  Ca_ 50 #[.agg (prA p), .int .i64 h] w (.bool false) := by
 have hP := pr_new w p
 have hbel : Below w.heap.size w (w.alloc (.cells (prA p) 32)) := (Below.refl _ _).alloc (Nat.le_refl _) _
 have c1 := hP.c1 e1
 go_enter Tryz.func50, Tryz.ntmps50
 go_wp2_with fail
 go_ret
 exact ⟨rfl, hbel⟩
theorem qfr_ (p : Pr) (h : Int) (g : Bool) (hg : starts p.ivl h = g) (w : World) :
  Ca_ 50 #[.agg (prA p), .int .i64 h] w (.bool g) := by
 by_cases h0 : 0 < p.ivl
 ·rw [← hg, starts, decide_eq_true h0, Bool.true_and]
  exact qqo_ p h _ _ (Lib.hid rfl) (decide_eq_true h0) (by omega) rfl w
 ·rw [← hg, starts, decide_eq_false h0, Bool.false_and]
  exact qtv_ p h _ (Lib.hid rfl) (decide_eq_false h0) w
structure Pt where
 h : Int
 b : Int
 t : Int
 f : Int
 r : Int
def ptA (x : Pt) : Array Value := #[.int .i64 x.h, .int .i64 x.b, .int .i64 x.t, .int .i64 x.f, .int .i64 x.r]
theorem ptinfo : (Tryz.prog.info? 67).map (·.size) = some 5 := by kernel_rfl
def PtAt (w : World) (k : Nat) (x : Pt) : Prop := Has w k (ptA x) 67
section
variable {w w' : World} {k : Nat} {x : Pt}
theorem PtAt.on (h : PtAt w k x) (hb : Below w.heap.size w w') : PtAt w' k x := Has.on h hb
theorem PtAt.c0 (h : PtAt w k x) {z : Int} (e : Hid (x.h = z)) : w.cell? ⟨k, 0, none⟩ = some (.int .i64 z) := (Has.cell h 0).trans (by rw [← e.out]; rfl)
theorem PtAt.c1 (h : PtAt w k x) {z : Int} (e : Hid (x.b = z)) : w.cell? ⟨k, 1, none⟩ = some (.int .i64 z) := (Has.cell h 1).trans (by rw [← e.out]; rfl)
theorem PtAt.c2 (h : PtAt w k x) {z : Int} (e : Hid (x.t = z)) : w.cell? ⟨k, 2, none⟩ = some (.int .i64 z) := (Has.cell h 2).trans (by rw [← e.out]; rfl)
theorem PtAt.c3 (h : PtAt w k x) {z : Int} (e : Hid (x.f = z)) : w.cell? ⟨k, 3, none⟩ = some (.int .i64 z) := (Has.cell h 3).trans (by rw [← e.out]; rfl)
theorem PtAt.c4 (h : PtAt w k x) {z : Int} (e : Hid (x.r = z)) : w.cell? ⟨k, 4, none⟩ = some (.int .i64 z) := (Has.cell h 4).trans (by rw [← e.out]; rfl)
variable {ops : Array Oper} {rest : List Oper} {o : Oper} {a : Act} {Q : Exit → Act → World → Prop}
theorem qeg_ (hgd : o.guard = none) (y : Operand) (ho : o.op = .load 67 y) (g : Nat) (hx : a.eval y = .pointer (some ⟨g, 0, none⟩)) (hg : PtAt w g x)
  (hk : wpList Tryz.prog ops Q rest (a.put o.dst (.agg (ptA x))) w) : wpList Tryz.prog ops Q (o :: rest) a w :=
 wpList_load_row hgd 67 y ho g hx 67 (ptA x) (0, 0) _ (Has.out hg) Tryz.underlying67 rfl ptinfo hk
end
theorem qyl_ (p : Pr) (x : Pt) (own : Int) (lim : Int) (e0 : Hid (p.lim = lim)) (xh : Int) (g0 : Hid (x.h = xh))
  (t0 : decide (xh ≤ 0) = true)  (w : World) :
  Ca_ 62 #[.agg (prA p), .agg (ptA x), .int .i64 own] w (.int .i64 lim) := by
 go_enter Tryz.func62, Tryz.ntmps62
 go_upto_region 1 with fail
 generalize hw0 : World.alloc _ _ = v0
 have hbel : Below w.heap.size w v0 := by rw [← hw0]; exact ((Below.refl _ _).alloc (by simp <;> omega) _).alloc (by simp <;> omega) _
 have hP : PrAt v0 (w.heap.size) p := by rw [← hw0]; exact (Has.new _ _).alloc _
 have hX : PtAt v0 (w.heap.size + 1) x := by rw [← hw0]; exact Has.new1 _ _ _
 clear hw0
 generalize hg1 : w.heap.size + 1 = b_hX at hX ⊢
 clear hg1
 have c0 := hP.c0 e0
 have d0 := hX.c0 g0
 go_wp2_with (with_reducible first | refine qh_ rfl _ rfl _ rfl hP hP_z ?_ | refine qf_ (by with_unfolding_all rfl) _ rfl _ rfl hP hP_z ?_ | refine qeg_ rfl _ rfl _ rfl hX ?_ | refine pt_load_g (by with_unfolding_all rfl) _ rfl _ rfl hX ?_)
 go_ret
 exact ⟨rfl, hbel⟩
theorem qqp_ (p : Pr) (x : Pt) (own : Int) (hz : (prA p).size = 83) (xh : Int) (g0 : Hid (x.h = xh)) (xb : Int) (g1 : Hid (x.b = xb)) (xt : Int) (g2 : Hid (x.t = xt)) (xf : Int) (g3 : Hid (x.f = xf))
  (rb : Int) (t0 : decide (xh ≤ 0) = false) (KS : Hid (Gv_ 50 #[.agg (prA p), .int .i64 xh] (.bool true)))
  (KR : Hid (Gv_ 89 #[.agg (prA p), .int .i64 xb, .int .i64 xf, .int .i64 xt] (.int .i64 rb)))  (w : World) :
  Ca_ 62 #[.agg (prA p), .agg (ptA x), .int .i64 own] w (.int .i64 rb) := by
 have hP_z := hz
 go_enter Tryz.func62, Tryz.ntmps62
 go_upto_region 1 with fail
 generalize hw0 : World.alloc _ _ = v0
 have hbel : Below w.heap.size w v0 := by rw [← hw0]; exact ((Below.refl _ _).alloc (by simp <;> omega) _).alloc (by simp <;> omega) _
 have hP : PrAt v0 (w.heap.size) p := by rw [← hw0]; exact (Has.new _ _).alloc _
 have hX : PtAt v0 (w.heap.size + 1) x := by rw [← hw0]; exact Has.new1 _ _ _
 clear hw0
 generalize hg1 : w.heap.size + 1 = b_hX at hX ⊢
 clear hg1
 have d0 := hX.c0 g0
 have d1 := hX.c1 g1
 have d2 := hX.c2 g2
 have d3 := hX.c3 g3
 go_wp2_with (with_reducible first | refine qh_ rfl _ rfl _ rfl hP hP_z ?_ | refine qf_ (by with_unfolding_all rfl) _ rfl _ rfl hP hP_z ?_ | refine qeg_ rfl _ rfl _ rfl hX ?_ | refine pt_load_g (by with_unfolding_all rfl) _ rfl _ rfl hX ?_)
 refine (KS.out _).mono ?_
 rintro e v1 ⟨rfl, hb1⟩
 replace hP := hP.on hb1
 replace hX := hX.on hb1
 replace d0 := hX.c0 g0
 replace d1 := hX.c1 g1
 replace d2 := hX.c2 g2
 replace d3 := hX.c3 g3
 replace hbel := hbel.trans (hb1.mono hbel.size)
 clear hb1
 go_wp2_with (with_reducible first | refine qh_ rfl _ rfl _ rfl hP hP_z ?_ | refine qf_ (by with_unfolding_all rfl) _ rfl _ rfl hP hP_z ?_ | refine qeg_ rfl _ rfl _ rfl hX ?_ | refine pt_load_g (by with_unfolding_all rfl) _ rfl _ rfl hX ?_)
 refine (KR.out _).mono ?_
 rintro e v2 ⟨rfl, hb2⟩
 replace hP := hP.on hb2
 replace hX := hX.on hb2
 replace d0 := hX.c0 g0
 replace d1 := hX.c1 g1
 replace d2 := hX.c2 g2
 replace d3 := hX.c3 g3
 replace hbel := hbel.trans (hb2.mono hbel.size)
 clear hb2
 go_wp2_with (with_reducible first | refine qh_ rfl _ rfl _ rfl hP hP_z ?_ | refine qf_ (by with_unfolding_all rfl) _ rfl _ rfl hP hP_z ?_ | refine qeg_ rfl _ rfl _ rfl hX ?_ | refine pt_load_g (by with_unfolding_all rfl) _ rfl _ rfl hX ?_)
 go_ret
 exact ⟨rfl, hbel⟩
theorem qtw_ (p : Pr) (x : Pt) (own : Int) (hz : (prA p).size = 83) (e4 : Hid (p.easy = false)) (xh : Int) (g0 : Hid (x.h = xh)) (xb : Int) (g1 : Hid (x.b = xb))
  (t0 : decide (xh ≤ 0) = false) (KS : Hid (Gv_ 50 #[.agg (prA p), .int .i64 xh] (.bool false)))  (w : World) :
  Ca_ 62 #[.agg (prA p), .agg (ptA x), .int .i64 own] w (.int .i64 xb) := by
 have hP_z := hz
 go_enter Tryz.func62, Tryz.ntmps62
 go_upto_region 1 with fail
 generalize hw0 : World.alloc _ _ = v0
 have hbel : Below w.heap.size w v0 := by rw [← hw0]; exact ((Below.refl _ _).alloc (by simp <;> omega) _).alloc (by simp <;> omega) _
 have hP : PrAt v0 (w.heap.size) p := by rw [← hw0]; exact (Has.new _ _).alloc _
 have hX : PtAt v0 (w.heap.size + 1) x := by rw [← hw0]; exact Has.new1 _ _ _
 clear hw0
 generalize hg1 : w.heap.size + 1 = b_hX at hX ⊢
 clear hg1
 have c4 := hP.c4 e4
 have d0 := hX.c0 g0
 have d1 := hX.c1 g1
 go_wp2_with (with_reducible first | refine qh_ rfl _ rfl _ rfl hP hP_z ?_ | refine qf_ (by with_unfolding_all rfl) _ rfl _ rfl hP hP_z ?_ | refine qeg_ rfl _ rfl _ rfl hX ?_ | refine pt_load_g (by with_unfolding_all rfl) _ rfl _ rfl hX ?_)
 refine (KS.out _).mono ?_
 rintro e v1 ⟨rfl, hb1⟩
 replace hP := hP.on hb1
 replace hX := hX.on hb1
 replace c4 := hP.c4 e4
 replace d0 := hX.c0 g0
 replace d1 := hX.c1 g1
 replace hbel := hbel.trans (hb1.mono hbel.size)
 clear hb1
 go_wp2_with (with_reducible first | refine qh_ rfl _ rfl _ rfl hP hP_z ?_ | refine qf_ (by with_unfolding_all rfl) _ rfl _ rfl hP hP_z ?_ | refine qeg_ rfl _ rfl _ rfl hX ?_ | refine pt_load_g (by with_unfolding_all rfl) _ rfl _ rfl hX ?_)
 go_ret
 exact ⟨rfl, hbel⟩
theorem qtx_ (p : Pr) (x : Pt) (own : Int) (hz : (prA p).size = 83) (lim : Int) (e0 : Hid (p.lim = lim)) (spc : Int) (e2 : Hid (p.spc = spc)) (e4 : Hid (p.easy = true)) (xh : Int) (g0 : Hid (x.h = xh)) (xt : Int) (g2 : Hid (x.t = xt))
  (t0 : decide (xh ≤ 0) = false) (d s2 : Int) (f1 : IntKind.i64.wrap (own - xt) = d) (f2 : IntKind.i64.wrap (2 * spc) = s2) (f3 : decide (s2 < d) = true) (KS : Hid (Gv_ 50 #[.agg (prA p), .int .i64 xh] (.bool false)))  (w : World) :
  Ca_ 62 #[.agg (prA p), .agg (ptA x), .int .i64 own] w (.int .i64 lim) := by
 have hP_z := hz
 go_enter Tryz.func62, Tryz.ntmps62
 go_upto_region 1 with fail
 generalize hw0 : World.alloc _ _ = v0
 have hbel : Below w.heap.size w v0 := by rw [← hw0]; exact ((Below.refl _ _).alloc (by simp <;> omega) _).alloc (by simp <;> omega) _
 have hP : PrAt v0 (w.heap.size) p := by rw [← hw0]; exact (Has.new _ _).alloc _
 have hX : PtAt v0 (w.heap.size + 1) x := by rw [← hw0]; exact Has.new1 _ _ _
 clear hw0
 generalize hg1 : w.heap.size + 1 = b_hX at hX ⊢
 clear hg1
 have c0 := hP.c0 e0
 have c2 := hP.c2 e2
 have c4 := hP.c4 e4
 have d0 := hX.c0 g0
 have d2 := hX.c2 g2
 go_wp2_with (with_reducible first | refine qh_ rfl _ rfl _ rfl hP hP_z ?_ | refine qf_ (by with_unfolding_all rfl) _ rfl _ rfl hP hP_z ?_ | refine qeg_ rfl _ rfl _ rfl hX ?_ | refine pt_load_g (by with_unfolding_all rfl) _ rfl _ rfl hX ?_)
 refine (KS.out _).mono ?_
 rintro e v1 ⟨rfl, hb1⟩
 replace hP := hP.on hb1
 replace hX := hX.on hb1
 replace c0 := hP.c0 e0
 replace c2 := hP.c2 e2
 replace c4 := hP.c4 e4
 replace d0 := hX.c0 g0
 replace d2 := hX.c2 g2
 replace hbel := hbel.trans (hb1.mono hbel.size)
 clear hb1
 go_wp2_with (with_reducible first | refine qh_ rfl _ rfl _ rfl hP hP_z ?_ | refine qf_ (by with_unfolding_all rfl) _ rfl _ rfl hP hP_z ?_ | refine qeg_ rfl _ rfl _ rfl hX ?_ | refine pt_load_g (by with_unfolding_all rfl) _ rfl _ rfl hX ?_)
 go_ret
 exact ⟨rfl, hbel⟩
theorem qty_ (p : Pr) (x : Pt) (own : Int) (hz : (prA p).size = 83) (spc : Int) (e2 : Hid (p.spc = spc)) (e4 : Hid (p.easy = true)) (xh : Int) (g0 : Hid (x.h = xh)) (xt : Int) (g2 : Hid (x.t = xt)) (xr : Int) (g4 : Hid (x.r = xr))
  (t0 : decide (xh ≤ 0) = false) (d s2 : Int) (f1 : IntKind.i64.wrap (own - xt) = d) (f2 : IntKind.i64.wrap (2 * spc) = s2) (f3 : decide (s2 < d) = false) (KS : Hid (Gv_ 50 #[.agg (prA p), .int .i64 xh] (.bool false)))  (w : World) :
  Ca_ 62 #[.agg (prA p), .agg (ptA x), .int .i64 own] w (.int .i64 xr) := by
 have hP_z := hz
 go_enter Tryz.func62, Tryz.ntmps62
 go_upto_region 1 with fail
 generalize hw0 : World.alloc _ _ = v0
 have hbel : Below w.heap.size w v0 := by rw [← hw0]; exact ((Below.refl _ _).alloc (by simp <;> omega) _).alloc (by simp <;> omega) _
 have hP : PrAt v0 (w.heap.size) p := by rw [← hw0]; exact (Has.new _ _).alloc _
 have hX : PtAt v0 (w.heap.size + 1) x := by rw [← hw0]; exact Has.new1 _ _ _
 clear hw0
 generalize hg1 : w.heap.size + 1 = b_hX at hX ⊢
 clear hg1
 have c2 := hP.c2 e2
 have c4 := hP.c4 e4
 have d0 := hX.c0 g0
 have d2 := hX.c2 g2
 have d4 := hX.c4 g4
 go_wp2_with (with_reducible first | refine qh_ rfl _ rfl _ rfl hP hP_z ?_ | refine qf_ (by with_unfolding_all rfl) _ rfl _ rfl hP hP_z ?_ | refine qeg_ rfl _ rfl _ rfl hX ?_ | refine pt_load_g (by with_unfolding_all rfl) _ rfl _ rfl hX ?_)
 refine (KS.out _).mono ?_
 rintro e v1 ⟨rfl, hb1⟩
 replace hP := hP.on hb1
 replace hX := hX.on hb1
 replace c2 := hP.c2 e2
 replace c4 := hP.c4 e4
 replace d0 := hX.c0 g0
 replace d2 := hX.c2 g2
 replace d4 := hX.c4 g4
 replace hbel := hbel.trans (hb1.mono hbel.size)
 clear hb1
 go_wp2_with (with_reducible first | refine qh_ rfl _ rfl _ rfl hP hP_z ?_ | refine qf_ (by with_unfolding_all rfl) _ rfl _ rfl hP hP_z ?_ | refine qeg_ rfl _ rfl _ rfl hX ?_ | refine pt_load_g (by with_unfolding_all rfl) _ rfl _ rfl hX ?_)
 go_ret
 exact ⟨rfl, hbel⟩
def nx (p : Pr) (x : Pt) (own : Int) : Int :=
 if x.h ≤ 0 then p.lim else if starts p.ivl x.h = true then rt p x.b (IntKind.i64.wrap (x.t - x.f)) else if p.easy = false then x.b else if IntKind.i64.wrap (2 * p.spc) < IntKind.i64.wrap (own - x.t) then p.lim else x.r
theorem next_at (p : Pr) (ho : p.ok) (x : Pt) (own : Int) (w : World) : Ca_ 62 #[.agg (prA p), .agg (ptA x), .int .i64 own] w (.int .i64 (nx p x own)) := by
 have hz := qal_ ho
 unfold nx
 by_cases h0 : x.h ≤ 0
 ·rw [if_pos h0]
  exact qyl_ p x own _ (Lib.hid rfl) _ (Lib.hid rfl) (decide_eq_true h0) w
 rw [if_neg h0]
 by_cases h1 : starts p.ivl x.h = true
 ·rw [if_pos h1]
  exact qqp_ p x own hz _ (Lib.hid rfl) _ (Lib.hid rfl) _ (Lib.hid rfl) _ (Lib.hid rfl) _ (decide_eq_false h0) (Lib.hid (qfr_ p x.h true h1)) (Lib.hid (qnd_ p ho x.b x.f x.t _ rfl)) w
 rw [if_neg h1]
 have KS := qfr_ p x.h false (by simpa using h1)
 by_cases h2 : p.easy = false
 ·rw [if_pos h2]
  exact qtw_ p x own hz (Lib.hid h2) _ (Lib.hid rfl) _ (Lib.hid rfl) (decide_eq_false h0) (Lib.hid KS) w
 rw [if_neg h2]
 have h2' : p.easy = true := by simpa using h2
 by_cases h3 : IntKind.i64.wrap (2 * p.spc) < IntKind.i64.wrap (own - x.t)
 ·rw [if_pos h3]
  exact qtx_ p x own hz _ (Lib.hid rfl) _ (Lib.hid rfl) (Lib.hid h2') _ (Lib.hid rfl) _ (Lib.hid rfl) (decide_eq_false h0) _ _ rfl rfl (decide_eq_true h3) (Lib.hid KS) w
 ·rw [if_neg h3]
  exact qty_ p x own hz _ (Lib.hid rfl) (Lib.hid h2') _ (Lib.hid rfl) _ (Lib.hid rfl) _ (Lib.hid rfl) (decide_eq_false h0) _ _ rfl rfl (decide_eq_false h3) (Lib.hid KS) w
end Go.Proofs.YtkclahiiijfllaaGreatDoor.NN
namespace Go.Proofs.YtkclahiiijfllaaGreatDoor.NN
open Go.RowKit
theorem one4 : #[Value.int .u64 1, .int .u64 0, .int .u64 0, .int .u64 0] = numC 1 := rfl
theorem eql_z (z : Nat) (hz : z < Nm.big) (g : Bool) (hg : decide (z = 0) = g) (w : World) : (binOp .eql 26 (.agg (numC z)) (.agg #[.int .u64 0, .int .u64 0, .int .u64 0, .int .u64 0])).run Tryz.prog w = .ok (.bool g) w := by
 rw [← hg]; exact qpu_ hz (show 0 < Nm.big by decide) w
set_option maxHeartbeats 8000000 in
theorem grp4_ : (∀ (p : Pr) (_hz : (prA p).size = 83) (b fr to' lim : Int) (_e0 : Hid (p.lim = lim)) (t : Nat)
    (ok : Bool) (_KT : Hid (Gv_ 74 #[.int .i64 b, .int .i64 lim] (.tuple #[.agg (numC t), .bool ok])))
    (_KG : Hid (Gv_ 41 #[.agg (prA p)] (.bool false)))
     (w : World), Ca_ 105 #[.agg (prA p), .int .i64 b, .int .i64 fr, .int .i64 to'] w (.int .i64 lim)) ∧
    (∀ (p : Pr) (_hz : (prA p).size = 83) (b fr to' lim : Int) (_e0 : Hid (p.lim = lim)) (t : Nat)
    (_KT : Hid (Gv_ 74 #[.int .i64 b, .int .i64 lim] (.tuple #[.agg (numC t), .bool false])))
    (_KG : Hid (Gv_ 41 #[.agg (prA p)] (.bool true)))
     (w : World), Ca_ 105 #[.agg (prA p), .int .i64 b, .int .i64 fr, .int .i64 to'] w (.int .i64 lim)) := by
  refine ⟨fun p hz b fr to' lim e0 t ok KT KG w => ?_,
    fun p hz b fr to' lim e0 t KT KG w => ?_⟩
  all_goals
    have hP_z := hz
    go_enter Tryz.func105, Tryz.ntmps105
    go_upto_region 1 with fail
    generalize hw0 : World.alloc _ _ = v0
    have hbel : Below w.heap.size w v0 := by rw [← hw0]; exact (Below.refl _ _).alloc (by simp <;> omega) _
    have hP : PrAt v0 (w.heap.size) p := by rw [← hw0]; exact Has.new _ _
    clear hw0
    have c0 := hP.c0 e0
    go_wp2_with (with_reducible first | refine qh_ rfl _ rfl _ rfl hP hP_z ?_ | refine qf_ (by with_unfolding_all rfl) _ rfl _ rfl hP hP_z ?_)
    refine (KT.out _).mono ?_
    rintro e v1 ⟨rfl, hb1⟩
    replace hP := hP.on hb1
    replace c0 := hP.c0 e0
    replace hbel := hbel.trans (hb1.mono hbel.size)
    clear hb1
    go_upto_region 2 with (with_reducible refine qe_ rfl _ _ rfl _ _ rfl rfl _ (Has.newz _) rfl ?_)
    generalize hw2 : World.setRow _ _ _ = v2
    have hb2 : Below v1.heap.size v1 v2 := bw_ hw2
    have hT : Has v2 v1.heap.size (numC t) 26 := by rw [← hw2]; exact (Has.newz _).row _
    replace hP := hP.on hb2
    replace c0 := hP.c0 e0
    replace hbel := hbel.trans (hb2.mono hbel.size)
    clear hw2 hb2
    generalize v1.heap.size = b_hT at hT ⊢
    go_wp2_with (with_reducible first | refine qh_ rfl _ rfl _ rfl hP hP_z ?_ | refine qf_ (by with_unfolding_all rfl) _ rfl _ rfl hP hP_z ?_ | refine qb_ rfl _ rfl _ rfl _ hT rfl ?_ | refine qc_ (by with_unfolding_all rfl) _ rfl _ rfl _ hT rfl ?_)
    refine (KG.out _).mono ?_
    rintro e v3 ⟨rfl, hb3⟩
    replace hP := hP.on hb3
    replace hT := hT.on hb3
    replace c0 := hP.c0 e0
    replace hbel := hbel.trans (hb3.mono hbel.size)
    clear hb3
    go_wp2_with (with_reducible first | refine qh_ rfl _ rfl _ rfl hP hP_z ?_ | refine qf_ (by with_unfolding_all rfl) _ rfl _ rfl hP hP_z ?_ | refine qb_ rfl _ rfl _ rfl _ hT rfl ?_ | refine qc_ (by with_unfolding_all rfl) _ rfl _ rfl _ hT rfl ?_)
    go_ret
    exact ⟨rfl, hbel⟩
set_option maxHeartbeats 12000000 in
theorem grp5_ : (∀ (p : Pr) (_hz : (prA p).size = 83) (b fr to' lim : Int) (_e0 : Hid (p.lim = lim)) (t : Nat)
    (ivl spc : Int) (_e1 : Hid (p.ivl = ivl)) (_e2 : Hid (p.spc = spc)) (z L : Nat) (oL : Bool) (sn s4 s16 : Nat) (_f1 : IntKind.i64.wrap (ivl * spc) = (sn : Int)) (_f3 : (sn : Int) / 4 = (s4 : Int)) (_f4 : IntKind.i64.wrap ((sn : Int) * 4) = (s16 : Int)) (_f5 : IntKind.i64.wrap (s4 : Int) = (s4 : Int))
    (d : Int) (_f2 : IntKind.i64.wrap (to' - fr) = d) (_t1 : decide (d < (s4 : Int)) = true) (_t2 : ¬ s16 < s4)
    (_KT : Hid (Gv_ 74 #[.int .i64 b, .int .i64 lim] (.tuple #[.agg (numC t), .bool true])))
    (_KG : Hid (Gv_ 41 #[.agg (prA p)] (.bool true)))
    (_KS : Hid (Gv_ 125 #[.agg (numC t), .int .i64 (s4 : Int), .int .i64 (sn : Int)] (.tuple #[.agg (numC z), .bool false])))
    (_KL : Hid (Gv_ 74 #[.int .i64 lim, .int .i64 lim] (.tuple #[.agg (numC L), .bool oL])))
     (w : World), Ca_ 105 #[.agg (prA p), .int .i64 b, .int .i64 fr, .int .i64 to'] w (.int .i64 lim)) ∧
    (∀ (p : Pr) (_hz : (prA p).size = 83) (b fr to' lim : Int) (_e0 : Hid (p.lim = lim)) (t : Nat)
    (ivl spc : Int) (_e1 : Hid (p.ivl = ivl)) (_e2 : Hid (p.spc = spc)) (z L : Nat) (oL : Bool) (sn s4 s16 : Nat) (_f1 : IntKind.i64.wrap (ivl * spc) = (sn : Int)) (_f3 : (sn : Int) / 4 = (s4 : Int)) (_f4 : IntKind.i64.wrap ((sn : Int) * 4) = (s16 : Int)) (_f5 : IntKind.i64.wrap (s4 : Int) = (s4 : Int))
    (tk : Nat) (_f2 : IntKind.i64.wrap (to' - fr) = (tk : Int)) (_t1 : ¬ tk < s4) (_t2 : ¬ s16 < tk)
    (_KT : Hid (Gv_ 74 #[.int .i64 b, .int .i64 lim] (.tuple #[.agg (numC t), .bool true])))
    (_KG : Hid (Gv_ 41 #[.agg (prA p)] (.bool true)))
    (_KS : Hid (Gv_ 125 #[.agg (numC t), .int .i64 (tk : Int), .int .i64 (sn : Int)] (.tuple #[.agg (numC z), .bool false])))
    (_KL : Hid (Gv_ 74 #[.int .i64 lim, .int .i64 lim] (.tuple #[.agg (numC L), .bool oL])))
     (w : World), Ca_ 105 #[.agg (prA p), .int .i64 b, .int .i64 fr, .int .i64 to'] w (.int .i64 lim)) ∧
    (∀ (p : Pr) (_hz : (prA p).size = 83) (b fr to' lim : Int) (_e0 : Hid (p.lim = lim)) (t : Nat)
    (ivl spc : Int) (_e1 : Hid (p.ivl = ivl)) (_e2 : Hid (p.spc = spc)) (z L : Nat) (oL : Bool) (sn s4 s16 : Nat) (_f1 : IntKind.i64.wrap (ivl * spc) = (sn : Int)) (_f3 : (sn : Int) / 4 = (s4 : Int)) (_f4 : IntKind.i64.wrap ((sn : Int) * 4) = (s16 : Int)) (_f5 : IntKind.i64.wrap (s4 : Int) = (s4 : Int))
    (dn : Nat) (_f2 : IntKind.i64.wrap (to' - fr) = (dn : Int)) (_t1 : ¬ dn < s4) (_t2 : s16 < dn)
    (_KT : Hid (Gv_ 74 #[.int .i64 b, .int .i64 lim] (.tuple #[.agg (numC t), .bool true])))
    (_KG : Hid (Gv_ 41 #[.agg (prA p)] (.bool true)))
    (_KS : Hid (Gv_ 125 #[.agg (numC t), .int .i64 (s16 : Int), .int .i64 (sn : Int)] (.tuple #[.agg (numC z), .bool false])))
    (_KL : Hid (Gv_ 74 #[.int .i64 lim, .int .i64 lim] (.tuple #[.agg (numC L), .bool oL])))
     (w : World), Ca_ 105 #[.agg (prA p), .int .i64 b, .int .i64 fr, .int .i64 to'] w (.int .i64 lim)) := by
  refine ⟨fun p hz b fr to' lim e0 t ivl spc e1 e2 z L oL sn s4 s16 f1 f3 f4 f5 d f2 t1 t2 KT KG KS KL w => ?_,
    fun p hz b fr to' lim e0 t ivl spc e1 e2 z L oL sn s4 s16 f1 f3 f4 f5 tk f2 t1 t2 KT KG KS KL w => ?_,
    fun p hz b fr to' lim e0 t ivl spc e1 e2 z L oL sn s4 s16 f1 f3 f4 f5 dn f2 t1 t2 KT KG KS KL w => ?_⟩
  all_goals
    have hP_z := hz
    go_enter Tryz.func105, Tryz.ntmps105
    go_upto_region 1 with fail
    generalize hw0 : World.alloc _ _ = v0
    have hbel : Below w.heap.size w v0 := by rw [← hw0]; exact (Below.refl _ _).alloc (by simp <;> omega) _
    have hP : PrAt v0 (w.heap.size) p := by rw [← hw0]; exact Has.new _ _
    clear hw0
    have c0 := hP.c0 e0
    have c1 := hP.c1 e1
    have c2 := hP.c2 e2
    go_wp2_with (with_reducible first | refine qh_ rfl _ rfl _ rfl hP hP_z ?_ | refine qf_ (by with_unfolding_all rfl) _ rfl _ rfl hP hP_z ?_)
    refine (KT.out _).mono ?_
    rintro e v1 ⟨rfl, hb1⟩
    replace hP := hP.on hb1
    replace c0 := hP.c0 e0
    replace c1 := hP.c1 e1
    replace c2 := hP.c2 e2
    replace hbel := hbel.trans (hb1.mono hbel.size)
    clear hb1
    go_upto_region 2 with (with_reducible refine qe_ rfl _ _ rfl _ _ rfl rfl _ (Has.newz _) rfl ?_)
    generalize hw2 : World.setRow _ _ _ = v2
    have hb2 : Below v1.heap.size v1 v2 := bw_ hw2
    have hT : Has v2 v1.heap.size (numC t) 26 := by rw [← hw2]; exact (Has.newz _).row _
    replace hP := hP.on hb2
    replace c0 := hP.c0 e0
    replace c1 := hP.c1 e1
    replace c2 := hP.c2 e2
    replace hbel := hbel.trans (hb2.mono hbel.size)
    clear hw2 hb2
    generalize v1.heap.size = b_hT at hT ⊢
    go_wp2_with (with_reducible first | refine qh_ rfl _ rfl _ rfl hP hP_z ?_ | refine qf_ (by with_unfolding_all rfl) _ rfl _ rfl hP hP_z ?_ | refine qb_ rfl _ rfl _ rfl _ hT rfl ?_ | refine qc_ (by with_unfolding_all rfl) _ rfl _ rfl _ hT rfl ?_)
    refine (KG.out _).mono ?_
    rintro e v3 ⟨rfl, hb3⟩
    replace hP := hP.on hb3
    replace hT := hT.on hb3
    replace c0 := hP.c0 e0
    replace c1 := hP.c1 e1
    replace c2 := hP.c2 e2
    replace hbel := hbel.trans (hb3.mono hbel.size)
    clear hb3
    go_wp2_with (with_reducible first | refine qh_ rfl _ rfl _ rfl hP hP_z ?_ | refine qf_ (by with_unfolding_all rfl) _ rfl _ rfl hP hP_z ?_ | refine qb_ rfl _ rfl _ rfl _ hT rfl ?_ | refine qc_ (by with_unfolding_all rfl) _ rfl _ rfl _ hT rfl ?_)
    refine (KS.out _).mono ?_
    rintro e v4 ⟨rfl, hb4⟩
    replace hP := hP.on hb4
    replace hT := hT.on hb4
    replace c0 := hP.c0 e0
    replace c1 := hP.c1 e1
    replace c2 := hP.c2 e2
    replace hbel := hbel.trans (hb4.mono hbel.size)
    clear hb4
    go_upto_region 11 with (with_reducible refine qe_ rfl _ _ rfl _ _ rfl rfl _ (Has.newz _) rfl ?_)
    generalize hw5 : World.setRow _ _ _ = v5
    have hb5 : Below v4.heap.size v4 v5 := bw_ hw5
    have hZ : Has v5 v4.heap.size (numC z) 26 := by rw [← hw5]; exact (Has.newz _).row _
    replace hP := hP.on hb5
    replace hT := hT.on hb5
    replace c0 := hP.c0 e0
    replace c1 := hP.c1 e1
    replace c2 := hP.c2 e2
    replace hbel := hbel.trans (hb5.mono hbel.size)
    clear hw5 hb5
    generalize v4.heap.size = b_hZ at hZ ⊢
    go_wp2_with (with_reducible first | refine qh_ rfl _ rfl _ rfl hP hP_z ?_ | refine qf_ (by with_unfolding_all rfl) _ rfl _ rfl hP hP_z ?_ | refine qb_ rfl _ rfl _ rfl _ hT rfl ?_ | refine qc_ (by with_unfolding_all rfl) _ rfl _ rfl _ hT rfl ?_ | refine qb_ rfl _ rfl _ rfl _ hZ rfl ?_ | refine qc_ (by with_unfolding_all rfl) _ rfl _ rfl _ hZ rfl ?_)
    refine (KL.out _).mono ?_
    rintro e v6 ⟨rfl, hb6⟩
    replace hP := hP.on hb6
    replace hT := hT.on hb6
    replace hZ := hZ.on hb6
    replace c0 := hP.c0 e0
    replace c1 := hP.c1 e1
    replace c2 := hP.c2 e2
    replace hbel := hbel.trans (hb6.mono hbel.size)
    clear hb6
    go_upto_region 12 with (with_reducible refine qe_ rfl _ _ rfl _ _ rfl rfl _ (Has.newz _) rfl ?_)
    generalize hw7 : World.setRow _ _ _ = v7
    have hb7 : Below v6.heap.size v6 v7 := bw_ hw7
    have hL : Has v7 v6.heap.size (numC L) 26 := by rw [← hw7]; exact (Has.newz _).row _
    replace hP := hP.on hb7
    replace hT := hT.on hb7
    replace hZ := hZ.on hb7
    replace c0 := hP.c0 e0
    replace c1 := hP.c1 e1
    replace c2 := hP.c2 e2
    replace hbel := hbel.trans (hb7.mono hbel.size)
    clear hw7 hb7
    generalize v6.heap.size = b_hL at hL ⊢
    go_wp2_with (with_reducible first | refine qh_ rfl _ rfl _ rfl hP hP_z ?_ | refine qf_ (by with_unfolding_all rfl) _ rfl _ rfl hP hP_z ?_ | refine qb_ rfl _ rfl _ rfl _ hT rfl ?_ | refine qc_ (by with_unfolding_all rfl) _ rfl _ rfl _ hT rfl ?_ | refine qb_ rfl _ rfl _ rfl _ hZ rfl ?_ | refine qc_ (by with_unfolding_all rfl) _ rfl _ rfl _ hZ rfl ?_ | refine qb_ rfl _ rfl _ rfl _ hL rfl ?_ | refine qc_ (by with_unfolding_all rfl) _ rfl _ rfl _ hL rfl ?_)
    go_ret
    exact ⟨rfl, hbel⟩
set_option maxHeartbeats 12000000 in
theorem grp6_ : (∀ (p : Pr) (_hz : (prA p).size = 83) (b fr to' lim : Int) (_e0 : Hid (p.lim = lim)) (t : Nat)
    (ivl spc : Int) (_e1 : Hid (p.ivl = ivl)) (_e2 : Hid (p.spc = spc)) (z L : Nat) (oL : Bool) (sn s4 s16 : Nat) (_f1 : IntKind.i64.wrap (ivl * spc) = (sn : Int)) (_f3 : (sn : Int) / 4 = (s4 : Int)) (_f4 : IntKind.i64.wrap ((sn : Int) * 4) = (s16 : Int)) (_f5 : IntKind.i64.wrap (s4 : Int) = (s4 : Int))
    (d : Int) (_f2 : IntKind.i64.wrap (to' - fr) = d) (_t1 : decide (d < (s4 : Int)) = true) (_t2 : ¬ s16 < s4)
    (_KT : Hid (Gv_ 74 #[.int .i64 b, .int .i64 lim] (.tuple #[.agg (numC t), .bool true])))
    (_KG : Hid (Gv_ 41 #[.agg (prA p)] (.bool true)))
    (_KS : Hid (Gv_ 125 #[.agg (numC t), .int .i64 (s4 : Int), .int .i64 (sn : Int)] (.tuple #[.agg (numC z), .bool true])))
    (_KL : Hid (Gv_ 74 #[.int .i64 lim, .int .i64 lim] (.tuple #[.agg (numC L), .bool oL])))
    (_KLess : Hid (Gv_ 80 #[.agg (numC L), .agg (numC z)] (.bool true)))
     (w : World), Ca_ 105 #[.agg (prA p), .int .i64 b, .int .i64 fr, .int .i64 to'] w (.int .i64 lim)) ∧
    (∀ (p : Pr) (_hz : (prA p).size = 83) (b fr to' lim : Int) (_e0 : Hid (p.lim = lim)) (t : Nat)
    (ivl spc : Int) (_e1 : Hid (p.ivl = ivl)) (_e2 : Hid (p.spc = spc)) (z L : Nat) (oL : Bool) (sn s4 s16 : Nat) (_f1 : IntKind.i64.wrap (ivl * spc) = (sn : Int)) (_f3 : (sn : Int) / 4 = (s4 : Int)) (_f4 : IntKind.i64.wrap ((sn : Int) * 4) = (s16 : Int)) (_f5 : IntKind.i64.wrap (s4 : Int) = (s4 : Int))
    (tk : Nat) (_f2 : IntKind.i64.wrap (to' - fr) = (tk : Int)) (_t1 : ¬ tk < s4) (_t2 : ¬ s16 < tk)
    (_KT : Hid (Gv_ 74 #[.int .i64 b, .int .i64 lim] (.tuple #[.agg (numC t), .bool true])))
    (_KG : Hid (Gv_ 41 #[.agg (prA p)] (.bool true)))
    (_KS : Hid (Gv_ 125 #[.agg (numC t), .int .i64 (tk : Int), .int .i64 (sn : Int)] (.tuple #[.agg (numC z), .bool true])))
    (_KL : Hid (Gv_ 74 #[.int .i64 lim, .int .i64 lim] (.tuple #[.agg (numC L), .bool oL])))
    (_KLess : Hid (Gv_ 80 #[.agg (numC L), .agg (numC z)] (.bool true)))
     (w : World), Ca_ 105 #[.agg (prA p), .int .i64 b, .int .i64 fr, .int .i64 to'] w (.int .i64 lim)) ∧
    (∀ (p : Pr) (_hz : (prA p).size = 83) (b fr to' lim : Int) (_e0 : Hid (p.lim = lim)) (t : Nat)
    (ivl spc : Int) (_e1 : Hid (p.ivl = ivl)) (_e2 : Hid (p.spc = spc)) (z L : Nat) (oL : Bool) (sn s4 s16 : Nat) (_f1 : IntKind.i64.wrap (ivl * spc) = (sn : Int)) (_f3 : (sn : Int) / 4 = (s4 : Int)) (_f4 : IntKind.i64.wrap ((sn : Int) * 4) = (s16 : Int)) (_f5 : IntKind.i64.wrap (s4 : Int) = (s4 : Int))
    (dn : Nat) (_f2 : IntKind.i64.wrap (to' - fr) = (dn : Int)) (_t1 : ¬ dn < s4) (_t2 : s16 < dn)
    (_KT : Hid (Gv_ 74 #[.int .i64 b, .int .i64 lim] (.tuple #[.agg (numC t), .bool true])))
    (_KG : Hid (Gv_ 41 #[.agg (prA p)] (.bool true)))
    (_KS : Hid (Gv_ 125 #[.agg (numC t), .int .i64 (s16 : Int), .int .i64 (sn : Int)] (.tuple #[.agg (numC z), .bool true])))
    (_KL : Hid (Gv_ 74 #[.int .i64 lim, .int .i64 lim] (.tuple #[.agg (numC L), .bool oL])))
    (_KLess : Hid (Gv_ 80 #[.agg (numC L), .agg (numC z)] (.bool true)))
     (w : World), Ca_ 105 #[.agg (prA p), .int .i64 b, .int .i64 fr, .int .i64 to'] w (.int .i64 lim)) := by
  refine ⟨fun p hz b fr to' lim e0 t ivl spc e1 e2 z L oL sn s4 s16 f1 f3 f4 f5 d f2 t1 t2 KT KG KS KL KLess w => ?_,
    fun p hz b fr to' lim e0 t ivl spc e1 e2 z L oL sn s4 s16 f1 f3 f4 f5 tk f2 t1 t2 KT KG KS KL KLess w => ?_,
    fun p hz b fr to' lim e0 t ivl spc e1 e2 z L oL sn s4 s16 f1 f3 f4 f5 dn f2 t1 t2 KT KG KS KL KLess w => ?_⟩
  all_goals
    have hP_z := hz
    go_enter Tryz.func105, Tryz.ntmps105
    go_upto_region 1 with fail
    generalize hw0 : World.alloc _ _ = v0
    have hbel : Below w.heap.size w v0 := by rw [← hw0]; exact (Below.refl _ _).alloc (by simp <;> omega) _
    have hP : PrAt v0 (w.heap.size) p := by rw [← hw0]; exact Has.new _ _
    clear hw0
    have c0 := hP.c0 e0
    have c1 := hP.c1 e1
    have c2 := hP.c2 e2
    go_wp2_with (with_reducible first | refine qh_ rfl _ rfl _ rfl hP hP_z ?_ | refine qf_ (by with_unfolding_all rfl) _ rfl _ rfl hP hP_z ?_)
    refine (KT.out _).mono ?_
    rintro e v1 ⟨rfl, hb1⟩
    replace hP := hP.on hb1
    replace c0 := hP.c0 e0
    replace c1 := hP.c1 e1
    replace c2 := hP.c2 e2
    replace hbel := hbel.trans (hb1.mono hbel.size)
    clear hb1
    go_upto_region 2 with (with_reducible refine qe_ rfl _ _ rfl _ _ rfl rfl _ (Has.newz _) rfl ?_)
    generalize hw2 : World.setRow _ _ _ = v2
    have hb2 : Below v1.heap.size v1 v2 := bw_ hw2
    have hT : Has v2 v1.heap.size (numC t) 26 := by rw [← hw2]; exact (Has.newz _).row _
    replace hP := hP.on hb2
    replace c0 := hP.c0 e0
    replace c1 := hP.c1 e1
    replace c2 := hP.c2 e2
    replace hbel := hbel.trans (hb2.mono hbel.size)
    clear hw2 hb2
    generalize v1.heap.size = b_hT at hT ⊢
    go_wp2_with (with_reducible first | refine qh_ rfl _ rfl _ rfl hP hP_z ?_ | refine qf_ (by with_unfolding_all rfl) _ rfl _ rfl hP hP_z ?_ | refine qb_ rfl _ rfl _ rfl _ hT rfl ?_ | refine qc_ (by with_unfolding_all rfl) _ rfl _ rfl _ hT rfl ?_)
    refine (KG.out _).mono ?_
    rintro e v3 ⟨rfl, hb3⟩
    replace hP := hP.on hb3
    replace hT := hT.on hb3
    replace c0 := hP.c0 e0
    replace c1 := hP.c1 e1
    replace c2 := hP.c2 e2
    replace hbel := hbel.trans (hb3.mono hbel.size)
    clear hb3
    go_wp2_with (with_reducible first | refine qh_ rfl _ rfl _ rfl hP hP_z ?_ | refine qf_ (by with_unfolding_all rfl) _ rfl _ rfl hP hP_z ?_ | refine qb_ rfl _ rfl _ rfl _ hT rfl ?_ | refine qc_ (by with_unfolding_all rfl) _ rfl _ rfl _ hT rfl ?_)
    refine (KS.out _).mono ?_
    rintro e v4 ⟨rfl, hb4⟩
    replace hP := hP.on hb4
    replace hT := hT.on hb4
    replace c0 := hP.c0 e0
    replace c1 := hP.c1 e1
    replace c2 := hP.c2 e2
    replace hbel := hbel.trans (hb4.mono hbel.size)
    clear hb4
    go_upto_region 11 with (with_reducible refine qe_ rfl _ _ rfl _ _ rfl rfl _ (Has.newz _) rfl ?_)
    generalize hw5 : World.setRow _ _ _ = v5
    have hb5 : Below v4.heap.size v4 v5 := bw_ hw5
    have hZ : Has v5 v4.heap.size (numC z) 26 := by rw [← hw5]; exact (Has.newz _).row _
    replace hP := hP.on hb5
    replace hT := hT.on hb5
    replace c0 := hP.c0 e0
    replace c1 := hP.c1 e1
    replace c2 := hP.c2 e2
    replace hbel := hbel.trans (hb5.mono hbel.size)
    clear hw5 hb5
    generalize v4.heap.size = b_hZ at hZ ⊢
    go_wp2_with (with_reducible first | refine qh_ rfl _ rfl _ rfl hP hP_z ?_ | refine qf_ (by with_unfolding_all rfl) _ rfl _ rfl hP hP_z ?_ | refine qb_ rfl _ rfl _ rfl _ hT rfl ?_ | refine qc_ (by with_unfolding_all rfl) _ rfl _ rfl _ hT rfl ?_ | refine qb_ rfl _ rfl _ rfl _ hZ rfl ?_ | refine qc_ (by with_unfolding_all rfl) _ rfl _ rfl _ hZ rfl ?_)
    refine (KL.out _).mono ?_
    rintro e v6 ⟨rfl, hb6⟩
    replace hP := hP.on hb6
    replace hT := hT.on hb6
    replace hZ := hZ.on hb6
    replace c0 := hP.c0 e0
    replace c1 := hP.c1 e1
    replace c2 := hP.c2 e2
    replace hbel := hbel.trans (hb6.mono hbel.size)
    clear hb6
    go_upto_region 12 with (with_reducible refine qe_ rfl _ _ rfl _ _ rfl rfl _ (Has.newz _) rfl ?_)
    generalize hw7 : World.setRow _ _ _ = v7
    have hb7 : Below v6.heap.size v6 v7 := bw_ hw7
    have hL : Has v7 v6.heap.size (numC L) 26 := by rw [← hw7]; exact (Has.newz _).row _
    replace hP := hP.on hb7
    replace hT := hT.on hb7
    replace hZ := hZ.on hb7
    replace c0 := hP.c0 e0
    replace c1 := hP.c1 e1
    replace c2 := hP.c2 e2
    replace hbel := hbel.trans (hb7.mono hbel.size)
    clear hw7 hb7
    generalize v6.heap.size = b_hL at hL ⊢
    go_wp2_with (with_reducible first | refine qh_ rfl _ rfl _ rfl hP hP_z ?_ | refine qf_ (by with_unfolding_all rfl) _ rfl _ rfl hP hP_z ?_ | refine qb_ rfl _ rfl _ rfl _ hT rfl ?_ | refine qc_ (by with_unfolding_all rfl) _ rfl _ rfl _ hT rfl ?_ | refine qb_ rfl _ rfl _ rfl _ hZ rfl ?_ | refine qc_ (by with_unfolding_all rfl) _ rfl _ rfl _ hZ rfl ?_ | refine qb_ rfl _ rfl _ rfl _ hL rfl ?_ | refine qc_ (by with_unfolding_all rfl) _ rfl _ rfl _ hL rfl ?_)
    refine (KLess.out _).mono ?_
    rintro e v8 ⟨rfl, hb8⟩
    replace hP := hP.on hb8
    replace hT := hT.on hb8
    replace hZ := hZ.on hb8
    replace hL := hL.on hb8
    replace c0 := hP.c0 e0
    replace c1 := hP.c1 e1
    replace c2 := hP.c2 e2
    replace hbel := hbel.trans (hb8.mono hbel.size)
    clear hb8
    go_wp2_with (with_reducible first | refine qh_ rfl _ rfl _ rfl hP hP_z ?_ | refine qf_ (by with_unfolding_all rfl) _ rfl _ rfl hP hP_z ?_ | refine qb_ rfl _ rfl _ rfl _ hT rfl ?_ | refine qc_ (by with_unfolding_all rfl) _ rfl _ rfl _ hT rfl ?_ | refine qb_ rfl _ rfl _ rfl _ hZ rfl ?_ | refine qc_ (by with_unfolding_all rfl) _ rfl _ rfl _ hZ rfl ?_ | refine qb_ rfl _ rfl _ rfl _ hL rfl ?_ | refine qc_ (by with_unfolding_all rfl) _ rfl _ rfl _ hL rfl ?_)
    go_ret
    exact ⟨rfl, hbel⟩
set_option maxHeartbeats 12000000 in
theorem grp7_ : (∀ (p : Pr) (_hz : (prA p).size = 83) (b fr to' lim : Int) (_e0 : Hid (p.lim = lim)) (t : Nat)
  (en : Int) (ivl spc : Int) (_e1 : Hid (p.ivl = ivl)) (_e2 : Hid (p.spc = spc)) (z L : Nat) (oL : Bool) (sn s4 s16 : Nat) (_f1 : IntKind.i64.wrap (ivl * spc) = (sn : Int)) (_f3 : (sn : Int) / 4 = (s4 : Int)) (_f4 : IntKind.i64.wrap ((sn : Int) * 4) = (s16 : Int)) (_f5 : IntKind.i64.wrap (s4 : Int) = (s4 : Int))
  (d : Int) (_f2 : IntKind.i64.wrap (to' - fr) = d) (_t1 : decide (d < (s4 : Int)) = true) (_t2 : ¬ s16 < s4)
  (_KT : Hid (Gv_ 74 #[.int .i64 b, .int .i64 lim] (.tuple #[.agg (numC t), .bool true])))
  (_KG : Hid (Gv_ 41 #[.agg (prA p)] (.bool true)))
  (_KS : Hid (Gv_ 125 #[.agg (numC t), .int .i64 (s4 : Int), .int .i64 (sn : Int)] (.tuple #[.agg (numC z), .bool true])))
  (_KL : Hid (Gv_ 74 #[.int .i64 lim, .int .i64 lim] (.tuple #[.agg (numC L), .bool oL])))
  (_KLess : Hid (Gv_ 80 #[.agg (numC L), .agg (numC z)] (.bool false)))
  (_hq : ∀ w, (binOp .eql 26 (.agg (numC z)) (.agg #[.int .u64 0, .int .u64 0, .int .u64 0, .int .u64 0])).run Tryz.prog w = .ok (.bool false) w)
  (_KE : Hid (Gv_ 126 #[.agg (numC z)] (.int .i64 en))) (w : World), Ca_ 105 #[.agg (prA p), .int .i64 b, .int .i64 fr, .int .i64 to'] w (.int .i64 en)) ∧
  (∀ (p : Pr) (_hz : (prA p).size = 83) (b fr to' lim : Int) (_e0 : Hid (p.lim = lim)) (t : Nat)
  (en : Int) (ivl spc : Int) (_e1 : Hid (p.ivl = ivl)) (_e2 : Hid (p.spc = spc)) (z L : Nat) (oL : Bool) (sn s4 s16 : Nat) (_f1 : IntKind.i64.wrap (ivl * spc) = (sn : Int)) (_f3 : (sn : Int) / 4 = (s4 : Int)) (_f4 : IntKind.i64.wrap ((sn : Int) * 4) = (s16 : Int)) (_f5 : IntKind.i64.wrap (s4 : Int) = (s4 : Int))
  (tk : Nat) (_f2 : IntKind.i64.wrap (to' - fr) = (tk : Int)) (_t1 : ¬ tk < s4) (_t2 : ¬ s16 < tk)
  (_KT : Hid (Gv_ 74 #[.int .i64 b, .int .i64 lim] (.tuple #[.agg (numC t), .bool true])))
  (_KG : Hid (Gv_ 41 #[.agg (prA p)] (.bool true)))
  (_KS : Hid (Gv_ 125 #[.agg (numC t), .int .i64 (tk : Int), .int .i64 (sn : Int)] (.tuple #[.agg (numC z), .bool true])))
  (_KL : Hid (Gv_ 74 #[.int .i64 lim, .int .i64 lim] (.tuple #[.agg (numC L), .bool oL])))
  (_KLess : Hid (Gv_ 80 #[.agg (numC L), .agg (numC z)] (.bool false)))
  (_hq : ∀ w, (binOp .eql 26 (.agg (numC z)) (.agg #[.int .u64 0, .int .u64 0, .int .u64 0, .int .u64 0])).run Tryz.prog w = .ok (.bool false) w)
  (_KE : Hid (Gv_ 126 #[.agg (numC z)] (.int .i64 en))) (w : World), Ca_ 105 #[.agg (prA p), .int .i64 b, .int .i64 fr, .int .i64 to'] w (.int .i64 en)) ∧
  (∀ (p : Pr) (_hz : (prA p).size = 83) (b fr to' lim : Int) (_e0 : Hid (p.lim = lim)) (t : Nat)
  (en : Int) (ivl spc : Int) (_e1 : Hid (p.ivl = ivl)) (_e2 : Hid (p.spc = spc)) (z L : Nat) (oL : Bool) (sn s4 s16 : Nat) (_f1 : IntKind.i64.wrap (ivl * spc) = (sn : Int)) (_f3 : (sn : Int) / 4 = (s4 : Int)) (_f4 : IntKind.i64.wrap ((sn : Int) * 4) = (s16 : Int)) (_f5 : IntKind.i64.wrap (s4 : Int) = (s4 : Int))
  (dn : Nat) (_f2 : IntKind.i64.wrap (to' - fr) = (dn : Int)) (_t1 : ¬ dn < s4) (_t2 : s16 < dn)
  (_KT : Hid (Gv_ 74 #[.int .i64 b, .int .i64 lim] (.tuple #[.agg (numC t), .bool true])))
  (_KG : Hid (Gv_ 41 #[.agg (prA p)] (.bool true)))
  (_KS : Hid (Gv_ 125 #[.agg (numC t), .int .i64 (s16 : Int), .int .i64 (sn : Int)] (.tuple #[.agg (numC z), .bool true])))
  (_KL : Hid (Gv_ 74 #[.int .i64 lim, .int .i64 lim] (.tuple #[.agg (numC L), .bool oL])))
  (_KLess : Hid (Gv_ 80 #[.agg (numC L), .agg (numC z)] (.bool false)))
  (_hq : ∀ w, (binOp .eql 26 (.agg (numC z)) (.agg #[.int .u64 0, .int .u64 0, .int .u64 0, .int .u64 0])).run Tryz.prog w = .ok (.bool false) w)
  (_KE : Hid (Gv_ 126 #[.agg (numC z)] (.int .i64 en))) (w : World), Ca_ 105 #[.agg (prA p), .int .i64 b, .int .i64 fr, .int .i64 to'] w (.int .i64 en)) := by
 refine ⟨fun p hz b fr to' lim e0 t en ivl spc e1 e2 z L oL sn s4 s16 f1 f3 f4 f5 d f2 t1 t2 KT KG KS KL KLess hq KE w => ?_,
  fun p hz b fr to' lim e0 t en ivl spc e1 e2 z L oL sn s4 s16 f1 f3 f4 f5 tk f2 t1 t2 KT KG KS KL KLess hq KE w => ?_,
  fun p hz b fr to' lim e0 t en ivl spc e1 e2 z L oL sn s4 s16 f1 f3 f4 f5 dn f2 t1 t2 KT KG KS KL KLess hq KE w => ?_⟩
 all_goals
  have hP_z := hz
  go_enter Tryz.func105, Tryz.ntmps105
  go_upto_region 1 with fail
  generalize hw0 : World.alloc _ _ = v0
  have hbel : Below w.heap.size w v0 := by rw [← hw0]; exact (Below.refl _ _).alloc (by simp <;> omega) _
  have hP : PrAt v0 (w.heap.size) p := by rw [← hw0]; exact Has.new _ _
  clear hw0
  have c0 := hP.c0 e0
  have c1 := hP.c1 e1
  have c2 := hP.c2 e2
  go_wp2_with (with_reducible first | refine qh_ rfl _ rfl _ rfl hP hP_z ?_ | refine qf_ (by with_unfolding_all rfl) _ rfl _ rfl hP hP_z ?_)
  refine (KT.out _).mono ?_
  rintro e v1 ⟨rfl, hb1⟩
  replace hP := hP.on hb1
  replace c0 := hP.c0 e0
  replace c1 := hP.c1 e1
  replace c2 := hP.c2 e2
  replace hbel := hbel.trans (hb1.mono hbel.size)
  clear hb1
  go_upto_region 2 with (with_reducible refine qe_ rfl _ _ rfl _ _ rfl rfl _ (Has.newz _) rfl ?_)
  generalize hw2 : World.setRow _ _ _ = v2
  have hb2 : Below v1.heap.size v1 v2 := bw_ hw2
  have hT : Has v2 v1.heap.size (numC t) 26 := by rw [← hw2]; exact (Has.newz _).row _
  replace hP := hP.on hb2
  replace c0 := hP.c0 e0
  replace c1 := hP.c1 e1
  replace c2 := hP.c2 e2
  replace hbel := hbel.trans (hb2.mono hbel.size)
  clear hw2 hb2
  generalize v1.heap.size = b_hT at hT ⊢
  go_wp2_with (with_reducible first | refine qh_ rfl _ rfl _ rfl hP hP_z ?_ | refine qf_ (by with_unfolding_all rfl) _ rfl _ rfl hP hP_z ?_ | refine qb_ rfl _ rfl _ rfl _ hT rfl ?_ | refine qc_ (by with_unfolding_all rfl) _ rfl _ rfl _ hT rfl ?_)
  refine (KG.out _).mono ?_
  rintro e v3 ⟨rfl, hb3⟩
  replace hP := hP.on hb3
  replace hT := hT.on hb3
  replace c0 := hP.c0 e0
  replace c1 := hP.c1 e1
  replace c2 := hP.c2 e2
  replace hbel := hbel.trans (hb3.mono hbel.size)
  clear hb3
  go_wp2_with (with_reducible first | refine qh_ rfl _ rfl _ rfl hP hP_z ?_ | refine qf_ (by with_unfolding_all rfl) _ rfl _ rfl hP hP_z ?_ | refine qb_ rfl _ rfl _ rfl _ hT rfl ?_ | refine qc_ (by with_unfolding_all rfl) _ rfl _ rfl _ hT rfl ?_)
  refine (KS.out _).mono ?_
  rintro e v4 ⟨rfl, hb4⟩
  replace hP := hP.on hb4
  replace hT := hT.on hb4
  replace c0 := hP.c0 e0
  replace c1 := hP.c1 e1
  replace c2 := hP.c2 e2
  replace hbel := hbel.trans (hb4.mono hbel.size)
  clear hb4
  go_upto_region 11 with (with_reducible refine qe_ rfl _ _ rfl _ _ rfl rfl _ (Has.newz _) rfl ?_)
  generalize hw5 : World.setRow _ _ _ = v5
  have hb5 : Below v4.heap.size v4 v5 := bw_ hw5
  have hZ : Has v5 v4.heap.size (numC z) 26 := by rw [← hw5]; exact (Has.newz _).row _
  replace hP := hP.on hb5
  replace hT := hT.on hb5
  replace c0 := hP.c0 e0
  replace c1 := hP.c1 e1
  replace c2 := hP.c2 e2
  replace hbel := hbel.trans (hb5.mono hbel.size)
  clear hw5 hb5
  generalize v4.heap.size = b_hZ at hZ ⊢
  go_wp2_with (with_reducible first | refine qh_ rfl _ rfl _ rfl hP hP_z ?_ | refine qf_ (by with_unfolding_all rfl) _ rfl _ rfl hP hP_z ?_ | refine qb_ rfl _ rfl _ rfl _ hT rfl ?_ | refine qc_ (by with_unfolding_all rfl) _ rfl _ rfl _ hT rfl ?_ | refine qb_ rfl _ rfl _ rfl _ hZ rfl ?_ | refine qc_ (by with_unfolding_all rfl) _ rfl _ rfl _ hZ rfl ?_)
  refine (KL.out _).mono ?_
  rintro e v6 ⟨rfl, hb6⟩
  replace hP := hP.on hb6
  replace hT := hT.on hb6
  replace hZ := hZ.on hb6
  replace c0 := hP.c0 e0
  replace c1 := hP.c1 e1
  replace c2 := hP.c2 e2
  replace hbel := hbel.trans (hb6.mono hbel.size)
  clear hb6
  go_upto_region 12 with (with_reducible refine qe_ rfl _ _ rfl _ _ rfl rfl _ (Has.newz _) rfl ?_)
  generalize hw7 : World.setRow _ _ _ = v7
  have hb7 : Below v6.heap.size v6 v7 := bw_ hw7
  have hL : Has v7 v6.heap.size (numC L) 26 := by rw [← hw7]; exact (Has.newz _).row _
  replace hP := hP.on hb7
  replace hT := hT.on hb7
  replace hZ := hZ.on hb7
  replace c0 := hP.c0 e0
  replace c1 := hP.c1 e1
  replace c2 := hP.c2 e2
  replace hbel := hbel.trans (hb7.mono hbel.size)
  clear hw7 hb7
  generalize v6.heap.size = b_hL at hL ⊢
  go_wp2_with (with_reducible first | refine qh_ rfl _ rfl _ rfl hP hP_z ?_ | refine qf_ (by with_unfolding_all rfl) _ rfl _ rfl hP hP_z ?_ | refine qb_ rfl _ rfl _ rfl _ hT rfl ?_ | refine qc_ (by with_unfolding_all rfl) _ rfl _ rfl _ hT rfl ?_ | refine qb_ rfl _ rfl _ rfl _ hZ rfl ?_ | refine qc_ (by with_unfolding_all rfl) _ rfl _ rfl _ hZ rfl ?_ | refine qb_ rfl _ rfl _ rfl _ hL rfl ?_ | refine qc_ (by with_unfolding_all rfl) _ rfl _ rfl _ hL rfl ?_)
  refine (KLess.out _).mono ?_
  rintro e v8 ⟨rfl, hb8⟩
  replace hP := hP.on hb8
  replace hT := hT.on hb8
  replace hZ := hZ.on hb8
  replace hL := hL.on hb8
  replace c0 := hP.c0 e0
  replace c1 := hP.c1 e1
  replace c2 := hP.c2 e2
  replace hbel := hbel.trans (hb8.mono hbel.size)
  clear hb8
  go_wp2_with (with_reducible first | refine qh_ rfl _ rfl _ rfl hP hP_z ?_ | refine qf_ (by with_unfolding_all rfl) _ rfl _ rfl hP hP_z ?_ | refine qb_ rfl _ rfl _ rfl _ hT rfl ?_ | refine qc_ (by with_unfolding_all rfl) _ rfl _ rfl _ hT rfl ?_ | refine qb_ rfl _ rfl _ rfl _ hZ rfl ?_ | refine qc_ (by with_unfolding_all rfl) _ rfl _ rfl _ hZ rfl ?_ | refine qb_ rfl _ rfl _ rfl _ hL rfl ?_ | refine qc_ (by with_unfolding_all rfl) _ rfl _ rfl _ hL rfl ?_)
  refine (KE.out _).mono ?_
  rintro e v9 ⟨rfl, hb9⟩
  replace hP := hP.on hb9
  replace hT := hT.on hb9
  replace hZ := hZ.on hb9
  replace hL := hL.on hb9
  replace c0 := hP.c0 e0
  replace c1 := hP.c1 e1
  replace c2 := hP.c2 e2
  replace hbel := hbel.trans (hb9.mono hbel.size)
  clear hb9
  go_wp2_with (with_reducible first | refine qh_ rfl _ rfl _ rfl hP hP_z ?_ | refine qf_ (by with_unfolding_all rfl) _ rfl _ rfl hP hP_z ?_ | refine qb_ rfl _ rfl _ rfl _ hT rfl ?_ | refine qc_ (by with_unfolding_all rfl) _ rfl _ rfl _ hT rfl ?_ | refine qb_ rfl _ rfl _ rfl _ hZ rfl ?_ | refine qc_ (by with_unfolding_all rfl) _ rfl _ rfl _ hZ rfl ?_ | refine qb_ rfl _ rfl _ rfl _ hL rfl ?_ | refine qc_ (by with_unfolding_all rfl) _ rfl _ rfl _ hL rfl ?_)
  go_ret
  exact ⟨rfl, hbel⟩
set_option maxHeartbeats 12000000 in
theorem grp8_ : (∀ (p : Pr) (_hz : (prA p).size = 83) (b fr to' lim : Int) (_e0 : Hid (p.lim = lim)) (t : Nat)
  (en : Int) (ivl spc : Int) (_e1 : Hid (p.ivl = ivl)) (_e2 : Hid (p.spc = spc)) (z L : Nat) (oL : Bool) (sn s4 s16 : Nat) (_f1 : IntKind.i64.wrap (ivl * spc) = (sn : Int)) (_f3 : (sn : Int) / 4 = (s4 : Int)) (_f4 : IntKind.i64.wrap ((sn : Int) * 4) = (s16 : Int)) (_f5 : IntKind.i64.wrap (s4 : Int) = (s4 : Int))
  (d : Int) (_f2 : IntKind.i64.wrap (to' - fr) = d) (_t1 : decide (d < (s4 : Int)) = true) (_t2 : ¬ s16 < s4)
  (_KT : Hid (Gv_ 74 #[.int .i64 b, .int .i64 lim] (.tuple #[.agg (numC t), .bool true])))
  (_KG : Hid (Gv_ 41 #[.agg (prA p)] (.bool true)))
  (_KS : Hid (Gv_ 125 #[.agg (numC t), .int .i64 (s4 : Int), .int .i64 (sn : Int)] (.tuple #[.agg (numC z), .bool true])))
  (_KL : Hid (Gv_ 74 #[.int .i64 lim, .int .i64 lim] (.tuple #[.agg (numC L), .bool oL])))
  (_KLess : Hid (Gv_ 80 #[.agg (numC L), .agg (numC z)] (.bool false)))
  (_hq : ∀ w, (binOp .eql 26 (.agg (numC z)) (.agg #[.int .u64 0, .int .u64 0, .int .u64 0, .int .u64 0])).run Tryz.prog w = .ok (.bool true) w)
  (_KE : Hid (Gv_ 126 #[.agg (numC 1)] (.int .i64 en))) (w : World), Ca_ 105 #[.agg (prA p), .int .i64 b, .int .i64 fr, .int .i64 to'] w (.int .i64 en)) ∧
  (∀ (p : Pr) (_hz : (prA p).size = 83) (b fr to' lim : Int) (_e0 : Hid (p.lim = lim)) (t : Nat)
  (en : Int) (ivl spc : Int) (_e1 : Hid (p.ivl = ivl)) (_e2 : Hid (p.spc = spc)) (z L : Nat) (oL : Bool) (sn s4 s16 : Nat) (_f1 : IntKind.i64.wrap (ivl * spc) = (sn : Int)) (_f3 : (sn : Int) / 4 = (s4 : Int)) (_f4 : IntKind.i64.wrap ((sn : Int) * 4) = (s16 : Int)) (_f5 : IntKind.i64.wrap (s4 : Int) = (s4 : Int))
  (tk : Nat) (_f2 : IntKind.i64.wrap (to' - fr) = (tk : Int)) (_t1 : ¬ tk < s4) (_t2 : ¬ s16 < tk)
  (_KT : Hid (Gv_ 74 #[.int .i64 b, .int .i64 lim] (.tuple #[.agg (numC t), .bool true])))
  (_KG : Hid (Gv_ 41 #[.agg (prA p)] (.bool true)))
  (_KS : Hid (Gv_ 125 #[.agg (numC t), .int .i64 (tk : Int), .int .i64 (sn : Int)] (.tuple #[.agg (numC z), .bool true])))
  (_KL : Hid (Gv_ 74 #[.int .i64 lim, .int .i64 lim] (.tuple #[.agg (numC L), .bool oL])))
  (_KLess : Hid (Gv_ 80 #[.agg (numC L), .agg (numC z)] (.bool false)))
  (_hq : ∀ w, (binOp .eql 26 (.agg (numC z)) (.agg #[.int .u64 0, .int .u64 0, .int .u64 0, .int .u64 0])).run Tryz.prog w = .ok (.bool true) w)
  (_KE : Hid (Gv_ 126 #[.agg (numC 1)] (.int .i64 en))) (w : World), Ca_ 105 #[.agg (prA p), .int .i64 b, .int .i64 fr, .int .i64 to'] w (.int .i64 en)) ∧
  (∀ (p : Pr) (_hz : (prA p).size = 83) (b fr to' lim : Int) (_e0 : Hid (p.lim = lim)) (t : Nat)
  (en : Int) (ivl spc : Int) (_e1 : Hid (p.ivl = ivl)) (_e2 : Hid (p.spc = spc)) (z L : Nat) (oL : Bool) (sn s4 s16 : Nat) (_f1 : IntKind.i64.wrap (ivl * spc) = (sn : Int)) (_f3 : (sn : Int) / 4 = (s4 : Int)) (_f4 : IntKind.i64.wrap ((sn : Int) * 4) = (s16 : Int)) (_f5 : IntKind.i64.wrap (s4 : Int) = (s4 : Int))
  (dn : Nat) (_f2 : IntKind.i64.wrap (to' - fr) = (dn : Int)) (_t1 : ¬ dn < s4) (_t2 : s16 < dn)
  (_KT : Hid (Gv_ 74 #[.int .i64 b, .int .i64 lim] (.tuple #[.agg (numC t), .bool true])))
  (_KG : Hid (Gv_ 41 #[.agg (prA p)] (.bool true)))
  (_KS : Hid (Gv_ 125 #[.agg (numC t), .int .i64 (s16 : Int), .int .i64 (sn : Int)] (.tuple #[.agg (numC z), .bool true])))
  (_KL : Hid (Gv_ 74 #[.int .i64 lim, .int .i64 lim] (.tuple #[.agg (numC L), .bool oL])))
  (_KLess : Hid (Gv_ 80 #[.agg (numC L), .agg (numC z)] (.bool false)))
  (_hq : ∀ w, (binOp .eql 26 (.agg (numC z)) (.agg #[.int .u64 0, .int .u64 0, .int .u64 0, .int .u64 0])).run Tryz.prog w = .ok (.bool true) w)
  (_KE : Hid (Gv_ 126 #[.agg (numC 1)] (.int .i64 en))) (w : World), Ca_ 105 #[.agg (prA p), .int .i64 b, .int .i64 fr, .int .i64 to'] w (.int .i64 en)) := by
 refine ⟨fun p hz b fr to' lim e0 t en ivl spc e1 e2 z L oL sn s4 s16 f1 f3 f4 f5 d f2 t1 t2 KT KG KS KL KLess hq KE w => ?_,
  fun p hz b fr to' lim e0 t en ivl spc e1 e2 z L oL sn s4 s16 f1 f3 f4 f5 tk f2 t1 t2 KT KG KS KL KLess hq KE w => ?_,
  fun p hz b fr to' lim e0 t en ivl spc e1 e2 z L oL sn s4 s16 f1 f3 f4 f5 dn f2 t1 t2 KT KG KS KL KLess hq KE w => ?_⟩
 all_goals
  have hP_z := hz
  go_enter Tryz.func105, Tryz.ntmps105
  go_upto_region 1 with fail
  generalize hw0 : World.alloc _ _ = v0
  have hbel : Below w.heap.size w v0 := by rw [← hw0]; exact (Below.refl _ _).alloc (by simp <;> omega) _
  have hP : PrAt v0 (w.heap.size) p := by rw [← hw0]; exact Has.new _ _
  clear hw0
  have c0 := hP.c0 e0
  have c1 := hP.c1 e1
  have c2 := hP.c2 e2
  go_wp2_with (with_reducible first | refine qh_ rfl _ rfl _ rfl hP hP_z ?_ | refine qf_ (by with_unfolding_all rfl) _ rfl _ rfl hP hP_z ?_)
  refine (KT.out _).mono ?_
  rintro e v1 ⟨rfl, hb1⟩
  replace hP := hP.on hb1
  replace c0 := hP.c0 e0
  replace c1 := hP.c1 e1
  replace c2 := hP.c2 e2
  replace hbel := hbel.trans (hb1.mono hbel.size)
  clear hb1
  go_upto_region 2 with (with_reducible refine qe_ rfl _ _ rfl _ _ rfl rfl _ (Has.newz _) rfl ?_)
  generalize hw2 : World.setRow _ _ _ = v2
  have hb2 : Below v1.heap.size v1 v2 := bw_ hw2
  have hT : Has v2 v1.heap.size (numC t) 26 := by rw [← hw2]; exact (Has.newz _).row _
  replace hP := hP.on hb2
  replace c0 := hP.c0 e0
  replace c1 := hP.c1 e1
  replace c2 := hP.c2 e2
  replace hbel := hbel.trans (hb2.mono hbel.size)
  clear hw2 hb2
  generalize v1.heap.size = b_hT at hT ⊢
  go_wp2_with (with_reducible first | refine qh_ rfl _ rfl _ rfl hP hP_z ?_ | refine qf_ (by with_unfolding_all rfl) _ rfl _ rfl hP hP_z ?_ | refine qb_ rfl _ rfl _ rfl _ hT rfl ?_ | refine qc_ (by with_unfolding_all rfl) _ rfl _ rfl _ hT rfl ?_)
  refine (KG.out _).mono ?_
  rintro e v3 ⟨rfl, hb3⟩
  replace hP := hP.on hb3
  replace hT := hT.on hb3
  replace c0 := hP.c0 e0
  replace c1 := hP.c1 e1
  replace c2 := hP.c2 e2
  replace hbel := hbel.trans (hb3.mono hbel.size)
  clear hb3
  go_wp2_with (with_reducible first | refine qh_ rfl _ rfl _ rfl hP hP_z ?_ | refine qf_ (by with_unfolding_all rfl) _ rfl _ rfl hP hP_z ?_ | refine qb_ rfl _ rfl _ rfl _ hT rfl ?_ | refine qc_ (by with_unfolding_all rfl) _ rfl _ rfl _ hT rfl ?_)
  refine (KS.out _).mono ?_
  rintro e v4 ⟨rfl, hb4⟩
  replace hP := hP.on hb4
  replace hT := hT.on hb4
  replace c0 := hP.c0 e0
  replace c1 := hP.c1 e1
  replace c2 := hP.c2 e2
  replace hbel := hbel.trans (hb4.mono hbel.size)
  clear hb4
  have hbel0 := hbel
  go_upto_region 11 with (with_reducible refine qe_ rfl _ _ rfl _ _ rfl rfl _ (Has.newz _) rfl ?_)
  generalize hw5 : World.setRow _ _ _ = v5
  have hb5 : Below v4.heap.size v4 v5 := bw_ hw5
  have hZ : Has v5 v4.heap.size (numC z) 26 := by rw [← hw5]; exact (Has.newz _).row _
  replace hP := hP.on hb5
  replace hT := hT.on hb5
  replace c0 := hP.c0 e0
  replace c1 := hP.c1 e1
  replace c2 := hP.c2 e2
  replace hbel := hbel.trans (hb5.mono hbel.size)
  clear hw5 hb5
  have HZ : Hid (w.heap.size ≤ v4.heap.size) := Lib.hid hbel0.size
  clear hbel0
  generalize v4.heap.size = b_hZ at hZ HZ ⊢
  go_wp2_with (with_reducible first | refine qh_ rfl _ rfl _ rfl hP hP_z ?_ | refine qf_ (by with_unfolding_all rfl) _ rfl _ rfl hP hP_z ?_ | refine qb_ rfl _ rfl _ rfl _ hT rfl ?_ | refine qc_ (by with_unfolding_all rfl) _ rfl _ rfl _ hT rfl ?_ | refine qb_ rfl _ rfl _ rfl _ hZ rfl ?_ | refine qc_ (by with_unfolding_all rfl) _ rfl _ rfl _ hZ rfl ?_)
  refine (KL.out _).mono ?_
  rintro e v6 ⟨rfl, hb6⟩
  replace hP := hP.on hb6
  replace hT := hT.on hb6
  replace hZ := hZ.on hb6
  replace c0 := hP.c0 e0
  replace c1 := hP.c1 e1
  replace c2 := hP.c2 e2
  replace hbel := hbel.trans (hb6.mono hbel.size)
  clear hb6
  go_upto_region 12 with (with_reducible refine qe_ rfl _ _ rfl _ _ rfl rfl _ (Has.newz _) rfl ?_)
  generalize hw7 : World.setRow _ _ _ = v7
  have hb7 : Below v6.heap.size v6 v7 := bw_ hw7
  have hL : Has v7 v6.heap.size (numC L) 26 := by rw [← hw7]; exact (Has.newz _).row _
  replace hP := hP.on hb7
  replace hT := hT.on hb7
  replace hZ := hZ.on hb7
  replace c0 := hP.c0 e0
  replace c1 := hP.c1 e1
  replace c2 := hP.c2 e2
  replace hbel := hbel.trans (hb7.mono hbel.size)
  clear hw7 hb7
  generalize v6.heap.size = b_hL at hL ⊢
  go_wp2_with (with_reducible first | refine qh_ rfl _ rfl _ rfl hP hP_z ?_ | refine qf_ (by with_unfolding_all rfl) _ rfl _ rfl hP hP_z ?_ | refine qb_ rfl _ rfl _ rfl _ hT rfl ?_ | refine qc_ (by with_unfolding_all rfl) _ rfl _ rfl _ hT rfl ?_ | refine qb_ rfl _ rfl _ rfl _ hZ rfl ?_ | refine qc_ (by with_unfolding_all rfl) _ rfl _ rfl _ hZ rfl ?_ | refine qb_ rfl _ rfl _ rfl _ hL rfl ?_ | refine qc_ (by with_unfolding_all rfl) _ rfl _ rfl _ hL rfl ?_)
  refine (KLess.out _).mono ?_
  rintro e v8 ⟨rfl, hb8⟩
  replace hP := hP.on hb8
  replace hT := hT.on hb8
  replace hZ := hZ.on hb8
  replace hL := hL.on hb8
  replace c0 := hP.c0 e0
  replace c1 := hP.c1 e1
  replace c2 := hP.c2 e2
  replace hbel := hbel.trans (hb8.mono hbel.size)
  clear hb8
  go_upto_region 16 with (with_reducible first | refine qh_ rfl _ rfl _ rfl hP hP_z ?_ | refine qf_ (by with_unfolding_all rfl) _ rfl _ rfl hP hP_z ?_ | refine qb_ rfl _ rfl _ rfl _ hT rfl ?_ | refine qc_ (by with_unfolding_all rfl) _ rfl _ rfl _ hT rfl ?_ | refine qb_ rfl _ rfl _ rfl _ hZ rfl ?_ | refine qc_ (by with_unfolding_all rfl) _ rfl _ rfl _ hZ rfl ?_ | refine qb_ rfl _ rfl _ rfl _ hL rfl ?_ | refine qc_ (by with_unfolding_all rfl) _ rfl _ rfl _ hL rfl ?_ | refine qad_ rfl _ _ rfl _ 1 _ rfl rfl one4 _ hZ rfl ?_)
  generalize hw : World.setRow _ _ _ = v_s
  replace hZ : Has v_s b_hZ (numC 1) 26 := by rw [← hw]; exact hZ.row _
  replace hbel : Below w.heap.size w v_s := by rw [← hw]; exact below_setRow hbel HZ.out _
  clear hw
  go_wp2_with (with_reducible first | refine qb_ rfl _ rfl _ rfl _ hZ rfl ?_ | refine qc_ (by with_unfolding_all rfl) _ rfl _ rfl _ hZ rfl ?_)
  refine (KE.out _).mono ?_
  rintro e v9 ⟨rfl, hb9⟩
  replace hZ := hZ.on hb9
  replace hbel := hbel.trans (hb9.mono hbel.size)
  clear hb9
  go_wp2_with fail
  go_ret
  exact ⟨rfl, hbel⟩
def rrt (p : Pr) (b d : Int) : Int := if tok b p.lim = true then rt p b d else p.lim
theorem qym_ {p : Pr} {b d : Int} (h : tok b p.lim = true) : rrt p b d = rt p b d := if_pos h
theorem qkh_ (p : Pr) (ho : p.ok) (b fr to' d : Int) (hd : IntKind.i64.wrap (to' - fr) = d) (w : World) :
  Ca_ 105 #[.agg (prA p), .int .i64 b, .int .i64 fr, .int .i64 to'] w (.int .i64 (rrt p b d)) := by
 have hz := qal_ ho
 have KT := fun w => qls_ b p.lim w
 have KG := fun w => qek_ p w
 by_cases h2 : p.good = false
 ·rw [h2] at KG
  have e : rrt p b d = p.lim := by unfold rrt rt; rw [h2, Bool.and_false]; simp
  rw [e]
  exact grp4_.1 p hz b fr to' _ (Lib.hid rfl) _ _ (Lib.hid KT) (Lib.hid KG) w
 rw [Bool.not_eq_false] at h2
 rw [h2] at KG
 by_cases h1 : tok b p.lim = false
 ·rw [h1] at KT
  have e : rrt p b d = p.lim := by unfold rrt; rw [h1]; rfl
  rw [e]
  exact grp4_.2 p hz b fr to' _ (Lib.hid rfl) _ (Lib.hid KT) (Lib.hid KG) w
 rw [Bool.not_eq_false] at h1
 rw [h1] at KT
 obtain ⟨s0, s1, s2⟩ := qlv_ h2
 have hbb := qya_ h1
 have e : rrt p b d = if tg p.lim p.lim < p.anew b d then p.lim else (Nm.enc (max 1 (p.anew b d)) : Nat) := by unfold rrt rt; rw [h1, hbb, h2]; rfl
 rw [e]
 have ha : p.anew b d = tg b p.lim * tk p.should d / p.should := by
  show tg b b * tk p.should d / p.should = _
  rw [tg_yes hbb, tg_yes h1]
 obtain ⟨sn, hsn⟩ : ∃ sn, sn = p.should := ⟨_, rfl⟩
 rw [← hsn] at s0 s1 s2 ha
 have htk := tk_le sn d
 have hti := tk_int sn d
 have htb := tg_lt b p.lim
 have KL := fun w => qls_ p.lim p.lim w
 have hL := tg_lt p.lim p.lim
 have f1 : IntKind.i64.wrap (p.ivl * p.spc) = (sn : Int) := by rw [← s2, IntKind.wrap_i64]; omega
 have f4 : IntKind.i64.wrap ((sn : Int) * 4) = ((sn * 4 : Nat) : Int) := by rw [IntKind.wrap_i64]; omega
 have f5 : IntKind.i64.wrap ((sn / 4 : Nat) : Int) = ((sn / 4 : Nat) : Int) := by rw [IntKind.wrap_i64]; omega
 have f3 : (sn : Int) / 4 = ((sn / 4 : Nat) : Int) := by omega
 generalize p.anew b d = q at *
 by_cases c1 : d < ((sn / 4 : Nat) : Int)
 ·have htk2 : tk sn d = sn / 4 := by omega
  rw [htk2] at ha
  have KS := fun w => rscaled (tg b p.lim) (sn / 4) sn htb (by omega) s0 (by omega) w
  rw [← ha] at KS
  have t2 : ¬ sn * 4 < sn / 4 := by omega
  by_cases h3 : q < Nm.big
  ·rw [decide_eq_true h3, Nat.mod_eq_of_lt h3] at KS
   by_cases h4 : tg p.lim p.lim < q
   ·rw [if_pos h4]
    exact grp6_.1 p hz b fr to' _ (Lib.hid rfl) _ _ _ (Lib.hid rfl) (Lib.hid rfl) _ _ _ sn _ _ f1 f3 f4 f5 d hd (decide_eq_true c1) t2 (Lib.hid KT) (Lib.hid KG) (Lib.hid KS) (Lib.hid KL) (Lib.hid fun w => by have := qdk_ _ q hL h3 w; rwa [decide_eq_true h4] at this) w
   ·rw [if_neg h4]
    have KLs : Gv_ 80 #[.agg (numC (tg p.lim p.lim)), .agg (numC q)] (.bool false) := fun w => by have := qdk_ _ q hL h3 w; rwa [decide_eq_false h4] at this
    by_cases h5 : q = 0
    ·subst h5
     exact grp8_.1 p hz b fr to' _ (Lib.hid rfl) _ _ _ _ (Lib.hid rfl) (Lib.hid rfl) _ _ _ sn _ _ f1 f3 f4 f5 d hd (decide_eq_true c1) t2 (Lib.hid KT) (Lib.hid KG) (Lib.hid KS) (Lib.hid KL) (Lib.hid KLs) (eql_z 0 h3 true rfl) (Lib.hid (qcq_ 1 (by decide))) w
    ·rw [show max 1 q = q by omega]
     exact grp7_.1 p hz b fr to' _ (Lib.hid rfl) _ _ _ _ (Lib.hid rfl) (Lib.hid rfl) _ _ _ sn _ _ f1 f3 f4 f5 d hd (decide_eq_true c1) t2 (Lib.hid KT) (Lib.hid KG) (Lib.hid KS) (Lib.hid KL) (Lib.hid KLs) (eql_z q h3 false (decide_eq_false h5)) (Lib.hid (qcq_ q h3)) w
  ·rw [decide_eq_false h3] at KS
   rw [if_pos (by omega)]
   exact grp5_.1 p hz b fr to' _ (Lib.hid rfl) _ _ _ (Lib.hid rfl) (Lib.hid rfl) _ _ _ sn _ _ f1 f3 f4 f5 d hd (decide_eq_true c1) t2 (Lib.hid KT) (Lib.hid KG) (Lib.hid KS) (Lib.hid KL) w
 ·obtain ⟨dn, hdn⟩ := Int.eq_ofNat_of_zero_le (show 0 ≤ d by omega)
  subst hdn
  have t1 : ¬ dn < sn / 4 := by omega
  by_cases c2 : sn * 4 < dn
  ·have htk2 : tk sn (dn : Int) = sn * 4 := by omega
   rw [htk2] at ha
   have KS := fun w => rscaled (tg b p.lim) (sn * 4) sn htb (by omega) s0 (by omega) w
   rw [← ha] at KS
   by_cases h3 : q < Nm.big
   ·rw [decide_eq_true h3, Nat.mod_eq_of_lt h3] at KS
    by_cases h4 : tg p.lim p.lim < q
    ·rw [if_pos h4]
     exact grp6_.2.2 p hz b fr to' _ (Lib.hid rfl) _ _ _ (Lib.hid rfl) (Lib.hid rfl) _ _ _ sn _ _ f1 f3 f4 f5 dn hd t1 c2 (Lib.hid KT) (Lib.hid KG) (Lib.hid KS) (Lib.hid KL) (Lib.hid fun w => by have := qdk_ _ q hL h3 w; rwa [decide_eq_true h4] at this) w
    ·rw [if_neg h4]
     have KLs : Gv_ 80 #[.agg (numC (tg p.lim p.lim)), .agg (numC q)] (.bool false) := fun w => by have := qdk_ _ q hL h3 w; rwa [decide_eq_false h4] at this
     by_cases h5 : q = 0
     ·subst h5
      exact grp8_.2.2 p hz b fr to' _ (Lib.hid rfl) _ _ _ _ (Lib.hid rfl) (Lib.hid rfl) _ _ _ sn _ _ f1 f3 f4 f5 dn hd t1 c2 (Lib.hid KT) (Lib.hid KG) (Lib.hid KS) (Lib.hid KL) (Lib.hid KLs) (eql_z 0 h3 true rfl) (Lib.hid (qcq_ 1 (by decide))) w
     ·rw [show max 1 q = q by omega]
      exact grp7_.2.2 p hz b fr to' _ (Lib.hid rfl) _ _ _ _ (Lib.hid rfl) (Lib.hid rfl) _ _ _ sn _ _ f1 f3 f4 f5 dn hd t1 c2 (Lib.hid KT) (Lib.hid KG) (Lib.hid KS) (Lib.hid KL) (Lib.hid KLs) (eql_z q h3 false (decide_eq_false h5)) (Lib.hid (qcq_ q h3)) w
   ·rw [decide_eq_false h3] at KS
    rw [if_pos (by omega)]
    exact grp5_.2.2 p hz b fr to' _ (Lib.hid rfl) _ _ _ (Lib.hid rfl) (Lib.hid rfl) _ _ _ sn _ _ f1 f3 f4 f5 dn hd t1 c2 (Lib.hid KT) (Lib.hid KG) (Lib.hid KS) (Lib.hid KL) w
  ·have htk2 : tk sn (dn : Int) = dn := by omega
   rw [htk2] at ha
   have KS := fun w => rscaled (tg b p.lim) dn sn htb (by omega) s0 (by omega) w
   rw [← ha] at KS
   by_cases h3 : q < Nm.big
   ·rw [decide_eq_true h3, Nat.mod_eq_of_lt h3] at KS
    by_cases h4 : tg p.lim p.lim < q
    ·rw [if_pos h4]
     exact grp6_.2.1 p hz b fr to' _ (Lib.hid rfl) _ _ _ (Lib.hid rfl) (Lib.hid rfl) _ _ _ sn _ _ f1 f3 f4 f5 dn hd t1 c2 (Lib.hid KT) (Lib.hid KG) (Lib.hid KS) (Lib.hid KL) (Lib.hid fun w => by have := qdk_ _ q hL h3 w; rwa [decide_eq_true h4] at this) w
    ·rw [if_neg h4]
     have KLs : Gv_ 80 #[.agg (numC (tg p.lim p.lim)), .agg (numC q)] (.bool false) := fun w => by have := qdk_ _ q hL h3 w; rwa [decide_eq_false h4] at this
     by_cases h5 : q = 0
     ·subst h5
      exact grp8_.2.1 p hz b fr to' _ (Lib.hid rfl) _ _ _ _ (Lib.hid rfl) (Lib.hid rfl) _ _ _ sn _ _ f1 f3 f4 f5 dn hd t1 c2 (Lib.hid KT) (Lib.hid KG) (Lib.hid KS) (Lib.hid KL) (Lib.hid KLs) (eql_z 0 h3 true rfl) (Lib.hid (qcq_ 1 (by decide))) w
     ·rw [show max 1 q = q by omega]
      exact grp7_.2.1 p hz b fr to' _ (Lib.hid rfl) _ _ _ _ (Lib.hid rfl) (Lib.hid rfl) _ _ _ sn _ _ f1 f3 f4 f5 dn hd t1 c2 (Lib.hid KT) (Lib.hid KG) (Lib.hid KS) (Lib.hid KL) (Lib.hid KLs) (eql_z q h3 false (decide_eq_false h5)) (Lib.hid (qcq_ q h3)) w
   ·rw [decide_eq_false h3] at KS
    rw [if_pos (by omega)]
    exact grp5_.2.1 p hz b fr to' _ (Lib.hid rfl) _ _ _ (Lib.hid rfl) (Lib.hid rfl) _ _ _ sn _ _ f1 f3 f4 f5 dn hd t1 c2 (Lib.hid KT) (Lib.hid KG) (Lib.hid KS) (Lib.hid KL) w
def rnx (p : Pr) (x : Pt) (own : Int) : Int :=
 if x.h ≤ 0 then p.lim else if starts p.ivl x.h = true then rrt p x.b (IntKind.i64.wrap (x.t - x.f)) else if p.easy = false then x.b else if IntKind.i64.wrap (2 * p.spc) < IntKind.i64.wrap (own - x.t) then p.lim else x.r
theorem qyn_ {p : Pr} {x : Pt} {own : Int} (h : starts p.ivl x.h = true → 0 < x.h → tok x.b p.lim = true) : rnx p x own = nx p x own := by
 unfold rnx nx
 by_cases h0 : x.h ≤ 0
 ·rw [if_pos h0, if_pos h0]
 ·rw [if_neg h0, if_neg h0]
  by_cases h1 : starts p.ivl x.h = true
  ·rw [if_pos h1, if_pos h1, qym_ (h h1 (by omega))]
  ·rw [if_neg h1, if_neg h1]
theorem qtz_ (p : Pr) (xh xb xt xf xr own : Int) (lim : Int) (e0 : Hid (p.lim = lim)) (t0 : decide (xh ≤ 0) = true)  (w : World) :
  Ca_ 79 #[.agg (prA p), .int .i64 xh, .int .i64 xb, .int .i64 xt, .int .i64 xf, .int .i64 xr, .int .i64 own] w (.int .i64 lim) := by
 go_enter Tryz.func79, Tryz.ntmps79
 go_upto_region 1 with fail
 generalize hw0 : World.alloc _ _ = v0
 have hbel : Below w.heap.size w v0 := by rw [← hw0]; exact (Below.refl _ _).alloc (by simp <;> omega) _
 have hP : PrAt v0 (w.heap.size) p := by rw [← hw0]; exact Has.new _ _
 clear hw0
 have c0 := hP.c0 e0
 go_wp2_with (with_reducible first | refine qh_ rfl _ rfl _ rfl hP hP_z ?_ | refine qf_ (by with_unfolding_all rfl) _ rfl _ rfl hP hP_z ?_)
 go_ret
 exact ⟨rfl, hbel⟩
theorem qne_ (p : Pr) (hz : (prA p).size = 83) (xh xb xt xf xr own : Int) (ivl : Int) (e1 : Hid (p.ivl = ivl)) (rb m : Int) (t0 : decide (xh ≤ 0) = false) (ti : decide (0 < ivl) = true) (hne : ¬ ivl = 0) (hm : xh.tmod ivl = m) (tm : (m == 0) = true)
  (KR : Hid (Gv_ 105 #[.agg (prA p), .int .i64 xb, .int .i64 xf, .int .i64 xt] (.int .i64 rb))) (w : World) :
  Ca_ 79 #[.agg (prA p), .int .i64 xh, .int .i64 xb, .int .i64 xt, .int .i64 xf, .int .i64 xr, .int .i64 own] w (.int .i64 rb) := by
 have hP_z := hz
 go_enter Tryz.func79, Tryz.ntmps79
 go_upto_region 1 with fail
 generalize hw0 : World.alloc _ _ = v0
 have hbel : Below w.heap.size w v0 := by rw [← hw0]; exact (Below.refl _ _).alloc (by simp <;> omega) _
 have hP : PrAt v0 (w.heap.size) p := by rw [← hw0]; exact Has.new _ _
 clear hw0
 have c1 := hP.c1 e1
 go_wp2_with (with_reducible first | refine qh_ rfl _ rfl _ rfl hP hP_z ?_ | refine qf_ (by with_unfolding_all rfl) _ rfl _ rfl hP hP_z ?_)
 refine (KR.out _).mono ?_
 rintro e v1 ⟨rfl, hb1⟩
 replace hP := hP.on hb1
 replace c1 := hP.c1 e1
 replace hbel := hbel.trans (hb1.mono hbel.size)
 clear hb1
 go_wp2_with (with_reducible first | refine qh_ rfl _ rfl _ rfl hP hP_z ?_ | refine qf_ (by with_unfolding_all rfl) _ rfl _ rfl hP hP_z ?_)
 go_ret
 exact ⟨rfl, hbel⟩
theorem qki_ (p : Pr) (xh xb xt xf xr own : Int) (ivl : Int) (e1 : Hid (p.ivl = ivl)) (t0 : decide (xh ≤ 0) = false) (ti : decide (0 < ivl) = false) (e4 : Hid (p.easy = false))  (w : World) :
  Ca_ 79 #[.agg (prA p), .int .i64 xh, .int .i64 xb, .int .i64 xt, .int .i64 xf, .int .i64 xr, .int .i64 own] w (.int .i64 xb) := by
 go_enter Tryz.func79, Tryz.ntmps79
 go_upto_region 1 with fail
 generalize hw0 : World.alloc _ _ = v0
 have hbel : Below w.heap.size w v0 := by rw [← hw0]; exact (Below.refl _ _).alloc (by simp <;> omega) _
 have hP : PrAt v0 (w.heap.size) p := by rw [← hw0]; exact Has.new _ _
 clear hw0
 have c1 := hP.c1 e1
 have c4 := hP.c4 e4
 go_wp2_with (with_reducible first | refine qh_ rfl _ rfl _ rfl hP hP_z ?_ | refine qf_ (by with_unfolding_all rfl) _ rfl _ rfl hP hP_z ?_)
 go_ret
 exact ⟨rfl, hbel⟩
theorem qkj_ (p : Pr) (xh xb xt xf xr own : Int) (ivl : Int) (e1 : Hid (p.ivl = ivl)) (t0 : decide (xh ≤ 0) = false) (m : Int) (ti : decide (0 < ivl) = true) (hne : ¬ ivl = 0) (hm : xh.tmod ivl = m) (tm : (m == 0) = false) (e4 : Hid (p.easy = false))  (w : World) :
  Ca_ 79 #[.agg (prA p), .int .i64 xh, .int .i64 xb, .int .i64 xt, .int .i64 xf, .int .i64 xr, .int .i64 own] w (.int .i64 xb) := by
 go_enter Tryz.func79, Tryz.ntmps79
 go_upto_region 1 with fail
 generalize hw0 : World.alloc _ _ = v0
 have hbel : Below w.heap.size w v0 := by rw [← hw0]; exact (Below.refl _ _).alloc (by simp <;> omega) _
 have hP : PrAt v0 (w.heap.size) p := by rw [← hw0]; exact Has.new _ _
 clear hw0
 have c1 := hP.c1 e1
 have c4 := hP.c4 e4
 go_wp2_with (with_reducible first | refine qh_ rfl _ rfl _ rfl hP hP_z ?_ | refine qf_ (by with_unfolding_all rfl) _ rfl _ rfl hP hP_z ?_)
 go_ret
 exact ⟨rfl, hbel⟩
set_option maxHeartbeats 8000000 in
theorem grp9_ : (∀ (p : Pr) (xh xb xt xf xr own : Int) (ivl : Int) (_e1 : Hid (p.ivl = ivl)) (lim : Int) (_e0 : Hid (p.lim = lim)) (_t0 : decide (xh ≤ 0) = false) (_ti : decide (0 < ivl) = false) (_e4 : Hid (p.easy = true)) (spc d2 s2 : Int) (_e2 : Hid (p.spc = spc)) (_g1 : IntKind.i64.wrap (own - xt) = d2) (_g2 : IntKind.i64.wrap (2 * spc) = s2) (_tl : decide (s2 < d2) = true)  (w : World), Ca_ 79 #[.agg (prA p), .int .i64 xh, .int .i64 xb, .int .i64 xt, .int .i64 xf, .int .i64 xr, .int .i64 own] w (.int .i64 lim)) ∧
  (∀ (p : Pr) (xh xb xt xf xr own : Int) (ivl : Int) (_e1 : Hid (p.ivl = ivl)) (lim : Int) (_e0 : Hid (p.lim = lim)) (_t0 : decide (xh ≤ 0) = false) (m : Int) (_ti : decide (0 < ivl) = true) (_hne : ¬ ivl = 0) (_hm : xh.tmod ivl = m) (_tm : (m == 0) = false) (_e4 : Hid (p.easy = true)) (spc d2 s2 : Int) (_e2 : Hid (p.spc = spc)) (_g1 : IntKind.i64.wrap (own - xt) = d2) (_g2 : IntKind.i64.wrap (2 * spc) = s2) (_tl : decide (s2 < d2) = true)  (w : World), Ca_ 79 #[.agg (prA p), .int .i64 xh, .int .i64 xb, .int .i64 xt, .int .i64 xf, .int .i64 xr, .int .i64 own] w (.int .i64 lim)) := by
 refine ⟨fun p xh xb xt xf xr own ivl e1 lim e0 t0 ti e4 spc d2 s2 e2 g1 g2 tl w => ?_,
  fun p xh xb xt xf xr own ivl e1 lim e0 t0 m ti hne hm tm e4 spc d2 s2 e2 g1 g2 tl w => ?_⟩
 all_goals
  go_enter Tryz.func79, Tryz.ntmps79
  go_upto_region 1 with fail
  generalize hw0 : World.alloc _ _ = v0
  have hbel : Below w.heap.size w v0 := by rw [← hw0]; exact (Below.refl _ _).alloc (by simp <;> omega) _
  have hP : PrAt v0 (w.heap.size) p := by rw [← hw0]; exact Has.new _ _
  clear hw0
  have c0 := hP.c0 e0
  have c1 := hP.c1 e1
  have c2 := hP.c2 e2
  have c4 := hP.c4 e4
  go_wp2_with (with_reducible first | refine qh_ rfl _ rfl _ rfl hP hP_z ?_ | refine qf_ (by with_unfolding_all rfl) _ rfl _ rfl hP hP_z ?_)
  go_ret
  exact ⟨rfl, hbel⟩
set_option maxHeartbeats 8000000 in
theorem grp10_ : (∀ (p : Pr) (xh xb xt xf xr own : Int) (ivl : Int) (_e1 : Hid (p.ivl = ivl)) (_t0 : decide (xh ≤ 0) = false) (_ti : decide (0 < ivl) = false) (_e4 : Hid (p.easy = true)) (spc d2 s2 : Int) (_e2 : Hid (p.spc = spc)) (_g1 : IntKind.i64.wrap (own - xt) = d2) (_g2 : IntKind.i64.wrap (2 * spc) = s2) (_tl : decide (s2 < d2) = false)  (w : World), Ca_ 79 #[.agg (prA p), .int .i64 xh, .int .i64 xb, .int .i64 xt, .int .i64 xf, .int .i64 xr, .int .i64 own] w (.int .i64 xr)) ∧
  (∀ (p : Pr) (xh xb xt xf xr own : Int) (ivl : Int) (_e1 : Hid (p.ivl = ivl)) (_t0 : decide (xh ≤ 0) = false) (m : Int) (_ti : decide (0 < ivl) = true) (_hne : ¬ ivl = 0) (_hm : xh.tmod ivl = m) (_tm : (m == 0) = false) (_e4 : Hid (p.easy = true)) (spc d2 s2 : Int) (_e2 : Hid (p.spc = spc)) (_g1 : IntKind.i64.wrap (own - xt) = d2) (_g2 : IntKind.i64.wrap (2 * spc) = s2) (_tl : decide (s2 < d2) = false)  (w : World), Ca_ 79 #[.agg (prA p), .int .i64 xh, .int .i64 xb, .int .i64 xt, .int .i64 xf, .int .i64 xr, .int .i64 own] w (.int .i64 xr)) := by
 refine ⟨fun p xh xb xt xf xr own ivl e1 t0 ti e4 spc d2 s2 e2 g1 g2 tl w => ?_,
  fun p xh xb xt xf xr own ivl e1 t0 m ti hne hm tm e4 spc d2 s2 e2 g1 g2 tl w => ?_⟩
 all_goals
  go_enter Tryz.func79, Tryz.ntmps79
  go_upto_region 1 with fail
  generalize hw0 : World.alloc _ _ = v0
  have hbel : Below w.heap.size w v0 := by rw [← hw0]; exact (Below.refl _ _).alloc (by simp <;> omega) _
  have hP : PrAt v0 (w.heap.size) p := by rw [← hw0]; exact Has.new _ _
  clear hw0
  have c1 := hP.c1 e1
  have c2 := hP.c2 e2
  have c4 := hP.c4 e4
  go_wp2_with (with_reducible first | refine qh_ rfl _ rfl _ rfl hP hP_z ?_ | refine qf_ (by with_unfolding_all rfl) _ rfl _ rfl hP hP_z ?_)
  go_ret
  exact ⟨rfl, hbel⟩
theorem qyo_ (p : Pr) (ho : p.ok) (x : Pt) (own : Int) (w : World) : Ca_ 79 #[.agg (prA p), .int .i64 x.h, .int .i64 x.b, .int .i64 x.t, .int .i64 x.f, .int .i64 x.r, .int .i64 own] w (.int .i64 (rnx p x own)) := by
 have hz := qal_ ho
 obtain ⟨xh, xb, xt, xf, xr⟩ := x
 unfold rnx
 simp only
 by_cases h0 : xh ≤ 0
 ·rw [if_pos h0]
  exact qtz_ p xh xb xt xf xr own _ (Lib.hid rfl) (decide_eq_true h0) w
 rw [if_neg h0]
 have t0 : decide (xh ≤ 0) = false := decide_eq_false h0
 by_cases h1 : starts p.ivl xh = true
 ·rw [if_pos h1]
  unfold starts at h1
  simp only [Bool.and_eq_true, decide_eq_true_eq] at h1
  exact qne_ p hz xh xb xt xf xr own _ (Lib.hid rfl) _ _ t0 (decide_eq_true h1.1) (by omega) rfl h1.2 (Lib.hid (qkh_ p ho xb xf xt _ rfl)) w
 rw [if_neg h1]
 have hs : decide (0 < p.ivl) = false ∨ (decide (0 < p.ivl) = true ∧ (xh.tmod p.ivl == 0) = false) := by
  unfold starts at h1
  cases hd : decide (0 < p.ivl)
  ·exact .inl rfl
  ·refine .inr ⟨rfl, ?_⟩
   rw [hd, Bool.true_and] at h1
   simpa using h1
 rcases hs with hs | ⟨hs, hm⟩
 ·by_cases h2 : p.easy = false
  ·rw [if_pos h2]
   exact qki_ p xh xb xt xf xr own _ (Lib.hid rfl) t0 hs (Lib.hid h2) w
  ·rw [if_neg h2]
   have h2' : p.easy = true := by simpa using h2
   by_cases h3 : IntKind.i64.wrap (2 * p.spc) < IntKind.i64.wrap (own - xt)
   ·rw [if_pos h3]
    exact grp9_.1 p xh xb xt xf xr own _ (Lib.hid rfl) _ (Lib.hid rfl) t0 hs (Lib.hid h2') _ _ _ (Lib.hid rfl) rfl rfl (decide_eq_true h3) w
   ·rw [if_neg h3]
    exact grp10_.1 p xh xb xt xf xr own _ (Lib.hid rfl) t0 hs (Lib.hid h2') _ _ _ (Lib.hid rfl) rfl rfl (decide_eq_false h3) w
 ·have hne : ¬ p.ivl = 0 := by have := of_decide_eq_true hs; omega
  by_cases h2 : p.easy = false
  ·rw [if_pos h2]
   exact qkj_ p xh xb xt xf xr own _ (Lib.hid rfl) t0 _ hs hne rfl hm (Lib.hid h2) w
  ·rw [if_neg h2]
   have h2' : p.easy = true := by simpa using h2
   by_cases h3 : IntKind.i64.wrap (2 * p.spc) < IntKind.i64.wrap (own - xt)
   ·rw [if_pos h3]
    exact grp9_.2 p xh xb xt xf xr own _ (Lib.hid rfl) _ (Lib.hid rfl) t0 _ hs hne rfl hm (Lib.hid h2') _ _ _ (Lib.hid rfl) rfl rfl (decide_eq_true h3) w
   ·rw [if_neg h3]
    exact grp10_.2 p xh xb xt xf xr own _ (Lib.hid rfl) t0 _ hs hne rfl hm (Lib.hid h2') _ _ _ (Lib.hid rfl) rfl rfl (decide_eq_false h3) w
end Go.Proofs.YtkclahiiijfllaaGreatDoor.NN
namespace Go.Proofs.YtkclahiiijfllaaGreatDoor.NN
open Go.RowKit
def tlZ : List Value := .slice none 0 0 :: .slice none 0 0 :: (List.replicate 8 (.int .u64 0) ++ (.int .i64 0 :: (List.replicate 64 (.int .u8 0) ++ [.int .i64 0, .int .i64 0, .int .i64 0])))
def prL : Pr := ⟨545259519, 4, 10, 0, false, tlZ⟩
theorem tlZ_ok (a b c d : Int) (e : Bool) : Pr.ok ⟨a, b, c, d, e, tlZ⟩ := show tlZ.length = 78 from by decide
theorem tlZ_one (a b c d : Int) (e : Bool) : Pr.one ⟨a, b, c, d, e, tlZ⟩ := by
 intro v hv
 simp only [tlZ, List.mem_cons, List.mem_append, List.mem_replicate, List.not_mem_nil, or_false] at hv
 rcases hv with rfl | rfl | ⟨_, rfl⟩ | rfl | ⟨_, rfl⟩ | rfl | rfl | rfl <;> rfl
theorem qyp_ : Tryz.prog.built 32 [(0, .int .i64 545259519), (1, .int .i64 4), (2, .int .i64 10)] = some (prA prL) := by kernel_rfl
section
variable {w : World} {ops : Array Oper} {rest : List Oper} {o o2 o3 : Oper} {a : Act} {Q : Exit → Act → World → Prop}
theorem qyq_ (hgd : o.guard = none) (ho : o.op = .build 32 #[(0, .const (.int .i64 545259519)), (1, .const (.int .i64 4)), (2, .const (.int .i64 10))])
  (hk : wpList Tryz.prog ops Q rest (a.put o.dst (.agg (prA prL))) w) : wpList Tryz.prog ops Q (o :: rest) a w :=
 wpList_plain hgd fun _ hK => by
  unfold Oper.wp execOp
  simp only [ho, Sem.run_bind]
  rw [show (#[(0, .const (.int .i64 545259519)), (1, .const (.int .i64 4)), (2, .const (.int .i64 10))] : Array (Nat × Operand)).map (fun (i, x) => (i, a.eval x)) = #[(0, .int .i64 545259519), (1, .int .i64 4), (2, .int .i64 10)] by simp [Act.eval], run_build w 32 _ _ qyp_]
  exact hK _ _ hk
end
end Go.Proofs.YtkclahiiijfllaaGreatDoor.NN
namespace Go.Proofs.YtkclahiiijfllaaGreatDoor.NN
open Go.RowKit
end Go.Proofs.YtkclahiiijfllaaGreatDoor.NN
