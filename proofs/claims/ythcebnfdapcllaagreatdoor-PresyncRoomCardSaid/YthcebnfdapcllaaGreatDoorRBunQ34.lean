import Derived.Test.YthcebnfdapcllaaGreatDoorRBunQ30
import Derived.Test.YthcebnfdapcllaaGreatDoorRBunQ33
import Derived.Test.YthcebnfdapcllaaGreatDoorRBunQ28
import Derived.Test.YthcebnfdapcllaaGreatDoorRBunQ27
import Derived.Test.YthcebnfdapcllaaGreatDoorRBunQ31
import Derived.Test.YthcebnfdapcllaaGreatDoorRBunQ29
namespace Go.Proofs.YthcebnfdapcllaaGreatDoor.NN
open Go.RowKit Rg2
def Turned (k O x y : Nat) (l : Array Bool) (w : World) : Prop := (l.getD k false = false → Has w O (numC x) 26) ∧ (l.getD k false = true → Has w O (numC y) 26)
theorem Turned.now {k O x y i : Nat} {l : Array Bool} {w : World} (h : Turned k O x y l w) (hi : i < l.size) (hik : i ≠ k) (ha : (l.setIfInBounds i true).getD k false = false) : Has w O (numC x) 26 :=
  h.1 (by rw [getD_set _ _ _ hi, if_neg hik] at ha; exact ha)
theorem Turned.pre {k O x y i : Nat} {l : Array Bool} {w w' : World} (h : Turned k O x y l w) (hi : i < l.size) (hik : i ≠ k) (ha : (l.setIfInBounds i true).getD k false = false) (hw : Has w O (numC x) 26 → Has w' O (numC x) 26) : Turned k O x y (l.setIfInBounds i true) w' :=
  ⟨fun _ => hw (h.now hi hik ha), fun hk => by rw [ha] at hk; cases hk⟩
theorem Turned.keep {k O x y i : Nat} {l : Array Bool} {w : World} (h : Turned k O x y l w) (hi : i < l.size) (hik : i ≠ k) : Turned k O x y (l.setIfInBounds i true) w :=
  ⟨fun hk => h.1 (by rw [getD_set _ _ _ hi, if_neg hik] at hk; exact hk), fun hk => h.2 (by rw [getD_set _ _ _ hi, if_neg hik] at hk; exact hk)⟩
theorem frame_back (a : Act) (n : Nat) (u : Nat → Value) (hs : a.tmps.size = n) (hd : a.defers = []) (hu : ∀ t, u t = a.eval (.tmp t)) : a = ⟨((List.range n).map u).toArray, []⟩ := by
  obtain ⟨tm, df⟩ := a
  obtain rfl : df = [] := hd
  congr 1
  apply Array.ext
  · simpa using hs
  · intro i h1 h2
    simp only [List.getElem_toArray, List.getElem_map, List.getElem_range, hu]
    simp [Act.eval, Array.getD_eq_getD_getElem?, h1]
structure ScC (w wr : World) (R : Nat) : Prop where
  below : Below w.heap.size w wr
  r : Has wr R (numC 0) 26
theorem ScC.on {w wr w' : World} {R : Nat} (h : ScC w wr R) (hb : Below wr.heap.size wr w') : ScC w w' R := ⟨h.below.trans (hb.mono h.below.size), h.r.on hb⟩
def scR (o1 r a m1 b m s : Nat) (g2 : Bool) : Nat → Value → Prop
  | 0, v => v = .agg (numC o1)
  | 1, v => v = .int .u64 (r : Int)
  | 2, v => v = .int .u64 (a : Int)
  | 3, v => v = .int .u64 (m1 : Int)
  | 4, v => v = .int .u64 (b : Int)
  | 5, v => v = .int .u64 (m : Int)
  | 6, v => v = .agg (numC m)
  | 7, v => v = .tuple #[.agg (numC s), .bool g2]
  | 8, v => v = .tuple #[.agg (numC s), .bool g2]
  | 9, v => v = .agg (numC s)
  | 10, v => v = .bool g2
  | 12, v => v = .bool g2
  | _, _ => True
set_option maxRecDepth 100000 in
set_option maxHeartbeats 2000000 in
theorem scaled_true (n c b q r o1 m1 m s : Nat) (g2 : Bool) (f1 : IntKind.u64.wrap ((r : Int) * (c : Int)) = (m1 : Int)) (f2 : IntKind.u64.wrap ((m1 : Int) / (b : Int)) = (m : Int)) (f3 : (b : Int) ≠ 0)
    (KO : Hid (∀ w, Calls Tryz.prog 146 #[.agg (numC n), .int .u64 (b : Int)] w fun e w' => e = .returned (.tuple #[.agg (numC q), .int .u64 (r : Int)]) ∧ Below w.heap.size w w'))
    (KT : Hid (∀ w, Calls Tryz.prog 147 #[.agg (numC q), .int .u64 (c : Int)] w fun e w' => e = .returned (.tuple #[.agg (numC o1), .bool true]) ∧ Below w.heap.size w w'))
    (KF : Hid (∀ w, Calls Tryz.prog 121 #[.int .u64 (m : Int)] w fun e w' => e = .returned (.agg (numC m)) ∧ Below w.heap.size w w'))
    (KA : Hid (∀ w, Calls Tryz.prog 118 #[.agg (numC o1), .agg (numC m)] w fun e w' => e = .returned (.tuple #[.agg (numC s), .bool g2]) ∧ Below w.heap.size w w')) (w : World) :
    Calls Tryz.prog 129 #[.agg (numC n), .int .u64 (c : Int), .int .u64 (b : Int)] w fun e w' => e = .returned (.tuple #[.agg (numC s), .bool true]) ∧ Below w.heap.size w w' := by
  go_enter Tryz.func129, Tryz.ntmps129
  go_upto_region 1 with fail
  generalize hw0 : World.alloc _ _ = v0
  have hbel : Below w.heap.size w v0 := by rw [← hw0]; exact ((Below.refl _ _).alloc (by first | exact Nat.le_refl _ | (simp; done) | (simp; omega)) _).alloc (by first | exact Nat.le_refl _ | (simp; done) | (simp; omega)) _
  have hN : Has v0 (w.heap.size) (numC n) 26 := by rw [← hw0]; exact (Has.new _ _).alloc _
  have hR : Has v0 (w.heap.size + 1) (numC 0) 26 := by rw [← hw0]; exact Has.new1 _ (numC 0) _
  have hR_le : Hid (w.heap.size ≤ w.heap.size + 1) := Lib.hid (by omega)
  clear hw0
  generalize hg1 : w.heap.size + 1 = b_hR at hR hR_le ⊢
  clear hg1
  go_wp2_with (first | fail | (with_reducible refine num_load rfl _ rfl _ rfl _ hN rfl ?_) | (with_reducible refine num_load rfl _ rfl _ rfl _ hR rfl ?_))
  refine (KO.out _).mono ?_
  rintro e v1 ⟨rfl, hb1⟩
  replace hN := hN.on hb1
  replace hR := hR.on hb1
  replace hbel := hbel.trans (hb1.mono hbel.size)
  clear hb1
  go_upto_region 2 with (with_reducible refine num_store rfl _ _ rfl _ _ rfl rfl _ (Has.newz _) rfl ?_)
  generalize hw2 : World.setRow _ _ _ = v2
  have hb2 : Below v1.heap.size v1 v2 := by rw [← hw2]; exact below_setRow ((Below.refl _ _).alloc (Nat.le_refl _) _) (Nat.le_refl _) _
  have hQ : Has v2 v1.heap.size (numC q) 26 := by rw [← hw2]; exact (Has.newz _).row _
  replace hN := hN.on hb2
  replace hR := hR.on hb2
  replace hbel := hbel.trans (hb2.mono hbel.size)
  clear hw2 hb2
  generalize v1.heap.size = b_hQ at hQ ⊢
  go_wp2_with (first | fail | (with_reducible refine num_load rfl _ rfl _ rfl _ hN rfl ?_) | (with_reducible refine num_load rfl _ rfl _ rfl _ hR rfl ?_) | (with_reducible refine num_load rfl _ rfl _ rfl _ hQ rfl ?_))
  refine (KT.out _).mono ?_
  rintro e v3 ⟨rfl, hb3⟩
  replace hN := hN.on hb3
  replace hR := hR.on hb3
  replace hQ := hQ.on hb3
  replace hbel := hbel.trans (hb3.mono hbel.size)
  clear hb3
  have hbel0 := hbel
  have hRlt := hR.lt
  go_upto_region 3 with (with_reducible refine num_store rfl _ _ rfl _ _ rfl rfl _ (Has.newz _) rfl ?_)
  generalize hw4 : World.setRow _ _ _ = v4
  have hb4 : Below v3.heap.size v3 v4 := by rw [← hw4]; exact below_setRow ((Below.refl _ _).alloc (Nat.le_refl _) _) (Nat.le_refl _) _
  have hO : Has v4 v3.heap.size (numC o1) 26 := by rw [← hw4]; exact (Has.newz _).row _
  replace hN := hN.on hb4
  replace hR := hR.on hb4
  replace hQ := hQ.on hb4
  replace hbel := hbel.trans (hb4.mono hbel.size)
  clear hw4 hb4
  have HOle : Hid (w.heap.size ≤ v3.heap.size) := Lib.hid hbel0.size
  have hne : Hid (b_hR ≠ v3.heap.size) := Lib.hid (by have := hRlt; omega)
  clear hbel0 hRlt
  generalize v3.heap.size = b_hO at hO HOle hne ⊢
  have hT : ScC w v4 b_hR := ⟨hbel, hR⟩
  refine Rg2.wp_region_inv (by kernel_rfl) (fun w' => ScC w w' b_hR) (fun i v _ => scR o1 r c m1 b m s g2 i v) (fun l _ w' => Turned 11 b_hO o1 s l w') (fun _ _ => True) (fun _ _ => trivial) (fun _ _ _ _ _ _ h => h) (by kernel_rfl) ⟨hT.below.drew, hT.r.drew⟩ ?_ ?_ ?_
  · exact fun l hl => ⟨fun _ => hO.drew, fun hk => (by rw [hl] at hk; cases hk)⟩
  · intro i o listed a wx ho hn hdep hinv
    have hC := hinv.c
    have hI := hinv.i
    have hi : i < 13 := (Array.getElem?_eq_some_iff.1 ho).1
    obtain rfl | rfl | rfl | rfl | rfl | rfl | rfl | rfl | rfl | rfl | rfl | rfl | rfl : i = 0 ∨ i = 1 ∨ i = 2 ∨ i = 3 ∨ i = 4 ∨ i = 5 ∨ i = 6 ∨ i = 7 ∨ i = 8 ∨ i = 9 ∨ i = 10 ∨ i = 11 ∨ i = 12 := by omega
    all_goals obtain rfl := Option.some.inj ho
    · exact duty_value (C := fun w' => ScC w w' b_hR) (S := fun _ _ => True) (R := fun v _ => scR o1 r c m1 b m s g2 0 v) (J := fun _ w' => Turned 11 b_hO o1 s (listed.setIfInBounds 0 true) w') (fun _ _ => trivial) hC (wanted_free rfl) (ex_load_num rfl (hinv.old' 10 (by kernel_rfl)) (hI.now (by rw [hinv.size]; decide) (by decide) (hinv.aheadT 8 (by kernel_rfl) hn (by decide) (by decide)))) rfl (hI.pre (by rw [hinv.size]; decide) (by decide) (hinv.aheadT 8 (by kernel_rfl) hn (by decide) (by decide)) (fun h => h))
    · exact duty_value (C := fun w' => ScC w w' b_hR) (S := fun _ _ => True) (R := fun v _ => scR o1 r c m1 b m s g2 1 v) (J := fun _ w' => Turned 11 b_hO o1 s (listed.setIfInBounds 1 true) w') (fun _ _ => trivial) hC (wanted_free rfl) (ex_move rfl) (hinv.old' 9 (by kernel_rfl)) (hI.pre (by rw [hinv.size]; decide) (by decide) (hinv.aheadT 8 (by kernel_rfl) hn (by decide) (by decide)) (fun h => h))
    · exact duty_value (C := fun w' => ScC w w' b_hR) (S := fun _ _ => True) (R := fun v _ => scR o1 r c m1 b m s g2 2 v) (J := fun _ w' => Turned 11 b_hO o1 s (listed.setIfInBounds 2 true) w') (fun _ _ => trivial) hC (wanted_free rfl) (ex_move rfl) (hinv.old' 1 (by kernel_rfl)) (hI.pre (by rw [hinv.size]; decide) (by decide) (hinv.aheadT 8 (by kernel_rfl) hn (by decide) (by decide)) (fun h => h))
    · exact duty_value (C := fun w' => ScC w w' b_hR) (S := fun _ _ => True) (R := fun v _ => scR o1 r c m1 b m s g2 3 v) (J := fun _ w' => Turned 11 b_hO o1 s (listed.setIfInBounds 3 true) w') (fun _ _ => trivial) hC (wanted_free rfl) (ex_mul64 rfl (hinv.got 1 _ 27 rfl (hdep ⟨1, .data⟩ (by simp) rfl) rfl) (hinv.got 2 _ 28 rfl (hdep ⟨2, .data⟩ (by simp) rfl) rfl) (m1 : Int) f1) rfl (hI.pre (by rw [hinv.size]; decide) (by decide) (hinv.aheadT 8 (by kernel_rfl) hn (by decide) (by decide)) (fun h => h))
    · exact duty_value (C := fun w' => ScC w w' b_hR) (S := fun _ _ => True) (R := fun v _ => scR o1 r c m1 b m s g2 4 v) (J := fun _ w' => Turned 11 b_hO o1 s (listed.setIfInBounds 4 true) w') (fun _ _ => trivial) hC (wanted_free rfl) (ex_move rfl) (hinv.old' 2 (by kernel_rfl)) (hI.pre (by rw [hinv.size]; decide) (by decide) (hinv.aheadT 8 (by kernel_rfl) hn (by decide) (by decide)) (fun h => h))
    · exact duty_value (C := fun w' => ScC w w' b_hR) (S := fun _ _ => True) (R := fun v _ => scR o1 r c m1 b m s g2 5 v) (J := fun _ w' => Turned 11 b_hO o1 s (listed.setIfInBounds 5 true) w') (fun _ _ => trivial) hC (wanted_free rfl) (ex_quo64 rfl (hinv.got 3 _ 29 rfl (hdep ⟨3, .data⟩ (by simp) rfl) rfl) (hinv.got 4 _ 30 rfl (hdep ⟨4, .data⟩ (by simp) rfl) rfl) f3 (m : Int) f2) rfl (hI.pre (by rw [hinv.size]; decide) (by decide) (hinv.aheadT 8 (by kernel_rfl) hn (by decide) (by decide)) (fun h => h))
    · have e31 : a.eval (.tmp 31) = .int .u64 (m : Int) := hinv.got 5 _ 31 rfl (hdep ⟨5, .data⟩ (by simp) rfl) rfl
      exact duty_call (C := fun w' => ScC w w' b_hR) (S := fun _ _ => True) (R := fun v _ => scR o1 r c m1 b m s g2 6 v) (J := fun _ w' => Turned 11 b_hO o1 s (listed.setIfInBounds 6 true) w') (wanted_free rfl) (f := 121) (args := #[a.eval (.tmp 31)]) (by kernel_rfl) (by rw [e31]; exact KF.out wx) (fun w' hb => ⟨hC.on hb, trivial, rfl, hI.pre (by rw [hinv.size]; decide) (by decide) (hinv.aheadT 8 (by kernel_rfl) hn (by decide) (by decide)) (fun h => h.on hb)⟩)
    · have e26 : a.eval (.tmp 26) = .agg (numC o1) := hinv.got 0 _ 26 rfl (hdep ⟨0, .data⟩ (by simp) rfl) rfl
      have e32 : a.eval (.tmp 32) = .agg (numC m) := hinv.got 6 _ 32 rfl (hdep ⟨6, .data⟩ (by simp) rfl) rfl
      exact duty_call (C := fun w' => ScC w w' b_hR) (S := fun _ _ => True) (R := fun v _ => scR o1 r c m1 b m s g2 7 v) (J := fun _ w' => Turned 11 b_hO o1 s (listed.setIfInBounds 7 true) w') (wanted_free rfl) (f := 118) (args := #[a.eval (.tmp 26), a.eval (.tmp 32)]) (by kernel_rfl) (by rw [e26, e32]; exact KA.out wx) (fun w' hb => ⟨hC.on hb, trivial, rfl, hI.pre (by rw [hinv.size]; decide) (by decide) (hinv.aheadT 8 (by kernel_rfl) hn (by decide) (by decide)) (fun h => h.on hb)⟩)
    · exact duty_value (C := fun w' => ScC w w' b_hR) (S := fun _ _ => True) (R := fun v _ => scR o1 r c m1 b m s g2 8 v) (J := fun _ w' => Turned 11 b_hO o1 s (listed.setIfInBounds 8 true) w') (fun _ _ => trivial) hC (wanted_free rfl) (ex_move rfl) (hinv.got 7 _ 33 rfl (hdep ⟨7, .data⟩ (by simp) rfl) rfl) (hI.pre (by rw [hinv.size]; decide) (by decide) (hinv.aheadT 8 (by kernel_rfl) hn (by decide) (by decide)) (fun h => h))
    · exact duty_value (C := fun w' => ScC w w' b_hR) (S := fun _ _ => True) (R := fun v _ => scR o1 r c m1 b m s g2 9 v) (J := fun _ w' => Turned 11 b_hO o1 s (listed.setIfInBounds 9 true) w') (fun _ _ => trivial) hC (wanted_free rfl) (ex_extract rfl (hinv.got 8 _ 25 rfl (hdep ⟨8, .data⟩ (by simp) rfl) rfl) rfl) rfl (hI.pre (by rw [hinv.size]; decide) (by decide) (hinv.aheadT 8 (by kernel_rfl) hn (by decide) (by decide)) (fun h => h))
    · exact duty_value (C := fun w' => ScC w w' b_hR) (S := fun _ _ => True) (R := fun v _ => scR o1 r c m1 b m s g2 10 v) (J := fun _ w' => Turned 11 b_hO o1 s (listed.setIfInBounds 10 true) w') (fun _ _ => trivial) hC (wanted_free rfl) (ex_extract rfl (hinv.got 8 _ 25 rfl (hdep ⟨8, .data⟩ (by simp) rfl) rfl) rfl) rfl (hI.keep (by rw [hinv.size]; decide) (by decide))
    · have hO := hI.1 (by exact hn)
      exact duty_store (C := fun w' => ScC w w' b_hR) (S := fun _ _ => True) (R := fun v _ => scR o1 r c m1 b m s g2 11 v) (J := fun _ w' => Turned 11 b_hO o1 s (listed.setIfInBounds 11 true) w') (wanted_free rfl) (ex_store_num rfl (hinv.old' 10 (by kernel_rfl)) (hinv.got 9 _ 34 rfl (hdep ⟨9, .data⟩ (by simp) rfl) rfl) hO rfl) ⟨below_setRow hC.below HOle.out _, hC.r.otherRow _ _ hne.out⟩ trivial trivial ⟨fun hk => (by rw [getD_set _ _ _ (by rw [hinv.size]; decide), if_pos rfl] at hk; cases hk), fun _ => hO.row _⟩
    · exact duty_value (C := fun w' => ScC w w' b_hR) (S := fun _ _ => True) (R := fun v _ => scR o1 r c m1 b m s g2 12 v) (J := fun _ w' => Turned 11 b_hO o1 s (listed.setIfInBounds 12 true) w') (fun _ _ => trivial) hC (wanted_free rfl) (ex_assign rfl) (hinv.got 10 _ 35 rfl (hdep ⟨10, .data⟩ (by simp) rfl) rfl) (hI.keep (by rw [hinv.size]; decide) (by decide))
  · intro listed a wx hall hinv
    have hC := hinv.c
    have hO2 := hinv.i.2 (hall 11 (by decide))
    have hR2 := hC.r
    have hbel2 := hC.below
    obtain ⟨u, hu⟩ : ∃ u : Nat → Value, ∀ t, u t = a.eval (.tmp t) := ⟨_, fun _ => rfl⟩
    rw [frame_back a 41 u hinv.tsize hinv.defers hu]
    have f0 := hinv.old' 0 (by kernel_rfl)
    have f1 := hinv.old' 1 (by kernel_rfl)
    have f2 := hinv.old' 2 (by kernel_rfl)
    have f3 := hinv.old' 3 (by kernel_rfl)
    have f4 := hinv.old' 4 (by kernel_rfl)
    have f5 := hinv.old' 5 (by kernel_rfl)
    have f6 := hinv.old' 6 (by kernel_rfl)
    have f7 := hinv.old' 7 (by kernel_rfl)
    have f8 := hinv.old' 8 (by kernel_rfl)
    have f9 := hinv.old' 9 (by kernel_rfl)
    have f10 := hinv.old' 10 (by kernel_rfl)
    have f11 := hinv.old' 11 (by kernel_rfl)
    have f13 := hinv.old' 13 (by kernel_rfl)
    have f14 := hinv.old' 14 (by kernel_rfl)
    have f15 := hinv.old' 15 (by kernel_rfl)
    have f16 := hinv.old' 16 (by kernel_rfl)
    have f17 := hinv.old' 17 (by kernel_rfl)
    have f18 := hinv.old' 18 (by kernel_rfl)
    have f19 := hinv.old' 19 (by kernel_rfl)
    have f20 := hinv.old' 20 (by kernel_rfl)
    have f21 := hinv.old' 21 (by kernel_rfl)
    have f22 := hinv.old' 22 (by kernel_rfl)
    have f23 := hinv.old' 23 (by kernel_rfl)
    have f24 := hinv.old' 24 (by kernel_rfl)
    have f36 := hinv.old' 36 (by kernel_rfl)
    have f37 := hinv.old' 37 (by kernel_rfl)
    have f38 := hinv.old' 38 (by kernel_rfl)
    have f39 := hinv.old' 39 (by kernel_rfl)
    have f40 := hinv.old' 40 (by kernel_rfl)
    have f12 := hinv.got 12 _ 12 rfl (hall 12 (by decide)) rfl
    simp only [← hu] at f0 f1 f2 f3 f4 f5 f6 f7 f8 f9 f10 f11 f12 f13 f14 f15 f16 f17 f18 f19 f20 f21 f22 f23 f24 f36 f37 f38 f39 f40
    simp [Act.eval] at f0 f1 f2 f3 f4 f5 f6 f7 f8 f9 f10 f11 f13 f14 f15 f16 f17 f18 f19 f20 f21 f22 f23 f24 f36 f37 f38 f39 f40
    clear hu hinv hall
    show Exit.then _ _ _ (⟨#[u 0, u 1, u 2, u 3, u 4, u 5, u 6, u 7, u 8, u 9, u 10, u 11, u 12, u 13, u 14, u 15, u 16, u 17, u 18, u 19, u 20, u 21, u 22, u 23, u 24, u 25, u 26, u 27, u 28, u 29, u 30, u 31, u 32, u 33, u 34, u 35, u 36, u 37, u 38, u 39, u 40], []⟩ : Act) _
    rw [f0, f1, f2, f3, f4, f5, f6, f7, f8, f9, f10, f11, f12, f13, f14, f15, f16, f17, f18, f19, f20, f21, f22, f23, f24, f36, f37, f38, f39, f40]
    clear f0 f1 f2 f3 f4 f5 f6 f7 f8 f9 f10 f11 f12 f13 f14 f15 f16 f17 f18 f19 f20 f21 f22 f23 f24 f36 f37 f38 f39 f40
    clear hN hQ hO hR hbel hT hC
    go_wp2_with (first | fail | (with_reducible refine num_load rfl _ rfl _ rfl _ hO2 rfl ?_) | (with_reducible refine num_store rfl _ _ rfl _ _ rfl rfl _ hR2 rfl ?_))
    exact bodyPost_ret (num_results2 Tryz.results129 _ _ _ _ rfl rfl (hR2.row _)) rfl ⟨rfl, below_setRow hbel2 hR_le.out _⟩
set_option maxRecDepth 100000 in
set_option maxHeartbeats 2000000 in
theorem scaled_false (n c b q r o1 m1 m s : Nat) (g2 : Bool) (f1 : IntKind.u64.wrap ((r : Int) * (c : Int)) = (m1 : Int)) (f2 : IntKind.u64.wrap ((m1 : Int) / (b : Int)) = (m : Int)) (f3 : (b : Int) ≠ 0)
    (KO : Hid (∀ w, Calls Tryz.prog 146 #[.agg (numC n), .int .u64 (b : Int)] w fun e w' => e = .returned (.tuple #[.agg (numC q), .int .u64 (r : Int)]) ∧ Below w.heap.size w w'))
    (KT : Hid (∀ w, Calls Tryz.prog 147 #[.agg (numC q), .int .u64 (c : Int)] w fun e w' => e = .returned (.tuple #[.agg (numC o1), .bool false]) ∧ Below w.heap.size w w'))
    (KF : Hid (∀ w, Calls Tryz.prog 121 #[.int .u64 (m : Int)] w fun e w' => e = .returned (.agg (numC m)) ∧ Below w.heap.size w w'))
    (KA : Hid (∀ w, Calls Tryz.prog 118 #[.agg (numC o1), .agg (numC m)] w fun e w' => e = .returned (.tuple #[.agg (numC s), .bool g2]) ∧ Below w.heap.size w w')) (w : World) :
    Calls Tryz.prog 129 #[.agg (numC n), .int .u64 (c : Int), .int .u64 (b : Int)] w fun e w' => e = .returned (.tuple #[.agg (numC s), .bool g2]) ∧ Below w.heap.size w w' := by
  go_enter Tryz.func129, Tryz.ntmps129
  go_upto_region 1 with fail
  generalize hw0 : World.alloc _ _ = v0
  have hbel : Below w.heap.size w v0 := by rw [← hw0]; exact ((Below.refl _ _).alloc (by first | exact Nat.le_refl _ | (simp; done) | (simp; omega)) _).alloc (by first | exact Nat.le_refl _ | (simp; done) | (simp; omega)) _
  have hN : Has v0 (w.heap.size) (numC n) 26 := by rw [← hw0]; exact (Has.new _ _).alloc _
  have hR : Has v0 (w.heap.size + 1) (numC 0) 26 := by rw [← hw0]; exact Has.new1 _ (numC 0) _
  have hR_le : Hid (w.heap.size ≤ w.heap.size + 1) := Lib.hid (by omega)
  clear hw0
  generalize hg1 : w.heap.size + 1 = b_hR at hR hR_le ⊢
  clear hg1
  go_wp2_with (first | fail | (with_reducible refine num_load rfl _ rfl _ rfl _ hN rfl ?_) | (with_reducible refine num_load rfl _ rfl _ rfl _ hR rfl ?_))
  refine (KO.out _).mono ?_
  rintro e v1 ⟨rfl, hb1⟩
  replace hN := hN.on hb1
  replace hR := hR.on hb1
  replace hbel := hbel.trans (hb1.mono hbel.size)
  clear hb1
  go_upto_region 2 with (with_reducible refine num_store rfl _ _ rfl _ _ rfl rfl _ (Has.newz _) rfl ?_)
  generalize hw2 : World.setRow _ _ _ = v2
  have hb2 : Below v1.heap.size v1 v2 := by rw [← hw2]; exact below_setRow ((Below.refl _ _).alloc (Nat.le_refl _) _) (Nat.le_refl _) _
  have hQ : Has v2 v1.heap.size (numC q) 26 := by rw [← hw2]; exact (Has.newz _).row _
  replace hN := hN.on hb2
  replace hR := hR.on hb2
  replace hbel := hbel.trans (hb2.mono hbel.size)
  clear hw2 hb2
  generalize v1.heap.size = b_hQ at hQ ⊢
  go_wp2_with (first | fail | (with_reducible refine num_load rfl _ rfl _ rfl _ hN rfl ?_) | (with_reducible refine num_load rfl _ rfl _ rfl _ hR rfl ?_) | (with_reducible refine num_load rfl _ rfl _ rfl _ hQ rfl ?_))
  refine (KT.out _).mono ?_
  rintro e v3 ⟨rfl, hb3⟩
  replace hN := hN.on hb3
  replace hR := hR.on hb3
  replace hQ := hQ.on hb3
  replace hbel := hbel.trans (hb3.mono hbel.size)
  clear hb3
  have hbel0 := hbel
  have hRlt := hR.lt
  go_upto_region 3 with (with_reducible refine num_store rfl _ _ rfl _ _ rfl rfl _ (Has.newz _) rfl ?_)
  generalize hw4 : World.setRow _ _ _ = v4
  have hb4 : Below v3.heap.size v3 v4 := by rw [← hw4]; exact below_setRow ((Below.refl _ _).alloc (Nat.le_refl _) _) (Nat.le_refl _) _
  have hO : Has v4 v3.heap.size (numC o1) 26 := by rw [← hw4]; exact (Has.newz _).row _
  replace hN := hN.on hb4
  replace hR := hR.on hb4
  replace hQ := hQ.on hb4
  replace hbel := hbel.trans (hb4.mono hbel.size)
  clear hw4 hb4
  have HOle : Hid (w.heap.size ≤ v3.heap.size) := Lib.hid hbel0.size
  have hne : Hid (b_hR ≠ v3.heap.size) := Lib.hid (by have := hRlt; omega)
  clear hbel0 hRlt
  generalize v3.heap.size = b_hO at hO HOle hne ⊢
  have hT : ScC w v4 b_hR := ⟨hbel, hR⟩
  refine Rg2.wp_region_inv (by kernel_rfl) (fun w' => ScC w w' b_hR) (fun i v _ => scR o1 r c m1 b m s g2 i v) (fun l _ w' => Turned 11 b_hO o1 s l w') (fun _ _ => True) (fun _ _ => trivial) (fun _ _ _ _ _ _ h => h) (by kernel_rfl) ⟨hT.below.drew, hT.r.drew⟩ ?_ ?_ ?_
  · exact fun l hl => ⟨fun _ => hO.drew, fun hk => (by rw [hl] at hk; cases hk)⟩
  · intro i o listed a wx ho hn hdep hinv
    have hC := hinv.c
    have hI := hinv.i
    have hi : i < 13 := (Array.getElem?_eq_some_iff.1 ho).1
    obtain rfl | rfl | rfl | rfl | rfl | rfl | rfl | rfl | rfl | rfl | rfl | rfl | rfl : i = 0 ∨ i = 1 ∨ i = 2 ∨ i = 3 ∨ i = 4 ∨ i = 5 ∨ i = 6 ∨ i = 7 ∨ i = 8 ∨ i = 9 ∨ i = 10 ∨ i = 11 ∨ i = 12 := by omega
    all_goals obtain rfl := Option.some.inj ho
    · exact duty_value (C := fun w' => ScC w w' b_hR) (S := fun _ _ => True) (R := fun v _ => scR o1 r c m1 b m s g2 0 v) (J := fun _ w' => Turned 11 b_hO o1 s (listed.setIfInBounds 0 true) w') (fun _ _ => trivial) hC (wanted_free rfl) (ex_load_num rfl (hinv.old' 10 (by kernel_rfl)) (hI.now (by rw [hinv.size]; decide) (by decide) (hinv.aheadT 8 (by kernel_rfl) hn (by decide) (by decide)))) rfl (hI.pre (by rw [hinv.size]; decide) (by decide) (hinv.aheadT 8 (by kernel_rfl) hn (by decide) (by decide)) (fun h => h))
    · exact duty_value (C := fun w' => ScC w w' b_hR) (S := fun _ _ => True) (R := fun v _ => scR o1 r c m1 b m s g2 1 v) (J := fun _ w' => Turned 11 b_hO o1 s (listed.setIfInBounds 1 true) w') (fun _ _ => trivial) hC (wanted_free rfl) (ex_move rfl) (hinv.old' 9 (by kernel_rfl)) (hI.pre (by rw [hinv.size]; decide) (by decide) (hinv.aheadT 8 (by kernel_rfl) hn (by decide) (by decide)) (fun h => h))
    · exact duty_value (C := fun w' => ScC w w' b_hR) (S := fun _ _ => True) (R := fun v _ => scR o1 r c m1 b m s g2 2 v) (J := fun _ w' => Turned 11 b_hO o1 s (listed.setIfInBounds 2 true) w') (fun _ _ => trivial) hC (wanted_free rfl) (ex_move rfl) (hinv.old' 1 (by kernel_rfl)) (hI.pre (by rw [hinv.size]; decide) (by decide) (hinv.aheadT 8 (by kernel_rfl) hn (by decide) (by decide)) (fun h => h))
    · exact duty_value (C := fun w' => ScC w w' b_hR) (S := fun _ _ => True) (R := fun v _ => scR o1 r c m1 b m s g2 3 v) (J := fun _ w' => Turned 11 b_hO o1 s (listed.setIfInBounds 3 true) w') (fun _ _ => trivial) hC (wanted_free rfl) (ex_mul64 rfl (hinv.got 1 _ 27 rfl (hdep ⟨1, .data⟩ (by simp) rfl) rfl) (hinv.got 2 _ 28 rfl (hdep ⟨2, .data⟩ (by simp) rfl) rfl) (m1 : Int) f1) rfl (hI.pre (by rw [hinv.size]; decide) (by decide) (hinv.aheadT 8 (by kernel_rfl) hn (by decide) (by decide)) (fun h => h))
    · exact duty_value (C := fun w' => ScC w w' b_hR) (S := fun _ _ => True) (R := fun v _ => scR o1 r c m1 b m s g2 4 v) (J := fun _ w' => Turned 11 b_hO o1 s (listed.setIfInBounds 4 true) w') (fun _ _ => trivial) hC (wanted_free rfl) (ex_move rfl) (hinv.old' 2 (by kernel_rfl)) (hI.pre (by rw [hinv.size]; decide) (by decide) (hinv.aheadT 8 (by kernel_rfl) hn (by decide) (by decide)) (fun h => h))
    · exact duty_value (C := fun w' => ScC w w' b_hR) (S := fun _ _ => True) (R := fun v _ => scR o1 r c m1 b m s g2 5 v) (J := fun _ w' => Turned 11 b_hO o1 s (listed.setIfInBounds 5 true) w') (fun _ _ => trivial) hC (wanted_free rfl) (ex_quo64 rfl (hinv.got 3 _ 29 rfl (hdep ⟨3, .data⟩ (by simp) rfl) rfl) (hinv.got 4 _ 30 rfl (hdep ⟨4, .data⟩ (by simp) rfl) rfl) f3 (m : Int) f2) rfl (hI.pre (by rw [hinv.size]; decide) (by decide) (hinv.aheadT 8 (by kernel_rfl) hn (by decide) (by decide)) (fun h => h))
    · have e31 : a.eval (.tmp 31) = .int .u64 (m : Int) := hinv.got 5 _ 31 rfl (hdep ⟨5, .data⟩ (by simp) rfl) rfl
      exact duty_call (C := fun w' => ScC w w' b_hR) (S := fun _ _ => True) (R := fun v _ => scR o1 r c m1 b m s g2 6 v) (J := fun _ w' => Turned 11 b_hO o1 s (listed.setIfInBounds 6 true) w') (wanted_free rfl) (f := 121) (args := #[a.eval (.tmp 31)]) (by kernel_rfl) (by rw [e31]; exact KF.out wx) (fun w' hb => ⟨hC.on hb, trivial, rfl, hI.pre (by rw [hinv.size]; decide) (by decide) (hinv.aheadT 8 (by kernel_rfl) hn (by decide) (by decide)) (fun h => h.on hb)⟩)
    · have e26 : a.eval (.tmp 26) = .agg (numC o1) := hinv.got 0 _ 26 rfl (hdep ⟨0, .data⟩ (by simp) rfl) rfl
      have e32 : a.eval (.tmp 32) = .agg (numC m) := hinv.got 6 _ 32 rfl (hdep ⟨6, .data⟩ (by simp) rfl) rfl
      exact duty_call (C := fun w' => ScC w w' b_hR) (S := fun _ _ => True) (R := fun v _ => scR o1 r c m1 b m s g2 7 v) (J := fun _ w' => Turned 11 b_hO o1 s (listed.setIfInBounds 7 true) w') (wanted_free rfl) (f := 118) (args := #[a.eval (.tmp 26), a.eval (.tmp 32)]) (by kernel_rfl) (by rw [e26, e32]; exact KA.out wx) (fun w' hb => ⟨hC.on hb, trivial, rfl, hI.pre (by rw [hinv.size]; decide) (by decide) (hinv.aheadT 8 (by kernel_rfl) hn (by decide) (by decide)) (fun h => h.on hb)⟩)
    · exact duty_value (C := fun w' => ScC w w' b_hR) (S := fun _ _ => True) (R := fun v _ => scR o1 r c m1 b m s g2 8 v) (J := fun _ w' => Turned 11 b_hO o1 s (listed.setIfInBounds 8 true) w') (fun _ _ => trivial) hC (wanted_free rfl) (ex_move rfl) (hinv.got 7 _ 33 rfl (hdep ⟨7, .data⟩ (by simp) rfl) rfl) (hI.pre (by rw [hinv.size]; decide) (by decide) (hinv.aheadT 8 (by kernel_rfl) hn (by decide) (by decide)) (fun h => h))
    · exact duty_value (C := fun w' => ScC w w' b_hR) (S := fun _ _ => True) (R := fun v _ => scR o1 r c m1 b m s g2 9 v) (J := fun _ w' => Turned 11 b_hO o1 s (listed.setIfInBounds 9 true) w') (fun _ _ => trivial) hC (wanted_free rfl) (ex_extract rfl (hinv.got 8 _ 25 rfl (hdep ⟨8, .data⟩ (by simp) rfl) rfl) rfl) rfl (hI.pre (by rw [hinv.size]; decide) (by decide) (hinv.aheadT 8 (by kernel_rfl) hn (by decide) (by decide)) (fun h => h))
    · exact duty_value (C := fun w' => ScC w w' b_hR) (S := fun _ _ => True) (R := fun v _ => scR o1 r c m1 b m s g2 10 v) (J := fun _ w' => Turned 11 b_hO o1 s (listed.setIfInBounds 10 true) w') (fun _ _ => trivial) hC (wanted_free rfl) (ex_extract rfl (hinv.got 8 _ 25 rfl (hdep ⟨8, .data⟩ (by simp) rfl) rfl) rfl) rfl (hI.keep (by rw [hinv.size]; decide) (by decide))
    · have hO := hI.1 (by exact hn)
      exact duty_store (C := fun w' => ScC w w' b_hR) (S := fun _ _ => True) (R := fun v _ => scR o1 r c m1 b m s g2 11 v) (J := fun _ w' => Turned 11 b_hO o1 s (listed.setIfInBounds 11 true) w') (wanted_free rfl) (ex_store_num rfl (hinv.old' 10 (by kernel_rfl)) (hinv.got 9 _ 34 rfl (hdep ⟨9, .data⟩ (by simp) rfl) rfl) hO rfl) ⟨below_setRow hC.below HOle.out _, hC.r.otherRow _ _ hne.out⟩ trivial trivial ⟨fun hk => (by rw [getD_set _ _ _ (by rw [hinv.size]; decide), if_pos rfl] at hk; cases hk), fun _ => hO.row _⟩
    · exact duty_value (C := fun w' => ScC w w' b_hR) (S := fun _ _ => True) (R := fun v _ => scR o1 r c m1 b m s g2 12 v) (J := fun _ w' => Turned 11 b_hO o1 s (listed.setIfInBounds 12 true) w') (fun _ _ => trivial) hC (wanted_free rfl) (ex_assign rfl) (hinv.got 10 _ 35 rfl (hdep ⟨10, .data⟩ (by simp) rfl) rfl) (hI.keep (by rw [hinv.size]; decide) (by decide))
  · intro listed a wx hall hinv
    have hC := hinv.c
    have hO2 := hinv.i.2 (hall 11 (by decide))
    have hR2 := hC.r
    have hbel2 := hC.below
    obtain ⟨u, hu⟩ : ∃ u : Nat → Value, ∀ t, u t = a.eval (.tmp t) := ⟨_, fun _ => rfl⟩
    rw [frame_back a 41 u hinv.tsize hinv.defers hu]
    have f0 := hinv.old' 0 (by kernel_rfl)
    have f1 := hinv.old' 1 (by kernel_rfl)
    have f2 := hinv.old' 2 (by kernel_rfl)
    have f3 := hinv.old' 3 (by kernel_rfl)
    have f4 := hinv.old' 4 (by kernel_rfl)
    have f5 := hinv.old' 5 (by kernel_rfl)
    have f6 := hinv.old' 6 (by kernel_rfl)
    have f7 := hinv.old' 7 (by kernel_rfl)
    have f8 := hinv.old' 8 (by kernel_rfl)
    have f9 := hinv.old' 9 (by kernel_rfl)
    have f10 := hinv.old' 10 (by kernel_rfl)
    have f11 := hinv.old' 11 (by kernel_rfl)
    have f13 := hinv.old' 13 (by kernel_rfl)
    have f14 := hinv.old' 14 (by kernel_rfl)
    have f15 := hinv.old' 15 (by kernel_rfl)
    have f16 := hinv.old' 16 (by kernel_rfl)
    have f17 := hinv.old' 17 (by kernel_rfl)
    have f18 := hinv.old' 18 (by kernel_rfl)
    have f19 := hinv.old' 19 (by kernel_rfl)
    have f20 := hinv.old' 20 (by kernel_rfl)
    have f21 := hinv.old' 21 (by kernel_rfl)
    have f22 := hinv.old' 22 (by kernel_rfl)
    have f23 := hinv.old' 23 (by kernel_rfl)
    have f24 := hinv.old' 24 (by kernel_rfl)
    have f36 := hinv.old' 36 (by kernel_rfl)
    have f37 := hinv.old' 37 (by kernel_rfl)
    have f38 := hinv.old' 38 (by kernel_rfl)
    have f39 := hinv.old' 39 (by kernel_rfl)
    have f40 := hinv.old' 40 (by kernel_rfl)
    have f12 := hinv.got 12 _ 12 rfl (hall 12 (by decide)) rfl
    simp only [← hu] at f0 f1 f2 f3 f4 f5 f6 f7 f8 f9 f10 f11 f12 f13 f14 f15 f16 f17 f18 f19 f20 f21 f22 f23 f24 f36 f37 f38 f39 f40
    simp [Act.eval] at f0 f1 f2 f3 f4 f5 f6 f7 f8 f9 f10 f11 f13 f14 f15 f16 f17 f18 f19 f20 f21 f22 f23 f24 f36 f37 f38 f39 f40
    clear hu hinv hall
    show Exit.then _ _ _ (⟨#[u 0, u 1, u 2, u 3, u 4, u 5, u 6, u 7, u 8, u 9, u 10, u 11, u 12, u 13, u 14, u 15, u 16, u 17, u 18, u 19, u 20, u 21, u 22, u 23, u 24, u 25, u 26, u 27, u 28, u 29, u 30, u 31, u 32, u 33, u 34, u 35, u 36, u 37, u 38, u 39, u 40], []⟩ : Act) _
    rw [f0, f1, f2, f3, f4, f5, f6, f7, f8, f9, f10, f11, f12, f13, f14, f15, f16, f17, f18, f19, f20, f21, f22, f23, f24, f36, f37, f38, f39, f40]
    clear f0 f1 f2 f3 f4 f5 f6 f7 f8 f9 f10 f11 f12 f13 f14 f15 f16 f17 f18 f19 f20 f21 f22 f23 f24 f36 f37 f38 f39 f40
    clear hN hQ hO hR hbel hT hC
    go_wp2_with (first | fail | (with_reducible refine num_load rfl _ rfl _ rfl _ hO2 rfl ?_) | (with_reducible refine num_store rfl _ _ rfl _ _ rfl rfl _ hR2 rfl ?_))
    exact bodyPost_ret (num_results2 Tryz.results129 _ _ _ _ rfl rfl (hR2.row _)) rfl ⟨rfl, below_setRow hbel2 hR_le.out _⟩
theorem scaled_at (n a b : Nat) (hn : n < Nm.big) (ha : a < 4294967296) (hb : b < 4294967296) (h0 : b ≠ 0) (w : World) :
    Calls Tryz.prog 129 #[.agg (numC n), .int .u64 (a : Int), .int .u64 (b : Int)] w fun e w' => e = .returned (.tuple #[.agg (numC (n * a / b % Nm.big)), .bool (decide (Nm.big ≤ n * a / b))]) ∧ Below w.heap.size w w' := by
  have hr : n % b < b := Nat.mod_lt _ (by omega)
  have hm1 : n % b * a < 18446744073709551616 := by
    have := Nat.mul_le_mul (show n % b ≤ 4294967295 by omega) (show a ≤ 4294967295 by omega)
    omega
  have hm : n % b * a / b ≤ n % b * a := Nat.div_le_self _ _
  have KO := fun w => over n b hn (by omega) w
  rw [if_neg h0] at KO
  have hq : n / b < Nm.big := Nat.lt_of_le_of_lt (Nat.div_le_self _ _) hn
  have KT := fun w => times (n / b) a hq (by omega) w
  have KF := fun w => of (n % b * a / b) (by omega) w
  have KA := fun w => add (n / b * a % Nm.big) (n % b * a / b) (Nat.mod_lt _ (by decide)) (by unfold Nm.big; omega) w
  have f1 : IntKind.u64.wrap (((n % b : Nat) : Int) * (a : Int)) = ((n % b * a : Nat) : Int) := by rw [← Int.natCast_mul, IntKind.wrap_u64]; omega
  have f2 : IntKind.u64.wrap (((n % b * a : Nat) : Int) / (b : Int)) = ((n % b * a / b : Nat) : Int) := by 
    rw [← Int.natCast_ediv, IntKind.wrap_u64]
    have h9 := Nat.lt_of_le_of_lt hm hm1
    generalize n % b * a / b = M at h9 ⊢
    omega
  have e1 := parts_quo n a b (by omega)
  have e2 := parts_mod (n / b * a) (n % b * a / b)
  have e3 := parts_over (n / b * a) (n % b * a / b)
  rw [← e1] at e2 e3
  rw [← e2, ← e3]
  by_cases hg : Nm.big ≤ n / b * a
  · rw [decide_eq_true hg] at KT ⊢
    rw [Bool.true_or]
    exact scaled_true n a b _ _ _ _ _ _ _ f1 f2 (by omega) (Lib.hid KO) (Lib.hid KT) (Lib.hid KF) (Lib.hid KA) w
  · rw [decide_eq_false hg] at KT ⊢
    rw [Bool.false_or]
    exact scaled_false n a b _ _ _ _ _ _ _ f1 f2 (by omega) (Lib.hid KO) (Lib.hid KT) (Lib.hid KF) (Lib.hid KA) w
end Go.Proofs.YthcebnfdapcllaaGreatDoor.NN
namespace Go.Proofs.YthcebnfdapcllaaGreatDoor.NN
open Go.RowKit
set_option maxRecDepth 100000 in
set_option maxHeartbeats 2000000 in
theorem ret_none (p : Pr) (hz : (prA p).size = 83) (b fr to' lim : Int) (e0 : Hid (p.lim = lim)) (t : Nat)
    (KT : Hid (∀ w, Calls Tryz.prog 60 #[.int .i64 b, .int .i64 b] w fun e w' => e = .returned (.tuple #[.agg (numC t), .bool false]) ∧ Below w.heap.size w w'))
     (w : World) :
    Calls Tryz.prog 116 #[.agg (prA p), .int .i64 b, .int .i64 fr, .int .i64 to'] w fun e w' => e = .returned (.int .i64 lim) ∧ Below w.heap.size w w' := by
  have hP_z := hz
  go_enter Tryz.func116, Tryz.ntmps116
  go_upto_region 1 with fail
  generalize hw0 : World.alloc _ _ = v0
  have hbel : Below w.heap.size w v0 := by rw [← hw0]; exact (Below.refl _ _).alloc (by first | exact Nat.le_refl _ | (simp; done) | (simp; omega)) _
  have hP : PrAt v0 (w.heap.size) p := by rw [← hw0]; exact Has.new _ _
  clear hw0
  have c0 := hP.c0 e0
  go_wp2_with (first | fail | (with_reducible refine pr_load rfl _ rfl _ rfl hP hP_z ?_) | (with_reducible refine pr_load_g (by with_unfolding_all rfl) _ rfl _ rfl hP hP_z ?_))
  refine (KT.out _).mono ?_
  rintro e v1 ⟨rfl, hb1⟩
  replace hP := hP.on hb1
  replace c0 := hP.c0 e0
  replace hbel := hbel.trans (hb1.mono hbel.size)
  clear hb1
  go_upto_region 2 with (with_reducible refine num_store rfl _ _ rfl _ _ rfl rfl _ (Has.newz _) rfl ?_)
  generalize hw2 : World.setRow _ _ _ = v2
  have hb2 : Below v1.heap.size v1 v2 := by rw [← hw2]; exact below_setRow ((Below.refl _ _).alloc (Nat.le_refl _) _) (Nat.le_refl _) _
  have hT : Has v2 v1.heap.size (numC t) 26 := by rw [← hw2]; exact (Has.newz _).row _
  replace hP := hP.on hb2
  replace c0 := hP.c0 e0
  replace hbel := hbel.trans (hb2.mono hbel.size)
  clear hw2 hb2
  generalize v1.heap.size = b_hT at hT ⊢
  go_wp2_with (first | fail | (with_reducible refine pr_load rfl _ rfl _ rfl hP hP_z ?_) | (with_reducible refine pr_load_g (by with_unfolding_all rfl) _ rfl _ rfl hP hP_z ?_) | (with_reducible refine num_load rfl _ rfl _ rfl _ hT rfl ?_) | (with_reducible refine num_load_g (by with_unfolding_all rfl) _ rfl _ rfl _ hT rfl ?_))
  go_ret
  exact ⟨rfl, hbel⟩
set_option maxRecDepth 100000 in
set_option maxHeartbeats 2000000 in
theorem ret_bad (p : Pr) (hz : (prA p).size = 83) (b fr to' lim : Int) (e0 : Hid (p.lim = lim)) (t : Nat)
    (KT : Hid (∀ w, Calls Tryz.prog 60 #[.int .i64 b, .int .i64 b] w fun e w' => e = .returned (.tuple #[.agg (numC t), .bool true]) ∧ Below w.heap.size w w'))
    (KG : Hid (∀ w, Calls Tryz.prog 40 #[.agg (prA p)] w fun e w' => e = .returned (.bool false) ∧ Below w.heap.size w w'))
     (w : World) :
    Calls Tryz.prog 116 #[.agg (prA p), .int .i64 b, .int .i64 fr, .int .i64 to'] w fun e w' => e = .returned (.int .i64 lim) ∧ Below w.heap.size w w' := by
  have hP_z := hz
  go_enter Tryz.func116, Tryz.ntmps116
  go_upto_region 1 with fail
  generalize hw0 : World.alloc _ _ = v0
  have hbel : Below w.heap.size w v0 := by rw [← hw0]; exact (Below.refl _ _).alloc (by first | exact Nat.le_refl _ | (simp; done) | (simp; omega)) _
  have hP : PrAt v0 (w.heap.size) p := by rw [← hw0]; exact Has.new _ _
  clear hw0
  have c0 := hP.c0 e0
  go_wp2_with (first | fail | (with_reducible refine pr_load rfl _ rfl _ rfl hP hP_z ?_) | (with_reducible refine pr_load_g (by with_unfolding_all rfl) _ rfl _ rfl hP hP_z ?_))
  refine (KT.out _).mono ?_
  rintro e v1 ⟨rfl, hb1⟩
  replace hP := hP.on hb1
  replace c0 := hP.c0 e0
  replace hbel := hbel.trans (hb1.mono hbel.size)
  clear hb1
  go_upto_region 2 with (with_reducible refine num_store rfl _ _ rfl _ _ rfl rfl _ (Has.newz _) rfl ?_)
  generalize hw2 : World.setRow _ _ _ = v2
  have hb2 : Below v1.heap.size v1 v2 := by rw [← hw2]; exact below_setRow ((Below.refl _ _).alloc (Nat.le_refl _) _) (Nat.le_refl _) _
  have hT : Has v2 v1.heap.size (numC t) 26 := by rw [← hw2]; exact (Has.newz _).row _
  replace hP := hP.on hb2
  replace c0 := hP.c0 e0
  replace hbel := hbel.trans (hb2.mono hbel.size)
  clear hw2 hb2
  generalize v1.heap.size = b_hT at hT ⊢
  go_wp2_with (first | fail | (with_reducible refine pr_load rfl _ rfl _ rfl hP hP_z ?_) | (with_reducible refine pr_load_g (by with_unfolding_all rfl) _ rfl _ rfl hP hP_z ?_) | (with_reducible refine num_load rfl _ rfl _ rfl _ hT rfl ?_) | (with_reducible refine num_load_g (by with_unfolding_all rfl) _ rfl _ rfl _ hT rfl ?_))
  refine (KG.out _).mono ?_
  rintro e v3 ⟨rfl, hb3⟩
  replace hP := hP.on hb3
  replace hT := hT.on hb3
  replace c0 := hP.c0 e0
  replace hbel := hbel.trans (hb3.mono hbel.size)
  clear hb3
  go_wp2_with (first | fail | (with_reducible refine pr_load rfl _ rfl _ rfl hP hP_z ?_) | (with_reducible refine pr_load_g (by with_unfolding_all rfl) _ rfl _ rfl hP hP_z ?_) | (with_reducible refine num_load rfl _ rfl _ rfl _ hT rfl ?_) | (with_reducible refine num_load_g (by with_unfolding_all rfl) _ rfl _ rfl _ hT rfl ?_))
  go_ret
  exact ⟨rfl, hbel⟩
set_option maxRecDepth 100000 in
set_option maxHeartbeats 2000000 in
theorem ret_main (p : Pr) (hz : (prA p).size = 83) (b fr to' lim : Int) (e0 : Hid (p.lim = lim)) (t : Nat)
    (ivl spc : Int) (e1 : Hid (p.ivl = ivl)) (e2 : Hid (p.spc = spc)) (z L : Nat) (oL : Bool) (sn s4 s16 : Nat) (d : Int) (f1 : IntKind.i64.wrap (ivl * spc) = (sn : Int)) (f2 : IntKind.i64.wrap (to' - fr) = d) (f3 : (sn : Int) / 4 = (s4 : Int)) (f4 : IntKind.i64.wrap ((sn : Int) * 4) = (s16 : Int)) (f5 : IntKind.i64.wrap (s4 : Int) = (s4 : Int))
    (tk : Nat) (mx : Int) (f6 : mx = max d (s4 : Int)) (f7 : (tk : Int) = min mx (s16 : Int)) (f8 : IntKind.u64.wrap (tk : Int) = (tk : Int)) (f9 : IntKind.u64.wrap (sn : Int) = (sn : Int))
    (so ls zr : Bool) (en res : Int) (HRes : Hid (res = if so = true ∨ ls = true then lim else en))
    (KT : Hid (∀ w, Calls Tryz.prog 60 #[.int .i64 b, .int .i64 b] w fun e w' => e = .returned (.tuple #[.agg (numC t), .bool true]) ∧ Below w.heap.size w w'))
    (KG : Hid (∀ w, Calls Tryz.prog 40 #[.agg (prA p)] w fun e w' => e = .returned (.bool true) ∧ Below w.heap.size w w'))
    (KS : Hid (∀ w, Calls Tryz.prog 129 #[.agg (numC t), .int .u64 (tk : Int), .int .u64 (sn : Int)] w fun e w' => e = .returned (.tuple #[.agg (numC z), .bool so]) ∧ Below w.heap.size w w'))
    (KL : Hid (∀ w, Calls Tryz.prog 60 #[.int .i64 lim, .int .i64 lim] w fun e w' => e = .returned (.tuple #[.agg (numC L), .bool oL]) ∧ Below w.heap.size w w'))
    (KLess : Hid (∀ w, Calls Tryz.prog 73 #[.agg (numC L), .agg (numC z)] w fun e w' => e = .returned (.bool ls) ∧ Below w.heap.size w w'))
    (KZ : Hid (∀ w, Calls Tryz.prog 77 #[.agg (numC z)] w fun e w' => e = .returned (.bool zr) ∧ Below w.heap.size w w'))
    (KO : Hid (∀ w, Calls Tryz.prog 121 #[.int .u64 1] w fun e w' => e = .returned (.agg (numC 1)) ∧ Below w.heap.size w w'))
    (KE : Hid (∀ w, Calls Tryz.prog 130 #[.agg (numC (if zr = true then 1 else z))] w fun e w' => e = .returned (.int .i64 en) ∧ Below w.heap.size w w'))
     (w : World) :
    Calls Tryz.prog 116 #[.agg (prA p), .int .i64 b, .int .i64 fr, .int .i64 to'] w fun e w' => e = .returned (.int .i64 res) ∧ Below w.heap.size w w' := by
  have hP_z := hz
  go_enter Tryz.func116, Tryz.ntmps116
  go_upto_region 1 with fail
  generalize hw0 : World.alloc _ _ = v0
  have hbel : Below w.heap.size w v0 := by rw [← hw0]; exact (Below.refl _ _).alloc (by first | exact Nat.le_refl _ | (simp; done) | (simp; omega)) _
  have hP : PrAt v0 (w.heap.size) p := by rw [← hw0]; exact Has.new _ _
  clear hw0
  have c0 := hP.c0 e0
  have c1 := hP.c1 e1
  have c2 := hP.c2 e2
  go_wp2_with (first | fail | (with_reducible refine pr_load rfl _ rfl _ rfl hP hP_z ?_) | (with_reducible refine pr_load_g (by with_unfolding_all rfl) _ rfl _ rfl hP hP_z ?_))
  refine (KT.out _).mono ?_
  rintro e v1 ⟨rfl, hb1⟩
  replace hP := hP.on hb1
  replace c0 := hP.c0 e0
  replace c1 := hP.c1 e1
  replace c2 := hP.c2 e2
  replace hbel := hbel.trans (hb1.mono hbel.size)
  clear hb1
  go_upto_region 2 with (with_reducible refine num_store rfl _ _ rfl _ _ rfl rfl _ (Has.newz _) rfl ?_)
  generalize hw2 : World.setRow _ _ _ = v2
  have hb2 : Below v1.heap.size v1 v2 := by rw [← hw2]; exact below_setRow ((Below.refl _ _).alloc (Nat.le_refl _) _) (Nat.le_refl _) _
  have hT : Has v2 v1.heap.size (numC t) 26 := by rw [← hw2]; exact (Has.newz _).row _
  replace hP := hP.on hb2
  replace c0 := hP.c0 e0
  replace c1 := hP.c1 e1
  replace c2 := hP.c2 e2
  replace hbel := hbel.trans (hb2.mono hbel.size)
  clear hw2 hb2
  generalize v1.heap.size = b_hT at hT ⊢
  go_wp2_with (first | fail | (with_reducible refine pr_load rfl _ rfl _ rfl hP hP_z ?_) | (with_reducible refine pr_load_g (by with_unfolding_all rfl) _ rfl _ rfl hP hP_z ?_) | (with_reducible refine num_load rfl _ rfl _ rfl _ hT rfl ?_) | (with_reducible refine num_load_g (by with_unfolding_all rfl) _ rfl _ rfl _ hT rfl ?_))
  refine (KG.out _).mono ?_
  rintro e v3 ⟨rfl, hb3⟩
  replace hP := hP.on hb3
  replace hT := hT.on hb3
  replace c0 := hP.c0 e0
  replace c1 := hP.c1 e1
  replace c2 := hP.c2 e2
  replace hbel := hbel.trans (hb3.mono hbel.size)
  clear hb3
  have M1 := max_is (P := Tryz.prog) d (s4 : Int) mx f6
  have M2 := min_is (P := Tryz.prog) mx (s16 : Int) (tk : Int) f7
  clear f6 f7
  go_wp2_with (first | fail | (with_reducible refine pr_load rfl _ rfl _ rfl hP hP_z ?_) | (with_reducible refine pr_load_g (by with_unfolding_all rfl) _ rfl _ rfl hP hP_z ?_) | (with_reducible refine num_load rfl _ rfl _ rfl _ hT rfl ?_) | (with_reducible refine num_load_g (by with_unfolding_all rfl) _ rfl _ rfl _ hT rfl ?_))
  refine (KS.out _).mono ?_
  rintro e v4 ⟨rfl, hb4⟩
  replace hP := hP.on hb4
  replace hT := hT.on hb4
  replace c0 := hP.c0 e0
  replace c1 := hP.c1 e1
  replace c2 := hP.c2 e2
  replace hbel := hbel.trans (hb4.mono hbel.size)
  clear hb4
  have hbel0 := hbel
  go_upto_region 7 with (with_reducible refine num_store rfl _ _ rfl _ _ rfl rfl _ (Has.newz _) rfl ?_)
  generalize hw5 : World.setRow _ _ _ = v5
  have hb5 : Below v4.heap.size v4 v5 := by rw [← hw5]; exact below_setRow ((Below.refl _ _).alloc (Nat.le_refl _) _) (Nat.le_refl _) _
  have hZ : Has v5 v4.heap.size (numC z) 26 := by rw [← hw5]; exact (Has.newz _).row _
  replace hP := hP.on hb5
  replace hT := hT.on hb5
  replace c0 := hP.c0 e0
  replace c1 := hP.c1 e1
  replace c2 := hP.c2 e2
  replace hbel := hbel.trans (hb5.mono hbel.size)
  clear hw5 hb5
  have HZ : Hid (w.heap.size ≤ v4.heap.size) := Lib.hid hbel0.size
  clear hbel0
  generalize v4.heap.size = b_hZ at hZ HZ ⊢
  clear M1 M2
  go_wp2_with (first | fail | (with_reducible refine pr_load rfl _ rfl _ rfl hP hP_z ?_) | (with_reducible refine pr_load_g (by with_unfolding_all rfl) _ rfl _ rfl hP hP_z ?_) | (with_reducible refine num_load rfl _ rfl _ rfl _ hT rfl ?_) | (with_reducible refine num_load_g (by with_unfolding_all rfl) _ rfl _ rfl _ hT rfl ?_) | (with_reducible refine num_load rfl _ rfl _ rfl _ hZ rfl ?_) | (with_reducible refine num_load_g (by with_unfolding_all rfl) _ rfl _ rfl _ hZ rfl ?_))
  refine (KL.out _).mono ?_
  rintro e v6 ⟨rfl, hb6⟩
  replace hP := hP.on hb6
  replace hT := hT.on hb6
  replace hZ := hZ.on hb6
  replace c0 := hP.c0 e0
  replace c1 := hP.c1 e1
  replace c2 := hP.c2 e2
  replace hbel := hbel.trans (hb6.mono hbel.size)
  clear hb6
  go_upto_region 8 with (with_reducible refine num_store rfl _ _ rfl _ _ rfl rfl _ (Has.newz _) rfl ?_)
  generalize hw7 : World.setRow _ _ _ = v7
  have hb7 : Below v6.heap.size v6 v7 := by rw [← hw7]; exact below_setRow ((Below.refl _ _).alloc (Nat.le_refl _) _) (Nat.le_refl _) _
  have hL : Has v7 v6.heap.size (numC L) 26 := by rw [← hw7]; exact (Has.newz _).row _
  replace hP := hP.on hb7
  replace hT := hT.on hb7
  replace hZ := hZ.on hb7
  replace c0 := hP.c0 e0
  replace c1 := hP.c1 e1
  replace c2 := hP.c2 e2
  replace hbel := hbel.trans (hb7.mono hbel.size)
  clear hw7 hb7
  generalize v6.heap.size = b_hL at hL ⊢
  cases so
  case true =>
    go_wp2_with (first | fail | (with_reducible refine pr_load rfl _ rfl _ rfl hP hP_z ?_) | (with_reducible refine pr_load_g (by with_unfolding_all rfl) _ rfl _ rfl hP hP_z ?_) | (with_reducible refine num_load rfl _ rfl _ rfl _ hT rfl ?_) | (with_reducible refine num_load_g (by with_unfolding_all rfl) _ rfl _ rfl _ hT rfl ?_) | (with_reducible refine num_load rfl _ rfl _ rfl _ hZ rfl ?_) | (with_reducible refine num_load_g (by with_unfolding_all rfl) _ rfl _ rfl _ hZ rfl ?_) | (with_reducible refine num_load rfl _ rfl _ rfl _ hL rfl ?_) | (with_reducible refine num_load_g (by with_unfolding_all rfl) _ rfl _ rfl _ hL rfl ?_))
    go_ret
    exact ⟨by rw [HRes.out]; rfl, hbel⟩
  go_wp2_with (first | fail | (with_reducible refine pr_load rfl _ rfl _ rfl hP hP_z ?_) | (with_reducible refine pr_load_g (by with_unfolding_all rfl) _ rfl _ rfl hP hP_z ?_) | (with_reducible refine num_load rfl _ rfl _ rfl _ hT rfl ?_) | (with_reducible refine num_load_g (by with_unfolding_all rfl) _ rfl _ rfl _ hT rfl ?_) | (with_reducible refine num_load rfl _ rfl _ rfl _ hZ rfl ?_) | (with_reducible refine num_load_g (by with_unfolding_all rfl) _ rfl _ rfl _ hZ rfl ?_) | (with_reducible refine num_load rfl _ rfl _ rfl _ hL rfl ?_) | (with_reducible refine num_load_g (by with_unfolding_all rfl) _ rfl _ rfl _ hL rfl ?_))
  refine (KLess.out _).mono ?_
  rintro e v8 ⟨rfl, hb8⟩
  replace hP := hP.on hb8
  replace hT := hT.on hb8
  replace hZ := hZ.on hb8
  replace hL := hL.on hb8
  replace c0 := hP.c0 e0
  replace c1 := hP.c1 e1
  replace c2 := hP.c2 e2
  replace hbel := hbel.trans (hb8.mono hbel.size)
  clear hb8
  cases ls
  case true =>
    go_wp2_with (first | fail | (with_reducible refine pr_load rfl _ rfl _ rfl hP hP_z ?_) | (with_reducible refine pr_load_g (by with_unfolding_all rfl) _ rfl _ rfl hP hP_z ?_) | (with_reducible refine num_load rfl _ rfl _ rfl _ hT rfl ?_) | (with_reducible refine num_load_g (by with_unfolding_all rfl) _ rfl _ rfl _ hT rfl ?_) | (with_reducible refine num_load rfl _ rfl _ rfl _ hZ rfl ?_) | (with_reducible refine num_load_g (by with_unfolding_all rfl) _ rfl _ rfl _ hZ rfl ?_) | (with_reducible refine num_load rfl _ rfl _ rfl _ hL rfl ?_) | (with_reducible refine num_load_g (by with_unfolding_all rfl) _ rfl _ rfl _ hL rfl ?_))
    go_ret
    exact ⟨by rw [HRes.out]; rfl, hbel⟩
  go_wp2_with (first | fail | (with_reducible refine pr_load rfl _ rfl _ rfl hP hP_z ?_) | (with_reducible refine pr_load_g (by with_unfolding_all rfl) _ rfl _ rfl hP hP_z ?_) | (with_reducible refine num_load rfl _ rfl _ rfl _ hT rfl ?_) | (with_reducible refine num_load_g (by with_unfolding_all rfl) _ rfl _ rfl _ hT rfl ?_) | (with_reducible refine num_load rfl _ rfl _ rfl _ hZ rfl ?_) | (with_reducible refine num_load_g (by with_unfolding_all rfl) _ rfl _ rfl _ hZ rfl ?_) | (with_reducible refine num_load rfl _ rfl _ rfl _ hL rfl ?_) | (with_reducible refine num_load_g (by with_unfolding_all rfl) _ rfl _ rfl _ hL rfl ?_))
  refine (KZ.out _).mono ?_
  rintro e v9 ⟨rfl, hb9⟩
  replace hP := hP.on hb9
  replace hT := hT.on hb9
  replace hZ := hZ.on hb9
  replace hL := hL.on hb9
  replace c0 := hP.c0 e0
  replace c1 := hP.c1 e1
  replace c2 := hP.c2 e2
  replace hbel := hbel.trans (hb9.mono hbel.size)
  clear hb9
  cases zr
  case false =>
    go_wp2_with (first | fail | (with_reducible refine pr_load rfl _ rfl _ rfl hP hP_z ?_) | (with_reducible refine pr_load_g (by with_unfolding_all rfl) _ rfl _ rfl hP hP_z ?_) | (with_reducible refine num_load rfl _ rfl _ rfl _ hT rfl ?_) | (with_reducible refine num_load_g (by with_unfolding_all rfl) _ rfl _ rfl _ hT rfl ?_) | (with_reducible refine num_load rfl _ rfl _ rfl _ hZ rfl ?_) | (with_reducible refine num_load_g (by with_unfolding_all rfl) _ rfl _ rfl _ hZ rfl ?_) | (with_reducible refine num_load rfl _ rfl _ rfl _ hL rfl ?_) | (with_reducible refine num_load_g (by with_unfolding_all rfl) _ rfl _ rfl _ hL rfl ?_))
    refine (KE.out _).mono ?_
    rintro e v10 ⟨rfl, hb10⟩
    replace hP := hP.on hb10
    replace hT := hT.on hb10
    replace hZ := hZ.on hb10
    replace hL := hL.on hb10
    replace c0 := hP.c0 e0
    replace c1 := hP.c1 e1
    replace c2 := hP.c2 e2
    replace hbel := hbel.trans (hb10.mono hbel.size)
    clear hb10
    go_wp2_with (first | fail | (with_reducible refine pr_load rfl _ rfl _ rfl hP hP_z ?_) | (with_reducible refine pr_load_g (by with_unfolding_all rfl) _ rfl _ rfl hP hP_z ?_) | (with_reducible refine num_load rfl _ rfl _ rfl _ hT rfl ?_) | (with_reducible refine num_load_g (by with_unfolding_all rfl) _ rfl _ rfl _ hT rfl ?_) | (with_reducible refine num_load rfl _ rfl _ rfl _ hZ rfl ?_) | (with_reducible refine num_load_g (by with_unfolding_all rfl) _ rfl _ rfl _ hZ rfl ?_) | (with_reducible refine num_load rfl _ rfl _ rfl _ hL rfl ?_) | (with_reducible refine num_load_g (by with_unfolding_all rfl) _ rfl _ rfl _ hL rfl ?_))
    go_ret
    exact ⟨by rw [HRes.out]; rfl, hbel⟩
  go_wp2_with (first | fail | (with_reducible refine pr_load rfl _ rfl _ rfl hP hP_z ?_) | (with_reducible refine pr_load_g (by with_unfolding_all rfl) _ rfl _ rfl hP hP_z ?_) | (with_reducible refine num_load rfl _ rfl _ rfl _ hT rfl ?_) | (with_reducible refine num_load_g (by with_unfolding_all rfl) _ rfl _ rfl _ hT rfl ?_) | (with_reducible refine num_load rfl _ rfl _ rfl _ hZ rfl ?_) | (with_reducible refine num_load_g (by with_unfolding_all rfl) _ rfl _ rfl _ hZ rfl ?_) | (with_reducible refine num_load rfl _ rfl _ rfl _ hL rfl ?_) | (with_reducible refine num_load_g (by with_unfolding_all rfl) _ rfl _ rfl _ hL rfl ?_))
  refine (KO.out _).mono ?_
  rintro e v10 ⟨rfl, hb10⟩
  replace hP := hP.on hb10
  replace hT := hT.on hb10
  replace hZ := hZ.on hb10
  replace hL := hL.on hb10
  replace c0 := hP.c0 e0
  replace c1 := hP.c1 e1
  replace c2 := hP.c2 e2
  replace hbel := hbel.trans (hb10.mono hbel.size)
  clear hb10
  go_upto_region 12 with (with_reducible refine num_store rfl _ _ rfl _ _ rfl rfl _ hZ rfl ?_)
  generalize hw : World.setRow _ _ _ = v_s
  replace hZ : Has v_s b_hZ (numC 1) 26 := by rw [← hw]; exact hZ.row _
  replace hbel : Below w.heap.size w v_s := by rw [← hw]; exact below_setRow hbel HZ.out _
  clear hw
  go_wp2_with (first | fail | (with_reducible refine num_load rfl _ rfl _ rfl _ hZ rfl ?_) | (with_reducible refine num_load_g (by with_unfolding_all rfl) _ rfl _ rfl _ hZ rfl ?_))
  refine (KE.out _).mono ?_
  rintro e v11 ⟨rfl, hb11⟩
  replace hZ := hZ.on hb11
  replace hbel := hbel.trans (hb11.mono hbel.size)
  clear hb11
  go_wp2_with fail
  go_ret
  exact ⟨by rw [HRes.out]; rfl, hbel⟩
def Pr.should (p : Pr) : Nat := (p.ivl * p.spc).toNat
def Pr.anew (p : Pr) (b d : Int) : Nat := Go.Proofs.YthcebnfdapcllaaGreatDoor.NN.anew (tg b b) p.should d
def rt (p : Pr) (b d : Int) : Int := if (tok b b && p.good) = true then (if tg p.lim p.lim < p.anew b d then p.lim else (Nm.enc (max 1 (p.anew b d)) : Nat)) else p.lim
theorem good_parts {p : Pr} (h : p.good = true) : tok p.lim p.lim = true ∧ 2 ≤ p.ivl ∧ p.ivl ≤ 64 ∧ 1 ≤ p.spc ∧ p.spc ≤ 10000 ∧ 0 ≤ p.fut ∧ p.fut < 4294967296 := by
  unfold Pr.good at h
  simp only [Bool.and_eq_true, decide_eq_true_eq] at h
  obtain ⟨⟨⟨⟨⟨⟨h0, h1⟩, h2⟩, h3⟩, h4⟩, h5⟩, h6⟩ := h
  exact ⟨h0, h1, h2, h3, h4, h5, h6⟩
theorem should_le {p : Pr} (h : p.good = true) : 0 < p.should ∧ p.should ≤ 640000 ∧ (p.should : Int) = p.ivl * p.spc := by
  obtain ⟨_, h1, h2, h3, h4, _, _⟩ := good_parts h
  obtain ⟨i, hi⟩ := Int.eq_ofNat_of_zero_le (show 0 ≤ p.ivl by omega)
  obtain ⟨s, hs⟩ := Int.eq_ofNat_of_zero_le (show 0 ≤ p.spc by omega)
  have e : p.should = i * s := by unfold Pr.should; rw [hi, hs, ← Int.natCast_mul, Int.toNat_natCast]
  have hp : 0 < i * s := Nat.mul_pos (by omega) (by omega)
  have hle : i * s ≤ 64 * 10000 := Nat.mul_le_mul (by omega) (by omega)
  rw [e, hi, hs, ← Int.natCast_mul]
  exact ⟨hp, by omega, rfl⟩
theorem retarget_at (p : Pr) (ho : p.ok) (b fr to' d : Int) (hd : IntKind.i64.wrap (to' - fr) = d) (w : World) :
    Calls Tryz.prog 116 #[.agg (prA p), .int .i64 b, .int .i64 fr, .int .i64 to'] w fun e w' => e = .returned (.int .i64 (rt p b d)) ∧ Below w.heap.size w w' := by
  have hz := prA_size ho
  have KT := fun w => tgt_at b b w
  by_cases h1 : tok b b = false
  · rw [h1] at KT
    have e : rt p b d = p.lim := by unfold rt; rw [h1]; rfl
    rw [e]
    exact ret_none p hz b fr to' _ (Lib.hid rfl) _ (Lib.hid KT) w
  rw [Bool.not_eq_false] at h1
  rw [h1] at KT
  have KG := fun w => pgood_at p w
  by_cases h2 : p.good = false
  · rw [h2] at KG
    have e : rt p b d = p.lim := by unfold rt; rw [h2, Bool.and_false]; rfl
    rw [e]
    exact ret_bad p hz b fr to' _ (Lib.hid rfl) _ (Lib.hid KT) (Lib.hid KG) w
  rw [Bool.not_eq_false] at h2
  rw [h2] at KG
  obtain ⟨s0, s1, s2⟩ := should_le h2
  have e : rt p b d = if tg p.lim p.lim < p.anew b d then p.lim else (Nm.enc (max 1 (p.anew b d)) : Nat) := by unfold rt; rw [h1, h2]; rfl
  rw [e]
  have ha : p.anew b d = tg b b * tk p.should d / p.should := rfl
  obtain ⟨sn, hsn⟩ : ∃ sn, sn = p.should := ⟨_, rfl⟩
  rw [← hsn] at s0 s1 s2 ha
  have htk := tk_le sn d
  have hti := tk_int sn d
  have KS := fun w => scaled_at (tg b b) (tk sn d) sn (tg_lt b b) (by omega) (by omega) (by omega) w
  rw [← ha] at KS
  have KL := fun w => tgt_at p.lim p.lim w
  have hL := tg_lt p.lim p.lim
  have f1 : IntKind.i64.wrap (p.ivl * p.spc) = (sn : Int) := by rw [← s2, IntKind.wrap_i64]; omega
  have f4 : IntKind.i64.wrap ((sn : Int) * 4) = ((sn * 4 : Nat) : Int) := by rw [IntKind.wrap_i64]; omega
  have f5 : IntKind.i64.wrap ((sn / 4 : Nat) : Int) = ((sn / 4 : Nat) : Int) := by rw [IntKind.wrap_i64]; omega
  have f3 : (sn : Int) / 4 = ((sn / 4 : Nat) : Int) := by omega
  have f8 : IntKind.u64.wrap (tk sn d : Int) = (tk sn d : Int) := by rw [IntKind.wrap_u64]; omega
  have f9 : IntKind.u64.wrap (sn : Int) = (sn : Int) := by rw [IntKind.wrap_u64]; omega
  generalize p.anew b d = q at *
  have hzl : q % Nm.big < Nm.big := Nat.mod_lt _ (by rw [Nm.big_eq]; exact Nat.two_pow_pos _)
  refine ret_main p hz b fr to' _ (Lib.hid rfl) _ _ _ (Lib.hid rfl) (Lib.hid rfl) (q % Nm.big) _ _ sn _ _ d f1 hd f3 f4 f5 _ _ rfl hti f8 f9 (decide (Nm.big ≤ q)) (decide (tg p.lim p.lim < q % Nm.big)) (decide (q % Nm.big = 0)) (Nm.enc (if decide (q % Nm.big = 0) = true then 1 else q % Nm.big) : Nat) _ (Lib.hid ?_) (Lib.hid KT) (Lib.hid KG) (Lib.hid KS) (Lib.hid KL) (Lib.hid (less_is _ _ hL hzl _ rfl)) (Lib.hid (zero_is _ hzl _ rfl)) (Lib.hid (of 1 (by decide))) (Lib.hid (encode _ ?_)) w
  · by_cases h3 : Nm.big ≤ q
    · rw [if_pos (by omega), if_pos (.inl (decide_eq_true h3))]
    · rw [Nat.mod_eq_of_lt (by omega)]
      by_cases h4 : tg p.lim p.lim < q
      · rw [if_pos h4, if_pos (.inr (decide_eq_true h4))]
      · rw [if_neg h4, if_neg (by simp only [decide_eq_true_eq]; omega)]
        by_cases h5 : q = 0
        · rw [if_pos (decide_eq_true h5), show max 1 q = 1 by omega]
        · rw [if_neg (by simp only [decide_eq_true_eq]; omega), show max 1 q = q by omega]
  · split
    · decide
    · exact hzl
end Go.Proofs.YthcebnfdapcllaaGreatDoor.NN
namespace Go.Proofs.YthcebnfdapcllaaGreatDoor.NN
open Go.RowKit
def starts (i h : Int) : Bool := decide (0 < i) && (h.tmod i == 0)
theorem starts_yes (p : Pr) (h i m : Int) (e1 : Hid (p.ivl = i)) (t1 : decide (0 < i) = true) (hne : ¬ i = 0) (hm : h.tmod i = m) (w : World) :
    Calls Tryz.prog 35 #[.agg (prA p), .int .i64 h] w fun e w' => e = .returned (.bool (m == 0)) ∧ Below w.heap.size w w' := by
  have hP := pr_new w p
  have hbel : Below w.heap.size w (w.alloc (.cells (prA p) 32)) := (Below.refl _ _).alloc (Nat.le_refl _) _
  have c1 := hP.c1 e1
  go_enter Tryz.func35, Tryz.ntmps35
  go_wp2_with fail
  go_ret
  exact ⟨rfl, hbel⟩
theorem starts_no (p : Pr) (h i : Int) (e1 : Hid (p.ivl = i)) (t1 : decide (0 < i) = false) (w : World) :
    Calls Tryz.prog 35 #[.agg (prA p), .int .i64 h] w fun e w' => e = .returned (.bool false) ∧ Below w.heap.size w w' := by
  have hP := pr_new w p
  have hbel : Below w.heap.size w (w.alloc (.cells (prA p) 32)) := (Below.refl _ _).alloc (Nat.le_refl _) _
  have c1 := hP.c1 e1
  go_enter Tryz.func35, Tryz.ntmps35
  go_wp2_with fail
  go_ret
  exact ⟨rfl, hbel⟩
theorem starts_at (p : Pr) (h : Int) (g : Bool) (hg : starts p.ivl h = g) (w : World) :
    Calls Tryz.prog 35 #[.agg (prA p), .int .i64 h] w fun e w' => e = .returned (.bool g) ∧ Below w.heap.size w w' := by
  by_cases h0 : 0 < p.ivl
  · rw [← hg, starts, decide_eq_true h0, Bool.true_and]
    exact starts_yes p h _ _ (Lib.hid rfl) (decide_eq_true h0) (by omega) rfl w
  · rw [← hg, starts, decide_eq_false h0, Bool.false_and]
    exact starts_no p h _ (Lib.hid rfl) (decide_eq_false h0) w
structure Pt where
  h : Int
  b : Int
  t : Int
  f : Int
  r : Int
def ptA (x : Pt) : Array Value := #[.int .i64 x.h, .int .i64 x.b, .int .i64 x.t, .int .i64 x.f, .int .i64 x.r]
theorem ptinfo : (Tryz.prog.info? 57).map (·.size) = some 5 := by kernel_rfl
def PtAt (w : World) (k : Nat) (x : Pt) : Prop := Has w k (ptA x) 57
section
variable {w w' : World} {k : Nat} {x : Pt}
theorem PtAt.on (h : PtAt w k x) (hb : Below w.heap.size w w') : PtAt w' k x := Has.on h hb
theorem PtAt.c0 (h : PtAt w k x) {z : Int} (e : Hid (x.h = z)) : w.cell? ⟨k, 0, none⟩ = some (.int .i64 z) := (Has.cell h 0).trans (by rw [← e.out]; rfl)
theorem PtAt.c1 (h : PtAt w k x) {z : Int} (e : Hid (x.b = z)) : w.cell? ⟨k, 1, none⟩ = some (.int .i64 z) := (Has.cell h 1).trans (by rw [← e.out]; rfl)
theorem PtAt.c2 (h : PtAt w k x) {z : Int} (e : Hid (x.t = z)) : w.cell? ⟨k, 2, none⟩ = some (.int .i64 z) := (Has.cell h 2).trans (by rw [← e.out]; rfl)
theorem PtAt.c3 (h : PtAt w k x) {z : Int} (e : Hid (x.f = z)) : w.cell? ⟨k, 3, none⟩ = some (.int .i64 z) := (Has.cell h 3).trans (by rw [← e.out]; rfl)
theorem PtAt.c4 (h : PtAt w k x) {z : Int} (e : Hid (x.r = z)) : w.cell? ⟨k, 4, none⟩ = some (.int .i64 z) := (Has.cell h 4).trans (by rw [← e.out]; rfl)
variable {ops : Array Oper} {rest : List Oper} {o : Oper} {a : Act} {Q : Exit → Act → World → Prop}
theorem pt_load (hgd : o.guard = none) (y : Operand) (ho : o.op = .load 57 y) (g : Nat) (hx : a.eval y = .pointer (some ⟨g, 0, none⟩)) (hg : PtAt w g x)
    (hk : wpList Tryz.prog ops Q rest (a.put o.dst (.agg (ptA x))) w) : wpList Tryz.prog ops Q (o :: rest) a w :=
  wpList_load_row hgd 57 y ho g hx 57 (ptA x) (0, 0) _ (Has.out hg) Tryz.underlying57 rfl ptinfo hk
end
set_option maxRecDepth 100000 in
set_option maxHeartbeats 4000000 in
theorem next_w (p : Pr) (x : Pt) (own : Int) (hP_z : (prA p).size = 83) (lim spc xh xb xt xf xr d s2 rb : Int) (a s z l : Bool) (e0 : Hid (p.lim = lim)) (e2 : Hid (p.spc = spc)) (e4 : Hid (p.easy = z)) (g0 : Hid (x.h = xh)) (g1 : Hid (x.b = xb)) (g2 : Hid (x.t = xt)) (g3 : Hid (x.f = xf)) (g4 : Hid (x.r = xr))
    (t0 : decide (xh ≤ 0) = a) (f1 : IntKind.i64.wrap (own - xt) = d) (f2 : IntKind.i64.wrap (2 * spc) = s2) (f3 : decide (s2 < d) = l) (KS : Hid (∀ w, Calls Tryz.prog 35 #[.agg (prA p), .int .i64 xh] w fun e w' => e = .returned (.bool s) ∧ Below w.heap.size w w'))
    (KR : Hid (∀ w, Calls Tryz.prog 116 #[.agg (prA p), .int .i64 xb, .int .i64 xf, .int .i64 xt] w fun e w' => e = .returned (.int .i64 rb) ∧ Below w.heap.size w w')) (w : World) :
    Calls Tryz.prog 94 #[.agg (prA p), .agg (ptA x), .int .i64 own] w fun e w' => e = .returned (.int .i64 (if a = true then lim else if s = true then rb else if z = false then xb else if l = true then lim else xr)) ∧ Below w.heap.size w w' := by
  go_enter Tryz.func94, Tryz.ntmps94
  go_upto_region 1 with fail
  generalize hw0 : World.alloc _ _ = v0
  have hbel : Below w.heap.size w v0 := by rw [← hw0]; exact ((Below.refl _ _).alloc (by first | exact Nat.le_refl _ | (simp; done) | (simp; omega)) _).alloc (by first | exact Nat.le_refl _ | (simp; done) | (simp; omega)) _
  have hP : PrAt v0 (w.heap.size) p := by rw [← hw0]; exact (Has.new _ _).alloc _
  have hX : PtAt v0 (w.heap.size + 1) x := by rw [← hw0]; exact Has.new1 _ _ _
  clear hw0
  generalize hg1 : w.heap.size + 1 = b_hX at hX ⊢
  clear hg1
  have c0 := hP.c0 e0
  have c2 := hP.c2 e2
  have c4 := hP.c4 e4
  have d0 := hX.c0 g0
  have d1 := hX.c1 g1
  have d2 := hX.c2 g2
  have d3 := hX.c3 g3
  have d4 := hX.c4 g4
  cases a
  case' false =>
    go_wp2_with (first | fail | (with_reducible refine pr_load rfl _ rfl _ rfl hP hP_z ?_) | (with_reducible refine pr_load_g (by with_unfolding_all rfl) _ rfl _ rfl hP hP_z ?_) | (with_reducible refine pt_load rfl _ rfl _ rfl hX ?_) | (with_reducible refine pt_load_g (by with_unfolding_all rfl) _ rfl _ rfl hX ?_))
    refine (KS.out _).mono ?_
    rintro e v1 ⟨rfl, hb1⟩
    replace hP := hP.on hb1
    replace hX := hX.on hb1
    replace c0 := hP.c0 e0
    replace c2 := hP.c2 e2
    replace c4 := hP.c4 e4
    replace d0 := hX.c0 g0
    replace d1 := hX.c1 g1
    replace d2 := hX.c2 g2
    replace d3 := hX.c3 g3
    replace d4 := hX.c4 g4
    replace hbel := hbel.trans (hb1.mono hbel.size)
    clear hb1
    cases s
    case' true =>
      go_wp2_with (first | fail | (with_reducible refine pr_load rfl _ rfl _ rfl hP hP_z ?_) | (with_reducible refine pr_load_g (by with_unfolding_all rfl) _ rfl _ rfl hP hP_z ?_) | (with_reducible refine pt_load rfl _ rfl _ rfl hX ?_) | (with_reducible refine pt_load_g (by with_unfolding_all rfl) _ rfl _ rfl hX ?_))
      refine (KR.out _).mono ?_
      rintro e v2 ⟨rfl, hb2⟩
      replace hP := hP.on hb2
      replace hX := hX.on hb2
      replace c0 := hP.c0 e0
      replace c2 := hP.c2 e2
      replace c4 := hP.c4 e4
      replace d0 := hX.c0 g0
      replace d1 := hX.c1 g1
      replace d2 := hX.c2 g2
      replace d3 := hX.c3 g3
      replace d4 := hX.c4 g4
      replace hbel := hbel.trans (hb2.mono hbel.size)
      clear hb2
    case' false =>
      cases z
      case' true =>
        cases l
  all_goals
    go_wp2_with (first | fail | (with_reducible refine pr_load rfl _ rfl _ rfl hP hP_z ?_) | (with_reducible refine pr_load_g (by with_unfolding_all rfl) _ rfl _ rfl hP hP_z ?_) | (with_reducible refine pt_load rfl _ rfl _ rfl hX ?_) | (with_reducible refine pt_load_g (by with_unfolding_all rfl) _ rfl _ rfl hX ?_))
    go_ret
    exact ⟨rfl, hbel⟩
def nx (p : Pr) (x : Pt) (own : Int) : Int :=
  if x.h ≤ 0 then p.lim else if starts p.ivl x.h = true then rt p x.b (IntKind.i64.wrap (x.t - x.f)) else if p.easy = false then x.b else if IntKind.i64.wrap (2 * p.spc) < IntKind.i64.wrap (own - x.t) then p.lim else x.r
theorem next_at (p : Pr) (ho : p.ok) (x : Pt) (own : Int) (w : World) : Calls Tryz.prog 94 #[.agg (prA p), .agg (ptA x), .int .i64 own] w fun e w' => e = .returned (.int .i64 (nx p x own)) ∧ Below w.heap.size w w' := by
  have hz := prA_size ho
  have h := next_w p x own hz _ _ _ _ _ _ _ _ _ _ _ _ _ _ (Lib.hid rfl) (Lib.hid rfl) (Lib.hid rfl) (Lib.hid rfl) (Lib.hid rfl) (Lib.hid rfl) (Lib.hid rfl) (Lib.hid rfl) rfl rfl rfl rfl (Lib.hid (starts_at p x.h _ rfl)) (Lib.hid (retarget_at p ho x.b x.f x.t _ rfl)) w
  simp only [decide_eq_true_eq] at h
  exact h
end Go.Proofs.YthcebnfdapcllaaGreatDoor.NN
namespace Go.Proofs.YthcebnfdapcllaaGreatDoor.NN
open Go.RowKit
end Go.Proofs.YthcebnfdapcllaaGreatDoor.NN
namespace Go.Proofs.YthcebnfdapcllaaGreatDoor.NN
open Go.RowKit
section
variable {w : World} {ops : Array Oper} {rest : List Oper} {o o2 o3 : Oper} {a : Act} {Q : Exit → Act → World → Prop}
end
end Go.Proofs.YthcebnfdapcllaaGreatDoor.NN
