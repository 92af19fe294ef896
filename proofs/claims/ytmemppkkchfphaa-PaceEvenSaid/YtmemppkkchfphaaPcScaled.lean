/-
  pace: scaled.
-/
import Derived.Test.YtmemppkkchfphaaPcGood
import Derived.Test.YtmemppkkchfphaaWOver
namespace Go.Proofs.Ytmemppkkchfphaa
open Go.RowKit Rg2
/-- block O holds x till operation k, which lays y there -/
def Turned (k O x y : Nat) (l : Array Bool) (w : World) : Prop := (l.getD k false = false → Has w O (numC x) 26) ∧ (l.getD k false = true → Has w O (numC y) 26)
theorem Turned.now {k O x y i : Nat} {l : Array Bool} {w : World} (h : Turned k O x y l w) (hi : i < l.size) (hik : i ≠ k) (ha : (l.setIfInBounds i true).getD k false = false) : Has w O (numC x) 26 :=
  h.1 (by rw [getD_set _ _ _ hi, if_neg hik] at ha; exact ha)
theorem Turned.pre {k O x y i : Nat} {l : Array Bool} {w w' : World} (h : Turned k O x y l w) (hi : i < l.size) (hik : i ≠ k) (ha : (l.setIfInBounds i true).getD k false = false) (hw : Has w O (numC x) 26 → Has w' O (numC x) 26) : Turned k O x y (l.setIfInBounds i true) w' :=
  ⟨fun _ => hw (h.now hi hik ha), fun hk => by rw [ha] at hk; cases hk⟩
theorem Turned.keep {k O x y i : Nat} {l : Array Bool} {w : World} (h : Turned k O x y l w) (hi : i < l.size) (hik : i ≠ k) : Turned k O x y (l.setIfInBounds i true) w :=
  ⟨fun hk => h.1 (by rw [getD_set _ _ _ hi, if_neg hik] at hk; exact hk), fun hk => h.2 (by rw [getD_set _ _ _ hi, if_neg hik] at hk; exact hk)⟩
theorem frame_back (a : Act) (n : Nat) (u : Nat → Value) (hs : a.tmps.size = n) (hd : a.defers = []) (hu : ∀ t, u t = a.eval (.tmp t)) : a = ⟨((List.range n).map u).toArray, []⟩ := by
  obtain ⟨tm, df⟩ := a
  obtain rfl : df = [] := hd
  congr 1
  apply Array.ext
  · simpa using hs
  · intro i h1 h2
    simp only [List.getElem_toArray, List.getElem_map, List.getElem_range, hu]
    simp [Act.eval, Array.getD_eq_getD_getElem?, h1]
/-- the result's box, while the region runs -/
structure ScC (w wr : World) (R : Nat) : Prop where
  below : Below w.heap.size w wr
  r : Has wr R (numC 0) 26
theorem ScC.on {w wr w' : World} {R : Nat} (h : ScC w wr R) (hb : Below wr.heap.size wr w') : ScC w w' R := ⟨h.below.trans (hb.mono h.below.size), h.r.on hb⟩
def scR (o1 r a m1 b m s : Nat) (g2 : Bool) : Nat → Value → Prop
  | 0, v => v = .agg (numC o1)
  | 1, v => v = .int .u64 (r : Int)
  | 2, v => v = .int .u64 (a : Int)
  | 3, v => v = .int .u64 (m1 : Int)
  | 4, v => v = .int .u64 (b : Int)
  | 5, v => v = .int .u64 (m : Int)
  | 6, v => v = .agg (numC m)
  | 7, v => v = .tuple #[.agg (numC s), .bool g2]
  | 8, v => v = .tuple #[.agg (numC s), .bool g2]
  | 9, v => v = .agg (numC s)
  | 10, v => v = .bool g2
  | 12, v => v = .bool g2
  | _, _ => True
set_option maxRecDepth 100000 in
set_option maxHeartbeats 2000000 in
theorem scaled_true (n c b q r o1 m1 m s : Nat) (g2 : Bool) (f1 : IntKind.u64.wrap ((r : Int) * (c : Int)) = (m1 : Int)) (f2 : IntKind.u64.wrap ((m1 : Int) / (b : Int)) = (m : Int)) (f3 : (b : Int) ≠ 0)
    (KO : Hid (∀ w, Calls Try.prog 27 #[.agg (numC n), .int .u64 (b : Int)] w fun e w' => e = .returned (.tuple #[.agg (numC q), .int .u64 (r : Int)]) ∧ Below w.heap.size w w'))
    (KT : Hid (∀ w, Calls Try.prog 28 #[.agg (numC q), .int .u64 (c : Int)] w fun e w' => e = .returned (.tuple #[.agg (numC o1), .bool true]) ∧ Below w.heap.size w w'))
    (KF : Hid (∀ w, Calls Try.prog 23 #[.int .u64 (m : Int)] w fun e w' => e = .returned (.agg (numC m)) ∧ Below w.heap.size w w'))
    (KA : Hid (∀ w, Calls Try.prog 29 #[.agg (numC o1), .agg (numC m)] w fun e w' => e = .returned (.tuple #[.agg (numC s), .bool g2]) ∧ Below w.heap.size w w')) (w : World) :
    Calls Try.prog 20 #[.agg (numC n), .int .u64 (c : Int), .int .u64 (b : Int)] w fun e w' => e = .returned (.tuple #[.agg (numC s), .bool true]) ∧ Below w.heap.size w w' := by
  go_enter Try.func20, Try.ntmps20
  go_upto_region 1 with fail
  generalize hw0 : World.alloc _ _ = v0
  have hbel : Below w.heap.size w v0 := by rw [← hw0]; exact ((Below.refl _ _).alloc (by first | exact Nat.le_refl _ | (simp; done) | (simp; omega)) _).alloc (by first | exact Nat.le_refl _ | (simp; done) | (simp; omega)) _
  have hN : Has v0 (w.heap.size) (numC n) 26 := by rw [← hw0]; exact (Has.new _ _).alloc _
  have hR : Has v0 (w.heap.size + 1) (numC 0) 26 := by rw [← hw0]; exact Has.new1 _ (numC 0) _
  have hR_le : Hid (w.heap.size ≤ w.heap.size + 1) := Lib.hid (by omega)
  clear hw0
  generalize hg1 : w.heap.size + 1 = b_hR at hR hR_le ⊢
  clear hg1
  
  go_wp2_with (first | fail | (with_reducible refine num_load rfl _ rfl _ rfl _ hN rfl ?_) | (with_reducible refine num_load rfl _ rfl _ rfl _ hR rfl ?_))
  refine (KO.out _).mono ?_
  rintro e v1 ⟨rfl, hb1⟩
  replace hN := hN.on hb1
  replace hR := hR.on hb1
  replace hbel := hbel.trans (hb1.mono hbel.size)
  clear hb1
  go_upto_region 2 with (with_reducible refine num_store rfl _ _ rfl _ _ rfl rfl _ (Has.newz _) rfl ?_)
  generalize hw2 : World.setRow _ _ _ = v2
  have hb2 : Below v1.heap.size v1 v2 := by rw [← hw2]; exact below_setRow ((Below.refl _ _).alloc (Nat.le_refl _) _) (Nat.le_refl _) _
  have hQ : Has v2 v1.heap.size (numC q) 26 := by rw [← hw2]; exact (Has.newz _).row _
  replace hN := hN.on hb2
  replace hR := hR.on hb2
  replace hbel := hbel.trans (hb2.mono hbel.size)
  clear hw2 hb2
  generalize v1.heap.size = b_hQ at hQ ⊢
  go_wp2_with (first | fail | (with_reducible refine num_load rfl _ rfl _ rfl _ hN rfl ?_) | (with_reducible refine num_load rfl _ rfl _ rfl _ hR rfl ?_) | (with_reducible refine num_load rfl _ rfl _ rfl _ hQ rfl ?_))
  refine (KT.out _).mono ?_
  rintro e v3 ⟨rfl, hb3⟩
  replace hN := hN.on hb3
  replace hR := hR.on hb3
  replace hQ := hQ.on hb3
  replace hbel := hbel.trans (hb3.mono hbel.size)
  clear hb3
  have hbel0 := hbel
  have hRlt := hR.lt
  go_upto_region 3 with (with_reducible refine num_store rfl _ _ rfl _ _ rfl rfl _ (Has.newz _) rfl ?_)
  generalize hw4 : World.setRow _ _ _ = v4
  have hb4 : Below v3.heap.size v3 v4 := by rw [← hw4]; exact below_setRow ((Below.refl _ _).alloc (Nat.le_refl _) _) (Nat.le_refl _) _
  have hO : Has v4 v3.heap.size (numC o1) 26 := by rw [← hw4]; exact (Has.newz _).row _
  replace hN := hN.on hb4
  replace hR := hR.on hb4
  replace hQ := hQ.on hb4
  replace hbel := hbel.trans (hb4.mono hbel.size)
  clear hw4 hb4
  have HOle : Hid (w.heap.size ≤ v3.heap.size) := Lib.hid hbel0.size
  have hne : Hid (b_hR ≠ v3.heap.size) := Lib.hid (by have := hRlt; omega)
  clear hbel0 hRlt
  generalize v3.heap.size = b_hO at hO HOle hne ⊢
  have hT : ScC w v4 b_hR := ⟨hbel, hR⟩
  
  
  refine Rg2.wp_region_inv (by kernel_rfl) (fun w' => ScC w w' b_hR) (fun i v _ => scR o1 r c m1 b m s g2 i v) (fun l _ w' => Turned 11 b_hO o1 s l w') (fun _ _ => True) (fun _ _ => trivial) (fun _ _ _ _ _ _ h => h) (by kernel_rfl) ⟨hT.below.drew, hT.r.drew⟩ ?_ ?_ ?_
  · exact fun l hl => ⟨fun _ => hO.drew, fun hk => (by rw [hl] at hk; cases hk)⟩
  · intro i o listed a wx ho hn hdep hinv
    have hC := hinv.c
    have hI := hinv.i
    have hi : i < 13 := (Array.getElem?_eq_some_iff.1 ho).1
    obtain rfl | rfl | rfl | rfl | rfl | rfl | rfl | rfl | rfl | rfl | rfl | rfl | rfl : i = 0 ∨ i = 1 ∨ i = 2 ∨ i = 3 ∨ i = 4 ∨ i = 5 ∨ i = 6 ∨ i = 7 ∨ i = 8 ∨ i = 9 ∨ i = 10 ∨ i = 11 ∨ i = 12 := by omega
    all_goals obtain rfl := Option.some.inj ho
    · exact duty_value (C := fun w' => ScC w w' b_hR) (S := fun _ _ => True) (R := fun v _ => scR o1 r c m1 b m s g2 0 v) (J := fun _ w' => Turned 11 b_hO o1 s (listed.setIfInBounds 0 true) w') (fun _ _ => trivial) hC (wanted_free rfl) (ex_load_num rfl (hinv.old' 10 (by kernel_rfl)) (hI.now (by rw [hinv.size]; decide) (by decide) (hinv.aheadT 8 (by kernel_rfl) hn (by decide) (by decide)))) rfl (hI.pre (by rw [hinv.size]; decide) (by decide) (hinv.aheadT 8 (by kernel_rfl) hn (by decide) (by decide)) (fun h => h))
    · exact duty_value (C := fun w' => ScC w w' b_hR) (S := fun _ _ => True) (R := fun v _ => scR o1 r c m1 b m s g2 1 v) (J := fun _ w' => Turned 11 b_hO o1 s (listed.setIfInBounds 1 true) w') (fun _ _ => trivial) hC (wanted_free rfl) (ex_move rfl) (hinv.old' 9 (by kernel_rfl)) (hI.pre (by rw [hinv.size]; decide) (by decide) (hinv.aheadT 8 (by kernel_rfl) hn (by decide) (by decide)) (fun h => h))
    · exact duty_value (C := fun w' => ScC w w' b_hR) (S := fun _ _ => True) (R := fun v _ => scR o1 r c m1 b m s g2 2 v) (J := fun _ w' => Turned 11 b_hO o1 s (listed.setIfInBounds 2 true) w') (fun _ _ => trivial) hC (wanted_free rfl) (ex_move rfl) (hinv.old' 1 (by kernel_rfl)) (hI.pre (by rw [hinv.size]; decide) (by decide) (hinv.aheadT 8 (by kernel_rfl) hn (by decide) (by decide)) (fun h => h))
    · exact duty_value (C := fun w' => ScC w w' b_hR) (S := fun _ _ => True) (R := fun v _ => scR o1 r c m1 b m s g2 3 v) (J := fun _ w' => Turned 11 b_hO o1 s (listed.setIfInBounds 3 true) w') (fun _ _ => trivial) hC (wanted_free rfl) (ex_mul64 rfl (hinv.got 1 _ 27 rfl (hdep ⟨1, .data⟩ (by simp) rfl) rfl) (hinv.got 2 _ 28 rfl (hdep ⟨2, .data⟩ (by simp) rfl) rfl) (m1 : Int) f1) rfl (hI.pre (by rw [hinv.size]; decide) (by decide) (hinv.aheadT 8 (by kernel_rfl) hn (by decide) (by decide)) (fun h => h))
    · exact duty_value (C := fun w' => ScC w w' b_hR) (S := fun _ _ => True) (R := fun v _ => scR o1 r c m1 b m s g2 4 v) (J := fun _ w' => Turned 11 b_hO o1 s (listed.setIfInBounds 4 true) w') (fun _ _ => trivial) hC (wanted_free rfl) (ex_move rfl) (hinv.old' 2 (by kernel_rfl)) (hI.pre (by rw [hinv.size]; decide) (by decide) (hinv.aheadT 8 (by kernel_rfl) hn (by decide) (by decide)) (fun h => h))
    · exact duty_value (C := fun w' => ScC w w' b_hR) (S := fun _ _ => True) (R := fun v _ => scR o1 r c m1 b m s g2 5 v) (J := fun _ w' => Turned 11 b_hO o1 s (listed.setIfInBounds 5 true) w') (fun _ _ => trivial) hC (wanted_free rfl) (ex_quo64 rfl (hinv.got 3 _ 29 rfl (hdep ⟨3, .data⟩ (by simp) rfl) rfl) (hinv.got 4 _ 30 rfl (hdep ⟨4, .data⟩ (by simp) rfl) rfl) f3 (m : Int) f2) rfl (hI.pre (by rw [hinv.size]; decide) (by decide) (hinv.aheadT 8 (by kernel_rfl) hn (by decide) (by decide)) (fun h => h))
    · have e31 : a.eval (.tmp 31) = .int .u64 (m : Int) := hinv.got 5 _ 31 rfl (hdep ⟨5, .data⟩ (by simp) rfl) rfl
      exact duty_call (C := fun w' => ScC w w' b_hR) (S := fun _ _ => True) (R := fun v _ => scR o1 r c m1 b m s g2 6 v) (J := fun _ w' => Turned 11 b_hO o1 s (listed.setIfInBounds 6 true) w') (wanted_free rfl) (f := 23) (args := #[a.eval (.tmp 31)]) (by kernel_rfl) (by rw [e31]; exact KF.out wx) (fun w' hb => ⟨hC.on hb, trivial, rfl, hI.pre (by rw [hinv.size]; decide) (by decide) (hinv.aheadT 8 (by kernel_rfl) hn (by decide) (by decide)) (fun h => h.on hb)⟩)
    · have e26 : a.eval (.tmp 26) = .agg (numC o1) := hinv.got 0 _ 26 rfl (hdep ⟨0, .data⟩ (by simp) rfl) rfl
      have e32 : a.eval (.tmp 32) = .agg (numC m) := hinv.got 6 _ 32 rfl (hdep ⟨6, .data⟩ (by simp) rfl) rfl
      exact duty_call (C := fun w' => ScC w w' b_hR) (S := fun _ _ => True) (R := fun v _ => scR o1 r c m1 b m s g2 7 v) (J := fun _ w' => Turned 11 b_hO o1 s (listed.setIfInBounds 7 true) w') (wanted_free rfl) (f := 29) (args := #[a.eval (.tmp 26), a.eval (.tmp 32)]) (by kernel_rfl) (by rw [e26, e32]; exact KA.out wx) (fun w' hb => ⟨hC.on hb, trivial, rfl, hI.pre (by rw [hinv.size]; decide) (by decide) (hinv.aheadT 8 (by kernel_rfl) hn (by decide) (by decide)) (fun h => h.on hb)⟩)
    · exact duty_value (C := fun w' => ScC w w' b_hR) (S := fun _ _ => True) (R := fun v _ => scR o1 r c m1 b m s g2 8 v) (J := fun _ w' => Turned 11 b_hO o1 s (listed.setIfInBounds 8 true) w') (fun _ _ => trivial) hC (wanted_free rfl) (ex_move rfl) (hinv.got 7 _ 33 rfl (hdep ⟨7, .data⟩ (by simp) rfl) rfl) (hI.pre (by rw [hinv.size]; decide) (by decide) (hinv.aheadT 8 (by kernel_rfl) hn (by decide) (by decide)) (fun h => h))
    · exact duty_value (C := fun w' => ScC w w' b_hR) (S := fun _ _ => True) (R := fun v _ => scR o1 r c m1 b m s g2 9 v) (J := fun _ w' => Turned 11 b_hO o1 s (listed.setIfInBounds 9 true) w') (fun _ _ => trivial) hC (wanted_free rfl) (ex_extract rfl (hinv.got 8 _ 25 rfl (hdep ⟨8, .data⟩ (by simp) rfl) rfl) rfl) rfl (hI.pre (by rw [hinv.size]; decide) (by decide) (hinv.aheadT 8 (by kernel_rfl) hn (by decide) (by decide)) (fun h => h))
    · exact duty_value (C := fun w' => ScC w w' b_hR) (S := fun _ _ => True) (R := fun v _ => scR o1 r c m1 b m s g2 10 v) (J := fun _ w' => Turned 11 b_hO o1 s (listed.setIfInBounds 10 true) w') (fun _ _ => trivial) hC (wanted_free rfl) (ex_extract rfl (hinv.got 8 _ 25 rfl (hdep ⟨8, .data⟩ (by simp) rfl) rfl) rfl) rfl (hI.keep (by rw [hinv.size]; decide) (by decide))
    · have hO := hI.1 (by exact hn)
      exact duty_store (C := fun w' => ScC w w' b_hR) (S := fun _ _ => True) (R := fun v _ => scR o1 r c m1 b m s g2 11 v) (J := fun _ w' => Turned 11 b_hO o1 s (listed.setIfInBounds 11 true) w') (wanted_free rfl) (ex_store_num rfl (hinv.old' 10 (by kernel_rfl)) (hinv.got 9 _ 34 rfl (hdep ⟨9, .data⟩ (by simp) rfl) rfl) hO rfl) ⟨below_setRow hC.below HOle.out _, hC.r.otherRow _ _ hne.out⟩ trivial trivial ⟨fun hk => (by rw [getD_set _ _ _ (by rw [hinv.size]; decide), if_pos rfl] at hk; cases hk), fun _ => hO.row _⟩
    · exact duty_value (C := fun w' => ScC w w' b_hR) (S := fun _ _ => True) (R := fun v _ => scR o1 r c m1 b m s g2 12 v) (J := fun _ w' => Turned 11 b_hO o1 s (listed.setIfInBounds 12 true) w') (fun _ _ => trivial) hC (wanted_free rfl) (ex_assign rfl) (hinv.got 10 _ 35 rfl (hdep ⟨10, .data⟩ (by simp) rfl) rfl) (hI.keep (by rw [hinv.size]; decide) (by decide))
  · intro listed a wx hall hinv
    have hC := hinv.c
    have hO2 := hinv.i.2 (hall 11 (by decide))
    have hR2 := hC.r
    have hbel2 := hC.below
    obtain ⟨u, hu⟩ : ∃ u : Nat → Value, ∀ t, u t = a.eval (.tmp t) := ⟨_, fun _ => rfl⟩
    rw [frame_back a 41 u hinv.tsize hinv.defers hu]
    have f0 := hinv.old' 0 (by kernel_rfl)
    have f1 := hinv.old' 1 (by kernel_rfl)
    have f2 := hinv.old' 2 (by kernel_rfl)
    have f3 := hinv.old' 3 (by kernel_rfl)
    have f4 := hinv.old' 4 (by kernel_rfl)
    have f5 := hinv.old' 5 (by kernel_rfl)
    have f6 := hinv.old' 6 (by kernel_rfl)
    have f7 := hinv.old' 7 (by kernel_rfl)
    have f8 := hinv.old' 8 (by kernel_rfl)
    have f9 := hinv.old' 9 (by kernel_rfl)
    have f10 := hinv.old' 10 (by kernel_rfl)
    have f11 := hinv.old' 11 (by kernel_rfl)
    have f13 := hinv.old' 13 (by kernel_rfl)
    have f14 := hinv.old' 14 (by kernel_rfl)
    have f15 := hinv.old' 15 (by kernel_rfl)
    have f16 := hinv.old' 16 (by kernel_rfl)
    have f17 := hinv.old' 17 (by kernel_rfl)
    have f18 := hinv.old' 18 (by kernel_rfl)
    have f19 := hinv.old' 19 (by kernel_rfl)
    have f20 := hinv.old' 20 (by kernel_rfl)
    have f21 := hinv.old' 21 (by kernel_rfl)
    have f22 := hinv.old' 22 (by kernel_rfl)
    have f23 := hinv.old' 23 (by kernel_rfl)
    have f24 := hinv.old' 24 (by kernel_rfl)
    have f36 := hinv.old' 36 (by kernel_rfl)
    have f37 := hinv.old' 37 (by kernel_rfl)
    have f38 := hinv.old' 38 (by kernel_rfl)
    have f39 := hinv.old' 39 (by kernel_rfl)
    have f40 := hinv.old' 40 (by kernel_rfl)
    have f12 := hinv.got 12 _ 12 rfl (hall 12 (by decide)) rfl
    simp only [← hu] at f0 f1 f2 f3 f4 f5 f6 f7 f8 f9 f10 f11 f12 f13 f14 f15 f16 f17 f18 f19 f20 f21 f22 f23 f24 f36 f37 f38 f39 f40
    simp [Act.eval] at f0 f1 f2 f3 f4 f5 f6 f7 f8 f9 f10 f11 f13 f14 f15 f16 f17 f18 f19 f20 f21 f22 f23 f24 f36 f37 f38 f39 f40
    clear hu hinv hall
    show Exit.then _ _ _ (⟨#[u 0, u 1, u 2, u 3, u 4, u 5, u 6, u 7, u 8, u 9, u 10, u 11, u 12, u 13, u 14, u 15, u 16, u 17, u 18, u 19, u 20, u 21, u 22, u 23, u 24, u 25, u 26, u 27, u 28, u 29, u 30, u 31, u 32, u 33, u 34, u 35, u 36, u 37, u 38, u 39, u 40], []⟩ : Act) _
    rw [f0, f1, f2, f3, f4, f5, f6, f7, f8, f9, f10, f11, f12, f13, f14, f15, f16, f17, f18, f19, f20, f21, f22, f23, f24, f36, f37, f38, f39, f40]
    clear f0 f1 f2 f3 f4 f5 f6 f7 f8 f9 f10 f11 f12 f13 f14 f15 f16 f17 f18 f19 f20 f21 f22 f23 f24 f36 f37 f38 f39 f40
    clear hN hQ hO hR hbel hT hC
    go_wp2_with (first | fail | (with_reducible refine num_load rfl _ rfl _ rfl _ hO2 rfl ?_) | (with_reducible refine num_store rfl _ _ rfl _ _ rfl rfl _ hR2 rfl ?_))
    exact bodyPost_ret (num_results2 Try.results20 _ _ _ _ rfl rfl (hR2.row _)) rfl ⟨rfl, below_setRow hbel2 hR_le.out _⟩
set_option maxRecDepth 100000 in
set_option maxHeartbeats 2000000 in
theorem scaled_false (n c b q r o1 m1 m s : Nat) (g2 : Bool) (f1 : IntKind.u64.wrap ((r : Int) * (c : Int)) = (m1 : Int)) (f2 : IntKind.u64.wrap ((m1 : Int) / (b : Int)) = (m : Int)) (f3 : (b : Int) ≠ 0)
    (KO : Hid (∀ w, Calls Try.prog 27 #[.agg (numC n), .int .u64 (b : Int)] w fun e w' => e = .returned (.tuple #[.agg (numC q), .int .u64 (r : Int)]) ∧ Below w.heap.size w w'))
    (KT : Hid (∀ w, Calls Try.prog 28 #[.agg (numC q), .int .u64 (c : Int)] w fun e w' => e = .returned (.tuple #[.agg (numC o1), .bool false]) ∧ Below w.heap.size w w'))
    (KF : Hid (∀ w, Calls Try.prog 23 #[.int .u64 (m : Int)] w fun e w' => e = .returned (.agg (numC m)) ∧ Below w.heap.size w w'))
    (KA : Hid (∀ w, Calls Try.prog 29 #[.agg (numC o1), .agg (numC m)] w fun e w' => e = .returned (.tuple #[.agg (numC s), .bool g2]) ∧ Below w.heap.size w w')) (w : World) :
    Calls Try.prog 20 #[.agg (numC n), .int .u64 (c : Int), .int .u64 (b : Int)] w fun e w' => e = .returned (.tuple #[.agg (numC s), .bool g2]) ∧ Below w.heap.size w w' := by
  go_enter Try.func20, Try.ntmps20
  go_upto_region 1 with fail
  generalize hw0 : World.alloc _ _ = v0
  have hbel : Below w.heap.size w v0 := by rw [← hw0]; exact ((Below.refl _ _).alloc (by first | exact Nat.le_refl _ | (simp; done) | (simp; omega)) _).alloc (by first | exact Nat.le_refl _ | (simp; done) | (simp; omega)) _
  have hN : Has v0 (w.heap.size) (numC n) 26 := by rw [← hw0]; exact (Has.new _ _).alloc _
  have hR : Has v0 (w.heap.size + 1) (numC 0) 26 := by rw [← hw0]; exact Has.new1 _ (numC 0) _
  have hR_le : Hid (w.heap.size ≤ w.heap.size + 1) := Lib.hid (by omega)
  clear hw0
  generalize hg1 : w.heap.size + 1 = b_hR at hR hR_le ⊢
  clear hg1
  
  go_wp2_with (first | fail | (with_reducible refine num_load rfl _ rfl _ rfl _ hN rfl ?_) | (with_reducible refine num_load rfl _ rfl _ rfl _ hR rfl ?_))
  refine (KO.out _).mono ?_
  rintro e v1 ⟨rfl, hb1⟩
  replace hN := hN.on hb1
  replace hR := hR.on hb1
  replace hbel := hbel.trans (hb1.mono hbel.size)
  clear hb1
  go_upto_region 2 with (with_reducible refine num_store rfl _ _ rfl _ _ rfl rfl _ (Has.newz _) rfl ?_)
  generalize hw2 : World.setRow _ _ _ = v2
  have hb2 : Below v1.heap.size v1 v2 := by rw [← hw2]; exact below_setRow ((Below.refl _ _).alloc (Nat.le_refl _) _) (Nat.le_refl _) _
  have hQ : Has v2 v1.heap.size (numC q) 26 := by rw [← hw2]; exact (Has.newz _).row _
  replace hN := hN.on hb2
  replace hR := hR.on hb2
  replace hbel := hbel.trans (hb2.mono hbel.size)
  clear hw2 hb2
  generalize v1.heap.size = b_hQ at hQ ⊢
  go_wp2_with (first | fail | (with_reducible refine num_load rfl _ rfl _ rfl _ hN rfl ?_) | (with_reducible refine num_load rfl _ rfl _ rfl _ hR rfl ?_) | (with_reducible refine num_load rfl _ rfl _ rfl _ hQ rfl ?_))
  refine (KT.out _).mono ?_
  rintro e v3 ⟨rfl, hb3⟩
  replace hN := hN.on hb3
  replace hR := hR.on hb3
  replace hQ := hQ.on hb3
  replace hbel := hbel.trans (hb3.mono hbel.size)
  clear hb3
  have hbel0 := hbel
  have hRlt := hR.lt
  go_upto_region 3 with (with_reducible refine num_store rfl _ _ rfl _ _ rfl rfl _ (Has.newz _) rfl ?_)
  generalize hw4 : World.setRow _ _ _ = v4
  have hb4 : Below v3.heap.size v3 v4 := by rw [← hw4]; exact below_setRow ((Below.refl _ _).alloc (Nat.le_refl _) _) (Nat.le_refl _) _
  have hO : Has v4 v3.heap.size (numC o1) 26 := by rw [← hw4]; exact (Has.newz _).row _
  replace hN := hN.on hb4
  replace hR := hR.on hb4
  replace hQ := hQ.on hb4
  replace hbel := hbel.trans (hb4.mono hbel.size)
  clear hw4 hb4
  have HOle : Hid (w.heap.size ≤ v3.heap.size) := Lib.hid hbel0.size
  have hne : Hid (b_hR ≠ v3.heap.size) := Lib.hid (by have := hRlt; omega)
  clear hbel0 hRlt
  generalize v3.heap.size = b_hO at hO HOle hne ⊢
  have hT : ScC w v4 b_hR := ⟨hbel, hR⟩
  
  
  refine Rg2.wp_region_inv (by kernel_rfl) (fun w' => ScC w w' b_hR) (fun i v _ => scR o1 r c m1 b m s g2 i v) (fun l _ w' => Turned 11 b_hO o1 s l w') (fun _ _ => True) (fun _ _ => trivial) (fun _ _ _ _ _ _ h => h) (by kernel_rfl) ⟨hT.below.drew, hT.r.drew⟩ ?_ ?_ ?_
  · exact fun l hl => ⟨fun _ => hO.drew, fun hk => (by rw [hl] at hk; cases hk)⟩
  · intro i o listed a wx ho hn hdep hinv
    have hC := hinv.c
    have hI := hinv.i
    have hi : i < 13 := (Array.getElem?_eq_some_iff.1 ho).1
    obtain rfl | rfl | rfl | rfl | rfl | rfl | rfl | rfl | rfl | rfl | rfl | rfl | rfl : i = 0 ∨ i = 1 ∨ i = 2 ∨ i = 3 ∨ i = 4 ∨ i = 5 ∨ i = 6 ∨ i = 7 ∨ i = 8 ∨ i = 9 ∨ i = 10 ∨ i = 11 ∨ i = 12 := by omega
    all_goals obtain rfl := Option.some.inj ho
    · exact duty_value (C := fun w' => ScC w w' b_hR) (S := fun _ _ => True) (R := fun v _ => scR o1 r c m1 b m s g2 0 v) (J := fun _ w' => Turned 11 b_hO o1 s (listed.setIfInBounds 0 true) w') (fun _ _ => trivial) hC (wanted_free rfl) (ex_load_num rfl (hinv.old' 10 (by kernel_rfl)) (hI.now (by rw [hinv.size]; decide) (by decide) (hinv.aheadT 8 (by kernel_rfl) hn (by decide) (by decide)))) rfl (hI.pre (by rw [hinv.size]; decide) (by decide) (hinv.aheadT 8 (by kernel_rfl) hn (by decide) (by decide)) (fun h => h))
    · exact duty_value (C := fun w' => ScC w w' b_hR) (S := fun _ _ => True) (R := fun v _ => scR o1 r c m1 b m s g2 1 v) (J := fun _ w' => Turned 11 b_hO o1 s (listed.setIfInBounds 1 true) w') (fun _ _ => trivial) hC (wanted_free rfl) (ex_move rfl) (hinv.old' 9 (by kernel_rfl)) (hI.pre (by rw [hinv.size]; decide) (by decide) (hinv.aheadT 8 (by kernel_rfl) hn (by decide) (by decide)) (fun h => h))
    · exact duty_value (C := fun w' => ScC w w' b_hR) (S := fun _ _ => True) (R := fun v _ => scR o1 r c m1 b m s g2 2 v) (J := fun _ w' => Turned 11 b_hO o1 s (listed.setIfInBounds 2 true) w') (fun _ _ => trivial) hC (wanted_free rfl) (ex_move rfl) (hinv.old' 1 (by kernel_rfl)) (hI.pre (by rw [hinv.size]; decide) (by decide) (hinv.aheadT 8 (by kernel_rfl) hn (by decide) (by decide)) (fun h => h))
    · exact duty_value (C := fun w' => ScC w w' b_hR) (S := fun _ _ => True) (R := fun v _ => scR o1 r c m1 b m s g2 3 v) (J := fun _ w' => Turned 11 b_hO o1 s (listed.setIfInBounds 3 true) w') (fun _ _ => trivial) hC (wanted_free rfl) (ex_mul64 rfl (hinv.got 1 _ 27 rfl (hdep ⟨1, .data⟩ (by simp) rfl) rfl) (hinv.got 2 _ 28 rfl (hdep ⟨2, .data⟩ (by simp) rfl) rfl) (m1 : Int) f1) rfl (hI.pre (by rw [hinv.size]; decide) (by decide) (hinv.aheadT 8 (by kernel_rfl) hn (by decide) (by decide)) (fun h => h))
    · exact duty_value (C := fun w' => ScC w w' b_hR) (S := fun _ _ => True) (R := fun v _ => scR o1 r c m1 b m s g2 4 v) (J := fun _ w' => Turned 11 b_hO o1 s (listed.setIfInBounds 4 true) w') (fun _ _ => trivial) hC (wanted_free rfl) (ex_move rfl) (hinv.old' 2 (by kernel_rfl)) (hI.pre (by rw [hinv.size]; decide) (by decide) (hinv.aheadT 8 (by kernel_rfl) hn (by decide) (by decide)) (fun h => h))
    · exact duty_value (C := fun w' => ScC w w' b_hR) (S := fun _ _ => True) (R := fun v _ => scR o1 r c m1 b m s g2 5 v) (J := fun _ w' => Turned 11 b_hO o1 s (listed.setIfInBounds 5 true) w') (fun _ _ => trivial) hC (wanted_free rfl) (ex_quo64 rfl (hinv.got 3 _ 29 rfl (hdep ⟨3, .data⟩ (by simp) rfl) rfl) (hinv.got 4 _ 30 rfl (hdep ⟨4, .data⟩ (by simp) rfl) rfl) f3 (m : Int) f2) rfl (hI.pre (by rw [hinv.size]; decide) (by decide) (hinv.aheadT 8 (by kernel_rfl) hn (by decide) (by decide)) (fun h => h))
    · have e31 : a.eval (.tmp 31) = .int .u64 (m : Int) := hinv.got 5 _ 31 rfl (hdep ⟨5, .data⟩ (by simp) rfl) rfl
      exact duty_call (C := fun w' => ScC w w' b_hR) (S := fun _ _ => True) (R := fun v _ => scR o1 r c m1 b m s g2 6 v) (J := fun _ w' => Turned 11 b_hO o1 s (listed.setIfInBounds 6 true) w') (wanted_free rfl) (f := 23) (args := #[a.eval (.tmp 31)]) (by kernel_rfl) (by rw [e31]; exact KF.out wx) (fun w' hb => ⟨hC.on hb, trivial, rfl, hI.pre (by rw [hinv.size]; decide) (by decide) (hinv.aheadT 8 (by kernel_rfl) hn (by decide) (by decide)) (fun h => h.on hb)⟩)
    · have e26 : a.eval (.tmp 26) = .agg (numC o1) := hinv.got 0 _ 26 rfl (hdep ⟨0, .data⟩ (by simp) rfl) rfl
      have e32 : a.eval (.tmp 32) = .agg (numC m) := hinv.got 6 _ 32 rfl (hdep ⟨6, .data⟩ (by simp) rfl) rfl
      exact duty_call (C := fun w' => ScC w w' b_hR) (S := fun _ _ => True) (R := fun v _ => scR o1 r c m1 b m s g2 7 v) (J := fun _ w' => Turned 11 b_hO o1 s (listed.setIfInBounds 7 true) w') (wanted_free rfl) (f := 29) (args := #[a.eval (.tmp 26), a.eval (.tmp 32)]) (by kernel_rfl) (by rw [e26, e32]; exact KA.out wx) (fun w' hb => ⟨hC.on hb, trivial, rfl, hI.pre (by rw [hinv.size]; decide) (by decide) (hinv.aheadT 8 (by kernel_rfl) hn (by decide) (by decide)) (fun h => h.on hb)⟩)
    · exact duty_value (C := fun w' => ScC w w' b_hR) (S := fun _ _ => True) (R := fun v _ => scR o1 r c m1 b m s g2 8 v) (J := fun _ w' => Turned 11 b_hO o1 s (listed.setIfInBounds 8 true) w') (fun _ _ => trivial) hC (wanted_free rfl) (ex_move rfl) (hinv.got 7 _ 33 rfl (hdep ⟨7, .data⟩ (by simp) rfl) rfl) (hI.pre (by rw [hinv.size]; decide) (by decide) (hinv.aheadT 8 (by kernel_rfl) hn (by decide) (by decide)) (fun h => h))
    · exact duty_value (C := fun w' => ScC w w' b_hR) (S := fun _ _ => True) (R := fun v _ => scR o1 r c m1 b m s g2 9 v) (J := fun _ w' => Turned 11 b_hO o1 s (listed.setIfInBounds 9 true) w') (fun _ _ => trivial) hC (wanted_free rfl) (ex_extract rfl (hinv.got 8 _ 25 rfl (hdep ⟨8, .data⟩ (by simp) rfl) rfl) rfl) rfl (hI.pre (by rw [hinv.size]; decide) (by decide) (hinv.aheadT 8 (by kernel_rfl) hn (by decide) (by decide)) (fun h => h))
    · exact duty_value (C := fun w' => ScC w w' b_hR) (S := fun _ _ => True) (R := fun v _ => scR o1 r c m1 b m s g2 10 v) (J := fun _ w' => Turned 11 b_hO o1 s (listed.setIfInBounds 10 true) w') (fun _ _ => trivial) hC (wanted_free rfl) (ex_extract rfl (hinv.got 8 _ 25 rfl (hdep ⟨8, .data⟩ (by simp) rfl) rfl) rfl) rfl (hI.keep (by rw [hinv.size]; decide) (by decide))
    · have hO := hI.1 (by exact hn)
      exact duty_store (C := fun w' => ScC w w' b_hR) (S := fun _ _ => True) (R := fun v _ => scR o1 r c m1 b m s g2 11 v) (J := fun _ w' => Turned 11 b_hO o1 s (listed.setIfInBounds 11 true) w') (wanted_free rfl) (ex_store_num rfl (hinv.old' 10 (by kernel_rfl)) (hinv.got 9 _ 34 rfl (hdep ⟨9, .data⟩ (by simp) rfl) rfl) hO rfl) ⟨below_setRow hC.below HOle.out _, hC.r.otherRow _ _ hne.out⟩ trivial trivial ⟨fun hk => (by rw [getD_set _ _ _ (by rw [hinv.size]; decide), if_pos rfl] at hk; cases hk), fun _ => hO.row _⟩
    · exact duty_value (C := fun w' => ScC w w' b_hR) (S := fun _ _ => True) (R := fun v _ => scR o1 r c m1 b m s g2 12 v) (J := fun _ w' => Turned 11 b_hO o1 s (listed.setIfInBounds 12 true) w') (fun _ _ => trivial) hC (wanted_free rfl) (ex_assign rfl) (hinv.got 10 _ 35 rfl (hdep ⟨10, .data⟩ (by simp) rfl) rfl) (hI.keep (by rw [hinv.size]; decide) (by decide))
  · intro listed a wx hall hinv
    have hC := hinv.c
    have hO2 := hinv.i.2 (hall 11 (by decide))
    have hR2 := hC.r
    have hbel2 := hC.below
    obtain ⟨u, hu⟩ : ∃ u : Nat → Value, ∀ t, u t = a.eval (.tmp t) := ⟨_, fun _ => rfl⟩
    rw [frame_back a 41 u hinv.tsize hinv.defers hu]
    have f0 := hinv.old' 0 (by kernel_rfl)
    have f1 := hinv.old' 1 (by kernel_rfl)
    have f2 := hinv.old' 2 (by kernel_rfl)
    have f3 := hinv.old' 3 (by kernel_rfl)
    have f4 := hinv.old' 4 (by kernel_rfl)
    have f5 := hinv.old' 5 (by kernel_rfl)
    have f6 := hinv.old' 6 (by kernel_rfl)
    have f7 := hinv.old' 7 (by kernel_rfl)
    have f8 := hinv.old' 8 (by kernel_rfl)
    have f9 := hinv.old' 9 (by kernel_rfl)
    have f10 := hinv.old' 10 (by kernel_rfl)
    have f11 := hinv.old' 11 (by kernel_rfl)
    have f13 := hinv.old' 13 (by kernel_rfl)
    have f14 := hinv.old' 14 (by kernel_rfl)
    have f15 := hinv.old' 15 (by kernel_rfl)
    have f16 := hinv.old' 16 (by kernel_rfl)
    have f17 := hinv.old' 17 (by kernel_rfl)
    have f18 := hinv.old' 18 (by kernel_rfl)
    have f19 := hinv.old' 19 (by kernel_rfl)
    have f20 := hinv.old' 20 (by kernel_rfl)
    have f21 := hinv.old' 21 (by kernel_rfl)
    have f22 := hinv.old' 22 (by kernel_rfl)
    have f23 := hinv.old' 23 (by kernel_rfl)
    have f24 := hinv.old' 24 (by kernel_rfl)
    have f36 := hinv.old' 36 (by kernel_rfl)
    have f37 := hinv.old' 37 (by kernel_rfl)
    have f38 := hinv.old' 38 (by kernel_rfl)
    have f39 := hinv.old' 39 (by kernel_rfl)
    have f40 := hinv.old' 40 (by kernel_rfl)
    have f12 := hinv.got 12 _ 12 rfl (hall 12 (by decide)) rfl
    simp only [← hu] at f0 f1 f2 f3 f4 f5 f6 f7 f8 f9 f10 f11 f12 f13 f14 f15 f16 f17 f18 f19 f20 f21 f22 f23 f24 f36 f37 f38 f39 f40
    simp [Act.eval] at f0 f1 f2 f3 f4 f5 f6 f7 f8 f9 f10 f11 f13 f14 f15 f16 f17 f18 f19 f20 f21 f22 f23 f24 f36 f37 f38 f39 f40
    clear hu hinv hall
    show Exit.then _ _ _ (⟨#[u 0, u 1, u 2, u 3, u 4, u 5, u 6, u 7, u 8, u 9, u 10, u 11, u 12, u 13, u 14, u 15, u 16, u 17, u 18, u 19, u 20, u 21, u 22, u 23, u 24, u 25, u 26, u 27, u 28, u 29, u 30, u 31, u 32, u 33, u 34, u 35, u 36, u 37, u 38, u 39, u 40], []⟩ : Act) _
    rw [f0, f1, f2, f3, f4, f5, f6, f7, f8, f9, f10, f11, f12, f13, f14, f15, f16, f17, f18, f19, f20, f21, f22, f23, f24, f36, f37, f38, f39, f40]
    clear f0 f1 f2 f3 f4 f5 f6 f7 f8 f9 f10 f11 f12 f13 f14 f15 f16 f17 f18 f19 f20 f21 f22 f23 f24 f36 f37 f38 f39 f40
    clear hN hQ hO hR hbel hT hC
    go_wp2_with (first | fail | (with_reducible refine num_load rfl _ rfl _ rfl _ hO2 rfl ?_) | (with_reducible refine num_store rfl _ _ rfl _ _ rfl rfl _ hR2 rfl ?_))
    exact bodyPost_ret (num_results2 Try.results20 _ _ _ _ rfl rfl (hR2.row _)) rfl ⟨rfl, below_setRow hbel2 hR_le.out _⟩
/-- a number by a small one, divided by another one -/
theorem scaled_at (n a b : Nat) (hn : n < Nm.big) (ha : a < 4294967296) (hb : b < 4294967296) (h0 : b ≠ 0) (w : World) :
    Calls Try.prog 20 #[.agg (numC n), .int .u64 (a : Int), .int .u64 (b : Int)] w fun e w' => e = .returned (.tuple #[.agg (numC (n * a / b % Nm.big)), .bool (decide (Nm.big ≤ n * a / b))]) ∧ Below w.heap.size w w' := by
  have hr : n % b < b := Nat.mod_lt _ (by omega)
  have hm1 : n % b * a < 18446744073709551616 := by
    have := Nat.mul_le_mul (show n % b ≤ 4294967295 by omega) (show a ≤ 4294967295 by omega)
    omega
  have hm : n % b * a / b ≤ n % b * a := Nat.div_le_self _ _
  have KO := fun w => over n b hn (by omega) w
  rw [if_neg h0] at KO
  have hq : n / b < Nm.big := Nat.lt_of_le_of_lt (Nat.div_le_self _ _) hn
  have KT := fun w => times (n / b) a hq (by omega) w
  have KF := fun w => of (n % b * a / b) (by omega) w
  have KA := fun w => add (n / b * a % Nm.big) (n % b * a / b) (Nat.mod_lt _ (by decide)) (by unfold Nm.big; omega) w
  have f1 : IntKind.u64.wrap (((n % b : Nat) : Int) * (a : Int)) = ((n % b * a : Nat) : Int) := by rw [← Int.natCast_mul, IntKind.wrap_u64]; omega
  have f2 : IntKind.u64.wrap (((n % b * a : Nat) : Int) / (b : Int)) = ((n % b * a / b : Nat) : Int) := by 
    rw [← Int.natCast_ediv, IntKind.wrap_u64]
    have h9 := Nat.lt_of_le_of_lt hm hm1
    generalize n % b * a / b = M at h9 ⊢
    omega
  have e1 := parts_quo n a b (by omega)
  have e2 := parts_mod (n / b * a) (n % b * a / b)
  have e3 := parts_over (n / b * a) (n % b * a / b)
  rw [← e1] at e2 e3
  rw [← e2, ← e3]
  by_cases hg : Nm.big ≤ n / b * a
  · rw [decide_eq_true hg] at KT ⊢
    rw [Bool.true_or]
    exact scaled_true n a b _ _ _ _ _ _ _ f1 f2 (by omega) (Lib.hid KO) (Lib.hid KT) (Lib.hid KF) (Lib.hid KA) w
  · rw [decide_eq_false hg] at KT ⊢
    rw [Bool.false_or]
    exact scaled_false n a b _ _ _ _ _ _ _ f1 f2 (by omega) (Lib.hid KO) (Lib.hid KT) (Lib.hid KF) (Lib.hid KA) w
end Go.Proofs.Ytmemppkkchfphaa
