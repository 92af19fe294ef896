/-
  envelope: Take.
-/
import Derived.Test.YtggnnlefalcplaaDoorEvBytes
namespace Go.Proofs.YtggnnlefalcplaaDoor
open Go.RowKit Mem Sc Sha
theorem eraw {l : List UInt8} {k : Nat} {n : Int} (hn : n = (k : Nat)) (h : k ≤ l.length) : Ey.raw ⟨txt l, false⟩ n = (txt (l.take k), ⟨txt (l.drop k), false⟩) := by
  have := raw_txt (l.take k) (l.drop k) n (by rw [hn, List.length_take, Nat.min_eq_left h])
  rwa [List.take_append_drop] at this
theorem eraw_no {l : List UInt8} {k : Nat} {n : Int} (hn : n = (k : Nat)) (h : l.length < k) : Ey.raw ⟨txt l, false⟩ n = (E0, dark) :=
  raw_no rfl (.inr (by show ((txt l).size : Int) < n; rw [txt_size]; omega))
theorem eget4 {l : List UInt8} (h : 4 ≤ l.length) : Ey.get ⟨txt l, false⟩ 4 = (val (l.take 4), ⟨txt (l.drop 4), false⟩) := by
  unfold Ey.get
  rw [eraw (k := near 4 7) rfl (by show 4 ≤ l.length; exact h)]
  rfl
theorem eget4_no {l : List UInt8} (h : l.length < 4) : Ey.get ⟨txt l, false⟩ 4 = (0, dark) := by
  unfold Ey.get
  rw [eraw_no (k := near 4 7) rfl (by show l.length < 4; exact h)]
  rfl
theorem magic_is {l : List UInt8} (h : 4 ≤ l.length) (e : val (l.take 4) = 1279869268) : l.take 4 = tail4 :=
  val_inj _ _ (by rw [List.length_take, Nat.min_eq_left h]; rfl) (e.trans (by decide))
theorem trim_at (x : List UInt8) (hx : x.length ≤ 12) (w : World) : Calls Tryd.prog 26 #[.string (txt x), .string ⟨#[0]⟩] w fun e w' => e = .returned (.string (txt (Lib.trimRightB x 0))) ∧ w' = w :=
  Tryd.strings_TrimRight_one (txt x) 0 (by decide) w (by rw [txt_size]; omega)
set_option maxRecDepth 100000 in
set_option maxHeartbeats 2000000 in
theorem etake_few (l : List UInt8) (hl : l.length ≤ 1152921504606846976) (h : l.length < 4) (w : World) :
    Calls Tryd.prog 12 #[.string (txt l)] w fun e w' => e = .returned (.tuple #[.agg (evA evZ), .int .i64 0, .int .i64 7]) ∧ Below w.heap.size w w' := by
  have hz := txt_size l
  have HZ : Hid (evA evZ = #[.string ⟨#[]⟩, .string ⟨#[]⟩]) := Lib.hid rfl
  have K1 := Lib.hid (fun E w h => get_at E ⟨txt l, false⟩ 4 w h)
  rw [eget4_no h] at K1
  have KB := Lib.hid (fun E w h => bad_at E dark w h)
  have t1 : decide (((txt l).size : Int) < 24) = true := decide_eq_true (by omega)
  clear hl hz h
  generalize txt l = s at *
  go_enter Tryd.func12, Tryd.ntmps12
  go_upto_region 1 with fail
  generalize hw1 : World.alloc _ _ = w1
  have hR : EvAt w1 w.heap.size evZ := by rw [← hw1]; exact ev_new w evZ
  have hB : Below w.heap.size w w1 := by rw [← hw1]; exact (Below.refl _ _).alloc (Nat.le_refl _) _
  clear hw1
  go_wp2_with fail
  refine (on_ s w1).mono ?_
  rintro r w2 ⟨rfl, hE, hb2⟩
  have hRE := hR.lt
  replace hR := hR.on hb2
  have hEl : w.heap.size ≤ w1.heap.size := hB.size
  replace hB := hB.trans (hb2.mono hB.size)
  generalize w1.heap.size = E at *
  clear hb2
  go_wp2_with fail
  refine (K1.out E w2 hE).mono ?_
  rintro r w3 ⟨rfl, hE3, hg⟩
  replace hE := hE3
  clear hE3
  replace hR := hR.grown hg (by intro e; have := Option.some.inj e; omega)
  replace hB := hB.trans (gb_toBelow hg hEl hB.size)
  clear hg K1
  go_wp2_with fail
  refine (KB.out E w3 hE).mono ?_
  rintro r w4 ⟨rfl, rfl⟩
  clear KB
  go_wp2_with (with_reducible refine ev_store rfl _ _ rfl _ _ evZ rfl rfl HZ.out.symm hR ?_)
  exact bodyPost_ret (v := .tuple #[.agg (evA evZ), .int .i64 0, .int .i64 7]) (ev_results3 Tryd.results12 _ _ _ _ rfl rfl rfl (Has.row hR _)) rfl ⟨rfl, below_setRow hB (Nat.le_refl _) _⟩
set_option maxRecDepth 100000 in
set_option maxHeartbeats 2000000 in
theorem etake_magic (l : List UInt8) (h : 4 ≤ l.length) (h2 : l.take 4 ≠ tail4) (w : World) :
    Calls Tryd.prog 12 #[.string (txt l)] w fun e w' => e = .returned (.tuple #[.agg (evA evZ), .int .i64 0, .int .i64 4]) ∧ Below w.heap.size w w' := by
  have hz := txt_size l
  have HZ : Hid (evA evZ = #[.string ⟨#[]⟩, .string ⟨#[]⟩]) := Lib.hid rfl
  have K1 := Lib.hid (fun E w h => get_at E ⟨txt l, false⟩ 4 w h)
  rw [eget4 h] at K1
  have KB := Lib.hid (fun E w h => bad_at E ⟨txt (l.drop 4), false⟩ w h)
  have u1 : (((val (l.take 4) : Nat) : Int) != 1279869268) = true := by rw [bne_iff_ne]; intro e; exact h2 (magic_is h (by omega))
  generalize val (l.take 4) = m at *
  clear hz h h2
  generalize txt (l.drop 4) = s1 at *
  generalize txt l = s at *
  go_enter Tryd.func12, Tryd.ntmps12
  go_upto_region 1 with fail
  generalize hw1 : World.alloc _ _ = w1
  have hR : EvAt w1 w.heap.size evZ := by rw [← hw1]; exact ev_new w evZ
  have hB : Below w.heap.size w w1 := by rw [← hw1]; exact (Below.refl _ _).alloc (Nat.le_refl _) _
  clear hw1
  go_wp2_with fail
  refine (on_ s w1).mono ?_
  rintro r w2 ⟨rfl, hE, hb2⟩
  have hRE := hR.lt
  replace hR := hR.on hb2
  have hEl : w.heap.size ≤ w1.heap.size := hB.size
  replace hB := hB.trans (hb2.mono hB.size)
  generalize w1.heap.size = E at *
  clear hb2
  go_wp2_with fail
  refine (K1.out E w2 hE).mono ?_
  rintro r w3 ⟨rfl, hE3, hg⟩
  replace hE := hE3
  clear hE3
  replace hR := hR.grown hg (by intro e; have := Option.some.inj e; omega)
  replace hB := hB.trans (gb_toBelow hg hEl hB.size)
  clear hg K1
  go_wp2_with fail
  refine (KB.out E w3 hE).mono ?_
  rintro r w4 ⟨rfl, rfl⟩
  clear KB
  go_wp2_with (with_reducible refine ev_store rfl _ _ rfl _ _ evZ rfl rfl HZ.out.symm hR ?_)
  exact bodyPost_ret (v := .tuple #[.agg (evA evZ), .int .i64 0, .int .i64 4]) (ev_results3 Tryd.results12 _ _ _ _ rfl rfl rfl (Has.row hR _)) rfl ⟨rfl, below_setRow hB (Nat.le_refl _) _⟩
set_option maxRecDepth 100000 in
set_option maxHeartbeats 2000000 in
theorem etake_short (l : List UInt8) (hl : l.length ≤ 1152921504606846976) (h4 : 4 ≤ l.length) (h2 : l.take 4 = tail4) (h : l.length < 24) (w : World) :
    Calls Tryd.prog 12 #[.string (txt l)] w fun e w' => e = .returned (.tuple #[.agg (evA evZ), .int .i64 0, .int .i64 7]) ∧ Below w.heap.size w w' := by
  have hz := txt_size l
  have HZ : Hid (evA evZ = #[.string ⟨#[]⟩, .string ⟨#[]⟩]) := Lib.hid rfl
  have K1 := Lib.hid (fun E w h => get_at E ⟨txt l, false⟩ 4 w h)
  rw [eget4 h4] at K1
  have KB := Lib.hid (fun E w h => bad_at E ⟨txt (l.drop 4), false⟩ w h)
  have u1 : val (l.take 4) = 1279869268 := by rw [h2]; decide
  rw [u1] at K1
  have t1 : decide (((txt l).size : Int) < 24) = true := decide_eq_true (by omega)
  clear hl hz h h2 h4 u1
  generalize txt (l.drop 4) = s1 at *
  generalize txt l = s at *
  go_enter Tryd.func12, Tryd.ntmps12
  go_upto_region 1 with fail
  generalize hw1 : World.alloc _ _ = w1
  have hR : EvAt w1 w.heap.size evZ := by rw [← hw1]; exact ev_new w evZ
  have hB : Below w.heap.size w w1 := by rw [← hw1]; exact (Below.refl _ _).alloc (Nat.le_refl _) _
  clear hw1
  go_wp2_with fail
  refine (on_ s w1).mono ?_
  rintro r w2 ⟨rfl, hE, hb2⟩
  have hRE := hR.lt
  replace hR := hR.on hb2
  have hEl : w.heap.size ≤ w1.heap.size := hB.size
  replace hB := hB.trans (hb2.mono hB.size)
  generalize w1.heap.size = E at *
  clear hb2
  go_wp2_with fail
  refine (K1.out E w2 hE).mono ?_
  rintro r w3 ⟨rfl, hE3, hg⟩
  replace hE := hE3
  clear hE3
  replace hR := hR.grown hg (by intro e; have := Option.some.inj e; omega)
  replace hB := hB.trans (gb_toBelow hg hEl hB.size)
  clear hg K1
  go_wp2_with fail
  refine (KB.out E w3 hE).mono ?_
  rintro r w4 ⟨rfl, rfl⟩
  clear KB
  go_wp2_with (with_reducible refine ev_store rfl _ _ rfl _ _ evZ rfl rfl HZ.out.symm hR ?_)
  exact bodyPost_ret (v := .tuple #[.agg (evA evZ), .int .i64 0, .int .i64 7]) (ev_results3 Tryd.results12 _ _ _ _ rfl rfl rfl (Has.row hR _)) rfl ⟨rfl, below_setRow hB (Nat.le_refl _) _⟩
set_option maxRecDepth 100000 in
set_option maxHeartbeats 2000000 in
theorem etake_word (l : List UInt8) (hl : l.length ≤ 1152921504606846976) (h2 : l.take 4 = tail4) (h : ¬ l.length < 24) (h3 : goodW (wordOf l) = false) (w : World) :
    Calls Tryd.prog 12 #[.string (txt l)] w fun e w' => e = .returned (.tuple #[.agg (evA evZ), .int .i64 0, .int .i64 4]) ∧ Below w.heap.size w w' := by
  have hz := txt_size l
  have HZ : Hid (evA evZ = #[.string ⟨#[]⟩, .string ⟨#[]⟩]) := Lib.hid rfl
  have K1 := Lib.hid (fun E w h => get_at E ⟨txt l, false⟩ 4 w h)
  rw [eget4 (show 4 ≤ l.length by omega)] at K1
  have KB := Lib.hid (fun E w h => bad_at E ⟨txt (l.drop 4), false⟩ w h)
  have u1 : val (l.take 4) = 1279869268 := by rw [h2]; decide
  rw [u1] at K1
  have t1 : decide (((txt l).size : Int) < 24) = false := decide_eq_false (by omega)
  have K2 := Lib.hid (fun E w h => raw_at E ⟨txt (l.drop 4), false⟩ 12 w h)
  rw [eraw (l := l.drop 4) (k := 12) (n := 12) rfl (by rw [List.length_drop]; omega), List.drop_drop] at K2
  have KT := Lib.hid (trim_at ((l.drop 4).take 12) (by rw [List.length_take]; omega))
  have K3 := Lib.hid (fun E w h => get_at E ⟨txt (l.drop 16), false⟩ 4 w h)
  rw [eget4 (l := l.drop 16) (by rw [List.length_drop]; omega), List.drop_drop] at K3
  have K4 := Lib.hid (fun E w h => raw_at E ⟨txt (l.drop 20), false⟩ 4 w h)
  rw [eraw (l := l.drop 20) (k := 4) (n := 4) rfl (by rw [List.length_drop]; omega), List.drop_drop] at K4
  have KG := Lib.hid (gword_at (txt (wordOf l)) false h3)
  change Hid (∀ (E : Nat) (w : World), EyeAt w E _ → Calls _ _ _ w fun r w' => ReadPost E w (.string (txt ((l.drop 4).take 12))) ⟨txt (l.drop 16), false⟩ r w') at K2
  change Hid (∀ (E : Nat) (w : World), EyeAt w E _ → Calls _ _ _ w fun r w' => ReadPost E w (.int .i64 (szE l : Nat)) ⟨txt (l.drop 20), false⟩ r w') at K3
  change Hid (∀ (E : Nat) (w : World), EyeAt w E _ → Calls _ _ _ w fun r w' => ReadPost E w (.string (txt (chk l))) ⟨txt (l.drop 24), false⟩ r w') at K4
  change Hid (∀ w, Calls _ _ _ w fun e w' => e = .returned (.string (txt (wordOf l))) ∧ w' = w) at KT
  generalize txt ((l.drop 4).take 12) = x at *
  generalize txt (l.drop 16) = s2 at *
  generalize txt (l.drop 20) = s3 at *
  generalize txt (chk l) = c at *
  generalize txt (l.drop 24) = s4 at *
  generalize txt (wordOf l) = wd at *
  generalize szE l = n at *
  clear hl hz h2 h h3 u1
  generalize txt (l.drop 4) = s1 at *
  generalize txt l = s at *
  go_enter Tryd.func12, Tryd.ntmps12
  go_upto_region 1 with fail
  generalize hw1 : World.alloc _ _ = w1
  have hR : EvAt w1 w.heap.size evZ := by rw [← hw1]; exact ev_new w evZ
  have hB : Below w.heap.size w w1 := by rw [← hw1]; exact (Below.refl _ _).alloc (Nat.le_refl _) _
  clear hw1
  go_wp2_with fail
  refine (on_ s w1).mono ?_
  rintro r w2 ⟨rfl, hE, hb2⟩
  have hRE := hR.lt
  replace hR := hR.on hb2
  have hEl : w.heap.size ≤ w1.heap.size := hB.size
  replace hB := hB.trans (hb2.mono hB.size)
  generalize w1.heap.size = E at *
  clear hb2
  go_wp2_with fail
  refine (K1.out E w2 hE).mono ?_
  rintro r w3 ⟨rfl, hE3, hg⟩
  replace hE := hE3
  clear hE3
  replace hR := hR.grown hg (by intro e; have := Option.some.inj e; omega)
  replace hB := hB.trans (gb_toBelow hg hEl hB.size)
  clear hg K1
  go_wp2_with fail
  refine (KB.out E w3 hE).mono ?_
  rintro r w4 ⟨rfl, rfl⟩
  clear KB
  go_wp2_with fail
  refine (K2.out E w3 hE).mono ?_
  rintro r w5 ⟨rfl, hE5, hg⟩
  replace hE := hE5
  clear hE5
  replace hR := hR.grown hg (by intro e; have := Option.some.inj e; omega)
  replace hB := hB.trans (gb_toBelow hg hEl hB.size)
  clear hg K2
  go_wp2_with fail
  refine (KT.out w5).mono ?_
  rintro r w6 ⟨rfl, rfl⟩
  clear KT
  go_wp2_with fail
  refine (K3.out E w6 hE).mono ?_
  rintro r w7 ⟨rfl, hE7, hg⟩
  replace hE := hE7
  clear hE7
  replace hR := hR.grown hg (by intro e; have := Option.some.inj e; omega)
  replace hB := hB.trans (gb_toBelow hg hEl hB.size)
  clear hg K3
  go_wp2_with fail
  refine (K4.out E w7 hE).mono ?_
  rintro r w8 ⟨rfl, hE8, hg⟩
  replace hE := hE8
  clear hE8
  replace hR := hR.grown hg (by intro e; have := Option.some.inj e; omega)
  replace hB := hB.trans (gb_toBelow hg hEl hB.size)
  clear hg K4
  go_wp2_with fail
  refine (KG.out w8).mono ?_
  rintro r w9 ⟨rfl, rfl⟩
  clear KG
  go_wp2_with (with_reducible refine ev_store rfl _ _ rfl _ _ evZ rfl rfl HZ.out.symm hR ?_)
  exact bodyPost_ret (v := .tuple #[.agg (evA evZ), .int .i64 0, .int .i64 4]) (ev_results3 Tryd.results12 _ _ _ _ rfl rfl rfl (Has.row hR _)) rfl ⟨rfl, below_setRow hB (Nat.le_refl _) _⟩
set_option maxRecDepth 100000 in
set_option maxHeartbeats 2000000 in
theorem etake_size (l : List UInt8) (hl : l.length ≤ 1152921504606846976) (h2 : l.take 4 = tail4) (h : ¬ l.length < 24) (h3 : goodW (wordOf l) = true) (h5 : 16384 < szE l) (w : World) :
    Calls Tryd.prog 12 #[.string (txt l)] w fun e w' => e = .returned (.tuple #[.agg (evA evZ), .int .i64 0, .int .i64 4]) ∧ Below w.heap.size w w' := by
  have hz := txt_size l
  have HZ : Hid (evA evZ = #[.string ⟨#[]⟩, .string ⟨#[]⟩]) := Lib.hid rfl
  have K1 := Lib.hid (fun E w h => get_at E ⟨txt l, false⟩ 4 w h)
  rw [eget4 (show 4 ≤ l.length by omega)] at K1
  have KB := Lib.hid (fun E w h => bad_at E ⟨txt (l.drop 4), false⟩ w h)
  have u1 : val (l.take 4) = 1279869268 := by rw [h2]; decide
  rw [u1] at K1
  have t1 : decide (((txt l).size : Int) < 24) = false := decide_eq_false (by omega)
  have K2 := Lib.hid (fun E w h => raw_at E ⟨txt (l.drop 4), false⟩ 12 w h)
  rw [eraw (l := l.drop 4) (k := 12) (n := 12) rfl (by rw [List.length_drop]; omega), List.drop_drop] at K2
  have KT := Lib.hid (trim_at ((l.drop 4).take 12) (by rw [List.length_take]; omega))
  have K3 := Lib.hid (fun E w h => get_at E ⟨txt (l.drop 16), false⟩ 4 w h)
  rw [eget4 (l := l.drop 16) (by rw [List.length_drop]; omega), List.drop_drop] at K3
  have K4 := Lib.hid (fun E w h => raw_at E ⟨txt (l.drop 20), false⟩ 4 w h)
  rw [eraw (l := l.drop 20) (k := 4) (n := 4) rfl (by rw [List.length_drop]; omega), List.drop_drop] at K4
  have KG := Lib.hid (gword_at (txt (wordOf l)) true h3)
  have t2 : decide ((16384 : Int) < ((szE l : Nat) : Int)) = true := decide_eq_true (by omega)
  change Hid (∀ (E : Nat) (w : World), EyeAt w E _ → Calls _ _ _ w fun r w' => ReadPost E w (.string (txt ((l.drop 4).take 12))) ⟨txt (l.drop 16), false⟩ r w') at K2
  change Hid (∀ (E : Nat) (w : World), EyeAt w E _ → Calls _ _ _ w fun r w' => ReadPost E w (.int .i64 (szE l : Nat)) ⟨txt (l.drop 20), false⟩ r w') at K3
  change Hid (∀ (E : Nat) (w : World), EyeAt w E _ → Calls _ _ _ w fun r w' => ReadPost E w (.string (txt (chk l))) ⟨txt (l.drop 24), false⟩ r w') at K4
  change Hid (∀ w, Calls _ _ _ w fun e w' => e = .returned (.string (txt (wordOf l))) ∧ w' = w) at KT
  generalize txt ((l.drop 4).take 12) = x at *
  generalize txt (l.drop 16) = s2 at *
  generalize txt (l.drop 20) = s3 at *
  generalize txt (chk l) = c at *
  generalize txt (l.drop 24) = s4 at *
  generalize txt (wordOf l) = wd at *
  generalize szE l = n at *
  clear hl hz h2 h h3 u1 h5
  generalize txt (l.drop 4) = s1 at *
  generalize txt l = s at *
  go_enter Tryd.func12, Tryd.ntmps12
  go_upto_region 1 with fail
  generalize hw1 : World.alloc _ _ = w1
  have hR : EvAt w1 w.heap.size evZ := by rw [← hw1]; exact ev_new w evZ
  have hB : Below w.heap.size w w1 := by rw [← hw1]; exact (Below.refl _ _).alloc (Nat.le_refl _) _
  clear hw1
  go_wp2_with fail
  refine (on_ s w1).mono ?_
  rintro r w2 ⟨rfl, hE, hb2⟩
  have hRE := hR.lt
  replace hR := hR.on hb2
  have hEl : w.heap.size ≤ w1.heap.size := hB.size
  replace hB := hB.trans (hb2.mono hB.size)
  generalize w1.heap.size = E at *
  clear hb2
  go_wp2_with fail
  refine (K1.out E w2 hE).mono ?_
  rintro r w3 ⟨rfl, hE3, hg⟩
  replace hE := hE3
  clear hE3
  replace hR := hR.grown hg (by intro e; have := Option.some.inj e; omega)
  replace hB := hB.trans (gb_toBelow hg hEl hB.size)
  clear hg K1
  go_wp2_with fail
  refine (KB.out E w3 hE).mono ?_
  rintro r w4 ⟨rfl, rfl⟩
  clear KB
  go_wp2_with fail
  refine (K2.out E w3 hE).mono ?_
  rintro r w5 ⟨rfl, hE5, hg⟩
  replace hE := hE5
  clear hE5
  replace hR := hR.grown hg (by intro e; have := Option.some.inj e; omega)
  replace hB := hB.trans (gb_toBelow hg hEl hB.size)
  clear hg K2
  go_wp2_with fail
  refine (KT.out w5).mono ?_
  rintro r w6 ⟨rfl, rfl⟩
  clear KT
  go_wp2_with fail
  refine (K3.out E w6 hE).mono ?_
  rintro r w7 ⟨rfl, hE7, hg⟩
  replace hE := hE7
  clear hE7
  replace hR := hR.grown hg (by intro e; have := Option.some.inj e; omega)
  replace hB := hB.trans (gb_toBelow hg hEl hB.size)
  clear hg K3
  go_wp2_with fail
  refine (K4.out E w7 hE).mono ?_
  rintro r w8 ⟨rfl, hE8, hg⟩
  replace hE := hE8
  clear hE8
  replace hR := hR.grown hg (by intro e; have := Option.some.inj e; omega)
  replace hB := hB.trans (gb_toBelow hg hEl hB.size)
  clear hg K4
  go_wp2_with fail
  refine (KG.out w8).mono ?_
  rintro r w9 ⟨rfl, rfl⟩
  clear KG
  go_wp2_with (with_reducible refine ev_store rfl _ _ rfl _ _ evZ rfl rfl HZ.out.symm hR ?_)
  exact bodyPost_ret (v := .tuple #[.agg (evA evZ), .int .i64 0, .int .i64 4]) (ev_results3 Tryd.results12 _ _ _ _ rfl rfl rfl (Has.row hR _)) rfl ⟨rfl, below_setRow hB (Nat.le_refl _) _⟩
set_option maxRecDepth 100000 in
set_option maxHeartbeats 2000000 in
theorem etake_more (l : List UInt8) (hl : l.length ≤ 1152921504606846976) (h2 : l.take 4 = tail4) (h : ¬ l.length < 24) (h3 : goodW (wordOf l) = true) (h5 : szE l ≤ 16384) (h6 : l.length < 24 + szE l) (w : World) :
    Calls Tryd.prog 12 #[.string (txt l)] w fun e w' => e = .returned (.tuple #[.agg (evA evZ), .int .i64 0, .int .i64 7]) ∧ Below w.heap.size w w' := by
  have hz := txt_size l
  have HZ : Hid (evA evZ = #[.string ⟨#[]⟩, .string ⟨#[]⟩]) := Lib.hid rfl
  have K1 := Lib.hid (fun E w h => get_at E ⟨txt l, false⟩ 4 w h)
  rw [eget4 (show 4 ≤ l.length by omega)] at K1
  have KB := Lib.hid (fun E w h => bad_at E ⟨txt (l.drop 4), false⟩ w h)
  have u1 : val (l.take 4) = 1279869268 := by rw [h2]; decide
  rw [u1] at K1
  have t1 : decide (((txt l).size : Int) < 24) = false := decide_eq_false (by omega)
  have K2 := Lib.hid (fun E w h => raw_at E ⟨txt (l.drop 4), false⟩ 12 w h)
  rw [eraw (l := l.drop 4) (k := 12) (n := 12) rfl (by rw [List.length_drop]; omega), List.drop_drop] at K2
  have KT := Lib.hid (trim_at ((l.drop 4).take 12) (by rw [List.length_take]; omega))
  have K3 := Lib.hid (fun E w h => get_at E ⟨txt (l.drop 16), false⟩ 4 w h)
  rw [eget4 (l := l.drop 16) (by rw [List.length_drop]; omega), List.drop_drop] at K3
  have K4 := Lib.hid (fun E w h => raw_at E ⟨txt (l.drop 20), false⟩ 4 w h)
  rw [eraw (l := l.drop 20) (k := 4) (n := 4) rfl (by rw [List.length_drop]; omega), List.drop_drop] at K4
  have KG := Lib.hid (gword_at (txt (wordOf l)) true h3)
  have t2 : decide ((16384 : Int) < ((szE l : Nat) : Int)) = false := decide_eq_false (by omega)
  have K5 := Lib.hid (fun E w h => raw_at E ⟨txt (l.drop 24), false⟩ (szE l : Nat) w h)
  rw [eraw_no (l := l.drop 24) (k := szE l) (n := (szE l : Nat)) rfl (by rw [List.length_drop]; omega)] at K5
  have KB2 := Lib.hid (fun E w h => bad_at E dark w h)
  change Hid (∀ (E : Nat) (w : World), EyeAt w E _ → Calls _ _ _ w fun r w' => ReadPost E w (.string (txt ((l.drop 4).take 12))) ⟨txt (l.drop 16), false⟩ r w') at K2
  change Hid (∀ (E : Nat) (w : World), EyeAt w E _ → Calls _ _ _ w fun r w' => ReadPost E w (.int .i64 (szE l : Nat)) ⟨txt (l.drop 20), false⟩ r w') at K3
  change Hid (∀ (E : Nat) (w : World), EyeAt w E _ → Calls _ _ _ w fun r w' => ReadPost E w (.string (txt (chk l))) ⟨txt (l.drop 24), false⟩ r w') at K4
  change Hid (∀ w, Calls _ _ _ w fun e w' => e = .returned (.string (txt (wordOf l))) ∧ w' = w) at KT
  generalize txt ((l.drop 4).take 12) = x at *
  generalize txt (l.drop 16) = s2 at *
  generalize txt (l.drop 20) = s3 at *
  generalize txt (chk l) = c at *
  generalize txt (l.drop 24) = s4 at *
  generalize txt (wordOf l) = wd at *
  generalize szE l = n at *
  clear hl hz h2 h h3 u1 h5 h6
  generalize txt (l.drop 4) = s1 at *
  generalize txt l = s at *
  go_enter Tryd.func12, Tryd.ntmps12
  go_upto_region 1 with fail
  generalize hw1 : World.alloc _ _ = w1
  have hR : EvAt w1 w.heap.size evZ := by rw [← hw1]; exact ev_new w evZ
  have hB : Below w.heap.size w w1 := by rw [← hw1]; exact (Below.refl _ _).alloc (Nat.le_refl _) _
  clear hw1
  go_wp2_with fail
  refine (on_ s w1).mono ?_
  rintro r w2 ⟨rfl, hE, hb2⟩
  have hRE := hR.lt
  replace hR := hR.on hb2
  have hEl : w.heap.size ≤ w1.heap.size := hB.size
  replace hB := hB.trans (hb2.mono hB.size)
  generalize w1.heap.size = E at *
  clear hb2
  go_wp2_with fail
  refine (K1.out E w2 hE).mono ?_
  rintro r w3 ⟨rfl, hE3, hg⟩
  replace hE := hE3
  clear hE3
  replace hR := hR.grown hg (by intro e; have := Option.some.inj e; omega)
  replace hB := hB.trans (gb_toBelow hg hEl hB.size)
  clear hg K1
  go_wp2_with fail
  refine (KB.out E w3 hE).mono ?_
  rintro r w4 ⟨rfl, rfl⟩
  clear KB
  go_wp2_with fail
  refine (K2.out E w3 hE).mono ?_
  rintro r w5 ⟨rfl, hE5, hg⟩
  replace hE := hE5
  clear hE5
  replace hR := hR.grown hg (by intro e; have := Option.some.inj e; omega)
  replace hB := hB.trans (gb_toBelow hg hEl hB.size)
  clear hg K2
  go_wp2_with fail
  refine (KT.out w5).mono ?_
  rintro r w6 ⟨rfl, rfl⟩
  clear KT
  go_wp2_with fail
  refine (K3.out E w6 hE).mono ?_
  rintro r w7 ⟨rfl, hE7, hg⟩
  replace hE := hE7
  clear hE7
  replace hR := hR.grown hg (by intro e; have := Option.some.inj e; omega)
  replace hB := hB.trans (gb_toBelow hg hEl hB.size)
  clear hg K3
  go_wp2_with fail
  refine (K4.out E w7 hE).mono ?_
  rintro r w8 ⟨rfl, hE8, hg⟩
  replace hE := hE8
  clear hE8
  replace hR := hR.grown hg (by intro e; have := Option.some.inj e; omega)
  replace hB := hB.trans (gb_toBelow hg hEl hB.size)
  clear hg K4
  go_wp2_with fail
  refine (KG.out w8).mono ?_
  rintro r w9 ⟨rfl, rfl⟩
  clear KG
  go_wp2_with fail
  refine (K5.out E w8 hE).mono ?_
  rintro r w10 ⟨rfl, hE10, hg⟩
  replace hE := hE10
  clear hE10
  replace hR := hR.grown hg (by intro e; have := Option.some.inj e; omega)
  replace hB := hB.trans (gb_toBelow hg hEl hB.size)
  clear hg K5
  go_wp2_with fail
  refine (KB2.out E w10 hE).mono ?_
  rintro r w11 ⟨rfl, rfl⟩
  clear KB2
  go_wp2_with (with_reducible refine ev_store rfl _ _ rfl _ _ evZ rfl rfl HZ.out.symm hR ?_)
  exact bodyPost_ret (v := .tuple #[.agg (evA evZ), .int .i64 0, .int .i64 7]) (ev_results3 Tryd.results12 _ _ _ _ rfl rfl rfl (Has.row hR _)) rfl ⟨rfl, below_setRow hB (Nat.le_refl _) _⟩
set_option maxRecDepth 100000 in
set_option maxHeartbeats 2000000 in
theorem etake_sum (l : List UInt8) (hl : l.length ≤ 1152921504606846976) (h2 : l.take 4 = tail4) (h : ¬ l.length < 24) (h3 : goodW (wordOf l) = true) (h5 : szE l ≤ 16384) (h6 : ¬ l.length < 24 + szE l) (h7 : chk l ≠ sum4 (payL l)) (w : World) (hT : Tab w) :
    Calls Tryd.prog 12 #[.string (txt l)] w fun e w' => e = .returned (.tuple #[.agg (evA evZ), .int .i64 0, .int .i64 4]) ∧ Below w.heap.size w w' := by
  have hz := txt_size l
  have HZ : Hid (evA evZ = #[.string ⟨#[]⟩, .string ⟨#[]⟩]) := Lib.hid rfl
  have K1 := Lib.hid (fun E w h => get_at E ⟨txt l, false⟩ 4 w h)
  rw [eget4 (show 4 ≤ l.length by omega)] at K1
  have KB := Lib.hid (fun E w h => bad_at E ⟨txt (l.drop 4), false⟩ w h)
  have u1 : val (l.take 4) = 1279869268 := by rw [h2]; decide
  rw [u1] at K1
  have t1 : decide (((txt l).size : Int) < 24) = false := decide_eq_false (by omega)
  have K2 := Lib.hid (fun E w h => raw_at E ⟨txt (l.drop 4), false⟩ 12 w h)
  rw [eraw (l := l.drop 4) (k := 12) (n := 12) rfl (by rw [List.length_drop]; omega), List.drop_drop] at K2
  have KT := Lib.hid (trim_at ((l.drop 4).take 12) (by rw [List.length_take]; omega))
  have K3 := Lib.hid (fun E w h => get_at E ⟨txt (l.drop 16), false⟩ 4 w h)
  rw [eget4 (l := l.drop 16) (by rw [List.length_drop]; omega), List.drop_drop] at K3
  have K4 := Lib.hid (fun E w h => raw_at E ⟨txt (l.drop 20), false⟩ 4 w h)
  rw [eraw (l := l.drop 20) (k := 4) (n := 4) rfl (by rw [List.length_drop]; omega), List.drop_drop] at K4
  have KG := Lib.hid (gword_at (txt (wordOf l)) true h3)
  have t2 : decide ((16384 : Int) < ((szE l : Nat) : Int)) = false := decide_eq_false (by omega)
  have K5 := Lib.hid (fun E w h => raw_at E ⟨txt (l.drop 24), false⟩ (szE l : Nat) w h)
  rw [eraw (l := l.drop 24) (k := szE l) (n := (szE l : Nat)) rfl (by rw [List.length_drop]; omega), List.drop_drop] at K5
  have KB2 := Lib.hid (fun E w h => bad_at E ⟨txt (l.drop (24 + szE l)), false⟩ w h)
  have KS := Lib.hid (sum_at (txt (payL l)) (by rw [txt_size, payL_length h6]; omega))
  rw [txt_list] at KS
  have q1 : ((txt (chk l)).toList == (txt (sum4 (payL l))).toList) = false := by
    rw [ByteArray.toList_eq, ByteArray.toList_eq, txt_list, txt_list]
    rw [beq_eq_false_iff_ne]; exact h7
  have q2 : ((txt (chk l)).toList != (txt (sum4 (payL l))).toList) = true := by rw [bne, q1]; rfl
  change Hid (∀ (E : Nat) (w : World), EyeAt w E _ → Calls _ _ _ w fun r w' => ReadPost E w (.string (txt ((l.drop 4).take 12))) ⟨txt (l.drop 16), false⟩ r w') at K2
  change Hid (∀ (E : Nat) (w : World), EyeAt w E _ → Calls _ _ _ w fun r w' => ReadPost E w (.int .i64 (szE l : Nat)) ⟨txt (l.drop 20), false⟩ r w') at K3
  change Hid (∀ (E : Nat) (w : World), EyeAt w E _ → Calls _ _ _ w fun r w' => ReadPost E w (.string (txt (chk l))) ⟨txt (l.drop 24), false⟩ r w') at K4
  change Hid (∀ (E : Nat) (w : World), EyeAt w E _ → Calls _ _ _ w fun r w' => ReadPost E w (.string (txt (payL l))) _ r w') at K5
  change Hid (∀ w, Calls _ _ _ w fun e w' => e = .returned (.string (txt (wordOf l))) ∧ w' = w) at KT
  generalize txt ((l.drop 4).take 12) = x at *
  generalize txt (l.drop 16) = s2 at *
  generalize txt (l.drop 20) = s3 at *
  generalize txt (chk l) = c at *
  generalize txt (l.drop 24) = s4 at *
  generalize txt (wordOf l) = wd at *
  generalize txt (l.drop (24 + szE l)) = s5 at *
  generalize txt (sum4 (payL l)) = sm at *
  generalize txt (payL l) = py at *
  generalize szE l = n at *
  clear hl hz h2 h h3 u1 h5 h6 h7
  generalize txt (l.drop 4) = s1 at *
  generalize txt l = s at *
  go_enter Tryd.func12, Tryd.ntmps12
  go_upto_region 1 with fail
  generalize hw1 : World.alloc _ _ = w1
  have hR : EvAt w1 w.heap.size evZ := by rw [← hw1]; exact ev_new w evZ
  have hB : Below w.heap.size w w1 := by rw [← hw1]; exact (Below.refl _ _).alloc (Nat.le_refl _) _
  clear hw1
  go_wp2_with fail
  refine (on_ s w1).mono ?_
  rintro r w2 ⟨rfl, hE, hb2⟩
  have hRE := hR.lt
  replace hR := hR.on hb2
  have hEl : w.heap.size ≤ w1.heap.size := hB.size
  replace hB := hB.trans (hb2.mono hB.size)
  generalize w1.heap.size = E at *
  clear hb2
  go_wp2_with fail
  refine (K1.out E w2 hE).mono ?_
  rintro r w3 ⟨rfl, hE3, hg⟩
  replace hE := hE3
  clear hE3
  replace hR := hR.grown hg (by intro e; have := Option.some.inj e; omega)
  replace hB := hB.trans (gb_toBelow hg hEl hB.size)
  clear hg K1
  go_wp2_with fail
  refine (KB.out E w3 hE).mono ?_
  rintro r w4 ⟨rfl, rfl⟩
  clear KB
  go_wp2_with fail
  refine (K2.out E w3 hE).mono ?_
  rintro r w5 ⟨rfl, hE5, hg⟩
  replace hE := hE5
  clear hE5
  replace hR := hR.grown hg (by intro e; have := Option.some.inj e; omega)
  replace hB := hB.trans (gb_toBelow hg hEl hB.size)
  clear hg K2
  go_wp2_with fail
  refine (KT.out w5).mono ?_
  rintro r w6 ⟨rfl, rfl⟩
  clear KT
  go_wp2_with fail
  refine (K3.out E w6 hE).mono ?_
  rintro r w7 ⟨rfl, hE7, hg⟩
  replace hE := hE7
  clear hE7
  replace hR := hR.grown hg (by intro e; have := Option.some.inj e; omega)
  replace hB := hB.trans (gb_toBelow hg hEl hB.size)
  clear hg K3
  go_wp2_with fail
  refine (K4.out E w7 hE).mono ?_
  rintro r w8 ⟨rfl, hE8, hg⟩
  replace hE := hE8
  clear hE8
  replace hR := hR.grown hg (by intro e; have := Option.some.inj e; omega)
  replace hB := hB.trans (gb_toBelow hg hEl hB.size)
  clear hg K4
  go_wp2_with fail
  refine (KG.out w8).mono ?_
  rintro r w9 ⟨rfl, rfl⟩
  clear KG
  go_wp2_with fail
  refine (K5.out E w8 hE).mono ?_
  rintro r w10 ⟨rfl, hE10, hg⟩
  replace hE := hE10
  clear hE10
  replace hR := hR.grown hg (by intro e; have := Option.some.inj e; omega)
  replace hB := hB.trans (gb_toBelow hg hEl hB.size)
  clear hg K5
  go_wp2_with fail
  refine (KB2.out E w10 hE).mono ?_
  rintro r w11 ⟨rfl, rfl⟩
  clear KB2
  go_wp2_with fail
  refine (KS.out w10 (hT.below hB)).mono ?_
  rintro r w12 ⟨rfl, hb12⟩
  replace hR := hR.on hb12
  replace hB := hB.trans (hb12.mono hB.size)
  clear KS hb12 hE
  go_wp2_with (with_reducible refine ev_store rfl _ _ rfl _ _ evZ rfl rfl HZ.out.symm hR ?_)
  exact bodyPost_ret (v := .tuple #[.agg (evA evZ), .int .i64 0, .int .i64 4]) (ev_results3 Tryd.results12 _ _ _ _ rfl rfl rfl (Has.row hR _)) rfl ⟨rfl, below_setRow hB (Nat.le_refl _) _⟩
set_option maxRecDepth 100000 in
set_option maxHeartbeats 2000000 in
theorem etake_yes (l : List UInt8) (hl : l.length ≤ 1152921504606846976) (h2 : l.take 4 = tail4) (h : ¬ l.length < 24) (h3 : goodW (wordOf l) = true) (h5 : szE l ≤ 16384) (h6 : ¬ l.length < 24 + szE l) (h7 : chk l = sum4 (payL l)) (w : World) (hT : Tab w) :
    Calls Tryd.prog 12 #[.string (txt l)] w fun e w' => e = .returned (.tuple #[.agg (evA ⟨txt (wordOf l), txt (payL l)⟩), .int .i64 ((24 + szE l : Nat) : Int), .int .i64 0]) ∧ Below w.heap.size w w' := by
  have hz := txt_size l
  have HZ : Hid (evA evZ = #[.string ⟨#[]⟩, .string ⟨#[]⟩]) := Lib.hid rfl
  have K1 := Lib.hid (fun E w h => get_at E ⟨txt l, false⟩ 4 w h)
  rw [eget4 (show 4 ≤ l.length by omega)] at K1
  have KB := Lib.hid (fun E w h => bad_at E ⟨txt (l.drop 4), false⟩ w h)
  have u1 : val (l.take 4) = 1279869268 := by rw [h2]; decide
  rw [u1] at K1
  have t1 : decide (((txt l).size : Int) < 24) = false := decide_eq_false (by omega)
  have K2 := Lib.hid (fun E w h => raw_at E ⟨txt (l.drop 4), false⟩ 12 w h)
  rw [eraw (l := l.drop 4) (k := 12) (n := 12) rfl (by rw [List.length_drop]; omega), List.drop_drop] at K2
  have KT := Lib.hid (trim_at ((l.drop 4).take 12) (by rw [List.length_take]; omega))
  have K3 := Lib.hid (fun E w h => get_at E ⟨txt (l.drop 16), false⟩ 4 w h)
  rw [eget4 (l := l.drop 16) (by rw [List.length_drop]; omega), List.drop_drop] at K3
  have K4 := Lib.hid (fun E w h => raw_at E ⟨txt (l.drop 20), false⟩ 4 w h)
  rw [eraw (l := l.drop 20) (k := 4) (n := 4) rfl (by rw [List.length_drop]; omega), List.drop_drop] at K4
  have KG := Lib.hid (gword_at (txt (wordOf l)) true h3)
  have t2 : decide ((16384 : Int) < ((szE l : Nat) : Int)) = false := decide_eq_false (by omega)
  have K5 := Lib.hid (fun E w h => raw_at E ⟨txt (l.drop 24), false⟩ (szE l : Nat) w h)
  rw [eraw (l := l.drop 24) (k := szE l) (n := (szE l : Nat)) rfl (by rw [List.length_drop]; omega), List.drop_drop] at K5
  have KB2 := Lib.hid (fun E w h => bad_at E ⟨txt (l.drop (24 + szE l)), false⟩ w h)
  have KS := Lib.hid (sum_at (txt (payL l)) (by rw [txt_size, payL_length h6]; omega))
  rw [txt_list] at KS
  have q1 : ((txt (chk l)).toList == (txt (sum4 (payL l))).toList) = true := by
    rw [ByteArray.toList_eq, ByteArray.toList_eq, txt_list, txt_list]
    rw [beq_iff_eq]; exact h7
  have q2 : ((txt (chk l)).toList != (txt (sum4 (payL l))).toList) = false := by rw [bne, q1]; rfl
  have f1 : IntKind.i64.wrap (24 + ((szE l : Nat) : Int)) = ((24 + szE l : Nat) : Int) := (IntWalk.i64_in _ (by omega)).trans (by omega)
  change Hid (∀ (E : Nat) (w : World), EyeAt w E _ → Calls _ _ _ w fun r w' => ReadPost E w (.string (txt ((l.drop 4).take 12))) ⟨txt (l.drop 16), false⟩ r w') at K2
  change Hid (∀ (E : Nat) (w : World), EyeAt w E _ → Calls _ _ _ w fun r w' => ReadPost E w (.int .i64 (szE l : Nat)) ⟨txt (l.drop 20), false⟩ r w') at K3
  change Hid (∀ (E : Nat) (w : World), EyeAt w E _ → Calls _ _ _ w fun r w' => ReadPost E w (.string (txt (chk l))) ⟨txt (l.drop 24), false⟩ r w') at K4
  change Hid (∀ (E : Nat) (w : World), EyeAt w E _ → Calls _ _ _ w fun r w' => ReadPost E w (.string (txt (payL l))) _ r w') at K5
  change Hid (∀ w, Calls _ _ _ w fun e w' => e = .returned (.string (txt (wordOf l))) ∧ w' = w) at KT
  generalize txt ((l.drop 4).take 12) = x at *
  generalize txt (l.drop 16) = s2 at *
  generalize txt (l.drop 20) = s3 at *
  generalize txt (chk l) = c at *
  generalize txt (l.drop 24) = s4 at *
  generalize txt (wordOf l) = wd at *
  generalize txt (l.drop (24 + szE l)) = s5 at *
  generalize txt (sum4 (payL l)) = sm at *
  generalize txt (payL l) = py at *
  obtain ⟨tot, ht⟩ : ∃ tot : Nat, tot = 24 + szE l := ⟨_, rfl⟩
  rw [← ht] at f1 ⊢
  generalize szE l = n at *
  clear hl hz h2 h h3 u1 h5 h6 h7 ht
  generalize txt (l.drop 4) = s1 at *
  generalize txt l = s at *
  go_enter Tryd.func12, Tryd.ntmps12
  go_upto_region 1 with fail
  generalize hw1 : World.alloc _ _ = w1
  have hR : EvAt w1 w.heap.size evZ := by rw [← hw1]; exact ev_new w evZ
  have hB : Below w.heap.size w w1 := by rw [← hw1]; exact (Below.refl _ _).alloc (Nat.le_refl _) _
  clear hw1
  go_wp2_with fail
  refine (on_ s w1).mono ?_
  rintro r w2 ⟨rfl, hE, hb2⟩
  have hRE := hR.lt
  replace hR := hR.on hb2
  have hEl : w.heap.size ≤ w1.heap.size := hB.size
  replace hB := hB.trans (hb2.mono hB.size)
  generalize w1.heap.size = E at *
  clear hb2
  go_wp2_with fail
  refine (K1.out E w2 hE).mono ?_
  rintro r w3 ⟨rfl, hE3, hg⟩
  replace hE := hE3
  clear hE3
  replace hR := hR.grown hg (by intro e; have := Option.some.inj e; omega)
  replace hB := hB.trans (gb_toBelow hg hEl hB.size)
  clear hg K1
  go_wp2_with fail
  refine (KB.out E w3 hE).mono ?_
  rintro r w4 ⟨rfl, rfl⟩
  clear KB
  go_wp2_with fail
  refine (K2.out E w3 hE).mono ?_
  rintro r w5 ⟨rfl, hE5, hg⟩
  replace hE := hE5
  clear hE5
  replace hR := hR.grown hg (by intro e; have := Option.some.inj e; omega)
  replace hB := hB.trans (gb_toBelow hg hEl hB.size)
  clear hg K2
  go_wp2_with fail
  refine (KT.out w5).mono ?_
  rintro r w6 ⟨rfl, rfl⟩
  clear KT
  go_wp2_with fail
  refine (K3.out E w6 hE).mono ?_
  rintro r w7 ⟨rfl, hE7, hg⟩
  replace hE := hE7
  clear hE7
  replace hR := hR.grown hg (by intro e; have := Option.some.inj e; omega)
  replace hB := hB.trans (gb_toBelow hg hEl hB.size)
  clear hg K3
  go_wp2_with fail
  refine (K4.out E w7 hE).mono ?_
  rintro r w8 ⟨rfl, hE8, hg⟩
  replace hE := hE8
  clear hE8
  replace hR := hR.grown hg (by intro e; have := Option.some.inj e; omega)
  replace hB := hB.trans (gb_toBelow hg hEl hB.size)
  clear hg K4
  go_wp2_with fail
  refine (KG.out w8).mono ?_
  rintro r w9 ⟨rfl, rfl⟩
  clear KG
  go_wp2_with fail
  refine (K5.out E w8 hE).mono ?_
  rintro r w10 ⟨rfl, hE10, hg⟩
  replace hE := hE10
  clear hE10
  replace hR := hR.grown hg (by intro e; have := Option.some.inj e; omega)
  replace hB := hB.trans (gb_toBelow hg hEl hB.size)
  clear hg K5
  go_wp2_with fail
  refine (KB2.out E w10 hE).mono ?_
  rintro r w11 ⟨rfl, rfl⟩
  clear KB2
  go_wp2_with fail
  refine (KS.out w10 (hT.below hB)).mono ?_
  rintro r w12 ⟨rfl, hb12⟩
  replace hR := hR.on hb12
  replace hB := hB.trans (hb12.mono hB.size)
  clear KS hb12 hE
  go_wp2_with (with_reducible refine ev_store rfl _ _ rfl _ _ ⟨wd, py⟩ rfl rfl rfl hR ?_)
  exact bodyPost_ret (v := .tuple #[.agg (evA ⟨wd, py⟩), .int .i64 (tot : Int), .int .i64 0]) (ev_results3 Tryd.results12 _ _ _ _ rfl rfl rfl (Has.row hR _)) rfl ⟨rfl, below_setRow hB (Nat.le_refl _) _⟩
theorem etake_at (l : List UInt8) (hl : l.length ≤ 1152921504606846976) (w : World) (hT : Tab w) :
    Calls Tryd.prog 12 #[.string (txt l)] w fun e w' => e = .returned (.tuple #[.agg (evA ⟨(tk l).w, (tk l).p⟩), .int .i64 ((tk l).n : Nat), .int .i64 ((tk l).e : Nat)]) ∧ Below w.heap.size w w' := by
  rcases tk_ways l with ⟨h1, h2⟩ | h1 | ⟨h4, h2, h3⟩ | ⟨h2, h3, h4⟩ | ⟨h2, h3, h4, h5⟩ | ⟨h2, h3, h4, h5, h6⟩ | ⟨h2, h3, h4, h5, h6, h7⟩ | ⟨h2, h3, h4, h5, h6, h7⟩
  · rw [tk_magic h1 h2]; exact etake_magic l h1 h2 w
  · rw [tk_few h1]; exact etake_few l hl h1 w
  · rw [tk_short h2 h3]; exact etake_short l hl h4 h2 h3 w
  · rw [tk_bad h2 h3 (.inl h4)]; exact etake_word l hl h2 h3 h4 w
  · rw [tk_bad h2 h3 (.inr h5)]; exact etake_size l hl h2 h3 h4 h5 w
  · rw [tk_more h2 h3 h4 h5 h6]; exact etake_more l hl h2 h3 h4 h5 h6 w
  · rw [tk_sum h2 h3 h4 h5 h6 h7]; exact etake_sum l hl h2 h3 h4 h5 h6 h7 w hT
  · rw [tk_yes h2 h3 h4 h5 h6 h7]; exact etake_yes l hl h2 h3 h4 h5 h6 h7 w hT
end Go.Proofs.YtggnnlefalcplaaDoor
