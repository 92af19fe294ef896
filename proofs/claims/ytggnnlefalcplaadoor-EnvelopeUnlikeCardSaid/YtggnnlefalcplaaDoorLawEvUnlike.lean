/-
  EnvelopeUnlike: the walk.
-/
import Derived.Test.YtggnnlefalcplaaDoorEvAlive
namespace Go.Proofs.YtggnnlefalcplaaDoor
open Go.RowKit Mem Sc Sha
set_option maxRecDepth 100000 in
set_option maxHeartbeats 2000000 in
theorem eunlike_long (a b : Ev) (za : a.p.size ≤ 140737488355328) (zb : b.p.size ≤ 140737488355328) (hn : 4096 < a.p.size + b.p.size) (w : World) (hT : Tab w) :
    Calls Tryd.prog 7 #[.agg (evA a), .agg (evA b)] w fun r w' => r = .returned (.bool true) ∧ Below w.heap.size w w' := by
  obtain ⟨n, hnn⟩ : ∃ n : Nat, n = a.p.size + b.p.size := ⟨_, rfl⟩
  have f1 : IntKind.i64.wrap ((a.p.size : Int) + (b.p.size : Int)) = (n : Int) := (IntWalk.i64_in _ (by omega)).trans (by omega)
  have t1 : decide ((4096 : Int) < (n : Int)) = true := decide_eq_true (by omega)
  clear hn hnn za zb
  go_enter Tryd.func7, Tryd.ntmps7
  go_upto_region 1 with fail
  generalize hw1 : World.alloc _ _ = w1
  have hA : EvAt w1 w.heap.size a := by rw [← hw1]; exact (ev_new w a).on ((Below.refl _ _).alloc (Nat.le_refl _) _)
  have hC : EvAt w1 (w.heap.size + 1) b := by rw [← hw1]; exact ev_new1 _ _ _
  have hB : Below w.heap.size w w1 := by rw [← hw1]; exact ((Below.refl _ _).alloc (Nat.le_refl _) _).alloc (by simp) _
  clear hw1
  generalize w.heap.size + 1 = C at *
  go_wp2_with fail
  refine (ealive w1 (hT.below hB)).mono ?_
  rintro r w2 ⟨rfl, hb2⟩
  replace hA := hA.on hb2
  replace hC := hC.on hb2
  replace hB := hB.trans (hb2.mono hB.size)
  clear hb2
  have a1 := hA.c1
  have c1 := hC.c1
  go_wp2_with (first
    | (with_reducible refine ev_load rfl _ rfl w.heap.size rfl hA ?_)
    | (with_reducible refine ev_load rfl _ rfl C rfl hC ?_)
    | (with_reducible refine ev_load_g (by with_unfolding_all rfl) _ rfl w.heap.size rfl hA ?_)
    | (with_reducible refine ev_load_g (by with_unfolding_all rfl) _ rfl C rfl hC ?_))
  go_ret
  exact ⟨rfl, hB⟩
set_option maxRecDepth 100000 in
set_option maxHeartbeats 2000000 in
theorem eunlike_a (a b : Ev) (hn : ¬ 4096 < a.p.size + b.p.size) (ha : ¬ a.P) (w : World) (hT : Tab w) :
    Calls Tryd.prog 7 #[.agg (evA a), .agg (evA b)] w fun r w' => r = .returned (.bool true) ∧ Below w.heap.size w w' := by
  obtain ⟨n, hnn⟩ : ∃ n : Nat, n = a.p.size + b.p.size := ⟨_, rfl⟩
  have f1 : IntKind.i64.wrap ((a.p.size : Int) + (b.p.size : Int)) = (n : Int) := (IntWalk.i64_in _ (by omega)).trans (by omega)
  have t1 : decide ((4096 : Int) < (n : Int)) = false := decide_eq_false (by omega)
  have KA := Lib.hid (lgood_at a false (decide_eq_false ha))
  clear hn hnn ha
  go_enter Tryd.func7, Tryd.ntmps7
  go_upto_region 1 with fail
  generalize hw1 : World.alloc _ _ = w1
  have hA : EvAt w1 w.heap.size a := by rw [← hw1]; exact (ev_new w a).on ((Below.refl _ _).alloc (Nat.le_refl _) _)
  have hC : EvAt w1 (w.heap.size + 1) b := by rw [← hw1]; exact ev_new1 _ _ _
  have hB : Below w.heap.size w w1 := by rw [← hw1]; exact ((Below.refl _ _).alloc (Nat.le_refl _) _).alloc (by simp) _
  clear hw1
  generalize w.heap.size + 1 = C at *
  go_wp2_with fail
  refine (ealive w1 (hT.below hB)).mono ?_
  rintro r w2 ⟨rfl, hb2⟩
  replace hA := hA.on hb2
  replace hC := hC.on hb2
  replace hB := hB.trans (hb2.mono hB.size)
  clear hb2
  have a1 := hA.c1
  have c1 := hC.c1
  go_wp2_with (first
    | (with_reducible refine ev_load rfl _ rfl w.heap.size rfl hA ?_)
    | (with_reducible refine ev_load rfl _ rfl C rfl hC ?_)
    | (with_reducible refine ev_load_g (by with_unfolding_all rfl) _ rfl w.heap.size rfl hA ?_)
    | (with_reducible refine ev_load_g (by with_unfolding_all rfl) _ rfl C rfl hC ?_))
  refine (KA.out _).mono ?_
  rintro r w3 ⟨rfl, hb2⟩
  replace hA := hA.on hb2
  replace hC := hC.on hb2
  replace hB := hB.trans (hb2.mono hB.size)
  clear hb2
  clear KA a1 c1
  go_wp2_with (first
    | (with_reducible refine ev_load rfl _ rfl w.heap.size rfl hA ?_)
    | (with_reducible refine ev_load rfl _ rfl C rfl hC ?_)
    | (with_reducible refine ev_load_g (by with_unfolding_all rfl) _ rfl w.heap.size rfl hA ?_)
    | (with_reducible refine ev_load_g (by with_unfolding_all rfl) _ rfl C rfl hC ?_))
  go_ret
  exact ⟨rfl, hB⟩
set_option maxRecDepth 100000 in
set_option maxHeartbeats 2000000 in
theorem eunlike_b (a b : Ev) (hn : ¬ 4096 < a.p.size + b.p.size) (ha : a.P) (hb : ¬ b.P) (w : World) (hT : Tab w) :
    Calls Tryd.prog 7 #[.agg (evA a), .agg (evA b)] w fun r w' => r = .returned (.bool true) ∧ Below w.heap.size w w' := by
  obtain ⟨n, hnn⟩ : ∃ n : Nat, n = a.p.size + b.p.size := ⟨_, rfl⟩
  have f1 : IntKind.i64.wrap ((a.p.size : Int) + (b.p.size : Int)) = (n : Int) := (IntWalk.i64_in _ (by omega)).trans (by omega)
  have t1 : decide ((4096 : Int) < (n : Int)) = false := decide_eq_false (by omega)
  have KA := Lib.hid (lgood_at a true (decide_eq_true ha))
  have KB := Lib.hid (lgood_at b false (decide_eq_false hb))
  clear hn hnn ha hb
  go_enter Tryd.func7, Tryd.ntmps7
  go_upto_region 1 with fail
  generalize hw1 : World.alloc _ _ = w1
  have hA : EvAt w1 w.heap.size a := by rw [← hw1]; exact (ev_new w a).on ((Below.refl _ _).alloc (Nat.le_refl _) _)
  have hC : EvAt w1 (w.heap.size + 1) b := by rw [← hw1]; exact ev_new1 _ _ _
  have hB : Below w.heap.size w w1 := by rw [← hw1]; exact ((Below.refl _ _).alloc (Nat.le_refl _) _).alloc (by simp) _
  clear hw1
  generalize w.heap.size + 1 = C at *
  go_wp2_with fail
  refine (ealive w1 (hT.below hB)).mono ?_
  rintro r w2 ⟨rfl, hb2⟩
  replace hA := hA.on hb2
  replace hC := hC.on hb2
  replace hB := hB.trans (hb2.mono hB.size)
  clear hb2
  have a1 := hA.c1
  have c1 := hC.c1
  go_wp2_with (first
    | (with_reducible refine ev_load rfl _ rfl w.heap.size rfl hA ?_)
    | (with_reducible refine ev_load rfl _ rfl C rfl hC ?_)
    | (with_reducible refine ev_load_g (by with_unfolding_all rfl) _ rfl w.heap.size rfl hA ?_)
    | (with_reducible refine ev_load_g (by with_unfolding_all rfl) _ rfl C rfl hC ?_))
  refine (KA.out _).mono ?_
  rintro r w3 ⟨rfl, hb2⟩
  replace hA := hA.on hb2
  replace hC := hC.on hb2
  replace hB := hB.trans (hb2.mono hB.size)
  clear hb2
  clear KA a1 c1
  go_wp2_with (first
    | (with_reducible refine ev_load rfl _ rfl w.heap.size rfl hA ?_)
    | (with_reducible refine ev_load rfl _ rfl C rfl hC ?_)
    | (with_reducible refine ev_load_g (by with_unfolding_all rfl) _ rfl w.heap.size rfl hA ?_)
    | (with_reducible refine ev_load_g (by with_unfolding_all rfl) _ rfl C rfl hC ?_))
  refine (KB.out _).mono ?_
  rintro r w4 ⟨rfl, hb2⟩
  replace hA := hA.on hb2
  replace hC := hC.on hb2
  replace hB := hB.trans (hb2.mono hB.size)
  clear hb2
  clear KB
  go_wp2_with (first
    | (with_reducible refine ev_load rfl _ rfl w.heap.size rfl hA ?_)
    | (with_reducible refine ev_load rfl _ rfl C rfl hC ?_)
    | (with_reducible refine ev_load_g (by with_unfolding_all rfl) _ rfl w.heap.size rfl hA ?_)
    | (with_reducible refine ev_load_g (by with_unfolding_all rfl) _ rfl C rfl hC ?_))
  go_ret
  exact ⟨rfl, hB⟩
set_option maxRecDepth 100000 in
set_option maxHeartbeats 2000000 in
theorem eunlike_same (a b : Ev) (hn : ¬ 4096 < a.p.size + b.p.size) (ha : a.P) (hb : b.P) (hab : a = b) (w : World) (hT : Tab w) :
    Calls Tryd.prog 7 #[.agg (evA a), .agg (evA b)] w fun r w' => r = .returned (.bool true) ∧ Below w.heap.size w w' := by
  obtain ⟨n, hnn⟩ : ∃ n : Nat, n = a.p.size + b.p.size := ⟨_, rfl⟩
  have f1 : IntKind.i64.wrap ((a.p.size : Int) + (b.p.size : Int)) = (n : Int) := (IntWalk.i64_in _ (by omega)).trans (by omega)
  have t1 : decide ((4096 : Int) < (n : Int)) = false := decide_eq_false (by omega)
  have KA := Lib.hid (lgood_at a true (decide_eq_true ha))
  have KB := Lib.hid (lgood_at b true (decide_eq_true hb))
  have KX := Lib.hid (fun w hT => ebytes_yes a ha w hT)
  have KY := Lib.hid (fun w hT => ebytes_yes b hb w hT)
  have qe := ev_eql a b true (decide_eq_true hab)
  have qs : ((txt a.enc).toList == (txt b.enc).toList) = true := by rw [hab, beq_iff_eq]
  generalize txt a.enc = sa at *
  generalize txt b.enc = sb at *
  clear hn hnn ha hb hab
  go_enter Tryd.func7, Tryd.ntmps7
  go_upto_region 1 with fail
  generalize hw1 : World.alloc _ _ = w1
  have hA : EvAt w1 w.heap.size a := by rw [← hw1]; exact (ev_new w a).on ((Below.refl _ _).alloc (Nat.le_refl _) _)
  have hC : EvAt w1 (w.heap.size + 1) b := by rw [← hw1]; exact ev_new1 _ _ _
  have hB : Below w.heap.size w w1 := by rw [← hw1]; exact ((Below.refl _ _).alloc (Nat.le_refl _) _).alloc (by simp) _
  clear hw1
  generalize w.heap.size + 1 = C at *
  go_wp2_with fail
  refine (ealive w1 (hT.below hB)).mono ?_
  rintro r w2 ⟨rfl, hb2⟩
  replace hA := hA.on hb2
  replace hC := hC.on hb2
  replace hB := hB.trans (hb2.mono hB.size)
  clear hb2
  have a1 := hA.c1
  have c1 := hC.c1
  go_wp2_with (first
    | (with_reducible refine ev_load rfl _ rfl w.heap.size rfl hA ?_)
    | (with_reducible refine ev_load rfl _ rfl C rfl hC ?_)
    | (with_reducible refine ev_load_g (by with_unfolding_all rfl) _ rfl w.heap.size rfl hA ?_)
    | (with_reducible refine ev_load_g (by with_unfolding_all rfl) _ rfl C rfl hC ?_))
  refine (KA.out _).mono ?_
  rintro r w3 ⟨rfl, hb2⟩
  replace hA := hA.on hb2
  replace hC := hC.on hb2
  replace hB := hB.trans (hb2.mono hB.size)
  clear hb2
  clear KA a1 c1
  go_wp2_with (first
    | (with_reducible refine ev_load rfl _ rfl w.heap.size rfl hA ?_)
    | (with_reducible refine ev_load rfl _ rfl C rfl hC ?_)
    | (with_reducible refine ev_load_g (by with_unfolding_all rfl) _ rfl w.heap.size rfl hA ?_)
    | (with_reducible refine ev_load_g (by with_unfolding_all rfl) _ rfl C rfl hC ?_))
  refine (KB.out _).mono ?_
  rintro r w4 ⟨rfl, hb2⟩
  replace hA := hA.on hb2
  replace hC := hC.on hb2
  replace hB := hB.trans (hb2.mono hB.size)
  clear hb2
  clear KB
  go_wp2_with (first
    | (with_reducible refine ev_load rfl _ rfl w.heap.size rfl hA ?_)
    | (with_reducible refine ev_load rfl _ rfl C rfl hC ?_)
    | (with_reducible refine ev_load_g (by with_unfolding_all rfl) _ rfl w.heap.size rfl hA ?_)
    | (with_reducible refine ev_load_g (by with_unfolding_all rfl) _ rfl C rfl hC ?_))
  refine (KX.out _ (hT.below hB)).mono ?_
  rintro r w5 ⟨rfl, hb2⟩
  replace hA := hA.on hb2
  replace hC := hC.on hb2
  replace hB := hB.trans (hb2.mono hB.size)
  clear hb2
  clear KX
  go_wp2_with (first
    | (with_reducible refine ev_load rfl _ rfl w.heap.size rfl hA ?_)
    | (with_reducible refine ev_load rfl _ rfl C rfl hC ?_)
    | (with_reducible refine ev_load_g (by with_unfolding_all rfl) _ rfl w.heap.size rfl hA ?_)
    | (with_reducible refine ev_load_g (by with_unfolding_all rfl) _ rfl C rfl hC ?_))
  refine (KY.out _ (hT.below hB)).mono ?_
  rintro r w6 ⟨rfl, hb2⟩
  replace hA := hA.on hb2
  replace hC := hC.on hb2
  replace hB := hB.trans (hb2.mono hB.size)
  clear hb2
  clear KY
  go_wp2_with (first
    | (with_reducible refine ev_load rfl _ rfl w.heap.size rfl hA ?_)
    | (with_reducible refine ev_load rfl _ rfl C rfl hC ?_)
    | (with_reducible refine ev_load_g (by with_unfolding_all rfl) _ rfl w.heap.size rfl hA ?_)
    | (with_reducible refine ev_load_g (by with_unfolding_all rfl) _ rfl C rfl hC ?_)
    | (with_reducible refine eveql_f rfl _ _ _ rfl _ _ _ rfl rfl qe ?_))
  go_ret
  exact ⟨rfl, hB⟩
set_option maxRecDepth 100000 in
set_option maxHeartbeats 2000000 in
theorem eunlike_more (a b : Ev) (hn : ¬ 4096 < a.p.size + b.p.size) (ha : a.P) (hb : b.P) (hab : a ≠ b) (hl : b.enc.length < a.enc.length) (w : World) (hT : Tab w) :
    Calls Tryd.prog 7 #[.agg (evA a), .agg (evA b)] w fun r w' => r = .returned (.bool true) ∧ Below w.heap.size w w' := by
  obtain ⟨n, hnn⟩ : ∃ n : Nat, n = a.p.size + b.p.size := ⟨_, rfl⟩
  have f1 : IntKind.i64.wrap ((a.p.size : Int) + (b.p.size : Int)) = (n : Int) := (IntWalk.i64_in _ (by omega)).trans (by omega)
  have t1 : decide ((4096 : Int) < (n : Int)) = false := decide_eq_false (by omega)
  have KA := Lib.hid (lgood_at a true (decide_eq_true ha))
  have KB := Lib.hid (lgood_at b true (decide_eq_true hb))
  have KX := Lib.hid (fun w hT => ebytes_yes a ha w hT)
  have KY := Lib.hid (fun w hT => ebytes_yes b hb w hT)
  have qe := ev_eql a b false (decide_eq_false hab)
  have zx := txt_size a.enc
  have zy := txt_size b.enc
  have l1 : (txt b.enc).size < (txt a.enc).size := by omega
  have l2 : ((txt b.enc).size : Int) ≤ ((txt a.enc).size : Int) := by omega
  have m1 : (txt a.enc).extract 0 (txt b.enc).size = txt (a.enc.take b.enc.length) := by rw [txt_size]; exact txt_to _ _ (by omega)
  have qs : ((txt (a.enc.take b.enc.length)).toList == (txt b.enc).toList) = false := by
    rw [ByteArray.toList_eq, ByteArray.toList_eq, txt_list, txt_list, beq_eq_false_iff_ne]
    intro e
    refine hab (enc_unlike ha hb (a.enc.drop b.enc.length) ?_)
    have := (List.take_append_drop b.enc.length a.enc).symm
    rwa [e] at this
  generalize txt (a.enc.take b.enc.length) = tx at *
  clear zx zy
  generalize txt a.enc = sa at *
  generalize txt b.enc = sb at *
  clear hn hnn ha hb hab hl
  go_enter Tryd.func7, Tryd.ntmps7
  go_upto_region 1 with fail
  generalize hw1 : World.alloc _ _ = w1
  have hA : EvAt w1 w.heap.size a := by rw [← hw1]; exact (ev_new w a).on ((Below.refl _ _).alloc (Nat.le_refl _) _)
  have hC : EvAt w1 (w.heap.size + 1) b := by rw [← hw1]; exact ev_new1 _ _ _
  have hB : Below w.heap.size w w1 := by rw [← hw1]; exact ((Below.refl _ _).alloc (Nat.le_refl _) _).alloc (by simp) _
  clear hw1
  generalize w.heap.size + 1 = C at *
  go_wp2_with fail
  refine (ealive w1 (hT.below hB)).mono ?_
  rintro r w2 ⟨rfl, hb2⟩
  replace hA := hA.on hb2
  replace hC := hC.on hb2
  replace hB := hB.trans (hb2.mono hB.size)
  clear hb2
  have a1 := hA.c1
  have c1 := hC.c1
  go_wp2_with (first
    | (with_reducible refine ev_load rfl _ rfl w.heap.size rfl hA ?_)
    | (with_reducible refine ev_load rfl _ rfl C rfl hC ?_)
    | (with_reducible refine ev_load_g (by with_unfolding_all rfl) _ rfl w.heap.size rfl hA ?_)
    | (with_reducible refine ev_load_g (by with_unfolding_all rfl) _ rfl C rfl hC ?_))
  refine (KA.out _).mono ?_
  rintro r w3 ⟨rfl, hb2⟩
  replace hA := hA.on hb2
  replace hC := hC.on hb2
  replace hB := hB.trans (hb2.mono hB.size)
  clear hb2
  clear KA a1 c1
  go_wp2_with (first
    | (with_reducible refine ev_load rfl _ rfl w.heap.size rfl hA ?_)
    | (with_reducible refine ev_load rfl _ rfl C rfl hC ?_)
    | (with_reducible refine ev_load_g (by with_unfolding_all rfl) _ rfl w.heap.size rfl hA ?_)
    | (with_reducible refine ev_load_g (by with_unfolding_all rfl) _ rfl C rfl hC ?_))
  refine (KB.out _).mono ?_
  rintro r w4 ⟨rfl, hb2⟩
  replace hA := hA.on hb2
  replace hC := hC.on hb2
  replace hB := hB.trans (hb2.mono hB.size)
  clear hb2
  clear KB
  go_wp2_with (first
    | (with_reducible refine ev_load rfl _ rfl w.heap.size rfl hA ?_)
    | (with_reducible refine ev_load rfl _ rfl C rfl hC ?_)
    | (with_reducible refine ev_load_g (by with_unfolding_all rfl) _ rfl w.heap.size rfl hA ?_)
    | (with_reducible refine ev_load_g (by with_unfolding_all rfl) _ rfl C rfl hC ?_))
  refine (KX.out _ (hT.below hB)).mono ?_
  rintro r w5 ⟨rfl, hb2⟩
  replace hA := hA.on hb2
  replace hC := hC.on hb2
  replace hB := hB.trans (hb2.mono hB.size)
  clear hb2
  clear KX
  go_wp2_with (first
    | (with_reducible refine ev_load rfl _ rfl w.heap.size rfl hA ?_)
    | (with_reducible refine ev_load rfl _ rfl C rfl hC ?_)
    | (with_reducible refine ev_load_g (by with_unfolding_all rfl) _ rfl w.heap.size rfl hA ?_)
    | (with_reducible refine ev_load_g (by with_unfolding_all rfl) _ rfl C rfl hC ?_))
  refine (KY.out _ (hT.below hB)).mono ?_
  rintro r w6 ⟨rfl, hb2⟩
  replace hA := hA.on hb2
  replace hC := hC.on hb2
  replace hB := hB.trans (hb2.mono hB.size)
  clear hb2
  clear KY
  go_wp2_with (first
    | (with_reducible refine ev_load rfl _ rfl w.heap.size rfl hA ?_)
    | (with_reducible refine ev_load rfl _ rfl C rfl hC ?_)
    | (with_reducible refine ev_load_g (by with_unfolding_all rfl) _ rfl w.heap.size rfl hA ?_)
    | (with_reducible refine ev_load_g (by with_unfolding_all rfl) _ rfl C rfl hC ?_)
    | (with_reducible refine eveql_f rfl _ _ _ rfl _ _ _ rfl rfl qe ?_))
  go_ret
  exact ⟨rfl, hB⟩
set_option maxRecDepth 100000 in
set_option maxHeartbeats 2000000 in
theorem eunlike_less (a b : Ev) (hn : ¬ 4096 < a.p.size + b.p.size) (ha : a.P) (hb : b.P) (hab : a ≠ b) (hl : ¬ b.enc.length < a.enc.length) (w : World) (hT : Tab w) :
    Calls Tryd.prog 7 #[.agg (evA a), .agg (evA b)] w fun r w' => r = .returned (.bool true) ∧ Below w.heap.size w w' := by
  obtain ⟨n, hnn⟩ : ∃ n : Nat, n = a.p.size + b.p.size := ⟨_, rfl⟩
  have f1 : IntKind.i64.wrap ((a.p.size : Int) + (b.p.size : Int)) = (n : Int) := (IntWalk.i64_in _ (by omega)).trans (by omega)
  have t1 : decide ((4096 : Int) < (n : Int)) = false := decide_eq_false (by omega)
  have KA := Lib.hid (lgood_at a true (decide_eq_true ha))
  have KB := Lib.hid (lgood_at b true (decide_eq_true hb))
  have KX := Lib.hid (fun w hT => ebytes_yes a ha w hT)
  have KY := Lib.hid (fun w hT => ebytes_yes b hb w hT)
  have qe := ev_eql a b false (decide_eq_false hab)
  have zx := txt_size a.enc
  have zy := txt_size b.enc
  have l1 : ¬ (txt b.enc).size < (txt a.enc).size := by omega
  have l2 : ((txt a.enc).size : Int) ≤ ((txt b.enc).size : Int) := by omega
  have l3 : (txt a.enc).size ≤ (txt b.enc).size := by omega
  have m1 : (txt b.enc).extract 0 (txt a.enc).size = txt (b.enc.take a.enc.length) := by rw [txt_size]; exact txt_to _ _ (by omega)
  have qs : ((txt (b.enc.take a.enc.length)).toList == (txt a.enc).toList) = false := by
    rw [ByteArray.toList_eq, ByteArray.toList_eq, txt_list, txt_list, beq_eq_false_iff_ne]
    intro e
    refine hab (enc_unlike hb ha (b.enc.drop a.enc.length) ?_).symm
    have := (List.take_append_drop a.enc.length b.enc).symm
    rwa [e] at this
  generalize txt (b.enc.take a.enc.length) = tx at *
  clear zx zy
  generalize txt a.enc = sa at *
  generalize txt b.enc = sb at *
  clear hn hnn ha hb hab hl
  go_enter Tryd.func7, Tryd.ntmps7
  go_upto_region 1 with fail
  generalize hw1 : World.alloc _ _ = w1
  have hA : EvAt w1 w.heap.size a := by rw [← hw1]; exact (ev_new w a).on ((Below.refl _ _).alloc (Nat.le_refl _) _)
  have hC : EvAt w1 (w.heap.size + 1) b := by rw [← hw1]; exact ev_new1 _ _ _
  have hB : Below w.heap.size w w1 := by rw [← hw1]; exact ((Below.refl _ _).alloc (Nat.le_refl _) _).alloc (by simp) _
  clear hw1
  generalize w.heap.size + 1 = C at *
  go_wp2_with fail
  refine (ealive w1 (hT.below hB)).mono ?_
  rintro r w2 ⟨rfl, hb2⟩
  replace hA := hA.on hb2
  replace hC := hC.on hb2
  replace hB := hB.trans (hb2.mono hB.size)
  clear hb2
  have a1 := hA.c1
  have c1 := hC.c1
  go_wp2_with (first
    | (with_reducible refine ev_load rfl _ rfl w.heap.size rfl hA ?_)
    | (with_reducible refine ev_load rfl _ rfl C rfl hC ?_)
    | (with_reducible refine ev_load_g (by with_unfolding_all rfl) _ rfl w.heap.size rfl hA ?_)
    | (with_reducible refine ev_load_g (by with_unfolding_all rfl) _ rfl C rfl hC ?_))
  refine (KA.out _).mono ?_
  rintro r w3 ⟨rfl, hb2⟩
  replace hA := hA.on hb2
  replace hC := hC.on hb2
  replace hB := hB.trans (hb2.mono hB.size)
  clear hb2
  clear KA a1 c1
  go_wp2_with (first
    | (with_reducible refine ev_load rfl _ rfl w.heap.size rfl hA ?_)
    | (with_reducible refine ev_load rfl _ rfl C rfl hC ?_)
    | (with_reducible refine ev_load_g (by with_unfolding_all rfl) _ rfl w.heap.size rfl hA ?_)
    | (with_reducible refine ev_load_g (by with_unfolding_all rfl) _ rfl C rfl hC ?_))
  refine (KB.out _).mono ?_
  rintro r w4 ⟨rfl, hb2⟩
  replace hA := hA.on hb2
  replace hC := hC.on hb2
  replace hB := hB.trans (hb2.mono hB.size)
  clear hb2
  clear KB
  go_wp2_with (first
    | (with_reducible refine ev_load rfl _ rfl w.heap.size rfl hA ?_)
    | (with_reducible refine ev_load rfl _ rfl C rfl hC ?_)
    | (with_reducible refine ev_load_g (by with_unfolding_all rfl) _ rfl w.heap.size rfl hA ?_)
    | (with_reducible refine ev_load_g (by with_unfolding_all rfl) _ rfl C rfl hC ?_))
  refine (KX.out _ (hT.below hB)).mono ?_
  rintro r w5 ⟨rfl, hb2⟩
  replace hA := hA.on hb2
  replace hC := hC.on hb2
  replace hB := hB.trans (hb2.mono hB.size)
  clear hb2
  clear KX
  go_wp2_with (first
    | (with_reducible refine ev_load rfl _ rfl w.heap.size rfl hA ?_)
    | (with_reducible refine ev_load rfl _ rfl C rfl hC ?_)
    | (with_reducible refine ev_load_g (by with_unfolding_all rfl) _ rfl w.heap.size rfl hA ?_)
    | (with_reducible refine ev_load_g (by with_unfolding_all rfl) _ rfl C rfl hC ?_))
  refine (KY.out _ (hT.below hB)).mono ?_
  rintro r w6 ⟨rfl, hb2⟩
  replace hA := hA.on hb2
  replace hC := hC.on hb2
  replace hB := hB.trans (hb2.mono hB.size)
  clear hb2
  clear KY
  go_wp2_with (first
    | (with_reducible refine ev_load rfl _ rfl w.heap.size rfl hA ?_)
    | (with_reducible refine ev_load rfl _ rfl C rfl hC ?_)
    | (with_reducible refine ev_load_g (by with_unfolding_all rfl) _ rfl w.heap.size rfl hA ?_)
    | (with_reducible refine ev_load_g (by with_unfolding_all rfl) _ rfl C rfl hC ?_)
    | (with_reducible refine eveql_f rfl _ _ _ rfl _ _ _ rfl rfl qe ?_))
  go_ret
  exact ⟨rfl, hB⟩
theorem eunlike_walk (a b : Ev) (za : a.p.size ≤ 140737488355328) (zb : b.p.size ≤ 140737488355328) (w : World) (hT : Tab w) :
    Calls Tryd.prog 7 #[.agg (evA a), .agg (evA b)] w fun r w' => r = .returned (.bool true) ∧ Below w.heap.size w w' := by
  by_cases hn : 4096 < a.p.size + b.p.size
  · exact eunlike_long a b za zb hn w hT
  by_cases ha : a.P
  · by_cases hb : b.P
    · by_cases hab : a = b
      · exact eunlike_same a b hn ha hb hab w hT
      · by_cases hl : b.enc.length < a.enc.length
        · exact eunlike_more a b hn ha hb hab hl w hT
        · exact eunlike_less a b hn ha hb hab hl w hT
    · exact eunlike_b a b hn ha hb w hT
  · exact eunlike_a a b hn ha w hT
end Go.Proofs.YtggnnlefalcplaaDoor
