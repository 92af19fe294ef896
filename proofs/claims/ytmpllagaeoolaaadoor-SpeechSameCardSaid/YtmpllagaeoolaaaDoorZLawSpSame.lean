/-
  SpeechSame: the walk.
-/
import Derived.Test.YtmpllagaeoolaaaDoorBunS
namespace Go.Proofs.YtmpllagaeoolaaaDoor
open Go.RowKit Mem Sc
theorem regrown_call {f : FuncId} {args : Array Value} {v : Value} {w : World} (K : ∀ w', Below w.heap.size w w' → Calls Tryd.prog f args w' fun r w'' => r = .returned v ∧ Below w'.heap.size w' w'') (d : Nat) (os : Array Obj) :
    Calls Tryd.prog f args (Sort.grow (redrawn w d) os) fun e w'' => e = .returned v ∧ ∃ p : Regrown, w'' = Sort.grow (redrawn w p.d) p.os :=
  Calls.regrown_of (K _ (below_regrown w d os))
set_option maxRecDepth 100000 in
set_option maxHeartbeats 1600000 in
theorem ssame_ga (a b : Mm) (A B : Ms) (hga : greatM a = true) (w : World) (hT : Tab w) (hS : TabS w) (hLa : Lies w a A) (hLb : Lies w b B) :
    Calls Tryd.prog 6 #[.agg (mmA a), .agg (mmA b)] w fun r w' => r = .returned (.bool true) ∧ Below w.heap.size w w' := by
  have HT := Lib.hid hT
  have HS := Lib.hid hS
  have KAl := Lib.hid alive8
  clear hT hS
  have hz := mmA_size hLa.mok
  have hy := mmA_size hLb.mok
  have HLa := Lib.hid hLa
  have HLb := Lib.hid hLb
  have KGa := Lib.hid (great8_at a hLa.mok true hga)
  clear hga hLa hLb
  have hP := mm_new w a
  have hQ := mm_new1 w (.cells (mmA a) 27) b
  have hb1 : Below w.heap.size w (w.alloc (.cells (mmA a) 27)) := (Below.refl _ _).alloc (Nat.le_refl _) _
  have hb2 : Below (w.alloc (.cells (mmA a) 27)).heap.size (w.alloc (.cells (mmA a) 27)) ((w.alloc (.cells (mmA a) 27)).alloc (.cells (mmA b) 27)) := (Below.refl _ _).alloc (Nat.le_refl _) _
  replace hP := hP.on hb2
  have hB := hb1.trans (hb2.mono hb1.size)
  clear hb1 hb2
  go_enter Tryd.func6, Tryd.ntmps6
  go_upto_region 1 with fail
  obtain ⟨P, hPe⟩ : ∃ P, P = w.heap.size := ⟨_, rfl⟩
  obtain ⟨Q, hQe⟩ : ∃ Q, Q = w.heap.size + 1 := ⟨_, rfl⟩
  rw [← hQe] at hQ ⊢
  rw [← hPe] at hP ⊢
  have hPQ : P ≠ Q := by omega
  have hPw : w.heap.size ≤ P := by omega
  have hQw : w.heap.size ≤ Q := by omega
  clear hPe hQe
  generalize World.alloc _ _ = w1 at *
  go_wp2_with fail
  refine (KAl.out _ (HT.out.below hB) (HS.out.below hB)).mono ?_
  rintro r w2 ⟨rfl, hb⟩
  replace hP := hP.on hb
  replace hQ := hQ.on hb
  replace hB := hB.trans (hb.mono hB.size)
  clear hb
  go_wp2_with (first | (with_reducible refine mm_load rfl _ rfl P rfl hP hz ?_) | (with_reducible refine mm_load_g (by with_unfolding_all rfl) _ rfl P rfl hP hz ?_) | (with_reducible refine mm_load rfl _ rfl Q rfl hQ hy ?_) | (with_reducible refine mm_load_g (by with_unfolding_all rfl) _ rfl Q rfl hQ hy ?_))
  refine (KGa.out _).mono ?_
  rintro r w3 ⟨rfl, hb⟩
  replace hP := hP.on hb
  replace hQ := hQ.on hb
  replace hB := hB.trans (hb.mono hB.size)
  clear hb
  go_wp2_with (first | (with_reducible refine mm_load rfl _ rfl P rfl hP hz ?_) | (with_reducible refine mm_load_g (by with_unfolding_all rfl) _ rfl P rfl hP hz ?_) | (with_reducible refine mm_load rfl _ rfl Q rfl hQ hy ?_) | (with_reducible refine mm_load_g (by with_unfolding_all rfl) _ rfl Q rfl hQ hy ?_))
  go_ret
  exact ⟨rfl, hB⟩
set_option maxRecDepth 100000 in
set_option maxHeartbeats 1600000 in
theorem ssame_gb (a b : Mm) (A B : Ms) (hga : greatM a = false) (hgb : greatM b = true) (w : World) (hT : Tab w) (hS : TabS w) (hLa : Lies w a A) (hLb : Lies w b B) :
    Calls Tryd.prog 6 #[.agg (mmA a), .agg (mmA b)] w fun r w' => r = .returned (.bool true) ∧ Below w.heap.size w w' := by
  have HT := Lib.hid hT
  have HS := Lib.hid hS
  have KAl := Lib.hid alive8
  clear hT hS
  have hz := mmA_size hLa.mok
  have hy := mmA_size hLb.mok
  have HLa := Lib.hid hLa
  have HLb := Lib.hid hLb
  have KGa := Lib.hid (great8_at a hLa.mok false hga)
  have KGb := Lib.hid (great8_at b hLb.mok true hgb)
  clear hga hgb hLa hLb
  have hP := mm_new w a
  have hQ := mm_new1 w (.cells (mmA a) 27) b
  have hb1 : Below w.heap.size w (w.alloc (.cells (mmA a) 27)) := (Below.refl _ _).alloc (Nat.le_refl _) _
  have hb2 : Below (w.alloc (.cells (mmA a) 27)).heap.size (w.alloc (.cells (mmA a) 27)) ((w.alloc (.cells (mmA a) 27)).alloc (.cells (mmA b) 27)) := (Below.refl _ _).alloc (Nat.le_refl _) _
  replace hP := hP.on hb2
  have hB := hb1.trans (hb2.mono hb1.size)
  clear hb1 hb2
  go_enter Tryd.func6, Tryd.ntmps6
  go_upto_region 1 with fail
  obtain ⟨P, hPe⟩ : ∃ P, P = w.heap.size := ⟨_, rfl⟩
  obtain ⟨Q, hQe⟩ : ∃ Q, Q = w.heap.size + 1 := ⟨_, rfl⟩
  rw [← hQe] at hQ ⊢
  rw [← hPe] at hP ⊢
  have hPQ : P ≠ Q := by omega
  have hPw : w.heap.size ≤ P := by omega
  have hQw : w.heap.size ≤ Q := by omega
  clear hPe hQe
  generalize World.alloc _ _ = w1 at *
  go_wp2_with fail
  refine (KAl.out _ (HT.out.below hB) (HS.out.below hB)).mono ?_
  rintro r w2 ⟨rfl, hb⟩
  replace hP := hP.on hb
  replace hQ := hQ.on hb
  replace hB := hB.trans (hb.mono hB.size)
  clear hb
  go_wp2_with (first | (with_reducible refine mm_load rfl _ rfl P rfl hP hz ?_) | (with_reducible refine mm_load_g (by with_unfolding_all rfl) _ rfl P rfl hP hz ?_) | (with_reducible refine mm_load rfl _ rfl Q rfl hQ hy ?_) | (with_reducible refine mm_load_g (by with_unfolding_all rfl) _ rfl Q rfl hQ hy ?_))
  refine (KGa.out _).mono ?_
  rintro r w3 ⟨rfl, hb⟩
  replace hP := hP.on hb
  replace hQ := hQ.on hb
  replace hB := hB.trans (hb.mono hB.size)
  clear hb
  go_wp2_with (first | (with_reducible refine mm_load rfl _ rfl P rfl hP hz ?_) | (with_reducible refine mm_load_g (by with_unfolding_all rfl) _ rfl P rfl hP hz ?_) | (with_reducible refine mm_load rfl _ rfl Q rfl hQ hy ?_) | (with_reducible refine mm_load_g (by with_unfolding_all rfl) _ rfl Q rfl hQ hy ?_))
  refine (KGb.out _).mono ?_
  rintro r w4 ⟨rfl, hb⟩
  replace hP := hP.on hb
  replace hQ := hQ.on hb
  replace hB := hB.trans (hb.mono hB.size)
  clear hb
  go_wp2_with (first | (with_reducible refine mm_load rfl _ rfl P rfl hP hz ?_) | (with_reducible refine mm_load_g (by with_unfolding_all rfl) _ rfl P rfl hP hz ?_) | (with_reducible refine mm_load rfl _ rfl Q rfl hQ hy ?_) | (with_reducible refine mm_load_g (by with_unfolding_all rfl) _ rfl Q rfl hQ hy ?_))
  go_ret
  exact ⟨rfl, hB⟩
set_option maxRecDepth 100000 in
set_option maxHeartbeats 1600000 in
theorem ssame_pa (a b : Mm) (A B : Ms) (hga : greatM a = false) (hgb : greatM b = false) (hpa : ¬ A.P) (w : World) (hT : Tab w) (hS : TabS w) (hLa : Lies w a A) (hLb : Lies w b B) :
    Calls Tryd.prog 6 #[.agg (mmA a), .agg (mmA b)] w fun r w' => r = .returned (.bool true) ∧ Below w.heap.size w w' := by
  have HT := Lib.hid hT
  have HS := Lib.hid hS
  have KAl := Lib.hid alive8
  clear hT hS
  have hz := mmA_size hLa.mok
  have hy := mmA_size hLb.mok
  have HLa := Lib.hid hLa
  have HLb := Lib.hid hLb
  have KGa := Lib.hid (great8_at a hLa.mok false hga)
  have KGb := Lib.hid (great8_at b hLb.mok false hgb)
  have KPa := Lib.hid (fun w hL => rgood8_at a A w hL)
  rw [decide_eq_false hpa] at KPa
  clear hga hgb hpa hLa hLb
  have hP := mm_new w a
  have hQ := mm_new1 w (.cells (mmA a) 27) b
  have hb1 : Below w.heap.size w (w.alloc (.cells (mmA a) 27)) := (Below.refl _ _).alloc (Nat.le_refl _) _
  have hb2 : Below (w.alloc (.cells (mmA a) 27)).heap.size (w.alloc (.cells (mmA a) 27)) ((w.alloc (.cells (mmA a) 27)).alloc (.cells (mmA b) 27)) := (Below.refl _ _).alloc (Nat.le_refl _) _
  replace hP := hP.on hb2
  have hB := hb1.trans (hb2.mono hb1.size)
  clear hb1 hb2
  go_enter Tryd.func6, Tryd.ntmps6
  go_upto_region 1 with fail
  obtain ⟨P, hPe⟩ : ∃ P, P = w.heap.size := ⟨_, rfl⟩
  obtain ⟨Q, hQe⟩ : ∃ Q, Q = w.heap.size + 1 := ⟨_, rfl⟩
  rw [← hQe] at hQ ⊢
  rw [← hPe] at hP ⊢
  have hPQ : P ≠ Q := by omega
  have hPw : w.heap.size ≤ P := by omega
  have hQw : w.heap.size ≤ Q := by omega
  clear hPe hQe
  generalize World.alloc _ _ = w1 at *
  go_wp2_with fail
  refine (KAl.out _ (HT.out.below hB) (HS.out.below hB)).mono ?_
  rintro r w2 ⟨rfl, hb⟩
  replace hP := hP.on hb
  replace hQ := hQ.on hb
  replace hB := hB.trans (hb.mono hB.size)
  clear hb
  go_wp2_with (first | (with_reducible refine mm_load rfl _ rfl P rfl hP hz ?_) | (with_reducible refine mm_load_g (by with_unfolding_all rfl) _ rfl P rfl hP hz ?_) | (with_reducible refine mm_load rfl _ rfl Q rfl hQ hy ?_) | (with_reducible refine mm_load_g (by with_unfolding_all rfl) _ rfl Q rfl hQ hy ?_))
  refine (KGa.out _).mono ?_
  rintro r w3 ⟨rfl, hb⟩
  replace hP := hP.on hb
  replace hQ := hQ.on hb
  replace hB := hB.trans (hb.mono hB.size)
  clear hb
  go_wp2_with (first | (with_reducible refine mm_load rfl _ rfl P rfl hP hz ?_) | (with_reducible refine mm_load_g (by with_unfolding_all rfl) _ rfl P rfl hP hz ?_) | (with_reducible refine mm_load rfl _ rfl Q rfl hQ hy ?_) | (with_reducible refine mm_load_g (by with_unfolding_all rfl) _ rfl Q rfl hQ hy ?_))
  refine (KGb.out _).mono ?_
  rintro r w4 ⟨rfl, hb⟩
  replace hP := hP.on hb
  replace hQ := hQ.on hb
  replace hB := hB.trans (hb.mono hB.size)
  clear hb
  go_wp2_with (first | (with_reducible refine mm_load rfl _ rfl P rfl hP hz ?_) | (with_reducible refine mm_load_g (by with_unfolding_all rfl) _ rfl P rfl hP hz ?_) | (with_reducible refine mm_load rfl _ rfl Q rfl hQ hy ?_) | (with_reducible refine mm_load_g (by with_unfolding_all rfl) _ rfl Q rfl hQ hy ?_))
  refine (KPa.out _ (HLa.out.below hB)).mono ?_
  rintro r w5 ⟨rfl, hb⟩
  replace hP := hP.on hb
  replace hQ := hQ.on hb
  replace hB := hB.trans (hb.mono hB.size)
  clear hb
  go_wp2_with (first | (with_reducible refine mm_load rfl _ rfl P rfl hP hz ?_) | (with_reducible refine mm_load_g (by with_unfolding_all rfl) _ rfl P rfl hP hz ?_) | (with_reducible refine mm_load rfl _ rfl Q rfl hQ hy ?_) | (with_reducible refine mm_load_g (by with_unfolding_all rfl) _ rfl Q rfl hQ hy ?_))
  go_ret
  exact ⟨rfl, hB⟩
set_option maxRecDepth 100000 in
set_option maxHeartbeats 1600000 in
theorem ssame_pb (a b : Mm) (A B : Ms) (hga : greatM a = false) (hgb : greatM b = false) (hpa : A.P) (hpb : ¬ B.P) (w : World) (hT : Tab w) (hS : TabS w) (hLa : Lies w a A) (hLb : Lies w b B) :
    Calls Tryd.prog 6 #[.agg (mmA a), .agg (mmA b)] w fun r w' => r = .returned (.bool true) ∧ Below w.heap.size w w' := by
  have HT := Lib.hid hT
  have HS := Lib.hid hS
  have KAl := Lib.hid alive8
  clear hT hS
  have hz := mmA_size hLa.mok
  have hy := mmA_size hLb.mok
  have HLa := Lib.hid hLa
  have HLb := Lib.hid hLb
  have KGa := Lib.hid (great8_at a hLa.mok false hga)
  have KGb := Lib.hid (great8_at b hLb.mok false hgb)
  have KPa := Lib.hid (fun w hL => rgood8_at a A w hL)
  rw [decide_eq_true hpa] at KPa
  have KPb := Lib.hid (fun w hL => rgood8_at b B w hL)
  rw [decide_eq_false hpb] at KPb
  clear hga hgb hpa hpb hLa hLb
  have hP := mm_new w a
  have hQ := mm_new1 w (.cells (mmA a) 27) b
  have hb1 : Below w.heap.size w (w.alloc (.cells (mmA a) 27)) := (Below.refl _ _).alloc (Nat.le_refl _) _
  have hb2 : Below (w.alloc (.cells (mmA a) 27)).heap.size (w.alloc (.cells (mmA a) 27)) ((w.alloc (.cells (mmA a) 27)).alloc (.cells (mmA b) 27)) := (Below.refl _ _).alloc (Nat.le_refl _) _
  replace hP := hP.on hb2
  have hB := hb1.trans (hb2.mono hb1.size)
  clear hb1 hb2
  go_enter Tryd.func6, Tryd.ntmps6
  go_upto_region 1 with fail
  obtain ⟨P, hPe⟩ : ∃ P, P = w.heap.size := ⟨_, rfl⟩
  obtain ⟨Q, hQe⟩ : ∃ Q, Q = w.heap.size + 1 := ⟨_, rfl⟩
  rw [← hQe] at hQ ⊢
  rw [← hPe] at hP ⊢
  have hPQ : P ≠ Q := by omega
  have hPw : w.heap.size ≤ P := by omega
  have hQw : w.heap.size ≤ Q := by omega
  clear hPe hQe
  generalize World.alloc _ _ = w1 at *
  go_wp2_with fail
  refine (KAl.out _ (HT.out.below hB) (HS.out.below hB)).mono ?_
  rintro r w2 ⟨rfl, hb⟩
  replace hP := hP.on hb
  replace hQ := hQ.on hb
  replace hB := hB.trans (hb.mono hB.size)
  clear hb
  go_wp2_with (first | (with_reducible refine mm_load rfl _ rfl P rfl hP hz ?_) | (with_reducible refine mm_load_g (by with_unfolding_all rfl) _ rfl P rfl hP hz ?_) | (with_reducible refine mm_load rfl _ rfl Q rfl hQ hy ?_) | (with_reducible refine mm_load_g (by with_unfolding_all rfl) _ rfl Q rfl hQ hy ?_))
  refine (KGa.out _).mono ?_
  rintro r w3 ⟨rfl, hb⟩
  replace hP := hP.on hb
  replace hQ := hQ.on hb
  replace hB := hB.trans (hb.mono hB.size)
  clear hb
  go_wp2_with (first | (with_reducible refine mm_load rfl _ rfl P rfl hP hz ?_) | (with_reducible refine mm_load_g (by with_unfolding_all rfl) _ rfl P rfl hP hz ?_) | (with_reducible refine mm_load rfl _ rfl Q rfl hQ hy ?_) | (with_reducible refine mm_load_g (by with_unfolding_all rfl) _ rfl Q rfl hQ hy ?_))
  refine (KGb.out _).mono ?_
  rintro r w4 ⟨rfl, hb⟩
  replace hP := hP.on hb
  replace hQ := hQ.on hb
  replace hB := hB.trans (hb.mono hB.size)
  clear hb
  go_wp2_with (first | (with_reducible refine mm_load rfl _ rfl P rfl hP hz ?_) | (with_reducible refine mm_load_g (by with_unfolding_all rfl) _ rfl P rfl hP hz ?_) | (with_reducible refine mm_load rfl _ rfl Q rfl hQ hy ?_) | (with_reducible refine mm_load_g (by with_unfolding_all rfl) _ rfl Q rfl hQ hy ?_))
  refine (KPa.out _ (HLa.out.below hB)).mono ?_
  rintro r w5 ⟨rfl, hb⟩
  replace hP := hP.on hb
  replace hQ := hQ.on hb
  replace hB := hB.trans (hb.mono hB.size)
  clear hb
  go_wp2_with (first | (with_reducible refine mm_load rfl _ rfl P rfl hP hz ?_) | (with_reducible refine mm_load_g (by with_unfolding_all rfl) _ rfl P rfl hP hz ?_) | (with_reducible refine mm_load rfl _ rfl Q rfl hQ hy ?_) | (with_reducible refine mm_load_g (by with_unfolding_all rfl) _ rfl Q rfl hQ hy ?_))
  refine (KPb.out _ (HLb.out.below hB)).mono ?_
  rintro r w6 ⟨rfl, hb⟩
  replace hP := hP.on hb
  replace hQ := hQ.on hb
  replace hB := hB.trans (hb.mono hB.size)
  clear hb
  go_wp2_with (first | (with_reducible refine mm_load rfl _ rfl P rfl hP hz ?_) | (with_reducible refine mm_load_g (by with_unfolding_all rfl) _ rfl P rfl hP hz ?_) | (with_reducible refine mm_load rfl _ rfl Q rfl hQ hy ?_) | (with_reducible refine mm_load_g (by with_unfolding_all rfl) _ rfl Q rfl hQ hy ?_))
  go_ret
  exact ⟨rfl, hB⟩
set_option maxRecDepth 100000 in
set_option maxHeartbeats 1600000 in
theorem ssame_ne (a b : Mm) (A B : Ms) (hga : greatM a = false) (hgb : greatM b = false) (hpa : A.P) (hpb : B.P) (hk : A.kind ≠ B.kind) (w : World) (hT : Tab w) (hS : TabS w) (hLa : Lies w a A) (hLb : Lies w b B) :
    Calls Tryd.prog 6 #[.agg (mmA a), .agg (mmA b)] w fun r w' => r = .returned (.bool true) ∧ Below w.heap.size w w' := by
  have HT := Lib.hid hT
  have HS := Lib.hid hS
  have KAl := Lib.hid alive8
  clear hT hS
  have hz := mmA_size hLa.mok
  have hy := mmA_size hLb.mok
  have HLa := Lib.hid hLa
  have HLb := Lib.hid hLb
  have KGa := Lib.hid (great8_at a hLa.mok false hga)
  have KGb := Lib.hid (great8_at b hLb.mok false hgb)
  have KPa := Lib.hid (fun w hL => rgood8_at a A w hL)
  rw [decide_eq_true hpa] at KPa
  have KPb := Lib.hid (fun w hL => rgood8_at b B w hL)
  rw [decide_eq_true hpb] at KPb
  have KS1 := Lib.hid (fun w h1 h2 => same8_at a b A B w h1 h2 false (decide_eq_false (fun e => hk ((same_iff hpa hpb hLa.ok hLb.ok).1 e).1)))
  have KS2 := Lib.hid (fun w h1 h2 => same8_at a a A A w h1 h2 true (decide_eq_true rfl))
  have ek : (a.kind == b.kind) = false := beq_eq_false_iff_ne.2 (by rw [hLa.kind, hLb.kind]; exact hk)
  clear hga hgb hpa hpb hk hLa hLb
  have hP := mm_new w a
  have hQ := mm_new1 w (.cells (mmA a) 27) b
  have hb1 : Below w.heap.size w (w.alloc (.cells (mmA a) 27)) := (Below.refl _ _).alloc (Nat.le_refl _) _
  have hb2 : Below (w.alloc (.cells (mmA a) 27)).heap.size (w.alloc (.cells (mmA a) 27)) ((w.alloc (.cells (mmA a) 27)).alloc (.cells (mmA b) 27)) := (Below.refl _ _).alloc (Nat.le_refl _) _
  replace hP := hP.on hb2
  have hB := hb1.trans (hb2.mono hb1.size)
  clear hb1 hb2
  go_enter Tryd.func6, Tryd.ntmps6
  go_upto_region 1 with fail
  obtain ⟨P, hPe⟩ : ∃ P, P = w.heap.size := ⟨_, rfl⟩
  obtain ⟨Q, hQe⟩ : ∃ Q, Q = w.heap.size + 1 := ⟨_, rfl⟩
  rw [← hQe] at hQ ⊢
  rw [← hPe] at hP ⊢
  have hPQ : P ≠ Q := by omega
  have hPw : w.heap.size ≤ P := by omega
  have hQw : w.heap.size ≤ Q := by omega
  clear hPe hQe
  generalize World.alloc _ _ = w1 at *
  go_wp2_with fail
  refine (KAl.out _ (HT.out.below hB) (HS.out.below hB)).mono ?_
  rintro r w2 ⟨rfl, hb⟩
  replace hP := hP.on hb
  replace hQ := hQ.on hb
  replace hB := hB.trans (hb.mono hB.size)
  clear hb
  go_wp2_with (first | (with_reducible refine mm_load rfl _ rfl P rfl hP hz ?_) | (with_reducible refine mm_load_g (by with_unfolding_all rfl) _ rfl P rfl hP hz ?_) | (with_reducible refine mm_load rfl _ rfl Q rfl hQ hy ?_) | (with_reducible refine mm_load_g (by with_unfolding_all rfl) _ rfl Q rfl hQ hy ?_))
  refine (KGa.out _).mono ?_
  rintro r w3 ⟨rfl, hb⟩
  replace hP := hP.on hb
  replace hQ := hQ.on hb
  replace hB := hB.trans (hb.mono hB.size)
  clear hb
  go_wp2_with (first | (with_reducible refine mm_load rfl _ rfl P rfl hP hz ?_) | (with_reducible refine mm_load_g (by with_unfolding_all rfl) _ rfl P rfl hP hz ?_) | (with_reducible refine mm_load rfl _ rfl Q rfl hQ hy ?_) | (with_reducible refine mm_load_g (by with_unfolding_all rfl) _ rfl Q rfl hQ hy ?_))
  refine (KGb.out _).mono ?_
  rintro r w4 ⟨rfl, hb⟩
  replace hP := hP.on hb
  replace hQ := hQ.on hb
  replace hB := hB.trans (hb.mono hB.size)
  clear hb
  go_wp2_with (first | (with_reducible refine mm_load rfl _ rfl P rfl hP hz ?_) | (with_reducible refine mm_load_g (by with_unfolding_all rfl) _ rfl P rfl hP hz ?_) | (with_reducible refine mm_load rfl _ rfl Q rfl hQ hy ?_) | (with_reducible refine mm_load_g (by with_unfolding_all rfl) _ rfl Q rfl hQ hy ?_))
  refine (KPa.out _ (HLa.out.below hB)).mono ?_
  rintro r w5 ⟨rfl, hb⟩
  replace hP := hP.on hb
  replace hQ := hQ.on hb
  replace hB := hB.trans (hb.mono hB.size)
  clear hb
  go_wp2_with (first | (with_reducible refine mm_load rfl _ rfl P rfl hP hz ?_) | (with_reducible refine mm_load_g (by with_unfolding_all rfl) _ rfl P rfl hP hz ?_) | (with_reducible refine mm_load rfl _ rfl Q rfl hQ hy ?_) | (with_reducible refine mm_load_g (by with_unfolding_all rfl) _ rfl Q rfl hQ hy ?_))
  refine (KPb.out _ (HLb.out.below hB)).mono ?_
  rintro r w6 ⟨rfl, hb⟩
  replace hP := hP.on hb
  replace hQ := hQ.on hb
  replace hB := hB.trans (hb.mono hB.size)
  clear hb
  go_wp2_with (first | (with_reducible refine mm_load rfl _ rfl P rfl hP hz ?_) | (with_reducible refine mm_load_g (by with_unfolding_all rfl) _ rfl P rfl hP hz ?_) | (with_reducible refine mm_load rfl _ rfl Q rfl hQ hy ?_) | (with_reducible refine mm_load_g (by with_unfolding_all rfl) _ rfl Q rfl hQ hy ?_))
  have hLa' := HLa.out.below hB
  have hLb' := HLb.out.below hB
  have R1 := Lib.hid (fun d os => regrown_call (w := w6) (fun w' hb => KS1.out w' (hLa'.below hb) (hLb'.below hb)) d os)
  have R2 := Lib.hid (fun d os => regrown_call (w := w6) (fun w' hb => KS2.out w' (hLa'.below hb) (hLa'.below hb)) d os)
  have qP : ∀ w', (∃ p : Regrown, w' = Sort.grow (redrawn w6 p.d) p.os) → MmAt w' P a := fun w' ⟨p, h⟩ => by subst h; exact hP.on (below_regrown _ _ _)
  have qQ : ∀ w', (∃ p : Regrown, w' = Sort.grow (redrawn w6 p.d) p.os) → MmAt w' Q b := fun w' ⟨p, h⟩ => by subst h; exact hQ.on (below_regrown _ _ _)
  have c1 : ∀ d os, (Sort.grow (redrawn w6 d) os).cell? ⟨P, 0, none⟩ = some (.int .i64 a.kind) := cell_regrown hP.kind
  have c2 : ∀ d os, (Sort.grow (redrawn w6 d) os).cell? ⟨Q, 0, none⟩ = some (.int .i64 b.kind) := cell_regrown hQ.kind
  clear hLa' hLb' KS1 KS2
  refine wp_region_quiet_below (by kernel_rfl) (by kernel_rfl) ?_
  repeat (first
    | (go_big_quiet_want; (with_reducible refine quiet_mm _ rfl P rfl a hz qP ?_); (simp only [Act.put, List.setIfInBounds_toArray, List.set_cons_zero, List.set_cons_succ]); go_big_quiet_on)
    | (go_big_quiet_want; (with_reducible refine quiet_mm _ rfl Q rfl b hy qQ ?_); (simp only [Act.put, List.setIfInBounds_toArray, List.set_cons_zero, List.set_cons_succ]); go_big_quiet_on)
    | go_big_quiet_step (first | (go_at_call 18; first | (with_reducible exact R1.out _ _) | (with_reducible exact R2.out _ _))))
  refine wpQuiet_nil ?_
  intro _ hw'
  obtain ⟨q, hw''⟩ := hw'
  subst hw''
  have hb := below_regrown w6 q.d q.os
  replace hB := hB.trans (hb.mono hB.size)
  clear hb qP qQ c1 c2 R1 R2 hP hQ
  generalize Sort.grow (redrawn w6 q.d) q.os = w40 at *
  go_wp2_with fail
  go_ret
  exact ⟨rfl, hB⟩
set_option maxRecDepth 100000 in
set_option maxHeartbeats 1600000 in
theorem ssame_yes (a b : Mm) (A B : Ms) (hga : greatM a = false) (hgb : greatM b = false) (hpa : A.P) (hpb : B.P) (hk : A.kind = B.kind) (hpp : A.pay = B.pay) (w : World) (hT : Tab w) (hS : TabS w) (hLa : Lies w a A) (hLb : Lies w b B) :
    Calls Tryd.prog 6 #[.agg (mmA a), .agg (mmA b)] w fun r w' => r = .returned (.bool true) ∧ Below w.heap.size w w' := by
  have HT := Lib.hid hT
  have HS := Lib.hid hS
  have KAl := Lib.hid alive8
  clear hT hS
  have hz := mmA_size hLa.mok
  have hy := mmA_size hLb.mok
  have HLa := Lib.hid hLa
  have HLb := Lib.hid hLb
  have KGa := Lib.hid (great8_at a hLa.mok false hga)
  have KGb := Lib.hid (great8_at b hLb.mok false hgb)
  have KPa := Lib.hid (fun w hL => rgood8_at a A w hL)
  rw [decide_eq_true hpa] at KPa
  have KPb := Lib.hid (fun w hL => rgood8_at b B w hL)
  rw [decide_eq_true hpb] at KPb
  have KS1 := Lib.hid (fun w h1 h2 => same8_at a b A B w h1 h2 true (decide_eq_true ((same_iff hpa hpb hLa.ok hLb.ok).2 ⟨hk, hpp⟩)))
  have KS2 := Lib.hid (fun w h1 h2 => same8_at a a A A w h1 h2 true (decide_eq_true rfl))
  have ek : (a.kind == b.kind) = true := beq_iff_eq.2 (by rw [hLa.kind, hLb.kind]; exact hk)
  have KQa := Lib.hid (fun w hL => rpay8_at a A w hL hpa)
  have KQb := Lib.hid (fun w hL => rpay8_at b B w hL hpb)
  have ep : ((txt A.pay).toList == (txt B.pay).toList) = true := by rw [ba_beq]; exact decide_eq_true (by rw [hpp])
  clear hga hgb hpa hpb hk hpp hLa hLb
  generalize txt A.pay = pa at *
  generalize txt B.pay = pb at *
  have hP := mm_new w a
  have hQ := mm_new1 w (.cells (mmA a) 27) b
  have hb1 : Below w.heap.size w (w.alloc (.cells (mmA a) 27)) := (Below.refl _ _).alloc (Nat.le_refl _) _
  have hb2 : Below (w.alloc (.cells (mmA a) 27)).heap.size (w.alloc (.cells (mmA a) 27)) ((w.alloc (.cells (mmA a) 27)).alloc (.cells (mmA b) 27)) := (Below.refl _ _).alloc (Nat.le_refl _) _
  replace hP := hP.on hb2
  have hB := hb1.trans (hb2.mono hb1.size)
  clear hb1 hb2
  go_enter Tryd.func6, Tryd.ntmps6
  go_upto_region 1 with fail
  obtain ⟨P, hPe⟩ : ∃ P, P = w.heap.size := ⟨_, rfl⟩
  obtain ⟨Q, hQe⟩ : ∃ Q, Q = w.heap.size + 1 := ⟨_, rfl⟩
  rw [← hQe] at hQ ⊢
  rw [← hPe] at hP ⊢
  have hPQ : P ≠ Q := by omega
  have hPw : w.heap.size ≤ P := by omega
  have hQw : w.heap.size ≤ Q := by omega
  clear hPe hQe
  generalize World.alloc _ _ = w1 at *
  go_wp2_with fail
  refine (KAl.out _ (HT.out.below hB) (HS.out.below hB)).mono ?_
  rintro r w2 ⟨rfl, hb⟩
  replace hP := hP.on hb
  replace hQ := hQ.on hb
  replace hB := hB.trans (hb.mono hB.size)
  clear hb
  go_wp2_with (first | (with_reducible refine mm_load rfl _ rfl P rfl hP hz ?_) | (with_reducible refine mm_load_g (by with_unfolding_all rfl) _ rfl P rfl hP hz ?_) | (with_reducible refine mm_load rfl _ rfl Q rfl hQ hy ?_) | (with_reducible refine mm_load_g (by with_unfolding_all rfl) _ rfl Q rfl hQ hy ?_))
  refine (KGa.out _).mono ?_
  rintro r w3 ⟨rfl, hb⟩
  replace hP := hP.on hb
  replace hQ := hQ.on hb
  replace hB := hB.trans (hb.mono hB.size)
  clear hb
  go_wp2_with (first | (with_reducible refine mm_load rfl _ rfl P rfl hP hz ?_) | (with_reducible refine mm_load_g (by with_unfolding_all rfl) _ rfl P rfl hP hz ?_) | (with_reducible refine mm_load rfl _ rfl Q rfl hQ hy ?_) | (with_reducible refine mm_load_g (by with_unfolding_all rfl) _ rfl Q rfl hQ hy ?_))
  refine (KGb.out _).mono ?_
  rintro r w4 ⟨rfl, hb⟩
  replace hP := hP.on hb
  replace hQ := hQ.on hb
  replace hB := hB.trans (hb.mono hB.size)
  clear hb
  go_wp2_with (first | (with_reducible refine mm_load rfl _ rfl P rfl hP hz ?_) | (with_reducible refine mm_load_g (by with_unfolding_all rfl) _ rfl P rfl hP hz ?_) | (with_reducible refine mm_load rfl _ rfl Q rfl hQ hy ?_) | (with_reducible refine mm_load_g (by with_unfolding_all rfl) _ rfl Q rfl hQ hy ?_))
  refine (KPa.out _ (HLa.out.below hB)).mono ?_
  rintro r w5 ⟨rfl, hb⟩
  replace hP := hP.on hb
  replace hQ := hQ.on hb
  replace hB := hB.trans (hb.mono hB.size)
  clear hb
  go_wp2_with (first | (with_reducible refine mm_load rfl _ rfl P rfl hP hz ?_) | (with_reducible refine mm_load_g (by with_unfolding_all rfl) _ rfl P rfl hP hz ?_) | (with_reducible refine mm_load rfl _ rfl Q rfl hQ hy ?_) | (with_reducible refine mm_load_g (by with_unfolding_all rfl) _ rfl Q rfl hQ hy ?_))
  refine (KPb.out _ (HLb.out.below hB)).mono ?_
  rintro r w6 ⟨rfl, hb⟩
  replace hP := hP.on hb
  replace hQ := hQ.on hb
  replace hB := hB.trans (hb.mono hB.size)
  clear hb
  go_wp2_with (first | (with_reducible refine mm_load rfl _ rfl P rfl hP hz ?_) | (with_reducible refine mm_load_g (by with_unfolding_all rfl) _ rfl P rfl hP hz ?_) | (with_reducible refine mm_load rfl _ rfl Q rfl hQ hy ?_) | (with_reducible refine mm_load_g (by with_unfolding_all rfl) _ rfl Q rfl hQ hy ?_))
  have hLa' := HLa.out.below hB
  have hLb' := HLb.out.below hB
  have R1 := Lib.hid (fun d os => regrown_call (w := w6) (fun w' hb => KS1.out w' (hLa'.below hb) (hLb'.below hb)) d os)
  have R2 := Lib.hid (fun d os => regrown_call (w := w6) (fun w' hb => KS2.out w' (hLa'.below hb) (hLa'.below hb)) d os)
  have R3 := Lib.hid (fun d os => regrown_call (w := w6) (fun w' hb => KQa.out w' (hLa'.below hb)) d os)
  have R4 := Lib.hid (fun d os => regrown_call (w := w6) (fun w' hb => KQb.out w' (hLb'.below hb)) d os)
  have qP : ∀ w', (∃ p : Regrown, w' = Sort.grow (redrawn w6 p.d) p.os) → MmAt w' P a := fun w' ⟨p, h⟩ => by subst h; exact hP.on (below_regrown _ _ _)
  have qQ : ∀ w', (∃ p : Regrown, w' = Sort.grow (redrawn w6 p.d) p.os) → MmAt w' Q b := fun w' ⟨p, h⟩ => by subst h; exact hQ.on (below_regrown _ _ _)
  have c1 : ∀ d os, (Sort.grow (redrawn w6 d) os).cell? ⟨P, 0, none⟩ = some (.int .i64 a.kind) := cell_regrown hP.kind
  have c2 : ∀ d os, (Sort.grow (redrawn w6 d) os).cell? ⟨Q, 0, none⟩ = some (.int .i64 b.kind) := cell_regrown hQ.kind
  clear hLa' hLb' KS1 KS2
  refine wp_region_quiet_below (by kernel_rfl) (by kernel_rfl) ?_
  repeat (first
    | (go_big_quiet_want; (with_reducible refine quiet_mm _ rfl P rfl a hz qP ?_); (simp only [Act.put, List.setIfInBounds_toArray, List.set_cons_zero, List.set_cons_succ]); go_big_quiet_on)
    | (go_big_quiet_want; (with_reducible refine quiet_mm _ rfl Q rfl b hy qQ ?_); (simp only [Act.put, List.setIfInBounds_toArray, List.set_cons_zero, List.set_cons_succ]); go_big_quiet_on)
    | go_big_quiet_step (first | (go_at_call 18; first | (with_reducible exact R1.out _ _) | (with_reducible exact R2.out _ _)) | (go_at_call 14; first | (with_reducible exact R3.out _ _) | (with_reducible exact R4.out _ _))))
  refine wpQuiet_nil ?_
  intro _ hw'
  obtain ⟨q, hw''⟩ := hw'
  subst hw''
  have hb := below_regrown w6 q.d q.os
  replace hB := hB.trans (hb.mono hB.size)
  clear hb qP qQ c1 c2 R1 R2 hP hQ
  generalize Sort.grow (redrawn w6 q.d) q.os = w40 at *
  go_wp2_with fail
  go_ret
  exact ⟨rfl, hB⟩
set_option maxRecDepth 100000 in
set_option maxHeartbeats 1600000 in
theorem ssame_no (a b : Mm) (A B : Ms) (hga : greatM a = false) (hgb : greatM b = false) (hpa : A.P) (hpb : B.P) (hk : A.kind = B.kind) (hpp : A.pay ≠ B.pay) (w : World) (hT : Tab w) (hS : TabS w) (hLa : Lies w a A) (hLb : Lies w b B) :
    Calls Tryd.prog 6 #[.agg (mmA a), .agg (mmA b)] w fun r w' => r = .returned (.bool true) ∧ Below w.heap.size w w' := by
  have HT := Lib.hid hT
  have HS := Lib.hid hS
  have KAl := Lib.hid alive8
  clear hT hS
  have hz := mmA_size hLa.mok
  have hy := mmA_size hLb.mok
  have HLa := Lib.hid hLa
  have HLb := Lib.hid hLb
  have KGa := Lib.hid (great8_at a hLa.mok false hga)
  have KGb := Lib.hid (great8_at b hLb.mok false hgb)
  have KPa := Lib.hid (fun w hL => rgood8_at a A w hL)
  rw [decide_eq_true hpa] at KPa
  have KPb := Lib.hid (fun w hL => rgood8_at b B w hL)
  rw [decide_eq_true hpb] at KPb
  have KS1 := Lib.hid (fun w h1 h2 => same8_at a b A B w h1 h2 false (decide_eq_false (fun e => hpp ((same_iff hpa hpb hLa.ok hLb.ok).1 e).2)))
  have KS2 := Lib.hid (fun w h1 h2 => same8_at a a A A w h1 h2 true (decide_eq_true rfl))
  have ek : (a.kind == b.kind) = true := beq_iff_eq.2 (by rw [hLa.kind, hLb.kind]; exact hk)
  have KQa := Lib.hid (fun w hL => rpay8_at a A w hL hpa)
  have KQb := Lib.hid (fun w hL => rpay8_at b B w hL hpb)
  have ep : ((txt A.pay).toList == (txt B.pay).toList) = false := by rw [ba_beq]; exact decide_eq_false (fun e => hpp (by have := congrArg (fun z => z.data.toList) e; exact this))
  clear hga hgb hpa hpb hk hpp hLa hLb
  generalize txt A.pay = pa at *
  generalize txt B.pay = pb at *
  have hP := mm_new w a
  have hQ := mm_new1 w (.cells (mmA a) 27) b
  have hb1 : Below w.heap.size w (w.alloc (.cells (mmA a) 27)) := (Below.refl _ _).alloc (Nat.le_refl _) _
  have hb2 : Below (w.alloc (.cells (mmA a) 27)).heap.size (w.alloc (.cells (mmA a) 27)) ((w.alloc (.cells (mmA a) 27)).alloc (.cells (mmA b) 27)) := (Below.refl _ _).alloc (Nat.le_refl _) _
  replace hP := hP.on hb2
  have hB := hb1.trans (hb2.mono hb1.size)
  clear hb1 hb2
  go_enter Tryd.func6, Tryd.ntmps6
  go_upto_region 1 with fail
  obtain ⟨P, hPe⟩ : ∃ P, P = w.heap.size := ⟨_, rfl⟩
  obtain ⟨Q, hQe⟩ : ∃ Q, Q = w.heap.size + 1 := ⟨_, rfl⟩
  rw [← hQe] at hQ ⊢
  rw [← hPe] at hP ⊢
  have hPQ : P ≠ Q := by omega
  have hPw : w.heap.size ≤ P := by omega
  have hQw : w.heap.size ≤ Q := by omega
  clear hPe hQe
  generalize World.alloc _ _ = w1 at *
  go_wp2_with fail
  refine (KAl.out _ (HT.out.below hB) (HS.out.below hB)).mono ?_
  rintro r w2 ⟨rfl, hb⟩
  replace hP := hP.on hb
  replace hQ := hQ.on hb
  replace hB := hB.trans (hb.mono hB.size)
  clear hb
  go_wp2_with (first | (with_reducible refine mm_load rfl _ rfl P rfl hP hz ?_) | (with_reducible refine mm_load_g (by with_unfolding_all rfl) _ rfl P rfl hP hz ?_) | (with_reducible refine mm_load rfl _ rfl Q rfl hQ hy ?_) | (with_reducible refine mm_load_g (by with_unfolding_all rfl) _ rfl Q rfl hQ hy ?_))
  refine (KGa.out _).mono ?_
  rintro r w3 ⟨rfl, hb⟩
  replace hP := hP.on hb
  replace hQ := hQ.on hb
  replace hB := hB.trans (hb.mono hB.size)
  clear hb
  go_wp2_with (first | (with_reducible refine mm_load rfl _ rfl P rfl hP hz ?_) | (with_reducible refine mm_load_g (by with_unfolding_all rfl) _ rfl P rfl hP hz ?_) | (with_reducible refine mm_load rfl _ rfl Q rfl hQ hy ?_) | (with_reducible refine mm_load_g (by with_unfolding_all rfl) _ rfl Q rfl hQ hy ?_))
  refine (KGb.out _).mono ?_
  rintro r w4 ⟨rfl, hb⟩
  replace hP := hP.on hb
  replace hQ := hQ.on hb
  replace hB := hB.trans (hb.mono hB.size)
  clear hb
  go_wp2_with (first | (with_reducible refine mm_load rfl _ rfl P rfl hP hz ?_) | (with_reducible refine mm_load_g (by with_unfolding_all rfl) _ rfl P rfl hP hz ?_) | (with_reducible refine mm_load rfl _ rfl Q rfl hQ hy ?_) | (with_reducible refine mm_load_g (by with_unfolding_all rfl) _ rfl Q rfl hQ hy ?_))
  refine (KPa.out _ (HLa.out.below hB)).mono ?_
  rintro r w5 ⟨rfl, hb⟩
  replace hP := hP.on hb
  replace hQ := hQ.on hb
  replace hB := hB.trans (hb.mono hB.size)
  clear hb
  go_wp2_with (first | (with_reducible refine mm_load rfl _ rfl P rfl hP hz ?_) | (with_reducible refine mm_load_g (by with_unfolding_all rfl) _ rfl P rfl hP hz ?_) | (with_reducible refine mm_load rfl _ rfl Q rfl hQ hy ?_) | (with_reducible refine mm_load_g (by with_unfolding_all rfl) _ rfl Q rfl hQ hy ?_))
  refine (KPb.out _ (HLb.out.below hB)).mono ?_
  rintro r w6 ⟨rfl, hb⟩
  replace hP := hP.on hb
  replace hQ := hQ.on hb
  replace hB := hB.trans (hb.mono hB.size)
  clear hb
  go_wp2_with (first | (with_reducible refine mm_load rfl _ rfl P rfl hP hz ?_) | (with_reducible refine mm_load_g (by with_unfolding_all rfl) _ rfl P rfl hP hz ?_) | (with_reducible refine mm_load rfl _ rfl Q rfl hQ hy ?_) | (with_reducible refine mm_load_g (by with_unfolding_all rfl) _ rfl Q rfl hQ hy ?_))
  have hLa' := HLa.out.below hB
  have hLb' := HLb.out.below hB
  have R1 := Lib.hid (fun d os => regrown_call (w := w6) (fun w' hb => KS1.out w' (hLa'.below hb) (hLb'.below hb)) d os)
  have R2 := Lib.hid (fun d os => regrown_call (w := w6) (fun w' hb => KS2.out w' (hLa'.below hb) (hLa'.below hb)) d os)
  have R3 := Lib.hid (fun d os => regrown_call (w := w6) (fun w' hb => KQa.out w' (hLa'.below hb)) d os)
  have R4 := Lib.hid (fun d os => regrown_call (w := w6) (fun w' hb => KQb.out w' (hLb'.below hb)) d os)
  have qP : ∀ w', (∃ p : Regrown, w' = Sort.grow (redrawn w6 p.d) p.os) → MmAt w' P a := fun w' ⟨p, h⟩ => by subst h; exact hP.on (below_regrown _ _ _)
  have qQ : ∀ w', (∃ p : Regrown, w' = Sort.grow (redrawn w6 p.d) p.os) → MmAt w' Q b := fun w' ⟨p, h⟩ => by subst h; exact hQ.on (below_regrown _ _ _)
  have c1 : ∀ d os, (Sort.grow (redrawn w6 d) os).cell? ⟨P, 0, none⟩ = some (.int .i64 a.kind) := cell_regrown hP.kind
  have c2 : ∀ d os, (Sort.grow (redrawn w6 d) os).cell? ⟨Q, 0, none⟩ = some (.int .i64 b.kind) := cell_regrown hQ.kind
  clear hLa' hLb' KS1 KS2
  refine wp_region_quiet_below (by kernel_rfl) (by kernel_rfl) ?_
  repeat (first
    | (go_big_quiet_want; (with_reducible refine quiet_mm _ rfl P rfl a hz qP ?_); (simp only [Act.put, List.setIfInBounds_toArray, List.set_cons_zero, List.set_cons_succ]); go_big_quiet_on)
    | (go_big_quiet_want; (with_reducible refine quiet_mm _ rfl Q rfl b hy qQ ?_); (simp only [Act.put, List.setIfInBounds_toArray, List.set_cons_zero, List.set_cons_succ]); go_big_quiet_on)
    | go_big_quiet_step (first | (go_at_call 18; first | (with_reducible exact R1.out _ _) | (with_reducible exact R2.out _ _)) | (go_at_call 14; first | (with_reducible exact R3.out _ _) | (with_reducible exact R4.out _ _))))
  refine wpQuiet_nil ?_
  intro _ hw'
  obtain ⟨q, hw''⟩ := hw'
  subst hw''
  have hb := below_regrown w6 q.d q.os
  replace hB := hB.trans (hb.mono hB.size)
  clear hb qP qQ c1 c2 R1 R2 hP hQ
  generalize Sort.grow (redrawn w6 q.d) q.os = w40 at *
  go_wp2_with fail
  go_ret
  exact ⟨rfl, hB⟩
theorem ssame_walk (a b : Mm) (A B : Ms) (w : World) (hT : Tab w) (hS : TabS w) (hLa : Lies w a A) (hLb : Lies w b B) :
    Calls Tryd.prog 6 #[.agg (mmA a), .agg (mmA b)] w fun r w' => r = .returned (.bool true) ∧ Below w.heap.size w w' := by
  cases hga : greatM a
  · cases hgb : greatM b
    · by_cases hpa : A.P
      · by_cases hpb : B.P
        · by_cases hk : A.kind = B.kind
          · by_cases hpp : A.pay = B.pay
            · exact ssame_yes a b A B hga hgb hpa hpb hk hpp w hT hS hLa hLb
            · exact ssame_no a b A B hga hgb hpa hpb hk hpp w hT hS hLa hLb
          · exact ssame_ne a b A B hga hgb hpa hpb hk w hT hS hLa hLb
        · exact ssame_pb a b A B hga hgb hpa hpb w hT hS hLa hLb
      · exact ssame_pa a b A B hga hgb hpa w hT hS hLa hLb
    · exact ssame_gb a b A B hga hgb w hT hS hLa hLb
  · exact ssame_ga a b A B hga w hT hS hLa hLb
end Go.Proofs.YtmpllagaeoolaaaDoor
