/-
  SpeechBare: the walk.
-/
import Derived.Test.YtmpllagaeoolaaaDoorBunS
namespace Go.Proofs.YtmpllagaeoolaaaDoor
open Go.RowKit Mem Sc
theorem MmAt.setKind {w : World} {k : Nat} {m : Mm} (hh : MmAt w k m) (x : Int) : MmAt (w.setCell ⟨k, 0, none⟩ (.int .i64 x)) k { m with kind := x } := by
  have := Has.set (i := 0) hh (.int .i64 x)
  rwa [show (mmA m).setIfInBounds 0 (.int .i64 x) = mmA { m with kind := x } by simp [mmA, mmC]] at this
set_option maxRecDepth 100000 in
set_option maxHeartbeats 1600000 in
theorem sbare_ga (m o : Mm) (M O : Ms) (hg : greatM m = true) (w : World) (hT : Tab w) (hS : TabS w) (hL : Lies w m M) (hO : Lies w o O) :
    Calls Tryd.prog 8 #[.agg (mmA m), .agg (mmA o)] w fun r w' => r = .returned (.bool true) ∧ Below w.heap.size w w' := by
  have hz := mmA_size hL.mok
  have hy := mmA_size hO.mok
  have HL := Lib.hid hL
  have HO := Lib.hid hO
  have HT := Lib.hid hT
  have HS := Lib.hid hS
  have KAl := Lib.hid alive8
  have KG := Lib.hid (great8_at m hL.mok true hg)
  clear hg hT hS hL hO
  have hP := mm_new w m
  have hQ := mm_new1 w (.cells (mmA m) 27) o
  have hb1 : Below w.heap.size w (w.alloc (.cells (mmA m) 27)) := (Below.refl _ _).alloc (Nat.le_refl _) _
  have hb2 : Below (w.alloc (.cells (mmA m) 27)).heap.size (w.alloc (.cells (mmA m) 27)) ((w.alloc (.cells (mmA m) 27)).alloc (.cells (mmA o) 27)) := (Below.refl _ _).alloc (Nat.le_refl _) _
  replace hP := hP.on hb2
  have hB := hb1.trans (hb2.mono hb1.size)
  clear hb1 hb2
  go_enter Tryd.func8, Tryd.ntmps8
  go_upto_region 1 with fail
  obtain ⟨P, hPe⟩ : ∃ P, P = w.heap.size := ⟨_, rfl⟩
  obtain ⟨Q, hQe⟩ : ∃ Q, Q = w.heap.size + 1 := ⟨_, rfl⟩
  rw [← hQe] at hQ ⊢
  rw [← hPe] at hP ⊢
  have hPQ : P ≠ Q := by omega
  have hPw : w.heap.size ≤ P := by omega
  have hQw : w.heap.size ≤ Q := by omega
  clear hPe hQe
  generalize World.alloc _ _ = w1 at *
  go_wp2_with fail
  refine (KAl.out _ (HT.out.below hB) (HS.out.below hB)).mono ?_
  rintro r w2 ⟨rfl, hb⟩
  replace hP := hP.on hb
  replace hQ := hQ.on hb
  replace hB := hB.trans (hb.mono hB.size)
  clear hb
  go_wp2_with (first | (with_reducible refine mm_load rfl _ rfl P rfl hP hz ?_) | (with_reducible refine mm_load_g (by with_unfolding_all rfl) _ rfl P rfl hP hz ?_) | (with_reducible refine mm_load rfl _ rfl Q rfl hQ hy ?_) | (with_reducible refine mm_load_g (by with_unfolding_all rfl) _ rfl Q rfl hQ hy ?_))
  refine (KG.out _).mono ?_
  rintro r w3 ⟨rfl, hb⟩
  replace hP := hP.on hb
  replace hQ := hQ.on hb
  replace hB := hB.trans (hb.mono hB.size)
  clear hb
  go_wp2_with (first | (with_reducible refine mm_load rfl _ rfl P rfl hP hz ?_) | (with_reducible refine mm_load_g (by with_unfolding_all rfl) _ rfl P rfl hP hz ?_) | (with_reducible refine mm_load rfl _ rfl Q rfl hQ hy ?_) | (with_reducible refine mm_load_g (by with_unfolding_all rfl) _ rfl Q rfl hQ hy ?_))
  go_ret
  exact ⟨rfl, hB⟩
set_option maxRecDepth 100000 in
set_option maxHeartbeats 1600000 in
theorem sbare_gb (m o : Mm) (M O : Ms) (hg : greatM m = false) (hg2 : greatM o = true) (w : World) (hT : Tab w) (hS : TabS w) (hL : Lies w m M) (hO : Lies w o O) :
    Calls Tryd.prog 8 #[.agg (mmA m), .agg (mmA o)] w fun r w' => r = .returned (.bool true) ∧ Below w.heap.size w w' := by
  have hz := mmA_size hL.mok
  have hy := mmA_size hO.mok
  have HL := Lib.hid hL
  have HO := Lib.hid hO
  have HT := Lib.hid hT
  have HS := Lib.hid hS
  have KAl := Lib.hid alive8
  have KG := Lib.hid (great8_at m hL.mok false hg)
  have KG2 := Lib.hid (great8_at o hO.mok true hg2)
  clear hg hg2 hT hS hL hO
  have hP := mm_new w m
  have hQ := mm_new1 w (.cells (mmA m) 27) o
  have hb1 : Below w.heap.size w (w.alloc (.cells (mmA m) 27)) := (Below.refl _ _).alloc (Nat.le_refl _) _
  have hb2 : Below (w.alloc (.cells (mmA m) 27)).heap.size (w.alloc (.cells (mmA m) 27)) ((w.alloc (.cells (mmA m) 27)).alloc (.cells (mmA o) 27)) := (Below.refl _ _).alloc (Nat.le_refl _) _
  replace hP := hP.on hb2
  have hB := hb1.trans (hb2.mono hb1.size)
  clear hb1 hb2
  go_enter Tryd.func8, Tryd.ntmps8
  go_upto_region 1 with fail
  obtain ⟨P, hPe⟩ : ∃ P, P = w.heap.size := ⟨_, rfl⟩
  obtain ⟨Q, hQe⟩ : ∃ Q, Q = w.heap.size + 1 := ⟨_, rfl⟩
  rw [← hQe] at hQ ⊢
  rw [← hPe] at hP ⊢
  have hPQ : P ≠ Q := by omega
  have hPw : w.heap.size ≤ P := by omega
  have hQw : w.heap.size ≤ Q := by omega
  clear hPe hQe
  generalize World.alloc _ _ = w1 at *
  go_wp2_with fail
  refine (KAl.out _ (HT.out.below hB) (HS.out.below hB)).mono ?_
  rintro r w2 ⟨rfl, hb⟩
  replace hP := hP.on hb
  replace hQ := hQ.on hb
  replace hB := hB.trans (hb.mono hB.size)
  clear hb
  go_wp2_with (first | (with_reducible refine mm_load rfl _ rfl P rfl hP hz ?_) | (with_reducible refine mm_load_g (by with_unfolding_all rfl) _ rfl P rfl hP hz ?_) | (with_reducible refine mm_load rfl _ rfl Q rfl hQ hy ?_) | (with_reducible refine mm_load_g (by with_unfolding_all rfl) _ rfl Q rfl hQ hy ?_))
  refine (KG.out _).mono ?_
  rintro r w3 ⟨rfl, hb⟩
  replace hP := hP.on hb
  replace hQ := hQ.on hb
  replace hB := hB.trans (hb.mono hB.size)
  clear hb
  go_wp2_with (first | (with_reducible refine mm_load rfl _ rfl P rfl hP hz ?_) | (with_reducible refine mm_load_g (by with_unfolding_all rfl) _ rfl P rfl hP hz ?_) | (with_reducible refine mm_load rfl _ rfl Q rfl hQ hy ?_) | (with_reducible refine mm_load_g (by with_unfolding_all rfl) _ rfl Q rfl hQ hy ?_))
  refine (KG2.out _).mono ?_
  rintro r w4 ⟨rfl, hb⟩
  replace hP := hP.on hb
  replace hQ := hQ.on hb
  replace hB := hB.trans (hb.mono hB.size)
  clear hb
  go_wp2_with (first | (with_reducible refine mm_load rfl _ rfl P rfl hP hz ?_) | (with_reducible refine mm_load_g (by with_unfolding_all rfl) _ rfl P rfl hP hz ?_) | (with_reducible refine mm_load rfl _ rfl Q rfl hQ hy ?_) | (with_reducible refine mm_load_g (by with_unfolding_all rfl) _ rfl Q rfl hQ hy ?_))
  go_ret
  exact ⟨rfl, hB⟩
set_option maxRecDepth 100000 in
set_option maxHeartbeats 1600000 in
theorem sbare_bad (m o : Mm) (M O : Ms) (hg : greatM m = false) (hg2 : greatM o = false) (hp : ¬ M.P) (w : World) (hT : Tab w) (hS : TabS w) (hL : Lies w m M) (hO : Lies w o O) :
    Calls Tryd.prog 8 #[.agg (mmA m), .agg (mmA o)] w fun r w' => r = .returned (.bool true) ∧ Below w.heap.size w w' := by
  have hz := mmA_size hL.mok
  have hy := mmA_size hO.mok
  have HL := Lib.hid hL
  have HO := Lib.hid hO
  have HT := Lib.hid hT
  have HS := Lib.hid hS
  have KAl := Lib.hid alive8
  have KG := Lib.hid (great8_at m hL.mok false hg)
  have KG2 := Lib.hid (great8_at o hO.mok false hg2)
  have KR := Lib.hid (fun w hL => rgood8_at m M w hL)
  rw [decide_eq_false hp] at KR
  clear hg hg2 hp hT hS hL hO
  have hP := mm_new w m
  have hQ := mm_new1 w (.cells (mmA m) 27) o
  have hb1 : Below w.heap.size w (w.alloc (.cells (mmA m) 27)) := (Below.refl _ _).alloc (Nat.le_refl _) _
  have hb2 : Below (w.alloc (.cells (mmA m) 27)).heap.size (w.alloc (.cells (mmA m) 27)) ((w.alloc (.cells (mmA m) 27)).alloc (.cells (mmA o) 27)) := (Below.refl _ _).alloc (Nat.le_refl _) _
  replace hP := hP.on hb2
  have hB := hb1.trans (hb2.mono hb1.size)
  clear hb1 hb2
  go_enter Tryd.func8, Tryd.ntmps8
  go_upto_region 1 with fail
  obtain ⟨P, hPe⟩ : ∃ P, P = w.heap.size := ⟨_, rfl⟩
  obtain ⟨Q, hQe⟩ : ∃ Q, Q = w.heap.size + 1 := ⟨_, rfl⟩
  rw [← hQe] at hQ ⊢
  rw [← hPe] at hP ⊢
  have hPQ : P ≠ Q := by omega
  have hPw : w.heap.size ≤ P := by omega
  have hQw : w.heap.size ≤ Q := by omega
  clear hPe hQe
  generalize World.alloc _ _ = w1 at *
  go_wp2_with fail
  refine (KAl.out _ (HT.out.below hB) (HS.out.below hB)).mono ?_
  rintro r w2 ⟨rfl, hb⟩
  replace hP := hP.on hb
  replace hQ := hQ.on hb
  replace hB := hB.trans (hb.mono hB.size)
  clear hb
  go_wp2_with (first | (with_reducible refine mm_load rfl _ rfl P rfl hP hz ?_) | (with_reducible refine mm_load_g (by with_unfolding_all rfl) _ rfl P rfl hP hz ?_) | (with_reducible refine mm_load rfl _ rfl Q rfl hQ hy ?_) | (with_reducible refine mm_load_g (by with_unfolding_all rfl) _ rfl Q rfl hQ hy ?_))
  refine (KG.out _).mono ?_
  rintro r w3 ⟨rfl, hb⟩
  replace hP := hP.on hb
  replace hQ := hQ.on hb
  replace hB := hB.trans (hb.mono hB.size)
  clear hb
  go_wp2_with (first | (with_reducible refine mm_load rfl _ rfl P rfl hP hz ?_) | (with_reducible refine mm_load_g (by with_unfolding_all rfl) _ rfl P rfl hP hz ?_) | (with_reducible refine mm_load rfl _ rfl Q rfl hQ hy ?_) | (with_reducible refine mm_load_g (by with_unfolding_all rfl) _ rfl Q rfl hQ hy ?_))
  refine (KG2.out _).mono ?_
  rintro r w4 ⟨rfl, hb⟩
  replace hP := hP.on hb
  replace hQ := hQ.on hb
  replace hB := hB.trans (hb.mono hB.size)
  clear hb
  go_wp2_with (first | (with_reducible refine mm_load rfl _ rfl P rfl hP hz ?_) | (with_reducible refine mm_load_g (by with_unfolding_all rfl) _ rfl P rfl hP hz ?_) | (with_reducible refine mm_load rfl _ rfl Q rfl hQ hy ?_) | (with_reducible refine mm_load_g (by with_unfolding_all rfl) _ rfl Q rfl hQ hy ?_))
  refine (KR.out _ (HL.out.below hB)).mono ?_
  rintro r w5 ⟨rfl, hb⟩
  replace hP := hP.on hb
  replace hQ := hQ.on hb
  replace hB := hB.trans (hb.mono hB.size)
  clear hb
  go_wp2_with (first | (with_reducible refine mm_load rfl _ rfl P rfl hP hz ?_) | (with_reducible refine mm_load_g (by with_unfolding_all rfl) _ rfl P rfl hP hz ?_) | (with_reducible refine mm_load rfl _ rfl Q rfl hQ hy ?_) | (with_reducible refine mm_load_g (by with_unfolding_all rfl) _ rfl Q rfl hQ hy ?_))
  go_ret
  exact ⟨rfl, hB⟩
set_option maxRecDepth 100000 in
set_option maxHeartbeats 1600000 in
theorem sbare_1 (m o : Mm) (M O : Ms) (hg : greatM m = false) (hg2 : greatM o = false) (hp : M.P) (hk : M.kind = 1) (w : World) (hT : Tab w) (hS : TabS w) (hL : Lies w m M) (hO : Lies w o O) :
    Calls Tryd.prog 8 #[.agg (mmA m), .agg (mmA o)] w fun r w' => r = .returned (.bool true) ∧ Below w.heap.size w w' := by
  have hz := mmA_size hL.mok
  have hy := mmA_size hO.mok
  have HL := Lib.hid hL
  have HO := Lib.hid hO
  have HT := Lib.hid hT
  have HS := Lib.hid hS
  have KAl := Lib.hid alive8
  have KG := Lib.hid (great8_at m hL.mok false hg)
  have KG2 := Lib.hid (great8_at o hO.mok false hg2)
  have KR := Lib.hid (fun w hL => rgood8_at m M w hL)
  rw [decide_eq_true hp] at KR
  obtain ⟨X0, hX0⟩ : ∃ X0 : Ms, X0 = ⟨M.kind, M.ver, M.serv, M.height, M.nb, O.names, O.stop, O.heads⟩ := ⟨_, rfl⟩
  have hb : X0.bare = M.bare := by
    rw [hX0]
    unfold Ms.bare
    simp only [hk]
    rfl
  have hpX : X0.P := (bare_P X0).1 (by rw [hb]; exact (bare_P M).2 hp)
  have hkX : X0.kind = M.kind := by rw [hX0]
  have hyX : X0.pay = M.pay := by rw [← pay_bare X0, hb, pay_bare]
  have heX : X0.env = M.env := by unfold Ms.env; rw [hkX, hyX]
  have KB := Lib.hid (fun w hT hS hL => bytes8_yes m M hp w hT hS hL)
  have KX : Hid (∀ (x : Mm) w, Tab w → TabS w → Lies w x X0 → Calls Tryd.prog 12 #[.agg (mmA x)] w fun e w' => e = .returned (.tuple #[.string (txt M.env.enc), .int .i64 0]) ∧ Below w.heap.size w w') := Lib.hid (fun x w hT hS hx => by
    have := bytes8_yes x X0 hpX w hT hS hx
    rwa [heX] at this)
  have KS : Hid (∀ (x : Mm) w, Lies w m M → Lies w x X0 → Calls Tryd.prog 18 #[.agg (mmA m), .agg (mmA x)] w fun e w' => e = .returned (.bool true) ∧ Below w.heap.size w w') := Lib.hid (fun x w hm hx => same8_at m x M X0 w hm hx true (decide_eq_true hb.symm))
  obtain ⟨k, ve, se, he, nb, ⟨sa, sn, sc⟩, st, ⟨ha, hn, hc⟩⟩ := m
  obtain ⟨x, hx⟩ : ∃ x : Mm, x = ⟨k, ve, se, he, nb, o.ns, o.stop, o.hs⟩ := ⟨_, rfl⟩
  have HX := Lib.hid hx
  have KLX : Hid (∀ w, Lies w ⟨k, ve, se, he, nb, ⟨sa, sn, sc⟩, st, ⟨ha, hn, hc⟩⟩ M → Lies w o O → Lies w x X0) := Lib.hid (fun w hm ho => by
    rw [hX0, hx]
    exact ⟨hm.kind, hm.ver, hm.serv, hm.height, hm.nb, ho.stop, ho.n1, ho.l1, ho.names, ho.n2, ho.l2, ho.heads, ⟨ho.ok.1, ho.ok.2.1, ho.ok.2.2⟩⟩)
  have hkk : k = 1 := hL.kind.trans hk
  have t1 : (k == 1) = true := by rw [hkk]; rfl
  have t3 : (k == 3) = false := by rw [hkk]; rfl
  have t4 : (k == 4) = false := by rw [hkk]; rfl
  have t5 : (k == 5) = false := by rw [hkk]; rfl
  have t6 : (k == 6) = false := by rw [hkk]; rfl
  have t7 : (k == 7) = false := by rw [hkk]; rfl
  have hzx : (mmA x).size = 39 := mmA_size (by rw [hx]; exact hO.mok)
  clear hg hg2 hT hS hL hO hp hpX hk hkX hyX heX hb hX0 hx hkk
  generalize txt M.env.enc = enc at *
  generalize hm : (⟨k, ve, se, he, nb, ⟨sa, sn, sc⟩, st, ⟨ha, hn, hc⟩⟩ : Mm) = m at *
  have HM := Lib.hid hm
  clear hm
  have hP := mm_new w m
  have hQ := mm_new1 w (.cells (mmA m) 27) o
  have hb1 : Below w.heap.size w (w.alloc (.cells (mmA m) 27)) := (Below.refl _ _).alloc (Nat.le_refl _) _
  have hb2 : Below (w.alloc (.cells (mmA m) 27)).heap.size (w.alloc (.cells (mmA m) 27)) ((w.alloc (.cells (mmA m) 27)).alloc (.cells (mmA o) 27)) := (Below.refl _ _).alloc (Nat.le_refl _) _
  replace hP := hP.on hb2
  have hB := hb1.trans (hb2.mono hb1.size)
  clear hb1 hb2
  go_enter Tryd.func8, Tryd.ntmps8
  go_upto_region 1 with fail
  obtain ⟨P, hPe⟩ : ∃ P, P = w.heap.size := ⟨_, rfl⟩
  obtain ⟨Q, hQe⟩ : ∃ Q, Q = w.heap.size + 1 := ⟨_, rfl⟩
  rw [← hQe] at hQ ⊢
  rw [← hPe] at hP ⊢
  have hPQ : P ≠ Q := by omega
  have hPw : w.heap.size ≤ P := by omega
  have hQw : w.heap.size ≤ Q := by omega
  clear hPe hQe
  generalize World.alloc _ _ = w1 at *
  go_wp2_with fail
  refine (KAl.out _ (HT.out.below hB) (HS.out.below hB)).mono ?_
  rintro r w2 ⟨rfl, hb⟩
  replace hP := hP.on hb
  replace hQ := hQ.on hb
  replace hB := hB.trans (hb.mono hB.size)
  clear hb
  go_wp2_with (first | (with_reducible refine mm_load rfl _ rfl P rfl hP hz ?_) | (with_reducible refine mm_load_g (by with_unfolding_all rfl) _ rfl P rfl hP hz ?_) | (with_reducible refine mm_load rfl _ rfl Q rfl hQ hy ?_) | (with_reducible refine mm_load_g (by with_unfolding_all rfl) _ rfl Q rfl hQ hy ?_))
  refine (KG.out _).mono ?_
  rintro r w3 ⟨rfl, hb⟩
  replace hP := hP.on hb
  replace hQ := hQ.on hb
  replace hB := hB.trans (hb.mono hB.size)
  clear hb
  go_wp2_with (first | (with_reducible refine mm_load rfl _ rfl P rfl hP hz ?_) | (with_reducible refine mm_load_g (by with_unfolding_all rfl) _ rfl P rfl hP hz ?_) | (with_reducible refine mm_load rfl _ rfl Q rfl hQ hy ?_) | (with_reducible refine mm_load_g (by with_unfolding_all rfl) _ rfl Q rfl hQ hy ?_))
  refine (KG2.out _).mono ?_
  rintro r w4 ⟨rfl, hb⟩
  replace hP := hP.on hb
  replace hQ := hQ.on hb
  replace hB := hB.trans (hb.mono hB.size)
  clear hb
  go_wp2_with (first | (with_reducible refine mm_load rfl _ rfl P rfl hP hz ?_) | (with_reducible refine mm_load_g (by with_unfolding_all rfl) _ rfl P rfl hP hz ?_) | (with_reducible refine mm_load rfl _ rfl Q rfl hQ hy ?_) | (with_reducible refine mm_load_g (by with_unfolding_all rfl) _ rfl Q rfl hQ hy ?_))
  refine (KR.out _ (HL.out.below hB)).mono ?_
  rintro r w5 ⟨rfl, hb⟩
  replace hP := hP.on hb
  replace hQ := hQ.on hb
  replace hB := hB.trans (hb.mono hB.size)
  clear hb
  have hN := mm_newz w5
  have hz0 : (mmA (mmZ 0)).size = 39 := rfl
  have hPl := hP.lt
  go_upto_region 6 with (first | (with_reducible refine mm_load rfl _ rfl Q rfl hQ hy ?_) | (with_reducible refine mm_store rfl _ _ rfl w5.heap.size _ o rfl rfl rfl hy hN hz0 ?_))
  obtain ⟨X, hX⟩ : ∃ X, X = w5.heap.size := ⟨_, rfl⟩
  generalize hw5 : World.setRow _ _ _ = v0
  have hXo : MmAt v0 X o := by rw [← hw5, hX]; exact Has.row hN _
  have hb : Below w5.heap.size w5 v0 := by rw [← hw5]; exact below_setRow ((Below.refl _ _).alloc (Nat.le_refl _) _) (Nat.le_refl _) _
  have hXw : w.heap.size ≤ X := by rw [hX]; exact hB.size
  have hPX : P ≠ X := by omega
  rw [← hX]
  replace hP := hP.on hb
  replace hB := hB.trans (hb.mono hB.size)
  clear hw5 hX hN hz0 hPl hb hQ
  obtain ⟨x0, e0⟩ : ∃ x0 : Mm, x0 = o := ⟨_, rfl⟩
  rw [← e0] at hXo
  have E0' := Lib.hid e0
  clear e0
  have c : v0.cell? ⟨P, 0, none⟩ = some (.int .i64 k) := by have := hP.kind; rw [← HM.out] at this; exact this
  have f := hXo.free 0
  obtain ⟨u, d⟩ : ∃ u, v0.cell? ⟨X, 0, none⟩ = some u := ⟨_, hXo.kind⟩
  have hX1 := hXo.setKind k
  go_upto_region 7 with fail
  replace hP : MmAt (v0.setCell ⟨X, 0, none⟩ (.int .i64 k)) P m := Has.other hP _ _ hPX
  replace hB := hB.setCell (p := ⟨X, 0, none⟩) hXw (.int .i64 k)
  replace hXo := hX1
  clear c f d hX1
  generalize World.setCell _ _ _ = v1 at *
  obtain ⟨x1, e1⟩ : ∃ y : Mm, y = { x0 with kind := k } := ⟨_, rfl⟩
  rw [← e1] at hXo
  have E1 := Lib.hid e1
  clear e1
  have c : v1.cell? ⟨P, 0, none⟩ = some (.int .i64 k) := by have := hP.kind; rw [← HM.out] at this; exact this
  go_upto_region 9 with fail
  clear c
  have c : v1.cell? ⟨P, 1, none⟩ = some (.int .i64 ve) := by have := hP.ver; rw [← HM.out] at this; exact this
  have f := hXo.free 1
  obtain ⟨u, d⟩ : ∃ u, v1.cell? ⟨X, 1, none⟩ = some u := ⟨_, hXo.ver⟩
  have hX1 := hXo.setVer ve
  go_upto_region 10 with fail
  replace hP : MmAt (v1.setCell ⟨X, 1, none⟩ (.int .i64 ve)) P m := Has.other hP _ _ hPX
  replace hB := hB.setCell (p := ⟨X, 1, none⟩) hXw (.int .i64 ve)
  replace hXo := hX1
  clear c f d hX1
  generalize World.setCell _ _ _ = v2 at *
  obtain ⟨x2, e1⟩ : ∃ y : Mm, y = { x1 with ver := ve } := ⟨_, rfl⟩
  rw [← e1] at hXo
  have E2 := Lib.hid e1
  clear e1
  have c : v2.cell? ⟨P, 3, none⟩ = some (.int .i64 he) := by have := hP.height; rw [← HM.out] at this; exact this
  have f := hXo.free 3
  obtain ⟨u, d⟩ : ∃ u, v2.cell? ⟨X, 3, none⟩ = some u := ⟨_, hXo.height⟩
  have hX1 := hXo.setHeight he
  go_upto_region 11 with fail
  replace hP : MmAt (v2.setCell ⟨X, 3, none⟩ (.int .i64 he)) P m := Has.other hP _ _ hPX
  replace hB := hB.setCell (p := ⟨X, 3, none⟩) hXw (.int .i64 he)
  replace hXo := hX1
  clear c f d hX1
  generalize World.setCell _ _ _ = v3 at *
  obtain ⟨x3, e1⟩ : ∃ y : Mm, y = { x2 with height := he } := ⟨_, rfl⟩
  rw [← e1] at hXo
  have E3 := Lib.hid e1
  clear e1
  have c : v3.cell? ⟨P, 2, none⟩ = some (.int .i64 se) := by have := hP.serv; rw [← HM.out] at this; exact this
  have f := hXo.free 2
  obtain ⟨u, d⟩ : ∃ u, v3.cell? ⟨X, 2, none⟩ = some u := ⟨_, hXo.serv⟩
  have hX1 := hXo.setServ se
  go_upto_region 12 with fail
  replace hP : MmAt (v3.setCell ⟨X, 2, none⟩ (.int .i64 se)) P m := Has.other hP _ _ hPX
  replace hB := hB.setCell (p := ⟨X, 2, none⟩) hXw (.int .i64 se)
  replace hXo := hX1
  clear c f d hX1
  generalize World.setCell _ _ _ = v4 at *
  obtain ⟨x4, e1⟩ : ∃ y : Mm, y = { x3 with serv := se } := ⟨_, rfl⟩
  rw [← e1] at hXo
  have E4 := Lib.hid e1
  clear e1
  have c : v4.cell? ⟨P, 4, none⟩ = some (.int .i64 nb) := by have := hP.nb; rw [← HM.out] at this; exact this
  have f := hXo.free 4
  obtain ⟨u, d⟩ : ∃ u, v4.cell? ⟨X, 4, none⟩ = some u := ⟨_, hXo.nb⟩
  have hX1 := hXo.setNb nb
  go_upto_region 24 with fail
  replace hP : MmAt (v4.setCell ⟨X, 4, none⟩ (.int .i64 nb)) P m := Has.other hP _ _ hPX
  replace hB := hB.setCell (p := ⟨X, 4, none⟩) hXw (.int .i64 nb)
  replace hXo := hX1
  clear c f d hX1
  generalize World.setCell _ _ _ = v5 at *
  obtain ⟨x5, e1⟩ : ∃ y : Mm, y = { x4 with nb := nb } := ⟨_, rfl⟩
  rw [← e1] at hXo
  have E5 := Lib.hid e1
  clear e1
  have hxx : x5 = x := by rw [E5.out, E4.out, E3.out, E2.out, E1.out, E0'.out, HX.out]
  rw [hxx] at hXo
  clear hxx
  have hB1 := hB
  go_wp2_with (first | (with_reducible refine mm_load rfl _ rfl P rfl hP hz ?_) | (with_reducible refine mm_load_g (by with_unfolding_all rfl) _ rfl P rfl hP hz ?_) | (with_reducible refine mm_load rfl _ rfl X rfl hXo hzx ?_) | (with_reducible refine mm_load_g (by with_unfolding_all rfl) _ rfl X rfl hXo hzx ?_))
  refine (KB.out _ (HT.out.below hB) (HS.out.below hB) (HL.out.below hB)).mono ?_
  rintro r w41 ⟨rfl, hb⟩
  replace hP := hP.on hb
  replace hXo := hXo.on hb
  replace hB := hB.trans (hb.mono hB.size)
  clear hb
  go_wp2_with (first | (with_reducible refine mm_load rfl _ rfl P rfl hP hz ?_) | (with_reducible refine mm_load_g (by with_unfolding_all rfl) _ rfl P rfl hP hz ?_) | (with_reducible refine mm_load rfl _ rfl X rfl hXo hzx ?_) | (with_reducible refine mm_load_g (by with_unfolding_all rfl) _ rfl X rfl hXo hzx ?_))
  refine (KX.out x _ (HT.out.below hB) (HS.out.below hB) (KLX.out _ (HL.out.below hB) (HO.out.below hB))).mono ?_
  rintro r w42 ⟨rfl, hb⟩
  replace hP := hP.on hb
  replace hXo := hXo.on hb
  replace hB := hB.trans (hb.mono hB.size)
  clear hb
  go_wp2_with (first | (with_reducible refine mm_load rfl _ rfl P rfl hP hz ?_) | (with_reducible refine mm_load_g (by with_unfolding_all rfl) _ rfl P rfl hP hz ?_) | (with_reducible refine mm_load rfl _ rfl X rfl hXo hzx ?_) | (with_reducible refine mm_load_g (by with_unfolding_all rfl) _ rfl X rfl hXo hzx ?_))
  refine (KS.out x _ (HL.out.below hB) (KLX.out _ (HL.out.below hB) (HO.out.below hB))).mono ?_
  rintro r w43 ⟨rfl, hb⟩
  replace hP := hP.on hb
  replace hXo := hXo.on hb
  replace hB := hB.trans (hb.mono hB.size)
  clear hb
  go_wp2_with (first | (with_reducible refine mm_load rfl _ rfl P rfl hP hz ?_) | (with_reducible refine mm_load_g (by with_unfolding_all rfl) _ rfl P rfl hP hz ?_) | (with_reducible refine mm_load rfl _ rfl X rfl hXo hzx ?_) | (with_reducible refine mm_load_g (by with_unfolding_all rfl) _ rfl X rfl hXo hzx ?_))
  go_ret
  exact ⟨rfl, hB⟩
set_option maxRecDepth 100000 in
set_option maxHeartbeats 1600000 in
theorem sbare_3 (m o : Mm) (M O : Ms) (hg : greatM m = false) (hg2 : greatM o = false) (hp : M.P) (hk : M.kind = 3) (w : World) (hT : Tab w) (hS : TabS w) (hL : Lies w m M) (hO : Lies w o O) :
    Calls Tryd.prog 8 #[.agg (mmA m), .agg (mmA o)] w fun r w' => r = .returned (.bool true) ∧ Below w.heap.size w w' := by
  have hz := mmA_size hL.mok
  have hy := mmA_size hO.mok
  have HL := Lib.hid hL
  have HO := Lib.hid hO
  have HT := Lib.hid hT
  have HS := Lib.hid hS
  have KAl := Lib.hid alive8
  have KG := Lib.hid (great8_at m hL.mok false hg)
  have KG2 := Lib.hid (great8_at o hO.mok false hg2)
  have KR := Lib.hid (fun w hL => rgood8_at m M w hL)
  rw [decide_eq_true hp] at KR
  obtain ⟨X0, hX0⟩ : ∃ X0 : Ms, X0 = ⟨M.kind, M.ver, O.serv, O.height, O.nb, M.names, M.stop, O.heads⟩ := ⟨_, rfl⟩
  have hb : X0.bare = M.bare := by
    rw [hX0]
    unfold Ms.bare
    simp only [hk]
    rfl
  have hpX : X0.P := (bare_P X0).1 (by rw [hb]; exact (bare_P M).2 hp)
  have hkX : X0.kind = M.kind := by rw [hX0]
  have hyX : X0.pay = M.pay := by rw [← pay_bare X0, hb, pay_bare]
  have heX : X0.env = M.env := by unfold Ms.env; rw [hkX, hyX]
  have KB := Lib.hid (fun w hT hS hL => bytes8_yes m M hp w hT hS hL)
  have KX : Hid (∀ (x : Mm) w, Tab w → TabS w → Lies w x X0 → Calls Tryd.prog 12 #[.agg (mmA x)] w fun e w' => e = .returned (.tuple #[.string (txt M.env.enc), .int .i64 0]) ∧ Below w.heap.size w w') := Lib.hid (fun x w hT hS hx => by
    have := bytes8_yes x X0 hpX w hT hS hx
    rwa [heX] at this)
  have KS : Hid (∀ (x : Mm) w, Lies w m M → Lies w x X0 → Calls Tryd.prog 18 #[.agg (mmA m), .agg (mmA x)] w fun e w' => e = .returned (.bool true) ∧ Below w.heap.size w w') := Lib.hid (fun x w hm hx => same8_at m x M X0 w hm hx true (decide_eq_true hb.symm))
  obtain ⟨k, ve, se, he, nb, ⟨sa, sn, sc⟩, st, ⟨ha, hn, hc⟩⟩ := m
  obtain ⟨x, hx⟩ : ∃ x : Mm, x = ⟨k, ve, o.serv, o.height, o.nb, ⟨sa, sn, sc⟩, st, o.hs⟩ := ⟨_, rfl⟩
  have HX := Lib.hid hx
  have KLX : Hid (∀ w, Lies w ⟨k, ve, se, he, nb, ⟨sa, sn, sc⟩, st, ⟨ha, hn, hc⟩⟩ M → Lies w o O → Lies w x X0) := Lib.hid (fun w hm ho => by
    rw [hX0, hx]
    exact ⟨hm.kind, hm.ver, ho.serv, ho.height, ho.nb, hm.stop, hm.n1, hm.l1, hm.names, ho.n2, ho.l2, ho.heads, ⟨hm.ok.1, hm.ok.2.1, ho.ok.2.2⟩⟩)
  have hkk : k = 3 := hL.kind.trans hk
  have t1 : (k == 1) = false := by rw [hkk]; rfl
  have t3 : (k == 3) = true := by rw [hkk]; rfl
  have t4 : (k == 4) = false := by rw [hkk]; rfl
  have t5 : (k == 5) = false := by rw [hkk]; rfl
  have t6 : (k == 6) = false := by rw [hkk]; rfl
  have t7 : (k == 7) = false := by rw [hkk]; rfl
  have h32 : st.length = 32 := hL.mok
  have H32 := Lib.hid h32
  have s6 := byteCells_32 h32
  have hzx : (mmA x).size = 39 := mmA_size (by rw [hx]; exact hL.mok)
  have HOK : Hid (o.ok) := Lib.hid hO.mok
  have HMK : Hid ((⟨k, ve, se, he, nb, ⟨sa, sn, sc⟩, st, ⟨ha, hn, hc⟩⟩ : Mm).ok) := Lib.hid hL.mok
  clear hg hg2 hT hS hL hO hp hpX hk hkX hyX heX hb hX0 hx hkk h32
  generalize txt M.env.enc = enc at *
  generalize hm : (⟨k, ve, se, he, nb, ⟨sa, sn, sc⟩, st, ⟨ha, hn, hc⟩⟩ : Mm) = m at *
  have HM := Lib.hid hm
  clear hm
  have hP := mm_new w m
  have hQ := mm_new1 w (.cells (mmA m) 27) o
  have hb1 : Below w.heap.size w (w.alloc (.cells (mmA m) 27)) := (Below.refl _ _).alloc (Nat.le_refl _) _
  have hb2 : Below (w.alloc (.cells (mmA m) 27)).heap.size (w.alloc (.cells (mmA m) 27)) ((w.alloc (.cells (mmA m) 27)).alloc (.cells (mmA o) 27)) := (Below.refl _ _).alloc (Nat.le_refl _) _
  replace hP := hP.on hb2
  have hB := hb1.trans (hb2.mono hb1.size)
  clear hb1 hb2
  go_enter Tryd.func8, Tryd.ntmps8
  go_upto_region 1 with fail
  obtain ⟨P, hPe⟩ : ∃ P, P = w.heap.size := ⟨_, rfl⟩
  obtain ⟨Q, hQe⟩ : ∃ Q, Q = w.heap.size + 1 := ⟨_, rfl⟩
  rw [← hQe] at hQ ⊢
  rw [← hPe] at hP ⊢
  have hPQ : P ≠ Q := by omega
  have hPw : w.heap.size ≤ P := by omega
  have hQw : w.heap.size ≤ Q := by omega
  clear hPe hQe
  generalize World.alloc _ _ = w1 at *
  go_wp2_with fail
  refine (KAl.out _ (HT.out.below hB) (HS.out.below hB)).mono ?_
  rintro r w2 ⟨rfl, hb⟩
  replace hP := hP.on hb
  replace hQ := hQ.on hb
  replace hB := hB.trans (hb.mono hB.size)
  clear hb
  go_wp2_with (first | (with_reducible refine mm_load rfl _ rfl P rfl hP hz ?_) | (with_reducible refine mm_load_g (by with_unfolding_all rfl) _ rfl P rfl hP hz ?_) | (with_reducible refine mm_load rfl _ rfl Q rfl hQ hy ?_) | (with_reducible refine mm_load_g (by with_unfolding_all rfl) _ rfl Q rfl hQ hy ?_))
  refine (KG.out _).mono ?_
  rintro r w3 ⟨rfl, hb⟩
  replace hP := hP.on hb
  replace hQ := hQ.on hb
  replace hB := hB.trans (hb.mono hB.size)
  clear hb
  go_wp2_with (first | (with_reducible refine mm_load rfl _ rfl P rfl hP hz ?_) | (with_reducible refine mm_load_g (by with_unfolding_all rfl) _ rfl P rfl hP hz ?_) | (with_reducible refine mm_load rfl _ rfl Q rfl hQ hy ?_) | (with_reducible refine mm_load_g (by with_unfolding_all rfl) _ rfl Q rfl hQ hy ?_))
  refine (KG2.out _).mono ?_
  rintro r w4 ⟨rfl, hb⟩
  replace hP := hP.on hb
  replace hQ := hQ.on hb
  replace hB := hB.trans (hb.mono hB.size)
  clear hb
  go_wp2_with (first | (with_reducible refine mm_load rfl _ rfl P rfl hP hz ?_) | (with_reducible refine mm_load_g (by with_unfolding_all rfl) _ rfl P rfl hP hz ?_) | (with_reducible refine mm_load rfl _ rfl Q rfl hQ hy ?_) | (with_reducible refine mm_load_g (by with_unfolding_all rfl) _ rfl Q rfl hQ hy ?_))
  refine (KR.out _ (HL.out.below hB)).mono ?_
  rintro r w5 ⟨rfl, hb⟩
  replace hP := hP.on hb
  replace hQ := hQ.on hb
  replace hB := hB.trans (hb.mono hB.size)
  clear hb
  have hN := mm_newz w5
  have hz0 : (mmA (mmZ 0)).size = 39 := rfl
  have hPl := hP.lt
  go_upto_region 6 with (first | (with_reducible refine mm_load rfl _ rfl Q rfl hQ hy ?_) | (with_reducible refine mm_store rfl _ _ rfl w5.heap.size _ o rfl rfl rfl hy hN hz0 ?_))
  obtain ⟨X, hX⟩ : ∃ X, X = w5.heap.size := ⟨_, rfl⟩
  generalize hw5 : World.setRow _ _ _ = v0
  have hXo : MmAt v0 X o := by rw [← hw5, hX]; exact Has.row hN _
  have hb : Below w5.heap.size w5 v0 := by rw [← hw5]; exact below_setRow ((Below.refl _ _).alloc (Nat.le_refl _) _) (Nat.le_refl _) _
  have hXw : w.heap.size ≤ X := by rw [hX]; exact hB.size
  have hPX : P ≠ X := by omega
  rw [← hX]
  replace hP := hP.on hb
  replace hB := hB.trans (hb.mono hB.size)
  clear hw5 hX hN hz0 hPl hb hQ
  obtain ⟨x0, e0⟩ : ∃ x0 : Mm, x0 = o := ⟨_, rfl⟩
  rw [← e0] at hXo
  have E0' := Lib.hid e0
  clear e0
  have c : v0.cell? ⟨P, 0, none⟩ = some (.int .i64 k) := by have := hP.kind; rw [← HM.out] at this; exact this
  have f := hXo.free 0
  obtain ⟨u, d⟩ : ∃ u, v0.cell? ⟨X, 0, none⟩ = some u := ⟨_, hXo.kind⟩
  have hX1 := hXo.setKind k
  go_upto_region 7 with fail
  replace hP : MmAt (v0.setCell ⟨X, 0, none⟩ (.int .i64 k)) P m := Has.other hP _ _ hPX
  replace hB := hB.setCell (p := ⟨X, 0, none⟩) hXw (.int .i64 k)
  replace hXo := hX1
  clear c f d hX1
  generalize World.setCell _ _ _ = v1 at *
  obtain ⟨x1, e1⟩ : ∃ y : Mm, y = { x0 with kind := k } := ⟨_, rfl⟩
  rw [← e1] at hXo
  have E1 := Lib.hid e1
  clear e1
  have c : v1.cell? ⟨P, 0, none⟩ = some (.int .i64 k) := by have := hP.kind; rw [← HM.out] at this; exact this
  go_upto_region 14 with fail
  clear c
  have c : v1.cell? ⟨P, 1, none⟩ = some (.int .i64 ve) := by have := hP.ver; rw [← HM.out] at this; exact this
  have f := hXo.free 1
  obtain ⟨u, d⟩ : ∃ u, v1.cell? ⟨X, 1, none⟩ = some u := ⟨_, hXo.ver⟩
  have hX1 := hXo.setVer ve
  go_upto_region 15 with fail
  replace hP : MmAt (v1.setCell ⟨X, 1, none⟩ (.int .i64 ve)) P m := Has.other hP _ _ hPX
  replace hB := hB.setCell (p := ⟨X, 1, none⟩) hXw (.int .i64 ve)
  replace hXo := hX1
  clear c f d hX1
  generalize World.setCell _ _ _ = v2 at *
  obtain ⟨x2, e1⟩ : ∃ y : Mm, y = { x1 with ver := ve } := ⟨_, rfl⟩
  rw [← e1] at hXo
  have E2 := Lib.hid e1
  clear e1
  have c : v2.cell? ⟨P, 5, none⟩ = some (.slice sa sn sc) := by have := hP.ns; rw [← HM.out] at this; exact this
  have f := hXo.free 5
  obtain ⟨u, d⟩ : ∃ u, v2.cell? ⟨X, 5, none⟩ = some u := ⟨_, hXo.ns⟩
  have hX1 := hXo.setNs sa sn sc
  go_upto_region 16 with fail
  replace hP : MmAt (v2.setCell ⟨X, 5, none⟩ (.slice sa sn sc)) P m := Has.other hP _ _ hPX
  replace hB := hB.setCell (p := ⟨X, 5, none⟩) hXw (.slice sa sn sc)
  replace hXo := hX1
  clear c f d hX1
  generalize World.setCell _ _ _ = v3 at *
  obtain ⟨x3, e1⟩ : ∃ y : Mm, y = { x2 with ns := ⟨sa, sn, sc⟩ } := ⟨_, rfl⟩
  rw [← e1] at hXo
  have E3 := Lib.hid e1
  clear e1
  have r6 : v3.rangeAt P 6 (Lib.byteCells st) := by have := hP.stop; rw [← HM.out] at this; exact this
  have hok : (x3 : Mm).ok := by rw [E3.out, E2.out, E1.out, E0'.out]; exact HOK.out
  have th := hXo.there hok 6 32 (by omega)
  have hX1 := hXo.setStop hok H32.out
  go_upto_region 24 with (first
    | (with_reducible refine hl_load_mid rfl _ rfl P 6 rfl st r6 s6 ?_)
    | (with_reducible refine hl_store_mid rfl _ _ rfl X 6 st rfl rfl H32.out th ?_))
  replace hP : MmAt (v3.setCells X 6 (Lib.byteCells st)) P m := setCells_has hP hPX
  replace hB := below_setCells hB X 6 (Lib.byteCells st) hXw
  replace hXo := hX1
  clear r6 hok th hX1
  generalize World.setCells _ _ _ _ = v4 at *
  obtain ⟨x4, e1⟩ : ∃ y : Mm, y = { x3 with stop := st } := ⟨_, rfl⟩
  rw [← e1] at hXo
  have E4 := Lib.hid e1
  clear e1
  have hxx : x4 = x := by rw [E4.out, E3.out, E2.out, E1.out, E0'.out, HX.out]
  rw [hxx] at hXo
  clear hxx
  have hB1 := hB
  go_wp2_with (first | (with_reducible refine mm_load rfl _ rfl P rfl hP hz ?_) | (with_reducible refine mm_load_g (by with_unfolding_all rfl) _ rfl P rfl hP hz ?_) | (with_reducible refine mm_load rfl _ rfl X rfl hXo hzx ?_) | (with_reducible refine mm_load_g (by with_unfolding_all rfl) _ rfl X rfl hXo hzx ?_))
  refine (KB.out _ (HT.out.below hB) (HS.out.below hB) (HL.out.below hB)).mono ?_
  rintro r w41 ⟨rfl, hb⟩
  replace hP := hP.on hb
  replace hXo := hXo.on hb
  replace hB := hB.trans (hb.mono hB.size)
  clear hb
  go_wp2_with (first | (with_reducible refine mm_load rfl _ rfl P rfl hP hz ?_) | (with_reducible refine mm_load_g (by with_unfolding_all rfl) _ rfl P rfl hP hz ?_) | (with_reducible refine mm_load rfl _ rfl X rfl hXo hzx ?_) | (with_reducible refine mm_load_g (by with_unfolding_all rfl) _ rfl X rfl hXo hzx ?_))
  refine (KX.out x _ (HT.out.below hB) (HS.out.below hB) (KLX.out _ (HL.out.below hB) (HO.out.below hB))).mono ?_
  rintro r w42 ⟨rfl, hb⟩
  replace hP := hP.on hb
  replace hXo := hXo.on hb
  replace hB := hB.trans (hb.mono hB.size)
  clear hb
  go_wp2_with (first | (with_reducible refine mm_load rfl _ rfl P rfl hP hz ?_) | (with_reducible refine mm_load_g (by with_unfolding_all rfl) _ rfl P rfl hP hz ?_) | (with_reducible refine mm_load rfl _ rfl X rfl hXo hzx ?_) | (with_reducible refine mm_load_g (by with_unfolding_all rfl) _ rfl X rfl hXo hzx ?_))
  refine (KS.out x _ (HL.out.below hB) (KLX.out _ (HL.out.below hB) (HO.out.below hB))).mono ?_
  rintro r w43 ⟨rfl, hb⟩
  replace hP := hP.on hb
  replace hXo := hXo.on hb
  replace hB := hB.trans (hb.mono hB.size)
  clear hb
  go_wp2_with (first | (with_reducible refine mm_load rfl _ rfl P rfl hP hz ?_) | (with_reducible refine mm_load_g (by with_unfolding_all rfl) _ rfl P rfl hP hz ?_) | (with_reducible refine mm_load rfl _ rfl X rfl hXo hzx ?_) | (with_reducible refine mm_load_g (by with_unfolding_all rfl) _ rfl X rfl hXo hzx ?_))
  go_ret
  exact ⟨rfl, hB⟩
set_option maxRecDepth 100000 in
set_option maxHeartbeats 1600000 in
theorem sbare_4 (m o : Mm) (M O : Ms) (hg : greatM m = false) (hg2 : greatM o = false) (hp : M.P) (hk : M.kind = 4) (w : World) (hT : Tab w) (hS : TabS w) (hL : Lies w m M) (hO : Lies w o O) :
    Calls Tryd.prog 8 #[.agg (mmA m), .agg (mmA o)] w fun r w' => r = .returned (.bool true) ∧ Below w.heap.size w w' := by
  have hz := mmA_size hL.mok
  have hy := mmA_size hO.mok
  have HL := Lib.hid hL
  have HO := Lib.hid hO
  have HT := Lib.hid hT
  have HS := Lib.hid hS
  have KAl := Lib.hid alive8
  have KG := Lib.hid (great8_at m hL.mok false hg)
  have KG2 := Lib.hid (great8_at o hO.mok false hg2)
  have KR := Lib.hid (fun w hL => rgood8_at m M w hL)
  rw [decide_eq_true hp] at KR
  obtain ⟨X0, hX0⟩ : ∃ X0 : Ms, X0 = ⟨M.kind, O.ver, O.serv, O.height, O.nb, O.names, O.stop, M.heads⟩ := ⟨_, rfl⟩
  have hb : X0.bare = M.bare := by
    rw [hX0]
    unfold Ms.bare
    simp only [hk]
    rfl
  have hpX : X0.P := (bare_P X0).1 (by rw [hb]; exact (bare_P M).2 hp)
  have hkX : X0.kind = M.kind := by rw [hX0]
  have hyX : X0.pay = M.pay := by rw [← pay_bare X0, hb, pay_bare]
  have heX : X0.env = M.env := by unfold Ms.env; rw [hkX, hyX]
  have KB := Lib.hid (fun w hT hS hL => bytes8_yes m M hp w hT hS hL)
  have KX : Hid (∀ (x : Mm) w, Tab w → TabS w → Lies w x X0 → Calls Tryd.prog 12 #[.agg (mmA x)] w fun e w' => e = .returned (.tuple #[.string (txt M.env.enc), .int .i64 0]) ∧ Below w.heap.size w w') := Lib.hid (fun x w hT hS hx => by
    have := bytes8_yes x X0 hpX w hT hS hx
    rwa [heX] at this)
  have KS : Hid (∀ (x : Mm) w, Lies w m M → Lies w x X0 → Calls Tryd.prog 18 #[.agg (mmA m), .agg (mmA x)] w fun e w' => e = .returned (.bool true) ∧ Below w.heap.size w w') := Lib.hid (fun x w hm hx => same8_at m x M X0 w hm hx true (decide_eq_true hb.symm))
  obtain ⟨k, ve, se, he, nb, ⟨sa, sn, sc⟩, st, ⟨ha, hn, hc⟩⟩ := m
  obtain ⟨x, hx⟩ : ∃ x : Mm, x = ⟨k, o.ver, o.serv, o.height, o.nb, o.ns, o.stop, ⟨ha, hn, hc⟩⟩ := ⟨_, rfl⟩
  have HX := Lib.hid hx
  have KLX : Hid (∀ w, Lies w ⟨k, ve, se, he, nb, ⟨sa, sn, sc⟩, st, ⟨ha, hn, hc⟩⟩ M → Lies w o O → Lies w x X0) := Lib.hid (fun w hm ho => by
    rw [hX0, hx]
    exact ⟨hm.kind, ho.ver, ho.serv, ho.height, ho.nb, ho.stop, ho.n1, ho.l1, ho.names, hm.n2, hm.l2, hm.heads, ⟨ho.ok.1, ho.ok.2.1, hm.ok.2.2⟩⟩)
  have hkk : k = 4 := hL.kind.trans hk
  have t1 : (k == 1) = false := by rw [hkk]; rfl
  have t3 : (k == 3) = false := by rw [hkk]; rfl
  have t4 : (k == 4) = true := by rw [hkk]; rfl
  have t5 : (k == 5) = false := by rw [hkk]; rfl
  have t6 : (k == 6) = false := by rw [hkk]; rfl
  have t7 : (k == 7) = false := by rw [hkk]; rfl
  have hzx : (mmA x).size = 39 := mmA_size (by rw [hx]; exact hO.mok)
  have HOK : Hid (o.ok) := Lib.hid hO.mok
  have HMK : Hid ((⟨k, ve, se, he, nb, ⟨sa, sn, sc⟩, st, ⟨ha, hn, hc⟩⟩ : Mm).ok) := Lib.hid hL.mok
  clear hg hg2 hT hS hL hO hp hpX hk hkX hyX heX hb hX0 hx hkk
  generalize txt M.env.enc = enc at *
  generalize hm : (⟨k, ve, se, he, nb, ⟨sa, sn, sc⟩, st, ⟨ha, hn, hc⟩⟩ : Mm) = m at *
  have HM := Lib.hid hm
  clear hm
  have hP := mm_new w m
  have hQ := mm_new1 w (.cells (mmA m) 27) o
  have hb1 : Below w.heap.size w (w.alloc (.cells (mmA m) 27)) := (Below.refl _ _).alloc (Nat.le_refl _) _
  have hb2 : Below (w.alloc (.cells (mmA m) 27)).heap.size (w.alloc (.cells (mmA m) 27)) ((w.alloc (.cells (mmA m) 27)).alloc (.cells (mmA o) 27)) := (Below.refl _ _).alloc (Nat.le_refl _) _
  replace hP := hP.on hb2
  have hB := hb1.trans (hb2.mono hb1.size)
  clear hb1 hb2
  go_enter Tryd.func8, Tryd.ntmps8
  go_upto_region 1 with fail
  obtain ⟨P, hPe⟩ : ∃ P, P = w.heap.size := ⟨_, rfl⟩
  obtain ⟨Q, hQe⟩ : ∃ Q, Q = w.heap.size + 1 := ⟨_, rfl⟩
  rw [← hQe] at hQ ⊢
  rw [← hPe] at hP ⊢
  have hPQ : P ≠ Q := by omega
  have hPw : w.heap.size ≤ P := by omega
  have hQw : w.heap.size ≤ Q := by omega
  clear hPe hQe
  generalize World.alloc _ _ = w1 at *
  go_wp2_with fail
  refine (KAl.out _ (HT.out.below hB) (HS.out.below hB)).mono ?_
  rintro r w2 ⟨rfl, hb⟩
  replace hP := hP.on hb
  replace hQ := hQ.on hb
  replace hB := hB.trans (hb.mono hB.size)
  clear hb
  go_wp2_with (first | (with_reducible refine mm_load rfl _ rfl P rfl hP hz ?_) | (with_reducible refine mm_load_g (by with_unfolding_all rfl) _ rfl P rfl hP hz ?_) | (with_reducible refine mm_load rfl _ rfl Q rfl hQ hy ?_) | (with_reducible refine mm_load_g (by with_unfolding_all rfl) _ rfl Q rfl hQ hy ?_))
  refine (KG.out _).mono ?_
  rintro r w3 ⟨rfl, hb⟩
  replace hP := hP.on hb
  replace hQ := hQ.on hb
  replace hB := hB.trans (hb.mono hB.size)
  clear hb
  go_wp2_with (first | (with_reducible refine mm_load rfl _ rfl P rfl hP hz ?_) | (with_reducible refine mm_load_g (by with_unfolding_all rfl) _ rfl P rfl hP hz ?_) | (with_reducible refine mm_load rfl _ rfl Q rfl hQ hy ?_) | (with_reducible refine mm_load_g (by with_unfolding_all rfl) _ rfl Q rfl hQ hy ?_))
  refine (KG2.out _).mono ?_
  rintro r w4 ⟨rfl, hb⟩
  replace hP := hP.on hb
  replace hQ := hQ.on hb
  replace hB := hB.trans (hb.mono hB.size)
  clear hb
  go_wp2_with (first | (with_reducible refine mm_load rfl _ rfl P rfl hP hz ?_) | (with_reducible refine mm_load_g (by with_unfolding_all rfl) _ rfl P rfl hP hz ?_) | (with_reducible refine mm_load rfl _ rfl Q rfl hQ hy ?_) | (with_reducible refine mm_load_g (by with_unfolding_all rfl) _ rfl Q rfl hQ hy ?_))
  refine (KR.out _ (HL.out.below hB)).mono ?_
  rintro r w5 ⟨rfl, hb⟩
  replace hP := hP.on hb
  replace hQ := hQ.on hb
  replace hB := hB.trans (hb.mono hB.size)
  clear hb
  have hN := mm_newz w5
  have hz0 : (mmA (mmZ 0)).size = 39 := rfl
  have hPl := hP.lt
  go_upto_region 6 with (first | (with_reducible refine mm_load rfl _ rfl Q rfl hQ hy ?_) | (with_reducible refine mm_store rfl _ _ rfl w5.heap.size _ o rfl rfl rfl hy hN hz0 ?_))
  obtain ⟨X, hX⟩ : ∃ X, X = w5.heap.size := ⟨_, rfl⟩
  generalize hw5 : World.setRow _ _ _ = v0
  have hXo : MmAt v0 X o := by rw [← hw5, hX]; exact Has.row hN _
  have hb : Below w5.heap.size w5 v0 := by rw [← hw5]; exact below_setRow ((Below.refl _ _).alloc (Nat.le_refl _) _) (Nat.le_refl _) _
  have hXw : w.heap.size ≤ X := by rw [hX]; exact hB.size
  have hPX : P ≠ X := by omega
  rw [← hX]
  replace hP := hP.on hb
  replace hB := hB.trans (hb.mono hB.size)
  clear hw5 hX hN hz0 hPl hb hQ
  obtain ⟨x0, e0⟩ : ∃ x0 : Mm, x0 = o := ⟨_, rfl⟩
  rw [← e0] at hXo
  have E0' := Lib.hid e0
  clear e0
  have c : v0.cell? ⟨P, 0, none⟩ = some (.int .i64 k) := by have := hP.kind; rw [← HM.out] at this; exact this
  have f := hXo.free 0
  obtain ⟨u, d⟩ : ∃ u, v0.cell? ⟨X, 0, none⟩ = some u := ⟨_, hXo.kind⟩
  have hX1 := hXo.setKind k
  go_upto_region 7 with fail
  replace hP : MmAt (v0.setCell ⟨X, 0, none⟩ (.int .i64 k)) P m := Has.other hP _ _ hPX
  replace hB := hB.setCell (p := ⟨X, 0, none⟩) hXw (.int .i64 k)
  replace hXo := hX1
  clear c f d hX1
  generalize World.setCell _ _ _ = v1 at *
  obtain ⟨x1, e1⟩ : ∃ y : Mm, y = { x0 with kind := k } := ⟨_, rfl⟩
  rw [← e1] at hXo
  have E1 := Lib.hid e1
  clear e1
  have c : v1.cell? ⟨P, 0, none⟩ = some (.int .i64 k) := by have := hP.kind; rw [← HM.out] at this; exact this
  go_upto_region 18 with fail
  clear c
  have c : v1.cell? ⟨P, 38, none⟩ = some (.slice ha hn hc) := by have := hP.hs HMK.out; rw [← HM.out] at this; exact this
  have f := hXo.free 38
  obtain ⟨u, d⟩ : ∃ u, v1.cell? ⟨X, 38, none⟩ = some u := ⟨_, hXo.hs (by rw [E1.out, E0'.out]; exact HOK.out)⟩
  have hX1 := hXo.setHs (by rw [E1.out, E0'.out]; exact HOK.out) ha hn hc
  go_upto_region 24 with fail
  replace hP : MmAt (v1.setCell ⟨X, 38, none⟩ (.slice ha hn hc)) P m := Has.other hP _ _ hPX
  replace hB := hB.setCell (p := ⟨X, 38, none⟩) hXw (.slice ha hn hc)
  replace hXo := hX1
  clear c f d hX1
  generalize World.setCell _ _ _ = v2 at *
  obtain ⟨x2, e1⟩ : ∃ y : Mm, y = { x1 with hs := ⟨ha, hn, hc⟩ } := ⟨_, rfl⟩
  rw [← e1] at hXo
  have E2 := Lib.hid e1
  clear e1
  have hxx : x2 = x := by rw [E2.out, E1.out, E0'.out, HX.out]
  rw [hxx] at hXo
  clear hxx
  have hB1 := hB
  go_wp2_with (first | (with_reducible refine mm_load rfl _ rfl P rfl hP hz ?_) | (with_reducible refine mm_load_g (by with_unfolding_all rfl) _ rfl P rfl hP hz ?_) | (with_reducible refine mm_load rfl _ rfl X rfl hXo hzx ?_) | (with_reducible refine mm_load_g (by with_unfolding_all rfl) _ rfl X rfl hXo hzx ?_))
  refine (KB.out _ (HT.out.below hB) (HS.out.below hB) (HL.out.below hB)).mono ?_
  rintro r w41 ⟨rfl, hb⟩
  replace hP := hP.on hb
  replace hXo := hXo.on hb
  replace hB := hB.trans (hb.mono hB.size)
  clear hb
  go_wp2_with (first | (with_reducible refine mm_load rfl _ rfl P rfl hP hz ?_) | (with_reducible refine mm_load_g (by with_unfolding_all rfl) _ rfl P rfl hP hz ?_) | (with_reducible refine mm_load rfl _ rfl X rfl hXo hzx ?_) | (with_reducible refine mm_load_g (by with_unfolding_all rfl) _ rfl X rfl hXo hzx ?_))
  refine (KX.out x _ (HT.out.below hB) (HS.out.below hB) (KLX.out _ (HL.out.below hB) (HO.out.below hB))).mono ?_
  rintro r w42 ⟨rfl, hb⟩
  replace hP := hP.on hb
  replace hXo := hXo.on hb
  replace hB := hB.trans (hb.mono hB.size)
  clear hb
  go_wp2_with (first | (with_reducible refine mm_load rfl _ rfl P rfl hP hz ?_) | (with_reducible refine mm_load_g (by with_unfolding_all rfl) _ rfl P rfl hP hz ?_) | (with_reducible refine mm_load rfl _ rfl X rfl hXo hzx ?_) | (with_reducible refine mm_load_g (by with_unfolding_all rfl) _ rfl X rfl hXo hzx ?_))
  refine (KS.out x _ (HL.out.below hB) (KLX.out _ (HL.out.below hB) (HO.out.below hB))).mono ?_
  rintro r w43 ⟨rfl, hb⟩
  replace hP := hP.on hb
  replace hXo := hXo.on hb
  replace hB := hB.trans (hb.mono hB.size)
  clear hb
  go_wp2_with (first | (with_reducible refine mm_load rfl _ rfl P rfl hP hz ?_) | (with_reducible refine mm_load_g (by with_unfolding_all rfl) _ rfl P rfl hP hz ?_) | (with_reducible refine mm_load rfl _ rfl X rfl hXo hzx ?_) | (with_reducible refine mm_load_g (by with_unfolding_all rfl) _ rfl X rfl hXo hzx ?_))
  go_ret
  exact ⟨rfl, hB⟩
set_option maxRecDepth 100000 in
set_option maxHeartbeats 1600000 in
theorem sbare_5 (m o : Mm) (M O : Ms) (hg : greatM m = false) (hg2 : greatM o = false) (hp : M.P) (hk : M.kind = 5) (w : World) (hT : Tab w) (hS : TabS w) (hL : Lies w m M) (hO : Lies w o O) :
    Calls Tryd.prog 8 #[.agg (mmA m), .agg (mmA o)] w fun r w' => r = .returned (.bool true) ∧ Below w.heap.size w w' := by
  have hz := mmA_size hL.mok
  have hy := mmA_size hO.mok
  have HL := Lib.hid hL
  have HO := Lib.hid hO
  have HT := Lib.hid hT
  have HS := Lib.hid hS
  have KAl := Lib.hid alive8
  have KG := Lib.hid (great8_at m hL.mok false hg)
  have KG2 := Lib.hid (great8_at o hO.mok false hg2)
  have KR := Lib.hid (fun w hL => rgood8_at m M w hL)
  rw [decide_eq_true hp] at KR
  obtain ⟨X0, hX0⟩ : ∃ X0 : Ms, X0 = ⟨M.kind, O.ver, O.serv, O.height, O.nb, M.names, O.stop, O.heads⟩ := ⟨_, rfl⟩
  have hb : X0.bare = M.bare := by
    rw [hX0]
    unfold Ms.bare
    simp only [hk]
    rfl
  have hpX : X0.P := (bare_P X0).1 (by rw [hb]; exact (bare_P M).2 hp)
  have hkX : X0.kind = M.kind := by rw [hX0]
  have hyX : X0.pay = M.pay := by rw [← pay_bare X0, hb, pay_bare]
  have heX : X0.env = M.env := by unfold Ms.env; rw [hkX, hyX]
  have KB := Lib.hid (fun w hT hS hL => bytes8_yes m M hp w hT hS hL)
  have KX : Hid (∀ (x : Mm) w, Tab w → TabS w → Lies w x X0 → Calls Tryd.prog 12 #[.agg (mmA x)] w fun e w' => e = .returned (.tuple #[.string (txt M.env.enc), .int .i64 0]) ∧ Below w.heap.size w w') := Lib.hid (fun x w hT hS hx => by
    have := bytes8_yes x X0 hpX w hT hS hx
    rwa [heX] at this)
  have KS : Hid (∀ (x : Mm) w, Lies w m M → Lies w x X0 → Calls Tryd.prog 18 #[.agg (mmA m), .agg (mmA x)] w fun e w' => e = .returned (.bool true) ∧ Below w.heap.size w w') := Lib.hid (fun x w hm hx => same8_at m x M X0 w hm hx true (decide_eq_true hb.symm))
  obtain ⟨k, ve, se, he, nb, ⟨sa, sn, sc⟩, st, ⟨ha, hn, hc⟩⟩ := m
  obtain ⟨x, hx⟩ : ∃ x : Mm, x = ⟨k, o.ver, o.serv, o.height, o.nb, ⟨sa, sn, sc⟩, o.stop, o.hs⟩ := ⟨_, rfl⟩
  have HX := Lib.hid hx
  have KLX : Hid (∀ w, Lies w ⟨k, ve, se, he, nb, ⟨sa, sn, sc⟩, st, ⟨ha, hn, hc⟩⟩ M → Lies w o O → Lies w x X0) := Lib.hid (fun w hm ho => by
    rw [hX0, hx]
    exact ⟨hm.kind, ho.ver, ho.serv, ho.height, ho.nb, ho.stop, hm.n1, hm.l1, hm.names, ho.n2, ho.l2, ho.heads, ⟨hm.ok.1, ho.ok.2.1, ho.ok.2.2⟩⟩)
  have hkk : k = 5 := hL.kind.trans hk
  have t1 : (k == 1) = false := by rw [hkk]; rfl
  have t3 : (k == 3) = false := by rw [hkk]; rfl
  have t4 : (k == 4) = false := by rw [hkk]; rfl
  have t5 : (k == 5) = true := by rw [hkk]; rfl
  have t6 : (k == 6) = false := by rw [hkk]; rfl
  have t7 : (k == 7) = false := by rw [hkk]; rfl
  have hzx : (mmA x).size = 39 := mmA_size (by rw [hx]; exact hO.mok)
  clear hg hg2 hT hS hL hO hp hpX hk hkX hyX heX hb hX0 hx hkk
  generalize txt M.env.enc = enc at *
  generalize hm : (⟨k, ve, se, he, nb, ⟨sa, sn, sc⟩, st, ⟨ha, hn, hc⟩⟩ : Mm) = m at *
  have HM := Lib.hid hm
  clear hm
  have hP := mm_new w m
  have hQ := mm_new1 w (.cells (mmA m) 27) o
  have hb1 : Below w.heap.size w (w.alloc (.cells (mmA m) 27)) := (Below.refl _ _).alloc (Nat.le_refl _) _
  have hb2 : Below (w.alloc (.cells (mmA m) 27)).heap.size (w.alloc (.cells (mmA m) 27)) ((w.alloc (.cells (mmA m) 27)).alloc (.cells (mmA o) 27)) := (Below.refl _ _).alloc (Nat.le_refl _) _
  replace hP := hP.on hb2
  have hB := hb1.trans (hb2.mono hb1.size)
  clear hb1 hb2
  go_enter Tryd.func8, Tryd.ntmps8
  go_upto_region 1 with fail
  obtain ⟨P, hPe⟩ : ∃ P, P = w.heap.size := ⟨_, rfl⟩
  obtain ⟨Q, hQe⟩ : ∃ Q, Q = w.heap.size + 1 := ⟨_, rfl⟩
  rw [← hQe] at hQ ⊢
  rw [← hPe] at hP ⊢
  have hPQ : P ≠ Q := by omega
  have hPw : w.heap.size ≤ P := by omega
  have hQw : w.heap.size ≤ Q := by omega
  clear hPe hQe
  generalize World.alloc _ _ = w1 at *
  go_wp2_with fail
  refine (KAl.out _ (HT.out.below hB) (HS.out.below hB)).mono ?_
  rintro r w2 ⟨rfl, hb⟩
  replace hP := hP.on hb
  replace hQ := hQ.on hb
  replace hB := hB.trans (hb.mono hB.size)
  clear hb
  go_wp2_with (first | (with_reducible refine mm_load rfl _ rfl P rfl hP hz ?_) | (with_reducible refine mm_load_g (by with_unfolding_all rfl) _ rfl P rfl hP hz ?_) | (with_reducible refine mm_load rfl _ rfl Q rfl hQ hy ?_) | (with_reducible refine mm_load_g (by with_unfolding_all rfl) _ rfl Q rfl hQ hy ?_))
  refine (KG.out _).mono ?_
  rintro r w3 ⟨rfl, hb⟩
  replace hP := hP.on hb
  replace hQ := hQ.on hb
  replace hB := hB.trans (hb.mono hB.size)
  clear hb
  go_wp2_with (first | (with_reducible refine mm_load rfl _ rfl P rfl hP hz ?_) | (with_reducible refine mm_load_g (by with_unfolding_all rfl) _ rfl P rfl hP hz ?_) | (with_reducible refine mm_load rfl _ rfl Q rfl hQ hy ?_) | (with_reducible refine mm_load_g (by with_unfolding_all rfl) _ rfl Q rfl hQ hy ?_))
  refine (KG2.out _).mono ?_
  rintro r w4 ⟨rfl, hb⟩
  replace hP := hP.on hb
  replace hQ := hQ.on hb
  replace hB := hB.trans (hb.mono hB.size)
  clear hb
  go_wp2_with (first | (with_reducible refine mm_load rfl _ rfl P rfl hP hz ?_) | (with_reducible refine mm_load_g (by with_unfolding_all rfl) _ rfl P rfl hP hz ?_) | (with_reducible refine mm_load rfl _ rfl Q rfl hQ hy ?_) | (with_reducible refine mm_load_g (by with_unfolding_all rfl) _ rfl Q rfl hQ hy ?_))
  refine (KR.out _ (HL.out.below hB)).mono ?_
  rintro r w5 ⟨rfl, hb⟩
  replace hP := hP.on hb
  replace hQ := hQ.on hb
  replace hB := hB.trans (hb.mono hB.size)
  clear hb
  have hN := mm_newz w5
  have hz0 : (mmA (mmZ 0)).size = 39 := rfl
  have hPl := hP.lt
  go_upto_region 6 with (first | (with_reducible refine mm_load rfl _ rfl Q rfl hQ hy ?_) | (with_reducible refine mm_store rfl _ _ rfl w5.heap.size _ o rfl rfl rfl hy hN hz0 ?_))
  obtain ⟨X, hX⟩ : ∃ X, X = w5.heap.size := ⟨_, rfl⟩
  generalize hw5 : World.setRow _ _ _ = v0
  have hXo : MmAt v0 X o := by rw [← hw5, hX]; exact Has.row hN _
  have hb : Below w5.heap.size w5 v0 := by rw [← hw5]; exact below_setRow ((Below.refl _ _).alloc (Nat.le_refl _) _) (Nat.le_refl _) _
  have hXw : w.heap.size ≤ X := by rw [hX]; exact hB.size
  have hPX : P ≠ X := by omega
  rw [← hX]
  replace hP := hP.on hb
  replace hB := hB.trans (hb.mono hB.size)
  clear hw5 hX hN hz0 hPl hb hQ
  obtain ⟨x0, e0⟩ : ∃ x0 : Mm, x0 = o := ⟨_, rfl⟩
  rw [← e0] at hXo
  have E0' := Lib.hid e0
  clear e0
  have c : v0.cell? ⟨P, 0, none⟩ = some (.int .i64 k) := by have := hP.kind; rw [← HM.out] at this; exact this
  have f := hXo.free 0
  obtain ⟨u, d⟩ : ∃ u, v0.cell? ⟨X, 0, none⟩ = some u := ⟨_, hXo.kind⟩
  have hX1 := hXo.setKind k
  go_upto_region 7 with fail
  replace hP : MmAt (v0.setCell ⟨X, 0, none⟩ (.int .i64 k)) P m := Has.other hP _ _ hPX
  replace hB := hB.setCell (p := ⟨X, 0, none⟩) hXw (.int .i64 k)
  replace hXo := hX1
  clear c f d hX1
  generalize World.setCell _ _ _ = v1 at *
  obtain ⟨x1, e1⟩ : ∃ y : Mm, y = { x0 with kind := k } := ⟨_, rfl⟩
  rw [← e1] at hXo
  have E1 := Lib.hid e1
  clear e1
  have c : v1.cell? ⟨P, 0, none⟩ = some (.int .i64 k) := by have := hP.kind; rw [← HM.out] at this; exact this
  go_upto_region 20 with fail
  clear c
  have c : v1.cell? ⟨P, 5, none⟩ = some (.slice sa sn sc) := by have := hP.ns; rw [← HM.out] at this; exact this
  have f := hXo.free 5
  obtain ⟨u, d⟩ : ∃ u, v1.cell? ⟨X, 5, none⟩ = some u := ⟨_, hXo.ns⟩
  have hX1 := hXo.setNs sa sn sc
  go_upto_region 24 with fail
  replace hP : MmAt (v1.setCell ⟨X, 5, none⟩ (.slice sa sn sc)) P m := Has.other hP _ _ hPX
  replace hB := hB.setCell (p := ⟨X, 5, none⟩) hXw (.slice sa sn sc)
  replace hXo := hX1
  clear c f d hX1
  generalize World.setCell _ _ _ = v2 at *
  obtain ⟨x2, e1⟩ : ∃ y : Mm, y = { x1 with ns := ⟨sa, sn, sc⟩ } := ⟨_, rfl⟩
  rw [← e1] at hXo
  have E2 := Lib.hid e1
  clear e1
  have hxx : x2 = x := by rw [E2.out, E1.out, E0'.out, HX.out]
  rw [hxx] at hXo
  clear hxx
  have hB1 := hB
  go_wp2_with (first | (with_reducible refine mm_load rfl _ rfl P rfl hP hz ?_) | (with_reducible refine mm_load_g (by with_unfolding_all rfl) _ rfl P rfl hP hz ?_) | (with_reducible refine mm_load rfl _ rfl X rfl hXo hzx ?_) | (with_reducible refine mm_load_g (by with_unfolding_all rfl) _ rfl X rfl hXo hzx ?_))
  refine (KB.out _ (HT.out.below hB) (HS.out.below hB) (HL.out.below hB)).mono ?_
  rintro r w41 ⟨rfl, hb⟩
  replace hP := hP.on hb
  replace hXo := hXo.on hb
  replace hB := hB.trans (hb.mono hB.size)
  clear hb
  go_wp2_with (first | (with_reducible refine mm_load rfl _ rfl P rfl hP hz ?_) | (with_reducible refine mm_load_g (by with_unfolding_all rfl) _ rfl P rfl hP hz ?_) | (with_reducible refine mm_load rfl _ rfl X rfl hXo hzx ?_) | (with_reducible refine mm_load_g (by with_unfolding_all rfl) _ rfl X rfl hXo hzx ?_))
  refine (KX.out x _ (HT.out.below hB) (HS.out.below hB) (KLX.out _ (HL.out.below hB) (HO.out.below hB))).mono ?_
  rintro r w42 ⟨rfl, hb⟩
  replace hP := hP.on hb
  replace hXo := hXo.on hb
  replace hB := hB.trans (hb.mono hB.size)
  clear hb
  go_wp2_with (first | (with_reducible refine mm_load rfl _ rfl P rfl hP hz ?_) | (with_reducible refine mm_load_g (by with_unfolding_all rfl) _ rfl P rfl hP hz ?_) | (with_reducible refine mm_load rfl _ rfl X rfl hXo hzx ?_) | (with_reducible refine mm_load_g (by with_unfolding_all rfl) _ rfl X rfl hXo hzx ?_))
  refine (KS.out x _ (HL.out.below hB) (KLX.out _ (HL.out.below hB) (HO.out.below hB))).mono ?_
  rintro r w43 ⟨rfl, hb⟩
  replace hP := hP.on hb
  replace hXo := hXo.on hb
  replace hB := hB.trans (hb.mono hB.size)
  clear hb
  go_wp2_with (first | (with_reducible refine mm_load rfl _ rfl P rfl hP hz ?_) | (with_reducible refine mm_load_g (by with_unfolding_all rfl) _ rfl P rfl hP hz ?_) | (with_reducible refine mm_load rfl _ rfl X rfl hXo hzx ?_) | (with_reducible refine mm_load_g (by with_unfolding_all rfl) _ rfl X rfl hXo hzx ?_))
  go_ret
  exact ⟨rfl, hB⟩
set_option maxRecDepth 100000 in
set_option maxHeartbeats 1600000 in
theorem sbare_6 (m o : Mm) (M O : Ms) (hg : greatM m = false) (hg2 : greatM o = false) (hp : M.P) (hk : M.kind = 6) (w : World) (hT : Tab w) (hS : TabS w) (hL : Lies w m M) (hO : Lies w o O) :
    Calls Tryd.prog 8 #[.agg (mmA m), .agg (mmA o)] w fun r w' => r = .returned (.bool true) ∧ Below w.heap.size w w' := by
  have hz := mmA_size hL.mok
  have hy := mmA_size hO.mok
  have HL := Lib.hid hL
  have HO := Lib.hid hO
  have HT := Lib.hid hT
  have HS := Lib.hid hS
  have KAl := Lib.hid alive8
  have KG := Lib.hid (great8_at m hL.mok false hg)
  have KG2 := Lib.hid (great8_at o hO.mok false hg2)
  have KR := Lib.hid (fun w hL => rgood8_at m M w hL)
  rw [decide_eq_true hp] at KR
  obtain ⟨X0, hX0⟩ : ∃ X0 : Ms, X0 = ⟨M.kind, O.ver, O.serv, O.height, M.nb, O.names, O.stop, O.heads⟩ := ⟨_, rfl⟩
  have hb : X0.bare = M.bare := by
    rw [hX0]
    unfold Ms.bare
    simp only [hk]
    rfl
  have hpX : X0.P := (bare_P X0).1 (by rw [hb]; exact (bare_P M).2 hp)
  have hkX : X0.kind = M.kind := by rw [hX0]
  have hyX : X0.pay = M.pay := by rw [← pay_bare X0, hb, pay_bare]
  have heX : X0.env = M.env := by unfold Ms.env; rw [hkX, hyX]
  have KB := Lib.hid (fun w hT hS hL => bytes8_yes m M hp w hT hS hL)
  have KX : Hid (∀ (x : Mm) w, Tab w → TabS w → Lies w x X0 → Calls Tryd.prog 12 #[.agg (mmA x)] w fun e w' => e = .returned (.tuple #[.string (txt M.env.enc), .int .i64 0]) ∧ Below w.heap.size w w') := Lib.hid (fun x w hT hS hx => by
    have := bytes8_yes x X0 hpX w hT hS hx
    rwa [heX] at this)
  have KS : Hid (∀ (x : Mm) w, Lies w m M → Lies w x X0 → Calls Tryd.prog 18 #[.agg (mmA m), .agg (mmA x)] w fun e w' => e = .returned (.bool true) ∧ Below w.heap.size w w') := Lib.hid (fun x w hm hx => same8_at m x M X0 w hm hx true (decide_eq_true hb.symm))
  obtain ⟨k, ve, se, he, nb, ⟨sa, sn, sc⟩, st, ⟨ha, hn, hc⟩⟩ := m
  obtain ⟨x, hx⟩ : ∃ x : Mm, x = ⟨k, o.ver, o.serv, o.height, nb, o.ns, o.stop, o.hs⟩ := ⟨_, rfl⟩
  have HX := Lib.hid hx
  have KLX : Hid (∀ w, Lies w ⟨k, ve, se, he, nb, ⟨sa, sn, sc⟩, st, ⟨ha, hn, hc⟩⟩ M → Lies w o O → Lies w x X0) := Lib.hid (fun w hm ho => by
    rw [hX0, hx]
    exact ⟨hm.kind, ho.ver, ho.serv, ho.height, hm.nb, ho.stop, ho.n1, ho.l1, ho.names, ho.n2, ho.l2, ho.heads, ⟨ho.ok.1, ho.ok.2.1, ho.ok.2.2⟩⟩)
  have hkk : k = 6 := hL.kind.trans hk
  have t1 : (k == 1) = false := by rw [hkk]; rfl
  have t3 : (k == 3) = false := by rw [hkk]; rfl
  have t4 : (k == 4) = false := by rw [hkk]; rfl
  have t5 : (k == 5) = false := by rw [hkk]; rfl
  have t6 : (k == 6) = true := by rw [hkk]; rfl
  have t7 : (k == 7) = false := by rw [hkk]; rfl
  have hzx : (mmA x).size = 39 := mmA_size (by rw [hx]; exact hO.mok)
  clear hg hg2 hT hS hL hO hp hpX hk hkX hyX heX hb hX0 hx hkk
  generalize txt M.env.enc = enc at *
  generalize hm : (⟨k, ve, se, he, nb, ⟨sa, sn, sc⟩, st, ⟨ha, hn, hc⟩⟩ : Mm) = m at *
  have HM := Lib.hid hm
  clear hm
  have hP := mm_new w m
  have hQ := mm_new1 w (.cells (mmA m) 27) o
  have hb1 : Below w.heap.size w (w.alloc (.cells (mmA m) 27)) := (Below.refl _ _).alloc (Nat.le_refl _) _
  have hb2 : Below (w.alloc (.cells (mmA m) 27)).heap.size (w.alloc (.cells (mmA m) 27)) ((w.alloc (.cells (mmA m) 27)).alloc (.cells (mmA o) 27)) := (Below.refl _ _).alloc (Nat.le_refl _) _
  replace hP := hP.on hb2
  have hB := hb1.trans (hb2.mono hb1.size)
  clear hb1 hb2
  go_enter Tryd.func8, Tryd.ntmps8
  go_upto_region 1 with fail
  obtain ⟨P, hPe⟩ : ∃ P, P = w.heap.size := ⟨_, rfl⟩
  obtain ⟨Q, hQe⟩ : ∃ Q, Q = w.heap.size + 1 := ⟨_, rfl⟩
  rw [← hQe] at hQ ⊢
  rw [← hPe] at hP ⊢
  have hPQ : P ≠ Q := by omega
  have hPw : w.heap.size ≤ P := by omega
  have hQw : w.heap.size ≤ Q := by omega
  clear hPe hQe
  generalize World.alloc _ _ = w1 at *
  go_wp2_with fail
  refine (KAl.out _ (HT.out.below hB) (HS.out.below hB)).mono ?_
  rintro r w2 ⟨rfl, hb⟩
  replace hP := hP.on hb
  replace hQ := hQ.on hb
  replace hB := hB.trans (hb.mono hB.size)
  clear hb
  go_wp2_with (first | (with_reducible refine mm_load rfl _ rfl P rfl hP hz ?_) | (with_reducible refine mm_load_g (by with_unfolding_all rfl) _ rfl P rfl hP hz ?_) | (with_reducible refine mm_load rfl _ rfl Q rfl hQ hy ?_) | (with_reducible refine mm_load_g (by with_unfolding_all rfl) _ rfl Q rfl hQ hy ?_))
  refine (KG.out _).mono ?_
  rintro r w3 ⟨rfl, hb⟩
  replace hP := hP.on hb
  replace hQ := hQ.on hb
  replace hB := hB.trans (hb.mono hB.size)
  clear hb
  go_wp2_with (first | (with_reducible refine mm_load rfl _ rfl P rfl hP hz ?_) | (with_reducible refine mm_load_g (by with_unfolding_all rfl) _ rfl P rfl hP hz ?_) | (with_reducible refine mm_load rfl _ rfl Q rfl hQ hy ?_) | (with_reducible refine mm_load_g (by with_unfolding_all rfl) _ rfl Q rfl hQ hy ?_))
  refine (KG2.out _).mono ?_
  rintro r w4 ⟨rfl, hb⟩
  replace hP := hP.on hb
  replace hQ := hQ.on hb
  replace hB := hB.trans (hb.mono hB.size)
  clear hb
  go_wp2_with (first | (with_reducible refine mm_load rfl _ rfl P rfl hP hz ?_) | (with_reducible refine mm_load_g (by with_unfolding_all rfl) _ rfl P rfl hP hz ?_) | (with_reducible refine mm_load rfl _ rfl Q rfl hQ hy ?_) | (with_reducible refine mm_load_g (by with_unfolding_all rfl) _ rfl Q rfl hQ hy ?_))
  refine (KR.out _ (HL.out.below hB)).mono ?_
  rintro r w5 ⟨rfl, hb⟩
  replace hP := hP.on hb
  replace hQ := hQ.on hb
  replace hB := hB.trans (hb.mono hB.size)
  clear hb
  have hN := mm_newz w5
  have hz0 : (mmA (mmZ 0)).size = 39 := rfl
  have hPl := hP.lt
  go_upto_region 6 with (first | (with_reducible refine mm_load rfl _ rfl Q rfl hQ hy ?_) | (with_reducible refine mm_store rfl _ _ rfl w5.heap.size _ o rfl rfl rfl hy hN hz0 ?_))
  obtain ⟨X, hX⟩ : ∃ X, X = w5.heap.size := ⟨_, rfl⟩
  generalize hw5 : World.setRow _ _ _ = v0
  have hXo : MmAt v0 X o := by rw [← hw5, hX]; exact Has.row hN _
  have hb : Below w5.heap.size w5 v0 := by rw [← hw5]; exact below_setRow ((Below.refl _ _).alloc (Nat.le_refl _) _) (Nat.le_refl _) _
  have hXw : w.heap.size ≤ X := by rw [hX]; exact hB.size
  have hPX : P ≠ X := by omega
  rw [← hX]
  replace hP := hP.on hb
  replace hB := hB.trans (hb.mono hB.size)
  clear hw5 hX hN hz0 hPl hb hQ
  obtain ⟨x0, e0⟩ : ∃ x0 : Mm, x0 = o := ⟨_, rfl⟩
  rw [← e0] at hXo
  have E0' := Lib.hid e0
  clear e0
  have c : v0.cell? ⟨P, 0, none⟩ = some (.int .i64 k) := by have := hP.kind; rw [← HM.out] at this; exact this
  have f := hXo.free 0
  obtain ⟨u, d⟩ : ∃ u, v0.cell? ⟨X, 0, none⟩ = some u := ⟨_, hXo.kind⟩
  have hX1 := hXo.setKind k
  go_upto_region 7 with fail
  replace hP : MmAt (v0.setCell ⟨X, 0, none⟩ (.int .i64 k)) P m := Has.other hP _ _ hPX
  replace hB := hB.setCell (p := ⟨X, 0, none⟩) hXw (.int .i64 k)
  replace hXo := hX1
  clear c f d hX1
  generalize World.setCell _ _ _ = v1 at *
  obtain ⟨x1, e1⟩ : ∃ y : Mm, y = { x0 with kind := k } := ⟨_, rfl⟩
  rw [← e1] at hXo
  have E1 := Lib.hid e1
  clear e1
  have c : v1.cell? ⟨P, 0, none⟩ = some (.int .i64 k) := by have := hP.kind; rw [← HM.out] at this; exact this
  go_upto_region 23 with fail
  clear c
  have c : v1.cell? ⟨P, 4, none⟩ = some (.int .i64 nb) := by have := hP.nb; rw [← HM.out] at this; exact this
  have f := hXo.free 4
  obtain ⟨u, d⟩ : ∃ u, v1.cell? ⟨X, 4, none⟩ = some u := ⟨_, hXo.nb⟩
  have hX1 := hXo.setNb nb
  go_upto_region 24 with fail
  replace hP : MmAt (v1.setCell ⟨X, 4, none⟩ (.int .i64 nb)) P m := Has.other hP _ _ hPX
  replace hB := hB.setCell (p := ⟨X, 4, none⟩) hXw (.int .i64 nb)
  replace hXo := hX1
  clear c f d hX1
  generalize World.setCell _ _ _ = v2 at *
  obtain ⟨x2, e1⟩ : ∃ y : Mm, y = { x1 with nb := nb } := ⟨_, rfl⟩
  rw [← e1] at hXo
  have E2 := Lib.hid e1
  clear e1
  have hxx : x2 = x := by rw [E2.out, E1.out, E0'.out, HX.out]
  rw [hxx] at hXo
  clear hxx
  have hB1 := hB
  go_wp2_with (first | (with_reducible refine mm_load rfl _ rfl P rfl hP hz ?_) | (with_reducible refine mm_load_g (by with_unfolding_all rfl) _ rfl P rfl hP hz ?_) | (with_reducible refine mm_load rfl _ rfl X rfl hXo hzx ?_) | (with_reducible refine mm_load_g (by with_unfolding_all rfl) _ rfl X rfl hXo hzx ?_))
  refine (KB.out _ (HT.out.below hB) (HS.out.below hB) (HL.out.below hB)).mono ?_
  rintro r w41 ⟨rfl, hb⟩
  replace hP := hP.on hb
  replace hXo := hXo.on hb
  replace hB := hB.trans (hb.mono hB.size)
  clear hb
  go_wp2_with (first | (with_reducible refine mm_load rfl _ rfl P rfl hP hz ?_) | (with_reducible refine mm_load_g (by with_unfolding_all rfl) _ rfl P rfl hP hz ?_) | (with_reducible refine mm_load rfl _ rfl X rfl hXo hzx ?_) | (with_reducible refine mm_load_g (by with_unfolding_all rfl) _ rfl X rfl hXo hzx ?_))
  refine (KX.out x _ (HT.out.below hB) (HS.out.below hB) (KLX.out _ (HL.out.below hB) (HO.out.below hB))).mono ?_
  rintro r w42 ⟨rfl, hb⟩
  replace hP := hP.on hb
  replace hXo := hXo.on hb
  replace hB := hB.trans (hb.mono hB.size)
  clear hb
  go_wp2_with (first | (with_reducible refine mm_load rfl _ rfl P rfl hP hz ?_) | (with_reducible refine mm_load_g (by with_unfolding_all rfl) _ rfl P rfl hP hz ?_) | (with_reducible refine mm_load rfl _ rfl X rfl hXo hzx ?_) | (with_reducible refine mm_load_g (by with_unfolding_all rfl) _ rfl X rfl hXo hzx ?_))
  refine (KS.out x _ (HL.out.below hB) (KLX.out _ (HL.out.below hB) (HO.out.below hB))).mono ?_
  rintro r w43 ⟨rfl, hb⟩
  replace hP := hP.on hb
  replace hXo := hXo.on hb
  replace hB := hB.trans (hb.mono hB.size)
  clear hb
  go_wp2_with (first | (with_reducible refine mm_load rfl _ rfl P rfl hP hz ?_) | (with_reducible refine mm_load_g (by with_unfolding_all rfl) _ rfl P rfl hP hz ?_) | (with_reducible refine mm_load rfl _ rfl X rfl hXo hzx ?_) | (with_reducible refine mm_load_g (by with_unfolding_all rfl) _ rfl X rfl hXo hzx ?_))
  go_ret
  exact ⟨rfl, hB⟩
set_option maxRecDepth 100000 in
set_option maxHeartbeats 1600000 in
theorem sbare_7 (m o : Mm) (M O : Ms) (hg : greatM m = false) (hg2 : greatM o = false) (hp : M.P) (hk : M.kind = 7) (w : World) (hT : Tab w) (hS : TabS w) (hL : Lies w m M) (hO : Lies w o O) :
    Calls Tryd.prog 8 #[.agg (mmA m), .agg (mmA o)] w fun r w' => r = .returned (.bool true) ∧ Below w.heap.size w w' := by
  have hz := mmA_size hL.mok
  have hy := mmA_size hO.mok
  have HL := Lib.hid hL
  have HO := Lib.hid hO
  have HT := Lib.hid hT
  have HS := Lib.hid hS
  have KAl := Lib.hid alive8
  have KG := Lib.hid (great8_at m hL.mok false hg)
  have KG2 := Lib.hid (great8_at o hO.mok false hg2)
  have KR := Lib.hid (fun w hL => rgood8_at m M w hL)
  rw [decide_eq_true hp] at KR
  obtain ⟨X0, hX0⟩ : ∃ X0 : Ms, X0 = ⟨M.kind, O.ver, O.serv, O.height, M.nb, O.names, O.stop, O.heads⟩ := ⟨_, rfl⟩
  have hb : X0.bare = M.bare := by
    rw [hX0]
    unfold Ms.bare
    simp only [hk]
    rfl
  have hpX : X0.P := (bare_P X0).1 (by rw [hb]; exact (bare_P M).2 hp)
  have hkX : X0.kind = M.kind := by rw [hX0]
  have hyX : X0.pay = M.pay := by rw [← pay_bare X0, hb, pay_bare]
  have heX : X0.env = M.env := by unfold Ms.env; rw [hkX, hyX]
  have KB := Lib.hid (fun w hT hS hL => bytes8_yes m M hp w hT hS hL)
  have KX : Hid (∀ (x : Mm) w, Tab w → TabS w → Lies w x X0 → Calls Tryd.prog 12 #[.agg (mmA x)] w fun e w' => e = .returned (.tuple #[.string (txt M.env.enc), .int .i64 0]) ∧ Below w.heap.size w w') := Lib.hid (fun x w hT hS hx => by
    have := bytes8_yes x X0 hpX w hT hS hx
    rwa [heX] at this)
  have KS : Hid (∀ (x : Mm) w, Lies w m M → Lies w x X0 → Calls Tryd.prog 18 #[.agg (mmA m), .agg (mmA x)] w fun e w' => e = .returned (.bool true) ∧ Below w.heap.size w w') := Lib.hid (fun x w hm hx => same8_at m x M X0 w hm hx true (decide_eq_true hb.symm))
  obtain ⟨k, ve, se, he, nb, ⟨sa, sn, sc⟩, st, ⟨ha, hn, hc⟩⟩ := m
  obtain ⟨x, hx⟩ : ∃ x : Mm, x = ⟨k, o.ver, o.serv, o.height, nb, o.ns, o.stop, o.hs⟩ := ⟨_, rfl⟩
  have HX := Lib.hid hx
  have KLX : Hid (∀ w, Lies w ⟨k, ve, se, he, nb, ⟨sa, sn, sc⟩, st, ⟨ha, hn, hc⟩⟩ M → Lies w o O → Lies w x X0) := Lib.hid (fun w hm ho => by
    rw [hX0, hx]
    exact ⟨hm.kind, ho.ver, ho.serv, ho.height, hm.nb, ho.stop, ho.n1, ho.l1, ho.names, ho.n2, ho.l2, ho.heads, ⟨ho.ok.1, ho.ok.2.1, ho.ok.2.2⟩⟩)
  have hkk : k = 7 := hL.kind.trans hk
  have t1 : (k == 1) = false := by rw [hkk]; rfl
  have t3 : (k == 3) = false := by rw [hkk]; rfl
  have t4 : (k == 4) = false := by rw [hkk]; rfl
  have t5 : (k == 5) = false := by rw [hkk]; rfl
  have t6 : (k == 6) = false := by rw [hkk]; rfl
  have t7 : (k == 7) = true := by rw [hkk]; rfl
  have hzx : (mmA x).size = 39 := mmA_size (by rw [hx]; exact hO.mok)
  clear hg hg2 hT hS hL hO hp hpX hk hkX hyX heX hb hX0 hx hkk
  generalize txt M.env.enc = enc at *
  generalize hm : (⟨k, ve, se, he, nb, ⟨sa, sn, sc⟩, st, ⟨ha, hn, hc⟩⟩ : Mm) = m at *
  have HM := Lib.hid hm
  clear hm
  have hP := mm_new w m
  have hQ := mm_new1 w (.cells (mmA m) 27) o
  have hb1 : Below w.heap.size w (w.alloc (.cells (mmA m) 27)) := (Below.refl _ _).alloc (Nat.le_refl _) _
  have hb2 : Below (w.alloc (.cells (mmA m) 27)).heap.size (w.alloc (.cells (mmA m) 27)) ((w.alloc (.cells (mmA m) 27)).alloc (.cells (mmA o) 27)) := (Below.refl _ _).alloc (Nat.le_refl _) _
  replace hP := hP.on hb2
  have hB := hb1.trans (hb2.mono hb1.size)
  clear hb1 hb2
  go_enter Tryd.func8, Tryd.ntmps8
  go_upto_region 1 with fail
  obtain ⟨P, hPe⟩ : ∃ P, P = w.heap.size := ⟨_, rfl⟩
  obtain ⟨Q, hQe⟩ : ∃ Q, Q = w.heap.size + 1 := ⟨_, rfl⟩
  rw [← hQe] at hQ ⊢
  rw [← hPe] at hP ⊢
  have hPQ : P ≠ Q := by omega
  have hPw : w.heap.size ≤ P := by omega
  have hQw : w.heap.size ≤ Q := by omega
  clear hPe hQe
  generalize World.alloc _ _ = w1 at *
  go_wp2_with fail
  refine (KAl.out _ (HT.out.below hB) (HS.out.below hB)).mono ?_
  rintro r w2 ⟨rfl, hb⟩
  replace hP := hP.on hb
  replace hQ := hQ.on hb
  replace hB := hB.trans (hb.mono hB.size)
  clear hb
  go_wp2_with (first | (with_reducible refine mm_load rfl _ rfl P rfl hP hz ?_) | (with_reducible refine mm_load_g (by with_unfolding_all rfl) _ rfl P rfl hP hz ?_) | (with_reducible refine mm_load rfl _ rfl Q rfl hQ hy ?_) | (with_reducible refine mm_load_g (by with_unfolding_all rfl) _ rfl Q rfl hQ hy ?_))
  refine (KG.out _).mono ?_
  rintro r w3 ⟨rfl, hb⟩
  replace hP := hP.on hb
  replace hQ := hQ.on hb
  replace hB := hB.trans (hb.mono hB.size)
  clear hb
  go_wp2_with (first | (with_reducible refine mm_load rfl _ rfl P rfl hP hz ?_) | (with_reducible refine mm_load_g (by with_unfolding_all rfl) _ rfl P rfl hP hz ?_) | (with_reducible refine mm_load rfl _ rfl Q rfl hQ hy ?_) | (with_reducible refine mm_load_g (by with_unfolding_all rfl) _ rfl Q rfl hQ hy ?_))
  refine (KG2.out _).mono ?_
  rintro r w4 ⟨rfl, hb⟩
  replace hP := hP.on hb
  replace hQ := hQ.on hb
  replace hB := hB.trans (hb.mono hB.size)
  clear hb
  go_wp2_with (first | (with_reducible refine mm_load rfl _ rfl P rfl hP hz ?_) | (with_reducible refine mm_load_g (by with_unfolding_all rfl) _ rfl P rfl hP hz ?_) | (with_reducible refine mm_load rfl _ rfl Q rfl hQ hy ?_) | (with_reducible refine mm_load_g (by with_unfolding_all rfl) _ rfl Q rfl hQ hy ?_))
  refine (KR.out _ (HL.out.below hB)).mono ?_
  rintro r w5 ⟨rfl, hb⟩
  replace hP := hP.on hb
  replace hQ := hQ.on hb
  replace hB := hB.trans (hb.mono hB.size)
  clear hb
  have hN := mm_newz w5
  have hz0 : (mmA (mmZ 0)).size = 39 := rfl
  have hPl := hP.lt
  go_upto_region 6 with (first | (with_reducible refine mm_load rfl _ rfl Q rfl hQ hy ?_) | (with_reducible refine mm_store rfl _ _ rfl w5.heap.size _ o rfl rfl rfl hy hN hz0 ?_))
  obtain ⟨X, hX⟩ : ∃ X, X = w5.heap.size := ⟨_, rfl⟩
  generalize hw5 : World.setRow _ _ _ = v0
  have hXo : MmAt v0 X o := by rw [← hw5, hX]; exact Has.row hN _
  have hb : Below w5.heap.size w5 v0 := by rw [← hw5]; exact below_setRow ((Below.refl _ _).alloc (Nat.le_refl _) _) (Nat.le_refl _) _
  have hXw : w.heap.size ≤ X := by rw [hX]; exact hB.size
  have hPX : P ≠ X := by omega
  rw [← hX]
  replace hP := hP.on hb
  replace hB := hB.trans (hb.mono hB.size)
  clear hw5 hX hN hz0 hPl hb hQ
  obtain ⟨x0, e0⟩ : ∃ x0 : Mm, x0 = o := ⟨_, rfl⟩
  rw [← e0] at hXo
  have E0' := Lib.hid e0
  clear e0
  have c : v0.cell? ⟨P, 0, none⟩ = some (.int .i64 k) := by have := hP.kind; rw [← HM.out] at this; exact this
  have f := hXo.free 0
  obtain ⟨u, d⟩ : ∃ u, v0.cell? ⟨X, 0, none⟩ = some u := ⟨_, hXo.kind⟩
  have hX1 := hXo.setKind k
  go_upto_region 7 with fail
  replace hP : MmAt (v0.setCell ⟨X, 0, none⟩ (.int .i64 k)) P m := Has.other hP _ _ hPX
  replace hB := hB.setCell (p := ⟨X, 0, none⟩) hXw (.int .i64 k)
  replace hXo := hX1
  clear c f d hX1
  generalize World.setCell _ _ _ = v1 at *
  obtain ⟨x1, e1⟩ : ∃ y : Mm, y = { x0 with kind := k } := ⟨_, rfl⟩
  rw [← e1] at hXo
  have E1 := Lib.hid e1
  clear e1
  have c : v1.cell? ⟨P, 0, none⟩ = some (.int .i64 k) := by have := hP.kind; rw [← HM.out] at this; exact this
  go_upto_region 23 with fail
  clear c
  have c : v1.cell? ⟨P, 4, none⟩ = some (.int .i64 nb) := by have := hP.nb; rw [← HM.out] at this; exact this
  have f := hXo.free 4
  obtain ⟨u, d⟩ : ∃ u, v1.cell? ⟨X, 4, none⟩ = some u := ⟨_, hXo.nb⟩
  have hX1 := hXo.setNb nb
  go_upto_region 24 with fail
  replace hP : MmAt (v1.setCell ⟨X, 4, none⟩ (.int .i64 nb)) P m := Has.other hP _ _ hPX
  replace hB := hB.setCell (p := ⟨X, 4, none⟩) hXw (.int .i64 nb)
  replace hXo := hX1
  clear c f d hX1
  generalize World.setCell _ _ _ = v2 at *
  obtain ⟨x2, e1⟩ : ∃ y : Mm, y = { x1 with nb := nb } := ⟨_, rfl⟩
  rw [← e1] at hXo
  have E2 := Lib.hid e1
  clear e1
  have hxx : x2 = x := by rw [E2.out, E1.out, E0'.out, HX.out]
  rw [hxx] at hXo
  clear hxx
  have hB1 := hB
  go_wp2_with (first | (with_reducible refine mm_load rfl _ rfl P rfl hP hz ?_) | (with_reducible refine mm_load_g (by with_unfolding_all rfl) _ rfl P rfl hP hz ?_) | (with_reducible refine mm_load rfl _ rfl X rfl hXo hzx ?_) | (with_reducible refine mm_load_g (by with_unfolding_all rfl) _ rfl X rfl hXo hzx ?_))
  refine (KB.out _ (HT.out.below hB) (HS.out.below hB) (HL.out.below hB)).mono ?_
  rintro r w41 ⟨rfl, hb⟩
  replace hP := hP.on hb
  replace hXo := hXo.on hb
  replace hB := hB.trans (hb.mono hB.size)
  clear hb
  go_wp2_with (first | (with_reducible refine mm_load rfl _ rfl P rfl hP hz ?_) | (with_reducible refine mm_load_g (by with_unfolding_all rfl) _ rfl P rfl hP hz ?_) | (with_reducible refine mm_load rfl _ rfl X rfl hXo hzx ?_) | (with_reducible refine mm_load_g (by with_unfolding_all rfl) _ rfl X rfl hXo hzx ?_))
  refine (KX.out x _ (HT.out.below hB) (HS.out.below hB) (KLX.out _ (HL.out.below hB) (HO.out.below hB))).mono ?_
  rintro r w42 ⟨rfl, hb⟩
  replace hP := hP.on hb
  replace hXo := hXo.on hb
  replace hB := hB.trans (hb.mono hB.size)
  clear hb
  go_wp2_with (first | (with_reducible refine mm_load rfl _ rfl P rfl hP hz ?_) | (with_reducible refine mm_load_g (by with_unfolding_all rfl) _ rfl P rfl hP hz ?_) | (with_reducible refine mm_load rfl _ rfl X rfl hXo hzx ?_) | (with_reducible refine mm_load_g (by with_unfolding_all rfl) _ rfl X rfl hXo hzx ?_))
  refine (KS.out x _ (HL.out.below hB) (KLX.out _ (HL.out.below hB) (HO.out.below hB))).mono ?_
  rintro r w43 ⟨rfl, hb⟩
  replace hP := hP.on hb
  replace hXo := hXo.on hb
  replace hB := hB.trans (hb.mono hB.size)
  clear hb
  go_wp2_with (first | (with_reducible refine mm_load rfl _ rfl P rfl hP hz ?_) | (with_reducible refine mm_load_g (by with_unfolding_all rfl) _ rfl P rfl hP hz ?_) | (with_reducible refine mm_load rfl _ rfl X rfl hXo hzx ?_) | (with_reducible refine mm_load_g (by with_unfolding_all rfl) _ rfl X rfl hXo hzx ?_))
  go_ret
  exact ⟨rfl, hB⟩
set_option maxRecDepth 100000 in
set_option maxHeartbeats 1600000 in
theorem sbare_28 (m o : Mm) (M O : Ms) (hg : greatM m = false) (hg2 : greatM o = false) (hp : M.P) (hk : M.kind = 2 ∨ M.kind = 8) (w : World) (hT : Tab w) (hS : TabS w) (hL : Lies w m M) (hO : Lies w o O) :
    Calls Tryd.prog 8 #[.agg (mmA m), .agg (mmA o)] w fun r w' => r = .returned (.bool true) ∧ Below w.heap.size w w' := by
  have hz := mmA_size hL.mok
  have hy := mmA_size hO.mok
  have HL := Lib.hid hL
  have HO := Lib.hid hO
  have HT := Lib.hid hT
  have HS := Lib.hid hS
  have KAl := Lib.hid alive8
  have KG := Lib.hid (great8_at m hL.mok false hg)
  have KG2 := Lib.hid (great8_at o hO.mok false hg2)
  have KR := Lib.hid (fun w hL => rgood8_at m M w hL)
  rw [decide_eq_true hp] at KR
  obtain ⟨X0, hX0⟩ : ∃ X0 : Ms, X0 = ⟨M.kind, O.ver, O.serv, O.height, O.nb, O.names, O.stop, O.heads⟩ := ⟨_, rfl⟩
  have hb : X0.bare = M.bare := by
    rw [hX0]
    unfold Ms.bare
    rcases hk with hk | hk
    · simp only [hk]; rfl
    · simp only [hk]; rfl
  have hpX : X0.P := (bare_P X0).1 (by rw [hb]; exact (bare_P M).2 hp)
  have hkX : X0.kind = M.kind := by rw [hX0]
  have hyX : X0.pay = M.pay := by rw [← pay_bare X0, hb, pay_bare]
  have heX : X0.env = M.env := by unfold Ms.env; rw [hkX, hyX]
  have KB := Lib.hid (fun w hT hS hL => bytes8_yes m M hp w hT hS hL)
  have KX : Hid (∀ (x : Mm) w, Tab w → TabS w → Lies w x X0 → Calls Tryd.prog 12 #[.agg (mmA x)] w fun e w' => e = .returned (.tuple #[.string (txt M.env.enc), .int .i64 0]) ∧ Below w.heap.size w w') := Lib.hid (fun x w hT hS hx => by
    have := bytes8_yes x X0 hpX w hT hS hx
    rwa [heX] at this)
  have KS : Hid (∀ (x : Mm) w, Lies w m M → Lies w x X0 → Calls Tryd.prog 18 #[.agg (mmA m), .agg (mmA x)] w fun e w' => e = .returned (.bool true) ∧ Below w.heap.size w w') := Lib.hid (fun x w hm hx => same8_at m x M X0 w hm hx true (decide_eq_true hb.symm))
  obtain ⟨k, ve, se, he, nb, ⟨sa, sn, sc⟩, st, ⟨ha, hn, hc⟩⟩ := m
  obtain ⟨x, hx⟩ : ∃ x : Mm, x = ⟨k, o.ver, o.serv, o.height, o.nb, o.ns, o.stop, o.hs⟩ := ⟨_, rfl⟩
  have HX := Lib.hid hx
  have KLX : Hid (∀ w, Lies w ⟨k, ve, se, he, nb, ⟨sa, sn, sc⟩, st, ⟨ha, hn, hc⟩⟩ M → Lies w o O → Lies w x X0) := Lib.hid (fun w hm ho => by
    rw [hX0, hx]
    exact ⟨hm.kind, ho.ver, ho.serv, ho.height, ho.nb, ho.stop, ho.n1, ho.l1, ho.names, ho.n2, ho.l2, ho.heads, ⟨ho.ok.1, ho.ok.2.1, ho.ok.2.2⟩⟩)
  have hkk : k = 2 ∨ k = 8 := by rcases hk with hk | hk; exact .inl (hL.kind.trans hk); exact .inr (hL.kind.trans hk)
  have t1 : (k == 1) = false := beq_eq_false_iff_ne.2 (by omega)
  have t3 : (k == 3) = false := beq_eq_false_iff_ne.2 (by omega)
  have t4 : (k == 4) = false := beq_eq_false_iff_ne.2 (by omega)
  have t5 : (k == 5) = false := beq_eq_false_iff_ne.2 (by omega)
  have t6 : (k == 6) = false := beq_eq_false_iff_ne.2 (by omega)
  have t7 : (k == 7) = false := beq_eq_false_iff_ne.2 (by omega)
  have hzx : (mmA x).size = 39 := mmA_size (by rw [hx]; exact hO.mok)
  clear hg hg2 hT hS hL hO hp hpX hk hkX hyX heX hb hX0 hx hkk
  generalize txt M.env.enc = enc at *
  generalize hm : (⟨k, ve, se, he, nb, ⟨sa, sn, sc⟩, st, ⟨ha, hn, hc⟩⟩ : Mm) = m at *
  have HM := Lib.hid hm
  clear hm
  have hP := mm_new w m
  have hQ := mm_new1 w (.cells (mmA m) 27) o
  have hb1 : Below w.heap.size w (w.alloc (.cells (mmA m) 27)) := (Below.refl _ _).alloc (Nat.le_refl _) _
  have hb2 : Below (w.alloc (.cells (mmA m) 27)).heap.size (w.alloc (.cells (mmA m) 27)) ((w.alloc (.cells (mmA m) 27)).alloc (.cells (mmA o) 27)) := (Below.refl _ _).alloc (Nat.le_refl _) _
  replace hP := hP.on hb2
  have hB := hb1.trans (hb2.mono hb1.size)
  clear hb1 hb2
  go_enter Tryd.func8, Tryd.ntmps8
  go_upto_region 1 with fail
  obtain ⟨P, hPe⟩ : ∃ P, P = w.heap.size := ⟨_, rfl⟩
  obtain ⟨Q, hQe⟩ : ∃ Q, Q = w.heap.size + 1 := ⟨_, rfl⟩
  rw [← hQe] at hQ ⊢
  rw [← hPe] at hP ⊢
  have hPQ : P ≠ Q := by omega
  have hPw : w.heap.size ≤ P := by omega
  have hQw : w.heap.size ≤ Q := by omega
  clear hPe hQe
  generalize World.alloc _ _ = w1 at *
  go_wp2_with fail
  refine (KAl.out _ (HT.out.below hB) (HS.out.below hB)).mono ?_
  rintro r w2 ⟨rfl, hb⟩
  replace hP := hP.on hb
  replace hQ := hQ.on hb
  replace hB := hB.trans (hb.mono hB.size)
  clear hb
  go_wp2_with (first | (with_reducible refine mm_load rfl _ rfl P rfl hP hz ?_) | (with_reducible refine mm_load_g (by with_unfolding_all rfl) _ rfl P rfl hP hz ?_) | (with_reducible refine mm_load rfl _ rfl Q rfl hQ hy ?_) | (with_reducible refine mm_load_g (by with_unfolding_all rfl) _ rfl Q rfl hQ hy ?_))
  refine (KG.out _).mono ?_
  rintro r w3 ⟨rfl, hb⟩
  replace hP := hP.on hb
  replace hQ := hQ.on hb
  replace hB := hB.trans (hb.mono hB.size)
  clear hb
  go_wp2_with (first | (with_reducible refine mm_load rfl _ rfl P rfl hP hz ?_) | (with_reducible refine mm_load_g (by with_unfolding_all rfl) _ rfl P rfl hP hz ?_) | (with_reducible refine mm_load rfl _ rfl Q rfl hQ hy ?_) | (with_reducible refine mm_load_g (by with_unfolding_all rfl) _ rfl Q rfl hQ hy ?_))
  refine (KG2.out _).mono ?_
  rintro r w4 ⟨rfl, hb⟩
  replace hP := hP.on hb
  replace hQ := hQ.on hb
  replace hB := hB.trans (hb.mono hB.size)
  clear hb
  go_wp2_with (first | (with_reducible refine mm_load rfl _ rfl P rfl hP hz ?_) | (with_reducible refine mm_load_g (by with_unfolding_all rfl) _ rfl P rfl hP hz ?_) | (with_reducible refine mm_load rfl _ rfl Q rfl hQ hy ?_) | (with_reducible refine mm_load_g (by with_unfolding_all rfl) _ rfl Q rfl hQ hy ?_))
  refine (KR.out _ (HL.out.below hB)).mono ?_
  rintro r w5 ⟨rfl, hb⟩
  replace hP := hP.on hb
  replace hQ := hQ.on hb
  replace hB := hB.trans (hb.mono hB.size)
  clear hb
  have hN := mm_newz w5
  have hz0 : (mmA (mmZ 0)).size = 39 := rfl
  have hPl := hP.lt
  go_upto_region 6 with (first | (with_reducible refine mm_load rfl _ rfl Q rfl hQ hy ?_) | (with_reducible refine mm_store rfl _ _ rfl w5.heap.size _ o rfl rfl rfl hy hN hz0 ?_))
  obtain ⟨X, hX⟩ : ∃ X, X = w5.heap.size := ⟨_, rfl⟩
  generalize hw5 : World.setRow _ _ _ = v0
  have hXo : MmAt v0 X o := by rw [← hw5, hX]; exact Has.row hN _
  have hb : Below w5.heap.size w5 v0 := by rw [← hw5]; exact below_setRow ((Below.refl _ _).alloc (Nat.le_refl _) _) (Nat.le_refl _) _
  have hXw : w.heap.size ≤ X := by rw [hX]; exact hB.size
  have hPX : P ≠ X := by omega
  rw [← hX]
  replace hP := hP.on hb
  replace hB := hB.trans (hb.mono hB.size)
  clear hw5 hX hN hz0 hPl hb hQ
  obtain ⟨x0, e0⟩ : ∃ x0 : Mm, x0 = o := ⟨_, rfl⟩
  rw [← e0] at hXo
  have E0' := Lib.hid e0
  clear e0
  have c : v0.cell? ⟨P, 0, none⟩ = some (.int .i64 k) := by have := hP.kind; rw [← HM.out] at this; exact this
  have f := hXo.free 0
  obtain ⟨u, d⟩ : ∃ u, v0.cell? ⟨X, 0, none⟩ = some u := ⟨_, hXo.kind⟩
  have hX1 := hXo.setKind k
  go_upto_region 7 with fail
  replace hP : MmAt (v0.setCell ⟨X, 0, none⟩ (.int .i64 k)) P m := Has.other hP _ _ hPX
  replace hB := hB.setCell (p := ⟨X, 0, none⟩) hXw (.int .i64 k)
  replace hXo := hX1
  clear c f d hX1
  generalize World.setCell _ _ _ = v1 at *
  obtain ⟨x1, e1⟩ : ∃ y : Mm, y = { x0 with kind := k } := ⟨_, rfl⟩
  rw [← e1] at hXo
  have E1 := Lib.hid e1
  clear e1
  have c : v1.cell? ⟨P, 0, none⟩ = some (.int .i64 k) := by have := hP.kind; rw [← HM.out] at this; exact this
  go_upto_region 24 with fail
  clear c
  have hxx : x1 = x := by rw [E1.out, E0'.out, HX.out]
  rw [hxx] at hXo
  clear hxx
  have hB1 := hB
  go_wp2_with (first | (with_reducible refine mm_load rfl _ rfl P rfl hP hz ?_) | (with_reducible refine mm_load_g (by with_unfolding_all rfl) _ rfl P rfl hP hz ?_) | (with_reducible refine mm_load rfl _ rfl X rfl hXo hzx ?_) | (with_reducible refine mm_load_g (by with_unfolding_all rfl) _ rfl X rfl hXo hzx ?_))
  refine (KB.out _ (HT.out.below hB) (HS.out.below hB) (HL.out.below hB)).mono ?_
  rintro r w41 ⟨rfl, hb⟩
  replace hP := hP.on hb
  replace hXo := hXo.on hb
  replace hB := hB.trans (hb.mono hB.size)
  clear hb
  go_wp2_with (first | (with_reducible refine mm_load rfl _ rfl P rfl hP hz ?_) | (with_reducible refine mm_load_g (by with_unfolding_all rfl) _ rfl P rfl hP hz ?_) | (with_reducible refine mm_load rfl _ rfl X rfl hXo hzx ?_) | (with_reducible refine mm_load_g (by with_unfolding_all rfl) _ rfl X rfl hXo hzx ?_))
  refine (KX.out x _ (HT.out.below hB) (HS.out.below hB) (KLX.out _ (HL.out.below hB) (HO.out.below hB))).mono ?_
  rintro r w42 ⟨rfl, hb⟩
  replace hP := hP.on hb
  replace hXo := hXo.on hb
  replace hB := hB.trans (hb.mono hB.size)
  clear hb
  go_wp2_with (first | (with_reducible refine mm_load rfl _ rfl P rfl hP hz ?_) | (with_reducible refine mm_load_g (by with_unfolding_all rfl) _ rfl P rfl hP hz ?_) | (with_reducible refine mm_load rfl _ rfl X rfl hXo hzx ?_) | (with_reducible refine mm_load_g (by with_unfolding_all rfl) _ rfl X rfl hXo hzx ?_))
  refine (KS.out x _ (HL.out.below hB) (KLX.out _ (HL.out.below hB) (HO.out.below hB))).mono ?_
  rintro r w43 ⟨rfl, hb⟩
  replace hP := hP.on hb
  replace hXo := hXo.on hb
  replace hB := hB.trans (hb.mono hB.size)
  clear hb
  go_wp2_with (first | (with_reducible refine mm_load rfl _ rfl P rfl hP hz ?_) | (with_reducible refine mm_load_g (by with_unfolding_all rfl) _ rfl P rfl hP hz ?_) | (with_reducible refine mm_load rfl _ rfl X rfl hXo hzx ?_) | (with_reducible refine mm_load_g (by with_unfolding_all rfl) _ rfl X rfl hXo hzx ?_))
  go_ret
  exact ⟨rfl, hB⟩
theorem sbare_walk (m o : Mm) (M O : Ms) (w : World) (hT : Tab w) (hS : TabS w) (hL : Lies w m M) (hO : Lies w o O) :
    Calls Tryd.prog 8 #[.agg (mmA m), .agg (mmA o)] w fun r w' => r = .returned (.bool true) ∧ Below w.heap.size w w' := by
  cases hg : greatM m
  · cases hg2 : greatM o
    · by_cases hp : M.P
      · have := P_kind hp
        obtain h | h | h | h | h | h | h : M.kind = 1 ∨ M.kind = 3 ∨ M.kind = 4 ∨ M.kind = 5 ∨ M.kind = 6 ∨ M.kind = 7 ∨ (M.kind = 2 ∨ M.kind = 8) := by omega
        · exact sbare_1 m o M O hg hg2 hp h w hT hS hL hO
        · exact sbare_3 m o M O hg hg2 hp h w hT hS hL hO
        · exact sbare_4 m o M O hg hg2 hp h w hT hS hL hO
        · exact sbare_5 m o M O hg hg2 hp h w hT hS hL hO
        · exact sbare_6 m o M O hg hg2 hp h w hT hS hL hO
        · exact sbare_7 m o M O hg hg2 hp h w hT hS hL hO
        · exact sbare_28 m o M O hg hg2 hp h w hT hS hL hO
      · exact sbare_bad m o M O hg hg2 hp w hT hS hL hO
    · exact sbare_gb m o M O hg hg2 w hT hS hL hO
  · exact sbare_ga m o M O hg w hT hS hL hO
end Go.Proofs.YtmpllagaeoolaaaDoor
