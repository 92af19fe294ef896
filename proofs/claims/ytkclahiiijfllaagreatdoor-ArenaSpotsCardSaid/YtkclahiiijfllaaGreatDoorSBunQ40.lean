import Derived.Test.YtkclahiiijfllaaGreatDoorSIdm
import Derived.Test.YtkclahiiijfllaaGreatDoorSBunQ39
set_option maxRecDepth 100000
set_option maxHeartbeats 4000000
namespace Go.Proofs.YtkclahiiijfllaaGreatDoor.An
open Go.RowKit Mem Sc NN.Rg2
open Ar (Ent Ru entZ Ok)
section
variable {ρ : Operand → Value} {o : Oper} {w : World}
end
end Go.Proofs.YtkclahiiijfllaaGreatDoor.An
namespace Go.Proofs.YtkclahiiijfllaaGreatDoor.An
open Go.RowKit Mem Sc NN.Rg2
open Ar (Ent Ru entZ Ok)
end Go.Proofs.YtkclahiiijfllaaGreatDoor.An
namespace Go.Proofs.YtkclahiiijfllaaGreatDoor.An
open Go.RowKit Mem Sc
open Ar (Ent Ru entZ Ok)
theorem qacu_ {w : World} {base : Nat} {v : Value} {e size n : Nat} {xs : List Value} (h : w.ownsRow base e size v n xs) : w.ownsRow 0 e size v n xs := by
 refine ⟨h.1, ?_⟩
 rcases h.2 with h | ⟨g, c, cur, rfl, h1, h2⟩
 ·exact .inl h
 ·exact .inr ⟨g, c, cur, rfl, Nat.zero_le _, h2⟩
theorem qacv_ (b g n c k : Nat) (s : Sp) (hs : s.ok) (hk : k < n) (hpos : 0 < s.n) (ts : List Int) (w : World) (hv : w.cell? ⟨b, 84, none⟩ = some (.slice (some ⟨g, 0, none⟩) n c)) (hr : w.rangeAt g (k * 144 + 106) (spC s))
  (KH : HK_ w 39 #[.pointer (some ⟨b, 0, none⟩), .int .i64 (k : Int)] (.bool true))
  (KC : Hid (∀ w', Below w.heap.size w w' → Calls Tryz.prog 51 #[.slice s.a s.n s.c] w' fun e w'' => ∃ v', e = .returned v' ∧ w''.ownsRow w'.heap.size 3 1 v' s.n (ts.map (Value.int .i64)) ∧ Below w'.heap.size w' w'')) :
  Calls Tryz.prog 26 #[.pointer (some ⟨b, 0, none⟩), .int .i64 (k : Int)] w fun r w' => ∃ g' c', r = .returned (.tuple #[.agg (spA ⟨s.x, s.prev, some ⟨g', 0, none⟩, s.n, c'⟩), .bool true]) ∧ w'.ownsRow 0 3 1 (.slice (some ⟨g', 0, none⟩) s.n c') s.n (ts.map (Value.int .i64)) ∧ w.heap.size ≤ g' ∧ Below w.heap.size w w' := by
 have z0 := qal_ spZ_ok
 have z1 := qal_ hs
 have z2 := qbl_ hs
 go_enter Tryz.func26, Tryz.ntmps26
 go_upto_region 1 with fail
 generalize hw0 : World.alloc _ _ = v0
 have hB : Below w.heap.size w v0 := bl_ hw0
 have hR : SpAt v0 w.heap.size spZ := by rw [← hw0]; exact qby_ w
 clear hw0
 obtain ⟨bR, hbR⟩ : ∃ x, x = w.heap.size := ⟨_, rfl⟩
 rw [← hbR] at hR ⊢
 have HBR := h_ hbR
 clear hbR
 go_wp2_with fail
 refine (KH.out _ hB).mono ?_
 rintro r v1 ⟨rfl, hb⟩
 replace hR := hR.on hb
 replace hB := tb_ hB hb
 clear hb
 have hv1 := (hB.cell (p := ⟨b, 84, none⟩) (block_lt_of_cell hv)).trans hv
 have hr1 : v1.rangeAt g (k * 144 + 106) (spC s) := qav_ hr hB (by omega)
 clear hv hr
 go_upto_region 4 with (first
  | (with_reducible refine qds_ rfl _ rfl g (k * 144 + 106) rfl s hr1 z2 ?_)
  | (with_reducible refine qbw_ rfl _ _ rfl _ _ s rfl rfl rfl z1 (qby_ v1) z0 ?_))
 generalize hw4 : World.setRow _ _ _ = v2
 have hb2 : Below v1.heap.size v1 v2 := bw_ hw4
 have hX : SpAt v2 v1.heap.size s := by rw [← hw4]; exact Has.row (qby_ v1) _
 have hlt := hR.lt
 replace hR := hR.on hb2
 replace hB := tb_ hB hb2
 obtain ⟨bX, hbX⟩ : ∃ x, x = v1.heap.size := ⟨_, rfl⟩
 rw [← hbX] at hX hlt ⊢
 have HNX := h_ hlt
 clear hw4 hb2 hv1 hr1 hbX hlt
 have c37 := hX.sl hs
 go_wp2_with fail
 refine (KC.out _ hB).mono ?_
 rintro r v3 ⟨v', rfl, ho, hb⟩
 obtain ⟨g', c', rfl⟩ := qcf_ ho hpos
 have hg' := (row_lt ho (i := g') rfl).2
 have HG : Hid (w.heap.size ≤ g') := h_ (Nat.le_trans hB.size hg')
 have HNG : Hid (bX < g' ∧ bR < g') := h_ ⟨Nat.lt_of_lt_of_le hX.lt hg', Nat.lt_of_lt_of_le hR.lt hg'⟩
 replace hR := hR.on hb
 replace hX := hX.on hb
 replace hB := tb_ hB hb
 have c37 := hX.sl hs
 have f37 := SpAt.free hX 37
 have HO := h_ (qacu_ ho)
 clear hb ho hg'
 go_upto_region 5 with (with_reducible refine qkf_ rfl _ _ rfl ⟨bX, 37, none⟩ _ _ _ _ rfl rfl f37 c37 ?_)
 simp only [Act.put]
 have hX4 := hX.setS hs (some ⟨g', 0, none⟩) s.n c'
 have hR4 := hR.other ⟨bX, 37, none⟩ (.slice (some ⟨g', 0, none⟩) s.n c') (fun e => by have := HNX.out; simp only at e; omega)
 have hB4 : Below w.heap.size w (v3.setCell ⟨bX, 37, none⟩ (.slice (some ⟨g', 0, none⟩) s.n c')) := qfn_ hB _ _ (by have := HNX.out; have := HBR.out; simp only; omega)
 have hk4 : Kp (fun i => i = bX) v3 (v3.setCell ⟨bX, 37, none⟩ (.slice (some ⟨g', 0, none⟩) s.n c')) := Kp.gb (qbm_ v3 bX 37 _) (fun k hk => (Option.some.inj hk).symm)
 have HO4 := h_ (kp_row HO.out hk4 (fun i hi e => by have h1 : g' = i := Option.some.inj hi; have := HNG.out.1; omega))
 generalize World.setCell _ _ _ = v4 at *
 have z4 : (spA ⟨s.x, s.prev, some ⟨g', 0, none⟩, s.n, c'⟩).size = 38 := qal_ hs
 clear hX hR hB hk4 HO c37 f37
 go_wp2_with (first
  | (with_reducible refine qrr_ rfl _ rfl _ rfl hX4 z4 ?_)
  | (with_reducible refine qbw_ rfl _ _ rfl _ _ ⟨s.x, s.prev, some ⟨g', 0, none⟩, s.n, c'⟩ rfl rfl rfl z4 hR4 z0 ?_))
 have hk5 : Kp (fun i => i = bR) v4 (v4.setRow bR (spA ⟨s.x, s.prev, some ⟨g', 0, none⟩, s.n, c'⟩)) := ⟨rfl, rfl, rfl, by rw [setRow_size]; exact Nat.le_refl _, fun k _ hn => setRow_other v4 bR k _ hn⟩
 refine bodyPost_ret (qhn_ Tryz.results26 _ _ _ rfl rfl (Has.row hR4 _) z4) rfl ⟨g', c', rfl, kp_row HO4.out hk5 (fun i hi e => ?_), HG.out, below_setRow hB4 (by have := HBR.out; omega) _⟩
 have h1 : g' = i := Option.some.inj hi
 have := HNG.out.2
 omega
theorem qww_ (p : Value) (k : Int) (w : World) (KH : HK_ w 39 #[p, .int .i64 k] (.bool false)) :
  Ca_ 26 #[p, .int .i64 k] w (.tuple #[.agg (spA spZ), .bool false]) := by
 have z0 := qal_ spZ_ok
 go_enter Tryz.func26, Tryz.ntmps26
 go_upto_region 1 with fail
 generalize hw0 : World.alloc _ _ = v0
 have hB : Below w.heap.size w v0 := bl_ hw0
 have hR : SpAt v0 w.heap.size spZ := by rw [← hw0]; exact qby_ w
 clear hw0
 obtain ⟨bR, hbR⟩ : ∃ x, x = w.heap.size := ⟨_, rfl⟩
 rw [← hbR] at hR ⊢
 have HBR : Hid (w.heap.size ≤ bR) := h_ (by omega)
 clear hbR
 go_wp2_with fail
 refine (KH.out _ hB).mono ?_
 rintro e v1 ⟨rfl, hb⟩
 replace hR := hR.on hb
 replace hB := tb_ hB hb
 clear hb
 go_wp2_with (with_reducible refine qbw_ rfl _ _ rfl _ _ spZ rfl rfl rfl z0 hR z0 ?_)
 refine bodyPost_ret (qhn_ Tryz.results26 _ _ _ rfl rfl (Has.row hR _) z0) rfl ⟨rfl, below_setRow hB HBR.out _⟩
theorem qacw_ {w : World} {F : Nat → Prop} {b : Nat} {r : Ru} {M : List Ent} (h : ArS w F b r M) {i : Nat} {e : Ent} (he : M[i]? = some e) :
  Calls Tryz.prog 26 #[.pointer (some ⟨b, 0, none⟩), .int .i64 (i : Int)] w fun x w' => ∃ g' c', x = .returned (.tuple #[.agg (spA ⟨(Ar.spot r e).x, (Ar.spot r e).prev, some ⟨g', 0, none⟩, (Ar.spot r e).ts.length, c'⟩), .bool true]) ∧ w'.ownsRow 0 3 1 (.slice (some ⟨g', 0, none⟩) (Ar.spot r e).ts.length c') (Ar.spot r e).ts.length ((Ar.spot r e).ts.map (Value.int .i64)) ∧ w.heap.size ≤ g' ∧ Below w.heap.size w w' := by
 have hi := (List.getElem?_eq_some_iff.1 he).1
 have KH : HK_ w 39 #[.pointer (some ⟨b, 0, none⟩), .int .i64 (i : Nat)] (.bool true) := h_ fun w' hb => has_at (h.below hb) _ true (by rw [Bool.and_eq_true]; exact ⟨decide_eq_true (by omega), decide_eq_true (by omega)⟩)
 obtain ⟨_, I, p, t, v, mb, L, h1, h2, h3, h4⟩ := h
 obtain ⟨s, hs⟩ := h3.at he
 obtain ⟨g, c, rfl, hg, hr⟩ := h1.range hs
 have hx := h1.good _ (List.mem_of_getElem? hs)
 have hsp := (h1.spots _ (List.mem_of_getElem? hs)).now
 have q3 := way_ts r.p r.g e.hs e.hs.length (Nat.le_refl _)
 have q4 : 0 < (Ar.spot r e).ts.length ∧ (Ar.spot r e).ts.length ≤ 11 := by show 0 < (way r.p r.g e.hs e.hs.length).ts.length ∧ (way r.p r.g e.hs e.hs.length).ts.length ≤ 11; rw [q3]; omega
 generalize Ar.spot r e = q at *
 obtain ⟨sx, sv, sa, sn, sc⟩ := s
 obtain ⟨e1, e2, e3, e4, ⟨b2, e5⟩, e6⟩ := hsp
 simp only at e1 e2 e3 e4 e5 e6 hx hr
 subst e1 e2 e3 e5
 refine qacv_ b g L.length c i ⟨q.x, q.prev, some ⟨b2, 0, none⟩, q.ts.length, sc⟩ hx.2 (by rw [h3.length]; exact hi) q4.1 q.ts w (ar84 h1.has h1.pok) (qij_ hx.1 hr) KH (h_ fun w' hb => ?_)
 obtain ⟨b3, off, e7, _, h8, hc⟩ := e6 q4.1
 cases e7
 have hc' : ∀ j, j < q.ts.length → w'.cell? ⟨b2, 0 + j, none⟩ = some (.int .i64 (q.ts.getD j 0)) := fun j hj => (hb.cell (p := ⟨b2, 0 + j, none⟩) h8).trans (hc j hj)
 refine (Tryz.slices_Clone_int b2 0 q.ts.length sc q.ts w' (Nat.le_refl _) (by omega) hc').mono ?_
 rintro x w'' ⟨v', rfl, ho, _, hb2⟩
 rw [List.take_of_length_le (Nat.le_refl _)] at ho
 exact ⟨v', rfl, ho, hb2⟩
theorem qacx_ {w : World} {F : Nat → Prop} {b : Nat} {r : Ru} {M : List Ent} (h : ArS w F b r M) : Calls Tryz.prog 26 #[.pointer (some ⟨b, 0, none⟩), .int .i64 (-1)] w fun x w' => x = .returned (.tuple #[.agg (spA spZ), .bool false]) ∧ Below w.heap.size w w' :=
 qww_ _ _ w (h_ fun w' hb => has_at (h.below hb) (-1) false (by simp))
end Go.Proofs.YtkclahiiijfllaaGreatDoor.An
namespace Go.Proofs.YtkclahiiijfllaaGreatDoor.An
open Go.RowKit Mem Sc
open Ar (Ent Ru entZ Ok)
def OwnG (B : Nat) (w : World) (a : Option Addr) (gs : List Gt) : Prop := GatesAt w a gs ∧ (0 < gs.length → ∃ g cur, a = some ⟨g, 0, none⟩ ∧ B ≤ g ∧ Has w g cur 77)
theorem qlt_ (a : Option Addr) (n c : Nat) (L : List Gt) (hn : n = L.length) (hl : n ≤ 1000) (w : World) (hA : GatesAt w a L) :
  Calls Tryz.prog 57 #[.slice a n c] w fun e w' => ∃ a' c', e = .returned (.slice a' n c') ∧ OwnG w.heap.size w' a' L ∧ Below w.heap.size w w' := by
 by_cases h0 : 0 < L.length
 ·obtain ⟨ab, ao, rfl, hlt, hc⟩ := hA h0
  have hlen : ∀ x ∈ L, (gtC x).length = 2 := (fun _ _ => rfl)
  refine (qcd_ ⟨ab, ao, none⟩ n c L hn hl w (fun j u hj => ?_)).mono ?_
  ·rw [Addr.add_lit]
   refine qeg_ gtC 2 (by decide) L hlen (fun i x hi => ?_) j u hj
   obtain ⟨h1, h2⟩ := List.getElem?_eq_some_iff.1 hi
   rw [← h2]; exact hc i h1
  ·rintro e w' ⟨v', rfl, ho, hb⟩
   obtain ⟨a', c', rfl, _, h3⟩ := qgh_ gtC 2 L hlen ho hn
   obtain ⟨g, rfl, h4, h5, h6⟩ := h3 (by omega)
   obtain ⟨cur, hcur⟩ := qbg_ ho (i := g) rfl
   exact ⟨_, c', rfl, ⟨fun _ => ⟨g, 0, rfl, h5, fun i hi => by rw [Nat.zero_add]; exact h6 i _ (List.getElem?_eq_getElem hi)⟩, fun _ => ⟨g, cur, rfl, h4, hcur⟩⟩, hb⟩
 ·refine (qhp_ a n c L hn hl w hA).mono ?_
  rintro e w' ⟨a', c', rfl, ⟨h1, _⟩, hb⟩
  exact ⟨a', c', rfl, ⟨h1, fun h => absurd h h0⟩, hb⟩
theorem qwx_ {p : NN.Pr} (h1 : p.one) {t : Tl} (tt : p.tl = t.C) (ga : Option Addr) (gc : Nat) (ca : Option Addr) (cc : Nat) : (moved p t ga gc ca cc).one := by
 intro v hv
 have hv' : v ∈ (Value.slice ga t.gn gc :: Value.slice ca t.cn cc :: (t.nn ++ hdC t.g)) := hv
 simp only [List.mem_cons] at hv'
 rcases hv' with rfl | rfl | hv'
 ·rfl
 ·rfl
 ·exact h1 v (by rw [tt]; unfold Tl.C; simp only [List.mem_cons]; exact .inr (.inr hv'))
theorem qacy_ (b : Nat) (p : NN.Pr) (hp : p.ok) (room : Nat) (v : Value) (mb : Nat) (X : World → NN.Pr → Prop) (w : World) (hA : Has w b (arA p room v mb) 85)
  (KC : Hid (∀ w', Below w.heap.size w w' → w.heap.size < w'.heap.size → Calls Tryz.prog 31 #[.agg (NN.prA p)] w' fun e w'' => ∃ p', e = .returned (.agg (NN.prA p')) ∧ (p'.ok ∧ p'.one) ∧ X w'' p' ∧ Below w'.heap.size w' w'')) :
  Calls Tryz.prog 27 #[.pointer (some ⟨b, 0, none⟩)] w fun e w' => ∃ p', e = .returned (.agg (NN.prA p')) ∧ (p'.ok ∧ p'.one) ∧ (∃ w1, X w1 p' ∧ Kp (fun i => i = w.heap.size) w1 w') ∧ Below w.heap.size w w' := by
 have zp := qq_ hp
 have zZ := NN.qak_ prZ_ok
 have HA := h_ hA
 go_enter Tryz.func27, Tryz.ntmps27
 go_upto_region 1 with fail
 generalize hw0 : World.alloc _ _ = v0
 have hB : Below w.heap.size w v0 := bl_ hw0
 have hR : NN.PrAt v0 w.heap.size prZ := by rw [← hw0]; exact qjz_ w
 clear hw0
 obtain ⟨bR, hbR⟩ : ∃ x, x = w.heap.size := ⟨_, rfl⟩
 rw [← hbR] at hR ⊢
 have HBR := h_ hbR
 clear hbR hA
 have rp := ar_pr (qe_ hB HA.out HA.out.lt)
 have hlt : w.heap.size < v0.heap.size := by rw [← HBR.out]; exact NN.Has.lt hR
 go_wp2_with (with_reducible refine qol_ rfl _ rfl b 0 rfl p rp zp ?_)
 refine (KC.out _ hB hlt).mono ?_
 rintro e v1 ⟨q, rfl, ⟨q1, q2⟩, hX, hb⟩
 have z5 := NN.qak_ q1
 replace hR := NN.PrAt.on hR hb
 replace hB := tb_ hB hb
 have HX := h_ hX
 clear hb rp hlt hX
 go_wp2_with (with_reducible refine qik_ rfl _ _ rfl _ _ q q2 rfl rfl rfl z5 hR zZ ?_)
 have hk5 : Kp (fun i => i = bR) v1 (v1.setRow bR (NN.prA q)) := ⟨rfl, rfl, rfl, by rw [setRow_size]; exact Nat.le_refl _, fun k _ hn => setRow_other v1 bR k _ hn⟩
 exact bodyPost_ret (qka_ Tryz.results27 _ _ rfl (Has.row hR _) z5) rfl ⟨q, rfl, ⟨q1, q2⟩, ⟨v1, HX.out, by rw [← HBR.out]; exact hk5⟩, below_setRow hB (by rw [HBR.out]; exact Nat.le_refl _) _⟩
structure Told (w : World) (B : Nat) (r : Ru) (p : NN.Pr) (t : Tl) : Prop where
 tt : p.tl = t.C
 ok : t.ok
 one : p.one
 gn : t.gn = r.gs.length
 cn : t.cn = r.cs.length
 al : Alike p t r
 own : OwnG B w t.ga r.gs
theorem qwy_ {w : World} {F : Nat → Prop} {b : Nat} {r : Ru} {M : List Ent} (h : ArS w F b r M) (hgl : r.gs.length ≤ 1000) (hcl : r.cs.length ≤ 1000) :
  Calls Tryz.prog 27 #[.pointer (some ⟨b, 0, none⟩)] w fun e w' => ∃ p t, e = .returned (.agg (NN.prA p)) ∧ p.ok ∧ Told w' w.heap.size r p t ∧ Below w.heap.size w w' := by
 obtain ⟨_, I, p, t, v, mb, L, h1, h2, h3, h4⟩ := h
 refine (qacy_ b p h1.pok r.room v mb (fun w1 p' => ∃ t', p'.tl = t'.C ∧ t'.ok ∧ t'.gn = r.gs.length ∧ t'.cn = r.cs.length ∧ Alike p' t' r ∧ OwnG (w.heap.size + 1) w1 t'.ga r.gs) w h1.has (h_ fun w' hb hlt => ?_)).mono ?_
 ·have hk := h1.below hb
  refine (qsp_ p hk.pok hk.one t hk.tt hk.tok (fun w1 a => OwnG (w'.heap.size + 2) w1 a r.gs) (fun _ _ => True) w' (h_ fun w2 hb2 hs2 => ?_) (h_ fun w2 hb2 hs2 => ?_)).mono ?_
  ·refine (qlt_ t.ga t.gn t.gc r.gs hk.gn (by rw [hk.gn]; exact hgl) w2 (hk.gates.now.below hb2)).mono ?_
   rintro e w3 ⟨a', c', rfl, ⟨g1, g2⟩, hb3⟩
   exact ⟨a', c', rfl, ⟨g1, fun h0 => by obtain ⟨g, cur, e1, e2, e3⟩ := g2 h0; exact ⟨g, cur, e1, Nat.le_trans hs2 e2, e3⟩⟩, hb3⟩
  ·refine (qgm_ t.ca t.cn t.cc r.cs hk.cn (by rw [hk.cn]; exact hcl) w2 (hk.checks.now.below hb2)).mono ?_
   rintro e w3 ⟨a', c', rfl, _, hb3⟩
   exact ⟨a', c', rfl, trivial, hb3⟩
  ·rintro e w2 ⟨ga, gc, ca, cc, rfl, ⟨w3, ⟨g1, g2⟩, g3⟩, _, hb2⟩
   refine ⟨moved p t ga gc ca cc, rfl, ⟨qlp_ p t hk.tok ga gc ca cc, qwx_ hk.one hk.tt ga gc ca cc⟩, ⟨movedT t ga gc ca cc, rfl, hk.tok, hk.gn, hk.cn, ⟨h2.1, h2.2.1, h2.2.2.1, h2.2.2.2.1, h2.2.2.2.2.1, h2.2.2.2.2.2⟩, ?_, fun h0 => ?_⟩, hb2⟩
   ·refine (Sup.on (qfm_ (I := fun i => w'.heap.size + 2 ≤ i) g1 (fun h0 ad e => ?_)) g3 (fun i hi h => ?_)).now
    ·obtain ⟨g, cur, e1, e2, e3⟩ := g2 h0
     rw [e1] at e
     cases e
     exact e2
    ·rcases h with h | h <;> omega
   ·obtain ⟨g, cur, e1, e2, e3⟩ := g2 h0
    exact ⟨g, cur, e1, by omega, g3.has e3 (fun h => by rcases h with h | h <;> omega)⟩
 ·rintro e w' ⟨p', rfl, ⟨hp', hp1⟩, ⟨w1, ⟨t', a1, a2, a3, a4, a5, a6, a7⟩, hk⟩, hb⟩
  refine ⟨p', t', rfl, hp', ⟨a1, a2, hp1, a3, a4, a5, ?_, fun h0 => ?_⟩, hb⟩
  ·refine (Sup.on (qfm_ (I := fun i => w.heap.size + 1 ≤ i) a6 (fun h0 ad e => ?_)) hk (fun i hi h => by omega)).now
   obtain ⟨g, cur, e1, e2, e3⟩ := a7 h0
   rw [e1] at e
   cases e
   exact e2
  ·obtain ⟨g, cur, e1, e2, e3⟩ := a7 h0
   exact ⟨g, cur, e1, by omega, hk.has e3 (fun h => by omega)⟩
end Go.Proofs.YtkclahiiijfllaaGreatDoor.An
namespace Go.Proofs.YtkclahiiijfllaaGreatDoor.An
open Go.RowKit Mem Sc NN.Rg2
open Ar (Ent Ru entZ Ok)
theorem gt_neq (g : Gt) (w : World) : (binOp .neq 77 (.agg (gtA g)) (.agg (gtA g))).run Tryz.prog w = .ok (.bool false) w := by
 have hS : Tryz.prog.underlying 77 = some (.struct (Tryz.prog.fieldsOf 77)) := by kernel_rfl
 rw [run_neq_struct, show (10000 : Nat) = 9999 + 1 from rfl, run_equalIn_agg w 9999 77 _ _ hS (by kernel_rfl)]
 simp only [Program.fieldsOf, Tryz.underlying77]
 have p0 := qax_ (gtA g) 0 (.int .i64 g.h) rfl
 have p1 := qax_ (gtA g) 1 (.int .i64 g.v) rfl
 have q := fun x y => eq_int x y 9998
 simp only [Op.eqFields, ne_eq, String.reduceEq, not_false_eq_true, if_true, Sem.run_bind, Sem.run_ite, Sem.run_pure, Result.andThen_ok, p0, p1, q, beq_self_eq_true, Bool.not_true, Bool.false_eq_true, if_false]
theorem pt_neq (x : NN.Pt) (w : World) : (binOp .neq 67 (.agg (NN.ptA x)) (.agg (NN.ptA x))).run Tryz.prog w = .ok (.bool false) w := by
 have hS : Tryz.prog.underlying 67 = some (.struct (Tryz.prog.fieldsOf 67)) := by kernel_rfl
 rw [run_neq_struct, show (10000 : Nat) = 9999 + 1 from rfl, run_equalIn_agg w 9999 67 _ _ hS (by kernel_rfl)]
 simp only [Program.fieldsOf, Tryz.underlying67]
 have p0 := qax_ (NN.ptA x) 0 (.int .i64 x.h) rfl
 have p1 := qax_ (NN.ptA x) 1 (.int .i64 x.b) rfl
 have p2 := qax_ (NN.ptA x) 2 (.int .i64 x.t) rfl
 have p3 := qax_ (NN.ptA x) 3 (.int .i64 x.f) rfl
 have p4 := qax_ (NN.ptA x) 4 (.int .i64 x.r) rfl
 have q := fun x y => eq_int x y 9998
 simp only [Op.eqFields, ne_eq, String.reduceEq, not_false_eq_true, if_true, Sem.run_bind, Sem.run_ite, Sem.run_pure, Result.andThen_ok, p0, p1, p2, p3, p4, q, beq_self_eq_true, Bool.not_true, Bool.false_eq_true, if_false]
theorem qacz_ : Tryz.prog.eqGuardType Tryz.prog.depth 67 = false := by kernel_rfl
theorem qada_ : Tryz.prog.eqGuardType Tryz.prog.depth 77 = false := by kernel_rfl
section
variable {ops : Array Oper} {rest : List Oper} {o : Oper} {a : Act} {w : World} {Q : Exit → Act → World → Prop}
theorem qtc_ (hw : Region.wanted o (yielded ops a.tmps) = true) (x : Operand) (ho : o.op = .load 67 x) (g : Nat) (hx : a.eval x = .pointer (some ⟨g, 0, none⟩)) (y : NN.Pt) (hg : w.rangeAt g 0 (NN.ptA y).toList)
  (hk : wpList Tryz.prog ops Q rest (a.put o.dst (.agg (NN.ptA y))) w) : wpList Tryz.prog ops Q (o :: rest) a w :=
 BigFrame.wpList_want hw fun _ hK => by
  unfold Oper.wp execOp
  simp only [ho, hx, Sem.run_bind, run_pt w g y hg, Result.andThen_ok]
  exact hK _ _ hk
theorem ptneq_g (hw : Region.wanted o (yielded ops a.tmps) = true) (t' : TypeId) (x y : Operand) (ho : o.op = .binOp .neq 67 x y t') (z : NN.Pt) (hx : a.eval x = .agg (NN.ptA z)) (hy : a.eval y = .agg (NN.ptA z))
  (hk : wpList Tryz.prog ops Q rest (a.put o.dst (.bool false)) w) : wpList Tryz.prog ops Q (o :: rest) a w :=
 BigFrame.wpList_want hw fun _ hK => by
  unfold Oper.wp execOp
  simp only [ho, hx, hy, Sem.run_bind, Sem.run_pure, run_eqGuard_agg w .neq 67 x y _ _ qacz_, Result.andThen_ok, pt_neq z]
  exact hK _ _ hk
theorem qni_ (hgd : o.guard = none) (x y : Operand) (ho : o.op = .store 3 x y) (q : Addr) (z : Int) (u : Value) (hx : a.eval x = .pointer (some q)) (hy : a.eval y = .int .i64 z) (hf : w.frozen? q = false) (hc : w.cell? q = some u)
  (hk : wpList Tryz.prog ops Q rest (a.put o.dst undef) (w.setCell q (.int .i64 z))) : wpList Tryz.prog ops Q (o :: rest) a w :=
 wpList_plain hgd fun _ hK => by
  have hs : (storeVar 3 q (.int .i64 z)).run Tryz.prog w = .ok () (w.setCell q (.int .i64 z)) := by go_simp
  unfold Oper.wp
  rw [qcs_ ho hx hy hs]
  exact hK _ _ hk
end
section
variable {C : World → Prop} {a : Act} {o : Oper} {K : Act → Prop}
theorem qgq_ (x : Operand) (ho : o.op = .load 77 x) (g off : Nat) (hx : a.eval x = .pointer (some ⟨g, off, none⟩)) (y : Gt) (hC : ∀ w', C w' → w'.rangeAt g off (gtC y))
  (hk : K (a.put o.dst (.agg (gtA y)))) : o.quiet Tryz.prog a C K :=
 ⟨_, fun w' hw' => by
  unfold Oper.quietAt
  have this : (execOp a.eval o).run Tryz.prog w' = .ok (.value (.agg (gtA y))) w' := by
   unfold execOp
   simp only [ho, hx, Sem.run_bind, run_loadAt_mid w' g off 77 (gtC y) _ (hC w' hw') Tryz.underlying77 rfl gtinfo, Result.andThen_ok]
   rfl
  rw [this]
  exact ⟨rfl, rfl⟩, hk⟩
theorem qos_ (t' : TypeId) (x y : Operand) (ho : o.op = .binOp .neq 77 x y t') (z : Gt) (hx : a.eval x = .agg (gtA z)) (hy : a.eval y = .agg (gtA z))
  (hk : K (a.put o.dst (.bool false))) : o.quiet Tryz.prog a C K :=
 ⟨_, fun w' hw' => by
  unfold Oper.quietAt
  have this : (execOp a.eval o).run Tryz.prog w' = .ok (.value (.bool false)) w' := by
   unfold execOp
   simp only [ho, hx, hy, Sem.run_bind, Sem.run_pure, run_eqGuard_agg w' .neq 77 x y _ _ qada_, Result.andThen_ok, gt_neq z]
  rw [this]
  exact ⟨rfl, rfl⟩, hk⟩
end
theorem qadb_ {w : World} {ad : Option Addr} {n n1 c : Nat} {g : Hd} {hs : List Hd} (hn : n = hs.length) (h1 : n1 = n + 1) (hc : n1 ≤ c) (hl : n ≤ 1000) (h : HeadersAt w ad (g :: hs)) :
  ∃ p', (∀ w' : World, (Instr.sliceAt 60 (.slice ad n1 c) (some (.int .i64 1)) none none).run Tryz.prog w' = .ok (.slice p' n (c - 1)) w') ∧ HeadersAt w p' hs := by
 obtain ⟨ab, ao, rfl, hlt, hcl⟩ := h (by simp)
 refine ⟨if c = 1 then some ⟨ab, ao, none⟩ else some ⟨ab, ao + 68, none⟩, fun w' => ?_, fun h0 => ?_⟩
 ·have hr := run_slice_l (P := Tryz.prog) w' 60 (some ⟨ab, ao, none⟩) n1 c (by kernel_rfl) .i64 1 (by omega) (by omega)
  rw [run_sliceAt_slice w' 60 _ _ _ _ (by kernel_rfl)]
  refine Eq.trans hr ?_
  rw [show Tryz.prog.elem 60 = 30 by kernel_rfl]
  simp [sliced, Tryz.sizeOf30, h1, MM.add_at]
 ·refine ⟨ab, ao + 68, by rw [if_neg (by omega)], hlt, fun i hi => ?_⟩
  have := hcl (i + 1) (by simp; omega)
  rw [List.getElem_cons_succ, show ao + (i + 1) * 68 = ao + 68 + i * 68 by omega] at this
  exact this
theorem qtd_ {w : World} {ab ao : Nat} {g : Hd} (hg : g.ok) (h : w.rangeAt ab ao (hdC g)) {k : Nat} {s : Sp} (hS : SpAt w k s) (ho : s.ok) : ab ≠ k := by
 rintro rfl
 have h1 := h 67 _ (qem_ hg 2)
 rw [Has.cell hS (ao + 67), Array.getElem?_eq_none (by rw [qal_ ho]; omega)] at h1
 cases h1
end Go.Proofs.YtkclahiiijfllaaGreatDoor.An
namespace Go.Proofs.YtkclahiiijfllaaGreatDoor.An
open Go.RowKit Mem Sc NN.Rg2
open Ar (Ent Ru entZ Ok)
theorem qot_ (p : NN.Pr) (hp : p.ok) (a : Option Addr) (n c : Nat) (w : World) (KA : HK_ w 8 #[] (.bool true)) (KG : HK_ w 9 #[.agg (NN.prA p), .slice a n c] (.bool true)) :
  Ca_ 5 #[.agg (NN.prA p), .slice a n c] w (.bool true) := by
 have hz := NN.qak_ hp
 go_enter Tryz.func5, Tryz.ntmps5
 go_upto_region 1 with fail
 generalize hw0 : World.alloc _ _ = v0
 have hB : Below w.heap.size w v0 := bl_ hw0
 have hP : NN.PrAt v0 w.heap.size p := by rw [← hw0]; exact NN.Has.new _ _
 clear hw0
 obtain ⟨bP, hbP⟩ : ∃ x, x = w.heap.size := ⟨_, rfl⟩
 rw [← hbP] at hP ⊢
 have HBP : Hid (bP = w.heap.size) := h_ hbP
 clear hbP
 go_wp2_with (first | fail)
 refine (KA.out _ hB).mono ?_
 rintro e v1 ⟨rfl, hb⟩
 replace hP := hP.on hb
 replace hB := tb_ hB hb
 clear hb
 go_wp2_with (with_reducible first | refine NN.ql_ rfl _ rfl _ rfl hP hz ?_ | refine NN.qi_ (by with_unfolding_all rfl) _ rfl _ rfl hP hz ?_)
 refine (KG.out _ hB).mono ?_
 rintro e v2 ⟨rfl, hb⟩
 replace hP := hP.on hb
 replace hB := tb_ hB hb
 clear hb
 go_wp2_with fail
 go_ret
 exact ⟨rfl, hB⟩
theorem qwz_ (p : NN.Pr) (hp : p.ok) (a : Option Addr) (n c : Nat) (w : World) (KA : HK_ w 8 #[] (.bool true)) (KG : HK_ w 9 #[.agg (NN.prA p), .slice a n c] (.bool false)) (KR : HK_ w 17 #[.agg (NN.prA p)] (.bool false)) :
  Ca_ 5 #[.agg (NN.prA p), .slice a n c] w (.bool true) := by
 have hz := NN.qak_ hp
 go_enter Tryz.func5, Tryz.ntmps5
 go_upto_region 1 with fail
 generalize hw0 : World.alloc _ _ = v0
 have hB : Below w.heap.size w v0 := bl_ hw0
 have hP : NN.PrAt v0 w.heap.size p := by rw [← hw0]; exact NN.Has.new _ _
 clear hw0
 obtain ⟨bP, hbP⟩ : ∃ x, x = w.heap.size := ⟨_, rfl⟩
 rw [← hbP] at hP ⊢
 have HBP : Hid (bP = w.heap.size) := h_ hbP
 clear hbP
 go_wp2_with (first | fail)
 refine (KA.out _ hB).mono ?_
 rintro e v1 ⟨rfl, hb⟩
 replace hP := hP.on hb
 replace hB := tb_ hB hb
 clear hb
 go_wp2_with (with_reducible first | refine NN.ql_ rfl _ rfl _ rfl hP hz ?_ | refine NN.qi_ (by with_unfolding_all rfl) _ rfl _ rfl hP hz ?_)
 refine (KG.out _ hB).mono ?_
 rintro e v2 ⟨rfl, hb⟩
 replace hP := hP.on hb
 replace hB := tb_ hB hb
 clear hb
 go_wp2_with (with_reducible first | refine NN.ql_ rfl _ rfl _ rfl hP hz ?_ | refine NN.qi_ (by with_unfolding_all rfl) _ rfl _ rfl hP hz ?_)
 refine (KR.out _ hB).mono ?_
 rintro e v3 ⟨rfl, hb⟩
 replace hP := hP.on hb
 replace hB := tb_ hB hb
 clear hb
 go_wp2_with fail
 go_ret
 exact ⟨rfl, hB⟩
set_option maxHeartbeats 16000000 in
theorem qte_ (p : NN.Pr) (hp : p.ok) (t : Tl) (tt : p.tl = t.C) (ht : t.ok) (r : Ru) (er : Hid (t.g = r.g ∧ p.lim = r.p.lim ∧ t.gn = r.gs.length ∧ t.cn = r.cs.length)) (a : Option Addr) (n c : Nat) (ls : List Cm) (w : World) (HA : Hid (∀ w', Below w.heap.size w w' → ComesAt w' a ls)) (HN : Hid (n = ls.length)) (hn40 : n ≤ 40) (HT : Hid (∀ w', Below w.heap.size w w' → Tab w')) (HG : Hid (r.g.ok ∧ r.g.P ∧ r.gs.length ≤ 1000 ∧ r.cs.length ≤ 1000)) (KA : HK_ w 8 #[] (.bool true)) (KG : HK_ w 9 #[.agg (NN.prA p), .slice a n c] (.bool false)) (KR : HK_ w 17 #[.agg (NN.prA p)] (.bool true)) (KN : Hid (∀ w', Below w.heap.size w w' → Calls Tryz.prog 10 #[.agg (NN.prA p), .int .i64 100] w' fun e w'' => ∃ b F, e = .returned (.tuple #[.pointer (some ⟨b, 0, none⟩), .int .i64 0]) ∧ ArS w'' F b r [entZ] ∧ (∀ i, F i → w'.heap.size ≤ i) ∧ Below w'.heap.size w' w'')) (KF : Hid (∀ w', Below w.heap.size w w' → Calls Tryz.prog 18 #[.agg (NN.prA p), .int .i64 100] w' fun e w'' => ∃ b, e = .returned (.pointer (some ⟨b, 0, none⟩)) ∧ RfS w'' w.heap.size (fun i => w'.heap.size ≤ i ∧ i < w''.heap.size) b r [entZ] ∧ Below w'.heap.size w' w'')) (KBg : Hid (∀ w', Below w.heap.size w w' → Calls Tryz.prog 23 #[.agg (NN.prA p)] w' fun e w'' => ∃ s, e = .returned (.agg (spA s)) ∧ s.ok ∧ SpIs w'' 0 s (bgn r.p r.g) ∧ Below w'.heap.size w' w''))
  (KBh : Hid (∀ w', Below w.heap.size w w' → ∀ (s : Sp) (q : Ps) (h : Hd), s.ok → SpIs w' 0 s q → q.ts.length ≤ 11 → 0 ≤ q.x.h → q.x.h ≤ 1000 → h.ok → Calls Tryz.prog 25 #[.agg (NN.prA p), .agg (spA s), .agg (hdA h)] w' fun e w'' => ∃ s', e = .returned (.agg (spA s')) ∧ s'.ok ∧ SpIs w'' w'.heap.size s' (bh r.p q h) ∧ Below w'.heap.size w' w'')) (hiv : Hid (2 ≤ r.p.ivl)) (HNW : Hid (∀ x ∈ ls, -9223372036854775808 ≤ x.now ∧ x.now ≤ 9223372036854775807)) (HGt : Hid (∀ w', Below w.heap.size w w' → GatesAt w' t.ga r.gs)) :
  Ca_ 5 #[.agg (NN.prA p), .slice a n c] w (.bool true) := by
 have hz := NN.qak_ hp
 go_enter Tryz.func5, Tryz.ntmps5
 go_upto_region 1 with fail
 generalize hw0 : World.alloc _ _ = v0
 have hB : Below w.heap.size w v0 := bl_ hw0
 have hP : NN.PrAt v0 w.heap.size p := by rw [← hw0]; exact NN.Has.new _ _
 clear hw0
 obtain ⟨bP, hbP⟩ : ∃ x, x = w.heap.size := ⟨_, rfl⟩
 rw [← hbP] at hP ⊢
 have HBP : Hid (bP = w.heap.size) := h_ hbP
 clear hbP
 go_wp2_with (first | fail)
 refine (KA.out _ hB).mono ?_
 rintro e v1 ⟨rfl, hb⟩
 replace hP := hP.on hb
 replace hB := tb_ hB hb
 clear hb
 go_wp2_with (with_reducible first | refine NN.ql_ rfl _ rfl _ rfl hP hz ?_ | refine NN.qi_ (by with_unfolding_all rfl) _ rfl _ rfl hP hz ?_)
 refine (KG.out _ hB).mono ?_
 rintro e v2 ⟨rfl, hb⟩
 replace hP := hP.on hb
 replace hB := tb_ hB hb
 clear hb
 go_wp2_with (with_reducible first | refine NN.ql_ rfl _ rfl _ rfl hP hz ?_ | refine NN.qi_ (by with_unfolding_all rfl) _ rfl _ rfl hP hz ?_)
 refine (KR.out _ hB).mono ?_
 rintro e v3 ⟨rfl, hb⟩
 replace hP := hP.on hb
 replace hB := tb_ hB hb
 clear hb
 go_wp2_with (first | fail | (with_reducible refine NN.ql_ rfl _ rfl _ rfl hP hz ?_))
 refine (KN.out _ hB).mono ?_
 rintro e v4 ⟨ba, F, rfl, hS, hF, hb⟩
 have hPl : bP < v3.heap.size := NN.Has.lt hP
 have hF0 : ∀ i, F i → bP < i := fun i hi => Nat.lt_of_lt_of_le hPl (hF i hi)
 have hFl := hS.1
 replace hB := tb_ hB hb
 replace hP := hP.on hb
 have hPl4 : bP < v4.heap.size := NN.Has.lt hP
 clear hb hF hPl
 go_wp2_with (first | fail | (with_reducible refine NN.ql_ rfl _ rfl _ rfl hP hz ?_))
 refine (KF.out _ hB).mono ?_
 rintro e v5 ⟨bm, rfl, hR, hb⟩
 replace hS := hS.below hb
 replace hB := tb_ hB hb
 replace hP := hP.on hb
 have HD0 : Hid ((∀ i, F i → bP < i) ∧ (∀ i, (v4.heap.size ≤ i ∧ i < v5.heap.size) → bP < i) ∧ ∀ i, F i → ¬ (v4.heap.size ≤ i ∧ i < v5.heap.size)) := h_ ⟨hF0, fun i hi => by omega, fun i hi hh => by have := hFl i hi; omega⟩
 obtain ⟨Fm, hFm⟩ : ∃ Fm, Fm = fun i => v4.heap.size ≤ i ∧ i < v5.heap.size := ⟨_, rfl⟩
 rw [← hFm] at hR
 have HD : Hid ((∀ i, F i → bP < i) ∧ (∀ i, Fm i → bP < i) ∧ ∀ i, F i → ¬ Fm i) := h_ (by rw [hFm]; exact HD0.out)
 clear hb hF0 hFl hPl4 HD0 hFm
 go_wp2_with fail
 go_loopw [42] (fun i wr => ∃ k : Nat, k ≤ n ∧ i = .int .i64 (k : Int) ∧ ∃ Fa Fm M, ArS wr Fa ba r M ∧ RfS wr w.heap.size Fm bm r M ∧ Hid (Ok r M ∧ M.length ≤ k + 1 ∧ (∀ i, Fa i → bP < i) ∧ (∀ i, Fm i → bP < i) ∧ ∀ i, Fa i → ¬ Fm i) ∧ NN.PrAt wr bP p ∧ Below w.heap.size w wr) (fun i _ => n - (intOf i).toNat)
 case atStart => exact ⟨0, by omega, rfl, F, Fm, [entZ], hS, hR, h_ ⟨Ok.one r, Nat.le_refl _, HD.out.1, HD.out.2.1, HD.out.2.2⟩, hP, hB⟩
 case round =>
  clear hS hR hB hP HD F Fm
  obtain ⟨k, hk, rfl, Fa, Fm, M, hS, hR, HM, hP, hB⟩ := hrel
  by_cases hlt : k < n
  ·obtain ⟨ab, ao, hae, habl, hc⟩ := (HA.out _ hB) (by rw [← HN.out]; omega)
   subst hae
   have hk2 : k < ls.length := by rw [← HN.out]; exact hlt
   obtain ⟨q0, q1⟩ := hc k hk2
   clear hc
   have HNy := HNW.out _ (List.getElem_mem hk2)
   generalize ls[k] = y at *
   clear hk2
   have z1 := qgp_ q0
   have z2 := qil_ q0
   have z0 := qil_ (c := cmZ) hdZ_ok
   have zy := qj_ q0
   have hb2 : Below wr.heap.size wr ((wr.alloc (.cells Tryz.zeroCells54 54)).setRow wr.heap.size (cmA y)) := below_setRow ((Below.refl _ _).alloc (Nat.le_refl _) _) (Nat.le_refl _) _
   have hY := qyh_ wr y
   have hnew := qsu_ wr
   have hB2 := tb_ hB hb2
   have hS2 := hS.below hb2
   have hR2 := hR.below hb2
   have hP2 := hP.on hb2
   have hT2 := HT.out _ hB2
   have cn := hY.now q0
   have rh := hY.head
   have hnY : ¬ Fa wr.heap.size := fun hf => by have := hS.1 _ hf; omega
   have KAdd := h_ (add_at hS2 HM.out.1 (by have := HM.out.2.1; omega) HG.out.2.2.1 HG.out.2.2.2 hT2 y.h q0 y.now)
   clear hS hR hS2 hB hT2 hP
   go_wp2_with (with_reducible first | refine qev_ rfl _ rfl ab (ao + k * 69) rfl y q1 z1 ?_ | refine qls_ rfl _ _ rfl _ _ y rfl rfl rfl z2 hnew z0 ?_ | refine qac_ rfl _ rfl _ 0 rfl y.h rh zy ?_)
   refine KAdd.out.mono ?_
   rintro e v6 ⟨rfl, hS6, hK6⟩
   generalize World.setRow _ _ _ = v5 at *
   obtain ⟨bY, hbY⟩ : ∃ x, x = wr.heap.size := ⟨_, rfl⟩
   rw [← hbY] at hY hnY ⊢
   clear hbY
   have hnP : ¬ Fa bP := fun hf => by have := HM.out.2.2.1 bP hf; omega
   have hlow : ∀ i, bP < i → w.heap.size ≤ i := fun i hi => Nat.le_of_lt (by rw [← HBP.out]; exact hi)
   have hY6 : CmAt v6 bY y := hK6.has hY hnY
   have hP6 := hK6.nhas hP2 hnP
   have hR6 := hR2.on hK6 (fun i hi hf => HM.out.2.2.2.2 i hf hi) (fun i hi => hlow i (HM.out.2.2.1 i hi))
   have hB6 := hB2.trans (hK6.below (fun i hi => hlow i (HM.out.2.2.1 i hi)) hB2.size)
   have cn6 := hY6.now q0
   have rh6 := hY6.head
   have KAdd2 := h_ (radd_at hR6 HM.out.1 (by have := HM.out.2.1; omega) HG.out.2.2.1 HG.out.2.2.2 hiv.out y.h q0 y.now HNy.1 HNy.2)
   have HDj : Hid (∀ i, Nxt Fa v5 v6 i → ¬ Fm i) := h_ fun i hi hf => hi.elim (fun h => HM.out.2.2.2.2 i h hf) (fun h => by have := (hR2.2.1 i hf).2; omega)
   have HFa6 : Hid (∀ i, Nxt Fa v5 v6 i → bP < i) := h_ fun i hi => hi.elim (HM.out.2.2.1 i) (fun h => Nat.lt_of_lt_of_le (NN.Has.lt hP2) h.1)
   have hOk := HM.out.1.add q0 y.now
   have hlen := add_len r M y.h y.now
   have HL2 : Hid (M.length ≤ k + 1) := h_ HM.out.2.1
   have HFm : Hid (∀ i, Fm i → bP < i) := h_ HM.out.2.2.2.1
   clear hK6 hB2 KAdd hb2 HM hR2 hY hnY cn rh hP2 hnP
   go_wp2_with (first | fail | (with_reducible refine qac_ rfl _ rfl _ 0 rfl y.h rh6 zy ?_))
   refine KAdd2.out.mono ?_
   rintro e v7 ⟨rfl, hR7, hK7⟩
   have hS7 := hS6.on hK7 (fun i hi hf => HDj.out i hi hf)
   have hP7 := hK7.nhas hP6 (fun hf => by have := HFm.out bP hf; omega)
   have hB7 := hB6.trans (hK7.below (fun i hi => hlow i (HFm.out i hi)) hB6.size)
   have hlx := hS6.1
   have HM7 : Hid (Ok r (Ar.add r M y.h y.now).2 ∧ (Ar.add r M y.h y.now).2.length ≤ k + 1 + 1 ∧ (∀ i, Nxt Fa v5 v6 i → bP < i) ∧ (∀ i, Nxt Fm v6 v7 i → bP < i) ∧ ∀ i, Nxt Fa v5 v6 i → ¬ Nxt Fm v6 v7 i) := h_ ⟨hOk, by have := HL2.out; omega, HFa6.out, fun i hi => hi.elim (HFm.out i) (fun h => Nat.lt_of_lt_of_le (NN.Has.lt hP6) h.1), fun i hi hf => hf.elim (HDj.out i hi) (fun h => by have := hlx i hi; omega)⟩
   clear hK7 hB6 KAdd2 hS6 hR6 hOk hlen hlx HDj HFa6 cn6 rh6 hY6 hP6 HFm hlow
   generalize (Ar.add r M y.h y.now).2 = M' at *
   generalize (Ar.add r M y.h y.now).1 = res at *
   generalize Nxt Fa v5 v6 = Fa' at *
   generalize Nxt Fm v6 v7 = Fm' at *
   go_wp2_with fail
   go_roundw
   case rel => exact ⟨k + 1, by omega, by go_num, Fa', Fm', M', hS7, hR7, HM7, hP7, hB7⟩
   case measure => simp [intOf]; omega
  ·obtain rfl : k = n := by omega
   have HOK := h_ HM.out.1
   have hml : M.length ≤ 41 := by have := HM.out.2.1; omega
   obtain ⟨gH, cH, c83⟩ : ∃ gH cH, wr.cell? ⟨bm, 83, none⟩ = some (.slice (some ⟨gH, 0, none⟩) M.length cH) := by
    have hR' := hR
    obtain ⟨_, _, _, p2, t2, vH, vI, vA, vW, ws, h3, _⟩ := hR'
    have rH := h3.rowH
    rw [List.length_map] at rH
    obtain ⟨gH, cH, rfl⟩ := qcf_ rH HM.out.1.pos
    exact ⟨gH, cH, rf83 h3.has h3.pok⟩
   have HS := h_ fun (w' : World) (hb : Below wr.heap.size wr w') => hS.below hb
   have HRm := h_ fun (w' : World) (hb : Below wr.heap.size wr w') => hR.below hb
   have HP := h_ fun (w' : World) (hb : Below wr.heap.size wr w') => hP.on hb
   have HBB := h_ fun (w' : World) (hb : Below wr.heap.size wr w') => tb_ hB hb
   have HPl : Hid (bP < wr.heap.size) := h_ (NN.Has.lt hP)
   have hb0 := Below.refl wr.heap.size wr
   obtain ⟨m, hm⟩ : ∃ m, m = M.length := ⟨_, rfl⟩
   rw [← hm] at hml c83
   have HML := h_ hm
   have zS := qal_ spZ_ok
   clear hS hR hP hB HM hm
   generalize wr = v7 at *
   go_wp2_with fail
   go_loopw [64] (fun i wr => ∃ k : Nat, k ≤ m ∧ i = .int .i64 (k : Int) ∧ Below v7.heap.size v7 wr) (fun i _ => m - (intOf i).toNat)
   case atStart => exact ⟨0, by omega, rfl, hb0⟩
   case round =>
    clear hb0 c83
    obtain ⟨i, hi, rfl, hb7⟩ := hrel
    by_cases hlt : i < m
    ·have he : M[i]? = some (M[i]'(by rw [← HML.out]; exact hlt)) := List.getElem?_eq_getElem _
     generalize M[i]'(by rw [← HML.out]; exact hlt) = e at he
     have HE := h_ he
     have hhl : e.hs.length ≤ 41 := by have := (HOK.out.chain i e he).1; omega
     have HHs : Hid (∀ x ∈ e.hs, x.ok) := h_ fun x hx => ((HOK.out.chain i e he).2 x hx).1
     have hP := HP.out _ hb7
     clear he
     go_wp2_with (first | fail | (with_reducible refine NN.ql_ rfl _ rfl _ rfl hP hz ?_))
     refine (KBg.out _ (HBB.out _ hb7)).mono ?_
     rintro x v8 ⟨s0, rfl, so, hI, hb⟩
     replace hb7 := tb_ hb7 hb
     clear hb hP
     have z1 := qal_ so
     go_upto_region 17 with (with_reducible refine qbw_ rfl _ _ rfl _ _ s0 rfl rfl rfl z1 (qby_ v8) zS ?_)
     generalize hv9 : World.setRow _ _ _ = v9
     have hb2 : Below v8.heap.size v8 v9 := bw_ hv9
     have hW : SpAt v9 v8.heap.size s0 := by rw [← hv9]; exact Has.row (qby_ v8) _
     clear hv9
     have HWl : Hid (v7.heap.size ≤ v8.heap.size) := h_ hb7.size
     replace hI := hI.on hb2
     replace hb7 := tb_ hb7 hb2
     clear hb2
     obtain ⟨bW, hbW⟩ : ∃ x, x = v8.heap.size := ⟨_, rfl⟩
     rw [← hbW] at hW HWl ⊢
     clear hbW
     obtain ⟨hl, hhl2⟩ : ∃ hl, hl = e.hs.length := ⟨_, rfl⟩
     obtain ⟨h1, hh1⟩ : ∃ h1, h1 = hl + 1 := ⟨_, rfl⟩
     have KCh := h_ (qnh_ (HRm.out _ hb7) HOK.out (by rw [← HML.out]; omega) i e HE.out)
     rw [← hhl2, ← hh1] at KCh
     rw [← hhl2] at hhl
     have HHL := h_ (And.intro hhl2 hh1)
     clear hhl2 hh1
     go_wp2_with fail
     refine KCh.out.mono ?_
     rintro x v10 ⟨ad, cc, rfl, hH, hcc, hb⟩
     obtain ⟨ad2, hcut, hHr⟩ := qadb_ HHL.out.1 HHL.out.2 hcc (by omega) hH
     replace hW := hW.on hb
     replace hI := hI.on hb
     replace hb7 := tb_ hb7 hb
     have HHr := h_ hHr
     have hk0 := Kp.refl (fun i => i = bW) v10
     have HW10 := h_ (And.intro hW so)
     have h7s : v7.heap.size ≤ v10.heap.size := hb7.size
     have HB10 := h_ hb7
     clear hb KCh hH hcc hHr hb7
     go_wp2_with fail
     clear hcut
     go_loopw [74] (fun kk wr => ∃ k : Nat, k ≤ hl ∧ kk = .int .i64 (k : Int) ∧ ∃ s, SpAt wr bW s ∧ s.ok ∧ SpIs wr 0 s (way r.p r.g e.hs k) ∧ Kp (fun i => i = bW) v10 wr) (fun kk _ => hl - (intOf kk).toNat)
     case atStart => exact ⟨0, by omega, rfl, s0, hW, so, hI, hk0⟩
     case round =>
      clear hW hI hk0 so z1
      obtain ⟨k, hk, rfl, s, hW, so, hI, hK⟩ := hrel
      have hB10 := HB10.out.trans (hK.below (B := v7.heap.size) (fun i hi => by rw [hi]; exact HWl.out) HB10.out.size)
      by_cases hlk : k < hl
      ·obtain ⟨ab, ao, rfl, habl, hc⟩ := HHr.out (by rw [← HHL.out.1]; omega)
       have hk2 : k < e.hs.length := by rw [← HHL.out.1]; exact hlk
       obtain ⟨q0, q1⟩ := hc k hk2
       have hne := qtd_ q0 q1 HW10.out.1 HW10.out.2
       have rx := qlm_ q1 hK habl (fun e => hne e)
       have eD : e.hs.getD k hdZ = e.hs[k] := qhf_ hk2
       have HNx : Hid (way r.p r.g e.hs (k + 1) = bh r.p (way r.p r.g e.hs k) e.hs[k]) := h_ (by rw [← eD]; exact qdz_ r.p r.g e.hs k hk2)
       have w1 := way_ts r.p r.g e.hs k (by omega)
       have w2 := way_h r.p r.g e.hs k (by omega)
       have HQ : Hid ((way r.p r.g e.hs k).ts.length ≤ 11 ∧ 0 ≤ (way r.p r.g e.hs k).x.h ∧ (way r.p r.g e.hs k).x.h ≤ 1000) := h_ ⟨by rw [w1]; omega, by rw [w2]; omega, by rw [w2]; omega⟩
       clear w1 w2 eD hc habl hne q1
       generalize e.hs[k] = x at *
       generalize way r.p r.g e.hs k = q at *
       clear hk2
       have zh := qj_ q0
       have zz := qu_ hdZ_ok
       have za := qu_ q0
       have z1 := qal_ so
       have hnew := qmb_ wr
       have hb2 : Below wr.heap.size wr ((wr.alloc (.cells Tryz.zeroCells30 30)).setRow wr.heap.size (hdA x)) := below_setRow ((Below.refl _ _).alloc (Nat.le_refl _) _) (Nat.le_refl _) _
       have hX : HdAt ((wr.alloc (.cells Tryz.zeroCells30 30)).setRow wr.heap.size (hdA x)) wr.heap.size x := Has.row hnew _
       go_upto_region 20 with (first
        | (with_reducible refine qac_ rfl _ rfl ab (ao + k * 68) rfl x rx zh ?_)
        | (with_reducible refine qbo_ rfl _ _ rfl _ _ x rfl rfl rfl za hnew zz ?_))
       generalize World.setRow _ _ _ = v11 at *
       replace hW := hW.on hb2
       replace hI := hI.on hb2
       replace hB10 := tb_ hB10 hb2
       replace hK := hK.trans (Kp.of (F := fun i => i = bW) hb2) (fun i hi _ => hi)
       obtain ⟨bX, hbX⟩ : ∃ x, x = wr.heap.size := ⟨_, rfl⟩
       rw [← hbX] at hX ⊢
       clear hbX hb2 hnew rx
       have hP := HP.out _ hB10
       have KB := h_ (KBh.out _ (HBB.out _ hB10) s q x so hI HQ.out.1 HQ.out.2.1 HQ.out.2.2 q0)
       clear hI
       go_wp2_with (with_reducible first | refine NN.ql_ rfl _ rfl _ rfl hP hz ?_ | refine qrr_ rfl _ rfl _ rfl hW z1 ?_ | refine qae_ rfl _ rfl _ rfl hX za ?_)
       refine KB.out.mono ?_
       rintro x2 v12 ⟨s', rfl, so', hI', hb⟩
       have z2 := qal_ so'
       have hWl : bW < v11.heap.size := hW.lt
       replace hW := hW.on hb
       replace hK := hK.trans (Kp.of (F := fun i => i = bW) hb) (fun i hi _ => hi)
       have hI2 : SpIs (v12.setRow bW (spA s')) 0 s' (way r.p r.g e.hs (k + 1)) := by rw [HNx.out]; exact (hI'.row hWl).wide (Nat.zero_le _)
       have hK2 : Kp (fun i => i = bW) v10 (v12.setRow bW (spA s')) := hK.trans (⟨rfl, rfl, rfl, by rw [setRow_size]; exact Nat.le_refl _, fun k _ hn => setRow_other v12 bW k _ hn⟩ : Kp (fun i => i = bW) v12 (v12.setRow bW (spA s'))) (fun i hi _ => hi)
       have hW2 : SpAt (v12.setRow bW (spA s')) bW s' := Has.row hW _
       clear hb KB hP hK hI' hX hB10
       go_wp2_with (with_reducible refine qbw_ rfl _ _ rfl _ _ s' rfl rfl rfl z2 hW z1 ?_)
       go_roundw
       case rel => exact ⟨k + 1, by omega, by go_num, s', hW2, so', hI2, hK2⟩
       case measure => simp [intOf]; omega
      ·obtain rfl : k = hl := by omega
       have hI2 : SpIs wr 0 s (Ar.spot r e) := by
        have := hI
        rw [HHL.out.1] at this
        exact this
       have q3 := way_ts r.p r.g e.hs e.hs.length (Nat.le_refl _)
       have q4 : 0 < (Ar.spot r e).ts.length ∧ (Ar.spot r e).ts.length ≤ 11 := by show 0 < (way r.p r.g e.hs e.hs.length).ts.length ∧ (way r.p r.g e.hs e.hs.length).ts.length ≤ 11; rw [q3]; omega
       have KSp := h_ fun (w' : World) (hb : Below v7.heap.size v7 w') => qacw_ (HS.out w' hb) HE.out
       generalize Ar.spot r e = q at *
       obtain ⟨sx, sv, sa, sn, sc⟩ := s
       obtain ⟨e1, e2, e3, e4, ⟨bq, e5⟩, e6⟩ := hI2
       simp only at e1 e2 e3 e4 e5 e6
       subst e1 e2 e3 e5
       obtain ⟨b3, off, e7, _, hbq, hcq⟩ := e6 q4.1
       cases e7
       obtain ⟨tn, htn⟩ : ∃ tn, tn = q.ts.length := ⟨_, rfl⟩
       rw [← htn] at q4 KSp hW so hcq e4
       obtain ⟨tp, htp⟩ := q4
       have HTN := h_ htn
       have HC := h_ hcq
       have s32 : q.prev.length = 32 := so
       have zW := qal_ so
       have hbb0 := Below.refl wr.heap.size wr
       have HB7 := h_ hB10
       clear hI hcq e4 e6 q3 htn hK hB10
       generalize wr = v13 at *
       go_wp2_with fail
       go_loopw [83] (fun kk wr => ∃ k : Nat, k ≤ 2 ∧ kk = .int .i64 (k : Int) ∧ Below v13.heap.size v13 wr) (fun kk _ => 2 - (intOf kk).toNat)
       case atStart => exact ⟨0, by omega, rfl, hbb0⟩
       case round =>
        clear hbb0
        obtain ⟨k, hk, rfl, hb13⟩ := hrel
        have hb7 := tb_ HB7.out hb13
        by_cases hk2 : k < 2
        ·have KSq := h_ (KSp.out _ hb7)
         go_wp2_with fail
         refine KSq.out.mono ?_
         rintro x v14 ⟨g', c', rfl, ho, hg', hb⟩
         have hgl := (row_lt ho (i := g') rfl).1
         have hcg : ∀ j, j < tn → v14.cell? ⟨g', j, none⟩ = some (.int .i64 (q.ts.getD j 0)) := fun j hj => by
          obtain ⟨g2, c2, e2, h2⟩ := qsx_ ho (k := j) (x := q.ts.getD j 0) (by rw [List.getD_eq_getElem?_getD, List.getElem?_eq_getElem (by rw [← HTN.out]; exact hj)]; rfl)
          cases e2
          exact h2
         obtain ⟨curg, hcur⟩ := qbg_ ho (i := g') rfl
         have hH14 : Has v14 g' curg 3 := hcur
         have HG13 : Hid (v13.heap.size ≤ g') := h_ (Nat.le_trans hb13.size hg')
         replace hb13 := tb_ hb13 hb
         replace hb7 := tb_ hb7 hb
         clear hb KSq ho hg' hcur
         have z4 : (spA ⟨q.x, q.prev, some ⟨g', 0, none⟩, tn, c'⟩).size = 38 := qal_ s32
         go_upto_region 25 with (with_reducible refine qbw_ rfl _ _ rfl _ _ ⟨q.x, q.prev, some ⟨g', 0, none⟩, tn, c'⟩ rfl rfl rfl z4 (qby_ v14) zS ?_)
         generalize hv15 : World.setRow _ _ _ = v15
         have hb2 : Below v14.heap.size v14 v15 := bw_ hv15
         have hS15 : SpAt v15 v14.heap.size ⟨q.x, q.prev, some ⟨g', 0, none⟩, tn, c'⟩ := by rw [← hv15]; exact Has.row (qby_ v14) _
         have hH15 : Has v15 g' curg 3 := qe_ hb2 hH14 hgl
         have hc15 : ∀ j, j < tn → v15.cell? ⟨g', j, none⟩ = some (.int .i64 (q.ts.getD j 0)) := fun j hj => (hb2.cell (p := ⟨g', j, none⟩) hgl).trans (hcg j hj)
         replace hb13 := tb_ hb13 hb2
         replace hb7 := tb_ hb7 hb2
         obtain ⟨bS, hbS⟩ : ∃ x, x = v14.heap.size := ⟨_, rfl⟩
         rw [← hbS] at hS15 ⊢
         have HNE : Hid (bS ≠ g' ∧ bW ≠ g' ∧ bq ≠ g') := h_ ⟨by omega, by have := hW.lt; have := HG13.out; omega, by have := HG13.out; omega⟩
         have hW15 := hW.on hb13
         clear hv15 hb2 hbS hgl hcg hH14
         have rS := hS15.pt
         have rW := hW15.pt
         have nS := hS15.prev
         have nW := hW15.prev
         have cS := hS15.sl s32
         have cW := hW15.sl s32
         have b32 := qf_ s32
         have qn := fun w => hn_neq q.prev q.prev s32 s32 false (by simp) w
         have tq : ((tn : Int) != (tn : Int)) = false := by simp
         go_wp2_with (first
          | fail
          | (with_reducible refine qtc_ (by with_unfolding_all rfl) _ rfl bS rfl q.x rS ?_)
          | (with_reducible refine qtc_ (by with_unfolding_all rfl) _ rfl bW rfl q.x rW ?_)
          | (with_reducible refine qci_ (by with_unfolding_all rfl) _ rfl bS 5 rfl q.prev nS b32 ?_)
          | (with_reducible refine qci_ (by with_unfolding_all rfl) _ rfl bW 5 rfl q.prev nW b32 ?_)
          | (with_reducible refine ptneq_g (by with_unfolding_all rfl) _ _ _ rfl q.x rfl rfl ?_)
          | (with_reducible refine hneq_g (by with_unfolding_all rfl) _ _ _ rfl _ _ _ rfl rfl qn ?_))
         have hk15 := Kp.refl (fun i => i = g') v15
         have HS15 := h_ (And.intro hS15 hW15)
         have HB13 := h_ hb13
         clear rS rW nS nW cS cW hS15 hW15 hb13 qn b32
         go_loopw [119] (fun kk wr => ∃ j : Nat, j ≤ tn ∧ kk = .int .i64 (j : Int) ∧ Kp (fun i => i = g') v15 wr ∧ (∃ cs, Has wr g' cs 3) ∧ ∀ l, j ≤ l → l < tn → wr.cell? ⟨g', l, none⟩ = some (.int .i64 (q.ts.getD l 0))) (fun kk _ => tn - (intOf kk).toNat)
         case atStart => exact ⟨0, by omega, rfl, hk15, ⟨_, hH15⟩, fun l _ hl => hc15 l hl⟩
         case round =>
          clear hk15 hH15 hc15
          obtain ⟨j, hj, rfl, hK, ⟨cs, hH⟩, hc⟩ := hrel
          have hS := hK.has HS15.out.1 HNE.out.1
          have hW2 := hK.has HS15.out.2 HNE.out.2.1
          have cS := SpAt.sl hS s32
          have cW := SpAt.sl hW2 s32
          by_cases hjl : j < tn
          ·have uS := hc j (Nat.le_refl _) hjl
           have uW : wr.cell? ⟨bq, j, none⟩ = some (.int .i64 (q.ts.getD j 0)) := by
            have h1 := HC.out j hjl
            rw [Nat.zero_add] at h1
            rw [World.cell?_of_block (hK.block bq (Nat.lt_of_lt_of_le hbq HB13.out.size) HNE.out.2.2)]
            exact (HB13.out.cell (p := ⟨bq, j, none⟩) hbq).trans h1
           have HCj := h_ hc
           obtain ⟨z, hz⟩ : ∃ z, z = q.ts.getD j 0 := ⟨_, rfl⟩
           rw [← hz] at uS uW
           have tz : (z != z) = false := by simp
           clear hz hc
           go_upto_region 30 with fail
           have q1 : ∀ d os, (Sort.grow (redrawn wr d) os).cell? ⟨bS, 37, none⟩ = _ := cell_regrown cS
           have q2 : ∀ d os, (Sort.grow (redrawn wr d) os).cell? ⟨bW, 37, none⟩ = _ := cell_regrown cW
           have q3 : ∀ d os, (Sort.grow (redrawn wr d) os).cell? ⟨g', j, none⟩ = _ := cell_regrown uS
           have q4 : ∀ d os, (Sort.grow (redrawn wr d) os).cell? ⟨bq, j, none⟩ = _ := cell_regrown uW
           simp only at q1 q2
           refine wp_region_quiet_below (by kernel_rfl) (by kernel_rfl) ?_
           repeat (first
            | go_big_quiet_step (fail))
           refine wpQuiet_nil ?_
           intro v17 hw'
           have hb := qam_ v17 hw'
           have hH2 := qe_ hb hH hH.lt
           have cS2 := SpAt.sl (SpAt.on hS hb) s32
           have uS2 := (hb.cell (p := ⟨g', j, none⟩) hH.lt).trans uS
           have f2 := Has.free hH2 j
           have HHl := h_ hH.lt
           replace hK := hK.trans (Kp.of (F := fun i => i = g') hb) (fun i hi _ => hi)
           simp only at cS2
           have HHb := h_ hb
           clear hw' q1 q2 q3 q4 hS hW2 cS cW uS uW hb hH
           go_wp2_with (with_reducible refine qni_ rfl _ _ rfl ⟨g', j, none⟩ (-1) _ rfl rfl f2 uS2 ?_)
           have hK3 : Kp (fun i => i = g') v15 (v17.setCell ⟨g', j, none⟩ (.int .i64 (-1))) := hK.trans (Kp.gb (F := fun i => i = g') (qbm_ v17 g' j _) (fun k hk => (Option.some.inj hk).symm)) (fun i hi _ => hi)
           have hH3 := Has.set (i := j) hH2 (.int .i64 (-1))
           have hc3 : ∀ l, j + 1 ≤ l → l < tn → (v17.setCell ⟨g', j, none⟩ (.int .i64 (-1))).cell? ⟨g', l, none⟩ = some (.int .i64 (q.ts.getD l 0)) := fun l h1 h2 => by
            rw [Has.cell hH3 l, Array.getElem?_setIfInBounds_ne (by omega), ← Has.cell hH2 l]
            exact (HHb.out.cell (p := ⟨g', l, none⟩) HHl.out).trans (HCj.out l (by omega) h2)
           generalize World.setCell _ _ _ = v18 at *
           clear hK hH2 cS2 uS2 f2
           go_roundw
           case rel => exact ⟨j + 1, by omega, by go_num, hK3, ⟨_, hH3⟩, hc3⟩
           case measure => simp [intOf]; omega
          ·have hb3 := HB13.out.trans (hK.below (B := v13.heap.size) (fun i hi => by rw [hi]; exact HG13.out) HB13.out.size)
           go_wp2_with fail
           go_roundw
           case rel => exact ⟨k + 1, by omega, by go_num, hb3⟩
           case measure => simp [intOf]; omega
        ·obtain rfl : k = 2 := by omega
         go_wp2_with fail
         go_roundw
         case rel => exact ⟨i + 1, by omega, by go_num, hb7⟩
         case measure => simp [intOf]; omega
    ·obtain rfl : i = m := by omega
     obtain ⟨gn, hgn⟩ : ∃ gn, gn = r.gs.length := ⟨_, rfl⟩
     obtain ⟨cn, hcn⟩ : ∃ cn, cn = r.cs.length := ⟨_, rfl⟩
     obtain ⟨L, hL⟩ : ∃ L, L = r.p.lim := ⟨_, rfl⟩
     have HGN := h_ (And.intro hgn (And.intro hcn hL))
     have hg9 : gn ≤ 1000 := by rw [hgn]; exact HG.out.2.2.1
     have KR1 := h_ fun (w' : World) (hb : Below v7.heap.size v7 w') => qwy_ (HS.out _ hb) HG.out.2.2.1 HG.out.2.2.2
     have KNo := h_ fun (w' : World) (hb : Below v7.heap.size v7 w') => qacx_ (HS.out _ hb)
     have zZ := NN.qak_ prZ_ok
     clear hgn hcn hL HN KBg KBh
     go_wp2_with fail
     refine (KR1.out _ hb7).mono ?_
     rintro x v20 ⟨q, tq, rfl, qo, hT, hb⟩
     have zq := NN.qak_ qo
     have h7s := hb7.size
     replace hb7 := tb_ hb7 hb
     have HT1 := h_ hT
     have q1 := hT.one
     have HO1 : Hid (0 < gn → ∃ g cur, tq.ga = some ⟨g, 0, none⟩ ∧ v7.heap.size ≤ g ∧ g < v20.heap.size ∧ Has v20 g cur 77 ∧ 2 * gn ≤ cur.size) := h_ fun h0 => by
      have h0' : 0 < r.gs.length := by rw [← HGN.out.1]; exact h0
      obtain ⟨g, cur, e1, e2, e3⟩ := hT.own.2 h0'
      obtain ⟨ab, ao, e4, e5, e6⟩ := hT.own.1 h0'
      rw [e1] at e4
      cases e4
      refine ⟨g, cur, e1, Nat.le_trans h7s e2, e5, e3, Nat.le_of_not_lt fun hlt => ?_⟩
      have h1 := e6 (gn - 1) (by rw [← HGN.out.1]; omega) 1 _ rfl
      rw [Has.cell e3, Array.getElem?_eq_none (by omega)] at h1
      cases h1
     clear hT hb h7s
     go_upto_region 37 with (with_reducible refine qik_ rfl _ _ rfl _ _ q q1 rfl rfl rfl zq (qjz_ v20) zZ ?_)
     generalize hv21 : World.setRow _ _ _ = v21
     have hb2 : Below v20.heap.size v20 v21 := bw_ hv21
     have hQ : NN.PrAt v21 v20.heap.size q := by rw [← hv21]; exact NN.Has.row (qjz_ v20) _
     have hO : 0 < gn → ∃ g cur, tq.ga = some ⟨g, 0, none⟩ ∧ v7.heap.size ≤ g ∧ g ≠ v20.heap.size ∧ Has v21 g cur 77 ∧ 2 * gn ≤ cur.size := fun h0 => by
      obtain ⟨g, cur, e1, e2, e3, e4, e5⟩ := HO1.out h0
      exact ⟨g, cur, e1, e2, by omega, qe_ hb2 e4 e3, e5⟩
     replace hb7 := tb_ hb7 hb2
     obtain ⟨bQ, hbQ⟩ : ∃ x, x = v20.heap.size := ⟨_, rfl⟩
     rw [← hbQ] at hQ hO ⊢
     clear hv21 hb2 hbQ HO1
     have c5 := qbn_ hQ HT1.out.tt
     rw [HT1.out.gn, ← HGN.out.1] at c5
     go_wp2_with fail
     go_loopw [145] (fun kk wr => ∃ k : Nat, k ≤ gn ∧ kk = .int .i64 (k : Int) ∧ NN.PrAt wr bQ q ∧ Hid (0 < gn → ∃ g cur, tq.ga = some ⟨g, 0, none⟩ ∧ v7.heap.size ≤ g ∧ g ≠ bQ ∧ Has wr g cur 77 ∧ 2 * gn ≤ cur.size) ∧ Below v7.heap.size v7 wr) (fun kk _ => gn - (intOf kk).toNat)
     case atStart => exact ⟨0, by omega, rfl, hQ, h_ hO, hb7⟩
     case round =>
      clear hQ hO hb7 c5
      obtain ⟨k, hk, rfl, hQ, HO, hb7⟩ := hrel
      by_cases hkg : k < gn
      ·obtain ⟨g, cur, hga, hg7, hgQ, hH, hsz⟩ := HO.out (by omega)
       have c5 := qbn_ hQ HT1.out.tt
       rw [HT1.out.gn, ← HGN.out.1, hga] at c5
       have uS : wr.cell? ⟨g, k * 2, none⟩ = some (cur[k * 2]'(by omega)) := (Has.cell hH (k * 2)).trans (Array.getElem?_eq_getElem (by omega))
       have fS := Has.free hH (k * 2)
       have HA2 := h_ (And.intro hga (And.intro hg7 (And.intro hgQ hsz)))
       generalize cur[k * 2]'(by omega) = uu at *
       clear hga hg7 hgQ HO
       go_wp2_with (with_reducible refine qni_ rfl _ _ rfl ⟨g, k * 2, none⟩ (-5) _ rfl rfl fS uS ?_)
       have hQ3 : NN.PrAt (wr.setCell ⟨g, k * 2, none⟩ (.int .i64 (-5))) bQ q := Has.other hQ _ _ (fun e => HA2.out.2.2.1 e.symm)
       have hb3 : Below v7.heap.size v7 (wr.setCell ⟨g, k * 2, none⟩ (.int .i64 (-5))) := qfn_ hb7 _ _ HA2.out.2.1
       have HH := h_ hH
       clear hQ hb7 hH c5 uS fS hsz
       go_roundw
       case rel => exact ⟨k + 1, by omega, by go_num, hQ3, h_ fun _ => ⟨g, _, HA2.out.1, HA2.out.2.1, HA2.out.2.2.1, Has.set (i := k * 2) HH.out (.int .i64 (-5)), by rw [Array.size_setIfInBounds]; exact HA2.out.2.2.2⟩, hb3⟩
       case measure => simp [intOf]; omega
      ·obtain rfl : k = gn := by omega
       clear HO hQ
       go_wp2_with fail
       refine (KR1.out _ hb7).mono ?_
       rintro x v24 ⟨q2, t2, rfl, qo2, hT2, hb⟩
       have zq2 := NN.qak_ qo2
       replace hb7 := tb_ hb7 hb
       have HT2 := h_ hT2
       have q21 := hT2.one
       clear hT2 hb
       go_upto_region 43 with (with_reducible refine qik_ rfl _ _ rfl _ _ q2 q21 rfl rfl rfl zq2 (qjz_ v24) zZ ?_)
       generalize hv25 : World.setRow _ _ _ = v25
       have hb2 : Below v24.heap.size v24 v25 := bw_ hv25
       have hQ : NN.PrAt v25 v24.heap.size q2 := by rw [← hv25]; exact NN.Has.row (qjz_ v24) _
       have HG2 := h_ (HT2.out.own.1.below hb2)
       replace hb7 := tb_ hb7 hb2
       obtain ⟨bR, hbR⟩ : ∃ x, x = v24.heap.size := ⟨_, rfl⟩
       rw [← hbR] at hQ ⊢
       clear hv25 hb2 hbR
       have c5 := qbn_ hQ HT2.out.tt
       rw [HT2.out.gn, ← HGN.out.1] at c5
       have hbb := Below.refl v25.heap.size v25
       have HQ := h_ hQ
       have HB7 := h_ hb7
       go_wp2_with fail
       clear hQ c5 hb7
       go_loopw [159] (fun kk wr => ∃ k' : Nat, k' ≤ k ∧ kk = .int .i64 (k' : Int) ∧ Below v25.heap.size v25 wr) (fun kk _ => k - (intOf kk).toNat)
       case atStart => exact ⟨0, by omega, rfl, hbb⟩
       case round =>
        clear hbb
        obtain ⟨j, hj, rfl, hb⟩ := hrel
        have hb7 := tb_ HB7.out hb
        have hP := HP.out _ hb7
        have hQ := NN.PrAt.on HQ.out hb
        have c5 := qbn_ hQ HT2.out.tt
        rw [HT2.out.gn, ← HGN.out.1] at c5
        have p5 := qbn_ hP tt
        rw [er.out.2.2.1, ← HGN.out.1] at p5
        by_cases hjk : j < k
        ·have hj2 : j < r.gs.length := by rw [← HGN.out.1]; exact hjk
         obtain ⟨ab, ao, e1, _, hc1⟩ := (HG2.out.below hb) (by omega)
         obtain ⟨ab2, ao2, e2, _, hc2⟩ := (HGt.out _ (HBB.out _ hb7)) (by omega)
         have qa := qag_ (hc1 j hj2) (qmw_ _)
         have qb := qag_ (hc2 j hj2) (qmw_ _)
         generalize r.gs[j] = y at *
         rw [e1] at c5
         rw [e2] at p5
         have u1 : ∀ d os, (Sort.grow (redrawn wr d) os).cell? ⟨bR, 5, none⟩ = _ := cell_regrown c5
         have u2 : ∀ d os, (Sort.grow (redrawn wr d) os).cell? ⟨bP, 5, none⟩ = _ := cell_regrown p5
         clear e1 e2 hc1 hc2 hj2 c5 p5 hP hQ
         go_upto_region 46 with fail
         refine wp_region_quiet_below (by kernel_rfl) (by kernel_rfl) ?_
         repeat (first
          | (go_big_quiet_want; (with_reducible first | refine qgq_ _ rfl ab (ao + j * 2) rfl y qa ?_ | refine qgq_ _ rfl ab2 (ao2 + j * 2) rfl y qb ?_ | refine qos_ _ _ _ rfl y rfl rfl ?_); (simp only [Act.put, List.setIfInBounds_toArray, List.set_cons_zero, List.set_cons_succ]); go_big_quiet_on)
          | go_big_quiet_step (fail))
         refine wpQuiet_nil ?_
         intro v26 hw'
         have hb3 := hb.trans ((qam_ v26 hw').mono hb.size)
         clear hw' qa qb u1 u2 hb hb7
         go_wp2_with fail
         go_roundw
         case rel => exact ⟨j + 1, by omega, by go_num, hb3⟩
         case measure => simp [intOf]; omega
        ·obtain rfl : j = k := by omega
         clear hP hQ c5 p5
         go_wp2_with fail
         refine (KNo.out _ hb7).mono ?_
         rintro x v27 ⟨rfl, hbn⟩
         replace hb := tb_ hb hbn
         clear hbn
         go_upto_region 50 with (with_reducible refine qbw_ rfl _ _ rfl _ _ spZ rfl rfl rfl zS (qby_ v27) zS ?_)
         generalize hv28 : World.setRow _ _ _ = v28
         have hb2 : Below v27.heap.size v27 v28 := bw_ hv28
         replace hb := tb_ hb hb2
         generalize v27.heap.size = bN at *
         clear hv28 hb2 hb7
         have hb7 := tb_ HB7.out hb
         have hP := HP.out _ hb7
         have hQ := NN.PrAt.on HQ.out hb
         have c5 := qbn_ hQ HT2.out.tt
         have c6 := qca_ hQ HT2.out.tt
         have p5 := qbn_ hP tt
         have p6 := qca_ hP tt
         rw [HT2.out.gn, ← HGN.out.1] at c5
         rw [HT2.out.cn, ← HGN.out.2.1] at c6
         rw [er.out.2.2.1, ← HGN.out.1] at p5
         rw [er.out.2.2.2, ← HGN.out.2.1] at p6
         have c0 := NN.PrAt.c0 hQ (x := L) (h_ (HT2.out.al.1.trans HGN.out.2.2.symm))
         have p0 := NN.PrAt.c0 hP (x := L) (h_ (er.out.2.1.trans HGN.out.2.2.symm))
         have rq := pr_gen hQ HT2.out.tt HT2.out.ok
         have rp := pr_gen hP tt ht
         rw [HT2.out.al.2.2.2.2.2] at rq
         rw [er.out.1] at rp
         have hgo := HG.out.1
         have s1 := qj_ hgo
         have qe := fun w => hd_eql r.g r.g hgo hgo true (by simp) w
         have tL : (L == L) = true := by simp
         have tg : ((j : Int) == (j : Int)) = true := by simp
         have tc : ((cn : Int) == (cn : Int)) = true := by simp
         have hB := HBB.out _ hb7
         clear hP hQ hb hb7
         go_wp2_with (first
          | fail
          | (with_reducible refine qcj_ (by with_unfolding_all rfl) _ rfl bR 15 rfl r.g rq s1 ?_)
          | (with_reducible refine qcj_ (by with_unfolding_all rfl) _ rfl bP 15 rfl r.g rp s1 ?_)
          | (with_reducible refine hdeql_g (by with_unfolding_all rfl) _ _ _ rfl _ _ _ rfl rfl qe ?_))
         go_ret
         exact ⟨rfl, hB⟩
theorem qtf_ (p : NN.Pr) (hp : p.ok) (h1 : p.one) (t : Tl) (tt : p.tl = t.C) (ht : t.ok) (gs : List Gt) (cs : List Ck) (hgn : t.gn = gs.length) (hcn : t.cn = cs.length) (a : Option Addr) (ls : List Cm) (n c : Nat) (hn : n = ls.length) (hl : n ≤ 4611686018427387904) (hnow : ∀ x ∈ ls, -9223372036854775808 ≤ x.now ∧ x.now ≤ 9223372036854775807) (w : World) (hT : Tab w) (hA : ComesAt w a ls) (hG : GatesAt w t.ga gs) (hC : ChecksAt w t.ca cs) :
  Ca_ 5 #[.agg (NN.prA p), .slice a n c] w (.bool true) := by
 have KA : HK_ w 8 #[] (.bool true) := h_ fun w' hb => alive12 w' (hT.below hb)
 have KG : ∀ g, grt t ls = g → HK_ w 9 #[.agg (NN.prA p), .slice a n c] (.bool g) := fun g hg => h_ fun w' hb => grt_at p t tt ls n a c hn hl g hg w' (hA.below hb)
 cases hg : grt t ls
 ·have KG1 := KG false hg
  unfold grt at hg
  simp only [Bool.or_eq_false_iff, decide_eq_false_iff_not] at hg
  obtain ⟨⟨⟨hg0, hg1⟩, hg2⟩, hg3⟩ := hg
  have KR : ∀ g, ruleP p t.g gs cs = g → HK_ w 17 #[.agg (NN.prA p)] (.bool g) := fun g hr => h_ fun w' hb => by
   rw [← hr]
   exact qst_ p hp t tt ht gs cs hgn hcn (by omega) (by omega) w' (hG.below hb) (hC.below hb)
  cases hr : ruleP p t.g gs cs
  ·exact qwz_ p hp a n c w KA KG1 (KR false hr)
  ·have hgP : t.g.P := by
    unfold ruleP at hr
    simp only [Bool.and_eq_true, decide_eq_true_eq] at hr
    exact hr.1.1.2
   have KN : ∀ room : Int, Hid (∀ w', Below w.heap.size w w' → Calls Tryz.prog 10 #[.agg (NN.prA p), .int .i64 room] w' fun e w'' => ∃ b F, e = .returned (.tuple #[.pointer (some ⟨b, 0, none⟩), .int .i64 0]) ∧ ArS w'' F b ⟨p, t.g, gs, cs, clampR room⟩ [entZ] ∧ (∀ i, F i → w'.heap.size ≤ i) ∧ Below w'.heap.size w' w'') := fun room => h_ fun w' hb => new_at p hp h1 t tt ht gs cs hgn hcn (by omega) (by omega) room hr w' (hT.below hb) (hG.below hb) (hC.below hb)
   have HA := h_ fun w' (hb : Below w.heap.size w w') => hA.below hb
   have HT := h_ fun w' (hb : Below w.heap.size w w') => hT.below hb
   have hn40 : n ≤ 40 := by omega
   have HGG : Hid (t.g.ok ∧ t.g.P ∧ gs.length ≤ 1000 ∧ cs.length ≤ 1000) := h_ ⟨ht.2, hgP, by omega, by omega⟩
   have hiv : 2 ≤ p.ivl := by
    unfold ruleP NN.Pr.good at hr
    simp only [Bool.and_eq_true, decide_eq_true_eq] at hr
    exact hr.1.1.1.1.1.1.1.1.2
   have e2 : clampR 100 = 100 := by unfold clampR; omega
   have K1 := KN 100
   have KF : Hid (∀ w', Below w.heap.size w w' → Calls Tryz.prog 18 #[.agg (NN.prA p), .int .i64 100] w' fun e w'' => ∃ b, e = .returned (.pointer (some ⟨b, 0, none⟩)) ∧ RfS w'' w.heap.size (fun i => w'.heap.size ≤ i ∧ i < w''.heap.size) b ⟨p, t.g, gs, cs, clampR 100⟩ [entZ] ∧ Below w'.heap.size w' w'') := h_ fun w' hb => qacr_ p hp h1 t tt ht gs cs hgn hcn 100 w w' hb hG hC
   rw [e2] at K1 KF
   refine qte_ p hp t tt ht ⟨p, t.g, gs, cs, 100⟩ (h_ ⟨rfl, rfl, hgn, hcn⟩) a n c ls w HA (h_ hn) hn40 HT HGG KA KG1 (KR true hr) K1 KF (h_ fun w' hb => ?_) (h_ fun w' hb s q h so hI q1 q2 q3 ho => ?_) (h_ hiv) (h_ hnow) (h_ fun w' hb => hG.below hb)
   ·refine (qsa_ p hp t tt ht w' (hT.below hb)).mono ?_
    rintro e w2 ⟨s, rfl, z, hI, hb2⟩
    refine ⟨s, rfl, ?_, hI.wide (Nat.zero_le _), hb2⟩
    show s.prev.length = 32
    rw [hI.2.1]
    exact qo_ _
   ·obtain ⟨e1, e3, e4, e5, ⟨b2, e6⟩, e7⟩ := hI
    refine (qih_ p hp s so q.ts e4 e5 (by rw [← e4]; omega) (by rw [e6]; intro h; cases h) (by rw [e1]; exact q2) (by rw [e1]; omega) h ho w' (hT.below hb) e7).mono ?_
    rintro r2 w2 ⟨b', c', rfl, g1, g2, g3⟩
    refine ⟨_, rfl, qo_ _, ⟨?_, rfl, rfl, g1, ⟨b', rfl⟩, g2⟩, g3⟩
    show bhx p s.x h = bhx p q.x h
    rw [e1]
 ·exact qot_ p hp a n c w KA (KG true hg)
end Go.Proofs.YtkclahiiijfllaaGreatDoor.An
