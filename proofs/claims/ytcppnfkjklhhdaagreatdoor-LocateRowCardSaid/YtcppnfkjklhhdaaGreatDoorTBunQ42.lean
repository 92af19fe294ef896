import Derived.Test.YtcppnfkjklhhdaaGreatDoorTIdm
import Derived.Test.YtcppnfkjklhhdaaGreatDoorTBunQ40
import Derived.Test.YtcppnfkjklhhdaaGreatDoorTBunQ41
set_option maxRecDepth 100000
set_option maxHeartbeats 4000000
namespace Go.Proofs.YtcppnfkjklhhdaaGreatDoor.An
open Go.RowKit Mem Sc
open Ar (Ent Ru entZ Ok isP IsAn)
theorem qxc_ (p : NN.Pr) (hp : p.ok) (r : Ru) (a : Option Addr) (n c : Nat) (ls : List Cm) (w : World) (HA : Hid (∀ w', Below w.heap.size w w' → ComesAt w' a ls)) (HN : Hid (n = ls.length)) (hn40 : n ≤ 40) (HT : Hid (∀ w', Below w.heap.size w w' → Tab w')) (KN : Hid (∀ w', Below w.heap.size w w' → Calls Tryz.prog 25 #[.agg (NN.prA p), .int .i64 100] w' fun e w'' => ∃ b F, e = .returned (.tuple #[.pointer (some ⟨b, 0, none⟩), .int .i64 0]) ∧ TrS w'' F b r [entZ] [-1] ∧ (∀ i, F i → w'.heap.size ≤ i) ∧ Below w'.heap.size w' w'')) (KF : Hid (∀ w', Below w.heap.size w w' → Calls Tryz.prog 26 #[.agg (NN.prA p), .int .i64 100] w' fun e w'' => ∃ b, e = .returned (.pointer (some ⟨b, 0, none⟩)) ∧ RfS w'' w.heap.size (fun i => w'.heap.size ≤ i ∧ i < w''.heap.size) b r [entZ] ∧ Below w'.heap.size w' w'')) (HG : Hid (r.gs.length ≤ 1000 ∧ r.cs.length ≤ 1000 ∧ 2 ≤ r.p.ivl)) (HNW : Hid (∀ x ∈ ls, -9223372036854775808 ≤ x.now ∧ x.now ≤ 9223372036854775807)) :
  Calls Tryz.prog 9 #[.agg (NN.prA p), .slice a n c] w fun e w' => ∃ bt bm, e = .returned (.tuple #[.pointer (some ⟨bt, 0, none⟩), .pointer (some ⟨bm, 0, none⟩)]) ∧ GrownP w w' r (n + 1) bt bm ∧ Below w.heap.size w w' := by
 have hz := NN.qaq_ hp
 go_enter Tryz.func9, Tryz.ntmps9
 go_upto_region 1 with fail
 generalize hw0 : World.alloc _ _ = v0
 have hB : Below w.heap.size w v0 := bl_ hw0
 have hP : NN.PrAt v0 w.heap.size p := by rw [← hw0]; exact NN.Has.new _ _
 clear hw0
 obtain ⟨bP, hbP⟩ : ∃ x, x = w.heap.size := ⟨_, rfl⟩
 rw [← hbP] at hP ⊢
 have HBP : Hid (bP = w.heap.size) := h_ hbP
 clear hbP
 go_wp2_with (first | fail | (with_reducible refine NN.qn_ rfl _ rfl _ rfl hP hz ?_))
 refine (KN.out _ hB).mono ?_
 rintro e v3 ⟨bt, F, rfl, hS, hF, hb⟩
 have HF0 : Hid (∀ i, F i → w.heap.size ≤ i) := h_ fun i hi => Nat.le_trans hB.size (hF i hi)
 replace hP := hP.on hb
 replace hB := tb_ hB hb
 clear hb hF
 have HFl := h_ hS.1
 go_wp2_with (first | fail | (with_reducible refine NN.qn_ rfl _ rfl _ rfl hP hz ?_))
 refine (KF.out _ hB).mono ?_
 rintro e v12 ⟨bm, rfl, hR, hb⟩
 replace hS := hS.below hb
 replace hB := tb_ hB hb
 have HD : Hid (∀ i, F i → ¬ (v3.heap.size ≤ i ∧ i < v12.heap.size)) := h_ fun i hi hh => by have := HFl.out i hi; omega
 clear hb hP
 generalize hFm : (fun i => v3.heap.size ≤ i ∧ i < v12.heap.size) = Fm at *
 have HD0 : Hid (∀ i, F i → ¬ Fm i) := h_ fun i hi => by rw [← hFm]; exact HD.out i hi
 clear hFm HD HFl
 go_wp2_with fail
 go_loopw [20] (fun i wr => ∃ k : Nat, k ≤ n ∧ i = .int .i64 (k : Int) ∧ ∃ Fa Fm M lp, TrS wr Fa bt r M lp ∧ RfS wr w.heap.size Fm bm r M ∧ Hid (Ok r M ∧ M.length ≤ k + 1 ∧ lp.length = M.length ∧ (∀ i, Fa i → w.heap.size ≤ i) ∧ ∀ i, Fa i → ¬ Fm i) ∧ Below w.heap.size w wr) (fun i _ => n - (intOf i).toNat)
 case atStart => exact ⟨0, by omega, rfl, F, Fm, [entZ], [-1], hS, hR, h_ ⟨Ok.one r, Nat.le_refl _, rfl, HF0.out, HD0.out⟩, hB⟩
 case round =>
  clear hS hR hB HF0 HD0 F Fm
  obtain ⟨k, hk, rfl, Fa, Fm, M, lp, hS, hR, HM, hB⟩ := hrel
  by_cases hlt : k < n
  ·obtain ⟨ab, ao, hae, habl, hc⟩ := (HA.out _ hB) (by rw [← HN.out]; omega)
   subst hae
   have hk2 : k < ls.length := by rw [← HN.out]; exact hlt
   obtain ⟨q0, q1⟩ := hc k hk2
   clear hc
   have HNy := HNW.out _ (List.getElem_mem hk2)
   generalize ls[k] = y at *
   clear hk2
   have z1 := qgp_ q0
   have z2 := qih_ q0
   have z0 := qih_ (c := cmZ) hdZ_ok
   have zy := qj_ q0
   have hb2 : Below wr.heap.size wr ((wr.alloc (.cells Tryz.zeroCells64 64)).setRow wr.heap.size (cmA y)) := below_setRow ((Below.refl _ _).alloc (Nat.le_refl _) _) (Nat.le_refl _) _
   have hY := qym_ wr y
   have hnew := qss_ wr
   have hB2 := tb_ hB hb2
   have hS2 := hS.below hb2
   have hR2 := hR.below hb2
   have hT2 := HT.out _ hB2
   have cn := hY.now q0
   have rh := hY.head
   have hnY : ¬ Fa wr.heap.size := fun hf => by have := hS.1 _ hf; omega
   have KAdd := h_ (tadd_at hS2 HM.out.1 (by have := HM.out.2.1; omega) HM.out.2.2.1 HG.out.1 HG.out.2.1 hT2 y.h q0 y.now)
   clear hS hR hS2 hB hT2
   go_wp2_with (with_reducible first | refine qeq_ rfl _ rfl ab (ao + k * 69) rfl y q1 z1 ?_ | refine qlo_ rfl _ _ rfl _ _ y rfl rfl rfl z2 hnew z0 ?_ | refine qad_ rfl _ rfl _ 0 rfl y.h rh zy ?_)
   refine KAdd.out.mono ?_
   rintro e v6 ⟨rfl, ⟨lp2, hlp2, hS6⟩, hK6⟩
   generalize World.setRow _ _ _ = v5 at *
   obtain ⟨bY, hbY⟩ : ∃ x, x = wr.heap.size := ⟨_, rfl⟩
   rw [← hbY] at hY hnY ⊢
   clear hbY
   have hY6 : CmAt v6 bY y := hK6.has hY hnY
   have hR6 := hR2.on hK6 (fun i hi hf => HM.out.2.2.2.2 i hf hi) (fun i hi => HM.out.2.2.2.1 i hi)
   have hB6 := hB2.trans (hK6.below HM.out.2.2.2.1 hB2.size)
   have cn6 := hY6.now q0
   have rh6 := hY6.head
   have KAdd2 := h_ (radd_at hR6 HM.out.1 (by have := HM.out.2.1; omega) HG.out.1 HG.out.2.1 HG.out.2.2 y.h q0 y.now HNy.1 HNy.2)
   have HDj : Hid (∀ i, Nxt Fa v5 v6 i → ¬ Fm i) := h_ fun i hi hf => hi.elim (fun h => HM.out.2.2.2.2 i h hf) (fun h => by have := (hR2.2.1 i hf).2; omega)
   have HFa6 : Hid (∀ i, Nxt Fa v5 v6 i → w.heap.size ≤ i) := h_ fun i hi => hi.elim (HM.out.2.2.2.1 i) (fun h => Nat.le_trans hB2.size h.1)
   have hOk := HM.out.1.add q0 y.now
   have hlen := add_len r M y.h y.now
   have HL2 : Hid (M.length ≤ k + 1) := h_ HM.out.2.1
   have HFm : Hid (∀ i, Fm i → w.heap.size ≤ i) := h_ fun i hi => (hR2.2.1 i hi).1
   have HLP := h_ hlp2
   clear hK6 hB2 KAdd hb2 HM hR2 hY hnY cn rh hlp2
   obtain ⟨⟨x1, x2, x3⟩, hres⟩ : ∃ res, res = (Ar.add r M y.h y.now).1 := ⟨_, rfl⟩
   rw [← hres] at KAdd2 ⊢
   go_wp2_with (first | fail | (with_reducible refine qad_ rfl _ rfl _ 0 rfl y.h rh6 zy ?_))
   refine KAdd2.out.mono ?_
   rintro e v7 ⟨rfl, hR7, hK7⟩
   have hS7 := hS6.on hK7 (fun i hi hf => HDj.out i hi hf)
   have hB7 := hB6.trans (hK7.below HFm.out hB6.size)
   have hlx := hS6.1
   have HM7 : Hid (Ok r (Ar.add r M y.h y.now).2 ∧ (Ar.add r M y.h y.now).2.length ≤ k + 1 + 1 ∧ lp2.length = (Ar.add r M y.h y.now).2.length ∧ (∀ i, Nxt Fa v5 v6 i → w.heap.size ≤ i) ∧ ∀ i, Nxt Fa v5 v6 i → ¬ Nxt Fm v6 v7 i) := h_ ⟨hOk, by have := HL2.out; omega, HLP.out, HFa6.out, fun i hi hf => hf.elim (HDj.out i hi) (fun h => by have := hlx i hi; omega)⟩
   clear hK7 hB6 KAdd2 hS6 hR6 hOk hlen hlx HDj HFa6 hres cn6 rh6 hY6 HLP
   generalize (Ar.add r M y.h y.now).2 = M' at *
   generalize Nxt Fa v5 v6 = Fa' at *
   generalize Nxt Fm v6 v7 = Fm' at *
   go_wp2_with fail
   go_roundw
   case rel => exact ⟨k + 1, by omega, by go_num, Fa', Fm', M', lp2, hS7, hR7, HM7, hB7⟩
   case measure => simp [intOf]; omega
  ·obtain rfl : k = n := by omega
   have HGr : Hid (GrownP w wr r (k + 1) bt bm) := h_ ⟨Fa, Fm, M, lp, hS, hR, HM.out.2.2.1, HM.out.1, HM.out.2.1⟩
   clear hS hR HM
   go_wp2_with fail
   go_ret2
   exact ⟨_, _, rfl, HGr.out, hB⟩
theorem qkb_ (p : NN.Pr) (hp : p.ok) (h1 : p.one) (t : Tl) (tt : p.tl = t.C) (ht : t.ok) (gs : List Gt) (cs : List Ck) (hgn : t.gn = gs.length) (hcn : t.cn = cs.length) (a : Option Addr) (ls : List Cm) (n c : Nat) (hn : n = ls.length) (hnow : ∀ x ∈ ls, -9223372036854775808 ≤ x.now ∧ x.now ≤ 9223372036854775807) (hg : grt13 p t gs cs ls = false) (w : World) (hT : Tab w) (hA : ComesAt w a ls) (hG : GatesAt w t.ga gs) (hC : ChecksAt w t.ca cs) :
  Calls Tryz.prog 9 #[.agg (NN.prA p), .slice a n c] w fun e w' => ∃ bt bm, e = .returned (.tuple #[.pointer (some ⟨bt, 0, none⟩), .pointer (some ⟨bm, 0, none⟩)]) ∧ GrownP w w' ⟨p, t.g, gs, cs, 100⟩ 41 bt bm ∧ Below w.heap.size w w' := by
 unfold grt13 grt at hg
 simp only [Bool.or_eq_false_iff, decide_eq_false_iff_not, Bool.not_eq_false'] at hg
 obtain ⟨⟨⟨⟨hg0, hg1⟩, hg2⟩, hg3⟩, hr⟩ := hg
 refine (qxc_ p hp ⟨p, t.g, gs, cs, 100⟩ a n c ls w (h_ fun w' hb => hA.below hb) (h_ hn) (by omega) (h_ fun w' hb => hT.below hb) (h_ fun w' hb => ?_) (h_ fun w' hb => ?_) (h_ ⟨by simp only; omega, by simp only; omega, ?_⟩) (h_ hnow)).mono ?_
 ·exact tnew_at p hp h1 t tt ht gs cs hgn hcn (by omega) (by omega) 100 hr w' (hT.below hb) (hG.below hb) (hC.below hb)
 ·exact qada_ p hp h1 t tt ht gs cs hgn hcn 100 w w' hb hG hC
 ·unfold ruleP NN.Pr.good at hr
  simp only [Bool.and_eq_true, decide_eq_true_eq] at hr
  exact hr.1.1.1.1.1.1.1.1.2
 ·rintro e w' ⟨bt, bm, rfl, ⟨F, Fm, M, lp, q1, q2, q3, q4, q5⟩, hb⟩
  exact ⟨bt, bm, rfl, ⟨F, Fm, M, lp, q1, q2, q3, q4, by omega⟩, hb⟩
end Go.Proofs.YtcppnfkjklhhdaaGreatDoor.An
namespace Go.Proofs.YtcppnfkjklhhdaaGreatDoor.An
open Go.RowKit Mem Sc
open Ar (Ent Ru)
theorem qtg_ {α : Type} {l : List α} {k : Nat} {x : α} (h : l[k]? = some x) : l.take (k + 1) = l.take k ++ [x] := by
 obtain ⟨h1, h2⟩ := List.getElem?_eq_some_iff.1 h
 rw [List.take_succ_eq_append_getElem h1, h2]
theorem qpb_ (ids : List (List UInt8)) (l : List UInt8) : namesC (ids ++ [l]) = namesC ids ++ Lib.byteCells l := by simp [namesC]
theorem qadj_ {w : World} {ops : Array Oper} {rest : List Oper} {o : Oper} {a : Act} {Q : Exit → Act → World → Prop} (hgd : o.guard = none) (s x : Operand) (ho : o.op = .call { callee := .builtin .append, args := #[s, x], argTypes := #[34, 34] })
  (base : Nat) (v : Value) (n : Nat) (ids : List (List UInt8)) (hs : a.eval s = v) (hown : w.ownsRow base 28 32 v n (namesC ids)) (g : Nat) (l : List UInt8) (hl : l.length = 32) (hx : a.eval x = .slice (some ⟨g, 0, none⟩) 1 1) (hg : w.rangeAt g 0 (Lib.byteCells l)) (hn : n ≤ 1000) (hbase : base ≤ w.heap.size)
  (h : ∀ v' w', w'.ownsRow base 28 32 v' (n + 1) (namesC (ids ++ [l])) → Below base w w' → wpList Tryz.prog ops Q rest (a.put o.dst v') w') : wpList Tryz.prog ops Q (o :: rest) a w :=
 app_el Tryz.underlying34 qfh_ (by decide) (by decide) hgd s x ho base v n _ (Lib.byteCells l) hs hown g hx hg (qe_ hl) (Lib.byteCells_one l) hn hbase fun v' w' q1 q2 => h v' w' (by rw [qpb_]; exact q1) q2
def NamesR (w : World) (v : Value) (ids : List (List UInt8)) : Prop := ∃ a c, v = .slice a ids.length c ∧ ids.length ≤ c ∧ NamesAt w a ids
theorem qxd_ {w : World} {base : Nat} {v : Value} {ids : List (List UInt8)} (h : w.ownsRow base 28 32 v ids.length (namesC ids)) (h32 : ∀ l ∈ ids, l.length = 32) : NamesR w v ids := by
 obtain ⟨a, c, rfl, hc⟩ := qcc_ h
 refine ⟨a, c, rfl, hc, fun h0 => ?_⟩
 have key : ∀ i (hi : i < ids.length), ∃ g, a = some ⟨g, 0, none⟩ ∧ w.rangeAt g (i * 32) (Lib.byteCells ids[i]) := fun i hi => by
  obtain ⟨A, C, e, hA⟩ := qee_ Lib.byteCells 32 ids (fun x hx => qe_ (h32 x hx)) i ids[i] (List.getElem?_eq_getElem hi)
  have h' := h
  unfold namesC at h'
  rw [e] at h'
  obtain ⟨g, c', e2, hr⟩ := row_at h' h0
  rw [hA] at hr
  cases e2
  exact ⟨g, rfl, hr⟩
 obtain ⟨g, rfl, hr⟩ := key 0 h0
 have hl0 := h32 _ (List.getElem_mem h0)
 refine ⟨g, 0, rfl, block_lt_of_cell (hr 0 _ (List.getElem?_eq_getElem (by rw [qe_ hl0]; decide))), fun i hi => ⟨h32 _ (List.getElem_mem hi), ?_⟩⟩
 obtain ⟨g2, e, hr2⟩ := key i hi
 cases e
 rw [Nat.zero_add]
 exact hr2
theorem NamesR.below {w w' : World} {v : Value} {ids : List (List UInt8)} (h : NamesR w v ids) (hb : Below w.heap.size w w') : NamesR w' v ids := by
 obtain ⟨a, c, h1, h2, h3⟩ := h
 exact ⟨a, c, h1, h2, h3.below hb⟩
section
variable {w : World} {k : Nat} {e : En}
theorem EnAt.idr (h : EnAt w k e) (ho : e.ok) : w.rangeAt k 68 (Lib.byteCells e.id) := by
 have := qbl_ (A := hdC e.h) (cs := Lib.byteCells e.id) (C := .int .i64 e.up :: .int .i64 e.ht :: (NN.numC e.wk).toList) (o := 68) (w := w) (b := k) (t := 76) h (by simp [qj_ ho.1])
 exact this
end
end Go.Proofs.YtcppnfkjklhhdaaGreatDoor.An
namespace Go.Proofs.YtcppnfkjklhhdaaGreatDoor.An
open Go.RowKit Mem Sc
open Ar (Ent Ru entZ Ok Row Anc isP nm fk inRow RwT)
theorem qyr_ {α : Type} {l : List α} {k : Nat} {x : α} (h : l[k]? = some x) : l.drop k = x :: l.drop (k + 1) := by
 obtain ⟨h1, h2⟩ := List.getElem?_eq_some_iff.1 h
 rw [List.drop_eq_getElem_cons h1, h2]
section
variable {w : World} {F : Nat → Prop} {b : Nat} {r : Ru} {M : List Ent} {ls : List Int}
end
end Go.Proofs.YtcppnfkjklhhdaaGreatDoor.An
namespace Go.Proofs.YtcppnfkjklhhdaaGreatDoor.An
open Go.RowKit Mem Sc
open Ar (Ent Ru entZ Ok)
def kG (fi : List UInt8 → Int) : List Hd → Nat → Int → Nat × Int
 | [], n, a => (n, a)
 | h :: t, n, a => if fi h.id = -1 then (n, a) else kG fi t (n + 1) (fi h.id)
theorem kG_no {fi : List UInt8 → Int} {h : Hd} {t : List Hd} {n : Nat} {a : Int} (e : fi h.id = -1) : kG fi (h :: t) n a = (n, a) := by
 show (if fi h.id = -1 then (n, a) else kG fi t (n + 1) (fi h.id)) = _
 rw [if_pos e]
theorem kG_yes {fi : List UInt8 → Int} {h : Hd} {t : List Hd} {n : Nat} {a : Int} (e : ¬ fi h.id = -1) : kG fi (h :: t) n a = kG fi t (n + 1) (fi h.id) := by
 show (if fi h.id = -1 then (n, a) else kG fi t (n + 1) (fi h.id)) = _
 rw [if_neg e]
theorem known_w (tp : Value) (fi : List UInt8 → Int) (a : Option Addr) (n c : Nat) (hs : List Hd) (hn : n = hs.length) (hl : n ≤ 4611686018427387904) (w : World) (hA : HeadersAt w a hs) (hT : Tab w)
  (KF : Hid (∀ id, id.length = 32 → ∀ w', Below w.heap.size w w' → Calls Tryz.prog 21 #[tp, .agg (bytesV id)] w' fun e w'' => e = .returned (.int .i64 (fi id)) ∧ Below w'.heap.size w' w'')) :
  Ca_ 16 #[tp, .slice a n c] w (.tuple #[.int .i64 ((kG fi hs 0 (-1)).1 : Nat), .int .i64 (kG fi hs 0 (-1)).2]) := by
 have HN := h_ hn
 have HA := h_ fun (w' : World) (hb : Below w.heap.size w w') => hA.below hb
 have HT := h_ fun (w' : World) (hb : Below w.heap.size w w') => hT.below hb
 have hB := Below.refl w.heap.size w
 obtain ⟨⟨o1, o2⟩, ho⟩ : ∃ o, o = kG fi hs 0 (-1) := ⟨_, rfl⟩
 rw [← ho]
 have HO : Hid ((o1, o2) = kG fi (hs.drop 0) 0 (-1)) := h_ ho
 clear hA hT hn ho
 go_enter Tryz.func16, Tryz.ntmps16
 go_wp2_with fail
 go_loopw [6, 12] (fun u i wr => ∃ (q : Nat) (z : Int), q ≤ n ∧ u = .int .i64 z ∧ i = .int .i64 (q : Int) ∧ Hid ((o1, o2) = kG fi (hs.drop q) q z) ∧ Below w.heap.size w wr) (fun _ i _ => n - (intOf i).toNat)
 case atStart => exact ⟨0, -1, by omega, rfl, rfl, HO, hB⟩
 case round =>
  clear hB HO
  obtain ⟨q, z, hq, rfl, rfl, HO, hB⟩ := hrel
  by_cases hlt : q < n
  ·have hql : q < hs.length := by rw [← HN.out]; exact hlt
   obtain ⟨ab, ao, hae, habl, hc⟩ := (HA.out _ hB) (by omega)
   subst hae
   obtain ⟨ho, hr⟩ := hc q hql
   have hd := qyr_ (List.getElem?_eq_getElem hql)
   clear hc
   generalize hs[q] = x at *
   have zh := qj_ ho
   have zz := qq_ hdZ_ok
   have za := qq_ ho
   have l32 := qm_ x
   obtain ⟨y, hy⟩ : ∃ y, y = fi x.id := ⟨_, rfl⟩
   obtain ⟨g, hg⟩ : ∃ g, (y == -1) = g := ⟨_, rfl⟩
   have HZ : Hid ((g = true → (o1, o2) = (q, z)) ∧ (g = false → (o1, o2) = kG fi (hs.drop (q + 1)) (q + 1) y)) := h_ (by
    have h0 := HO.out
    rw [hd] at h0
    refine ⟨fun h => ?_, fun h => ?_⟩
    ·rw [h0]; exact kG_no (by rw [h, beq_iff_eq] at hg; rw [← hy]; exact hg)
    ·rw [h0, hy]; exact kG_yes (by rw [h, beq_eq_false_iff_ne] at hg; rw [← hy]; exact hg))
   have KF1 := h_ (KF.out x.id l32)
   rw [← hy] at KF1
   have KI := h_ fun (w' : World) (hb : Below w.heap.size w w') => id_at x ho w' (HT.out w' hb)
   have hnew := qjd_ wr
   have hb2 : Below wr.heap.size wr ((wr.alloc (.cells Tryz.zeroCells30 30)).setRow wr.heap.size (hdA x)) := below_setRow ((Below.refl _ _).alloc (Nat.le_refl _) _) (Nat.le_refl _) _
   have hH : HdAt ((wr.alloc (.cells Tryz.zeroCells30 30)).setRow wr.heap.size (hdA x)) wr.heap.size x := Has.row hnew _
   have hB2 := tb_ hB hb2
   clear hB hy hd HO hql
   go_upto_region 5 with (first
    | (with_reducible refine qad_ rfl _ rfl ab (ao + q * 68) rfl x hr zh ?_)
    | (with_reducible refine qbk_ rfl _ _ rfl _ _ x rfl rfl rfl za hnew zz ?_))
   generalize World.setRow _ _ _ = v3 at *
   obtain ⟨bH, hbH⟩ : ∃ x, x = wr.heap.size := ⟨_, rfl⟩
   rw [← hbH] at hH ⊢
   clear hbH hb2 hnew hr
   go_wp2_with (first | fail | (with_reducible refine qae_ rfl _ rfl _ rfl hH za ?_))
   refine (KI.out _ hB2).mono ?_
   rintro e v4 ⟨rfl, hb⟩
   replace hB2 := tb_ hB2 hb
   clear hb hH KI
   generalize x.id = id at *
   go_wp2_with fail
   refine (KF1.out _ hB2).mono ?_
   rintro e v5 ⟨rfl, hb⟩
   replace hB2 := tb_ hB2 hb
   clear hb KF1
   cases g
   ·have HO2 := h_ (HZ.out.2 rfl)
    go_wp2_with fail
    go_roundw
    case rel => exact ⟨q + 1, y, by omega, rfl, by go_num, HO2, hB2⟩
    case measure => simp [intOf]; omega
   ·have h0 := HZ.out.1 rfl
    obtain ⟨rfl, rfl⟩ := Prod.mk.inj h0
    clear h0
    go_wp2_with fail
    go_ret2
    exact ⟨rfl, hB2⟩
  ·obtain rfl : q = n := by omega
   have h0 : (o1, o2) = (q, z) := by
    have := HO.out
    rw [HN.out, List.drop_length] at this
    rw [HN.out]
    exact this
   obtain ⟨rfl, rfl⟩ := Prod.mk.inj h0
   clear h0
   go_wp2_with fail
   go_ret2
   exact ⟨rfl, hB⟩
theorem qadk_ {w : World} {F : Nat → Prop} {b : Nat} {r : Ru} {M : List Ent} {ls : List Int} (h : TrS w F b r M ls) (a : Option Addr) (n c : Nat) (hs : List Hd) (hn : n = hs.length) (hl : n ≤ 4611686018427387904) (hA : HeadersAt w a hs) (hT : Tab w) :
  Ca_ 16 #[.pointer (some ⟨b, 0, none⟩), .slice a n c] w (.tuple #[.int .i64 ((kG (fun id => plc (Ar.fnd r.g M id)) hs 0 (-1)).1 : Nat), .int .i64 (kG (fun id => plc (Ar.fnd r.g M id)) hs 0 (-1)).2]) :=
 known_w _ _ a n c hs hn hl w hA hT (h_ fun id hid _ hb => qlr_ (h.below hb) id hid)
end Go.Proofs.YtcppnfkjklhhdaaGreatDoor.An
namespace Go.Proofs.YtcppnfkjklhhdaaGreatDoor.An
open Go.RowKit Mem Sc
open Ar (Ent Ru entZ Ok)
set_option maxHeartbeats 8000000 in
theorem grp3_ : (∀ (p : NN.Pr) (_hp : p.ok) (a : Option Addr) (n c : Nat) (w : World) (pa : Option Addr) (pn pc : Nat) (_KA : HK_ w 7 #[] (.bool true)) (_KG : HK_ w 8 #[.agg (NN.prA p), .slice a n c] (.bool true)), Ca_ 5 #[.agg (NN.prA p), .slice a n c, .slice pa pn pc] w (.bool true)) ∧
  (∀ (p : NN.Pr) (_hp : p.ok) (a : Option Addr) (n c : Nat) (w : World) (pa : Option Addr) (pn pc : Nat) (_hlong : decide ((40 : Int) < (pn : Int)) = true) (_KA : HK_ w 7 #[] (.bool true)) (_KG : HK_ w 8 #[.agg (NN.prA p), .slice a n c] (.bool false)), Ca_ 5 #[.agg (NN.prA p), .slice a n c, .slice pa pn pc] w (.bool true)) := by
 refine ⟨fun p hp a n c w pa pn pc KA KG => ?_,
  fun p hp a n c w pa pn pc hlong KA KG => ?_⟩
 all_goals
  have hz := NN.qaq_ hp
  go_enter Tryz.func5, Tryz.ntmps5
  go_upto_region 1 with fail
  generalize hw0 : World.alloc _ _ = v0
  have hB : Below w.heap.size w v0 := bl_ hw0
  have hP : NN.PrAt v0 w.heap.size p := by rw [← hw0]; exact NN.Has.new _ _
  clear hw0
  obtain ⟨bP, hbP⟩ : ∃ x, x = w.heap.size := ⟨_, rfl⟩
  rw [← hbP] at hP ⊢
  have HBP : Hid (bP = w.heap.size) := h_ hbP
  clear hbP
  go_wp2_with (first | fail)
  refine (KA.out _ hB).mono ?_
  rintro e v1 ⟨rfl, hb⟩
  replace hP := hP.on hb
  replace hB := tb_ hB hb
  clear hb
  go_wp2_with (with_reducible first | refine NN.qn_ rfl _ rfl _ rfl hP hz ?_ | refine NN.qk_ (by with_unfolding_all rfl) _ rfl _ rfl hP hz ?_)
  refine (KG.out _ hB).mono ?_
  rintro e v2 ⟨rfl, hb⟩
  replace hP := hP.on hb
  replace hB := tb_ hB hb
  clear hb
  go_wp2_with fail
  go_ret
  exact ⟨rfl, hB⟩
theorem qls_ (p : NN.Pr) (hp : p.ok) (r : Ru) (a : Option Addr) (n c : Nat) (w : World) (pa : Option Addr) (pn pc : Nat) (hs : List Hd) (HN : Hid (pn = hs.length)) (hn40 : pn ≤ 40) (hlong : decide ((40 : Int) < (pn : Int)) = false) (HA : Hid (∀ w', Below w.heap.size w w' → HeadersAt w' pa hs)) (HT : Hid (∀ w', Below w.heap.size w w' → Tab w')) (KA : HK_ w 7 #[] (.bool true)) (KG : HK_ w 8 #[.agg (NN.prA p), .slice a n c] (.bool false)) (KGr : Hid (∀ w', Below w.heap.size w w' → Calls Tryz.prog 9 #[.agg (NN.prA p), .slice a n c] w' fun e w'' => ∃ bt bm, e = .returned (.tuple #[.pointer (some ⟨bt, 0, none⟩), .pointer (some ⟨bm, 0, none⟩)]) ∧ GrownP w' w'' r 41 bt bm ∧ Below w'.heap.size w' w'')) :
  Ca_ 5 #[.agg (NN.prA p), .slice a n c, .slice pa pn pc] w (.bool true) := by
 have hz := NN.qaq_ hp
 go_enter Tryz.func5, Tryz.ntmps5
 go_upto_region 1 with fail
 generalize hw0 : World.alloc _ _ = v0
 have hB : Below w.heap.size w v0 := bl_ hw0
 have hP : NN.PrAt v0 w.heap.size p := by rw [← hw0]; exact NN.Has.new _ _
 clear hw0
 obtain ⟨bP, hbP⟩ : ∃ x, x = w.heap.size := ⟨_, rfl⟩
 rw [← hbP] at hP ⊢
 have HBP : Hid (bP = w.heap.size) := h_ hbP
 clear hbP
 go_wp2_with (first | fail)
 refine (KA.out _ hB).mono ?_
 rintro e v1 ⟨rfl, hb⟩
 replace hP := hP.on hb
 replace hB := tb_ hB hb
 clear hb
 go_wp2_with (with_reducible first | refine NN.qn_ rfl _ rfl _ rfl hP hz ?_ | refine NN.qk_ (by with_unfolding_all rfl) _ rfl _ rfl hP hz ?_)
 refine (KG.out _ hB).mono ?_
 rintro e v2 ⟨rfl, hb⟩
 replace hP := hP.on hb
 replace hB := tb_ hB hb
 clear hb
 go_wp2_with (first | fail | (with_reducible refine NN.qn_ rfl _ rfl _ rfl hP hz ?_))
 refine (KGr.out _ hB).mono ?_
 rintro e v3 ⟨bt, bm, rfl, hGr, hb⟩
 replace hB := tb_ hB hb
 clear hb KGr hP
 obtain ⟨F, Fm, M, lp, hS, hR, hlp, hM, hl⟩ := hGr
 have KKn : Hid (Calls Tryz.prog 16 #[.pointer (some ⟨bt, 0, none⟩), .slice pa pn pc] v3 fun e w' => e = .returned (.tuple #[.int .i64 ((kG (fun id => plc (Ar.fnd r.g M id)) hs 0 (-1)).1 : Nat), .int .i64 (kG (fun id => plc (Ar.fnd r.g M id)) hs 0 (-1)).2]) ∧ Below v3.heap.size v3 w') := h_ (qadk_ hS pa pn pc hs HN.out (by omega) (HA.out _ hB) (HT.out _ hB))
 have KFi : Hid (∀ id : List UInt8, id.length = 32 → ∀ w', Below v3.heap.size v3 w' → Calls Tryz.prog 20 #[.pointer (some ⟨bm, 0, none⟩), .agg (bytesV id)] w' fun e w'' => e = .returned (.int .i64 (plc (Ar.fnd r.g M id))) ∧ Below w'.heap.size w' w'') := h_ fun id hid w' hb => qgr_ (hR.below hb) hM.pos (by omega) id hid
 have HPl : Hid (∀ id : List UInt8, plc (Ar.fnd r.g M id) = -1 ∨ 0 ≤ plc (Ar.fnd r.g M id)) := h_ fun id => by
  cases Ar.fnd r.g M id with
  | none => exact .inl rfl
  | some k => exact .inr (Int.natCast_nonneg k)
 have HB3 := h_ hB
 clear hS hR hlp hM hl hB
 obtain ⟨fi, hfi⟩ : ∃ fi : List UInt8 → Int, fi = fun id => plc (Ar.fnd r.g M id) := ⟨_, rfl⟩
 have HFe : Hid (∀ id, plc (Ar.fnd r.g M id) = fi id) := h_ fun id => by rw [hfi]
 rw [← hfi] at KKn
 obtain ⟨⟨o1, o2⟩, ho⟩ : ∃ o, o = kG fi hs 0 (-1) := ⟨_, rfl⟩
 rw [← ho] at KKn
 have HO : Hid ((o1, o2) = kG fi (hs.drop 0) 0 (-1)) := h_ ho
 clear ho hfi
 go_wp2_with fail
 refine KKn.out.mono ?_
 rintro e v4 ⟨rfl, hb⟩
 clear KKn
 go_wp2_with fail
 go_loopw [11, 12, 40] (fun k u i wr => ∃ (q : Nat) (z : Int), q ≤ pn ∧ k = .int .i64 (q : Int) ∧ u = .int .i64 z ∧ i = .int .i64 (q : Int) ∧ Hid ((o1, o2) = kG fi (hs.drop q) q z) ∧ Below v3.heap.size v3 wr) (fun _ _ i _ => pn - (intOf i).toNat)
 case atStart => exact ⟨0, -1, by omega, rfl, rfl, rfl, HO, hb⟩
 case round =>
  clear hb HO
  obtain ⟨q, z, hq, rfl, rfl, rfl, HO, hb⟩ := hrel
  have hB : Below w.heap.size w wr := tb_ HB3.out hb
  by_cases hlt : q < pn
  ·have hql : q < hs.length := by rw [← HN.out]; exact hlt
   obtain ⟨ab, ao, hae, habl, hc⟩ := (HA.out _ hB) (by omega)
   subst hae
   obtain ⟨ho, hr⟩ := hc q hql
   have hd := qyr_ (List.getElem?_eq_getElem hql)
   clear hc
   generalize hs[q] = x at *
   have zh := qj_ ho
   have zz := qq_ hdZ_ok
   have za := qq_ ho
   have l32 := qm_ x
   have KF1 := h_ (KFi.out x.id l32)
   have HP1 := HPl.out x.id
   rw [HFe.out x.id] at KF1 HP1
   obtain ⟨y, hy⟩ : ∃ y, y = fi x.id := ⟨_, rfl⟩
   rw [← hy] at KF1 HP1
   obtain ⟨g, hg⟩ : ∃ g, decide (y < 0) = g := ⟨_, rfl⟩
   have HZ : Hid ((g = true → (o1, o2) = (q, z)) ∧ (g = false → (o1, o2) = kG fi (hs.drop (q + 1)) (q + 1) y)) := h_ (by
    have h0 := HO.out
    rw [hd] at h0
    refine ⟨fun h => ?_, fun h => ?_⟩
    ·rw [h0]; exact kG_no (by rw [h, decide_eq_true_eq] at hg; rw [← hy]; omega)
    ·rw [h0, hy]; exact kG_yes (by rw [h, decide_eq_false_iff_not] at hg; rw [← hy]; omega))
   have KI := h_ fun (w' : World) => rid_at x ho w'
   have hnew := qjd_ wr
   have hb2 : Below wr.heap.size wr ((wr.alloc (.cells Tryz.zeroCells30 30)).setRow wr.heap.size (hdA x)) := below_setRow ((Below.refl _ _).alloc (Nat.le_refl _) _) (Nat.le_refl _) _
   have hH : HdAt ((wr.alloc (.cells Tryz.zeroCells30 30)).setRow wr.heap.size (hdA x)) wr.heap.size x := Has.row hnew _
   replace hb := tb_ hb hb2
   clear hB hy hd HO hql HP1
   go_upto_region 11 with (first
    | (with_reducible refine qad_ rfl _ rfl ab (ao + q * 68) rfl x hr zh ?_)
    | (with_reducible refine qbk_ rfl _ _ rfl _ _ x rfl rfl rfl za hnew zz ?_))
   generalize World.setRow _ _ _ = v5 at *
   obtain ⟨bH, hbH⟩ : ∃ x, x = wr.heap.size := ⟨_, rfl⟩
   rw [← hbH] at hH ⊢
   clear hbH hb2 hnew hr
   go_wp2_with (first | fail | (with_reducible refine qae_ rfl _ rfl _ rfl hH za ?_))
   refine (KI.out _).mono ?_
   rintro e v6 ⟨rfl, hb9⟩
   replace hb := tb_ hb hb9
   clear hb9 hH KI
   generalize x.id = id at *
   go_wp2_with fail
   refine (KF1.out _ hb).mono ?_
   rintro e v7 ⟨rfl, hb9⟩
   replace hb := tb_ hb hb9
   clear hb9 KF1
   cases g
   ·have HO2 := h_ (HZ.out.2 rfl)
    go_wp2_with fail
    go_roundw
    case rel => exact ⟨q + 1, y, by omega, by go_num, rfl, by go_num, HO2, hb⟩
    case measure => simp [intOf]; omega
   ·have h0 := HZ.out.1 rfl
    obtain ⟨rfl, rfl⟩ := Prod.mk.inj h0
    have e1 : ((o1 : Int) == (o1 : Int)) = true := by simp
    have e2 : (o2 == o2) = true := by simp
    clear h0
    go_wp2_with fail
    go_ret
    exact ⟨rfl, tb_ HB3.out hb⟩
  ·obtain rfl : q = pn := by omega
   have h0 : (o1, o2) = (q, z) := by
    have := HO.out
    rw [HN.out, List.drop_length] at this
    rw [HN.out]
    exact this
   obtain ⟨rfl, rfl⟩ := Prod.mk.inj h0
   have e1 : ((o1 : Int) == (o1 : Int)) = true := by simp
   have e2 : (o2 == o2) = true := by simp
   clear h0 hlt
   go_wp2_with fail
   go_ret
   exact ⟨rfl, hB⟩
theorem qth_ (p : NN.Pr) (hp : p.ok) (h1 : p.one) (t : Tl) (tt : p.tl = t.C) (ht : t.ok) (gs : List Gt) (cs : List Ck) (hgn : t.gn = gs.length) (hcn : t.cn = cs.length) (a : Option Addr) (ls : List Cm) (n c : Nat) (hn : n = ls.length) (hl : n ≤ 4611686018427387904) (hnow : ∀ x ∈ ls, -9223372036854775808 ≤ x.now ∧ x.now ≤ 9223372036854775807) (pa : Option Addr) (hs : List Hd) (pn pc : Nat) (hpn : pn = hs.length) (w : World) (hT : Tab w) (hA : ComesAt w a ls) (hG : GatesAt w t.ga gs) (hC : ChecksAt w t.ca cs) (hP : HeadersAt w pa hs) :
  Ca_ 5 #[.agg (NN.prA p), .slice a n c, .slice pa pn pc] w (.bool true) := by
 have KA : HK_ w 7 #[] (.bool true) := h_ fun w' _ => alive14 w'
 have KG : ∀ g, grt13 p t gs cs ls = g → HK_ w 8 #[.agg (NN.prA p), .slice a n c] (.bool g) := fun g hg => h_ fun w' hb => qte_ p hp t tt ht gs cs hgn hcn ls n a c hn hl g hg w' (hA.below hb) (hG.below hb) (hC.below hb)
 cases hg : grt13 p t gs cs ls
 ·have KG1 := KG false hg
  have KGr : Hid (∀ w', Below w.heap.size w w' → Calls Tryz.prog 9 #[.agg (NN.prA p), .slice a n c] w' fun e w'' => ∃ bt bm, e = .returned (.tuple #[.pointer (some ⟨bt, 0, none⟩), .pointer (some ⟨bm, 0, none⟩)]) ∧ GrownP w' w'' ⟨p, t.g, gs, cs, 100⟩ 41 bt bm ∧ Below w'.heap.size w' w'') := h_ fun w' hb => qkb_ p hp h1 t tt ht gs cs hgn hcn a ls n c hn hnow hg w' (hT.below hb) (hA.below hb) (hG.below hb) (hC.below hb)
  by_cases hlong : 40 < pn
  ·exact grp3_.2 p hp a n c w pa pn pc (decide_eq_true (by omega)) KA KG1
  ·exact qls_ p hp ⟨p, t.g, gs, cs, 100⟩ a n c w pa pn pc hs (h_ hpn) (by omega) (decide_eq_false (by omega)) (h_ fun w' hb => hP.below hb) (h_ fun w' hb => hT.below hb) KA KG1 KGr
 ·have KG1 := KG true hg
  exact grp3_.1 p hp a n c w pa pn pc KA KG1
end Go.Proofs.YtcppnfkjklhhdaaGreatDoor.An
namespace Go.Proofs.YtcppnfkjklhhdaaGreatDoor.An
open Go.RowKit Mem Sc Ht
open Ar (Ent Ru entZ Ok Lp Up isP IsAn Row nm loc)
theorem qnq_ {F : Nat → Prop} {w w1 w2 : World} (k : Kp F w w1) (hb : Below w.heap.size w1 w2) : Kp F w w2 := ⟨hb.os.trans k.os, hb.tape.trans k.tape, hb.output.trans k.output, Nat.le_trans k.size hb.size, fun i hi hn => (hb.block i hi).trans (k.block i hi hn)⟩
theorem qys_ (w : World) (b : Nat) (cs : Array Value) : Kp (fun i => i = b) w (w.setRow b cs) := ⟨rfl, rfl, rfl, by rw [setRow_size]; exact Nat.le_refl _, fun k _ hn => setRow_other w b k _ hn⟩
theorem qlt_ (b : Nat) (r : Ru) (M : List Ent) (hM : Ok r M) (hl9 : M.length ≤ 900) (i : Nat) (e : Ent) (he : M[i]? = some e) (L : List Int) (hL : Row M (i : Int) L) (w : World)
  (KA : Hid (∀ (n : Nat) (e : Ent), M[n]? = some e → (enOf r e).ok ∧ ∀ w', Below w.heap.size w w' → Calls Tryz.prog 29 #[.pointer (some ⟨b, 0, none⟩), .int .i64 (n : Int)] w' fun x w'' => x = .returned (.tuple #[.agg (enA (enOf r e)), .bool true]) ∧ Below w'.heap.size w' w''))
  (KN : Hid (∀ (j t : Nat) (z : Int), isP M (j : Int) → Up M (j : Int) t z → ∀ w', Below w.heap.size w w' → Calls Tryz.prog 30 #[.pointer (some ⟨b, 0, none⟩), .int .i64 (j : Int), .int .i64 (t : Int)] w' fun x w'' => x = .returned (.int .i64 z) ∧ Below w'.heap.size w' w'')) :
  Calls Tryz.prog 10 #[.pointer (some ⟨b, 0, none⟩), .int .i64 (i : Int)] w fun x w' => ∃ v, x = .returned v ∧ NamesR w' v (loc r M L) ∧ Below w.heap.size w w' := by
 have hLl := hL.len hM he
 have hc := (hM.chain i e he).1
 have hi9 := (List.getElem?_eq_some_iff.1 he).1
 have HU := h_ (Up.self hM he)
 obtain ⟨hE, KA1⟩ := KA.out i e he
 have KA1 := h_ KA1
 obtain ⟨k, hk⟩ : ∃ k, k = e.hs.length := ⟨_, rfl⟩
 have hk9 : k ≤ 1099511627776 := by omega
 have KH := h_ fun w => qka_ k hk9 w
 have HLC : Hid (∀ (q x : Nat) (m : Int), (hts 0 k)[q]? = some x → L[x]? = some m → (loc r M L)[q]? = some (nm r M m)) := h_ fun q x m hx hm => by
  unfold loc
  rw [hLl, Nat.add_sub_cancel, ← hk, List.getElem?_map, hx, Option.map_some, List.getD_eq_getElem?_getD, hm]
  rfl
 have HLN : Hid ((loc r M L).length = (hts 0 k).length) := h_ (by rw [Ar.qjz_, hLl, Nat.add_sub_cancel, ← hk])
 have HLE := h_ (hts_le 0 k)
 have HLF : Hid (∀ (q x : Nat), (hts 0 k)[q]? = some x → ∀ y ∈ (hts 0 k).drop (q + 1), y ≤ x) := h_ fun q x hx y hy => by
  obtain ⟨t, ht⟩ := List.mem_iff_getElem?.1 hy
  rw [List.getElem?_drop] at ht
  obtain ⟨a1, a2⟩ := List.getElem?_eq_some_iff.1 hx
  obtain ⟨b1, b2⟩ := List.getElem?_eq_some_iff.1 ht
  have := List.pairwise_iff_getElem.1 (qmz_ 0 k) q (q + 1 + t) a1 b1 (by omega)
  omega
 obtain ⟨l, hl⟩ : ∃ l, l = hts 0 k := ⟨_, rfl⟩
 rw [← hl] at KH HLC HLN HLE HLF
 obtain ⟨E, hEe⟩ : ∃ E, E = enOf r e := ⟨_, rfl⟩
 have HT : Hid (E.ht = (k : Int)) := h_ (by rw [hEe, hk]; rfl)
 rw [← hEe] at hE KA1
 have HE0 : Hid (M[i]? = some e ∧ e.hs.length = k) := h_ ⟨he, hk.symm⟩
 have HL := h_ hL
 clear hl hLl hc hi9 hk hk9 hEe he hL
 have ze := qai_ hE
 have z0 := qai_ enZ_ok
 have hB := Below.refl w.heap.size w
 go_enter Tryz.func10, Tryz.ntmps10
 go_wp2_with fail
 refine (KA1.out _ hB).mono ?_
 rintro x v1 ⟨rfl, hb⟩
 replace hB := tb_ hB hb
 clear hb
 have hnew := qdg_ v1
 have hE1 := qjy_ v1 E
 have hb3 := qgq_ v1 76 Tryz.zeroCells76 (enA E)
 go_upto_region 2 with (with_reducible refine qbt_ rfl _ _ rfl _ _ E rfl rfl rfl ze hnew z0 ?_)
 generalize World.setRow _ _ _ = v2 at *
 obtain ⟨bX, hbX⟩ : ∃ x, x = v1.heap.size := ⟨_, rfl⟩
 rw [← hbX] at hE1 ⊢
 have HBX : Hid (w.heap.size ≤ bX) := h_ (by have := hB.size; omega)
 replace hB := tb_ hB hb3
 have c1 := EnAt.ht hE1 hE HT
 clear hb3 hnew hbX KA1
 go_wp2_with fail
 refine (KH.out _).mono ?_
 rintro x v3 ⟨v, rfl, hN, hb⟩
 have hE3 := hE1.on hb
 have hbx2 : bX < v2.heap.size := Has.lt hE1
 have HBX3 : Hid (bX < v3.heap.size) := h_ (by have := hb.size; omega)
 replace hB := tb_ hB hb
 obtain ⟨n, hn⟩ : ∃ n, n = l.length := ⟨_, rfl⟩
 have h60 := hN.2
 have hN1 := hN.1
 rw [← hn] at h60 hN1
 have HN := h_ hn
 obtain ⟨p, c, rfl, _⟩ := qcc_ hN1
 have HCL : Hid (∀ w', Kp (fun i => i = bX) v3 w' → ∀ (q x : Nat), l[q]? = some x → ∃ g, p = some ⟨g, 0, none⟩ ∧ w'.cell? ⟨g, q, none⟩ = some (.int .i64 (x : Int))) := h_ fun w' hk q x hx => by
  obtain ⟨g, c, e, hg, h⟩ := nat_at hN1 hx
  cases e
  exact ⟨g, rfl, (World.cell?_of_block (w := v3) (a := ⟨g, q, none⟩) (hk.block g (block_lt_of_cell h) (by omega))).trans h⟩
 have HB3 := h_ hB
 clear hN hN1 hb hE1 hB c1 hn KH
 have hK := Kp.refl (fun i => i = bX) v3
 have HD : Hid (M[i]? = some e ∧ E.ok ∧ Up M (i : Int) e.hs.length (i : Int) ∧ ∀ x ∈ l.drop 0, x ≤ e.hs.length) := h_ ⟨HE0.out.1, hE, HU.out, fun x hx => by rw [HE0.out.2]; exact HLE.out x hx⟩
 have hR0 : v3.ownsRow v3.heap.size 28 32 (.slice none 0 0) 0 (namesC ((loc r M L).take 0)) := by
  have := World.ownsRow_nil v3 v3.heap.size 28 32
  simpa [namesC] using this
 go_wp2_with fail
 go_loopw [1, 7, 22] (fun a u x wr => ∃ (q j : Nat) (d : Ent) (E : En), q ≤ n ∧ a = .int .i64 (j : Int) ∧ x = .int .i64 (q : Int) ∧ EnAt wr bX E ∧ Hid (M[j]? = some d ∧ E.ok ∧ Up M (i : Int) d.hs.length (j : Int) ∧ ∀ x ∈ l.drop q, x ≤ d.hs.length) ∧ wr.ownsRow v3.heap.size 28 32 u q (namesC ((loc r M L).take q)) ∧ Kp (fun i => i = bX) v3 wr) (fun _ _ x _ => n - (intOf x).toNat)
 case atStart => exact ⟨0, i, e, E, by omega, rfl, rfl, hE3, HD, hR0, hK⟩
 case round =>
  clear hE3 HD hR0 hK ze hE HT
  obtain ⟨q, j, d, E, hq, rfl, rfl, hE, HD, hR, hK⟩ := hrel
  have hB : Below w.heap.size w wr := HB3.out.trans (hK.below (fun i hi => by rw [hi]; exact HBX.out) HB3.out.size)
  obtain ⟨pO, cO, rfl, hcO⟩ := qcc_ hR
  by_cases hlt : q < n
  ·obtain ⟨x, hx⟩ : ∃ x, l[q]? = some x := ⟨_, List.getElem?_eq_getElem (by rw [← HN.out]; exact hlt)⟩
   have hxd : x ≤ d.hs.length := HD.out.2.2.2 x (by
    have := List.getElem?_drop (xs := l) (i := q) (j := 0)
    rw [Nat.add_zero, hx] at this
    exact List.mem_of_getElem? this)
   obtain ⟨g, eg, cl⟩ := HCL.out wr hK q x hx
   subst eg
   obtain ⟨z, hz⟩ := Up.there hM HD.out.1 hxd
   obtain ⟨m, d2, rfl, hd2, hd2l⟩ := hz.place hM
   have KN1 := h_ (KN.out j x (m : Int) (Ar.isP_of HD.out.1) hz)
   obtain ⟨hE2, KA2⟩ := KA.out m d2 hd2
   have KA2 := h_ KA2
   have hup := HD.out.2.2.1.trans hz
   have HID : Hid ((loc r M L)[q]? = some (enOf r d2).id) := h_ (by
    obtain ⟨K, k1, k2⟩ := hup
    rw [k1.det HL.out] at k2
    rw [HLC.out q x (m : Int) hx k2, Ar.nm_at hd2]
    rfl)
   have HD2 : Hid (M[m]? = some d2 ∧ (enOf r d2).ok ∧ Up M (i : Int) d2.hs.length (m : Int) ∧ ∀ y ∈ l.drop (q + 1), y ≤ d2.hs.length) := h_ ⟨hd2, hE2, by rw [hd2l]; exact hup, fun y hy => by rw [hd2l]; exact HLF.out q x hx y hy⟩
   have ze := qai_ HD.out.2.1
   clear HD hxd hz hup hd2l
   generalize enOf r d2 = E2 at *
   have z2 := qai_ hE2
   have l32 := hE2.2
   go_wp2_with fail
   refine (KN1.out _ hB).mono ?_
   rintro x v4 ⟨rfl, hb⟩
   replace hE := hE.on hb
   replace hK := qnq_ hK (hb.mono hK.size)
   have hR4 := qef_ hR hb (Nat.le_refl _)
   replace hB := tb_ hB hb
   clear hb cl KN1 hR
   go_wp2_with fail
   refine (KA2.out _ hB).mono ?_
   rintro x v5 ⟨rfl, hb⟩
   replace hE := hE.on hb
   replace hK := qnq_ hK (hb.mono hK.size)
   have hR5 := qef_ hR4 hb (Nat.le_refl _)
   clear hb KA2 hR4 hB
   go_upto_region 10 with (with_reducible refine qbt_ rfl _ _ rfl _ _ E2 rfl rfl rfl z2 hE ze ?_)
   have hE6 : EnAt (v5.setRow bX (enA E2)) bX E2 := Has.row hE (enA E2)
   replace hK := hK.trans (qys_ v5 bX (enA E2)) (fun i hi _ => hi)
   have hR6 : (v5.setRow bX (enA E2)).ownsRow v3.heap.size 28 32 (.slice pO q cO) q (namesC ((loc r M L).take q)) := kp_row hR5 (qys_ v5 bX (enA E2)) fun i hi hh => by
    have := (qno_ hR5 i hi).1
    have := HBX3.out
    omega
   generalize World.setRow _ _ _ = v6 at *
   have hid := hE6.idr HD2.out.2.1
   have hb7 : Below v6.heap.size v6 (v6.alloc (.cells (bytesV E2.id) 28)) := (Below.refl _ _).alloc (Nat.le_refl _) _
   have hN7 : (v6.alloc (.cells (bytesV E2.id) 28)).rangeAt v6.heap.size 0 (Lib.byteCells E2.id) := qli_ (Has.new _ _)
   have hR7 := qef_ hR6 hb7 (Nat.le_refl _)
   have hE7 := hE6.on hb7
   have hK7 := qnq_ hK (hb7.mono hK.size)
   have hs7 := hK7.size
   have hq9 : q ≤ 1000 := by omega
   have hbs := qe_ l32
   have hbv := qfw_ l32
   clear hE hR5 hE6 hR6 hb7 hK ze z2 hE2
   go_wp2_with (first
    | (with_reducible refine qx_ rfl _ rfl bX 68 rfl E2.id hid hbs ?_)
    | (with_reducible refine qaal_ rfl _ rfl (bytesV E2.id) rfl hbv ?_)
    | ((with_reducible refine qadj_ rfl _ _ rfl v3.heap.size (.slice pO q cO) q _ rfl hR7 v6.heap.size E2.id l32 rfl hN7 hq9 hs7 ?_); intro v' v8 hR8 hb8; obtain ⟨p8, c8, rfl, hc8⟩ := qcc_ hR8))
   have hE8 : EnAt v8 bX E2 := (hb8.block bX HBX3.out).trans hE7
   have hK8 := qnq_ hK7 hb8
   rw [← qtg_ HID.out] at hR8
   clear hE7 hK7 hb8 hR7 hN7 hid hs7
   go_roundw
   case rel => exact ⟨q + 1, m, d2, E2, by omega, rfl, by go_num, hE8, HD2, hR8, hK8⟩
   case measure => simp [intOf]; omega
  ·obtain rfl : q = n := by omega
   have HR := h_ hR
   clear hR
   go_wp2_with fail
   go_ret
   have hR := HR.out
   rw [List.take_of_length_le (by rw [HLN.out, HN.out]; exact Nat.le_refl _)] at hR
   have e : (loc r M L).length = q := by rw [HLN.out, HN.out]
   rw [← e] at hR ⊢
   exact ⟨_, rfl, qxd_ hR Ar.loc_32, hB⟩
section
variable {w : World} {F : Nat → Prop} {b : Nat} {r : Ru} {M : List Ent} {ls : List Int}
theorem TrS.ka (h : TrS w F b r M ls) : ∀ (n : Nat) (e : Ent), M[n]? = some e → (enOf r e).ok ∧ ∀ w', Below w.heap.size w w' → Calls Tryz.prog 29 #[.pointer (some ⟨b, 0, none⟩), .int .i64 (n : Int)] w' fun x w'' => x = .returned (.tuple #[.agg (enA (enOf r e)), .bool true]) ∧ Below w'.heap.size w' w'' := fun n e he => by
 obtain ⟨Fa, ab, _, k2⟩ := h.parts
 exact ⟨qhm_ k2 he, fun _ hb => tat_at (h.below hb) he _ rfl⟩
theorem TrS.kn (h : TrS w F b r M ls) (hM : Ok r M) (hl9 : M.length ≤ 900) (hl : ls.length = M.length) : ∀ (j t : Nat) (z : Int), isP M (j : Int) → Up M (j : Int) t z → ∀ w', Below w.heap.size w w' → Calls Tryz.prog 30 #[.pointer (some ⟨b, 0, none⟩), .int .i64 (j : Int), .int .i64 (t : Int)] w' fun x w'' => x = .returned (.int .i64 z) ∧ Below w'.heap.size w' w'' := fun j t z hj hz w' hb =>
 qer_ (h.below hb) hM hl9 j t z (fun hq => by rw [hl]; exact hq.2) (.inl ⟨hj, by omega, by rw [Int.toNat_natCast]; exact hz⟩)
theorem qti_ (h : TrS w F b r M ls) (hM : Ok r M) (hl9 : M.length ≤ 900) (hl : ls.length = M.length) (i : Nat) (e : Ent) (he : M[i]? = some e) (L : List Int) (hL : Row M (i : Int) L) :
  Calls Tryz.prog 10 #[.pointer (some ⟨b, 0, none⟩), .int .i64 (i : Int)] w fun x w' => ∃ v, x = .returned v ∧ NamesR w' v (loc r M L) ∧ Below w.heap.size w w' :=
 qlt_ b r M hM hl9 i e he L hL w (h_ h.ka) (h_ (h.kn hM hl9 hl))
end
end Go.Proofs.YtcppnfkjklhhdaaGreatDoor.An
namespace Go.Proofs.YtcppnfkjklhhdaaGreatDoor.An
open Go.RowKit Mem Sc Ht
open Ar (Ent Ru entZ Ok Row Anc isP loc nm)
theorem loc_at {r : Ru} {M : List Ent} (hM : Ok r M) {j : Nat} {e : Ent} (he : M[j]? = some e) {L : List Int} (hL : Row M (j : Int) L) {k : Nat} {x : List UInt8} (hx : (loc r M L)[k]? = some x) : ∃ (h : Nat) (z : Int), (hts 0 (L.length - 1))[k]? = some h ∧ L[h]? = some z ∧ plc (Ar.fnd r.g M x) = z := by
 unfold loc at hx
 rw [List.getElem?_map] at hx
 cases hh : (hts 0 (L.length - 1))[k]? with
 | none => rw [hh] at hx; cases hx
 | some h =>
  rw [hh, Option.map_some] at hx
  have h1 := hts_le 0 (L.length - 1) h (List.mem_of_getElem? hh)
  have h2 := hL.last.1
  have h3 : L[h]? = some (L[h]'(by omega)) := List.getElem?_eq_getElem _
  generalize L[h]'(by omega) = z at h3
  refine ⟨h, z, rfl, h3, ?_⟩
  obtain ⟨m, d, rfl, hd, _⟩ := Ar.row_h hM he hL h3
  have h4 := Option.some.inj hx
  rw [List.getD_eq_getElem?_getD, h3] at h4
  rw [← h4]
  show plc (Ar.fnd r.g M (nm r M (m : Int))) = _
  rw [Ar.nm_at hd, Ar.fnd_at hM hd]
  rfl
theorem qadl_ {r : Ru} {M : List Ent} (hM : Ok r M) {j : Nat} {e : Ent} (he : M[j]? = some e) {L : List Int} (hL : Row M (j : Int) L) {k : Nat} {x y : List UInt8} (hx : (loc r M L)[k]? = some x) (hy : (loc r M L)[k + 1]? = some y) :
  (plc (Ar.fnd r.g M y) == plc (Ar.fnd r.g M x)) = false ∧ Anc M (plc (Ar.fnd r.g M y)) (plc (Ar.fnd r.g M x)) := by
 obtain ⟨h, z, a1, a2, a3⟩ := loc_at hM he hL hx
 obtain ⟨h', z', b1, b2, b3⟩ := loc_at hM he hL hy
 have hd := qaax_ 0 (L.length - 1) k h h' a1 b1
 rw [a3, b3]
 obtain ⟨u1, u2⟩ := List.getElem?_eq_some_iff.1 a2
 obtain ⟨v1, v2⟩ := List.getElem?_eq_some_iff.1 b2
 have hlt := List.pairwise_iff_getElem.1 (hL.up hM).1 h' h v1 u1 hd
 refine ⟨by rw [beq_eq_false_iff_ne]; omega, _, hL.take a2, ?_⟩
 refine List.mem_of_getElem? (i := h') ?_
 rw [List.getElem?_take_of_lt (by omega)]
 exact b2
structure RowQ (v3 : World) (bt g1 : Nat) (i : Nat) (ids : List (List UInt8)) (nn : Nat) (id0 : List UInt8) : Prop where
 len : ids.length = nn
 pos : 0 < nn
 few : nn ≤ 32
 l32 : ∀ x ∈ ids, x.length = 32
 fst : ids[0]? = some id0
 lo : ∀ w', Below v3.heap.size v3 w' → Calls Tryz.prog 10 #[.pointer (some ⟨bt, 0, none⟩), .int .i64 (i : Int)] w' fun x w'' => ∃ v, x = .returned v ∧ NamesR w'' v ids ∧ Below w'.heap.size w' w''
 own : ∀ w', Below v3.heap.size v3 w' → w'.rangeAt g1 (i * 32) (Lib.byteCells id0)
 step : ∀ (k : Nat) (x y : List UInt8), ids[k]? = some x → ids[k + 1]? = some y → ∃ zx zy : Int, (∀ w', Below v3.heap.size v3 w' → Calls Tryz.prog 21 #[.pointer (some ⟨bt, 0, none⟩), .agg (bytesV x)] w' fun e w'' => e = .returned (.int .i64 zx) ∧ Below w'.heap.size w' w'') ∧ (∀ w', Below v3.heap.size v3 w' → Calls Tryz.prog 21 #[.pointer (some ⟨bt, 0, none⟩), .agg (bytesV y)] w' fun e w'' => e = .returned (.int .i64 zy) ∧ Below w'.heap.size w' w'') ∧ (zy == zx) = false ∧ ∀ w', Below v3.heap.size v3 w' → Calls Tryz.prog 22 #[.pointer (some ⟨bt, 0, none⟩), .int .i64 zy, .int .i64 zx] w' fun e w'' => e = .returned (.bool true) ∧ Below w'.heap.size w' w''
theorem rowq_of {v3 : World} {bt bm g1 c1 : Nat} {F : Nat → Prop} {r : Ru} {M : List Ent} {lp : List Int} (hS : TrS v3 F bt r M lp) (hI : IdsAt v3 bm g1 c1 M.length r M) (hlp : lp.length = M.length) (hM : Ok r M) (hl : M.length ≤ 41) (i : Nat) (hi : i < M.length) : ∃ ids nn id0, RowQ v3 bt g1 i ids nn id0 := by
 obtain ⟨e, he⟩ : ∃ e, M[i]? = some e := ⟨_, List.getElem?_eq_getElem hi⟩
 obtain ⟨L, hL, hLl⟩ := hM.row he
 have hc := (hM.chain i e he).1
 have hln := Ar.qjz_ r M L
 refine ⟨loc r M L, (loc r M L).length, (e.h r.g).id, rfl, by rw [hln]; exact hts_pos _ _, by rw [hln]; exact hts_few _ (by omega), Ar.loc_32, ?_, fun w' hb => qti_ (hS.below hb) hM (by omega) hlp i e he L hL, fun w' hb => (hI.below hb).2 i e he, fun k x y hx hy => ?_⟩
 ·rw [Ar.qxa_ r hL, Ar.nm_at he]
 ·obtain ⟨h1, h2⟩ := qadl_ hM he hL hx hy
  exact ⟨_, _, fun w' hb => qlr_ (hS.below hb) x (Ar.loc_32 x (List.mem_of_getElem? hx)), fun w' hb => qlr_ (hS.below hb) y (Ar.loc_32 y (List.mem_of_getElem? hy)), h1, fun w' hb => qww_ (hS.below hb) hM (by omega) hlp _ _ true ⟨fun _ => h2, fun _ => rfl⟩⟩
theorem qxe_ (p : NN.Pr) (hp : p.ok) (a : Option Addr) (n c : Nat) (w : World) (KA : HK_ w 7 #[] (.bool true)) (KG : HK_ w 8 #[.agg (NN.prA p), .slice a n c] (.bool true)) :
  Ca_ 6 #[.agg (NN.prA p), .slice a n c] w (.bool true) := by
 have hz := NN.qaq_ hp
 go_enter Tryz.func6, Tryz.ntmps6
 go_upto_region 1 with fail
 generalize hw0 : World.alloc _ _ = v0
 have hB : Below w.heap.size w v0 := bl_ hw0
 have hP : NN.PrAt v0 w.heap.size p := by rw [← hw0]; exact NN.Has.new _ _
 clear hw0
 obtain ⟨bP, hbP⟩ : ∃ x, x = w.heap.size := ⟨_, rfl⟩
 rw [← hbP] at hP ⊢
 have HBP : Hid (bP = w.heap.size) := h_ hbP
 clear hbP
 go_wp2_with (first | fail)
 refine (KA.out _ hB).mono ?_
 rintro e v1 ⟨rfl, hb⟩
 replace hP := hP.on hb
 replace hB := tb_ hB hb
 clear hb
 go_wp2_with (with_reducible first | refine NN.qn_ rfl _ rfl _ rfl hP hz ?_ | refine NN.qk_ (by with_unfolding_all rfl) _ rfl _ rfl hP hz ?_)
 refine (KG.out _ hB).mono ?_
 rintro e v2 ⟨rfl, hb⟩
 replace hP := hP.on hb
 replace hB := tb_ hB hb
 clear hb
 go_wp2_with fail
 go_ret
 exact ⟨rfl, hB⟩
set_option maxHeartbeats 8000000 in
theorem qadm_ (p : NN.Pr) (hp : p.ok) (r : Ru) (a : Option Addr) (n c : Nat) (w : World) (KA : HK_ w 7 #[] (.bool true)) (KG : HK_ w 8 #[.agg (NN.prA p), .slice a n c] (.bool false)) (KGr : Hid (∀ w', Below w.heap.size w w' → Calls Tryz.prog 9 #[.agg (NN.prA p), .slice a n c] w' fun e w'' => ∃ bt bm, e = .returned (.tuple #[.pointer (some ⟨bt, 0, none⟩), .pointer (some ⟨bm, 0, none⟩)]) ∧ GrownP w' w'' r 41 bt bm ∧ Below w'.heap.size w' w'')) :
  Ca_ 6 #[.agg (NN.prA p), .slice a n c] w (.bool true) := by
 have hz := NN.qaq_ hp
 go_enter Tryz.func6, Tryz.ntmps6
 go_upto_region 1 with fail
 generalize hw0 : World.alloc _ _ = v0
 have hB : Below w.heap.size w v0 := bl_ hw0
 have hP : NN.PrAt v0 w.heap.size p := by rw [← hw0]; exact NN.Has.new _ _
 clear hw0
 obtain ⟨bP, hbP⟩ : ∃ x, x = w.heap.size := ⟨_, rfl⟩
 rw [← hbP] at hP ⊢
 have HBP : Hid (bP = w.heap.size) := h_ hbP
 clear hbP
 go_wp2_with (first | fail)
 refine (KA.out _ hB).mono ?_
 rintro e v1 ⟨rfl, hb⟩
 replace hP := hP.on hb
 replace hB := tb_ hB hb
 clear hb
 go_wp2_with (with_reducible first | refine NN.qn_ rfl _ rfl _ rfl hP hz ?_ | refine NN.qk_ (by with_unfolding_all rfl) _ rfl _ rfl hP hz ?_)
 refine (KG.out _ hB).mono ?_
 rintro e v2 ⟨rfl, hb⟩
 replace hP := hP.on hb
 replace hB := tb_ hB hb
 clear hb
 go_wp2_with (first | fail | (with_reducible refine NN.qn_ rfl _ rfl _ rfl hP hz ?_))
 refine (KGr.out _ hB).mono ?_
 rintro e v3 ⟨bt, bm, rfl, hGr, hb⟩
 replace hB := tb_ hB hb
 clear hb KGr
 obtain ⟨F, Fm, M, lp, hS, hR, hlp, hM, hl⟩ := hGr
 obtain ⟨ah, ch, c83⟩ := hR.list
 obtain ⟨g1, c1, hI⟩ := hR.ids hM
 have KI : Hid (∀ i, i < M.length → ∃ ids nn id0, RowQ v3 bt g1 i ids nn id0) := h_ fun i hi => rowq_of hS hI hlp hM hl i hi
 have HI := h_ fun (w' : World) (hb : Below v3.heap.size v3 w') => (hI.below hb).1
 have HB0 := h_ hB
 have hb := Below.refl v3.heap.size v3
 clear hS hR hM hlp hP hB hI
 generalize M.length = m at *
 go_wp2_with fail
 clear c83
 go_loopw [28] (fun u wr => ∃ i : Nat, i ≤ m ∧ u = .int .i64 (i : Int) ∧ Below v3.heap.size v3 wr) (fun u _ => m - (intOf u).toNat)
 case atStart => exact ⟨0, by omega, rfl, hb⟩
 case round =>
  clear hb
  obtain ⟨i, hi, rfl, hb⟩ := hrel
  by_cases hlt : i < m
  ·obtain ⟨ids, nn, id0, hK⟩ := KI.out i hlt
   have HK := h_ hK
   have hpos := hK.pos
   have h32 := hK.few
   have l0 := hK.l32 id0 (List.mem_of_getElem? hK.fst)
   have HLN := h_ hK.len
   clear hK
   go_wp2_with fail
   refine (HK.out.lo _ hb).mono ?_
   rintro e v5 ⟨v, rfl, ⟨pa, pc, rfl, hpc, hN⟩, hb9⟩
   replace hb := tb_ hb hb9
   clear hb9
   rw [HLN.out] at hpc ⊢
   obtain ⟨ab, ao, rfl, habl, hc⟩ := hN (by rw [HLN.out]; exact hpos)
   have HN : Hid (∀ (k : Nat) (x : List UInt8), ids[k]? = some x → v5.rangeAt ab (ao + k * 32) (Lib.byteCells x)) := h_ fun k x hx => by
    obtain ⟨u1, u2⟩ := List.getElem?_eq_some_iff.1 hx
    have := (hc k u1).2
    rwa [u2] at this
   have r0 := HN.out 0 id0 HK.out.fst
   rw [Nat.zero_mul, Nat.add_zero] at r0
   have ri := HK.out.own v5 hb
   have c84 := HI.out v5 hb
   have b0 := qe_ l0
   have q84 : ∀ d os, (Sort.grow (redrawn v5 d) os).cell? ⟨bm, 84, none⟩ = some (.slice (some ⟨g1, 0, none⟩) m c1) := cell_regrown c84
   have q1 : ∀ w', (∃ r : Regrown, w' = Sort.grow (redrawn v5 r.d) r.os) → w'.rangeAt ab ao (Lib.byteCells id0) := fun w' hw' => qag_ r0 (qt_ w' hw') (by rw [b0]; decide)
   have q2 : ∀ w', (∃ r : Regrown, w' = Sort.grow (redrawn v5 r.d) r.os) → w'.rangeAt g1 (i * 32) (Lib.byteCells id0) := fun w' hw' => qag_ ri (qt_ w' hw') (by rw [b0]; decide)
   have hne := hn_neq id0 id0 l0 l0 false (by simp)
   have t1 : decide ((nn : Int) < 1) = false := decide_eq_false (by omega)
   have t2 : decide ((32 : Int) < (nn : Int)) = false := decide_eq_false (by omega)
   clear hc hN r0 ri c84
   go_wp2_with fail
   refine wp_region_quiet_below (by kernel_rfl) (by kernel_rfl) ?_
   repeat (first
    | (go_big_quiet_want; (with_reducible first | refine qao_ _ rfl ab ao rfl id0 b0 q1 ?_ | refine qao_ _ rfl g1 (i * 32) rfl id0 b0 q2 ?_ | refine qdz_ _ _ _ rfl (bytesV id0) (bytesV id0) (.bool false) rfl rfl hne ?_); (simp only [Act.put, List.setIfInBounds_toArray, List.set_cons_zero, List.set_cons_succ]); go_big_quiet_on)
    | go_big_quiet_step (fail))
   refine wpQuiet_nil ?_
   intro v7 hw'
   have hb57 := qt_ v7 hw'
   replace hb := tb_ hb hb57
   have HN7 := h_ fun (w' : World) (hb' : Below v7.heap.size v7 w') (k : Nat) (x : List UInt8) (hx : ids[k]? = some x) => qag_ (HN.out k x hx) (tb_ hb57 hb') (by rw [qe_ (HK.out.l32 x (List.mem_of_getElem? hx))]; decide)
   have HB7 := h_ hb
   have hb7 := Below.refl v7.heap.size v7
   clear hw' hb57 q84 q1 q2 hne t1 t2 HN hb
   go_wp2_with fail
   go_loopw [9] (fun u wr => ∃ k : Nat, 1 ≤ k ∧ k ≤ nn ∧ u = .int .i64 (k : Int) ∧ Below v7.heap.size v7 wr) (fun u _ => nn - (intOf u).toNat)
   case atStart => exact ⟨1, by omega, by omega, rfl, hb7⟩
   case round =>
    clear hb7
    obtain ⟨k, hk1, hk, rfl, hb7⟩ := hrel
    have hb : Below v3.heap.size v3 wr := tb_ HB7.out hb7
    by_cases hlt2 : k < nn
    ·obtain ⟨q, hq⟩ : ∃ q, q = k - 1 := ⟨_, rfl⟩
     have hqk : k = q + 1 := by omega
     have hqn : q < nn := by omega
     have hw1 : IntKind.i64.wrap ((k : Int) - 1) = (q : Int) := by rw [IntKind.wrap_i64]; omega
     obtain ⟨x, hx⟩ : ∃ x, ids[q]? = some x := ⟨_, List.getElem?_eq_getElem (by rw [HLN.out]; omega)⟩
     obtain ⟨y, hy⟩ : ∃ y, ids[k]? = some y := ⟨_, List.getElem?_eq_getElem (by rw [HLN.out]; omega)⟩
     obtain ⟨zx, zy, KX, KY, tz, KW⟩ := HK.out.step q x y hx (by rw [← hqk]; exact hy)
     have KX := h_ KX
     have KY := h_ KY
     have KW := h_ KW
     have b1 := qe_ (HK.out.l32 x (List.mem_of_getElem? hx))
     have b2 := qe_ (HK.out.l32 y (List.mem_of_getElem? hy))
     have q1 : ∀ w', (∃ r : Regrown, w' = Sort.grow (redrawn wr r.d) r.os) → w'.rangeAt ab (ao + q * 32) (Lib.byteCells x) := fun w' hw' => HN7.out w' (hb7.trans ((qt_ w' hw').mono hb7.size)) q x hx
     have q2 : ∀ w', (∃ r : Regrown, w' = Sort.grow (redrawn wr r.d) r.os) → w'.rangeAt ab (ao + k * 32) (Lib.byteCells y) := fun w' hw' => HN7.out w' (hb7.trans ((qt_ w' hw').mono hb7.size)) k y hy
     have hRg : ∀ d os, Below v3.heap.size v3 (Sort.grow (redrawn wr d) os) := fun d os => hb.trans ((below_regrown wr d os).mono hb.size)
     clear hq hqk hx hy
     go_wp2_with fail
     refine wp_region_quiet_below (by kernel_rfl) (by kernel_rfl) ?_
     repeat (first
      | (go_big_quiet_want; (with_reducible first | refine qao_ _ rfl ab (ao + q * 32) rfl x b1 q1 ?_ | refine qao_ _ rfl ab (ao + k * 32) rfl y b2 q2 ?_); (simp only [Act.put, List.setIfInBounds_toArray, List.set_cons_zero, List.set_cons_succ]); go_big_quiet_on)
      | go_big_quiet_step ((go_at_call 21; with_reducible exact Calls.regrown_of (KX.out _ (hRg _ _))))
      | go_big_quiet_step ((go_at_call 21; with_reducible exact Calls.regrown_of (KY.out _ (hRg _ _)))))
     refine wpQuiet_nil ?_
     intro v9 hw'
     have hb9 := qt_ v9 hw'
     replace hb7 := tb_ hb7 hb9
     replace hb := tb_ hb hb9
     clear hw' hb9 q1 q2 hRg KX KY
     go_wp2_with fail
     refine (KW.out _ hb).mono ?_
     rintro e v10 ⟨rfl, hb9⟩
     replace hb7 := tb_ hb7 hb9
     clear hb9 KW hb
     go_wp2_with fail
     go_roundw
     case rel => exact ⟨k + 1, by omega, by omega, by go_num, hb7⟩
     case measure => simp [intOf]; omega
    ·obtain rfl : k = nn := by omega
     go_wp2_with fail
     go_roundw
     case rel => exact ⟨i + 1, by omega, by go_num, hb⟩
     case measure => simp [intOf]; omega
  ·obtain rfl : i = m := by omega
   go_wp2_with fail
   go_ret
   exact ⟨rfl, tb_ HB0.out hb⟩
theorem qadn_ (p : NN.Pr) (hp : p.ok) (h1 : p.one) (t : Tl) (tt : p.tl = t.C) (ht : t.ok) (gs : List Gt) (cs : List Ck) (hgn : t.gn = gs.length) (hcn : t.cn = cs.length) (a : Option Addr) (ls : List Cm) (n c : Nat) (hn : n = ls.length) (hl : n ≤ 4611686018427387904) (hnow : ∀ x ∈ ls, -9223372036854775808 ≤ x.now ∧ x.now ≤ 9223372036854775807) (w : World) (hT : Tab w) (hA : ComesAt w a ls) (hG : GatesAt w t.ga gs) (hC : ChecksAt w t.ca cs) :
  Ca_ 6 #[.agg (NN.prA p), .slice a n c] w (.bool true) := by
 have KA : HK_ w 7 #[] (.bool true) := h_ fun w' _ => alive14 w'
 have KG : ∀ g, grt13 p t gs cs ls = g → HK_ w 8 #[.agg (NN.prA p), .slice a n c] (.bool g) := fun g hg => h_ fun w' hb => qte_ p hp t tt ht gs cs hgn hcn ls n a c hn hl g hg w' (hA.below hb) (hG.below hb) (hC.below hb)
 cases hg : grt13 p t gs cs ls
 ·have KG1 := KG false hg
  have KGr : Hid (∀ w', Below w.heap.size w w' → Calls Tryz.prog 9 #[.agg (NN.prA p), .slice a n c] w' fun e w'' => ∃ bt bm, e = .returned (.tuple #[.pointer (some ⟨bt, 0, none⟩), .pointer (some ⟨bm, 0, none⟩)]) ∧ GrownP w' w'' ⟨p, t.g, gs, cs, 100⟩ 41 bt bm ∧ Below w'.heap.size w' w'') := h_ fun w' hb => qkb_ p hp h1 t tt ht gs cs hgn hcn a ls n c hn hnow hg w' (hT.below hb) (hA.below hb) (hG.below hb) (hC.below hb)
  exact qadm_ p hp ⟨p, t.g, gs, cs, 100⟩ a n c w KA KG1 KGr
 ·have KG1 := KG true hg
  exact qxe_ p hp a n c w KA KG1
end Go.Proofs.YtcppnfkjklhhdaaGreatDoor.An
