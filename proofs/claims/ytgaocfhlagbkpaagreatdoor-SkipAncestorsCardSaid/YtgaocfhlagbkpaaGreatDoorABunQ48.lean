import Derived.Test.YtgaocfhlagbkpaaGreatDoorAIdm
import Derived.Test.YtgaocfhlagbkpaaGreatDoorABunQ39
import Derived.Laws.OwnMore
set_option maxRecDepth 100000
set_option maxHeartbeats 4000000
namespace Go.Proofs.YtgaocfhlagbkpaaGreatDoor.An
open Go.RowKit Mem Sc
open Ar (Ent Ru entZ Ok Up isP Row)
set_option maxRecDepth 100000
theorem qwu_ : (Tryz.prog.info? 3).map (fun i => (i.zero, i.size, i.bytes)) = some (some (.int .i64 0), 1, 8) := by kernel_rfl
theorem qwv_ (n : Nat) (hn : n ≤ 1000) (w : World) : (Instr.makeSlice 43 (.int .i64 (n : Int)) (.int .i64 (n : Int))).run Tryz.prog w = .ok (.slice (some ⟨w.heap.size, 0, none⟩) n n) (w.alloc (.cells (madeCells #[.int .i64 0] n) 3)) :=
 run_make_row' 43 3 (.int .i64 0) 8 Tryz.underlying43 qwu_ rfl .i64 .i64 n (by omega) (by omega) w
def pathC (L : List Int) (n i : Nat) : List Value := List.replicate (n - i) (.int .i64 0) ++ (L.drop (n + 1 - i)).map (Value.int .i64)
theorem qom_ {L : List Int} {n : Nat} (h : L.length = n + 1) : (madeCells #[.int .i64 0] n) = (pathC L n 0).toArray := by
 rw [← Array.toArray_toList (xs := madeCells #[.int .i64 0] n), toList_madeCells_one]
 unfold pathC
 rw [Nat.sub_zero, Nat.sub_zero, List.drop_eq_nil_of_le (by omega)]
 simp
theorem qsw_ {L : List Int} {n i : Nat} {x : Int} (hi : i < n) (hx : L[n - i]? = some x) : (pathC L n i).toArray.setIfInBounds (n - 1 - i) (.int .i64 x) = (pathC L n (i + 1)).toArray := by
 unfold pathC
 obtain ⟨m, hm⟩ : ∃ m, n - 1 - i = m := ⟨_, rfl⟩
 have e1 : n - i = m + 1 := by omega
 have e2 : n - (i + 1) = m := by omega
 have e3 : n + 1 - (i + 1) = m + 1 := by omega
 have e4 : n + 1 - i = m + 1 + 1 := by omega
 rw [hm, e1, e2, e3, e4]
 rw [e1] at hx
 obtain ⟨h1, h2⟩ := List.getElem?_eq_some_iff.1 hx
 rw [List.drop_eq_getElem_cons h1, h2, List.replicate_succ', List.setIfInBounds_toArray, List.append_assoc, List.set_append_right _ _ (by simp)]
 simp
theorem qww_ (L : List Int) (n : Nat) : pathC L n n = (L.drop 1).map (Value.int .i64) := by
 unfold pathC
 rw [Nat.sub_self, show n + 1 - n = 1 by omega]
 rfl
theorem qsx_ (L : List Int) (n i : Nat) (h : L.length = n + 1) (hi : i ≤ n) : (pathC L n i).length = n := by
 unfold pathC
 simp
 omega
theorem path_no (tp : Value) (k : Int) (E : En) (hE : E.ok) (w : World) (KA : Hid (∀ w', Below w.heap.size w w' → Calls Tryz.prog 26 #[tp, .int .i64 k] w' fun x w'' => x = .returned (.tuple #[.agg (enA E), .bool false]) ∧ Below w'.heap.size w' w'')) :
  Calls Tryz.prog 14 #[tp, .int .i64 k] w fun x w' => x = .returned (.slice none 0 0) ∧ Below w.heap.size w w' := by
 have ze := qz_ hE
 have z0 := qz_ enZ_ok
 have hB := Below.refl w.heap.size w
 go_enter Tryz.func14, Tryz.ntmps14
 go_wp2_with fail
 refine (KA.out _ hB).mono ?_
 rintro x v1 ⟨rfl, hb⟩
 replace hB := tb_ hB hb
 clear hb
 have hnew := qcc_ v1
 have hb3 := qcr_ v1 68 Tryz.zeroCells68 (enA E)
 go_upto_region 2 with (with_reducible refine qbi_ rfl _ _ rfl _ _ E rfl rfl rfl ze hnew z0 ?_)
 generalize World.setRow _ _ _ = v2 at *
 replace hB := tb_ hB hb3
 clear hb3 hnew
 go_wp2_with fail
 go_ret
 exact ⟨rfl, hB⟩
theorem qwx_ (tp : Value) (r : Ru) (M : List Ent) (hM : Ok r M) (j : Nat) (e : Ent) (he : M[j]? = some e) (n : Nat) (hn : n = e.hs.length) (h9 : n ≤ 1000) (hE : (enOf r e).ok) (L : List Int) (hL : Row M (j : Int) L) (w : World)
  (KA : Hid (∀ w', Below w.heap.size w w' → Calls Tryz.prog 26 #[tp, .int .i64 (j : Int)] w' fun x w'' => x = .returned (.tuple #[.agg (enA (enOf r e)), .bool true]) ∧ Below w'.heap.size w' w''))
  (KU : ∀ (n : Nat) (e : Ent), M[n]? = some e → Hid (∀ w', Below w.heap.size w w' → Calls Tryz.prog 40 #[tp, .int .i64 (n : Int)] w' fun x w'' => x = .returned (.int .i64 e.up) ∧ Below w'.heap.size w' w'')) :
  Calls Tryz.prog 14 #[tp, .int .i64 (j : Int)] w fun x w' => ∃ g, x = .returned (.slice (some ⟨g, 0, none⟩) n n) ∧ w.heap.size ≤ g ∧ Has w' g ((L.drop 1).map (Value.int .i64)).toArray 3 ∧ Below w.heap.size w w' := by
 have hLn : L.length = n + 1 := by rw [hn]; exact hL.len hM he
 have HLN := h_ hLn
 have HL0 : Hid (L[n]? = some (j : Int)) := h_ (by have := hL.last.2; rwa [hLn, Nat.add_sub_cancel] at this)
 have HE : Hid ((enOf r e).ht = (n : Int)) := h_ (by rw [hn]; rfl)
 have HLR := h_ hL
 clear hLn hL hn he
 generalize enOf r e = E at *
 clear e
 have ze := qz_ hE
 have z0 := qz_ enZ_ok
 have hB := Below.refl w.heap.size w
 obtain ⟨e1, he1⟩ : ∃ e1 : Int, e1 = (n : Int) - 1 := ⟨_, rfl⟩
 have hw1 : IntKind.i64.wrap ((n : Int) - 1) = e1 := by rw [IntKind.wrap_i64]; omega
 have HE1 := h_ he1
 clear he1
 go_enter Tryz.func14, Tryz.ntmps14
 go_wp2_with fail
 refine (KA.out _ hB).mono ?_
 rintro x v1 ⟨rfl, hb⟩
 replace hB := tb_ hB hb
 clear hb
 have hnew := qcc_ v1
 have hX := qhk_ v1 E
 have hb3 := qcr_ v1 68 Tryz.zeroCells68 (enA E)
 go_upto_region 2 with (with_reducible refine qbi_ rfl _ _ rfl _ _ E rfl rfl rfl ze hnew z0 ?_)
 generalize World.setRow _ _ _ = v2 at *
 replace hB := tb_ hB hb3
 have c1 := EnAt.ht hX hE HE
 clear hb3 hnew KA
 have hmk := fun w => qwv_ n h9 w
 go_upto_region 5 with fail
 generalize hw3 : World.alloc _ _ = v3
 have hB3 : Below w.heap.size w v3 := by rw [← hw3]; exact hB.alloc hB.size _
 have hG : Has v3 v2.heap.size (pathC L n 0).toArray 3 := by rw [← hw3, qom_ HLN.out]; exact Has.new _ _
 obtain ⟨g, hg⟩ : ∃ g, g = v2.heap.size := ⟨_, rfl⟩
 rw [← hg] at hG ⊢
 have HG : Hid (w.heap.size ≤ g) := h_ (by rw [hg]; exact hB.size)
 clear hw3 hg hB c1 hmk hX
 go_wp2_with fail
 go_loopw [1, 22] (fun v u wr => ∃ (i : Nat) (x : Int), i ≤ n ∧ v = .int .i64 x ∧ u = .int .i64 (i : Int) ∧ Hid (L[n - i]? = some x) ∧ Has wr g (pathC L n i).toArray 3 ∧ Below w.heap.size w wr) (fun _ u _ => n - (intOf u).toNat)
 case atStart => exact ⟨0, (j : Int), by omega, rfl, rfl, HL0, hG, hB3⟩
 case round =>
  clear hG hB3
  obtain ⟨i, x, hi, rfl, rfl, HX, hG, hB⟩ := hrel
  by_cases hlt : i < n
  ·obtain ⟨q, hq⟩ : ∃ q, q = n - 1 - i := ⟨_, rfl⟩
   have hw2 : IntKind.i64.wrap (e1 - (i : Int)) = (q : Int) := by have := HE1.out; rw [IntKind.wrap_i64]; omega
   have hqn : q < n := by omega
   have HQ := h_ hq
   have hup : Up M (j : Int) (n - i) x := ⟨L, HLR.out, HX.out⟩
   obtain ⟨m, d, rfl, hd, hdl⟩ := hup.place hM
   have HU : Hid (L[n - (i + 1)]? = some d.up) := h_ (by
    obtain ⟨K, k1, k2⟩ := hup.trans (Up.ahead hM hd (by omega)).1
    rw [k1.det HLR.out, hdl] at k2
    rw [show n - (i + 1) = n - i - 1 by omega]
    exact k2)
   have KU1 := KU m d hd
   have hf : wr.frozen? ⟨g, q, none⟩ = false := Has.free hG q
   have hc : ∃ u, wr.cell? ⟨g, q, none⟩ = some u := ⟨_, (Has.cell hG q).trans (Array.getElem?_eq_getElem (by rw [List.size_toArray, qsx_ L n i HLN.out hi]; exact hqn))⟩
   obtain ⟨u, hc⟩ := hc
   have hG2 : Has (wr.setCell ⟨g, q, none⟩ (.int .i64 (m : Int))) g (pathC L n (i + 1)).toArray 3 := by
    have := Has.set (i := q) hG (.int .i64 (m : Int))
    rw [HQ.out, qsw_ hlt HX.out, ← HQ.out] at this
    exact this
   have hB2 : Below w.heap.size w (wr.setCell ⟨g, q, none⟩ (.int .i64 (m : Int))) := hB.setCell HG.out _
   clear hq hup hd hdl HX hG hB
   generalize d.up = z at *
   go_wp2_with (with_reducible refine qwn_ rfl _ _ rfl ⟨g, q, none⟩ (m : Int) _ rfl rfl hf hc ?_)
   generalize World.setCell _ _ _ = v4 at *
   clear hf hc
   refine (KU1.out _ hB2).mono ?_
   rintro e v5 ⟨rfl, hb⟩
   have hG3 := qd_ hb hG2 (Has.lt hG2)
   replace hB2 := tb_ hB2 hb
   clear hb hG2
   go_wp2_with fail
   go_roundw
   case rel => exact ⟨i + 1, z, by omega, rfl, by go_num, HU, hG3, hB2⟩
   case measure => simp [intOf]; omega
  ·obtain rfl : i = n := by omega
   rw [qww_] at hG
   go_wp2_with fail
   go_ret
   exact ⟨g, rfl, HG.out, hG, hB⟩
theorem path_at {w : World} {F : Nat → Prop} {b : Nat} {r : Ru} {M : List Ent} {ls : List Int} (h : TrS w F b r M ls) (hM : Ok r M) (hl9 : M.length ≤ 900) (j : Nat) (e : Ent) (he : M[j]? = some e) (L : List Int) (hL : Row M (j : Int) L) :
  Calls Tryz.prog 14 #[.pointer (some ⟨b, 0, none⟩), .int .i64 (j : Int)] w fun x w' => ∃ g, x = .returned (.slice (some ⟨g, 0, none⟩) e.hs.length e.hs.length) ∧ w.heap.size ≤ g ∧ Has w' g ((L.drop 1).map (Value.int .i64)).toArray 3 ∧ Below w.heap.size w w' := by
 obtain ⟨Fa, ab, _, k2⟩ := h.parts
 have h1 := (hM.chain j e he).1
 have h2 := (List.getElem?_eq_some_iff.1 he).1
 exact qwx_ _ r M hM j e he _ rfl (by omega) (qgl_ k2 he) L hL w (h_ fun w' hb => tat_at (h.below hb) he _ rfl) (fun n e he => h_ fun w' hb => qade_ (h.below hb) he)
theorem qadm_ (k : Int) (w : World) : Calls Tryz.prog 14 #[.pointer none, .int .i64 k] w fun x w' => x = .returned (.slice none 0 0) ∧ Below w.heap.size w w' :=
 path_no _ k enN enN_ok w (h_ fun w' _ => qjw_ k w')
end Go.Proofs.YtgaocfhlagbkpaaGreatDoor.An
namespace Go.Proofs.YtgaocfhlagbkpaaGreatDoor.An
open Go.RowKit Mem Sc
open Ar (Ent Ru entZ Ok isP IsAn ComI Anc Row)
theorem lie_one (w : World) (x : Int) : MM.Lie (w.alloc (.cells #[.int .i64 x] 3)) 0 (w.heap.size + 1) (some ⟨w.heap.size, 0, none⟩) [x] := fun _ => by
 refine ⟨w.heap.size, 0, rfl, Nat.zero_le _, Nat.lt_succ_self _, fun j hj => ?_⟩
 have h : Has (w.alloc (.cells #[.int .i64 x] 3)) w.heap.size #[.int .i64 x] 3 := Has.new _ _
 rw [Nat.zero_add, h.cell j]
 have hj2 : j < 1 := hj
 obtain rfl : j = 0 := by omega
 rfl
theorem qadn_ (w : World) : Ca_ 16 #[.pointer none, .agg (hdA hdZ), .int .i64 1] w (.tuple #[.int .i64 (-1), .int .i64 0, .int .i64 2]) := by
 refine (qst_ _ (.pointer none) hdZ hdZ_ok 1 (-1) 0 2 (fun w1 w2 => Below w1.heap.size w1 w2) w (h_ (HeldIs.nil w)) (h_ fun w' _ => add_nil hdZ hdZ_ok 1 w') rfl).mono ?_
 rintro e w' ⟨rfl, vx, h1, h2⟩
 exact ⟨rfl, tb_ h1 h2⟩
structure AtI (v3 : World) (bt bm : Nat) (at_ : Int) (i : Nat) (L : List Int) (ln l1 : Nat) (g : Bool) : Prop where
 len : L.length = ln
 one : ln = l1 + 1
 small : ln ≤ 900
 ina : (L.any fun x => x == at_) = g
 rp : ∀ w', Below v3.heap.size v3 w' → Calls Tryz.prog 13 #[.pointer (some ⟨bm, 0, none⟩), .int .i64 (i : Int)] w' fun e w'' => ∃ v, e = .returned v ∧ w''.ownsRow w'.heap.size 3 1 v ln (L.map (Value.int .i64)) ∧ Below w'.heap.size w' w''
 pa : ∀ w', Below v3.heap.size v3 w' → Calls Tryz.prog 14 #[.pointer (some ⟨bt, 0, none⟩), .int .i64 (i : Int)] w' fun e w'' => ∃ gp, e = .returned (.slice (some ⟨gp, 0, none⟩) l1 l1) ∧ w'.heap.size ≤ gp ∧ Has w'' gp ((L.drop 1).map (Value.int .i64)).toArray 3 ∧ Below w'.heap.size w' w''
 an : ∀ (k : Nat) (x : Int), L[k]? = some x → ∀ w', Below v3.heap.size v3 w' → Calls Tryz.prog 11 #[.pointer (some ⟨bt, 0, none⟩), .int .i64 (i : Int), .int .i64 (k : Int)] w' fun e w'' => e = .returned (.int .i64 x) ∧ Below w'.heap.size w' w''
 wi : ∀ x, x ∈ L → ∀ w', Below v3.heap.size v3 w' → Calls Tryz.prog 15 #[.pointer (some ⟨bt, 0, none⟩), .int .i64 x, .int .i64 (i : Int)] w' fun e w'' => e = .returned (.bool true) ∧ Below w'.heap.size w' w''
 wa : ∀ w', Below v3.heap.size v3 w' → Calls Tryz.prog 15 #[.pointer (some ⟨bt, 0, none⟩), .int .i64 at_, .int .i64 (i : Int)] w' fun e w'' => e = .returned (.bool g) ∧ Below w'.heap.size w' w''
 hi : ∀ w', Below v3.heap.size v3 w' → Calls Tryz.prog 11 #[.pointer (some ⟨bt, 0, none⟩), .int .i64 (i : Int), .int .i64 (ln : Int)] w' fun e w'' => e = .returned (.int .i64 (-1)) ∧ Below w'.heap.size w' w''
 lo : ∀ w', Below v3.heap.size v3 w' → Calls Tryz.prog 11 #[.pointer (some ⟨bt, 0, none⟩), .int .i64 (i : Int), .int .i64 (-1)] w' fun e w'' => e = .returned (.int .i64 (-1)) ∧ Below w'.heap.size w' w''
theorem ati_of {v3 : World} {bt bm : Nat} {F Fm : Nat → Prop} {B : Nat} {r : Ru} {M : List Ent} {lp : List Int} (hS : TrS v3 F bt r M lp) (hR : RfS v3 B Fm bm r M) (hlp : lp.length = M.length) (hM : Ok r M) (hl : M.length ≤ 41) (at_ : Int) (i : Nat) (hi : i < M.length) : ∃ L ln l1 g, AtI v3 bt bm at_ i L ln l1 g := by
 obtain ⟨e, he⟩ : ∃ e, M[i]? = some e := ⟨_, List.getElem?_eq_getElem hi⟩
 obtain ⟨L, hL, hLl⟩ := hM.row he
 have hc := (hM.chain i e he).1
 refine ⟨L, e.hs.length + 1, e.hs.length, L.any fun x => x == at_, hLl, rfl, by omega, rfl, fun w' hb => ?_, fun w' hb => path_at (hS.below hb) hM (by omega) i e he L hL, fun k x hx w' hb => ?_, fun x hx w' hb => ?_, fun w' hb => ?_, fun w' hb => ?_, fun w' hb => ?_⟩
 ·have := qhl_ (hR.below hb) hM (by omega) i e he L hL
  rwa [hLl] at this
 ·exact qbp_ (hS.below hb) hM (by omega) i k x (fun hq => by rw [hlp]; exact hq.2) (.inl ⟨Ar.isP_of he, by omega, L, hL, by rw [Int.toNat_natCast]; exact hx⟩)
 ·exact qnb_ (hS.below hb) hM (by omega) hlp x i true ⟨fun _ => ⟨L, hL, hx⟩, fun _ => rfl⟩
 ·refine qnb_ (hS.below hb) hM (by omega) hlp at_ i _ ?_
  rw [List.any_eq_true]
  constructor
  ·rintro ⟨x, hx, hxe⟩
   obtain rfl : x = at_ := by simpa using hxe
   exact ⟨L, hL, hx⟩
  ·rintro ⟨K, k1, k2⟩
   rw [k1.det hL] at k2
   exact ⟨at_, k2, by simp⟩
 ·refine qbp_ (hS.below hb) hM (by omega) i _ (-1) (fun hq => by rw [hlp]; exact hq.2) (.inr ⟨fun hh => ?_, rfl⟩)
  obtain ⟨x, hu⟩ := hh.2.2
  have := hu.low hM he
  rw [Int.toNat_natCast] at this
  omega
 ·exact qbp_ (hS.below hb) hM (by omega) i (-1) (-1) (fun hq => by rw [hlp]; exact hq.2) (.inr ⟨fun hh => by have := hh.2.1; omega, rfl⟩)
theorem qado_ {L : List Int} {k : Nat} {x : Int} (h : L[k]? = some x) (f : Int → Bool) : (L.take (k + 1)).any f = ((L.take k).any f || f x) := by
 rw [qwq_ h, List.any_append]
 simp
theorem qwy_ (p : NN.Pr) (hp : p.ok) (a : Option Addr) (n c : Nat) (w : World) (at_ hh : Int) (KA : HK_ w 7 #[] (.bool true)) (KG : HK_ w 8 #[.agg (NN.prA p), .slice a n c] (.bool true)) :
  Ca_ 3 #[.agg (NN.prA p), .slice a n c, .int .i64 at_, .int .i64 hh] w (.bool true) := by
 have hz := NN.qar_ hp
 go_enter Tryz.func3, Tryz.ntmps3
 go_upto_region 1 with fail
 generalize hw0 : World.alloc _ _ = v0
 have hB : Below w.heap.size w v0 := bl_ hw0
 have hP : NN.PrAt v0 w.heap.size p := by rw [← hw0]; exact NN.Has.new _ _
 clear hw0
 obtain ⟨bP, hbP⟩ : ∃ x, x = w.heap.size := ⟨_, rfl⟩
 rw [← hbP] at hP ⊢
 have HBP : Hid (bP = w.heap.size) := h_ hbP
 clear hbP
 go_wp2_with (first | fail)
 refine (KA.out _ hB).mono ?_
 rintro e v1 ⟨rfl, hb⟩
 replace hP := hP.on hb
 replace hB := tb_ hB hb
 clear hb
 go_wp2_with (with_reducible first | refine NN.qp_ rfl _ rfl _ rfl hP hz ?_ | refine NN.qk_ (by with_unfolding_all rfl) _ rfl _ rfl hP hz ?_)
 refine (KG.out _ hB).mono ?_
 rintro e v2 ⟨rfl, hb⟩
 replace hP := hP.on hb
 replace hB := tb_ hB hb
 clear hb
 go_wp2_with fail
 go_ret
 exact ⟨rfl, hB⟩
set_option maxHeartbeats 8000000 in
theorem qsy_ (p : NN.Pr) (hp : p.ok) (r : Ru) (a : Option Addr) (n c : Nat) (w : World) (at_ hh : Int) (KA : HK_ w 7 #[] (.bool true)) (KG : HK_ w 8 #[.agg (NN.prA p), .slice a n c] (.bool false)) (KGr : Hid (∀ w', Below w.heap.size w w' → Calls Tryz.prog 9 #[.agg (NN.prA p), .slice a n c] w' fun e w'' => ∃ bt bm, e = .returned (.tuple #[.pointer (some ⟨bt, 0, none⟩), .pointer (some ⟨bm, 0, none⟩), .bool true]) ∧ GrownP w' w'' r 41 bt bm ∧ Below w'.heap.size w' w'')) :
  Ca_ 3 #[.agg (NN.prA p), .slice a n c, .int .i64 at_, .int .i64 hh] w (.bool true) := by
 have hz := NN.qar_ hp
 go_enter Tryz.func3, Tryz.ntmps3
 go_upto_region 1 with fail
 generalize hw0 : World.alloc _ _ = v0
 have hB : Below w.heap.size w v0 := bl_ hw0
 have hP : NN.PrAt v0 w.heap.size p := by rw [← hw0]; exact NN.Has.new _ _
 clear hw0
 obtain ⟨bP, hbP⟩ : ∃ x, x = w.heap.size := ⟨_, rfl⟩
 rw [← hbP] at hP ⊢
 have HBP : Hid (bP = w.heap.size) := h_ hbP
 clear hbP
 go_wp2_with (first | fail)
 refine (KA.out _ hB).mono ?_
 rintro e v1 ⟨rfl, hb⟩
 replace hP := hP.on hb
 replace hB := tb_ hB hb
 clear hb
 go_wp2_with (with_reducible first | refine NN.qp_ rfl _ rfl _ rfl hP hz ?_ | refine NN.qk_ (by with_unfolding_all rfl) _ rfl _ rfl hP hz ?_)
 refine (KG.out _ hB).mono ?_
 rintro e v2 ⟨rfl, hb⟩
 replace hP := hP.on hb
 replace hB := tb_ hB hb
 clear hb
 go_wp2_with (first | fail | (with_reducible refine NN.qp_ rfl _ rfl _ rfl hP hz ?_))
 refine (KGr.out _ hB).mono ?_
 rintro e v3 ⟨bt, bm, rfl, hGr, hb⟩
 replace hB := tb_ hB hb
 clear hb KGr
 obtain ⟨F, Fm, M, lp, hS, hR, hlp, hM, hl⟩ := hGr
 obtain ⟨ah, ch, c83⟩ := hR.list
 obtain ⟨z, hz⟩ := IsAn.ex M at_ hh
 have KLn : Hid (∀ w', Below v3.heap.size v3 w' → Calls Tryz.prog 10 #[.pointer (some ⟨bt, 0, none⟩)] w' fun e w'' => e = .returned (.int .i64 (M.length : Nat)) ∧ Below w'.heap.size w' w'') := h_ fun w' hb => qym_ (hS.below hb)
 have KAn : Hid (∀ w', Below v3.heap.size v3 w' → Calls Tryz.prog 11 #[.pointer (some ⟨bt, 0, none⟩), .int .i64 at_, .int .i64 hh] w' fun e w'' => e = .returned (.int .i64 z) ∧ Below w'.heap.size w' w'') := h_ fun w' hb => qbp_ (hS.below hb) hM (by omega) at_ hh z (fun hq => by rw [hlp]; exact hq.2) hz
 have KRn : Hid (∀ w', Below v3.heap.size v3 w' → Calls Tryz.prog 12 #[.pointer (some ⟨bm, 0, none⟩), .int .i64 at_, .int .i64 hh] w' fun e w'' => e = .returned (.int .i64 z) ∧ Below w'.heap.size w' w'') := h_ fun w' hb => ranc_at (hR.below hb) hM (by omega) at_ hh z hz
 have KI : Hid (∀ i, i < M.length → ∃ L ln l1 g, AtI v3 bt bm at_ i L ln l1 g) := h_ fun i hi => ati_of hS hR hlp hM hl at_ i hi
 have HB0 := h_ hB
 clear hS hR hM hlp hz hP hB
 generalize M.length = m at *
 have t1 : ((m : Int) != (m : Int)) = false := by simp
 have t2 : (z != z) = false := by simp
 have q83 : ∀ d os, (Sort.grow (redrawn v3 d) os).cell? ⟨bm, 83, none⟩ = some (.slice ah m ch) := cell_regrown c83
 have hRg : ∀ d os, Below v3.heap.size v3 (Sort.grow (redrawn v3 d) os) := fun d os => below_regrown v3 d os
 go_upto_region 6 with fail
 refine wp_region_quiet_below (by kernel_rfl) (by kernel_rfl) ?_
 repeat (first
  | go_big_quiet_step ((go_at_call 10; exact Calls.regrown_of (KLn.out _ (hRg _ _))))
  | go_big_quiet_step ((go_at_call 11; exact Calls.regrown_of (KAn.out _ (hRg _ _))))
  | go_big_quiet_step ((go_at_call 12; exact Calls.regrown_of (KRn.out _ (hRg _ _)))))
 refine wpQuiet_nil ?_
 intro v4 hw'
 have hb := qad_ v4 hw'
 have d83 := (hb.cell (p := ⟨bm, 83, none⟩) (block_lt_of_cell c83)).trans c83
 clear hw' q83 hRg KLn KAn KRn c83 t1 t2
 go_wp2_with fail
 clear d83
 go_loopw [63] (fun u wr => ∃ i : Nat, i ≤ m ∧ u = .int .i64 (i : Int) ∧ Below v3.heap.size v3 wr) (fun u _ => m - (intOf u).toNat)
 case atStart => exact ⟨0, by omega, rfl, hb⟩
 case round =>
  clear hb
  obtain ⟨i, hi, rfl, hb⟩ := hrel
  by_cases hlt : i < m
  ·obtain ⟨L, ln, l1, g, hK⟩ := KI.out i hlt
   have HK := h_ hK
   have hln : 0 < ln := by have := hK.one; omega
   have h9 := hK.small
   have hw1 : IntKind.i64.wrap ((ln : Int) - 1) = (l1 : Int) := by have := hK.one; rw [IntKind.wrap_i64]; omega
   have tq : ((l1 : Int) != (l1 : Int)) = false := by simp
   clear hK
   go_wp2_with fail
   refine (HK.out.rp _ hb).mono ?_
   rintro e v5 ⟨vL, rfl, hvL, hb9⟩
   replace hb := tb_ hb hb9
   clear hb9
   obtain ⟨gL, cL, rfl⟩ := qbv_ hvL hln
   have HVL : Hid (∀ w', Below v5.heap.size v5 w' → ∀ m x, L[m]? = some x → w'.cell? ⟨gL, m, none⟩ = some (.int .i64 x)) := h_ fun w' hb m x hx => by
    obtain ⟨g2, c2, e2, hc⟩ := qew_ hvL hx
    cases e2
    exact (hb.cell (block_lt_of_cell hc)).trans hc
   have hb5 := Below.refl v5.heap.size v5
   clear hvL
   go_wp2_with fail
   refine (HK.out.pa _ hb).mono ?_
   rintro e v6 ⟨gP, rfl, _, hvP, hb9⟩
   replace hb := tb_ hb hb9
   replace hb5 := tb_ hb5 hb9
   clear hb9
   have HVP : Hid (∀ w', Below v6.heap.size v6 w' → ∀ m x, L[m + 1]? = some x → w'.cell? ⟨gP, m, none⟩ = some (.int .i64 x)) := h_ fun w' hb m x hx => by
    rw [(hb.cell (p := ⟨gP, m, none⟩) (Has.lt hvP)), Has.cell hvP m, List.getElem?_toArray, List.getElem?_map, List.getElem?_drop, Nat.add_comm 1 m, hx]
    rfl
   have hb6 := Below.refl v6.heap.size v6
   have HB6 := h_ hb
   have HB56 := h_ hb5
   clear hvP hb hb5
   go_wp2_with fail
   go_loopw [80] (fun u wr => ∃ k : Nat, k ≤ ln ∧ u = .int .i64 (k : Int) ∧ Below v6.heap.size v6 wr) (fun u _ => ln - (intOf u).toNat)
   case atStart => exact ⟨0, by omega, rfl, hb6⟩
   case round =>
    clear hb6
    obtain ⟨k, hk, rfl, hb6⟩ := hrel
    by_cases hlt2 : k < ln
    ·obtain ⟨x, hx⟩ : ∃ x, L[k]? = some x := ⟨_, List.getElem?_eq_getElem (by rw [HK.out.len]; exact hlt2)⟩
     have KX : Hid (∀ w', Below wr.heap.size wr w' → Calls Tryz.prog 11 #[.pointer (some ⟨bt, 0, none⟩), .int .i64 (i : Int), .int .i64 (k : Int)] w' fun e w'' => e = .returned (.int .i64 x) ∧ Below w'.heap.size w' w'') := h_ fun w' hb => HK.out.an k x hx w' ((tb_ HB6.out hb6).trans (hb.mono (Nat.le_trans HB6.out.size hb6.size)))
     have KW : Hid (∀ w', Below wr.heap.size wr w' → Calls Tryz.prog 15 #[.pointer (some ⟨bt, 0, none⟩), .int .i64 x, .int .i64 (i : Int)] w' fun e w'' => e = .returned (.bool true) ∧ Below w'.heap.size w' w'') := h_ fun w' hb => HK.out.wi x (List.mem_of_getElem? hx) w' ((tb_ HB6.out hb6).trans (hb.mono (Nat.le_trans HB6.out.size hb6.size)))
     have q1 : ∀ d os, (Sort.grow (redrawn wr d) os).cell? ⟨gL, k, none⟩ = some (.int .i64 x) := cell_regrown (HVL.out wr (tb_ HB56.out hb6) k x hx)
     have hRg : ∀ d os, Below wr.heap.size wr (Sort.grow (redrawn wr d) os) := fun d os => below_regrown wr d os
     have t2 : (x != x) = false := by simp
     by_cases hk0 : 0 < k
     ·obtain ⟨q, hq⟩ : ∃ q, q = k - 1 := ⟨_, rfl⟩
      have hw2 : IntKind.i64.wrap ((k : Int) - 1) = (q : Int) := by rw [IntKind.wrap_i64]; omega
      have q2 : ∀ d os, (Sort.grow (redrawn wr d) os).cell? ⟨gP, q, none⟩ = some (.int .i64 x) := cell_regrown (HVP.out wr hb6 q x (by rw [hq, show k - 1 + 1 = k by omega]; exact hx))
      have hq1 : q < l1 := by have := HK.out.one; omega
      clear hq hx
      go_upto_region 18 with fail
      refine wp_region_quiet_below (by kernel_rfl) (by kernel_rfl) ?_
      repeat (first
       | go_big_quiet_step ((go_at_call 11; exact Calls.regrown_of (KX.out _ (hRg _ _))))
       | go_big_quiet_step ((go_at_call 15; exact Calls.regrown_of (KW.out _ (hRg _ _)))))
      refine wpQuiet_nil ?_
      intro v7 hw'
      have hb9 := qad_ v7 hw'
      replace hb6 := tb_ hb6 hb9
      clear hw' hb9 q1 hRg KX KW
      go_wp2_with fail
      go_roundw
      case rel => exact ⟨k + 1, by omega, by go_num, hb6⟩
      case measure => simp [intOf]; omega
     ·clear hx
      go_upto_region 18 with fail
      refine wp_region_quiet_below (by kernel_rfl) (by kernel_rfl) ?_
      repeat (first
       | go_big_quiet_step ((go_at_call 11; exact Calls.regrown_of (KX.out _ (hRg _ _))))
       | go_big_quiet_step ((go_at_call 15; exact Calls.regrown_of (KW.out _ (hRg _ _)))))
      refine wpQuiet_nil ?_
      intro v7 hw'
      have hb9 := qad_ v7 hw'
      replace hb6 := tb_ hb6 hb9
      clear hw' hb9 q1 hRg KX KW
      go_wp2_with fail
      go_roundw
      case rel => exact ⟨k + 1, by omega, by go_num, hb6⟩
      case measure => simp [intOf]; omega
    ·obtain rfl : k = ln := by omega
     go_wp2_with fail
     go_loopw [16, 121] (fun u i wr => ∃ (q : Nat) (b : Bool), q ≤ k ∧ u = .bool b ∧ i = .int .i64 (q : Int) ∧ Hid (((L.take q).any fun x => x == at_) = b) ∧ Below v6.heap.size v6 wr) (fun _ i _ => k - (intOf i).toNat)
     case atStart => exact ⟨0, false, by omega, rfl, rfl, h_ rfl, hb6⟩
     case round =>
      clear hb6
      obtain ⟨q, b, hq, rfl, rfl, HQ, hb6⟩ := hrel
      by_cases hlt3 : q < k
      ·obtain ⟨x, hx⟩ : ∃ x, L[q]? = some x := ⟨_, List.getElem?_eq_getElem (by rw [HK.out.len]; exact hlt3)⟩
       have xc := HVL.out wr (tb_ HB56.out hb6) q x hx
       obtain ⟨xb, hxb⟩ : ∃ xb, (x == at_) = xb := ⟨_, rfl⟩
       have HQ2 : Hid (((L.take (q + 1)).any fun x => x == at_) = (b || xb)) := h_ (by rw [qado_ hx, HQ.out, hxb])
       clear hx HQ
       cases b
       ·go_wp2_with fail
        go_roundw
        case rel => exact ⟨q + 1, xb, by omega, rfl, by go_num, h_ (by rw [HQ2.out]; rfl), hb6⟩
        case measure => simp [intOf]; omega
       ·go_wp2_with fail
        go_roundw
        case rel => exact ⟨q + 1, true, by omega, rfl, by go_num, h_ (by rw [HQ2.out]; rfl), hb6⟩
        case measure => simp [intOf]; omega
      ·obtain rfl : q = k := by omega
       have hbg : b = g := by
        have := HQ.out
        rw [List.take_of_length_le (by rw [HK.out.len]; exact Nat.le_refl _), HK.out.ina] at this
        exact this.symm
       subst hbg
       have hb := tb_ HB6.out hb6
       clear HQ hb6
       cases b
       all_goals
        go_wp2_with fail
        refine (HK.out.wa _ hb).mono ?_
        rintro e v7 ⟨rfl, hb9⟩
        replace hb := tb_ hb hb9
        clear hb9
        go_wp2_with fail
        refine (HK.out.hi _ hb).mono ?_
        rintro e v8 ⟨rfl, hb9⟩
        replace hb := tb_ hb hb9
        clear hb9
        go_wp2_with fail
        refine (HK.out.lo _ hb).mono ?_
        rintro e v9 ⟨rfl, hb9⟩
        replace hb := tb_ hb hb9
        clear hb9
        go_wp2_with fail
        go_roundw
        case rel => exact ⟨i + 1, by omega, by go_num, hb⟩
        case measure => simp [intOf]; omega
  ·obtain rfl : i = m := by omega
   have hB := tb_ HB0.out hb
   have KN := h_ fun w' => qadn_ w'
   have hmk := fun w => qcp_ w 0
   clear hb KI
   go_wp2_with fail
   refine (KN.out _).mono ?_
   rintro e v20 ⟨rfl, hb⟩
   replace hB := tb_ hB hb
   clear hb
   go_wp2_with fail
   refine (qadc_ _).mono ?_
   rintro e v21 ⟨rfl, hb⟩
   replace hB := tb_ hB hb
   clear hb
   go_wp2_with fail
   refine (qwo_ _).mono ?_
   rintro e v22 ⟨rfl, hb⟩
   replace hB := tb_ hB hb
   clear hb
   go_wp2_with fail
   refine (anc_nil 0 0 _).mono ?_
   rintro e v23 ⟨rfl, hb⟩
   replace hB := tb_ hB hb
   clear hb
   go_wp2_with fail
   refine (qsr_ 0 0 _).mono ?_
   rintro e v24 ⟨rfl, hb⟩
   replace hB := tb_ hB hb
   clear hb
   go_wp2_with fail
   refine (qadm_ 0 _).mono ?_
   rintro e v25 ⟨rfl, hb⟩
   replace hB := tb_ hB hb
   clear hb
   go_wp2_with fail
   refine (qsu_ _ 1 1 [0] rfl (by decide) _ (by simp) (lie_one _ 0)).mono ?_
   rintro e v26 ⟨rfl, hb⟩
   replace hB := hB.trans ((((Below.refl _ _).alloc (Nat.le_refl _) _).trans (hb.mono (by simp))).mono hB.size)
   clear hb
   go_wp2_with fail
   refine (qwt_ z32 rfl _).mono ?_
   rintro e v27 ⟨rfl, hb⟩
   replace hB := tb_ hB hb
   clear hb
   go_wp2_with fail
   refine (qlk_ 0 0 _).mono ?_
   rintro e v28 ⟨rfl, hb⟩
   replace hB := tb_ hB hb
   clear hb
   go_wp2_with fail
   go_ret
   exact ⟨rfl, hB⟩
theorem qii_ (p : NN.Pr) (hp : p.ok) (h1 : p.one) (t : Tl) (tt : p.tl = t.C) (ht : t.ok) (gs : List Gt) (cs : List Ck) (hgn : t.gn = gs.length) (hcn : t.cn = cs.length) (a : Option Addr) (ls : List Cm) (n c : Nat) (hn : n = ls.length) (hl : n ≤ 4611686018427387904) (hnow : ∀ x ∈ ls, -9223372036854775808 ≤ x.now ∧ x.now ≤ 9223372036854775807) (at_ hh : Int) (w : World) (hT : Tab w) (hA : ComesAt w a ls) (hG : GatesAt w t.ga gs) (hC : ChecksAt w t.ca cs) :
  Ca_ 3 #[.agg (NN.prA p), .slice a n c, .int .i64 at_, .int .i64 hh] w (.bool true) := by
 have KA : HK_ w 7 #[] (.bool true) := h_ fun w' hb => alive13 w' (hT.below hb)
 have KG : ∀ g, grt13 p t gs cs ls = g → HK_ w 8 #[.agg (NN.prA p), .slice a n c] (.bool g) := fun g hg => h_ fun w' hb => qadk_ p hp t tt ht gs cs hgn hcn ls n a c hn hl g hg w' (hA.below hb) (hG.below hb) (hC.below hb)
 cases hg : grt13 p t gs cs ls
 ·have KG1 := KG false hg
  have KGr : Hid (∀ w', Below w.heap.size w w' → Calls Tryz.prog 9 #[.agg (NN.prA p), .slice a n c] w' fun e w'' => ∃ bt bm, e = .returned (.tuple #[.pointer (some ⟨bt, 0, none⟩), .pointer (some ⟨bm, 0, none⟩), .bool true]) ∧ GrownP w' w'' ⟨p, t.g, gs, cs, 100⟩ 41 bt bm ∧ Below w'.heap.size w' w'') := h_ fun w' hb => qadl_ p hp h1 t tt ht gs cs hgn hcn a ls n c hn hnow hg w' (hT.below hb) (hA.below hb) (hG.below hb) (hC.below hb)
  exact qsy_ p hp ⟨p, t.g, gs, cs, 100⟩ a n c w at_ hh KA KG1 KGr
 ·have KG1 := KG true hg
  exact qwy_ p hp a n c w at_ hh KA KG1
end Go.Proofs.YtgaocfhlagbkpaaGreatDoor.An
