import Derived.Test.YtgaocfhlagbkpaaGreatDoorAIdm
import Derived.Test.YtgaocfhlagbkpaaGreatDoorABunQ38
set_option maxRecDepth 100000
set_option maxHeartbeats 4000000
namespace Go.Proofs.YtgaocfhlagbkpaaGreatDoor.An
open Go.RowKit Mem Sc
open Ar (Ent Ru entZ Ok Lp hgt clr Up isP IsAn)
set_option maxRecDepth 100000
def AtIs (w : World) (tp : Value) (r : Ru) (M : List Ent) : Prop := ∀ w', Below w.heap.size w w' → ∀ (k : Int), (∃ (n : Nat) (e : Ent), k = (n : Int) ∧ M[n]? = some e ∧ (enOf r e).ok ∧ Calls Tryz.prog 26 #[tp, .int .i64 k] w' fun x w'' => x = .returned (.tuple #[.agg (enA (enOf r e)), .bool true]) ∧ Below w'.heap.size w' w'') ∨ (¬ isP M k ∧ Calls Tryz.prog 26 #[tp, .int .i64 k] w' fun x w'' => x = .returned (.tuple #[.agg (enA enN), .bool false]) ∧ Below w'.heap.size w' w'')
def LeapsAt (w : World) (b g n c : Nat) (ls : List Int) : Prop := w.cell? ⟨b, 1, none⟩ = some (.slice (some ⟨g, 0, none⟩) n c) ∧ ∀ (k : Nat) (x : Int), ls[k]? = some x → w.cell? ⟨g, k, none⟩ = some (.int .i64 x)
theorem AtIs.below {w w1 : World} {tp : Value} {r : Ru} {M : List Ent} (h : AtIs w tp r M) (hb : Below w.heap.size w w1) : AtIs w1 tp r M := fun w' hb' => h w' (tb_ hb hb')
theorem LeapsAt.below {w w1 : World} {b g n c : Nat} {ls : List Int} (h : LeapsAt w b g n c ls) (hb : Below w.heap.size w w1) : LeapsAt w1 b g n c ls :=
 ⟨(hb.cell (block_lt_of_cell h.1)).trans h.1, fun k x hk => (hb.cell (block_lt_of_cell (h.2 k x hk))).trans (h.2 k x hk)⟩
theorem TrS.atis {w : World} {F : Nat → Prop} {b : Nat} {r : Ru} {M : List Ent} {ls : List Int} (h : TrS w F b r M ls) : AtIs w (.pointer (some ⟨b, 0, none⟩)) r M := fun w' hb k => by
 by_cases hk : isP M k
 ·obtain ⟨n, e, rfl, he⟩ := hk.is
  refine .inl ⟨n, e, rfl, he, ?_, tat_at (h.below hb) he _ rfl⟩
  obtain ⟨Fa, ab, _, k2⟩ := h.parts
  exact qgl_ k2 he
 ·exact .inr ⟨hk, qsq_ (h.below hb) k hk⟩
theorem TrS.leaps {w : World} {F : Nat → Prop} {b : Nat} {r : Ru} {M : List Ent} {ls : List Int} (h : TrS w F b r M ls) (h0 : 0 < ls.length) : ∃ g c, LeapsAt w b g ls.length c ls := by
 obtain ⟨hl, Fa, ab, lv, h1, h2, h3, h4, h5, h6, h7, h8, h9⟩ := h
 obtain ⟨g, c, rfl, _⟩ := qew_ h3 (k := 0) (x := ls[0]) (List.getElem?_eq_getElem h0)
 refine ⟨g, c, Has.cell h1 1, fun k x hk => ?_⟩
 obtain ⟨g2, c2, e, hc⟩ := qew_ h3 hk
 cases e
 exact hc
theorem TrS.lp {w : World} {F : Nat → Prop} {b : Nat} {r : Ru} {M : List Ent} {ls : List Int} (h : TrS w F b r M ls) : Lp M ls := by
 obtain ⟨hl, Fa, ab, lv, h1, h2, h3, h4, _⟩ := h
 exact h4
theorem ahead_w (tp : Value) (k : Int) (E : En) (hE : E.ok) (z : Int) (hz : Hid (E.up = z)) (g : Bool) (w : World) (KA : Hid (∀ w', Below w.heap.size w w' → Calls Tryz.prog 26 #[tp, .int .i64 k] w' fun x w'' => x = .returned (.tuple #[.agg (enA E), .bool g]) ∧ Below w'.heap.size w' w'')) :
  Calls Tryz.prog 40 #[tp, .int .i64 k] w fun x w' => x = .returned (.int .i64 z) ∧ Below w.heap.size w w' := by
 have ze := qz_ hE
 have z0 := qz_ enZ_ok
 have hB := Below.refl w.heap.size w
 go_enter Tryz.func40, Tryz.ntmps40
 go_wp2_with fail
 refine (KA.out _ hB).mono ?_
 rintro x v1 ⟨rfl, hb⟩
 replace hB := tb_ hB hb
 clear hb
 have hnew := qcc_ v1
 have hE1 := qhk_ v1 E
 have hb3 := qcr_ v1 68 Tryz.zeroCells68 (enA E)
 go_upto_region 2 with (with_reducible refine qbi_ rfl _ _ rfl _ _ E rfl rfl rfl ze hnew z0 ?_)
 generalize World.setRow _ _ _ = v2 at *
 replace hB := tb_ hB hb3
 have c1 := EnAt.up hE1 hE hz
 clear hb3 hnew
 go_wp2_with fail
 go_ret
 exact ⟨rfl, hB⟩
theorem anc_no (tp : Value) (k h : Int) (E : En) (hE : E.ok) (t : Int) (ht : Hid (E.ht = t)) (g a b : Bool) (ha : decide (h < 0) = a) (hb : decide (t < h) = b) (hno : (!g || a || b) = true) (w : World) (KA : Hid (∀ w', Below w.heap.size w w' → Calls Tryz.prog 26 #[tp, .int .i64 k] w' fun x w'' => x = .returned (.tuple #[.agg (enA E), .bool g]) ∧ Below w'.heap.size w' w'')) :
  Calls Tryz.prog 11 #[tp, .int .i64 k, .int .i64 h] w fun x w' => x = .returned (.int .i64 (-1)) ∧ Below w.heap.size w w' := by
 have ze := qz_ hE
 have z0 := qz_ enZ_ok
 have hB := Below.refl w.heap.size w
 go_enter Tryz.func11, Tryz.ntmps11
 go_wp2_with fail
 refine (KA.out _ hB).mono ?_
 rintro x v1 ⟨rfl, hb⟩
 replace hB := tb_ hB hb
 clear hb
 have hnew := qcc_ v1
 have hE1 := qhk_ v1 E
 have hb3 := qcr_ v1 68 Tryz.zeroCells68 (enA E)
 go_upto_region 2 with (with_reducible refine qbi_ rfl _ _ rfl _ _ E rfl rfl rfl ze hnew z0 ?_)
 generalize World.setRow _ _ _ = v2 at *
 replace hB := tb_ hB hb3
 have c1 := EnAt.ht hE1 hE ht
 clear hb3 hnew
 cases g <;> cases a <;> cases b
 case true.false.false => cases hno
 all_goals
  clear hno
  go_wp2_with fail
  go_ret
  exact ⟨rfl, hB⟩
theorem up_lt {r : Ru} {M : List Ent} (hM : Ok r M) {n : Nat} {e : Ent} {h : Nat} {z : Int} (he : M[n]? = some e) (k : Up M (n : Int) h z) (hh : h < e.hs.length) : 0 ≤ z ∧ z < (n : Int) := by
 obtain ⟨L, h1, h2⟩ := k
 have q := (h1.up hM).2 z (List.mem_of_getElem? h2)
 refine ⟨q.1, ?_⟩
 have h3 := h1.last
 have h4 := h1.len hM he
 have hlt : h < L.length - 1 := by omega
 obtain ⟨u1, u2⟩ := List.getElem?_eq_some_iff.1 h2
 obtain ⟨v1, v2⟩ := List.getElem?_eq_some_iff.1 h3.2
 have := List.pairwise_iff_getElem.1 (h1.up hM).1 _ _ u1 v1 hlt
 omega
structure Way (r : Ru) (M : List Ent) (i : Int) (t n : Nat) (E : En) (k : Nat) : Prop where
 ok : E.ok
 ht : E.ht = (k : Int)
 low : t ≤ k
 ex : ∃ e, M[n]? = some e ∧ E = enOf r e ∧ e.hs.length = k ∧ Up M i k (n : Int)
theorem Way.next {r : Ru} {M : List Ent} {i : Int} {t n : Nat} {E : En} {k : Nat} (hM : Ok r M) (h : Way r M i t n E k) {j : Nat} {z : Int} (hz : ∀ e, M[n]? = some e → e.hs.length = k → Up M (n : Int) j z) (hj : j < k) (hj2 : t ≤ j) (hE : ∀ (m : Nat) (e : Ent), M[m]? = some e → (enOf r e).ok) :
  ∃ (m : Nat) (e : Ent), z = (m : Int) ∧ m < n ∧ M[m]? = some e ∧ Way r M i t m (enOf r e) j := by
 obtain ⟨e, h1, h2, h3, h4⟩ := h.ex
 have q := hz e h1 h3
 obtain ⟨m, d, rfl, hd, hl⟩ := q.place hM
 have := up_lt hM h1 q (by omega)
 exact ⟨m, d, rfl, by omega, hd, hE m d hd, by rw [← hl]; rfl, hj2, d, hd, rfl, hl, h4.trans q⟩
theorem qadd_ (b g nn c : Nat) (ls : List Int) (r : Ru) (M : List Ent) (hM : Ok r M) (hl : Lp M ls) (hn : nn = ls.length) (hl9 : M.length ≤ 900) (i : Nat) (hi : i < ls.length) (e : Ent) (he : M[i]? = some e) (t : Nat) (ht : t ≤ e.hs.length) (w : World)
  (KA : Hid (AtIs w (.pointer (some ⟨b, 0, none⟩)) r M)) (KL : Hid (LeapsAt w b g nn c ls)) :
  Calls Tryz.prog 11 #[.pointer (some ⟨b, 0, none⟩), .int .i64 (i : Int), .int .i64 (t : Int)] w fun x w' => ∃ z, x = .returned (.int .i64 z) ∧ Up M (i : Int) t z ∧ Below w.heap.size w w' := by
 have KAT : ∀ (n : Nat) (e : Ent), M[n]? = some e → Hid (∀ w', Below w.heap.size w w' → Calls Tryz.prog 26 #[.pointer (some ⟨b, 0, none⟩), .int .i64 (n : Int)] w' fun x w'' => x = .returned (.tuple #[.agg (enA (enOf r e)), .bool true]) ∧ Below w'.heap.size w' w'') := fun n e he => h_ fun w' hb => by
  rcases KA.out w' hb (n : Int) with ⟨m, d, h1, h2, _, h3⟩ | ⟨h1, _⟩
  ·obtain rfl : n = m := by omega
   rw [he] at h2
   cases h2
   exact h3
  ·exact absurd (Ar.isP_of he) h1
 have HOK : Hid (∀ (n : Nat) (e : Ent), M[n]? = some e → (enOf r e).ok) := h_ fun n e he => by
  rcases KA.out w (Below.refl _ _) (n : Int) with ⟨m, d, h1, h2, h3, _⟩ | ⟨h1, _⟩
  ·obtain rfl : n = m := by omega
   rw [he] at h2
   cases h2
   exact h3
  ·exact absurd (Ar.isP_of he) h1
 have hc := hM.chain i e he
 have hiM := (List.getElem?_eq_some_iff.1 he).1
 have KA1 := KAT i e he
 have hW : Hid (Way r M (i : Int) t i (enOf r e) e.hs.length) := h_ ⟨HOK.out i e he, rfl, ht, e, he, rfl, rfl, Up.self hM he⟩
 have hE := HOK.out i e he
 have z0 := qz_ enZ_ok
 have hB := Below.refl w.heap.size w
 obtain ⟨k, hk⟩ : ∃ k, k = e.hs.length := ⟨_, rfl⟩
 obtain ⟨E, hEe⟩ : ∃ E, E = enOf r e := ⟨_, rfl⟩
 have HT : Hid (E.ht = (k : Int)) := h_ (by rw [hEe, hk]; rfl)
 rw [← hk] at ht hc
 rw [← hEe] at KA1 hE hW
 rw [← hk] at hW
 have hk9 : k ≤ 900 := by omega
 clear he hEe hk KA
 have HN := h_ hn
 have HI := h_ hi
 clear hn hi hc
 have ze := qz_ hE
 have t1 : decide ((t : Int) < 0) = false := decide_eq_false (by omega)
 have t2 : ¬ k < t := by omega
 clear ht
 go_enter Tryz.func11, Tryz.ntmps11
 go_wp2_with fail
 refine (KA1.out _ hB).mono ?_
 rintro x v1 ⟨rfl, hb⟩
 replace hB := tb_ hB hb
 clear hb
 have hnew := qcc_ v1
 have hE1 := qhk_ v1 E
 have hb3 := qcr_ v1 68 Tryz.zeroCells68 (enA E)
 go_upto_region 2 with (with_reducible refine qbi_ rfl _ _ rfl _ _ E rfl rfl rfl ze hnew z0 ?_)
 generalize World.setRow _ _ _ = v2 at *
 obtain ⟨bX, hbX⟩ : ∃ x, x = v1.heap.size := ⟨_, rfl⟩
 rw [← hbX] at hE1 ⊢
 have HBX : Hid (w.heap.size ≤ bX) := h_ (by have := hB.size; omega)
 replace hB := tb_ hB hb3
 have c1 := EnAt.ht hE1 hE HT
 clear hb3 hnew hbX KA1
 go_wp2_with fail
 clear c1 t1 t2
 go_loopw [1] (fun v wr => ∃ (n : Nat) (E : En) (k : Nat), v = .int .i64 (n : Int) ∧ k ≤ 900 ∧ EnAt wr bX E ∧ Hid (n ≤ i ∧ Way r M (i : Int) t n E k) ∧ Below w.heap.size w wr) (fun v _ => (intOf v).toNat)
 case atStart => exact ⟨i, E, k, rfl, hk9, hE1, h_ ⟨Nat.le_refl _, hW.out⟩, hB⟩
 case round =>
  clear hE1 hB hW HT ze hE hk9
  obtain ⟨n, E, k, rfl, hk9, hE1, HW, hB⟩ := hrel
  have c1 := EnAt.ht hE1 HW.out.2.ok (h_ HW.out.2.ht)
  have ze := qz_ HW.out.2.ok
  by_cases hlt : t < k
  ·have hN : Hid (n < ls.length) := h_ (by have := HI.out; have := HW.out.1; omega)
   have KH := h_ fun w' => qfk_ (k : Int) (by omega) (by omega) w'
   rw [Int.toNat_natCast] at KH
   have hlt2 := Ar.hgt_lt (h := k) (by omega)
   by_cases hge : t ≤ hgt k
   ·obtain ⟨x, hx⟩ : ∃ x, ls[n]? = some x := ⟨_, List.getElem?_eq_getElem hN.out⟩
    obtain ⟨m, d, rfl, hmn, hd, hW2⟩ := HW.out.2.next hM (z := x) (j := hgt k) (fun e he hek => by have := hl.to_ n e x he hx (by omega); rwa [hek] at this) hlt2 hge HOK.out
    have HW2 : Hid (m ≤ i ∧ Way r M (i : Int) t m (enOf r d) (hgt k)) := h_ ⟨by have := HW.out.1; omega, hW2⟩
    have HX := h_ hx
    have hnn : n < nn := by rw [HN.out]; exact hN.out
    have KA2 := KAT m d hd
    have hE2 := HOK.out m d hd
    clear hW2 hx hd HW
    generalize enOf r d = E2 at *
    have z2 := qz_ hE2
    go_wp2_with fail
    refine (KH.out _).mono ?_
    rintro x v3 ⟨rfl, hb⟩
    replace hE1 := hE1.on hb
    replace hB := tb_ hB hb
    have hL1 := KL.out.below hB
    obtain ⟨l1, l2⟩ := hL1
    have l3 := l2 n _ HX.out
    have c2 := EnAt.ht hE1
    clear hb l2 KH c2
    go_wp2_with fail
    refine (KA2.out _ hB).mono ?_
    rintro x v4 ⟨rfl, hb⟩
    replace hE1 := hE1.on hb
    replace hB := tb_ hB hb
    clear hb l1 l3 KA2
    go_wp2_with (with_reducible refine qbi_ rfl _ _ rfl _ _ E2 rfl rfl rfl z2 hE1 ze ?_)
    have hE3 : EnAt _ bX E2 := Has.row hE1 (enA E2)
    have hB3 := below_setRow hB HBX.out (enA E2)
    generalize World.setRow _ _ _ = v5 at *
    simp only [Act.put]
    go_roundw
    case rel => exact ⟨m, E2, hgt k, rfl, by omega, hE3, HW2, hB3⟩
    case measure => simp [intOf]; omega
   ·have hup : Hid (∃ (m : Nat) (e : Ent), E.up = (m : Int) ∧ m < n ∧ M[m]? = some e ∧ Way r M (i : Int) t m (enOf r e) (k - 1)) := h_ (by
     obtain ⟨e, h1, h2, h3, h4⟩ := HW.out.2.ex
     have := HW.out.2.next hM (z := e.up) (j := k - 1) (fun d hd hdk => by rw [h1] at hd; cases hd; have := (Up.ahead hM h1 (by omega)).1; rwa [h3] at this) (by omega) (by omega) HOK.out
     rw [h2]
     exact this)
    obtain ⟨m, d, hu, hmn, hd, hW2⟩ := hup.out
    have HU := h_ hu
    have HW2 : Hid (m ≤ i ∧ Way r M (i : Int) t m (enOf r d) (k - 1)) := h_ ⟨by have := HW.out.1; omega, hW2⟩
    have KA2 := KAT m d hd
    have hE2 := HOK.out m d hd
    have HEok := h_ HW.out.2.ok
    clear hW2 hd HW hup hu
    generalize enOf r d = E2 at *
    have z2 := qz_ hE2
    go_wp2_with fail
    refine (KH.out _).mono ?_
    rintro x v3 ⟨rfl, hb⟩
    replace hE1 := hE1.on hb
    replace hB := tb_ hB hb
    have c2 := EnAt.up hE1 HEok.out HU
    clear hb KH
    go_wp2_with fail
    refine (KA2.out _ hB).mono ?_
    rintro x v4 ⟨rfl, hb⟩
    replace hE1 := hE1.on hb
    replace hB := tb_ hB hb
    clear hb c2 KA2
    go_wp2_with (with_reducible refine qbi_ rfl _ _ rfl _ _ E2 rfl rfl rfl z2 hE1 ze ?_)
    have hE3 : EnAt _ bX E2 := Has.row hE1 (enA E2)
    have hB3 := below_setRow hB HBX.out (enA E2)
    generalize World.setRow _ _ _ = v5 at *
    simp only [Act.put]
    go_roundw
    case rel => exact ⟨m, E2, k - 1, rfl, by omega, hE3, HW2, hB3⟩
    case measure => simp [intOf]; omega
  ·have hup : Hid (Up M (i : Int) t (n : Int)) := h_ (by
    obtain ⟨e, h1, h2, h3, h4⟩ := HW.out.2.ex
    have := HW.out.2.low
    obtain rfl : k = t := by omega
    exact h4)
   clear HW ze
   go_wp2_with fail
   go_ret
   exact ⟨_, rfl, hup.out, hB⟩
theorem qbp_ {w : World} {F : Nat → Prop} {b : Nat} {r : Ru} {M : List Ent} {ls : List Int} (h : TrS w F b r M ls) (hM : Ok r M) (hl9 : M.length ≤ 900) (i t z : Int) (hi : isP M i → i < (ls.length : Int)) (hz : IsAn M i t z) :
  Calls Tryz.prog 11 #[.pointer (some ⟨b, 0, none⟩), .int .i64 i, .int .i64 t] w fun x w' => x = .returned (.int .i64 z) ∧ Below w.heap.size w w' := by
 have hA := h.atis
 by_cases hp : isP M i
 ·obtain ⟨n, e, rfl, he⟩ := hp.is
  have hn := hi hp
  have hE : (enOf r e).ok ∧ ∀ w', Below w.heap.size w w' → Calls Tryz.prog 26 #[.pointer (some ⟨b, 0, none⟩), .int .i64 (n : Int)] w' fun x w'' => x = .returned (.tuple #[.agg (enA (enOf r e)), .bool true]) ∧ Below w'.heap.size w' w'' := by
   obtain ⟨Fa, ab, _, k2⟩ := h.parts
   exact ⟨qgl_ k2 he, fun w' hb => tat_at (h.below hb) he _ rfl⟩
  by_cases hlow : t < 0 ∨ (e.hs.length : Int) < t
  ·have ez : z = -1 := hlow.elim (fun hh => hz.no (.inr hh)) (fun hh => hz.high hM he hh)
   subst ez
   exact anc_no _ (n : Int) t (enOf r e) hE.1 (e.hs.length : Nat) (h_ rfl) true _ _ rfl rfl (by simp only [Bool.not_true, Bool.false_or, Bool.or_eq_true, decide_eq_true_eq]; exact hlow) w (h_ hE.2)
  ·obtain ⟨tn, rfl⟩ := Int.eq_ofNat_of_zero_le (by omega : 0 ≤ t)
   obtain ⟨g, c, hL⟩ := h.leaps (by omega)
   refine (qadd_ b g ls.length c ls r M hM h.lp rfl hl9 n (by omega) e he tn (by omega) w (h_ hA) (h_ hL)).mono ?_
   rintro x w' ⟨z', rfl, hu, hb⟩
   have := hz.up hM he (by omega) (by omega)
   rw [Int.toNat_natCast] at this
   rw [hu.det this]
   exact ⟨rfl, hb⟩
 ·have ez := hz.no (.inl hp)
  subst ez
  have hE : ∀ w', Below w.heap.size w w' → Calls Tryz.prog 26 #[.pointer (some ⟨b, 0, none⟩), .int .i64 i] w' fun x w'' => x = .returned (.tuple #[.agg (enA enN), .bool false]) ∧ Below w'.heap.size w' w'' := fun w' hb => qsq_ (h.below hb) i hp
  exact anc_no _ i t enN enN_ok 0 (h_ rfl) false _ _ rfl rfl rfl w (h_ hE)
theorem anc_nil (i t : Int) (w : World) : Calls Tryz.prog 11 #[.pointer none, .int .i64 i, .int .i64 t] w fun x w' => x = .returned (.int .i64 (-1)) ∧ Below w.heap.size w w' :=
 anc_no _ i t enN enN_ok 0 (h_ rfl) false _ _ rfl rfl rfl w (h_ fun w' _ => qjw_ i w')
theorem qade_ {w : World} {F : Nat → Prop} {b : Nat} {r : Ru} {M : List Ent} {ls : List Int} (h : TrS w F b r M ls) {n : Nat} {e : Ent} (he : M[n]? = some e) :
  Calls Tryz.prog 40 #[.pointer (some ⟨b, 0, none⟩), .int .i64 (n : Int)] w fun x w' => x = .returned (.int .i64 e.up) ∧ Below w.heap.size w w' := by
 obtain ⟨Fa, ab, _, k2⟩ := h.parts
 exact ahead_w _ (n : Int) (enOf r e) (qgl_ k2 he) e.up (h_ rfl) true w (h_ fun w' hb => tat_at (h.below hb) he _ rfl)
theorem qli_ (tp : Value) (k i : Int) (E : En) (hE : E.ok) (t z : Int) (ht : Hid (E.ht = t)) (g g2 : Bool) (hg : (z == k) = g2) (w : World) (KA : Hid (∀ w', Below w.heap.size w w' → Calls Tryz.prog 26 #[tp, .int .i64 k] w' fun x w'' => x = .returned (.tuple #[.agg (enA E), .bool g]) ∧ Below w'.heap.size w' w''))
  (KN : Hid (∀ w', Below w.heap.size w w' → g = true → Calls Tryz.prog 11 #[tp, .int .i64 i, .int .i64 t] w' fun x w'' => x = .returned (.int .i64 z) ∧ Below w'.heap.size w' w'')) :
  Calls Tryz.prog 15 #[tp, .int .i64 k, .int .i64 i] w fun x w' => x = .returned (.bool (g && g2)) ∧ Below w.heap.size w w' := by
 have ze := qz_ hE
 have z0 := qz_ enZ_ok
 have hB := Below.refl w.heap.size w
 go_enter Tryz.func15, Tryz.ntmps15
 go_wp2_with fail
 refine (KA.out _ hB).mono ?_
 rintro x v1 ⟨rfl, hb⟩
 replace hB := tb_ hB hb
 clear hb
 have hnew := qcc_ v1
 have hE1 := qhk_ v1 E
 have hb3 := qcr_ v1 68 Tryz.zeroCells68 (enA E)
 go_upto_region 2 with (with_reducible refine qbi_ rfl _ _ rfl _ _ E rfl rfl rfl ze hnew z0 ?_)
 generalize World.setRow _ _ _ = v2 at *
 replace hB := tb_ hB hb3
 have c1 := EnAt.ht hE1 hE ht
 clear hb3 hnew
 cases g
 ·go_wp2_with fail
  go_ret
  exact ⟨rfl, hB⟩
 ·go_wp2_with fail
  refine (KN.out _ hB (by simp)).mono ?_
  rintro x v3 ⟨rfl, hb⟩
  replace hB := tb_ hB hb
  clear hb
  go_wp2_with fail
  go_ret
  exact ⟨by cases g2 <;> rfl, hB⟩
theorem qnb_ {w : World} {F : Nat → Prop} {b : Nat} {r : Ru} {M : List Ent} {ls : List Int} (h : TrS w F b r M ls) (hM : Ok r M) (hl9 : M.length ≤ 900) (hl : ls.length = M.length) (k i : Int) (g : Bool) (hg : g = true ↔ Ar.Anc M k i) :
  Calls Tryz.prog 15 #[.pointer (some ⟨b, 0, none⟩), .int .i64 k, .int .i64 i] w fun x w' => x = .returned (.bool g) ∧ Below w.heap.size w w' := by
 by_cases hp : isP M k
 ·obtain ⟨n, e, rfl, he⟩ := hp.is
  obtain ⟨z, hz⟩ := IsAn.ex M i (e.hs.length : Int)
  have hE : (enOf r e).ok ∧ ∀ w', Below w.heap.size w w' → Calls Tryz.prog 26 #[.pointer (some ⟨b, 0, none⟩), .int .i64 (n : Int)] w' fun x w'' => x = .returned (.tuple #[.agg (enA (enOf r e)), .bool true]) ∧ Below w'.heap.size w' w'' := by
   obtain ⟨Fa, ab, _, k2⟩ := h.parts
   exact ⟨qgl_ k2 he, fun w' hb => tat_at (h.below hb) he _ rfl⟩
  have := qli_ _ (n : Int) i (enOf r e) hE.1 (e.hs.length : Nat) z (h_ rfl) true (z == (n : Int)) rfl w (h_ hE.2) (h_ fun w' hb _ => qbp_ (h.below hb) hM hl9 i _ z (fun hq => by rw [hl]; exact hq.2) hz)
  have eg : (true && z == (n : Int)) = g := by
   have h1 := Ar.qvr_ hM he hz
   have h2 : (z == (n : Int)) = true ↔ g = true := by rw [beq_iff_eq, hg, ← h1]; exact ⟨fun h => h.symm, fun h => h.symm⟩
   rw [Bool.true_and]
   exact Bool.eq_iff_iff.2 h2
  rw [eg] at this
  exact this
 ·have eg : g = false := by
   cases g
   ·rfl
   ·exact absurd (by have := (hg.1 rfl).le hM; exact ⟨this.1, this.2.2⟩) hp
  subst eg
  exact qli_ _ k i enN enN_ok 0 0 (h_ rfl) false (0 == k) rfl w (h_ fun w' hb => qsq_ (h.below hb) k hp) (h_ fun _ _ h => by cases h)
theorem qsr_ (k i : Int) (w : World) : Calls Tryz.prog 15 #[.pointer none, .int .i64 k, .int .i64 i] w fun x w' => x = .returned (.bool false) ∧ Below w.heap.size w w' :=
 qli_ _ k i enN enN_ok 0 0 (h_ rfl) false (0 == k) rfl w (h_ fun w' _ => qjw_ k w') (h_ fun _ _ h => by cases h)
end Go.Proofs.YtgaocfhlagbkpaaGreatDoor.An
namespace Go.Proofs.YtgaocfhlagbkpaaGreatDoor.An
open Go.RowKit Mem Sc NN.Rg2
open Ar (Ent Ru entZ Ok Lp hgt Up isP IsAn)
theorem tfield1 (w : World) (g : Nat) : (Instr.fieldAt 87 (.pointer (some ⟨g, 0, none⟩)) 1).run Tryz.prog w = .ok (.pointer (some ⟨g, 1, none⟩)) w := by kernel_rfl
theorem ld_ints {w : World} {p : Addr} {a : Option Addr} {n c : Nat} (h : w.cell? p = some (.slice a n c)) : (loadVar 43 p).run Tryz.prog w = .ok (.slice a n c) w := by
 go_simp
theorem tr_set {w : World} {b ab : Nat} {v : Value} (h : Has w b (trA ab v) 87) (v' : Value) : Has (w.setCell ⟨b, 1, none⟩ v') b (trA ab v') 87 := Has.set (i := 1) h v'
def TaR (tp ap : Value) (h : Hd) (now x1 x2 x3 : Int) : Nat → Value → Prop
 | 0, u => u = tp
 | 1, u => u = ap
 | 2, u => u = .agg (hdA h)
 | 3, u => u = .int .i64 now
 | 4, u | 5, u => u = .tuple #[.int .i64 x1, .int .i64 x2, .int .i64 x3]
 | 6, u | 9, u => u = .int .i64 x1
 | 7, u | 10, u => u = .int .i64 x2
 | 8, u | 11, u => u = .int .i64 x3
 | _, _ => now = now
def TgR (b bE g n c : Nat) (ua k q y : Int) : Nat → Value → Prop
 | 0, v | 1, v | 2, v | 5, v | 14, v => v = .pointer (some ⟨b, 0, none⟩)
 | 3, v | 15, v => v = .pointer (some ⟨b, 1, none⟩)
 | 4, v => v = .slice (some ⟨g, 0, none⟩) n c
 | 6, v => v = .pointer (some ⟨bE, 100, none⟩)
 | 7, v => v = .int .i64 ua
 | 8, v => v = .pointer (some ⟨bE, 101, none⟩)
 | 9, v => v = .int .i64 k
 | 10, v => v = .int .i64 q
 | 11, v => v = .int .i64 y
 | _, _ => b = b
theorem qss_ (ab : Nat) (v : Value) (hv : v.oneCell' = true) : Tryz.prog.built 87 [(0, .pointer (some ⟨ab, 0, none⟩)), (1, v)] = some (trA ab v) := by
 have h : Tryz.prog.built 87 [(0, .pointer (some ⟨ab, 0, none⟩)), (1, v)] = Instr.fill ((#[(0, 1), (1, 1)] : Array (Nat × Nat))[·]?) #[.pointer none, .slice none 0 0] [(0, .pointer (some ⟨ab, 0, none⟩)), (1, v)] := by kernel_rfl
 rw [h]
 cases v <;> first | rfl | cases hv
theorem tnew_w (p : NN.Pr) (hp : p.ok) (room : Int) (r : Ru) (w : World) (KN : Hid (∀ w', Below w.heap.size w w' → Calls Tryz.prog 23 #[.agg (NN.prA p), .int .i64 room] w' fun e w'' => ∃ b F, e = .returned (.tuple #[.pointer (some ⟨b, 0, none⟩), .int .i64 0]) ∧ ArS w'' F b r [entZ] ∧ (∀ i, F i → w'.heap.size ≤ i) ∧ Below w'.heap.size w' w'')) :
  Calls Tryz.prog 22 #[.agg (NN.prA p), .int .i64 room] w fun e w' => ∃ b F, e = .returned (.tuple #[.pointer (some ⟨b, 0, none⟩), .int .i64 0]) ∧ TrS w' F b r [entZ] [-1] ∧ (∀ i, F i → w.heap.size ≤ i) ∧ Below w.heap.size w w' := by
 have hz := NN.qar_ hp
 go_enter Tryz.func22, Tryz.ntmps22
 go_upto_region 1 with fail
 generalize hw0 : World.alloc _ _ = v0
 have hB : Below w.heap.size w v0 := bl_ hw0
 have hP : NN.PrAt v0 w.heap.size p := by rw [← hw0]; exact NN.Has.new _ _
 clear hw0
 go_wp2_with (first | fail | (with_reducible refine NN.qp_ rfl _ rfl _ rfl hP hz ?_))
 refine (KN.out _ hB).mono ?_
 rintro e v1 ⟨ab, Fa, rfl, hA, hF, hb⟩
 have hF0 : ∀ i, Fa i → w.heap.size ≤ i := fun i hi => Nat.le_trans hB.size (hF i hi)
 replace hB := tb_ hB hb
 clear hb hP hF
 have hmk := fun w => qcp_ w (-1)
 have hbt := fun g => qss_ ab (.slice (some ⟨g, 0, none⟩) 1 1) rfl
 go_wp2_with fail
 have hL1 : Has (v1.alloc (.cells #[.int .i64 (-1)] 3)) v1.heap.size #[.int .i64 (-1)] 3 := Has.new _ _
 have hbL : Below v1.heap.size v1 (v1.alloc (.cells #[.int .i64 (-1)] 3)) := (Below.refl _ _).alloc (Nat.le_refl _) _
 have hsz : (v1.alloc (.cells #[.int .i64 (-1)] 3)).heap.size = v1.heap.size + 1 := by simp
 generalize v1.alloc (.cells #[.int .i64 (-1)] 3) = v2 at *
 have hT : Has (v2.alloc (.cells (trA ab (.slice (some ⟨v1.heap.size, 0, none⟩) 1 1)) 87)) v2.heap.size (trA ab (.slice (some ⟨v1.heap.size, 0, none⟩) 1 1)) 87 := Has.new _ _
 rw [hsz] at hT
 have hbT : Below v2.heap.size v2 (v2.alloc (.cells (trA ab (.slice (some ⟨v1.heap.size, 0, none⟩) 1 1)) 87)) := (Below.refl _ _).alloc (Nat.le_refl _) _
 have hsz2 : (v2.alloc (.cells (trA ab (.slice (some ⟨v1.heap.size, 0, none⟩) 1 1)) 87)).heap.size = v2.heap.size + 1 := by simp
 go_ret2
 have hb2 : Below v1.heap.size v1 (v2.alloc (.cells (trA ab (.slice (some ⟨v1.heap.size, 0, none⟩) 1 1)) 87)) := tb_ hbL hbT
 have hs := hB.size
 have hA1 := hA.1
 refine ⟨v1.heap.size + 1, fun i => Fa i ∨ i = v1.heap.size ∨ i = v1.heap.size + 1, rfl, ⟨fun i hi => ?_, Fa, ab, .slice (some ⟨v1.heap.size, 0, none⟩) 1 1, hT, hA.below hb2, ⟨rfl, .inr ⟨v1.heap.size, 1, _, rfl, Nat.zero_le _, qd_ hbT hL1 (Has.lt hL1), Nat.le_refl _, by decide, rfl, rfl⟩⟩, Lp.one, .inr (.inr rfl), fun i hi => .inl hi, fun i hi => ?_, fun hf => ?_, fun i hi hf => ?_⟩, fun i hi => ?_, hB.trans (hb2.mono hs)⟩
 ·show i < (v2.alloc (.cells (trA ab (.slice (some ⟨v1.heap.size, 0, none⟩) 1 1)) 87)).heap.size
  rcases hi with hi | rfl | rfl
  ·have := hA1 i hi; omega
  ·omega
  ·omega
 ·exact .inr (.inl (Option.some.inj hi).symm)
 ·have := hA1 _ hf; omega
 ·have h1 : v1.heap.size = i := Option.some.inj hi
  have := hA1 _ hf; omega
 ·rcases hi with hi | rfl | rfl
  ·exact hF0 i hi
  ·exact hs
  ·omega
theorem qst_ (tp ap : Value) (h : Hd) (ho : h.ok) (now x1 x2 x3 : Int) (X : World → World → Prop) (w : World)
  (KH : Hid (HeldIs w tp ap)) (KAdd : Hid (∀ w', Below w.heap.size w w' → Calls Tryz.prog 24 #[ap, .agg (hdA h), .int .i64 now] w' fun e w'' => e = .returned (.tuple #[.int .i64 x1, .int .i64 x2, .int .i64 x3]) ∧ X w' w'')) (hx : (x3 == 0) = false) :
  Calls Tryz.prog 16 #[tp, .agg (hdA h), .int .i64 now] w fun e w' => e = .returned (.tuple #[.int .i64 x1, .int .i64 x2, .int .i64 x3]) ∧ ∃ vx, Below w.heap.size w vx ∧ X vx w' := by
 have za := qs_ ho
 go_enter Tryz.func16, Tryz.ntmps16
 go_upto_region 1 with fail
 generalize hw0 : World.alloc _ _ = v0
 have hB : Below w.heap.size w v0 := bl_ hw0
 have hH : HdAt v0 w.heap.size h := by rw [← hw0]; exact Has.new _ _
 clear hw0
 obtain ⟨bH, hbH⟩ : ∃ x, x = w.heap.size := ⟨_, rfl⟩
 rw [← hbH] at hH ⊢
 clear hbH
 refine qi_ (by kernel_rfl) (fun _ => True) (fun i v' _ => TaR tp ap h now x1 x2 x3 i v') (fun l _ w' => Ph 4 (fun w' => Below w.heap.size w w' ∧ HdAt w' bH h) (fun w' => ∃ vx, Below w.heap.size w vx ∧ X vx w') l w') (fun _ _ => True) (fun _ _ => trivial) (fun _ _ _ _ _ _ h => h) (by kernel_rfl) trivial ?_ ?_ ?_
 ·exact fun l hl => Ph.zero hl ⟨hB.trans ((Below.refl _ _).drew.mono hB.size), Has.drew hH⟩
 ·intro i o listed a wx ho' hnl hdep hinv
  have hC := hinv.c
  have hI := hinv.i
  have hi : i < 12 := (Array.getElem?_eq_some_iff.1 ho').1
  obtain rfl | rfl | rfl | rfl | rfl | rfl | rfl | rfl | rfl | rfl | rfl | rfl : i = 0 ∨ i = 1 ∨ i = 2 ∨ i = 3 ∨ i = 4 ∨ i = 5 ∨ i = 6 ∨ i = 7 ∨ i = 8 ∨ i = 9 ∨ i = 10 ∨ i = 11 := by omega
  all_goals obtain rfl := Option.some.inj ho'
  ·have hsz := hz_ hinv 0
   exact dv_ 0 hinv (qa_ rfl) (NN.qr_ rfl) (hinv.old' 0) (hI.keep hsz (by decide))
  ·have hsz := hz_ hinv 1
   have hnK := ah_ hinv hnl 4
   have hpre := hI.pre hnK hsz (by decide)
   exact dC_ (S := T2_) 1 hinv (qa_ rfl) (f := 38) (args := #[a.eval (.tmp 15)]) (by kernel_rfl) (by rw [show a.eval (.tmp 15) = _ from (gd_ hinv hdep 0 15)];  exact KH.out wx hpre.1) (fun w' hb => ⟨trivial, trivial, rfl, Ph.made hnK (⟨tb_ hpre.1 hb, hpre.2.on hb⟩)⟩)
  ·have hsz := hz_ hinv 2
   have hnK := ah_ hinv hnl 4
   have hpre := hI.pre hnK hsz (by decide)
   exact dv_ 2 hinv (qa_ rfl) (qcb_ rfl (hinv.old' 4) hpre.2 za) rfl (hI.keep hsz (by decide))
  ·have hsz := hz_ hinv 3
   exact dv_ 3 hinv (qa_ rfl) (NN.qr_ rfl) (hinv.old' 2) (hI.keep hsz (by decide))
  ·have hsz := hz_ hinv 4
   have hpre := hI.1 hnl
   exact dA_ (S := T2_) 4 hinv (qa_ rfl) (f := 24) (args := #[a.eval (.tmp 16), a.eval (.tmp 17), a.eval (.tmp 18)]) (by kernel_rfl) (by
    rw [show a.eval (.tmp 16) = _ from (gd_ hinv hdep 1 16), show a.eval (.tmp 17) = _ from (gd_ hinv hdep 2 17), show a.eval (.tmp 18) = _ from (gd_ hinv hdep 3 18)]
    refine (KAdd.out wx hpre.1).mono ?_
    rintro r w' ⟨rfl, hX⟩
    exact ⟨_, rfl, trivial, trivial, rfl, Ph.last hsz ⟨wx, hpre.1, hX⟩⟩)
  ·have hsz := hz_ hinv 5
   exact dv_ 5 hinv (qa_ rfl) (NN.qr_ rfl) (gd_ hinv hdep 4 19) (hI.keep hsz (by decide))
  ·have hsz := hz_ hinv 6
   exact dv_ 6 hinv (qa_ rfl) (NN.qw_ rfl (gd_ hinv hdep 5 14) rfl) rfl (hI.keep hsz (by decide))
  ·have hsz := hz_ hinv 7
   exact dv_ 7 hinv (qa_ rfl) (NN.qw_ rfl (gd_ hinv hdep 5 14) rfl) rfl (hI.keep hsz (by decide))
  ·have hsz := hz_ hinv 8
   exact dv_ 8 hinv (qa_ rfl) (NN.qw_ rfl (gd_ hinv hdep 5 14) rfl) rfl (hI.keep hsz (by decide))
  ·have hsz := hz_ hinv 9
   exact dv_ 9 hinv (qa_ rfl) (NN.qak_ rfl) (gd_ hinv hdep 6 20) (hI.keep hsz (by decide))
  ·have hsz := hz_ hinv 10
   exact dv_ 10 hinv (qa_ rfl) (NN.qak_ rfl) (gd_ hinv hdep 7 21) (hI.keep hsz (by decide))
  ·have hsz := hz_ hinv 11
   exact dv_ 11 hinv (qa_ rfl) (NN.qak_ rfl) (gd_ hinv hdep 8 22) (hI.keep hsz (by decide))
 intro listed a' v1 hall hinv
 obtain ⟨vx, hBx, hX⟩ := hinv.i.2 (hall 4 (by decide))
 have e9 : a'.eval (.tmp 9) = .int .i64 x1 := hinv.got 9 _ 9 rfl (hall 9 (by decide)) rfl
 have e10 : a'.eval (.tmp 10) = .int .i64 x2 := hinv.got 10 _ 10 rfl (hall 10 (by decide)) rfl
 have e11 : a'.eval (.tmp 11) = .int .i64 x3 := hinv.got 11 _ 11 rfl (hall 11 (by decide)) rfl
 have e0 : a'.eval (.tmp 0) = tp := hinv.old' 0
 obtain ⟨u, hu⟩ : ∃ u : Nat → Value, ∀ t, u t = a'.eval (.tmp t) := ⟨_, fun _ => rfl⟩
 rw [qay_ a' 59 u hinv.tsize hinv.defers hu]
 rw [← hu] at e0 e9 e10 e11
 clear hu hinv hall
 simp only [List.range, List.range.loop, List.map_cons, List.map_nil]
 rw [e0, e9, e10, e11]
 clear e0 e9 e10 e11
 clear hB hH KH KAdd
 go_wp2_with fail
 go_ret3
 exact ⟨rfl, vx, hBx, hX⟩
theorem qadf_ (b : Nat) (ap : Value) (h : Hd) (ho : h.ok) (now x1 x2 x3 : Int) (X : World → World → Prop) (w : World)
  (KH : Hid (HeldIs w (.pointer (some ⟨b, 0, none⟩)) ap)) (KAdd : Hid (∀ w', Below w.heap.size w w' → Calls Tryz.prog 24 #[ap, .agg (hdA h), .int .i64 now] w' fun e w'' => e = .returned (.tuple #[.int .i64 x1, .int .i64 x2, .int .i64 x3]) ∧ X w' w'')) (n : Nat) (hx : (x3 == 0) = true) (hx2 : (x1 == (n : Int)) = false) (HV : Hid (∀ w' w'', Below w.heap.size w w' → X w' w'' → ∃ a c, w''.cell? ⟨b, 1, none⟩ = some (.slice a n c))) :
  Calls Tryz.prog 16 #[.pointer (some ⟨b, 0, none⟩), .agg (hdA h), .int .i64 now] w fun e w' => e = .returned (.tuple #[.int .i64 x1, .int .i64 x2, .int .i64 x3]) ∧ ∃ vx, Below w.heap.size w vx ∧ X vx w' := by
 have za := qs_ ho
 go_enter Tryz.func16, Tryz.ntmps16
 go_upto_region 1 with fail
 generalize hw0 : World.alloc _ _ = v0
 have hB : Below w.heap.size w v0 := bl_ hw0
 have hH : HdAt v0 w.heap.size h := by rw [← hw0]; exact Has.new _ _
 clear hw0
 obtain ⟨bH, hbH⟩ : ∃ x, x = w.heap.size := ⟨_, rfl⟩
 rw [← hbH] at hH ⊢
 clear hbH
 refine qi_ (by kernel_rfl) (fun _ => True) (fun i v' _ => TaR (.pointer (some ⟨b, 0, none⟩)) ap h now x1 x2 x3 i v') (fun l _ w' => Ph 4 (fun w' => Below w.heap.size w w' ∧ HdAt w' bH h) (fun w' => ∃ vx, Below w.heap.size w vx ∧ X vx w') l w') (fun _ _ => True) (fun _ _ => trivial) (fun _ _ _ _ _ _ h => h) (by kernel_rfl) trivial ?_ ?_ ?_
 ·exact fun l hl => Ph.zero hl ⟨hB.trans ((Below.refl _ _).drew.mono hB.size), Has.drew hH⟩
 ·intro i o listed a wx ho' hnl hdep hinv
  have hC := hinv.c
  have hI := hinv.i
  have hi : i < 12 := (Array.getElem?_eq_some_iff.1 ho').1
  obtain rfl | rfl | rfl | rfl | rfl | rfl | rfl | rfl | rfl | rfl | rfl | rfl : i = 0 ∨ i = 1 ∨ i = 2 ∨ i = 3 ∨ i = 4 ∨ i = 5 ∨ i = 6 ∨ i = 7 ∨ i = 8 ∨ i = 9 ∨ i = 10 ∨ i = 11 := by omega
  all_goals obtain rfl := Option.some.inj ho'
  ·have hsz := hz_ hinv 0
   exact dv_ 0 hinv (qa_ rfl) (NN.qr_ rfl) (hinv.old' 0) (hI.keep hsz (by decide))
  ·have hsz := hz_ hinv 1
   have hnK := ah_ hinv hnl 4
   have hpre := hI.pre hnK hsz (by decide)
   exact dC_ (S := T2_) 1 hinv (qa_ rfl) (f := 38) (args := #[a.eval (.tmp 15)]) (by kernel_rfl) (by rw [show a.eval (.tmp 15) = _ from (gd_ hinv hdep 0 15)];  exact KH.out wx hpre.1) (fun w' hb => ⟨trivial, trivial, rfl, Ph.made hnK (⟨tb_ hpre.1 hb, hpre.2.on hb⟩)⟩)
  ·have hsz := hz_ hinv 2
   have hnK := ah_ hinv hnl 4
   have hpre := hI.pre hnK hsz (by decide)
   exact dv_ 2 hinv (qa_ rfl) (qcb_ rfl (hinv.old' 4) hpre.2 za) rfl (hI.keep hsz (by decide))
  ·have hsz := hz_ hinv 3
   exact dv_ 3 hinv (qa_ rfl) (NN.qr_ rfl) (hinv.old' 2) (hI.keep hsz (by decide))
  ·have hsz := hz_ hinv 4
   have hpre := hI.1 hnl
   exact dA_ (S := T2_) 4 hinv (qa_ rfl) (f := 24) (args := #[a.eval (.tmp 16), a.eval (.tmp 17), a.eval (.tmp 18)]) (by kernel_rfl) (by
    rw [show a.eval (.tmp 16) = _ from (gd_ hinv hdep 1 16), show a.eval (.tmp 17) = _ from (gd_ hinv hdep 2 17), show a.eval (.tmp 18) = _ from (gd_ hinv hdep 3 18)]
    refine (KAdd.out wx hpre.1).mono ?_
    rintro r w' ⟨rfl, hX⟩
    exact ⟨_, rfl, trivial, trivial, rfl, Ph.last hsz ⟨wx, hpre.1, hX⟩⟩)
  ·have hsz := hz_ hinv 5
   exact dv_ 5 hinv (qa_ rfl) (NN.qr_ rfl) (gd_ hinv hdep 4 19) (hI.keep hsz (by decide))
  ·have hsz := hz_ hinv 6
   exact dv_ 6 hinv (qa_ rfl) (NN.qw_ rfl (gd_ hinv hdep 5 14) rfl) rfl (hI.keep hsz (by decide))
  ·have hsz := hz_ hinv 7
   exact dv_ 7 hinv (qa_ rfl) (NN.qw_ rfl (gd_ hinv hdep 5 14) rfl) rfl (hI.keep hsz (by decide))
  ·have hsz := hz_ hinv 8
   exact dv_ 8 hinv (qa_ rfl) (NN.qw_ rfl (gd_ hinv hdep 5 14) rfl) rfl (hI.keep hsz (by decide))
  ·have hsz := hz_ hinv 9
   exact dv_ 9 hinv (qa_ rfl) (NN.qak_ rfl) (gd_ hinv hdep 6 20) (hI.keep hsz (by decide))
  ·have hsz := hz_ hinv 10
   exact dv_ 10 hinv (qa_ rfl) (NN.qak_ rfl) (gd_ hinv hdep 7 21) (hI.keep hsz (by decide))
  ·have hsz := hz_ hinv 11
   exact dv_ 11 hinv (qa_ rfl) (NN.qak_ rfl) (gd_ hinv hdep 8 22) (hI.keep hsz (by decide))
 intro listed a' v1 hall hinv
 obtain ⟨vx, hBx, hX⟩ := hinv.i.2 (hall 4 (by decide))
 have e9 : a'.eval (.tmp 9) = .int .i64 x1 := hinv.got 9 _ 9 rfl (hall 9 (by decide)) rfl
 have e10 : a'.eval (.tmp 10) = .int .i64 x2 := hinv.got 10 _ 10 rfl (hall 10 (by decide)) rfl
 have e11 : a'.eval (.tmp 11) = .int .i64 x3 := hinv.got 11 _ 11 rfl (hall 11 (by decide)) rfl
 have e0 : a'.eval (.tmp 0) = (.pointer (some ⟨b, 0, none⟩)) := hinv.old' 0
 obtain ⟨u, hu⟩ : ∃ u : Nat → Value, ∀ t, u t = a'.eval (.tmp t) := ⟨_, fun _ => rfl⟩
 rw [qay_ a' 59 u hinv.tsize hinv.defers hu]
 rw [← hu] at e0 e9 e10 e11
 clear hu hinv hall
 simp only [List.range, List.range.loop, List.map_cons, List.map_nil]
 rw [e0, e9, e10, e11]
 clear e0 e9 e10 e11
 clear hB hH KH KAdd
 obtain ⟨al, cl, c1⟩ := HV.out vx v1 hBx hX
 go_wp2_with fail
 go_ret3
 exact ⟨rfl, vx, hBx, hX⟩
theorem qadg_ (b ab g n c : Nat) (ap : Value) (h : Hd) (ho : h.ok) (now x2 : Int) (X : World → World → Prop) (w : World)
  (KH : Hid (HeldIs w (.pointer (some ⟨b, 0, none⟩)) ap)) (KAdd : Hid (∀ w', Below w.heap.size w w' → Calls Tryz.prog 24 #[ap, .agg (hdA h), .int .i64 now] w' fun e w'' => e = .returned (.tuple #[.int .i64 (n : Int), .int .i64 x2, .int .i64 0]) ∧ X w' w'')) (ls : List Int) (h9 : n ≤ 1000) (E : En) (hE : E.ok) (ua k q y : Int) (HU : Hid (E.up = ua)) (HT : Hid (E.ht = k)) (hne : b ≠ g)
  (HV : Hid (∀ w' w'', Below w.heap.size w w' → X w' w'' → Has w'' b (trA ab (.slice (some ⟨g, 0, none⟩) n c)) 87 ∧ w''.ownsRow 0 3 1 (.slice (some ⟨g, 0, none⟩) n c) n (ls.map (Value.int .i64))))
  (KAt : Hid (∀ w' w'', Below w.heap.size w w' → X w' w'' → ∀ w3, Below w''.heap.size w'' w3 → Calls Tryz.prog 26 #[.pointer (some ⟨b, 0, none⟩), .int .i64 (n : Int)] w3 fun x w4 => x = .returned (.tuple #[.agg (enA E), .bool true]) ∧ Below w3.heap.size w3 w4))
  (KHt : HG_ 34 #[.int .i64 k] (.int .i64 q))
  (KAn0 : Hid (∀ w' w'', Below w.heap.size w w' → X w' w'' → ∀ w3, Below w''.heap.size w'' w3 → Calls Tryz.prog 11 #[.pointer (some ⟨b, 0, none⟩), .int .i64 ua, .int .i64 q] w3 fun x w4 => x = .returned (.int .i64 y) ∧ Below w3.heap.size w3 w4)) :
  Calls Tryz.prog 16 #[.pointer (some ⟨b, 0, none⟩), .agg (hdA h), .int .i64 now] w fun e w' => e = .returned (.tuple #[.int .i64 (n : Int), .int .i64 x2, .int .i64 0]) ∧ ∃ vx v1 v2 v', Below w.heap.size w vx ∧ X vx v1 ∧ Below v1.heap.size v1 v2 ∧ Kp (fun i => i = b ∨ i = g) v2 w' ∧ Has w' b (trA ab v') 87 ∧ w'.ownsRow 0 3 1 v' (n + 1) ((ls ++ [y]).map (Value.int .i64)) ∧ (v'.ownBlock = some g ∨ ∃ g', v'.ownBlock = some g' ∧ v2.heap.size ≤ g') := by
 have za := qs_ ho
 go_enter Tryz.func16, Tryz.ntmps16
 go_upto_region 1 with fail
 generalize hw0 : World.alloc _ _ = v0
 have hB : Below w.heap.size w v0 := bl_ hw0
 have hH : HdAt v0 w.heap.size h := by rw [← hw0]; exact Has.new _ _
 clear hw0
 obtain ⟨bH, hbH⟩ : ∃ x, x = w.heap.size := ⟨_, rfl⟩
 rw [← hbH] at hH ⊢
 clear hbH
 refine qi_ (by kernel_rfl) (fun _ => True) (fun i v' _ => TaR (.pointer (some ⟨b, 0, none⟩)) ap h now (n : Int) x2 0 i v') (fun l _ w' => Ph 4 (fun w' => Below w.heap.size w w' ∧ HdAt w' bH h) (fun w' => ∃ vx, Below w.heap.size w vx ∧ X vx w') l w') (fun _ _ => True) (fun _ _ => trivial) (fun _ _ _ _ _ _ h => h) (by kernel_rfl) trivial ?_ ?_ ?_
 ·exact fun l hl => Ph.zero hl ⟨hB.trans ((Below.refl _ _).drew.mono hB.size), Has.drew hH⟩
 ·intro i o listed a wx ho' hnl hdep hinv
  have hC := hinv.c
  have hI := hinv.i
  have hi : i < 12 := (Array.getElem?_eq_some_iff.1 ho').1
  obtain rfl | rfl | rfl | rfl | rfl | rfl | rfl | rfl | rfl | rfl | rfl | rfl : i = 0 ∨ i = 1 ∨ i = 2 ∨ i = 3 ∨ i = 4 ∨ i = 5 ∨ i = 6 ∨ i = 7 ∨ i = 8 ∨ i = 9 ∨ i = 10 ∨ i = 11 := by omega
  all_goals obtain rfl := Option.some.inj ho'
  ·have hsz := hz_ hinv 0
   exact dv_ 0 hinv (qa_ rfl) (NN.qr_ rfl) (hinv.old' 0) (hI.keep hsz (by decide))
  ·have hsz := hz_ hinv 1
   have hnK := ah_ hinv hnl 4
   have hpre := hI.pre hnK hsz (by decide)
   exact dC_ (S := T2_) 1 hinv (qa_ rfl) (f := 38) (args := #[a.eval (.tmp 15)]) (by kernel_rfl) (by rw [show a.eval (.tmp 15) = _ from (gd_ hinv hdep 0 15)];  exact KH.out wx hpre.1) (fun w' hb => ⟨trivial, trivial, rfl, Ph.made hnK (⟨tb_ hpre.1 hb, hpre.2.on hb⟩)⟩)
  ·have hsz := hz_ hinv 2
   have hnK := ah_ hinv hnl 4
   have hpre := hI.pre hnK hsz (by decide)
   exact dv_ 2 hinv (qa_ rfl) (qcb_ rfl (hinv.old' 4) hpre.2 za) rfl (hI.keep hsz (by decide))
  ·have hsz := hz_ hinv 3
   exact dv_ 3 hinv (qa_ rfl) (NN.qr_ rfl) (hinv.old' 2) (hI.keep hsz (by decide))
  ·have hsz := hz_ hinv 4
   have hpre := hI.1 hnl
   exact dA_ (S := T2_) 4 hinv (qa_ rfl) (f := 24) (args := #[a.eval (.tmp 16), a.eval (.tmp 17), a.eval (.tmp 18)]) (by kernel_rfl) (by
    rw [show a.eval (.tmp 16) = _ from (gd_ hinv hdep 1 16), show a.eval (.tmp 17) = _ from (gd_ hinv hdep 2 17), show a.eval (.tmp 18) = _ from (gd_ hinv hdep 3 18)]
    refine (KAdd.out wx hpre.1).mono ?_
    rintro r w' ⟨rfl, hX⟩
    exact ⟨_, rfl, trivial, trivial, rfl, Ph.last hsz ⟨wx, hpre.1, hX⟩⟩)
  ·have hsz := hz_ hinv 5
   exact dv_ 5 hinv (qa_ rfl) (NN.qr_ rfl) (gd_ hinv hdep 4 19) (hI.keep hsz (by decide))
  ·have hsz := hz_ hinv 6
   exact dv_ 6 hinv (qa_ rfl) (NN.qw_ rfl (gd_ hinv hdep 5 14) rfl) rfl (hI.keep hsz (by decide))
  ·have hsz := hz_ hinv 7
   exact dv_ 7 hinv (qa_ rfl) (NN.qw_ rfl (gd_ hinv hdep 5 14) rfl) rfl (hI.keep hsz (by decide))
  ·have hsz := hz_ hinv 8
   exact dv_ 8 hinv (qa_ rfl) (NN.qw_ rfl (gd_ hinv hdep 5 14) rfl) rfl (hI.keep hsz (by decide))
  ·have hsz := hz_ hinv 9
   exact dv_ 9 hinv (qa_ rfl) (NN.qak_ rfl) (gd_ hinv hdep 6 20) (hI.keep hsz (by decide))
  ·have hsz := hz_ hinv 10
   exact dv_ 10 hinv (qa_ rfl) (NN.qak_ rfl) (gd_ hinv hdep 7 21) (hI.keep hsz (by decide))
  ·have hsz := hz_ hinv 11
   exact dv_ 11 hinv (qa_ rfl) (NN.qak_ rfl) (gd_ hinv hdep 8 22) (hI.keep hsz (by decide))
 intro listed a' v1 hall hinv
 obtain ⟨vx, hBx, hX⟩ := hinv.i.2 (hall 4 (by decide))
 have e9 : a'.eval (.tmp 9) = .int .i64 (n : Int) := hinv.got 9 _ 9 rfl (hall 9 (by decide)) rfl
 have e10 : a'.eval (.tmp 10) = .int .i64 x2 := hinv.got 10 _ 10 rfl (hall 10 (by decide)) rfl
 have e11 : a'.eval (.tmp 11) = .int .i64 0 := hinv.got 11 _ 11 rfl (hall 11 (by decide)) rfl
 have e0 : a'.eval (.tmp 0) = (.pointer (some ⟨b, 0, none⟩)) := hinv.old' 0
 obtain ⟨u, hu⟩ : ∃ u : Nat → Value, ∀ t, u t = a'.eval (.tmp t) := ⟨_, fun _ => rfl⟩
 rw [qay_ a' 59 u hinv.tsize hinv.defers hu]
 rw [← hu] at e0 e9 e10 e11
 clear hu hinv hall
 simp only [List.range, List.range.loop, List.map_cons, List.map_nil]
 rw [e0, e9, e10, e11]
 clear e0 e9 e10 e11
 clear hB hH KH KAdd
 obtain ⟨hA0, rL0⟩ := HV.out vx v1 hBx hX
 have KA1 := h_ (KAt.out vx v1 hBx hX)
 have KA2 := h_ (KAn0.out vx v1 hBx hX)
 have HQ := h_ (And.intro hBx hX)
 clear HV KAt KAn0 hBx hX
 have c1 := Has.cell hA0 1
 have hB := Below.refl v1.heap.size v1
 have t3 : ((n : Int) == (n : Int)) = true := by simp
 have c1' : v1.cell? ⟨b, 1, none⟩ = some (.slice (some ⟨g, 0, none⟩) n c) := c1
 clear c1
 go_wp2_with fail
 refine (KA1.out _ hB).mono ?_
 rintro x v1' ⟨rfl, hb⟩
 replace hB := tb_ hB hb
 clear hb KA1 c1'
 have hnew := qcc_ v1'
 have hE1 := qhk_ v1' E
 have ze := qz_ hE
 have z0 := qz_ enZ_ok
 have hb3 := qcr_ v1' 68 Tryz.zeroCells68 (enA E)
 go_upto_region 4 with (with_reducible refine qbi_ rfl _ _ rfl _ _ E rfl rfl rfl ze hnew z0 ?_)
 generalize World.setRow _ _ _ = v2 at *
 obtain ⟨bE, hbE⟩ : ∃ x, x = v1'.heap.size := ⟨_, rfl⟩
 rw [← hbE] at hE1 ⊢
 have hlt1 := Has.lt hA0
 have hlt2 := (row_lt rL0 (i := g) rfl).1
 have hs1 := hB.size
 have fE : ¬ (bE = b ∨ bE = g) := fun h => by rcases h with h | h <;> omega
 replace hB := tb_ hB hb3
 have k0 := Kp.of (F := fun _ => False) hB
 have hA := k0.has hA0 (fun h => h)
 have rL := kp_row rL0 k0 (fun _ _ h => h)
 have KAn : Hid (∀ w3, Below v2.heap.size v2 w3 → Calls Tryz.prog 11 #[.pointer (some ⟨b, 0, none⟩), .int .i64 ua, .int .i64 q] w3 fun x w4 => x = .returned (.int .i64 y) ∧ Below w3.heap.size w3 w4) := h_ fun w3 hb => KA2.out w3 (tb_ hB hb)
 have HNE : Hid (g ≠ b) := h_ fun h => hne h.symm
 clear hbE hlt1 hlt2 hs1 hb3 hnew k0 hA0 rL0 KA2 hne
 refine qi_ (by kernel_rfl) (fun w' => Kp (fun i => i = b ∨ i = g) v2 w') (fun i v' _ => TgR b bE g n c ua k q y i v') (fun l a w' => ApI 12 13 16 52 53 v2.heap.size 3 87 1 (fun cs => cs = #[.int .i64 y]) (.slice (some ⟨g, 0, none⟩) n c) n (ls.map (Value.int .i64)) b (fun u => trA ab u) l a w' ∧ Ph 13 (fun w' => Below v2.heap.size v2 w') (fun _ => True) l w') (fun _ _ => True) (fun _ _ => trivial) (fun _ _ _ _ _ _ h => h) (by kernel_rfl) (Kp.of (Below.refl _ _).drew) ?_ ?_ ?_
 ·exact fun l hl => ⟨ApI.zero hl (kp_row rL (Kp.of (F := fun _ => False) (Below.refl _ _).drew) (fun _ _ h => h)) (Has.drew hA), Ph.zero hl (Below.refl _ _).drew⟩
 ·intro i o listed a wx ho' hnl hdep hinv
  have hC := hinv.c
  have hI := hinv.i
  have hi : i < 17 := (Array.getElem?_eq_some_iff.1 ho').1
  have hEx : EnAt wx bE E := hC.has hE1 fE
  have hlx : v2.heap.size ≤ wx.heap.size := hC.size
  obtain rfl | rfl | rfl | rfl | rfl | rfl | rfl | rfl | rfl | rfl | rfl | rfl | rfl | rfl | rfl | rfl | rfl : i = 0 ∨ i = 1 ∨ i = 2 ∨ i = 3 ∨ i = 4 ∨ i = 5 ∨ i = 6 ∨ i = 7 ∨ i = 8 ∨ i = 9 ∨ i = 10 ∨ i = 11 ∨ i = 12 ∨ i = 13 ∨ i = 14 ∨ i = 15 ∨ i = 16 := by omega
  all_goals obtain rfl := Option.some.inj ho'
  ·have hsz := hz_ hinv 0
   exact dv_ 0 hinv (qa_ rfl) (NN.qr_ rfl) (hinv.old' 0) ⟨hI.1.keep hsz (by decide) (by decide) (by decide) _ _ (by decide) (by decide), hI.2.keep hsz (by decide)⟩
  ·have hsz := hz_ hinv 1
   exact dv_ 1 hinv (qa_ rfl) (NN.qr_ rfl) (hinv.old' 0) ⟨hI.1.keep hsz (by decide) (by decide) (by decide) _ _ (by decide) (by decide), hI.2.keep hsz (by decide)⟩
  ·have hsz := hz_ hinv 2
   exact dv_ 2 hinv (qa_ rfl) (ex_nil rfl (gd_ hinv hdep 1 41)) rfl ⟨hI.1.keep hsz (by decide) (by decide) (by decide) _ _ (by decide) (by decide), hI.2.keep hsz (by decide)⟩
  ·have hsz := hz_ hinv 3
   exact dv_ 3 hinv (qa_ rfl) (qaj_ rfl (gd_ hinv hdep 2 42) (tfield1 wx b)) rfl ⟨hI.1.keep hsz (by decide) (by decide) (by decide) _ _ (by decide) (by decide), hI.2.keep hsz (by decide)⟩
  ·have hsz := hz_ hinv 4
   have hks := ah_ hinv hnl 16
   have hAx := hI.1.ha (by rw [← qn_ listed 4 16 hsz (by decide)]; exact hks)
   exact dv_ 4 hinv (qa_ rfl) (qdk_ rfl (gd_ hinv hdep 3 43) (ld_ints (Has.cell hAx 1))) rfl ⟨hI.1.keep hsz (by decide) (by decide) (by decide) _ _ (by decide) (by decide), hI.2.keep hsz (by decide)⟩
  ·have hsz := hz_ hinv 5
   exact dv_ 5 hinv (qa_ rfl) (NN.qr_ rfl) (hinv.old' 0) ⟨hI.1.keep hsz (by decide) (by decide) (by decide) _ _ (by decide) (by decide), hI.2.keep hsz (by decide)⟩
  ·have hsz := hz_ hinv 6
   exact dv_ 6 hinv (qa_ rfl) (qaj_ rfl (hinv.old' 12) (efield2 wx bE)) rfl ⟨hI.1.keep hsz (by decide) (by decide) (by decide) _ _ (by decide) (by decide), hI.2.keep hsz (by decide)⟩
  ·have hsz := hz_ hinv 7
   exact dv_ 7 hinv (qa_ rfl) (NN.qbd_ rfl (gd_ hinv hdep 6 46) (EnAt.up hEx hE HU)) rfl ⟨hI.1.keep hsz (by decide) (by decide) (by decide) _ _ (by decide) (by decide), hI.2.keep hsz (by decide)⟩
  ·have hsz := hz_ hinv 8
   exact dv_ 8 hinv (qa_ rfl) (qaj_ rfl (hinv.old' 12) (efield3 wx bE)) rfl ⟨hI.1.keep hsz (by decide) (by decide) (by decide) _ _ (by decide) (by decide), hI.2.keep hsz (by decide)⟩
  ·have hsz := hz_ hinv 9
   exact dv_ 9 hinv (qa_ rfl) (NN.qbd_ rfl (gd_ hinv hdep 8 48) (EnAt.ht hEx hE HT)) rfl ⟨hI.1.keep hsz (by decide) (by decide) (by decide) _ _ (by decide) (by decide), hI.2.keep hsz (by decide)⟩
  ·have hsz := hz_ hinv 10
   have hnK := ah_ hinv hnl 13
   have hpre := hI.2.pre hnK hsz (by decide)
   exact dC_ (S := T2_) 10 hinv (qa_ rfl) (f := 34) (args := #[a.eval (.tmp 49)]) (by kernel_rfl) (by rw [show a.eval (.tmp 49) = _ from (gd_ hinv hdep 9 49)];  exact KHt.out wx) (fun w' hb => ⟨hC.trans (Kp.of (F := fun i => i = b ∨ i = g) hb) (fun i hi _ => hi), trivial, rfl, (hI.1.on hb).keep hsz (by decide) (by decide) (by decide) _ _ (by decide) (by decide), Ph.made hnK (tb_ hpre hb)⟩)
  ·have hsz := hz_ hinv 11
   have hnK := ah_ hinv hnl 13
   have hpre := hI.2.pre hnK hsz (by decide)
   exact dC_ (S := T2_) 11 hinv (qa_ rfl) (f := 11) (args := #[a.eval (.tmp 45), a.eval (.tmp 47), a.eval (.tmp 50)]) (by kernel_rfl) (by rw [show a.eval (.tmp 45) = _ from (gd_ hinv hdep 5 45)]; rw [show a.eval (.tmp 47) = _ from (gd_ hinv hdep 7 47)]; rw [show a.eval (.tmp 50) = _ from (gd_ hinv hdep 10 50)];  exact KAn.out wx hpre) (fun w' hb => ⟨hC.trans (Kp.of (F := fun i => i = b ∨ i = g) hb) (fun i hi _ => hi), trivial, rfl, (hI.1.on hb).keep hsz (by decide) (by decide) (by decide) _ _ (by decide) (by decide), Ph.made hnK (tb_ hpre hb)⟩)
  ·have hsz := hz_ hinv 12
   have hka := ah_ hinv hnl 13
   have hks := ah_ hinv hnl 16
   have hnK := ah_ hinv hnl 13
   have hpre := hI.2.pre hnK hsz (by decide)
   have hb : Below wx.heap.size wx (wx.alloc _) := (Below.refl _ _).alloc (Nat.le_refl _) (.cells #[.int .i64 y] 3)
   exact dm_ 12 hinv (qa_ rfl) (NN.Rg2.qbw_ rfl (gd_ hinv hdep 11 51) (qcp_ wx y)) (hC.trans (Kp.of (F := fun i => i = b ∨ i = g) hb) (fun i hi _ => hi)) rfl ⟨hI.1.built hsz hka hks (by decide) (by decide) (by rw [hinv.tsize]; exact (show 52 < 59 by decide)) rfl, Ph.made hnK (tb_ hpre hb)⟩
  ·have hsz := hz_ hinv 13
   have hks := ah_ hinv hnl 16
   have hkb : listed.getD 12 false = true := hdep ⟨12, .data⟩ (by simp) rfl
   obtain ⟨gg, cs, rfl, hg, hgh⟩ := hI.1.bu hkb hnl
   obtain ⟨v', w', hr, g1, g2, g3⟩ := qcf_ (ρ := a.eval) (x := .tmp 44) (y := .tmp 52) (Ts := 43) Tryz.underlying43 qgc_ (by decide) (by decide) rfl (by intro u hu; simp at hu; subst hu; rfl) (gd_ hinv hdep 4 44) (hI.1.ro hnl) hg hgh h9
   exact dm_ 13 hinv (qa_ rfl) (hr _ rfl rfl) (hC.trans (Kp.gb (F := fun i => i = b ∨ i = g) g2 (fun k hk => .inr (Option.some.inj hk).symm)) (fun i hi _ => hi)) rfl ⟨hI.1.appended hsz hks (by decide) (by rw [hinv.tsize]; exact (show 53 < 59 by decide)) rfl g1 g2 g3 hlx (fun e => HNE.out (Option.some.inj e)), Ph.last hsz trivial⟩
  ·have hsz := hz_ hinv 14
   exact dv_ 14 hinv (qa_ rfl) (ex_nil rfl (gd_ hinv hdep 0 40)) rfl ⟨hI.1.keep hsz (by decide) (by decide) (by decide) _ _ (by decide) (by decide), hI.2.keep hsz (by decide)⟩
  ·have hsz := hz_ hinv 15
   exact dv_ 15 hinv (qa_ rfl) (qaj_ rfl (gd_ hinv hdep 14 54) (tfield1 wx b)) rfl ⟨hI.1.keep hsz (by decide) (by decide) (by decide) _ _ (by decide) (by decide), hI.2.keep hsz (by decide)⟩
  ·have hsz := hz_ hinv 16
   have hka : listed.getD 13 false = true := hdep ⟨13, .data⟩ (by simp) rfl
   obtain ⟨v', cs, rfl, hv', hr', hl'⟩ := hI.1.ap hka hnl
   obtain ⟨g', c', rfl⟩ := qbv_ hr' (Nat.succ_pos _)
   have hAx := hI.1.ha hnl
   have kb : Kp (fun i => i = b) wx (wx.setCell ⟨b, 1, none⟩ (.slice (some ⟨g', 0, none⟩) (n + 1) c')) := Kp.gb (qbq_ wx b 1 _) (fun k hk => (Option.some.inj hk).symm)
   exact ds_ 16 hinv (qa_ rfl) (qbx_ rfl (gd_ hinv hdep 15 55) hv' (qgk_ (Has.free hAx 1) (Has.cell hAx 1))) (hC.trans kb (fun i hi _ => .inl hi)) rfl ⟨ApI.stored hsz (by decide) hka rfl (tr_set hAx _) (kp_row hr' kb (fun i hi e => by
    obtain ⟨_, k⟩ := qbg_ hr' hi
    exact qau_ k hAx.out (by decide) e)) hl', ⟨fun h => (by rw [qn_ listed 16 13 hsz (by decide), hka] at h; cases h), fun _ => trivial⟩⟩
 intro listed a' v5 hall hinv
 have hC := hinv.c
 obtain ⟨v', cs, rfl, hA', rL', hl'⟩ := hinv.i.1.st (hall 16 (by decide))
 have e9 : a'.eval (.tmp 9) = .int .i64 (n : Int) := hinv.old' 9
 have e10 : a'.eval (.tmp 10) = .int .i64 x2 := hinv.old' 10
 have e11 : a'.eval (.tmp 11) = .int .i64 0 := hinv.old' 11
 obtain ⟨u, hu⟩ : ∃ u : Nat → Value, ∀ t, u t = a'.eval (.tmp t) := ⟨_, fun _ => rfl⟩
 rw [qay_ a' 59 u hinv.tsize hinv.defers hu]
 rw [← hu] at e9 e10 e11
 clear hu hinv hall
 simp only [List.range, List.range.loop, List.map_cons, List.map_nil]
 rw [e9, e10, e11]
 clear e9 e10 e11
 go_wp2_with fail
 go_ret3
 exact ⟨rfl, vx, HQ.out.1, v1, HQ.out.2, v2, hB, hC, v', hA', rL', hl'⟩
end Go.Proofs.YtgaocfhlagbkpaaGreatDoor.An
namespace Go.Proofs.YtgaocfhlagbkpaaGreatDoor.An
open Go.RowKit Mem Sc
open Ar (Ent Ru entZ Ok Lp hgt Up isP IsAn)
theorem qwp_ (r : Ru) (M : List Ent) (h : Hd) (now : Int) :
  (¬ (Ar.add r M h now).1.2.2 = 0 ∧ (Ar.add r M h now).2 = M) ∨
  ((Ar.add r M h now).1.2.2 = 0 ∧ (∃ i : Nat, (Ar.add r M h now).1.1 = (i : Int) ∧ i < M.length) ∧ (Ar.add r M h now).2 = M) ∨
  ((Ar.add r M h now).1 = (((M.length : Nat) : Int), (0 : Int), (0 : Int)) ∧ ∃ (j : Nat) (d : Ent), M[j]? = some d ∧ (Ar.add r M h now).2 = M ++ [⟨d.hs ++ [h], (j : Int)⟩]) := by
 unfold Ar.add
 by_cases hP : h.P
 ·rw [if_neg (fun hh => hh hP)]
  cases h1 : Ar.fnd r.g M h.id with
  | some i =>
   obtain ⟨e, he, _⟩ := Ar.qek_ h1
   exact .inr (.inl ⟨rfl, ⟨i, rfl, (List.getElem?_eq_some_iff.1 he).1⟩, rfl⟩)
  | none =>
   cases h2 : Ar.fnd r.g M h.prev with
   | none => exact .inl ⟨by simp, rfl⟩
   | some j =>
    simp only
    obtain ⟨d, hd, _⟩ := Ar.qek_ h2
    by_cases h3 : Ar.why r (M.getD j entZ) h now = 0
    ·rw [if_neg (fun hh => hh h3)]
     by_cases h4 : r.room ≤ M.length
     ·rw [if_pos h4]; exact .inl ⟨by simp, rfl⟩
     ·rw [if_neg h4]
      refine .inr (.inr ⟨rfl, j, d, hd, ?_⟩)
      rw [show M.getD j entZ = d by rw [List.getD_eq_getElem?_getD, hd]; rfl]
    ·rw [if_pos h3]; exact .inl ⟨by simp, rfl⟩
 ·rw [if_pos hP]; exact .inl ⟨by simp, rfl⟩
theorem qih_ {w vx w' : World} {F Fa : Nat → Prop} {b ab : Nat} {lv : Value} {r : Ru} {M' : List Ent} {ls : List Int} (hF : ∀ i, F i → i < w.heap.size) (h1 : Has w b (trA ab lv) 87) (h3 : w.ownsRow 0 3 1 lv ls.length (ls.map (Value.int .i64))) (h4 : Lp M' ls) (h5 : F b) (h6 : ∀ i, Fa i → F i) (h7 : ∀ i, lv.ownBlock = some i → F i) (h8 : ¬ Fa b) (h9 : ∀ i, lv.ownBlock = some i → ¬ Fa i)
  (hb : Below w.heap.size w vx) (hA : ArS w' (Nxt Fa vx w') ab r M') (hK : Kp Fa vx w') : TrS w' (Nxt F w w') b r M' ls ∧ Kp F w w' := by
 have k0 : Kp Fa w w' := (Kp.of hb).trans hK fun i hi _ => hi
 have hs := hb.size
 have hlt := Has.lt h1
 refine ⟨⟨nxt_lt hF k0.size, Nxt Fa vx w', ab, lv, k0.has h1 h8, hA, kp_row h3 k0 h9, h4, .inl h5, fun i hi => ?_, fun i hi => .inl (h7 i hi), fun hn => ?_, fun i hi hn => ?_⟩, k0.mono fun i hi _ => h6 i hi⟩
 ·exact hi.elim (fun h => .inl (h6 i h)) (fun h => .inr ⟨Nat.le_trans hs h.1, h.2⟩)
 ·exact hn.elim h8 (fun h => by omega)
 ·have := (row_lt h3 hi).1
  exact hn.elim (h9 i hi) (fun h => by omega)
theorem tadd_at {w : World} {F : Nat → Prop} {b : Nat} {r : Ru} {M : List Ent} {ls : List Int} (hS : TrS w F b r M ls) (hM : Ok r M) (hl : M.length ≤ 800) (hls : ls.length = M.length) (hgl : r.gs.length ≤ 1000) (hcl : r.cs.length ≤ 1000) (hT : Tab w) (h : Hd) (ho : h.ok) (now : Int) :
  Calls Tryz.prog 16 #[.pointer (some ⟨b, 0, none⟩), .agg (hdA h), .int .i64 now] w fun e w' => e = .returned (.tuple #[.int .i64 (Ar.add r M h now).1.1, .int .i64 (Ar.add r M h now).1.2.1, .int .i64 (Ar.add r M h now).1.2.2]) ∧ (∃ ls', ls'.length = (Ar.add r M h now).2.length ∧ TrS w' (Nxt F w w') b r (Ar.add r M h now).2 ls') ∧ Kp F w w' := by
 have hpos := hM.pos
 have hOk := hM.add ho now
 obtain ⟨gg, cc, hL⟩ := hS.leaps (by omega)
 have hS' := hS
 obtain ⟨hF, Fa, ab, lv, h1, h2, h3, h4, h5, h6, h7, h8, h9⟩ := hS'
 have hlv : lv = .slice (some ⟨gg, 0, none⟩) ls.length cc := by
  have e1 := hL.1
  have e2 : w.cell? ⟨b, 1, none⟩ = some lv := Has.cell h1 1
  rw [e1] at e2
  exact (Option.some.inj e2).symm
 have hbl := Has.lt h1
 have KH : Hid (HeldIs w (.pointer (some ⟨b, 0, none⟩)) (.pointer (some ⟨ab, 0, none⟩))) := h_ fun w' hb => held_w b ab w' ((hb.cell (p := ⟨b, 0, none⟩) hbl).trans (Has.cell h1 0))
 have KA := fun (w' : World) (hb : Below w.heap.size w w') => add_at (h2.below hb) hM (by omega) hgl hcl (hT.below hb) h ho now
 rcases qwp_ r M h now with ⟨c1, c2⟩ | ⟨c1, ⟨i, c2, c3⟩, c4⟩ | ⟨c1, j, d, c2, c3⟩
 ·obtain ⟨⟨x1, x2, x3⟩, hx⟩ : ∃ x, x = (Ar.add r M h now).1 := ⟨_, rfl⟩
  rw [← hx] at c1 KA ⊢
  rw [c2] at KA ⊢
  refine (qst_ _ _ h ho now x1 x2 x3 (fun w' w'' => ArS w'' (Nxt Fa w' w'') ab r M ∧ Kp Fa w' w'') w KH (h_ KA) (by simpa using c1)).mono ?_
  rintro e w' ⟨rfl, vx, q1, q2, q3⟩
  obtain ⟨u1, u2⟩ := qih_ hF h1 h3 h4 h5 h6 h7 h8 h9 q1 q2 q3
  exact ⟨rfl, ⟨ls, hls, u1⟩, u2⟩
 ·obtain ⟨⟨x1, x2, x3⟩, hx⟩ : ∃ x, x = (Ar.add r M h now).1 := ⟨_, rfl⟩
  rw [← hx] at c1 c2 KA ⊢
  rw [c4] at KA ⊢
  simp only at c1 c2
  refine (qadf_ b _ h ho now x1 x2 x3 (fun w' w'' => ArS w'' (Nxt Fa w' w'') ab r M ∧ Kp Fa w' w'') w KH (h_ KA) ls.length (by simpa using c1) (by rw [c2, beq_eq_false_iff_ne]; omega) (h_ fun w' w'' hb hX => ?_)).mono ?_
  ·obtain ⟨_, k⟩ := hX
   have h1' := k.has (qd_ hb h1 hbl) h8
   exact ⟨_, _, (Has.cell h1' 1).trans (by rw [hlv]; rfl)⟩
  ·rintro e w' ⟨rfl, vx, q1, q2, q3⟩
   obtain ⟨u1, u2⟩ := qih_ hF h1 h3 h4 h5 h6 h7 h8 h9 q1 q2 q3
   exact ⟨rfl, ⟨ls, hls, u1⟩, u2⟩
 ·rw [c3] at hOk KA ⊢
  rw [c1] at KA ⊢
  simp only at KA ⊢
  subst hlv
  have hd := c2
  obtain ⟨e', he'⟩ : ∃ e' : Ent, e' = ⟨d.hs ++ [h], (j : Int)⟩ := ⟨_, rfl⟩
  rw [← he'] at hOk KA ⊢
  have hel : e'.hs.length = d.hs.length + 1 := by rw [he', List.length_append]; rfl
  have heu : e'.up = (j : Int) := by rw [he']
  have hnew : (M ++ [e'])[M.length]? = some e' := by rw [List.getElem?_append_right (Nat.le_refl _), Nat.sub_self]; rfl
  have hjl := (List.getElem?_eq_some_iff.1 hd).1
  have hd' : (M ++ [e'])[j]? = some d := by rw [List.getElem?_append_left hjl]; exact hd
  have hdc := (hM.chain j d hd).1
  obtain ⟨y, hy⟩ := Up.there hOk hd' (h := hgt e'.hs.length) (by have := Ar.hgt_lt (h := e'.hs.length) (by omega); omega)
  have hLp' : Lp (M ++ [e']) ls := h4.more [e']
  have hX : ∀ (w' w'' : World), Below w.heap.size w w' → ArS w'' (Nxt Fa w' w'') ab r (M ++ [e']) ∧ Kp Fa w' w'' → TrS w'' (Nxt F w w'') b r (M ++ [e']) ls ∧ Kp F w w'' := fun w' w'' hb hX => qih_ hF h1 h3 hLp' h5 h6 h7 h8 h9 hb hX.1 hX.2
  have hne : b ≠ gg := fun e => h9 gg rfl (by
   obtain ⟨_, k⟩ := qbg_ h3 (i := gg) rfl
   exact absurd e (qau_ h1.out k (by decide)))
  have hE : (enOf r e').ok := by
   have := hOk.up M.length e' hpos hnew
   obtain ⟨j2, d2, h2', now2, _, _, q3, q4, _, _⟩ := this
   refine ⟨?_, qq_ _⟩
   show (e'.h r.g).ok
   rw [q3, Ar.h_app]
   exact q4
  have hKA : Hid (∀ (w' : World), Below w.heap.size w w' → Calls Tryz.prog 24 #[.pointer (some ⟨ab, 0, none⟩), .agg (hdA h), .int .i64 now] w' fun e w'' => e = .returned (.tuple #[.int .i64 ((ls.length : Nat) : Int), .int .i64 0, .int .i64 0]) ∧ ArS w'' (Nxt Fa w' w'') ab r (M ++ [e']) ∧ Kp Fa w' w'') := h_ (by rw [hls]; exact KA)
  refine (qadg_ b ab gg ls.length cc _ h ho now 0 (fun w' w'' => ArS w'' (Nxt Fa w' w'') ab r (M ++ [e']) ∧ Kp Fa w' w'') w KH hKA ls (by omega) (enOf r e') hE e'.up (e'.hs.length : Nat) ((hgt e'.hs.length : Nat) : Int) y (h_ rfl) (h_ rfl) hne (h_ fun w' w'' hb hx => ?_) (h_ fun w' w'' hb hx w3 hb3 => ?_) (h_ fun w' => ?_) (h_ fun w' w'' hb hx w3 hb3 => ?_)).mono ?_
  ·have k0 : Kp Fa w w'' := (Kp.of hb).trans hx.2 fun i hi _ => hi
   exact ⟨k0.has h1 h8, kp_row h3 k0 h9⟩
  ·exact tat_at ((hX w' w'' hb hx).1.below hb3) hnew _ (by rw [hls])
  ·have := qfk_ (e'.hs.length : Nat) (by omega) (by omega) w'
   rwa [Int.toNat_natCast] at this
  ·refine qbp_ ((hX w' w'' hb hx).1.below hb3) hOk (by rw [List.length_append]; have : [e'].length = 1 := rfl; omega) e'.up _ y (fun _ => by rw [heu]; omega) (.inl ⟨by rw [heu]; exact Ar.isP_of hd', by omega, ?_⟩)
   rw [heu, Int.toNat_natCast]
   exact hy
  ·rintro e w' ⟨rfl, vx, v1, v2, v', q1, q2, q3, q4, q5, q6, q7⟩
   obtain ⟨u1, u2⟩ := hX vx v1 q1 q2
   obtain ⟨q2a, q2k⟩ := q2
   have k0 : Kp Fa w v1 := (Kp.of q1).trans q2k fun i hi _ => hi
   have k1 : Kp Fa w v2 := k0.trans (Kp.of (F := fun _ => False) q3) fun _ hi _ => hi.elim
   have hs1 := q1.size
   have hs2 := q2k.size
   have hs3 := q3.size
   have hs4 := q4.size
   have hglt := (row_lt h3 (i := gg) rfl).1
   have hA2 := q2a.below q3
   have hA3 : ArS w' (Nxt Fa vx v1) ab r (M ++ [e']) := hA2.on q4 fun i hi hh => by
    rcases hh with rfl | rfl
    ·exact hi.elim h8 (fun h => by omega)
    ·exact hi.elim (h9 _ rfl) (fun h => by omega)
   have kF : Kp F w w' := (k1.mono fun i hi _ => h6 i hi).trans q4 fun i hi _ => by
    rcases hi with rfl | rfl
    ·exact h5
    ·exact h7 _ rfl
   refine ⟨by rw [hls], ⟨ls ++ [y], by rw [List.length_append, List.length_append, hls]; rfl, nxt_lt hF kF.size, Nxt Fa vx v1, ab, v', q5, hA3, ?_, hLp'.put (by rw [hls, List.length_append]; exact Nat.lt_succ_self _) fun e0 he0 h0 => ?_, .inl h5, fun i hi => ?_, fun i hi => ?_, fun hn => ?_, fun i hi hn => ?_⟩, kF⟩
   ·rw [List.length_append]
    exact q6
   ·rw [hls] at he0 ⊢
    rw [hnew] at he0
    obtain rfl := Option.some.inj he0
    have hup := (Up.ahead hOk hnew h0).1
    rw [heu] at hup
    exact hup.trans hy
   ·exact hi.elim (fun h => .inl (h6 i h)) (fun h => .inr ⟨by omega, by omega⟩)
   ·rcases q7 with q7 | ⟨g', q7, q8⟩
    ·rw [q7] at hi
     exact .inl (h7 i hi)
    ·rw [q7] at hi
     have e1 : g' = i := Option.some.inj hi
     have := (row_lt q6 (i := g') q7).1
     exact .inr ⟨by omega, by omega⟩
   ·exact hn.elim h8 (fun h => by omega)
   ·rcases q7 with q7 | ⟨g', q7, q8⟩
    ·rw [q7] at hi
     have e1 : gg = i := Option.some.inj hi
     exact hn.elim (h9 i hi) (fun h => by omega)
    ·rw [q7] at hi
     have e1 : g' = i := Option.some.inj hi
     rcases hn with hn | hn
     ·have := h2.1 i hn
      omega
     ·omega
end Go.Proofs.YtgaocfhlagbkpaaGreatDoor.An
namespace Go.Proofs.YtgaocfhlagbkpaaGreatDoor.An
open Go.RowKit Mem Sc
open Ar (Ent Ru entZ Ok Lp hgt clr Up isP IsAn ComI Row Deep)
set_option maxRecDepth 100000
theorem meet_no (tp : Value) (x y : Int) (E D : En) (hE : E.ok) (hD : D.ok) (g1 g2 : Bool) (hg : (g1 && g2) = false) (w : World) (KA : Hid (∀ w', Below w.heap.size w w' → Calls Tryz.prog 26 #[tp, .int .i64 x] w' fun x w'' => x = .returned (.tuple #[.agg (enA E), .bool g1]) ∧ Below w'.heap.size w' w''))
  (KD : Hid (∀ w', Below w.heap.size w w' → Calls Tryz.prog 26 #[tp, .int .i64 y] w' fun x w'' => x = .returned (.tuple #[.agg (enA D), .bool g2]) ∧ Below w'.heap.size w' w'')) :
  Calls Tryz.prog 41 #[tp, .int .i64 x, .int .i64 y] w fun x w' => x = .returned (.int .i64 (-1)) ∧ Below w.heap.size w w' := by
 have ze := qz_ hE
 have zd := qz_ hD
 have z0 := qz_ enZ_ok
 have hB := Below.refl w.heap.size w
 go_enter Tryz.func41, Tryz.ntmps41
 go_wp2_with fail
 refine (KA.out _ hB).mono ?_
 rintro x v1 ⟨rfl, hb⟩
 replace hB := tb_ hB hb
 clear hb
 have hnew := qcc_ v1
 have hb3 := qcr_ v1 68 Tryz.zeroCells68 (enA E)
 go_upto_region 2 with (with_reducible refine qbi_ rfl _ _ rfl _ _ E rfl rfl rfl ze hnew z0 ?_)
 generalize World.setRow _ _ _ = v2 at *
 replace hB := tb_ hB hb3
 clear hb3 hnew
 go_wp2_with fail
 refine (KD.out _ hB).mono ?_
 rintro x v3 ⟨rfl, hb⟩
 replace hB := tb_ hB hb
 clear hb
 have hnew := qcc_ v3
 have hb3 := qcr_ v3 68 Tryz.zeroCells68 (enA D)
 go_upto_region 3 with (with_reducible refine qbi_ rfl _ _ rfl _ _ D rfl rfl rfl zd hnew z0 ?_)
 generalize World.setRow _ _ _ = v4 at *
 replace hB := tb_ hB hb3
 clear hb3 hnew
 cases g1 <;> cases g2
 case true.true => cases hg
 all_goals
  clear hg
  go_wp2_with fail
  go_ret
  exact ⟨rfl, hB⟩
structure Two (M : List Ent) (i j : Int) (L K : List Int) (k : Nat) (x y : Int) : Prop where
 one : Row M i L
 two : Row M j K
 x : L[k]? = some x
 y : K[k]? = some y
 deep : Deep L K k
theorem Two.pos {r : Ru} {M : List Ent} (hM : Ok r M) {n m : Nat} {d e : Ent} (hn : M[n]? = some d) (hm : M[m]? = some e) {L K : List Int} {k : Nat} {x y : Int} (h : Two M (n : Int) (m : Int) L K k x y) (hne : x ≠ y) : 0 < k := by
 refine Nat.pos_of_ne_zero fun h0 => hne ?_
 subst h0
 have h1 := h.x.symm.trans (h.one.first hM hn)
 have h2 := h.y.symm.trans (h.two.first hM hm)
 rw [Option.some.inj h1, Option.some.inj h2]
theorem qadh_ (x y : Int) (w : World) : Ca_ 41 #[.pointer none, .int .i64 x, .int .i64 y] w (.int .i64 (-1)) :=
 meet_no _ x y enN enN enN_ok enN_ok false false rfl w (h_ fun w' _ => qjw_ x w') (h_ fun w' _ => qjw_ y w')
theorem qadi_ (tp : Value) (P : List Int → Int → Prop) (p : Option Addr) (n c : Nat) (l : List Int) (hn : n = l.length) (hl : n ≤ 4611686018427387904) {lo hi : Nat} (w : World) (hhi : hi ≤ w.heap.size) (hL : MM.Lie w lo hi p l) (h0 : P [] (-1))
  (KM : ∀ (k : Nat) (o x : Int), l[k]? = some x → (k = 0 → o = x) → (0 < k → P (l.take k) o) → ∃ z, P (l.take (k + 1)) z ∧ HK_ w 41 #[tp, .int .i64 o, .int .i64 x] (.int .i64 z)) :
  Calls Tryz.prog 18 #[tp, .slice p n c] w fun e w' => ∃ z, e = .returned (.int .i64 z) ∧ P l z ∧ Below w.heap.size w w' := by
 have HN := h_ hn
 have HL := h_ fun (w' : World) (hb : Below w.heap.size w w') => hL.below hb hhi
 have hB := Below.refl w.heap.size w
 clear hL
 by_cases hz : n = 0
 ·have H0 : Hid (P l (-1)) := h_ (by rw [List.eq_nil_of_length_eq_zero (hn.symm.trans hz)]; exact h0)
  subst hz
  clear hn h0 KM
  go_enter Tryz.func18, Tryz.ntmps18
  go_wp2_with fail
  go_ret
  exact ⟨_, rfl, H0.out, hB⟩
 ·obtain ⟨pb, po, rfl, _, hpb, hc⟩ := HL.out w hB (by omega)
  have x0c := hc 0 (by omega)
  rw [Nat.add_zero] at x0c
  obtain ⟨x0, hx0⟩ : ∃ x, x = l.getD 0 0 := ⟨_, rfl⟩
  rw [← hx0] at x0c
  have HX0 : Hid (l[0]? = some x0) := h_ (by rw [hx0, List.getD_eq_getElem?_getD, List.getElem?_eq_getElem (by omega : 0 < l.length)]; rfl)
  have t0 : ((n : Int) == 0) = false := by simp; omega
  have hn0 : 0 < n := by omega
  have HCell : Hid (∀ w', Below w.heap.size w w' → ∀ k x, l[k]? = some x → w'.cell? ⟨pb, po + k, none⟩ = some (.int .i64 x)) := h_ fun w' hb k x hk => by
   have h1 := (List.getElem?_eq_some_iff.1 hk).1
   rw [(hb.cell (p := ⟨pb, po + k, none⟩) (by show pb < _; omega)), hc k h1, List.getD_eq_getElem?_getD, hk]
   rfl
  clear hx0 hc HL hz hn h0
  go_enter Tryz.func18, Tryz.ntmps18
  go_wp2_with fail
  clear x0c
  go_loopw [5, 16] (fun v i wr => ∃ (k : Nat) (o : Int), k ≤ n ∧ v = .int .i64 o ∧ i = .int .i64 (k : Int) ∧ Hid ((k = 0 → o = x0) ∧ (0 < k → P (l.take k) o)) ∧ Below w.heap.size w wr) (fun _ i _ => n - (intOf i).toNat)
  case atStart => exact ⟨0, x0, by omega, rfl, rfl, h_ ⟨fun _ => rfl, fun h => absurd h (by omega)⟩, hB⟩
  case round =>
   clear hB
   obtain ⟨k, o, hk, rfl, rfl, HO, hB⟩ := hrel
   by_cases hlt : k < n
   ·obtain ⟨x, hx⟩ : ∃ x, l[k]? = some x := ⟨_, List.getElem?_eq_getElem (by rw [← HN.out]; exact hlt)⟩
    obtain ⟨z, hz, KM1⟩ := KM k o x hx (fun h => by
     subst h
     have := HX0.out
     rw [hx] at this
     rw [HO.out.1 rfl, Option.some.inj this]) HO.out.2
    have xc := HCell.out _ hB k x hx
    have HZ : Hid ((k + 1 = 0 → z = x0) ∧ (0 < k + 1 → P (l.take (k + 1)) z)) := h_ ⟨fun h => absurd h (by omega), fun _ => hz⟩
    clear hz hx HO
    go_wp2_with fail
    refine (KM1.out _ hB).mono ?_
    rintro e v1 ⟨rfl, hb⟩
    replace hB := tb_ hB hb
    clear hb xc KM1
    go_wp2_with fail
    go_roundw
    case rel => exact ⟨k + 1, z, by omega, rfl, by go_num, HZ, hB⟩
    case measure => simp [intOf]; omega
   ·obtain rfl : k = n := by omega
    have hP : Hid (P l o) := h_ (by have := HO.out.2 hn0; rwa [HN.out, List.take_length] at this)
    clear HO
    go_wp2_with fail
    go_ret
    exact ⟨_, rfl, hP.out, hB⟩
theorem qwq_ {l : List Int} {k : Nat} {x : Int} (h : l[k]? = some x) : l.take (k + 1) = l.take k ++ [x] := by
 rw [List.take_add_one, h]; rfl
theorem qsu_ (p : Option Addr) (n c : Nat) (l : List Int) (hn : n = l.length) (hln : n ≤ 4611686018427387904) {lo hi : Nat} (w : World) (hhi : hi ≤ w.heap.size) (hL : MM.Lie w lo hi p l) :
  Ca_ 18 #[.pointer none, .slice p n c] w (.int .i64 (-1)) := by
 refine (qadi_ _ (fun _ z => z = -1) p n c l hn hln w hhi hL rfl fun k o x _ _ _ => ⟨-1, rfl, h_ fun w' _ => qadh_ o x w'⟩).mono ?_
 rintro e w' ⟨z', rfl, rfl, hb⟩
 exact ⟨rfl, hb⟩
end Go.Proofs.YtgaocfhlagbkpaaGreatDoor.An
namespace Go.Proofs.YtgaocfhlagbkpaaGreatDoor.An
open Go.RowKit Mem Sc NN.Rg2
open Ar (Ent Ru entZ Ok Up isP IsAn ComI Row best)
set_option maxRecDepth 100000
theorem ris_w (b nn c : Nat) (a : Option Addr) (k : Int) (g1 g2 : Bool) (h1 : decide (0 ≤ k) = g1) (h2 : decide (k < (nn : Int)) = g2) (w : World) (hv : w.cell? ⟨b, 83, none⟩ = some (.slice a nn c)) :
  Ca_ 39 #[.pointer (some ⟨b, 0, none⟩), .int .i64 k] w (.bool (g1 && g2)) := by
 have hB := Below.refl w.heap.size w
 cases g1
 ·go_enter Tryz.func39, Tryz.ntmps39
  go_wp2_with fail
  go_ret
  exact ⟨rfl, hB⟩
 ·go_enter Tryz.func39, Tryz.ntmps39
  go_wp2_with fail
  go_ret
  exact ⟨by cases g2 <;> rfl, hB⟩
section
variable {w : World} {B : Nat} {F : Nat → Prop} {b : Nat} {r : Ru} {M : List Ent}
theorem RfS.list (h : RfS w B F b r M) : ∃ a c, w.cell? ⟨b, 83, none⟩ = some (.slice a M.length c) := by
 obtain ⟨_, _, _, p, t, vH, vI, vA, vW, ws, h3, _⟩ := h
 have rH := h3.rowH
 have hc : w.cell? ⟨b, 83, none⟩ = some vH := by
  rw [Has.cell h3.has 83]
  unfold rfA rfC
  rw [List.getElem?_toArray, List.getElem?_append_right (by rw [qm_ h3.pok]; omega), qm_ h3.pok]
  rfl
 rw [List.length_map] at rH
 rcases rH.2 with ⟨rfl, h0⟩ | ⟨g, c, cur, rfl, _⟩
 ·exact ⟨none, 0, by rw [hc, h0]⟩
 ·exact ⟨_, c, hc⟩
theorem ris_at (h : RfS w B F b r M) (k : Int) (g : Bool) (hg : g = true ↔ isP M k) : Ca_ 39 #[.pointer (some ⟨b, 0, none⟩), .int .i64 k] w (.bool g) := by
 obtain ⟨a, c, hc⟩ := h.list
 have := ris_w b M.length c a k _ _ rfl rfl w hc
 have e : (decide (0 ≤ k) && decide (k < (M.length : Int))) = g := Bool.eq_iff_iff.2 (by rw [hg, Bool.and_eq_true, decide_eq_true_eq, decide_eq_true_eq]; exact Iff.rfl)
 rw [e] at this
 exact this
end
theorem ranc_no (b : Nat) (i t : Int) (w : World) (KI : HK_ w 39 #[.pointer (some ⟨b, 0, none⟩), .int .i64 i] (.bool false)) :
  Ca_ 12 #[.pointer (some ⟨b, 0, none⟩), .int .i64 i, .int .i64 t] w (.int .i64 (-1)) := by
 have hB := Below.refl w.heap.size w
 go_enter Tryz.func12, Tryz.ntmps12
 go_wp2_with fail
 refine (KI.out _ hB).mono ?_
 rintro e v1 ⟨rfl, hb⟩
 replace hB := tb_ hB hb
 go_wp2_with fail
 go_ret
 exact ⟨rfl, hB⟩
theorem qadj_ (b : Nat) (i t : Int) (L : List Int) (n : Nat) (hn : n = L.length) (hpos : 0 < n) (w : World) (KI : HK_ w 39 #[.pointer (some ⟨b, 0, none⟩), .int .i64 i] (.bool true))
  (KP : Hid (∀ w', Below w.heap.size w w' → Calls Tryz.prog 13 #[.pointer (some ⟨b, 0, none⟩), .int .i64 i] w' fun e w'' => ∃ v, e = .returned v ∧ w''.ownsRow w'.heap.size 3 1 v n (L.map (Value.int .i64)) ∧ Below w'.heap.size w' w'')) :
  Calls Tryz.prog 12 #[.pointer (some ⟨b, 0, none⟩), .int .i64 i, .int .i64 t] w fun e w' => (∃ z, e = .returned (.int .i64 z) ∧ ((0 ≤ t ∧ L[t.toNat]? = some z) ∨ (¬ (0 ≤ t ∧ t < (n : Int)) ∧ z = -1))) ∧ Below w.heap.size w w' := by
 have HN := h_ hn
 clear hn
 have hB := Below.refl w.heap.size w
 go_enter Tryz.func12, Tryz.ntmps12
 go_wp2_with fail
 refine (KI.out _ hB).mono ?_
 rintro e v1 ⟨rfl, hb⟩
 replace hB := tb_ hB hb
 clear hb
 go_wp2_with fail
 refine (KP.out _ hB).mono ?_
 rintro e v2 ⟨v, rfl, hv, hb⟩
 replace hB := tb_ hB hb
 clear hb
 obtain ⟨g, c, rfl⟩ := qbv_ hv hpos
 have HV := h_ hv
 clear hv KI KP
 by_cases ht : t < 0
 ·have t1 : decide (t < 0) = true := decide_eq_true ht
  have HT := h_ ht
  clear ht
  go_wp2_with fail
  go_ret
  exact ⟨⟨_, rfl, .inr ⟨fun h => by have := HT.out; omega, rfl⟩⟩, hB⟩
 ·obtain ⟨k, rfl⟩ := Int.eq_ofNat_of_zero_le (by omega : 0 ≤ t)
  have t1 : decide ((k : Int) < 0) = false := decide_eq_false ht
  clear ht
  by_cases hk : k < n
  ·obtain ⟨z, hz⟩ : ∃ z, L[k]? = some z := ⟨_, List.getElem?_eq_getElem (by rw [← HN.out]; exact hk)⟩
   obtain ⟨g2, c2, e2, hc⟩ := qew_ HV.out hz
   cases e2
   have HZ := h_ hz
   clear hz
   go_wp2_with fail
   go_ret
   exact ⟨⟨_, rfl, .inl ⟨by omega, by rw [Int.toNat_natCast]; exact HZ.out⟩⟩, hB⟩
  ·have t2 : ¬ k < n := hk
   go_wp2_with fail
   go_ret
   exact ⟨⟨_, rfl, .inr ⟨fun h => by omega, rfl⟩⟩, hB⟩
theorem ranc_at {w : World} {B : Nat} {F : Nat → Prop} {b : Nat} {r : Ru} {M : List Ent} (h : RfS w B F b r M) (hM : Ok r M) (hl9 : M.length ≤ 900) (i t z : Int) (hz : IsAn M i t z) :
  Ca_ 12 #[.pointer (some ⟨b, 0, none⟩), .int .i64 i, .int .i64 t] w (.int .i64 z) := by
 by_cases hp : isP M i
 ·obtain ⟨n, e, rfl, he⟩ := hp.is
  obtain ⟨L, hL, hl⟩ := hM.row he
  refine (qadj_ b (n : Int) t L L.length rfl (by omega) w (h_ fun w' hb => ris_at (h.below hb) _ true ⟨fun _ => hp, fun _ => rfl⟩) (h_ fun w' hb => qhl_ (h.below hb) hM hl9 n e he L hL)).mono ?_
  rintro e' w' ⟨⟨z', rfl, hz'⟩, hb⟩
  have e1 : z' = z := by
   refine IsAn.det (M := M) (i := (n : Int)) (h := t) ?_ hz
   rcases hz' with ⟨q1, q2⟩ | ⟨q1, q2⟩
   ·exact .inl ⟨hp, q1, L, hL, q2⟩
   ·refine .inr ⟨fun hh => q1 ⟨hh.2.1, ?_⟩, q2⟩
    obtain ⟨x, K, k1, k2⟩ := hh.2.2
    rw [k1.det hL] at k2
    have := (List.getElem?_eq_some_iff.1 k2).1
    have := hh.2.1
    omega
  rw [e1]
  exact ⟨rfl, hb⟩
 ·have ez := hz.no (.inl hp)
  subst ez
  exact ranc_no b i t w (h_ fun w' hb => ris_at (h.below hb) _ false ⟨fun h => (by cases h), fun h => absurd h hp⟩)
end Go.Proofs.YtgaocfhlagbkpaaGreatDoor.An
namespace Go.Proofs.YtgaocfhlagbkpaaGreatDoor.An
open Go.RowKit Mem Sc
open Ar (Ent Ru entZ Ok isP IsAn)
theorem qwr_ (p : NN.Pr) (t : Tl) (tt : p.tl = t.C) (cs : List Cm) (n : Nat) (a : Option Addr) (c : Nat) (hn : n = cs.length) (hl : n ≤ 4611686018427387904) (gn cn : Nat) (eg : t.gn = gn) (ec : t.cn = cn) (g1 g2 g3 gr g : Bool) (h1 : decide ((20 : Int) < (gn : Int)) = g1) (h2 : decide ((20 : Int) < (cn : Int)) = g2) (h3 : decide ((40 : Int) < (n : Int)) = g3) (hg : (neg cs || g1 || g2 || g3 || !gr) = g) (w : World) (KR : Hid (g1 = false → g2 = false → g3 = false → ∀ w', Below w.heap.size w w' → Calls Tryz.prog 35 #[.agg (NN.prA p)] w' fun e w'' => e = .returned (.bool gr) ∧ Below w'.heap.size w' w'')) (hp : p.ok) (hA : ComesAt w a cs) :
  Calls Tryz.prog 8 #[.agg (NN.prA p), .slice a n c] w fun r w' => r = .returned (.bool g) ∧ Below w.heap.size w w' := by
 have HN := h_ hn
 have HA := h_ hA
 have HG := h_ hg
 clear hn hA hg
 go_enter Tryz.func8, Tryz.ntmps8
 go_upto_region 1 with fail
 generalize hw0 : World.alloc _ _ = v0
 have hB : Below w.heap.size w v0 := bl_ hw0
 have hP : NN.PrAt v0 w.heap.size p := by rw [← hw0]; exact NN.Has.new _ _
 clear hw0
 obtain ⟨bP, hbP⟩ : ∃ x, x = w.heap.size := ⟨_, rfl⟩
 rw [← hbP] at hP ⊢
 clear hbP
 have H1 := h_ h1
 have H2 := h_ h2
 have H3 := h_ h3
 clear h1 h2 h3
 go_wp2_with fail
 go_loopw [9] (fun i wr => ∃ k : Nat, k ≤ n ∧ i = .int .i64 (k : Int) ∧ Hid (neg cs = neg (cs.drop k)) ∧ NN.PrAt wr bP p ∧ Below w.heap.size w wr) (fun i _ => n - (intOf i).toNat)
 case atStart => exact ⟨0, by omega, rfl, h_ rfl, hP, hB⟩
 case round =>
  clear hP hB
  obtain ⟨k, hk, rfl, HZ, hP, hB⟩ := hrel
  by_cases hlt : k < n
  ·obtain ⟨ab, ao, hae, habl, hc⟩ := (HA.out.below hB) (by rw [← HN.out]; omega)
   subst hae
   have hk2 : k < cs.length := by rw [← HN.out]; exact hlt
   have hd : cs.drop k = cs[k] :: cs.drop (k + 1) := List.drop_eq_getElem_cons hk2
   obtain ⟨q0, q1⟩ := hc k hk2
   have hx := HZ.out
   rw [hd] at hx
   clear hd HZ hc
   generalize cs[k] = y at *
   have HX := h_ hx
   clear hx hk2
   have z1 := qgo_ q0
   have z2 := qie_ q0
   have z0 := qie_ (c := cmZ) hdZ_ok
   have hb2 : Below wr.heap.size wr ((wr.alloc (.cells Tryz.zeroCells66 66)).setRow wr.heap.size (cmA y)) := below_setRow ((Below.refl _ _).alloc (Nat.le_refl _) _) (Nat.le_refl _) _
   have hB2 := tb_ hB hb2
   have hP2 := NN.PrAt.on hP hb2
   have c0 := (qyh_ wr y).now q0
   have hnew := qsf_ wr
   clear hB hb2 hP
   cases t1 : decide (y.now < 0)
   ·have HZ2 : Hid (neg cs = neg (cs.drop (k + 1))) := h_ (by
     have e : neg (y :: cs.drop (k + 1)) = (decide (y.now < 0) || neg (cs.drop (k + 1))) := rfl
     rw [HX.out, e, t1, Bool.false_or])
    clear HX
    obtain ⟨yn, hyn⟩ : ∃ yn, yn = y.now := ⟨_, rfl⟩
    rw [← hyn] at c0 t1
    clear hyn
    go_wp2_with (with_reducible first | refine qeo_ rfl _ rfl ab (ao + k * 69) rfl y q1 z1 ?_ | refine qlf_ rfl _ _ rfl _ _ y rfl rfl rfl z2 hnew z0 ?_)
    go_roundw
    case rel => exact ⟨k + 1, by omega, by go_num, HZ2, hP2, hB2⟩
    case measure => simp [intOf]; omega
   ·have hgt : g = true := by
     have e : neg (y :: cs.drop (k + 1)) = (decide (y.now < 0) || neg (cs.drop (k + 1))) := rfl
     rw [← HG.out, HX.out, e, t1]
     simp
    subst hgt
    clear HX HG
    obtain ⟨yn, hyn⟩ : ∃ yn, yn = y.now := ⟨_, rfl⟩
    rw [← hyn] at c0 t1
    clear hyn
    go_wp2_with (with_reducible first | refine qeo_ rfl _ rfl ab (ao + k * 69) rfl y q1 z1 ?_ | refine qlf_ rfl _ _ rfl _ _ y rfl rfl rfl z2 hnew z0 ?_)
    go_ret
    exact ⟨rfl, hB2⟩
  ·obtain rfl : k = n := by omega
   have hg : (g1 || g2 || g3 || !gr) = g := by
    have := HG.out
    rw [HZ.out, HN.out, List.drop_length] at this
    exact this
   have h1 := H1.out
   have h2 := H2.out
   have h3 := H3.out
   clear HG HZ
   have c5 := qdv_ hP tt
   have c6 := qcq_ hP tt
   rw [eg] at c5
   rw [ec] at c6
   have hz := NN.qar_ hp
   generalize t.ga = ga at *
   generalize t.gc = gc at *
   generalize t.ca = ca at *
   generalize t.cc = cc at *
   have HGG := h_ hg
   clear eg ec hg H1 H2 H3
   cases g1
   ·cases g2
    ·cases g3
     ·go_wp2_with (with_reducible first | refine NN.qp_ rfl _ rfl _ rfl hP hz ?_ | refine NN.qk_ (by with_unfolding_all rfl) _ rfl _ rfl hP hz ?_)
      refine (KR.out (by simp) (by simp) (by simp) _ hB).mono ?_
      rintro e v9 ⟨rfl, hb⟩
      replace hB := tb_ hB hb
      clear hb
      cases gr
      all_goals
       go_wp2_with fail
       go_ret
       exact ⟨by rw [← HGG.out]; rfl, hB⟩
     ·go_wp2_with fail
      go_ret
      exact ⟨by rw [← HGG.out]; rfl, hB⟩
    ·go_wp2_with fail
     go_ret
     exact ⟨by rw [← HGG.out]; rfl, hB⟩
   ·go_wp2_with fail
    go_ret
    exact ⟨by rw [← HGG.out]; rfl, hB⟩
def grt13 (p : NN.Pr) (t : Tl) (gs : List Gt) (ks : List Ck) (cs : List Cm) : Bool := grt t cs || !ruleP p t.g gs ks
theorem qadk_ (p : NN.Pr) (hp : p.ok) (t : Tl) (tt : p.tl = t.C) (ht : t.ok) (gs : List Gt) (ks : List Ck) (hgn : t.gn = gs.length) (hcn : t.cn = ks.length) (cs : List Cm) (n : Nat) (a : Option Addr) (c : Nat) (hn : n = cs.length) (hl : n ≤ 4611686018427387904) (g : Bool) (hg : grt13 p t gs ks cs = g) (w : World) (hA : ComesAt w a cs) (hG : GatesAt w t.ga gs) (hC : ChecksAt w t.ca ks) :
  Calls Tryz.prog 8 #[.agg (NN.prA p), .slice a n c] w fun r w' => r = .returned (.bool g) ∧ Below w.heap.size w w' := by
 refine qwr_ p t tt cs n a c hn hl t.gn t.cn rfl rfl _ _ _ (ruleP p t.g gs ks) g rfl rfl rfl ?_ w (h_ fun h1 h2 _ w' hb => ?_) hp hA
 ·rw [← hg, hn]
  unfold grt13 grt neg
  congr 1
  congr 1
  ·congr 1
   ·congr 1
    exact decide_eq_decide.2 (by omega)
   ·exact decide_eq_decide.2 (by omega)
  ·exact decide_eq_decide.2 (by omega)
 ·have := of_decide_eq_false h1
  have := of_decide_eq_false h2
  exact qse_ p hp t tt ht gs ks hgn hcn (by omega) (by omega) w' (hG.below hb) (hC.below hb)
theorem qws_ (w : World)
  (KN : Hid (Calls Tryz.prog 22 #[.agg (NN.prA NN.prL), .int .i64 5] w fun r w' => ∃ b, r = .returned (.tuple #[.pointer (some ⟨b, 0, none⟩), .int .i64 0]) ∧ (∀ w2, Below w'.heap.size w' w2 → Calls Tryz.prog 10 #[.pointer (some ⟨b, 0, none⟩)] w2 fun e w3 => e = .returned (.int .i64 1) ∧ Below w2.heap.size w2 w3) ∧ (∀ w2, Below w'.heap.size w' w2 → Calls Tryz.prog 11 #[.pointer (some ⟨b, 0, none⟩), .int .i64 0, .int .i64 0] w2 fun e w3 => e = .returned (.int .i64 0) ∧ Below w2.heap.size w2 w3) ∧ Below w.heap.size w w'))
  (K8 : HG_ 34 #[.int .i64 8] (.int .i64 0))
  (K7 : HG_ 34 #[.int .i64 7] (.int .i64 1)) :
  Ca_ 7 #[] w (.bool true) := by
 go_enter Tryz.func7, Tryz.ntmps7
 go_wp2_with (with_reducible refine qwg_ rfl rfl ?_)
 refine KN.out.mono ?_
 rintro e v1 ⟨b, rfl, K1, K2, hB⟩
 have H1 := h_ K1
 have H2 := h_ K2
 clear K1 K2
 go_wp2_with fail
 refine (H1.out _ (Below.refl _ _)).mono ?_
 rintro e v2 ⟨rfl, hb⟩
 replace hB := tb_ hB hb
 go_wp2_with fail
 refine (H2.out _ hb).mono ?_
 rintro e v3 ⟨rfl, hb3⟩
 replace hB := tb_ hB hb3
 clear hb3 hb
 go_wp2_with fail
 refine (K8.out _).mono ?_
 rintro e v4 ⟨rfl, hb3⟩
 replace hB := tb_ hB hb3
 clear hb3
 go_wp2_with fail
 refine (K7.out _).mono ?_
 rintro e v5 ⟨rfl, hb3⟩
 replace hB := tb_ hB hb3
 go_wp2_with fail
 go_ret
 exact ⟨rfl, hB⟩
theorem qyn_ (p : NN.Pr) (hp : p.ok) (h1 : p.one) (t : Tl) (tt : p.tl = t.C) (ht : t.ok) (gs : List Gt) (cs : List Ck) (hgn : t.gn = gs.length) (hcn : t.cn = cs.length) (hgl : t.gn ≤ 1000) (hcl : t.cn ≤ 1000) (room : Int) (hgood : ruleP p t.g gs cs = true) (w : World) (hT : Tab w) (hG : GatesAt w t.ga gs) (hC : ChecksAt w t.ca cs) :
  Calls Tryz.prog 22 #[.agg (NN.prA p), .int .i64 room] w fun r w' => ∃ b F, r = .returned (.tuple #[.pointer (some ⟨b, 0, none⟩), .int .i64 0]) ∧ TrS w' F b ⟨p, t.g, gs, cs, clampR room⟩ [entZ] [-1] ∧ (∀ i, F i → w.heap.size ≤ i) ∧ Below w.heap.size w w' :=
 tnew_w p hp room _ w (h_ fun w' hb => new_at p hp h1 t tt ht gs cs hgn hcn hgl hcl room hgood w' (hT.below hb) (hG.below hb) (hC.below hb))
theorem alive13 (w : World) (hT : Tab w) : Ca_ 7 #[] w (.bool true) := by
 refine qws_ w ?_ (h_ fun w' => ?_) (h_ fun w' => ?_)
 ·refine h_ ((qyn_ NN.prL (NN.tlZ_ok _ _ _ _ _) (NN.tlZ_one _ _ _ _ _) tlN tlN_is tlN_ok [] [] rfl rfl (Nat.zero_le _) (Nat.zero_le _) 5 (by decide +kernel) w hT (fun h => by simp at h) (fun h => by simp at h)).mono ?_)
  rintro r w' ⟨b, F, rfl, hA, _, hb⟩
  have hOk := Ok.one ⟨NN.prL, tlN.g, [], [], clampR 5⟩
  exact ⟨b, rfl, fun w2 h2 => qym_ (hA.below h2), fun w2 h2 => qbp_ (hA.below h2) hOk (by decide) 0 0 0 (fun _ => by decide) (.inl ⟨⟨by decide, by decide⟩, by decide, Ar.Up.self hOk (j := 0) (e := entZ) rfl⟩), hb⟩
 ·have := qfk_ 8 (by decide) (by decide) w'
  rwa [show ((Ar.hgt (Int.toNat 8) : Nat) : Int) = 0 from rfl] at this
 ·have := qfk_ 7 (by decide) (by decide) w'
  rwa [show ((Ar.hgt (Int.toNat 7) : Nat) : Int) = 1 from rfl] at this
def GrownP (w w' : World) (r : Ru) (m : Nat) (bt bm : Nat) : Prop := ∃ F Fm M ls, TrS w' F bt r M ls ∧ RfS w' w.heap.size Fm bm r M ∧ ls.length = M.length ∧ Ok r M ∧ M.length ≤ m
theorem grown_w (p : NN.Pr) (hp : p.ok) (r : Ru) (a : Option Addr) (n c : Nat) (ls : List Cm) (w : World) (HA : Hid (∀ w', Below w.heap.size w w' → ComesAt w' a ls)) (HN : Hid (n = ls.length)) (hn40 : n ≤ 40) (HT : Hid (∀ w', Below w.heap.size w w' → Tab w')) (KN : Hid (∀ w', Below w.heap.size w w' → Calls Tryz.prog 22 #[.agg (NN.prA p), .int .i64 100] w' fun e w'' => ∃ b F, e = .returned (.tuple #[.pointer (some ⟨b, 0, none⟩), .int .i64 0]) ∧ TrS w'' F b r [entZ] [-1] ∧ (∀ i, F i → w'.heap.size ≤ i) ∧ Below w'.heap.size w' w'')) (KF : Hid (∀ w', Below w.heap.size w w' → Calls Tryz.prog 36 #[.agg (NN.prA p), .int .i64 100] w' fun e w'' => ∃ b, e = .returned (.pointer (some ⟨b, 0, none⟩)) ∧ RfS w'' w.heap.size (fun i => w'.heap.size ≤ i ∧ i < w''.heap.size) b r [entZ] ∧ Below w'.heap.size w' w'')) (HG : Hid (r.gs.length ≤ 1000 ∧ r.cs.length ≤ 1000 ∧ 2 ≤ r.p.ivl)) (HNW : Hid (∀ x ∈ ls, -9223372036854775808 ≤ x.now ∧ x.now ≤ 9223372036854775807)) :
  Calls Tryz.prog 9 #[.agg (NN.prA p), .slice a n c] w fun e w' => ∃ bt bm, e = .returned (.tuple #[.pointer (some ⟨bt, 0, none⟩), .pointer (some ⟨bm, 0, none⟩), .bool true]) ∧ GrownP w w' r (n + 1) bt bm ∧ Below w.heap.size w w' := by
 have hz := NN.qar_ hp
 go_enter Tryz.func9, Tryz.ntmps9
 go_upto_region 1 with fail
 generalize hw0 : World.alloc _ _ = v0
 have hB : Below w.heap.size w v0 := bl_ hw0
 have hP : NN.PrAt v0 w.heap.size p := by rw [← hw0]; exact NN.Has.new _ _
 clear hw0
 obtain ⟨bP, hbP⟩ : ∃ x, x = w.heap.size := ⟨_, rfl⟩
 rw [← hbP] at hP ⊢
 have HBP : Hid (bP = w.heap.size) := h_ hbP
 clear hbP
 go_wp2_with (first | fail | (with_reducible refine NN.qp_ rfl _ rfl _ rfl hP hz ?_))
 refine (KN.out _ hB).mono ?_
 rintro e v3 ⟨bt, F, rfl, hS, hF, hb⟩
 have HF0 : Hid (∀ i, F i → w.heap.size ≤ i) := h_ fun i hi => Nat.le_trans hB.size (hF i hi)
 replace hP := hP.on hb
 replace hB := tb_ hB hb
 clear hb hF
 have HFl := h_ hS.1
 go_wp2_with (first | fail | (with_reducible refine NN.qp_ rfl _ rfl _ rfl hP hz ?_))
 refine (KF.out _ hB).mono ?_
 rintro e v12 ⟨bm, rfl, hR, hb⟩
 replace hS := hS.below hb
 replace hB := tb_ hB hb
 have HD : Hid (∀ i, F i → ¬ (v3.heap.size ≤ i ∧ i < v12.heap.size)) := h_ fun i hi hh => by have := HFl.out i hi; omega
 clear hb hP
 generalize hFm : (fun i => v3.heap.size ≤ i ∧ i < v12.heap.size) = Fm at *
 have HD0 : Hid (∀ i, F i → ¬ Fm i) := h_ fun i hi => by rw [← hFm]; exact HD.out i hi
 clear hFm HD HFl
 go_wp2_with fail
 go_loopw [10, 28] (fun u i wr => ∃ k : Nat, k ≤ n ∧ u = .bool true ∧ i = .int .i64 (k : Int) ∧ ∃ Fa Fm M lp, TrS wr Fa bt r M lp ∧ RfS wr w.heap.size Fm bm r M ∧ Hid (Ok r M ∧ M.length ≤ k + 1 ∧ lp.length = M.length ∧ (∀ i, Fa i → w.heap.size ≤ i) ∧ ∀ i, Fa i → ¬ Fm i) ∧ Below w.heap.size w wr) (fun _ i _ => n - (intOf i).toNat)
 case atStart => exact ⟨0, by omega, rfl, rfl, F, Fm, [entZ], [-1], hS, hR, h_ ⟨Ok.one r, Nat.le_refl _, rfl, HF0.out, HD0.out⟩, hB⟩
 case round =>
  clear hS hR hB HF0 HD0 F Fm
  obtain ⟨k, hk, rfl, rfl, Fa, Fm, M, lp, hS, hR, HM, hB⟩ := hrel
  by_cases hlt : k < n
  ·obtain ⟨ab, ao, hae, habl, hc⟩ := (HA.out _ hB) (by rw [← HN.out]; omega)
   subst hae
   have hk2 : k < ls.length := by rw [← HN.out]; exact hlt
   obtain ⟨q0, q1⟩ := hc k hk2
   clear hc
   have HNy := HNW.out _ (List.getElem_mem hk2)
   generalize ls[k] = y at *
   clear hk2
   have z1 := qgo_ q0
   have z2 := qie_ q0
   have z0 := qie_ (c := cmZ) hdZ_ok
   have zy := qj_ q0
   have hb2 : Below wr.heap.size wr ((wr.alloc (.cells Tryz.zeroCells66 66)).setRow wr.heap.size (cmA y)) := below_setRow ((Below.refl _ _).alloc (Nat.le_refl _) _) (Nat.le_refl _) _
   have hY := qyh_ wr y
   have hnew := qsf_ wr
   have hB2 := tb_ hB hb2
   have hS2 := hS.below hb2
   have hR2 := hR.below hb2
   have hT2 := HT.out _ hB2
   have cn := hY.now q0
   have rh := hY.head
   have hnY : ¬ Fa wr.heap.size := fun hf => by have := hS.1 _ hf; omega
   have KAdd := h_ (tadd_at hS2 HM.out.1 (by have := HM.out.2.1; omega) HM.out.2.2.1 HG.out.1 HG.out.2.1 hT2 y.h q0 y.now)
   clear hS hR hS2 hB hT2
   go_wp2_with (with_reducible first | refine qeo_ rfl _ rfl ab (ao + k * 69) rfl y q1 z1 ?_ | refine qlf_ rfl _ _ rfl _ _ y rfl rfl rfl z2 hnew z0 ?_ | refine qaf_ rfl _ rfl _ 0 rfl y.h rh zy ?_)
   refine KAdd.out.mono ?_
   rintro e v6 ⟨rfl, ⟨lp2, hlp2, hS6⟩, hK6⟩
   generalize World.setRow _ _ _ = v5 at *
   obtain ⟨bY, hbY⟩ : ∃ x, x = wr.heap.size := ⟨_, rfl⟩
   rw [← hbY] at hY hnY ⊢
   clear hbY
   have hY6 : CmAt v6 bY y := hK6.has hY hnY
   have hR6 := hR2.on hK6 (fun i hi hf => HM.out.2.2.2.2 i hf hi) (fun i hi => HM.out.2.2.2.1 i hi)
   have hB6 := hB2.trans (hK6.below HM.out.2.2.2.1 hB2.size)
   have cn6 := hY6.now q0
   have rh6 := hY6.head
   have KAdd2 := h_ (radd_at hR6 HM.out.1 (by have := HM.out.2.1; omega) HG.out.1 HG.out.2.1 HG.out.2.2 y.h q0 y.now HNy.1 HNy.2)
   have HDj : Hid (∀ i, Nxt Fa v5 v6 i → ¬ Fm i) := h_ fun i hi hf => hi.elim (fun h => HM.out.2.2.2.2 i h hf) (fun h => by have := (hR2.2.1 i hf).2; omega)
   have HFa6 : Hid (∀ i, Nxt Fa v5 v6 i → w.heap.size ≤ i) := h_ fun i hi => hi.elim (HM.out.2.2.2.1 i) (fun h => Nat.le_trans hB2.size h.1)
   have hOk := HM.out.1.add q0 y.now
   have hlen := add_len r M y.h y.now
   have HL2 : Hid (M.length ≤ k + 1) := h_ HM.out.2.1
   have HFm : Hid (∀ i, Fm i → w.heap.size ≤ i) := h_ fun i hi => (hR2.2.1 i hi).1
   have HLP := h_ hlp2
   clear hK6 hB2 KAdd hb2 HM hR2 hY hnY cn rh hlp2
   obtain ⟨⟨x1, x2, x3⟩, hres⟩ : ∃ res, res = (Ar.add r M y.h y.now).1 := ⟨_, rfl⟩
   rw [← hres] at KAdd2 ⊢
   go_wp2_with (first | fail | (with_reducible refine qaf_ rfl _ rfl _ 0 rfl y.h rh6 zy ?_))
   refine KAdd2.out.mono ?_
   rintro e v7 ⟨rfl, hR7, hK7⟩
   have hS7 := hS6.on hK7 (fun i hi hf => HDj.out i hi hf)
   have hB7 := hB6.trans (hK7.below HFm.out hB6.size)
   have hlx := hS6.1
   have HM7 : Hid (Ok r (Ar.add r M y.h y.now).2 ∧ (Ar.add r M y.h y.now).2.length ≤ k + 1 + 1 ∧ lp2.length = (Ar.add r M y.h y.now).2.length ∧ (∀ i, Nxt Fa v5 v6 i → w.heap.size ≤ i) ∧ ∀ i, Nxt Fa v5 v6 i → ¬ Nxt Fm v6 v7 i) := h_ ⟨hOk, by have := HL2.out; omega, HLP.out, HFa6.out, fun i hi hf => hf.elim (HDj.out i hi) (fun h => by have := hlx i hi; omega)⟩
   clear hK7 hB6 KAdd2 hS6 hR6 hOk hlen hlx HDj HFa6 hres cn6 rh6 hY6 HLP
   generalize (Ar.add r M y.h y.now).2 = M' at *
   generalize Nxt Fa v5 v6 = Fa' at *
   generalize Nxt Fm v6 v7 = Fm' at *
   have t1 : (x1 == x1) = true := by simp
   have t2 : (x2 == x2) = true := by simp
   have t3 : (x3 == x3) = true := by simp
   go_wp2_with fail
   go_roundw
   case rel => exact ⟨k + 1, by omega, rfl, by go_num, Fa', Fm', M', lp2, hS7, hR7, HM7, hB7⟩
   case measure => simp [intOf]; omega
  ·obtain rfl : k = n := by omega
   have HGr : Hid (GrownP w wr r (k + 1) bt bm) := h_ ⟨Fa, Fm, M, lp, hS, hR, HM.out.2.2.1, HM.out.1, HM.out.2.1⟩
   clear hS hR HM
   go_wp2_with fail
   go_ret3
   exact ⟨_, _, rfl, HGr.out, hB⟩
theorem qadl_ (p : NN.Pr) (hp : p.ok) (h1 : p.one) (t : Tl) (tt : p.tl = t.C) (ht : t.ok) (gs : List Gt) (cs : List Ck) (hgn : t.gn = gs.length) (hcn : t.cn = cs.length) (a : Option Addr) (ls : List Cm) (n c : Nat) (hn : n = ls.length) (hnow : ∀ x ∈ ls, -9223372036854775808 ≤ x.now ∧ x.now ≤ 9223372036854775807) (hg : grt13 p t gs cs ls = false) (w : World) (hT : Tab w) (hA : ComesAt w a ls) (hG : GatesAt w t.ga gs) (hC : ChecksAt w t.ca cs) :
  Calls Tryz.prog 9 #[.agg (NN.prA p), .slice a n c] w fun e w' => ∃ bt bm, e = .returned (.tuple #[.pointer (some ⟨bt, 0, none⟩), .pointer (some ⟨bm, 0, none⟩), .bool true]) ∧ GrownP w w' ⟨p, t.g, gs, cs, 100⟩ 41 bt bm ∧ Below w.heap.size w w' := by
 unfold grt13 grt at hg
 simp only [Bool.or_eq_false_iff, decide_eq_false_iff_not, Bool.not_eq_false'] at hg
 obtain ⟨⟨⟨⟨hg0, hg1⟩, hg2⟩, hg3⟩, hr⟩ := hg
 refine (grown_w p hp ⟨p, t.g, gs, cs, 100⟩ a n c ls w (h_ fun w' hb => hA.below hb) (h_ hn) (by omega) (h_ fun w' hb => hT.below hb) (h_ fun w' hb => ?_) (h_ fun w' hb => ?_) (h_ ⟨by simp only; omega, by simp only; omega, ?_⟩) (h_ hnow)).mono ?_
 ·exact qyn_ p hp h1 t tt ht gs cs hgn hcn (by omega) (by omega) 100 hr w' (hT.below hb) (hG.below hb) (hC.below hb)
 ·exact qacx_ p hp h1 t tt ht gs cs hgn hcn 100 w w' hb hG hC
 ·unfold ruleP NN.Pr.good at hr
  simp only [Bool.and_eq_true, decide_eq_true_eq] at hr
  exact hr.1.1.1.1.1.1.1.1.2
 ·rintro e w' ⟨bt, bm, rfl, ⟨F, Fm, M, lp, q1, q2, q3, q4, q5⟩, hb⟩
  exact ⟨bt, bm, rfl, ⟨F, Fm, M, lp, q1, q2, q3, q4, by omega⟩, hb⟩
end Go.Proofs.YtgaocfhlagbkpaaGreatDoor.An
namespace Go.Proofs.YtgaocfhlagbkpaaGreatDoor.An
open Go.RowKit Mem Sc
open Ar (Ent Ru entZ Ok isP Anc ComI)
end Go.Proofs.YtgaocfhlagbkpaaGreatDoor.An
namespace Go.Proofs.YtgaocfhlagbkpaaGreatDoor.An
open Go.RowKit Mem Sc
open Ar (Ent Ru entZ Ok isP ComI)
end Go.Proofs.YtgaocfhlagbkpaaGreatDoor.An
namespace Go.Proofs.YtgaocfhlagbkpaaGreatDoor.An
open Go.RowKit Mem Sc
open Ar (Ent Ru entZ Ok isP)
set_option maxRecDepth 100000
theorem qsv_ (p : Value) (x y : Int) (w : World) (KX : HK_ w 53 #[p, .int .i64 x] (.bool false)) :
  Ca_ 30 #[p, .int .i64 x, .int .i64 y] w (.bool false) := by
 have hB := Below.refl w.heap.size w
 go_enter Tryz.func30, Tryz.ntmps30
 go_wp2_with fail
 refine (KX.out _ hB).mono ?_
 rintro e v1 ⟨rfl, hb⟩
 replace hB := tb_ hB hb
 go_wp2_with fail
 go_ret
 exact ⟨rfl, hB⟩
def hvb (a b k m : Nat) : Bool := decide (0 < NN.Nm.cmp a b) || (NN.Nm.cmp a b == 0 && decide (k < m))
section
variable {w : World} {F : Nat → Prop} {b : Nat} {r : Ru} {M : List Ent} {ls : List Int}
end
theorem qlj_ (x y : Int) (w : World) : Ca_ 30 #[.pointer none, .int .i64 x, .int .i64 y] w (.bool false) := qsv_ _ x y w (h_ fun w' _ => qye_ x w')
theorem qlk_ (x y : Int) (w : World) : Ca_ 20 #[.pointer none, .int .i64 x, .int .i64 y] w (.bool false) := qsp_ _ _ x y false w (h_ (HeldIs.nil w)) (h_ fun w' _ => qlj_ x y w')
theorem tfind_w (tp ap : Value) (id : List UInt8) (hid : id.length = 32) (z : Int) (w : World) (KH : Hid (HeldIs w tp ap)) (KL : HK_ w 32 #[ap, .agg (bytesV id)] (.int .i64 z)) :
  Ca_ 19 #[tp, .agg (bytesV id)] w (.int .i64 z) := by
 have s1 : (bytesV id).size = 32 := by rw [ql_]; exact hid
 go_enter Tryz.func19, Tryz.ntmps19
 go_upto_region 1 with fail
 generalize hw0 : World.alloc _ _ = v0
 have hB : Below w.heap.size w v0 := bl_ hw0
 have hI : Has v0 w.heap.size (bytesV id) 28 := by rw [← hw0]; exact Has.new _ _
 clear hw0
 obtain ⟨bI, hbI⟩ : ∃ b, b = w.heap.size := ⟨_, rfl⟩
 rw [← hbI] at hI ⊢
 have q1 : ∀ w', (∃ r : Regrown, w' = Sort.grow (redrawn v0 r.d) r.os) → w'.rangeAt bI 0 (Lib.byteCells id) := fun w' hw' => qrz_ (qd_ (qad_ w' hw') hI (Has.lt hI))
 have hsl : (Lib.byteCells id).length = 32 := qh_ hid
 have hR : ∀ d os, Below w.heap.size w (Sort.grow (redrawn v0 d) os) := fun d os => hB.trans ((below_regrown v0 d os).mono hB.size)
 clear hbI
 refine wp_region_quiet_below (by kernel_rfl) (by kernel_rfl) ?_
 repeat (first
  | (go_big_quiet_want; (with_reducible refine qbb_ _ rfl bI 0 rfl id hsl q1 ?_); (simp only [Act.put, List.setIfInBounds_toArray, List.set_cons_zero, List.set_cons_succ]); go_big_quiet_on)
  | go_big_quiet_step ((go_at_call 38; exact Calls.regrown_of (KH.out _ (hR _ _))))
  | go_big_quiet_step ((go_at_call 32; exact Calls.regrown_of (KL.out _ (hR _ _)))))
 refine wpQuiet_nil ?_
 intro v3 hw'
 have hb := qad_ v3 hw'
 replace hB := tb_ hB hb
 clear hw' hb q1 hR
 go_wp2_with fail
 go_ret
 exact ⟨rfl, hB⟩
theorem qwt_ (id : List UInt8) (hid : id.length = 32) (w : World) : Ca_ 19 #[.pointer none, .agg (bytesV id)] w (.int .i64 (-1)) := tfind_w _ _ id hid (-1) w (h_ (HeldIs.nil w)) (h_ fun w' _ => qaci_ id w')
end Go.Proofs.YtgaocfhlagbkpaaGreatDoor.An
namespace Go.Proofs.YtgaocfhlagbkpaaGreatDoor.An
open Go.RowKit Mem Sc
end Go.Proofs.YtgaocfhlagbkpaaGreatDoor.An
namespace Go.Proofs.YtgaocfhlagbkpaaGreatDoor.An
open Go.RowKit Mem Sc NN.Rg2
open Ar (Ent Ru entZ Ok isP)
section
variable {ρ : Operand → Value} {o : Oper} {w : World}
end
end Go.Proofs.YtgaocfhlagbkpaaGreatDoor.An
