import Derived.Test.YtgaocfhlagbkpaaGreatDoorSIdm
import Derived.Test.YtgaocfhlagbkpaaGreatDoorSBunQ38
set_option maxRecDepth 100000
set_option maxHeartbeats 4000000
namespace Go.Proofs.YtgaocfhlagbkpaaGreatDoor.An
open Go.RowKit Mem Sc
open Ar (Ent Ru entZ Ok Lp hgt clr Up isP IsAn)
set_option maxRecDepth 100000
def AtIs (w : World) (tp : Value) (r : Ru) (M : List Ent) : Prop := ∀ w', Below w.heap.size w w' → ∀ (k : Int), (∃ (n : Nat) (e : Ent), k = (n : Int) ∧ M[n]? = some e ∧ (enOf r e).ok ∧ Calls Tryz.prog 26 #[tp, .int .i64 k] w' fun x w'' => x = .returned (.tuple #[.agg (enA (enOf r e)), .bool true]) ∧ Below w'.heap.size w' w'') ∨ (¬ isP M k ∧ Calls Tryz.prog 26 #[tp, .int .i64 k] w' fun x w'' => x = .returned (.tuple #[.agg (enA enN), .bool false]) ∧ Below w'.heap.size w' w'')
def LeapsAt (w : World) (b g n c : Nat) (ls : List Int) : Prop := w.cell? ⟨b, 1, none⟩ = some (.slice (some ⟨g, 0, none⟩) n c) ∧ ∀ (k : Nat) (x : Int), ls[k]? = some x → w.cell? ⟨g, k, none⟩ = some (.int .i64 x)
theorem AtIs.below {w w1 : World} {tp : Value} {r : Ru} {M : List Ent} (h : AtIs w tp r M) (hb : Below w.heap.size w w1) : AtIs w1 tp r M := fun w' hb' => h w' (tb_ hb hb')
theorem LeapsAt.below {w w1 : World} {b g n c : Nat} {ls : List Int} (h : LeapsAt w b g n c ls) (hb : Below w.heap.size w w1) : LeapsAt w1 b g n c ls :=
 ⟨(hb.cell (block_lt_of_cell h.1)).trans h.1, fun k x hk => (hb.cell (block_lt_of_cell (h.2 k x hk))).trans (h.2 k x hk)⟩
theorem TrS.atis {w : World} {F : Nat → Prop} {b : Nat} {r : Ru} {M : List Ent} {ls : List Int} (h : TrS w F b r M ls) : AtIs w (.pointer (some ⟨b, 0, none⟩)) r M := fun w' hb k => by
 by_cases hk : isP M k
 ·obtain ⟨n, e, rfl, he⟩ := hk.is
  refine .inl ⟨n, e, rfl, he, ?_, tat_at (h.below hb) he _ rfl⟩
  obtain ⟨Fa, ab, _, k2⟩ := h.parts
  exact qer_ k2 he
 ·exact .inr ⟨hk, qph_ (h.below hb) k hk⟩
theorem TrS.leaps {w : World} {F : Nat → Prop} {b : Nat} {r : Ru} {M : List Ent} {ls : List Int} (h : TrS w F b r M ls) (h0 : 0 < ls.length) : ∃ g c, LeapsAt w b g ls.length c ls := by
 obtain ⟨hl, Fa, ab, lv, h1, h2, h3, h4, h5, h6, h7, h8, h9⟩ := h
 obtain ⟨g, c, rfl, _⟩ := qtu_ h3 (k := 0) (x := ls[0]) (List.getElem?_eq_getElem h0)
 refine ⟨g, c, Has.cell h1 1, fun k x hk => ?_⟩
 obtain ⟨g2, c2, e, hc⟩ := qtu_ h3 hk
 cases e
 exact hc
theorem TrS.lp {w : World} {F : Nat → Prop} {b : Nat} {r : Ru} {M : List Ent} {ls : List Int} (h : TrS w F b r M ls) : Lp M ls := by
 obtain ⟨hl, Fa, ab, lv, h1, h2, h3, h4, _⟩ := h
 exact h4
theorem anc_no (tp : Value) (k h : Int) (E : En) (hE : E.ok) (t : Int) (ht : Hid (E.ht = t)) (g a b : Bool) (ha : decide (h < 0) = a) (hb : decide (t < h) = b) (hno : (!g || a || b) = true) (w : World) (KA : Hid (∀ w', Below w.heap.size w w' → Calls Tryz.prog 26 #[tp, .int .i64 k] w' fun x w'' => x = .returned (.tuple #[.agg (enA E), .bool g]) ∧ Below w'.heap.size w' w'')) :
  Calls Tryz.prog 11 #[tp, .int .i64 k, .int .i64 h] w fun x w' => x = .returned (.int .i64 (-1)) ∧ Below w.heap.size w w' := by
 have ze := qad_ hE
 have z0 := qad_ enZ_ok
 have hB := Below.refl w.heap.size w
 go_enter Tryz.func11, Tryz.ntmps11
 go_wp2_with fail
 refine (KA.out _ hB).mono ?_
 rintro x v1 ⟨rfl, hb⟩
 replace hB := tb_ hB hb
 clear hb
 have hnew := qck_ v1
 have hE1 := qhu_ v1 E
 have hb3 := qex_ v1 68 Tryz.zeroCells68 (enA E)
 go_upto_region 2 with (with_reducible refine qbn_ rfl _ _ rfl _ _ E rfl rfl rfl ze hnew z0 ?_)
 generalize World.setRow _ _ _ = v2 at *
 replace hB := tb_ hB hb3
 have c1 := EnAt.ht hE1 hE ht
 clear hb3 hnew
 cases g <;> cases a <;> cases b
 case true.false.false => cases hno
 all_goals
  clear hno
  go_wp2_with fail
  go_ret
  exact ⟨rfl, hB⟩
theorem up_lt {r : Ru} {M : List Ent} (hM : Ok r M) {n : Nat} {e : Ent} {h : Nat} {z : Int} (he : M[n]? = some e) (k : Up M (n : Int) h z) (hh : h < e.hs.length) : 0 ≤ z ∧ z < (n : Int) := by
 obtain ⟨L, h1, h2⟩ := k
 have q := (h1.up hM).2 z (List.mem_of_getElem? h2)
 refine ⟨q.1, ?_⟩
 have h3 := h1.last
 have h4 := h1.len hM he
 have hlt : h < L.length - 1 := by omega
 obtain ⟨u1, u2⟩ := List.getElem?_eq_some_iff.1 h2
 obtain ⟨v1, v2⟩ := List.getElem?_eq_some_iff.1 h3.2
 have := List.pairwise_iff_getElem.1 (h1.up hM).1 _ _ u1 v1 hlt
 omega
structure Way (r : Ru) (M : List Ent) (i : Int) (t n : Nat) (E : En) (k : Nat) : Prop where
 ok : E.ok
 ht : E.ht = (k : Int)
 low : t ≤ k
 ex : ∃ e, M[n]? = some e ∧ E = enOf r e ∧ e.hs.length = k ∧ Up M i k (n : Int)
theorem Way.next {r : Ru} {M : List Ent} {i : Int} {t n : Nat} {E : En} {k : Nat} (hM : Ok r M) (h : Way r M i t n E k) {j : Nat} {z : Int} (hz : ∀ e, M[n]? = some e → e.hs.length = k → Up M (n : Int) j z) (hj : j < k) (hj2 : t ≤ j) (hE : ∀ (m : Nat) (e : Ent), M[m]? = some e → (enOf r e).ok) :
  ∃ (m : Nat) (e : Ent), z = (m : Int) ∧ m < n ∧ M[m]? = some e ∧ Way r M i t m (enOf r e) j := by
 obtain ⟨e, h1, h2, h3, h4⟩ := h.ex
 have q := hz e h1 h3
 obtain ⟨m, d, rfl, hd, hl⟩ := q.place hM
 have := up_lt hM h1 q (by omega)
 exact ⟨m, d, rfl, by omega, hd, hE m d hd, by rw [← hl]; rfl, hj2, d, hd, rfl, hl, h4.trans q⟩
theorem qxr_ (b g nn c : Nat) (ls : List Int) (r : Ru) (M : List Ent) (hM : Ok r M) (hl : Lp M ls) (hn : nn = ls.length) (hl9 : M.length ≤ 900) (i : Nat) (hi : i < ls.length) (e : Ent) (he : M[i]? = some e) (t : Nat) (ht : t ≤ e.hs.length) (w : World)
  (KA : Hid (AtIs w (.pointer (some ⟨b, 0, none⟩)) r M)) (KL : Hid (LeapsAt w b g nn c ls)) :
  Calls Tryz.prog 11 #[.pointer (some ⟨b, 0, none⟩), .int .i64 (i : Int), .int .i64 (t : Int)] w fun x w' => ∃ z, x = .returned (.int .i64 z) ∧ Up M (i : Int) t z ∧ Below w.heap.size w w' := by
 have KAT : ∀ (n : Nat) (e : Ent), M[n]? = some e → Hid (∀ w', Below w.heap.size w w' → Calls Tryz.prog 26 #[.pointer (some ⟨b, 0, none⟩), .int .i64 (n : Int)] w' fun x w'' => x = .returned (.tuple #[.agg (enA (enOf r e)), .bool true]) ∧ Below w'.heap.size w' w'') := fun n e he => h_ fun w' hb => by
  rcases KA.out w' hb (n : Int) with ⟨m, d, h1, h2, _, h3⟩ | ⟨h1, _⟩
  ·obtain rfl : n = m := by omega
   rw [he] at h2
   cases h2
   exact h3
  ·exact absurd (Ar.isP_of he) h1
 have HOK : Hid (∀ (n : Nat) (e : Ent), M[n]? = some e → (enOf r e).ok) := h_ fun n e he => by
  rcases KA.out w (Below.refl _ _) (n : Int) with ⟨m, d, h1, h2, h3, _⟩ | ⟨h1, _⟩
  ·obtain rfl : n = m := by omega
   rw [he] at h2
   cases h2
   exact h3
  ·exact absurd (Ar.isP_of he) h1
 have hc := hM.chain i e he
 have hiM := (List.getElem?_eq_some_iff.1 he).1
 have KA1 := KAT i e he
 have hW : Hid (Way r M (i : Int) t i (enOf r e) e.hs.length) := h_ ⟨HOK.out i e he, rfl, ht, e, he, rfl, rfl, Up.self hM he⟩
 have hE := HOK.out i e he
 have z0 := qad_ enZ_ok
 have hB := Below.refl w.heap.size w
 obtain ⟨k, hk⟩ : ∃ k, k = e.hs.length := ⟨_, rfl⟩
 obtain ⟨E, hEe⟩ : ∃ E, E = enOf r e := ⟨_, rfl⟩
 have HT : Hid (E.ht = (k : Int)) := h_ (by rw [hEe, hk]; rfl)
 rw [← hk] at ht hc
 rw [← hEe] at KA1 hE hW
 rw [← hk] at hW
 have hk9 : k ≤ 900 := by omega
 clear he hEe hk KA
 have HN := h_ hn
 have HI := h_ hi
 clear hn hi hc
 have ze := qad_ hE
 have t1 : decide ((t : Int) < 0) = false := decide_eq_false (by omega)
 have t2 : ¬ k < t := by omega
 clear ht
 go_enter Tryz.func11, Tryz.ntmps11
 go_wp2_with fail
 refine (KA1.out _ hB).mono ?_
 rintro x v1 ⟨rfl, hb⟩
 replace hB := tb_ hB hb
 clear hb
 have hnew := qck_ v1
 have hE1 := qhu_ v1 E
 have hb3 := qex_ v1 68 Tryz.zeroCells68 (enA E)
 go_upto_region 2 with (with_reducible refine qbn_ rfl _ _ rfl _ _ E rfl rfl rfl ze hnew z0 ?_)
 generalize World.setRow _ _ _ = v2 at *
 obtain ⟨bX, hbX⟩ : ∃ x, x = v1.heap.size := ⟨_, rfl⟩
 rw [← hbX] at hE1 ⊢
 have HBX : Hid (w.heap.size ≤ bX) := h_ (by have := hB.size; omega)
 replace hB := tb_ hB hb3
 have c1 := EnAt.ht hE1 hE HT
 clear hb3 hnew hbX KA1
 go_wp2_with fail
 clear c1 t1 t2
 go_loopw [1] (fun v wr => ∃ (n : Nat) (E : En) (k : Nat), v = .int .i64 (n : Int) ∧ k ≤ 900 ∧ EnAt wr bX E ∧ Hid (n ≤ i ∧ Way r M (i : Int) t n E k) ∧ Below w.heap.size w wr) (fun v _ => (intOf v).toNat)
 case atStart => exact ⟨i, E, k, rfl, hk9, hE1, h_ ⟨Nat.le_refl _, hW.out⟩, hB⟩
 case round =>
  clear hE1 hB hW HT ze hE hk9
  obtain ⟨n, E, k, rfl, hk9, hE1, HW, hB⟩ := hrel
  have c1 := EnAt.ht hE1 HW.out.2.ok (h_ HW.out.2.ht)
  have ze := qad_ HW.out.2.ok
  by_cases hlt : t < k
  ·have hN : Hid (n < ls.length) := h_ (by have := HI.out; have := HW.out.1; omega)
   have KH := h_ fun w' => qdy_ (k : Int) (by omega) (by omega) w'
   rw [Int.toNat_natCast] at KH
   have hlt2 := Ar.hgt_lt (h := k) (by omega)
   by_cases hge : t ≤ hgt k
   ·obtain ⟨x, hx⟩ : ∃ x, ls[n]? = some x := ⟨_, List.getElem?_eq_getElem hN.out⟩
    obtain ⟨m, d, rfl, hmn, hd, hW2⟩ := HW.out.2.next hM (z := x) (j := hgt k) (fun e he hek => by have := hl.to_ n e x he hx (by omega); rwa [hek] at this) hlt2 hge HOK.out
    have HW2 : Hid (m ≤ i ∧ Way r M (i : Int) t m (enOf r d) (hgt k)) := h_ ⟨by have := HW.out.1; omega, hW2⟩
    have HX := h_ hx
    have hnn : n < nn := by rw [HN.out]; exact hN.out
    have KA2 := KAT m d hd
    have hE2 := HOK.out m d hd
    clear hW2 hx hd HW
    generalize enOf r d = E2 at *
    have z2 := qad_ hE2
    go_wp2_with fail
    refine (KH.out _).mono ?_
    rintro x v3 ⟨rfl, hb⟩
    replace hE1 := hE1.on hb
    replace hB := tb_ hB hb
    have hL1 := KL.out.below hB
    obtain ⟨l1, l2⟩ := hL1
    have l3 := l2 n _ HX.out
    have c2 := EnAt.ht hE1
    clear hb l2 KH c2
    go_wp2_with fail
    refine (KA2.out _ hB).mono ?_
    rintro x v4 ⟨rfl, hb⟩
    replace hE1 := hE1.on hb
    replace hB := tb_ hB hb
    clear hb l1 l3 KA2
    go_wp2_with (with_reducible refine qbn_ rfl _ _ rfl _ _ E2 rfl rfl rfl z2 hE1 ze ?_)
    have hE3 : EnAt _ bX E2 := Has.row hE1 (enA E2)
    have hB3 := below_setRow hB HBX.out (enA E2)
    generalize World.setRow _ _ _ = v5 at *
    simp only [Act.put]
    go_roundw
    case rel => exact ⟨m, E2, hgt k, rfl, by omega, hE3, HW2, hB3⟩
    case measure => simp [intOf]; omega
   ·have hup : Hid (∃ (m : Nat) (e : Ent), E.up = (m : Int) ∧ m < n ∧ M[m]? = some e ∧ Way r M (i : Int) t m (enOf r e) (k - 1)) := h_ (by
     obtain ⟨e, h1, h2, h3, h4⟩ := HW.out.2.ex
     have := HW.out.2.next hM (z := e.up) (j := k - 1) (fun d hd hdk => by rw [h1] at hd; cases hd; have := (Up.ahead hM h1 (by omega)).1; rwa [h3] at this) (by omega) (by omega) HOK.out
     rw [h2]
     exact this)
    obtain ⟨m, d, hu, hmn, hd, hW2⟩ := hup.out
    have HU := h_ hu
    have HW2 : Hid (m ≤ i ∧ Way r M (i : Int) t m (enOf r d) (k - 1)) := h_ ⟨by have := HW.out.1; omega, hW2⟩
    have KA2 := KAT m d hd
    have hE2 := HOK.out m d hd
    have HEok := h_ HW.out.2.ok
    clear hW2 hd HW hup hu
    generalize enOf r d = E2 at *
    have z2 := qad_ hE2
    go_wp2_with fail
    refine (KH.out _).mono ?_
    rintro x v3 ⟨rfl, hb⟩
    replace hE1 := hE1.on hb
    replace hB := tb_ hB hb
    have c2 := EnAt.up hE1 HEok.out HU
    clear hb KH
    go_wp2_with fail
    refine (KA2.out _ hB).mono ?_
    rintro x v4 ⟨rfl, hb⟩
    replace hE1 := hE1.on hb
    replace hB := tb_ hB hb
    clear hb c2 KA2
    go_wp2_with (with_reducible refine qbn_ rfl _ _ rfl _ _ E2 rfl rfl rfl z2 hE1 ze ?_)
    have hE3 : EnAt _ bX E2 := Has.row hE1 (enA E2)
    have hB3 := below_setRow hB HBX.out (enA E2)
    generalize World.setRow _ _ _ = v5 at *
    simp only [Act.put]
    go_roundw
    case rel => exact ⟨m, E2, k - 1, rfl, by omega, hE3, HW2, hB3⟩
    case measure => simp [intOf]; omega
  ·have hup : Hid (Up M (i : Int) t (n : Int)) := h_ (by
    obtain ⟨e, h1, h2, h3, h4⟩ := HW.out.2.ex
    have := HW.out.2.low
    obtain rfl : k = t := by omega
    exact h4)
   clear HW ze
   go_wp2_with fail
   go_ret
   exact ⟨_, rfl, hup.out, hB⟩
theorem qfq_ {w : World} {F : Nat → Prop} {b : Nat} {r : Ru} {M : List Ent} {ls : List Int} (h : TrS w F b r M ls) (hM : Ok r M) (hl9 : M.length ≤ 900) (i t z : Int) (hi : isP M i → i < (ls.length : Int)) (hz : IsAn M i t z) :
  Calls Tryz.prog 11 #[.pointer (some ⟨b, 0, none⟩), .int .i64 i, .int .i64 t] w fun x w' => x = .returned (.int .i64 z) ∧ Below w.heap.size w w' := by
 have hA := h.atis
 by_cases hp : isP M i
 ·obtain ⟨n, e, rfl, he⟩ := hp.is
  have hn := hi hp
  have hE : (enOf r e).ok ∧ ∀ w', Below w.heap.size w w' → Calls Tryz.prog 26 #[.pointer (some ⟨b, 0, none⟩), .int .i64 (n : Int)] w' fun x w'' => x = .returned (.tuple #[.agg (enA (enOf r e)), .bool true]) ∧ Below w'.heap.size w' w'' := by
   obtain ⟨Fa, ab, _, k2⟩ := h.parts
   exact ⟨qer_ k2 he, fun w' hb => tat_at (h.below hb) he _ rfl⟩
  by_cases hlow : t < 0 ∨ (e.hs.length : Int) < t
  ·have ez : z = -1 := hlow.elim (fun hh => hz.no (.inr hh)) (fun hh => hz.high hM he hh)
   subst ez
   exact anc_no _ (n : Int) t (enOf r e) hE.1 (e.hs.length : Nat) (h_ rfl) true _ _ rfl rfl (by simp only [Bool.not_true, Bool.false_or, Bool.or_eq_true, decide_eq_true_eq]; exact hlow) w (h_ hE.2)
  ·obtain ⟨tn, rfl⟩ := Int.eq_ofNat_of_zero_le (by omega : 0 ≤ t)
   obtain ⟨g, c, hL⟩ := h.leaps (by omega)
   refine (qxr_ b g ls.length c ls r M hM h.lp rfl hl9 n (by omega) e he tn (by omega) w (h_ hA) (h_ hL)).mono ?_
   rintro x w' ⟨z', rfl, hu, hb⟩
   have := hz.up hM he (by omega) (by omega)
   rw [Int.toNat_natCast] at this
   rw [hu.det this]
   exact ⟨rfl, hb⟩
 ·have ez := hz.no (.inl hp)
  subst ez
  have hE : ∀ w', Below w.heap.size w w' → Calls Tryz.prog 26 #[.pointer (some ⟨b, 0, none⟩), .int .i64 i] w' fun x w'' => x = .returned (.tuple #[.agg (enA enN), .bool false]) ∧ Below w'.heap.size w' w'' := fun w' hb => qph_ (h.below hb) i hp
  exact anc_no _ i t enN enN_ok 0 (h_ rfl) false _ _ rfl rfl rfl w (h_ hE)
end Go.Proofs.YtgaocfhlagbkpaaGreatDoor.An
namespace Go.Proofs.YtgaocfhlagbkpaaGreatDoor.An
open Go.RowKit Mem Sc NN.Rg2
open Ar (Ent Ru entZ Ok Lp hgt Up isP IsAn)
theorem tfield1 (w : World) (g : Nat) : (Instr.fieldAt 87 (.pointer (some ⟨g, 0, none⟩)) 1).run Tryz.prog w = .ok (.pointer (some ⟨g, 1, none⟩)) w := by kernel_rfl
theorem ld_ints {w : World} {p : Addr} {a : Option Addr} {n c : Nat} (h : w.cell? p = some (.slice a n c)) : (loadVar 43 p).run Tryz.prog w = .ok (.slice a n c) w := by
 go_simp
theorem tr_set {w : World} {b ab : Nat} {v : Value} (h : Has w b (trA ab v) 87) (v' : Value) : Has (w.setCell ⟨b, 1, none⟩ v') b (trA ab v') 87 := Has.set (i := 1) h v'
def TaR (tp ap : Value) (h : Hd) (now x1 x2 x3 : Int) : Nat → Value → Prop
 | 0, u => u = tp
 | 1, u => u = ap
 | 2, u => u = .agg (hdA h)
 | 3, u => u = .int .i64 now
 | 4, u | 5, u => u = .tuple #[.int .i64 x1, .int .i64 x2, .int .i64 x3]
 | 6, u | 9, u => u = .int .i64 x1
 | 7, u | 10, u => u = .int .i64 x2
 | 8, u | 11, u => u = .int .i64 x3
 | _, _ => now = now
def TgR (b bE g n c : Nat) (ua k q y : Int) : Nat → Value → Prop
 | 0, v | 1, v | 2, v | 5, v | 14, v => v = .pointer (some ⟨b, 0, none⟩)
 | 3, v | 15, v => v = .pointer (some ⟨b, 1, none⟩)
 | 4, v => v = .slice (some ⟨g, 0, none⟩) n c
 | 6, v => v = .pointer (some ⟨bE, 100, none⟩)
 | 7, v => v = .int .i64 ua
 | 8, v => v = .pointer (some ⟨bE, 101, none⟩)
 | 9, v => v = .int .i64 k
 | 10, v => v = .int .i64 q
 | 11, v => v = .int .i64 y
 | _, _ => b = b
theorem qpi_ (ab : Nat) (v : Value) (hv : v.oneCell' = true) : Tryz.prog.built 87 [(0, .pointer (some ⟨ab, 0, none⟩)), (1, v)] = some (trA ab v) := by
 have h : Tryz.prog.built 87 [(0, .pointer (some ⟨ab, 0, none⟩)), (1, v)] = Instr.fill ((#[(0, 1), (1, 1)] : Array (Nat × Nat))[·]?) #[.pointer none, .slice none 0 0] [(0, .pointer (some ⟨ab, 0, none⟩)), (1, v)] := by kernel_rfl
 rw [h]
 cases v <;> first | rfl | cases hv
theorem tnew_w (p : NN.Pr) (hp : p.ok) (room : Int) (r : Ru) (w : World) (KN : Hid (∀ w', Below w.heap.size w w' → Calls Tryz.prog 23 #[.agg (NN.prA p), .int .i64 room] w' fun e w'' => ∃ b F, e = .returned (.tuple #[.pointer (some ⟨b, 0, none⟩), .int .i64 0]) ∧ ArS w'' F b r [entZ] ∧ (∀ i, F i → w'.heap.size ≤ i) ∧ Below w'.heap.size w' w'')) :
  Calls Tryz.prog 22 #[.agg (NN.prA p), .int .i64 room] w fun e w' => ∃ b F, e = .returned (.tuple #[.pointer (some ⟨b, 0, none⟩), .int .i64 0]) ∧ TrS w' F b r [entZ] [-1] ∧ (∀ i, F i → w.heap.size ≤ i) ∧ Below w.heap.size w w' := by
 have hz := NN.qal_ hp
 go_enter Tryz.func22, Tryz.ntmps22
 go_upto_region 1 with fail
 generalize hw0 : World.alloc _ _ = v0
 have hB : Below w.heap.size w v0 := bl_ hw0
 have hP : NN.PrAt v0 w.heap.size p := by rw [← hw0]; exact NN.Has.new _ _
 clear hw0
 go_wp2_with (first | fail | (with_reducible refine NN.qv_ rfl _ rfl _ rfl hP hz ?_))
 refine (KN.out _ hB).mono ?_
 rintro e v1 ⟨ab, Fa, rfl, hA, hF, hb⟩
 have hF0 : ∀ i, Fa i → w.heap.size ≤ i := fun i hi => Nat.le_trans hB.size (hF i hi)
 replace hB := tb_ hB hb
 clear hb hP hF
 have hmk := fun w => qgd_ w (-1)
 have hbt := fun g => qpi_ ab (.slice (some ⟨g, 0, none⟩) 1 1) rfl
 go_wp2_with fail
 have hL1 : Has (v1.alloc (.cells #[.int .i64 (-1)] 3)) v1.heap.size #[.int .i64 (-1)] 3 := Has.new _ _
 have hbL : Below v1.heap.size v1 (v1.alloc (.cells #[.int .i64 (-1)] 3)) := (Below.refl _ _).alloc (Nat.le_refl _) _
 have hsz : (v1.alloc (.cells #[.int .i64 (-1)] 3)).heap.size = v1.heap.size + 1 := by simp
 generalize v1.alloc (.cells #[.int .i64 (-1)] 3) = v2 at *
 have hT : Has (v2.alloc (.cells (trA ab (.slice (some ⟨v1.heap.size, 0, none⟩) 1 1)) 87)) v2.heap.size (trA ab (.slice (some ⟨v1.heap.size, 0, none⟩) 1 1)) 87 := Has.new _ _
 rw [hsz] at hT
 have hbT : Below v2.heap.size v2 (v2.alloc (.cells (trA ab (.slice (some ⟨v1.heap.size, 0, none⟩) 1 1)) 87)) := (Below.refl _ _).alloc (Nat.le_refl _) _
 have hsz2 : (v2.alloc (.cells (trA ab (.slice (some ⟨v1.heap.size, 0, none⟩) 1 1)) 87)).heap.size = v2.heap.size + 1 := by simp
 go_ret2
 have hb2 : Below v1.heap.size v1 (v2.alloc (.cells (trA ab (.slice (some ⟨v1.heap.size, 0, none⟩) 1 1)) 87)) := tb_ hbL hbT
 have hs := hB.size
 have hA1 := hA.1
 refine ⟨v1.heap.size + 1, fun i => Fa i ∨ i = v1.heap.size ∨ i = v1.heap.size + 1, rfl, ⟨fun i hi => ?_, Fa, ab, .slice (some ⟨v1.heap.size, 0, none⟩) 1 1, hT, hA.below hb2, ⟨rfl, .inr ⟨v1.heap.size, 1, _, rfl, Nat.zero_le _, qd_ hbT hL1 (Has.lt hL1), Nat.le_refl _, by decide, rfl, rfl⟩⟩, Lp.one, .inr (.inr rfl), fun i hi => .inl hi, fun i hi => ?_, fun hf => ?_, fun i hi hf => ?_⟩, fun i hi => ?_, hB.trans (hb2.mono hs)⟩
 ·show i < (v2.alloc (.cells (trA ab (.slice (some ⟨v1.heap.size, 0, none⟩) 1 1)) 87)).heap.size
  rcases hi with hi | rfl | rfl
  ·have := hA1 i hi; omega
  ·omega
  ·omega
 ·exact .inr (.inl (Option.some.inj hi).symm)
 ·have := hA1 _ hf; omega
 ·have h1 : v1.heap.size = i := Option.some.inj hi
  have := hA1 _ hf; omega
 ·rcases hi with hi | rfl | rfl
  ·exact hF0 i hi
  ·exact hs
  ·omega
theorem qxs_ (tp ap : Value) (h : Hd) (ho : h.ok) (now x1 x2 x3 : Int) (X : World → World → Prop) (w : World)
  (KH : Hid (HeldIs w tp ap)) (KAdd : Hid (∀ w', Below w.heap.size w w' → Calls Tryz.prog 24 #[ap, .agg (hdA h), .int .i64 now] w' fun e w'' => e = .returned (.tuple #[.int .i64 x1, .int .i64 x2, .int .i64 x3]) ∧ X w' w'')) (hx : (x3 == 0) = false) :
  Calls Tryz.prog 16 #[tp, .agg (hdA h), .int .i64 now] w fun e w' => e = .returned (.tuple #[.int .i64 x1, .int .i64 x2, .int .i64 x3]) ∧ ∃ vx, Below w.heap.size w vx ∧ X vx w' := by
 have za := qah_ ho
 go_enter Tryz.func16, Tryz.ntmps16
 go_upto_region 1 with fail
 generalize hw0 : World.alloc _ _ = v0
 have hB : Below w.heap.size w v0 := bl_ hw0
 have hH : HdAt v0 w.heap.size h := by rw [← hw0]; exact Has.new _ _
 clear hw0
 obtain ⟨bH, hbH⟩ : ∃ x, x = w.heap.size := ⟨_, rfl⟩
 rw [← hbH] at hH ⊢
 clear hbH
 refine qh_ (by kernel_rfl) (fun _ => True) (fun i v' _ => TaR tp ap h now x1 x2 x3 i v') (fun l _ w' => Ph 4 (fun w' => Below w.heap.size w w' ∧ HdAt w' bH h) (fun w' => ∃ vx, Below w.heap.size w vx ∧ X vx w') l w') (fun _ _ => True) (fun _ _ => trivial) (fun _ _ _ _ _ _ h => h) (by kernel_rfl) trivial ?_ ?_ ?_
 ·exact fun l hl => Ph.zero hl ⟨hB.trans ((Below.refl _ _).drew.mono hB.size), Has.drew hH⟩
 ·intro i o listed a wx ho' hnl hdep hinv
  have hC := hinv.c
  have hI := hinv.i
  have hi : i < 12 := (Array.getElem?_eq_some_iff.1 ho').1
  obtain rfl | rfl | rfl | rfl | rfl | rfl | rfl | rfl | rfl | rfl | rfl | rfl : i = 0 ∨ i = 1 ∨ i = 2 ∨ i = 3 ∨ i = 4 ∨ i = 5 ∨ i = 6 ∨ i = 7 ∨ i = 8 ∨ i = 9 ∨ i = 10 ∨ i = 11 := by omega
  all_goals obtain rfl := Option.some.inj ho'
  ·have hsz := hz_ hinv 0
   exact dv_ 0 hinv (qa_ rfl) (NN.qn_ rfl) (hinv.old' 0) (hI.keep hsz (by decide))
  ·have hsz := hz_ hinv 1
   have hnK := ah_ hinv hnl 4
   have hpre := hI.pre hnK hsz (by decide)
   exact dC_ (S := T2_) 1 hinv (qa_ rfl) (f := 38) (args := #[a.eval (.tmp 15)]) (by kernel_rfl) (by rw [show a.eval (.tmp 15) = _ from (gd_ hinv hdep 0 15)];  exact KH.out wx hpre.1) (fun w' hb => ⟨trivial, trivial, rfl, Ph.made hnK (⟨tb_ hpre.1 hb, hpre.2.on hb⟩)⟩)
  ·have hsz := hz_ hinv 2
   have hnK := ah_ hinv hnl 4
   have hpre := hI.pre hnK hsz (by decide)
   exact dv_ 2 hinv (qa_ rfl) (qde_ rfl (hinv.old' 4) hpre.2 za) rfl (hI.keep hsz (by decide))
  ·have hsz := hz_ hinv 3
   exact dv_ 3 hinv (qa_ rfl) (NN.qn_ rfl) (hinv.old' 2) (hI.keep hsz (by decide))
  ·have hsz := hz_ hinv 4
   have hpre := hI.1 hnl
   exact dA_ (S := T2_) 4 hinv (qa_ rfl) (f := 24) (args := #[a.eval (.tmp 16), a.eval (.tmp 17), a.eval (.tmp 18)]) (by kernel_rfl) (by
    rw [show a.eval (.tmp 16) = _ from (gd_ hinv hdep 1 16), show a.eval (.tmp 17) = _ from (gd_ hinv hdep 2 17), show a.eval (.tmp 18) = _ from (gd_ hinv hdep 3 18)]
    refine (KAdd.out wx hpre.1).mono ?_
    rintro r w' ⟨rfl, hX⟩
    exact ⟨_, rfl, trivial, trivial, rfl, Ph.last hsz ⟨wx, hpre.1, hX⟩⟩)
  ·have hsz := hz_ hinv 5
   exact dv_ 5 hinv (qa_ rfl) (NN.qn_ rfl) (gd_ hinv hdep 4 19) (hI.keep hsz (by decide))
  ·have hsz := hz_ hinv 6
   exact dv_ 6 hinv (qa_ rfl) (NN.qu_ rfl (gd_ hinv hdep 5 14) rfl) rfl (hI.keep hsz (by decide))
  ·have hsz := hz_ hinv 7
   exact dv_ 7 hinv (qa_ rfl) (NN.qu_ rfl (gd_ hinv hdep 5 14) rfl) rfl (hI.keep hsz (by decide))
  ·have hsz := hz_ hinv 8
   exact dv_ 8 hinv (qa_ rfl) (NN.qu_ rfl (gd_ hinv hdep 5 14) rfl) rfl (hI.keep hsz (by decide))
  ·have hsz := hz_ hinv 9
   exact dv_ 9 hinv (qa_ rfl) (NN.qak_ rfl) (gd_ hinv hdep 6 20) (hI.keep hsz (by decide))
  ·have hsz := hz_ hinv 10
   exact dv_ 10 hinv (qa_ rfl) (NN.qak_ rfl) (gd_ hinv hdep 7 21) (hI.keep hsz (by decide))
  ·have hsz := hz_ hinv 11
   exact dv_ 11 hinv (qa_ rfl) (NN.qak_ rfl) (gd_ hinv hdep 8 22) (hI.keep hsz (by decide))
 intro listed a' v1 hall hinv
 obtain ⟨vx, hBx, hX⟩ := hinv.i.2 (hall 4 (by decide))
 have e9 : a'.eval (.tmp 9) = .int .i64 x1 := hinv.got 9 _ 9 rfl (hall 9 (by decide)) rfl
 have e10 : a'.eval (.tmp 10) = .int .i64 x2 := hinv.got 10 _ 10 rfl (hall 10 (by decide)) rfl
 have e11 : a'.eval (.tmp 11) = .int .i64 x3 := hinv.got 11 _ 11 rfl (hall 11 (by decide)) rfl
 have e0 : a'.eval (.tmp 0) = tp := hinv.old' 0
 obtain ⟨u, hu⟩ : ∃ u : Nat → Value, ∀ t, u t = a'.eval (.tmp t) := ⟨_, fun _ => rfl⟩
 rw [qbc_ a' 59 u hinv.tsize hinv.defers hu]
 rw [← hu] at e0 e9 e10 e11
 clear hu hinv hall
 simp only [List.range, List.range.loop, List.map_cons, List.map_nil]
 rw [e0, e9, e10, e11]
 clear e0 e9 e10 e11
 clear hB hH KH KAdd
 go_wp2_with fail
 go_ret3
 exact ⟨rfl, vx, hBx, hX⟩
theorem qxt_ (b : Nat) (ap : Value) (h : Hd) (ho : h.ok) (now x1 x2 x3 : Int) (X : World → World → Prop) (w : World)
  (KH : Hid (HeldIs w (.pointer (some ⟨b, 0, none⟩)) ap)) (KAdd : Hid (∀ w', Below w.heap.size w w' → Calls Tryz.prog 24 #[ap, .agg (hdA h), .int .i64 now] w' fun e w'' => e = .returned (.tuple #[.int .i64 x1, .int .i64 x2, .int .i64 x3]) ∧ X w' w'')) (n : Nat) (hx : (x3 == 0) = true) (hx2 : (x1 == (n : Int)) = false) (HV : Hid (∀ w' w'', Below w.heap.size w w' → X w' w'' → ∃ a c, w''.cell? ⟨b, 1, none⟩ = some (.slice a n c))) :
  Calls Tryz.prog 16 #[.pointer (some ⟨b, 0, none⟩), .agg (hdA h), .int .i64 now] w fun e w' => e = .returned (.tuple #[.int .i64 x1, .int .i64 x2, .int .i64 x3]) ∧ ∃ vx, Below w.heap.size w vx ∧ X vx w' := by
 have za := qah_ ho
 go_enter Tryz.func16, Tryz.ntmps16
 go_upto_region 1 with fail
 generalize hw0 : World.alloc _ _ = v0
 have hB : Below w.heap.size w v0 := bl_ hw0
 have hH : HdAt v0 w.heap.size h := by rw [← hw0]; exact Has.new _ _
 clear hw0
 obtain ⟨bH, hbH⟩ : ∃ x, x = w.heap.size := ⟨_, rfl⟩
 rw [← hbH] at hH ⊢
 clear hbH
 refine qh_ (by kernel_rfl) (fun _ => True) (fun i v' _ => TaR (.pointer (some ⟨b, 0, none⟩)) ap h now x1 x2 x3 i v') (fun l _ w' => Ph 4 (fun w' => Below w.heap.size w w' ∧ HdAt w' bH h) (fun w' => ∃ vx, Below w.heap.size w vx ∧ X vx w') l w') (fun _ _ => True) (fun _ _ => trivial) (fun _ _ _ _ _ _ h => h) (by kernel_rfl) trivial ?_ ?_ ?_
 ·exact fun l hl => Ph.zero hl ⟨hB.trans ((Below.refl _ _).drew.mono hB.size), Has.drew hH⟩
 ·intro i o listed a wx ho' hnl hdep hinv
  have hC := hinv.c
  have hI := hinv.i
  have hi : i < 12 := (Array.getElem?_eq_some_iff.1 ho').1
  obtain rfl | rfl | rfl | rfl | rfl | rfl | rfl | rfl | rfl | rfl | rfl | rfl : i = 0 ∨ i = 1 ∨ i = 2 ∨ i = 3 ∨ i = 4 ∨ i = 5 ∨ i = 6 ∨ i = 7 ∨ i = 8 ∨ i = 9 ∨ i = 10 ∨ i = 11 := by omega
  all_goals obtain rfl := Option.some.inj ho'
  ·have hsz := hz_ hinv 0
   exact dv_ 0 hinv (qa_ rfl) (NN.qn_ rfl) (hinv.old' 0) (hI.keep hsz (by decide))
  ·have hsz := hz_ hinv 1
   have hnK := ah_ hinv hnl 4
   have hpre := hI.pre hnK hsz (by decide)
   exact dC_ (S := T2_) 1 hinv (qa_ rfl) (f := 38) (args := #[a.eval (.tmp 15)]) (by kernel_rfl) (by rw [show a.eval (.tmp 15) = _ from (gd_ hinv hdep 0 15)];  exact KH.out wx hpre.1) (fun w' hb => ⟨trivial, trivial, rfl, Ph.made hnK (⟨tb_ hpre.1 hb, hpre.2.on hb⟩)⟩)
  ·have hsz := hz_ hinv 2
   have hnK := ah_ hinv hnl 4
   have hpre := hI.pre hnK hsz (by decide)
   exact dv_ 2 hinv (qa_ rfl) (qde_ rfl (hinv.old' 4) hpre.2 za) rfl (hI.keep hsz (by decide))
  ·have hsz := hz_ hinv 3
   exact dv_ 3 hinv (qa_ rfl) (NN.qn_ rfl) (hinv.old' 2) (hI.keep hsz (by decide))
  ·have hsz := hz_ hinv 4
   have hpre := hI.1 hnl
   exact dA_ (S := T2_) 4 hinv (qa_ rfl) (f := 24) (args := #[a.eval (.tmp 16), a.eval (.tmp 17), a.eval (.tmp 18)]) (by kernel_rfl) (by
    rw [show a.eval (.tmp 16) = _ from (gd_ hinv hdep 1 16), show a.eval (.tmp 17) = _ from (gd_ hinv hdep 2 17), show a.eval (.tmp 18) = _ from (gd_ hinv hdep 3 18)]
    refine (KAdd.out wx hpre.1).mono ?_
    rintro r w' ⟨rfl, hX⟩
    exact ⟨_, rfl, trivial, trivial, rfl, Ph.last hsz ⟨wx, hpre.1, hX⟩⟩)
  ·have hsz := hz_ hinv 5
   exact dv_ 5 hinv (qa_ rfl) (NN.qn_ rfl) (gd_ hinv hdep 4 19) (hI.keep hsz (by decide))
  ·have hsz := hz_ hinv 6
   exact dv_ 6 hinv (qa_ rfl) (NN.qu_ rfl (gd_ hinv hdep 5 14) rfl) rfl (hI.keep hsz (by decide))
  ·have hsz := hz_ hinv 7
   exact dv_ 7 hinv (qa_ rfl) (NN.qu_ rfl (gd_ hinv hdep 5 14) rfl) rfl (hI.keep hsz (by decide))
  ·have hsz := hz_ hinv 8
   exact dv_ 8 hinv (qa_ rfl) (NN.qu_ rfl (gd_ hinv hdep 5 14) rfl) rfl (hI.keep hsz (by decide))
  ·have hsz := hz_ hinv 9
   exact dv_ 9 hinv (qa_ rfl) (NN.qak_ rfl) (gd_ hinv hdep 6 20) (hI.keep hsz (by decide))
  ·have hsz := hz_ hinv 10
   exact dv_ 10 hinv (qa_ rfl) (NN.qak_ rfl) (gd_ hinv hdep 7 21) (hI.keep hsz (by decide))
  ·have hsz := hz_ hinv 11
   exact dv_ 11 hinv (qa_ rfl) (NN.qak_ rfl) (gd_ hinv hdep 8 22) (hI.keep hsz (by decide))
 intro listed a' v1 hall hinv
 obtain ⟨vx, hBx, hX⟩ := hinv.i.2 (hall 4 (by decide))
 have e9 : a'.eval (.tmp 9) = .int .i64 x1 := hinv.got 9 _ 9 rfl (hall 9 (by decide)) rfl
 have e10 : a'.eval (.tmp 10) = .int .i64 x2 := hinv.got 10 _ 10 rfl (hall 10 (by decide)) rfl
 have e11 : a'.eval (.tmp 11) = .int .i64 x3 := hinv.got 11 _ 11 rfl (hall 11 (by decide)) rfl
 have e0 : a'.eval (.tmp 0) = (.pointer (some ⟨b, 0, none⟩)) := hinv.old' 0
 obtain ⟨u, hu⟩ : ∃ u : Nat → Value, ∀ t, u t = a'.eval (.tmp t) := ⟨_, fun _ => rfl⟩
 rw [qbc_ a' 59 u hinv.tsize hinv.defers hu]
 rw [← hu] at e0 e9 e10 e11
 clear hu hinv hall
 simp only [List.range, List.range.loop, List.map_cons, List.map_nil]
 rw [e0, e9, e10, e11]
 clear e0 e9 e10 e11
 clear hB hH KH KAdd
 obtain ⟨al, cl, c1⟩ := HV.out vx v1 hBx hX
 go_wp2_with fail
 go_ret3
 exact ⟨rfl, vx, hBx, hX⟩
theorem qxu_ (b ab g n c : Nat) (ap : Value) (h : Hd) (ho : h.ok) (now x2 : Int) (X : World → World → Prop) (w : World)
  (KH : Hid (HeldIs w (.pointer (some ⟨b, 0, none⟩)) ap)) (KAdd : Hid (∀ w', Below w.heap.size w w' → Calls Tryz.prog 24 #[ap, .agg (hdA h), .int .i64 now] w' fun e w'' => e = .returned (.tuple #[.int .i64 (n : Int), .int .i64 x2, .int .i64 0]) ∧ X w' w'')) (ls : List Int) (h9 : n ≤ 1000) (E : En) (hE : E.ok) (ua k q y : Int) (HU : Hid (E.up = ua)) (HT : Hid (E.ht = k)) (hne : b ≠ g)
  (HV : Hid (∀ w' w'', Below w.heap.size w w' → X w' w'' → Has w'' b (trA ab (.slice (some ⟨g, 0, none⟩) n c)) 87 ∧ w''.ownsRow 0 3 1 (.slice (some ⟨g, 0, none⟩) n c) n (ls.map (Value.int .i64))))
  (KAt : Hid (∀ w' w'', Below w.heap.size w w' → X w' w'' → ∀ w3, Below w''.heap.size w'' w3 → Calls Tryz.prog 26 #[.pointer (some ⟨b, 0, none⟩), .int .i64 (n : Int)] w3 fun x w4 => x = .returned (.tuple #[.agg (enA E), .bool true]) ∧ Below w3.heap.size w3 w4))
  (KHt : HG_ 34 #[.int .i64 k] (.int .i64 q))
  (KAn0 : Hid (∀ w' w'', Below w.heap.size w w' → X w' w'' → ∀ w3, Below w''.heap.size w'' w3 → Calls Tryz.prog 11 #[.pointer (some ⟨b, 0, none⟩), .int .i64 ua, .int .i64 q] w3 fun x w4 => x = .returned (.int .i64 y) ∧ Below w3.heap.size w3 w4)) :
  Calls Tryz.prog 16 #[.pointer (some ⟨b, 0, none⟩), .agg (hdA h), .int .i64 now] w fun e w' => e = .returned (.tuple #[.int .i64 (n : Int), .int .i64 x2, .int .i64 0]) ∧ ∃ vx v1 v2 v', Below w.heap.size w vx ∧ X vx v1 ∧ Below v1.heap.size v1 v2 ∧ Kp (fun i => i = b ∨ i = g) v2 w' ∧ Has w' b (trA ab v') 87 ∧ w'.ownsRow 0 3 1 v' (n + 1) ((ls ++ [y]).map (Value.int .i64)) ∧ (v'.ownBlock = some g ∨ ∃ g', v'.ownBlock = some g' ∧ v2.heap.size ≤ g') := by
 have za := qah_ ho
 go_enter Tryz.func16, Tryz.ntmps16
 go_upto_region 1 with fail
 generalize hw0 : World.alloc _ _ = v0
 have hB : Below w.heap.size w v0 := bl_ hw0
 have hH : HdAt v0 w.heap.size h := by rw [← hw0]; exact Has.new _ _
 clear hw0
 obtain ⟨bH, hbH⟩ : ∃ x, x = w.heap.size := ⟨_, rfl⟩
 rw [← hbH] at hH ⊢
 clear hbH
 refine qh_ (by kernel_rfl) (fun _ => True) (fun i v' _ => TaR (.pointer (some ⟨b, 0, none⟩)) ap h now (n : Int) x2 0 i v') (fun l _ w' => Ph 4 (fun w' => Below w.heap.size w w' ∧ HdAt w' bH h) (fun w' => ∃ vx, Below w.heap.size w vx ∧ X vx w') l w') (fun _ _ => True) (fun _ _ => trivial) (fun _ _ _ _ _ _ h => h) (by kernel_rfl) trivial ?_ ?_ ?_
 ·exact fun l hl => Ph.zero hl ⟨hB.trans ((Below.refl _ _).drew.mono hB.size), Has.drew hH⟩
 ·intro i o listed a wx ho' hnl hdep hinv
  have hC := hinv.c
  have hI := hinv.i
  have hi : i < 12 := (Array.getElem?_eq_some_iff.1 ho').1
  obtain rfl | rfl | rfl | rfl | rfl | rfl | rfl | rfl | rfl | rfl | rfl | rfl : i = 0 ∨ i = 1 ∨ i = 2 ∨ i = 3 ∨ i = 4 ∨ i = 5 ∨ i = 6 ∨ i = 7 ∨ i = 8 ∨ i = 9 ∨ i = 10 ∨ i = 11 := by omega
  all_goals obtain rfl := Option.some.inj ho'
  ·have hsz := hz_ hinv 0
   exact dv_ 0 hinv (qa_ rfl) (NN.qn_ rfl) (hinv.old' 0) (hI.keep hsz (by decide))
  ·have hsz := hz_ hinv 1
   have hnK := ah_ hinv hnl 4
   have hpre := hI.pre hnK hsz (by decide)
   exact dC_ (S := T2_) 1 hinv (qa_ rfl) (f := 38) (args := #[a.eval (.tmp 15)]) (by kernel_rfl) (by rw [show a.eval (.tmp 15) = _ from (gd_ hinv hdep 0 15)];  exact KH.out wx hpre.1) (fun w' hb => ⟨trivial, trivial, rfl, Ph.made hnK (⟨tb_ hpre.1 hb, hpre.2.on hb⟩)⟩)
  ·have hsz := hz_ hinv 2
   have hnK := ah_ hinv hnl 4
   have hpre := hI.pre hnK hsz (by decide)
   exact dv_ 2 hinv (qa_ rfl) (qde_ rfl (hinv.old' 4) hpre.2 za) rfl (hI.keep hsz (by decide))
  ·have hsz := hz_ hinv 3
   exact dv_ 3 hinv (qa_ rfl) (NN.qn_ rfl) (hinv.old' 2) (hI.keep hsz (by decide))
  ·have hsz := hz_ hinv 4
   have hpre := hI.1 hnl
   exact dA_ (S := T2_) 4 hinv (qa_ rfl) (f := 24) (args := #[a.eval (.tmp 16), a.eval (.tmp 17), a.eval (.tmp 18)]) (by kernel_rfl) (by
    rw [show a.eval (.tmp 16) = _ from (gd_ hinv hdep 1 16), show a.eval (.tmp 17) = _ from (gd_ hinv hdep 2 17), show a.eval (.tmp 18) = _ from (gd_ hinv hdep 3 18)]
    refine (KAdd.out wx hpre.1).mono ?_
    rintro r w' ⟨rfl, hX⟩
    exact ⟨_, rfl, trivial, trivial, rfl, Ph.last hsz ⟨wx, hpre.1, hX⟩⟩)
  ·have hsz := hz_ hinv 5
   exact dv_ 5 hinv (qa_ rfl) (NN.qn_ rfl) (gd_ hinv hdep 4 19) (hI.keep hsz (by decide))
  ·have hsz := hz_ hinv 6
   exact dv_ 6 hinv (qa_ rfl) (NN.qu_ rfl (gd_ hinv hdep 5 14) rfl) rfl (hI.keep hsz (by decide))
  ·have hsz := hz_ hinv 7
   exact dv_ 7 hinv (qa_ rfl) (NN.qu_ rfl (gd_ hinv hdep 5 14) rfl) rfl (hI.keep hsz (by decide))
  ·have hsz := hz_ hinv 8
   exact dv_ 8 hinv (qa_ rfl) (NN.qu_ rfl (gd_ hinv hdep 5 14) rfl) rfl (hI.keep hsz (by decide))
  ·have hsz := hz_ hinv 9
   exact dv_ 9 hinv (qa_ rfl) (NN.qak_ rfl) (gd_ hinv hdep 6 20) (hI.keep hsz (by decide))
  ·have hsz := hz_ hinv 10
   exact dv_ 10 hinv (qa_ rfl) (NN.qak_ rfl) (gd_ hinv hdep 7 21) (hI.keep hsz (by decide))
  ·have hsz := hz_ hinv 11
   exact dv_ 11 hinv (qa_ rfl) (NN.qak_ rfl) (gd_ hinv hdep 8 22) (hI.keep hsz (by decide))
 intro listed a' v1 hall hinv
 obtain ⟨vx, hBx, hX⟩ := hinv.i.2 (hall 4 (by decide))
 have e9 : a'.eval (.tmp 9) = .int .i64 (n : Int) := hinv.got 9 _ 9 rfl (hall 9 (by decide)) rfl
 have e10 : a'.eval (.tmp 10) = .int .i64 x2 := hinv.got 10 _ 10 rfl (hall 10 (by decide)) rfl
 have e11 : a'.eval (.tmp 11) = .int .i64 0 := hinv.got 11 _ 11 rfl (hall 11 (by decide)) rfl
 have e0 : a'.eval (.tmp 0) = (.pointer (some ⟨b, 0, none⟩)) := hinv.old' 0
 obtain ⟨u, hu⟩ : ∃ u : Nat → Value, ∀ t, u t = a'.eval (.tmp t) := ⟨_, fun _ => rfl⟩
 rw [qbc_ a' 59 u hinv.tsize hinv.defers hu]
 rw [← hu] at e0 e9 e10 e11
 clear hu hinv hall
 simp only [List.range, List.range.loop, List.map_cons, List.map_nil]
 rw [e0, e9, e10, e11]
 clear e0 e9 e10 e11
 clear hB hH KH KAdd
 obtain ⟨hA0, rL0⟩ := HV.out vx v1 hBx hX
 have KA1 := h_ (KAt.out vx v1 hBx hX)
 have KA2 := h_ (KAn0.out vx v1 hBx hX)
 have HQ := h_ (And.intro hBx hX)
 clear HV KAt KAn0 hBx hX
 have c1 := Has.cell hA0 1
 have hB := Below.refl v1.heap.size v1
 have t3 : ((n : Int) == (n : Int)) = true := by simp
 have c1' : v1.cell? ⟨b, 1, none⟩ = some (.slice (some ⟨g, 0, none⟩) n c) := c1
 clear c1
 go_wp2_with fail
 refine (KA1.out _ hB).mono ?_
 rintro x v1' ⟨rfl, hb⟩
 replace hB := tb_ hB hb
 clear hb KA1 c1'
 have hnew := qck_ v1'
 have hE1 := qhu_ v1' E
 have ze := qad_ hE
 have z0 := qad_ enZ_ok
 have hb3 := qex_ v1' 68 Tryz.zeroCells68 (enA E)
 go_upto_region 4 with (with_reducible refine qbn_ rfl _ _ rfl _ _ E rfl rfl rfl ze hnew z0 ?_)
 generalize World.setRow _ _ _ = v2 at *
 obtain ⟨bE, hbE⟩ : ∃ x, x = v1'.heap.size := ⟨_, rfl⟩
 rw [← hbE] at hE1 ⊢
 have hlt1 := Has.lt hA0
 have hlt2 := (row_lt rL0 (i := g) rfl).1
 have hs1 := hB.size
 have fE : ¬ (bE = b ∨ bE = g) := fun h => by rcases h with h | h <;> omega
 replace hB := tb_ hB hb3
 have k0 := Kp.of (F := fun _ => False) hB
 have hA := k0.has hA0 (fun h => h)
 have rL := kp_row rL0 k0 (fun _ _ h => h)
 have KAn : Hid (∀ w3, Below v2.heap.size v2 w3 → Calls Tryz.prog 11 #[.pointer (some ⟨b, 0, none⟩), .int .i64 ua, .int .i64 q] w3 fun x w4 => x = .returned (.int .i64 y) ∧ Below w3.heap.size w3 w4) := h_ fun w3 hb => KA2.out w3 (tb_ hB hb)
 have HNE : Hid (g ≠ b) := h_ fun h => hne h.symm
 clear hbE hlt1 hlt2 hs1 hb3 hnew k0 hA0 rL0 KA2 hne
 refine qh_ (by kernel_rfl) (fun w' => Kp (fun i => i = b ∨ i = g) v2 w') (fun i v' _ => TgR b bE g n c ua k q y i v') (fun l a w' => ApI 12 13 16 52 53 v2.heap.size 3 87 1 (fun cs => cs = #[.int .i64 y]) (.slice (some ⟨g, 0, none⟩) n c) n (ls.map (Value.int .i64)) b (fun u => trA ab u) l a w' ∧ Ph 13 (fun w' => Below v2.heap.size v2 w') (fun _ => True) l w') (fun _ _ => True) (fun _ _ => trivial) (fun _ _ _ _ _ _ h => h) (by kernel_rfl) (Kp.of (Below.refl _ _).drew) ?_ ?_ ?_
 ·exact fun l hl => ⟨ApI.zero hl (kp_row rL (Kp.of (F := fun _ => False) (Below.refl _ _).drew) (fun _ _ h => h)) (Has.drew hA), Ph.zero hl (Below.refl _ _).drew⟩
 ·intro i o listed a wx ho' hnl hdep hinv
  have hC := hinv.c
  have hI := hinv.i
  have hi : i < 17 := (Array.getElem?_eq_some_iff.1 ho').1
  have hEx : EnAt wx bE E := hC.has hE1 fE
  have hlx : v2.heap.size ≤ wx.heap.size := hC.size
  obtain rfl | rfl | rfl | rfl | rfl | rfl | rfl | rfl | rfl | rfl | rfl | rfl | rfl | rfl | rfl | rfl | rfl : i = 0 ∨ i = 1 ∨ i = 2 ∨ i = 3 ∨ i = 4 ∨ i = 5 ∨ i = 6 ∨ i = 7 ∨ i = 8 ∨ i = 9 ∨ i = 10 ∨ i = 11 ∨ i = 12 ∨ i = 13 ∨ i = 14 ∨ i = 15 ∨ i = 16 := by omega
  all_goals obtain rfl := Option.some.inj ho'
  ·have hsz := hz_ hinv 0
   exact dv_ 0 hinv (qa_ rfl) (NN.qn_ rfl) (hinv.old' 0) ⟨hI.1.keep hsz (by decide) (by decide) (by decide) _ _ (by decide) (by decide), hI.2.keep hsz (by decide)⟩
  ·have hsz := hz_ hinv 1
   exact dv_ 1 hinv (qa_ rfl) (NN.qn_ rfl) (hinv.old' 0) ⟨hI.1.keep hsz (by decide) (by decide) (by decide) _ _ (by decide) (by decide), hI.2.keep hsz (by decide)⟩
  ·have hsz := hz_ hinv 2
   exact dv_ 2 hinv (qa_ rfl) (ex_nil rfl (gd_ hinv hdep 1 41)) rfl ⟨hI.1.keep hsz (by decide) (by decide) (by decide) _ _ (by decide) (by decide), hI.2.keep hsz (by decide)⟩
  ·have hsz := hz_ hinv 3
   exact dv_ 3 hinv (qa_ rfl) (qaw_ rfl (gd_ hinv hdep 2 42) (tfield1 wx b)) rfl ⟨hI.1.keep hsz (by decide) (by decide) (by decide) _ _ (by decide) (by decide), hI.2.keep hsz (by decide)⟩
  ·have hsz := hz_ hinv 4
   have hks := ah_ hinv hnl 16
   have hAx := hI.1.ha (by rw [← qk_ listed 4 16 hsz (by decide)]; exact hks)
   exact dv_ 4 hinv (qa_ rfl) (qpc_ rfl (gd_ hinv hdep 3 43) (ld_ints (Has.cell hAx 1))) rfl ⟨hI.1.keep hsz (by decide) (by decide) (by decide) _ _ (by decide) (by decide), hI.2.keep hsz (by decide)⟩
  ·have hsz := hz_ hinv 5
   exact dv_ 5 hinv (qa_ rfl) (NN.qn_ rfl) (hinv.old' 0) ⟨hI.1.keep hsz (by decide) (by decide) (by decide) _ _ (by decide) (by decide), hI.2.keep hsz (by decide)⟩
  ·have hsz := hz_ hinv 6
   exact dv_ 6 hinv (qa_ rfl) (qaw_ rfl (hinv.old' 12) (efield2 wx bE)) rfl ⟨hI.1.keep hsz (by decide) (by decide) (by decide) _ _ (by decide) (by decide), hI.2.keep hsz (by decide)⟩
  ·have hsz := hz_ hinv 7
   exact dv_ 7 hinv (qa_ rfl) (NN.qbh_ rfl (gd_ hinv hdep 6 46) (EnAt.up hEx hE HU)) rfl ⟨hI.1.keep hsz (by decide) (by decide) (by decide) _ _ (by decide) (by decide), hI.2.keep hsz (by decide)⟩
  ·have hsz := hz_ hinv 8
   exact dv_ 8 hinv (qa_ rfl) (qaw_ rfl (hinv.old' 12) (efield3 wx bE)) rfl ⟨hI.1.keep hsz (by decide) (by decide) (by decide) _ _ (by decide) (by decide), hI.2.keep hsz (by decide)⟩
  ·have hsz := hz_ hinv 9
   exact dv_ 9 hinv (qa_ rfl) (NN.qbh_ rfl (gd_ hinv hdep 8 48) (EnAt.ht hEx hE HT)) rfl ⟨hI.1.keep hsz (by decide) (by decide) (by decide) _ _ (by decide) (by decide), hI.2.keep hsz (by decide)⟩
  ·have hsz := hz_ hinv 10
   have hnK := ah_ hinv hnl 13
   have hpre := hI.2.pre hnK hsz (by decide)
   exact dC_ (S := T2_) 10 hinv (qa_ rfl) (f := 34) (args := #[a.eval (.tmp 49)]) (by kernel_rfl) (by rw [show a.eval (.tmp 49) = _ from (gd_ hinv hdep 9 49)];  exact KHt.out wx) (fun w' hb => ⟨hC.trans (Kp.of (F := fun i => i = b ∨ i = g) hb) (fun i hi _ => hi), trivial, rfl, (hI.1.on hb).keep hsz (by decide) (by decide) (by decide) _ _ (by decide) (by decide), Ph.made hnK (tb_ hpre hb)⟩)
  ·have hsz := hz_ hinv 11
   have hnK := ah_ hinv hnl 13
   have hpre := hI.2.pre hnK hsz (by decide)
   exact dC_ (S := T2_) 11 hinv (qa_ rfl) (f := 11) (args := #[a.eval (.tmp 45), a.eval (.tmp 47), a.eval (.tmp 50)]) (by kernel_rfl) (by rw [show a.eval (.tmp 45) = _ from (gd_ hinv hdep 5 45)]; rw [show a.eval (.tmp 47) = _ from (gd_ hinv hdep 7 47)]; rw [show a.eval (.tmp 50) = _ from (gd_ hinv hdep 10 50)];  exact KAn.out wx hpre) (fun w' hb => ⟨hC.trans (Kp.of (F := fun i => i = b ∨ i = g) hb) (fun i hi _ => hi), trivial, rfl, (hI.1.on hb).keep hsz (by decide) (by decide) (by decide) _ _ (by decide) (by decide), Ph.made hnK (tb_ hpre hb)⟩)
  ·have hsz := hz_ hinv 12
   have hka := ah_ hinv hnl 13
   have hks := ah_ hinv hnl 16
   have hnK := ah_ hinv hnl 13
   have hpre := hI.2.pre hnK hsz (by decide)
   have hb : Below wx.heap.size wx (wx.alloc _) := (Below.refl _ _).alloc (Nat.le_refl _) (.cells #[.int .i64 y] 3)
   exact dm_ 12 hinv (qa_ rfl) (NN.Rg2.qjl_ rfl (gd_ hinv hdep 11 51) (qgd_ wx y)) (hC.trans (Kp.of (F := fun i => i = b ∨ i = g) hb) (fun i hi _ => hi)) rfl ⟨hI.1.built hsz hka hks (by decide) (by decide) (by rw [hinv.tsize]; exact (show 52 < 59 by decide)) rfl, Ph.made hnK (tb_ hpre hb)⟩
  ·have hsz := hz_ hinv 13
   have hks := ah_ hinv hnl 16
   have hkb : listed.getD 12 false = true := hdep ⟨12, .data⟩ (by simp) rfl
   obtain ⟨gg, cs, rfl, hg, hgh⟩ := hI.1.bu hkb hnl
   obtain ⟨v', w', hr, g1, g2, g3⟩ := qhv_ (ρ := a.eval) (x := .tmp 44) (y := .tmp 52) (Ts := 43) Tryz.underlying43 qxi_ (by decide) (by decide) rfl (by intro u hu; simp at hu; subst hu; rfl) (gd_ hinv hdep 4 44) (hI.1.ro hnl) hg hgh h9
   exact dm_ 13 hinv (qa_ rfl) (hr _ rfl rfl) (hC.trans (Kp.gb (F := fun i => i = b ∨ i = g) g2 (fun k hk => .inr (Option.some.inj hk).symm)) (fun i hi _ => hi)) rfl ⟨hI.1.appended hsz hks (by decide) (by rw [hinv.tsize]; exact (show 53 < 59 by decide)) rfl g1 g2 g3 hlx (fun e => HNE.out (Option.some.inj e)), Ph.last hsz trivial⟩
  ·have hsz := hz_ hinv 14
   exact dv_ 14 hinv (qa_ rfl) (ex_nil rfl (gd_ hinv hdep 0 40)) rfl ⟨hI.1.keep hsz (by decide) (by decide) (by decide) _ _ (by decide) (by decide), hI.2.keep hsz (by decide)⟩
  ·have hsz := hz_ hinv 15
   exact dv_ 15 hinv (qa_ rfl) (qaw_ rfl (gd_ hinv hdep 14 54) (tfield1 wx b)) rfl ⟨hI.1.keep hsz (by decide) (by decide) (by decide) _ _ (by decide) (by decide), hI.2.keep hsz (by decide)⟩
  ·have hsz := hz_ hinv 16
   have hka : listed.getD 13 false = true := hdep ⟨13, .data⟩ (by simp) rfl
   obtain ⟨v', cs, rfl, hv', hr', hl'⟩ := hI.1.ap hka hnl
   obtain ⟨g', c', rfl⟩ := qpd_ hr' (Nat.succ_pos _)
   have hAx := hI.1.ha hnl
   have kb : Kp (fun i => i = b) wx (wx.setCell ⟨b, 1, none⟩ (.slice (some ⟨g', 0, none⟩) (n + 1) c')) := Kp.gb (qco_ wx b 1 _) (fun k hk => (Option.some.inj hk).symm)
   exact ds_ 16 hinv (qa_ rfl) (qfp_ rfl (gd_ hinv hdep 15 55) hv' (qeq_ (Has.free hAx 1) (Has.cell hAx 1))) (hC.trans kb (fun i hi _ => .inl hi)) rfl ⟨ApI.stored hsz (by decide) hka rfl (tr_set hAx _) (kp_row hr' kb (fun i hi e => by
    obtain ⟨_, k⟩ := qhq_ hr' hi
    exact qtt_ k hAx.out (by decide) e)) hl', ⟨fun h => (by rw [qk_ listed 16 13 hsz (by decide), hka] at h; cases h), fun _ => trivial⟩⟩
 intro listed a' v5 hall hinv
 have hC := hinv.c
 obtain ⟨v', cs, rfl, hA', rL', hl'⟩ := hinv.i.1.st (hall 16 (by decide))
 have e9 : a'.eval (.tmp 9) = .int .i64 (n : Int) := hinv.old' 9
 have e10 : a'.eval (.tmp 10) = .int .i64 x2 := hinv.old' 10
 have e11 : a'.eval (.tmp 11) = .int .i64 0 := hinv.old' 11
 obtain ⟨u, hu⟩ : ∃ u : Nat → Value, ∀ t, u t = a'.eval (.tmp t) := ⟨_, fun _ => rfl⟩
 rw [qbc_ a' 59 u hinv.tsize hinv.defers hu]
 rw [← hu] at e9 e10 e11
 clear hu hinv hall
 simp only [List.range, List.range.loop, List.map_cons, List.map_nil]
 rw [e9, e10, e11]
 clear e9 e10 e11
 go_wp2_with fail
 go_ret3
 exact ⟨rfl, vx, HQ.out.1, v1, HQ.out.2, v2, hB, hC, v', hA', rL', hl'⟩
end Go.Proofs.YtgaocfhlagbkpaaGreatDoor.An
namespace Go.Proofs.YtgaocfhlagbkpaaGreatDoor.An
open Go.RowKit Mem Sc
open Ar (Ent Ru entZ Ok Lp hgt Up isP IsAn)
theorem qsi_ (r : Ru) (M : List Ent) (h : Hd) (now : Int) :
  (¬ (Ar.add r M h now).1.2.2 = 0 ∧ (Ar.add r M h now).2 = M) ∨
  ((Ar.add r M h now).1.2.2 = 0 ∧ (∃ i : Nat, (Ar.add r M h now).1.1 = (i : Int) ∧ i < M.length) ∧ (Ar.add r M h now).2 = M) ∨
  ((Ar.add r M h now).1 = (((M.length : Nat) : Int), (0 : Int), (0 : Int)) ∧ ∃ (j : Nat) (d : Ent), M[j]? = some d ∧ (Ar.add r M h now).2 = M ++ [⟨d.hs ++ [h], (j : Int)⟩]) := by
 unfold Ar.add
 by_cases hP : h.P
 ·rw [if_neg (fun hh => hh hP)]
  cases h1 : Ar.fnd r.g M h.id with
  | some i =>
   obtain ⟨e, he, _⟩ := Ar.qge_ h1
   exact .inr (.inl ⟨rfl, ⟨i, rfl, (List.getElem?_eq_some_iff.1 he).1⟩, rfl⟩)
  | none =>
   cases h2 : Ar.fnd r.g M h.prev with
   | none => exact .inl ⟨by simp, rfl⟩
   | some j =>
    simp only
    obtain ⟨d, hd, _⟩ := Ar.qge_ h2
    by_cases h3 : Ar.why r (M.getD j entZ) h now = 0
    ·rw [if_neg (fun hh => hh h3)]
     by_cases h4 : r.room ≤ M.length
     ·rw [if_pos h4]; exact .inl ⟨by simp, rfl⟩
     ·rw [if_neg h4]
      refine .inr (.inr ⟨rfl, j, d, hd, ?_⟩)
      rw [show M.getD j entZ = d by rw [List.getD_eq_getElem?_getD, hd]; rfl]
    ·rw [if_pos h3]; exact .inl ⟨by simp, rfl⟩
 ·rw [if_pos hP]; exact .inl ⟨by simp, rfl⟩
theorem qgm_ {w vx w' : World} {F Fa : Nat → Prop} {b ab : Nat} {lv : Value} {r : Ru} {M' : List Ent} {ls : List Int} (hF : ∀ i, F i → i < w.heap.size) (h1 : Has w b (trA ab lv) 87) (h3 : w.ownsRow 0 3 1 lv ls.length (ls.map (Value.int .i64))) (h4 : Lp M' ls) (h5 : F b) (h6 : ∀ i, Fa i → F i) (h7 : ∀ i, lv.ownBlock = some i → F i) (h8 : ¬ Fa b) (h9 : ∀ i, lv.ownBlock = some i → ¬ Fa i)
  (hb : Below w.heap.size w vx) (hA : ArS w' (Nxt Fa vx w') ab r M') (hK : Kp Fa vx w') : TrS w' (Nxt F w w') b r M' ls ∧ Kp F w w' := by
 have k0 : Kp Fa w w' := (Kp.of hb).trans hK fun i hi _ => hi
 have hs := hb.size
 have hlt := Has.lt h1
 refine ⟨⟨nxt_lt hF k0.size, Nxt Fa vx w', ab, lv, k0.has h1 h8, hA, kp_row h3 k0 h9, h4, .inl h5, fun i hi => ?_, fun i hi => .inl (h7 i hi), fun hn => ?_, fun i hi hn => ?_⟩, k0.mono fun i hi _ => h6 i hi⟩
 ·exact hi.elim (fun h => .inl (h6 i h)) (fun h => .inr ⟨Nat.le_trans hs h.1, h.2⟩)
 ·exact hn.elim h8 (fun h => by omega)
 ·have := (row_lt h3 hi).1
  exact hn.elim (h9 i hi) (fun h => by omega)
theorem tadd_at {w : World} {F : Nat → Prop} {b : Nat} {r : Ru} {M : List Ent} {ls : List Int} (hS : TrS w F b r M ls) (hM : Ok r M) (hl : M.length ≤ 800) (hls : ls.length = M.length) (hgl : r.gs.length ≤ 1000) (hcl : r.cs.length ≤ 1000) (hT : Tab w) (h : Hd) (ho : h.ok) (now : Int) :
  Calls Tryz.prog 16 #[.pointer (some ⟨b, 0, none⟩), .agg (hdA h), .int .i64 now] w fun e w' => e = .returned (.tuple #[.int .i64 (Ar.add r M h now).1.1, .int .i64 (Ar.add r M h now).1.2.1, .int .i64 (Ar.add r M h now).1.2.2]) ∧ (∃ ls', ls'.length = (Ar.add r M h now).2.length ∧ TrS w' (Nxt F w w') b r (Ar.add r M h now).2 ls') ∧ Kp F w w' := by
 have hpos := hM.pos
 have hOk := hM.add ho now
 obtain ⟨gg, cc, hL⟩ := hS.leaps (by omega)
 have hS' := hS
 obtain ⟨hF, Fa, ab, lv, h1, h2, h3, h4, h5, h6, h7, h8, h9⟩ := hS'
 have hlv : lv = .slice (some ⟨gg, 0, none⟩) ls.length cc := by
  have e1 := hL.1
  have e2 : w.cell? ⟨b, 1, none⟩ = some lv := Has.cell h1 1
  rw [e1] at e2
  exact (Option.some.inj e2).symm
 have hbl := Has.lt h1
 have KH : Hid (HeldIs w (.pointer (some ⟨b, 0, none⟩)) (.pointer (some ⟨ab, 0, none⟩))) := h_ fun w' hb => held_w b ab w' ((hb.cell (p := ⟨b, 0, none⟩) hbl).trans (Has.cell h1 0))
 have KA := fun (w' : World) (hb : Below w.heap.size w w') => add_at (h2.below hb) hM (by omega) hgl hcl (hT.below hb) h ho now
 rcases qsi_ r M h now with ⟨c1, c2⟩ | ⟨c1, ⟨i, c2, c3⟩, c4⟩ | ⟨c1, j, d, c2, c3⟩
 ·obtain ⟨⟨x1, x2, x3⟩, hx⟩ : ∃ x, x = (Ar.add r M h now).1 := ⟨_, rfl⟩
  rw [← hx] at c1 KA ⊢
  rw [c2] at KA ⊢
  refine (qxs_ _ _ h ho now x1 x2 x3 (fun w' w'' => ArS w'' (Nxt Fa w' w'') ab r M ∧ Kp Fa w' w'') w KH (h_ KA) (by simpa using c1)).mono ?_
  rintro e w' ⟨rfl, vx, q1, q2, q3⟩
  obtain ⟨u1, u2⟩ := qgm_ hF h1 h3 h4 h5 h6 h7 h8 h9 q1 q2 q3
  exact ⟨rfl, ⟨ls, hls, u1⟩, u2⟩
 ·obtain ⟨⟨x1, x2, x3⟩, hx⟩ : ∃ x, x = (Ar.add r M h now).1 := ⟨_, rfl⟩
  rw [← hx] at c1 c2 KA ⊢
  rw [c4] at KA ⊢
  simp only at c1 c2
  refine (qxt_ b _ h ho now x1 x2 x3 (fun w' w'' => ArS w'' (Nxt Fa w' w'') ab r M ∧ Kp Fa w' w'') w KH (h_ KA) ls.length (by simpa using c1) (by rw [c2, beq_eq_false_iff_ne]; omega) (h_ fun w' w'' hb hX => ?_)).mono ?_
  ·obtain ⟨_, k⟩ := hX
   have h1' := k.has (qd_ hb h1 hbl) h8
   exact ⟨_, _, (Has.cell h1' 1).trans (by rw [hlv]; rfl)⟩
  ·rintro e w' ⟨rfl, vx, q1, q2, q3⟩
   obtain ⟨u1, u2⟩ := qgm_ hF h1 h3 h4 h5 h6 h7 h8 h9 q1 q2 q3
   exact ⟨rfl, ⟨ls, hls, u1⟩, u2⟩
 ·rw [c3] at hOk KA ⊢
  rw [c1] at KA ⊢
  simp only at KA ⊢
  subst hlv
  have hd := c2
  obtain ⟨e', he'⟩ : ∃ e' : Ent, e' = ⟨d.hs ++ [h], (j : Int)⟩ := ⟨_, rfl⟩
  rw [← he'] at hOk KA ⊢
  have hel : e'.hs.length = d.hs.length + 1 := by rw [he', List.length_append]; rfl
  have heu : e'.up = (j : Int) := by rw [he']
  have hnew : (M ++ [e'])[M.length]? = some e' := by rw [List.getElem?_append_right (Nat.le_refl _), Nat.sub_self]; rfl
  have hjl := (List.getElem?_eq_some_iff.1 hd).1
  have hd' : (M ++ [e'])[j]? = some d := by rw [List.getElem?_append_left hjl]; exact hd
  have hdc := (hM.chain j d hd).1
  obtain ⟨y, hy⟩ := Up.there hOk hd' (h := hgt e'.hs.length) (by have := Ar.hgt_lt (h := e'.hs.length) (by omega); omega)
  have hLp' : Lp (M ++ [e']) ls := h4.more [e']
  have hX : ∀ (w' w'' : World), Below w.heap.size w w' → ArS w'' (Nxt Fa w' w'') ab r (M ++ [e']) ∧ Kp Fa w' w'' → TrS w'' (Nxt F w w'') b r (M ++ [e']) ls ∧ Kp F w w'' := fun w' w'' hb hX => qgm_ hF h1 h3 hLp' h5 h6 h7 h8 h9 hb hX.1 hX.2
  have hne : b ≠ gg := fun e => h9 gg rfl (by
   obtain ⟨_, k⟩ := qhq_ h3 (i := gg) rfl
   exact absurd e (qtt_ h1.out k (by decide)))
  have hE : (enOf r e').ok := by
   have := hOk.up M.length e' hpos hnew
   obtain ⟨j2, d2, h2', now2, _, _, q3, q4, _, _⟩ := this
   refine ⟨?_, qx_ _⟩
   show (e'.h r.g).ok
   rw [q3, Ar.h_app]
   exact q4
  have hKA : Hid (∀ (w' : World), Below w.heap.size w w' → Calls Tryz.prog 24 #[.pointer (some ⟨ab, 0, none⟩), .agg (hdA h), .int .i64 now] w' fun e w'' => e = .returned (.tuple #[.int .i64 ((ls.length : Nat) : Int), .int .i64 0, .int .i64 0]) ∧ ArS w'' (Nxt Fa w' w'') ab r (M ++ [e']) ∧ Kp Fa w' w'') := h_ (by rw [hls]; exact KA)
  refine (qxu_ b ab gg ls.length cc _ h ho now 0 (fun w' w'' => ArS w'' (Nxt Fa w' w'') ab r (M ++ [e']) ∧ Kp Fa w' w'') w KH hKA ls (by omega) (enOf r e') hE e'.up (e'.hs.length : Nat) ((hgt e'.hs.length : Nat) : Int) y (h_ rfl) (h_ rfl) hne (h_ fun w' w'' hb hx => ?_) (h_ fun w' w'' hb hx w3 hb3 => ?_) (h_ fun w' => ?_) (h_ fun w' w'' hb hx w3 hb3 => ?_)).mono ?_
  ·have k0 : Kp Fa w w'' := (Kp.of hb).trans hx.2 fun i hi _ => hi
   exact ⟨k0.has h1 h8, kp_row h3 k0 h9⟩
  ·exact tat_at ((hX w' w'' hb hx).1.below hb3) hnew _ (by rw [hls])
  ·have := qdy_ (e'.hs.length : Nat) (by omega) (by omega) w'
   rwa [Int.toNat_natCast] at this
  ·refine qfq_ ((hX w' w'' hb hx).1.below hb3) hOk (by rw [List.length_append]; have : [e'].length = 1 := rfl; omega) e'.up _ y (fun _ => by rw [heu]; omega) (.inl ⟨by rw [heu]; exact Ar.isP_of hd', by omega, ?_⟩)
   rw [heu, Int.toNat_natCast]
   exact hy
  ·rintro e w' ⟨rfl, vx, v1, v2, v', q1, q2, q3, q4, q5, q6, q7⟩
   obtain ⟨u1, u2⟩ := hX vx v1 q1 q2
   obtain ⟨q2a, q2k⟩ := q2
   have k0 : Kp Fa w v1 := (Kp.of q1).trans q2k fun i hi _ => hi
   have k1 : Kp Fa w v2 := k0.trans (Kp.of (F := fun _ => False) q3) fun _ hi _ => hi.elim
   have hs1 := q1.size
   have hs2 := q2k.size
   have hs3 := q3.size
   have hs4 := q4.size
   have hglt := (row_lt h3 (i := gg) rfl).1
   have hA2 := q2a.below q3
   have hA3 : ArS w' (Nxt Fa vx v1) ab r (M ++ [e']) := hA2.on q4 fun i hi hh => by
    rcases hh with rfl | rfl
    ·exact hi.elim h8 (fun h => by omega)
    ·exact hi.elim (h9 _ rfl) (fun h => by omega)
   have kF : Kp F w w' := (k1.mono fun i hi _ => h6 i hi).trans q4 fun i hi _ => by
    rcases hi with rfl | rfl
    ·exact h5
    ·exact h7 _ rfl
   refine ⟨by rw [hls], ⟨ls ++ [y], by rw [List.length_append, List.length_append, hls]; rfl, nxt_lt hF kF.size, Nxt Fa vx v1, ab, v', q5, hA3, ?_, hLp'.put (by rw [hls, List.length_append]; exact Nat.lt_succ_self _) fun e0 he0 h0 => ?_, .inl h5, fun i hi => ?_, fun i hi => ?_, fun hn => ?_, fun i hi hn => ?_⟩, kF⟩
   ·rw [List.length_append]
    exact q6
   ·rw [hls] at he0 ⊢
    rw [hnew] at he0
    obtain rfl := Option.some.inj he0
    have hup := (Up.ahead hOk hnew h0).1
    rw [heu] at hup
    exact hup.trans hy
   ·exact hi.elim (fun h => .inl (h6 i h)) (fun h => .inr ⟨by omega, by omega⟩)
   ·rcases q7 with q7 | ⟨g', q7, q8⟩
    ·rw [q7] at hi
     exact .inl (h7 i hi)
    ·rw [q7] at hi
     have e1 : g' = i := Option.some.inj hi
     have := (row_lt q6 (i := g') q7).1
     exact .inr ⟨by omega, by omega⟩
   ·exact hn.elim h8 (fun h => by omega)
   ·rcases q7 with q7 | ⟨g', q7, q8⟩
    ·rw [q7] at hi
     have e1 : gg = i := Option.some.inj hi
     exact hn.elim (h9 i hi) (fun h => by omega)
    ·rw [q7] at hi
     have e1 : g' = i := Option.some.inj hi
     rcases hn with hn | hn
     ·have := h2.1 i hn
      omega
     ·omega
end Go.Proofs.YtgaocfhlagbkpaaGreatDoor.An
namespace Go.Proofs.YtgaocfhlagbkpaaGreatDoor.An
open Go.RowKit Mem Sc
open Ar (Ent Ru entZ Ok Lp hgt clr Up isP IsAn ComI Row Deep)
set_option maxRecDepth 100000
structure Two (M : List Ent) (i j : Int) (L K : List Int) (k : Nat) (x y : Int) : Prop where
 one : Row M i L
 two : Row M j K
 x : L[k]? = some x
 y : K[k]? = some y
 deep : Deep L K k
theorem Two.pos {r : Ru} {M : List Ent} (hM : Ok r M) {n m : Nat} {d e : Ent} (hn : M[n]? = some d) (hm : M[m]? = some e) {L K : List Int} {k : Nat} {x y : Int} (h : Two M (n : Int) (m : Int) L K k x y) (hne : x ≠ y) : 0 < k := by
 refine Nat.pos_of_ne_zero fun h0 => hne ?_
 subst h0
 have h1 := h.x.symm.trans (h.one.first hM hn)
 have h2 := h.y.symm.trans (h.two.first hM hm)
 rw [Option.some.inj h1, Option.some.inj h2]
end Go.Proofs.YtgaocfhlagbkpaaGreatDoor.An
namespace Go.Proofs.YtgaocfhlagbkpaaGreatDoor.An
open Go.RowKit Mem Sc NN.Rg2
open Ar (Ent Ru entZ Ok Up isP IsAn ComI Row best)
set_option maxRecDepth 100000
section
variable {w : World} {B : Nat} {F : Nat → Prop} {b : Nat} {r : Ru} {M : List Ent}
end
end Go.Proofs.YtgaocfhlagbkpaaGreatDoor.An
namespace Go.Proofs.YtgaocfhlagbkpaaGreatDoor.An
open Go.RowKit Mem Sc
open Ar (Ent Ru entZ Ok isP IsAn)
theorem qsj_ (p : NN.Pr) (t : Tl) (tt : p.tl = t.C) (cs : List Cm) (n : Nat) (a : Option Addr) (c : Nat) (hn : n = cs.length) (hl : n ≤ 4611686018427387904) (gn cn : Nat) (eg : t.gn = gn) (ec : t.cn = cn) (g1 g2 g3 gr g : Bool) (h1 : decide ((20 : Int) < (gn : Int)) = g1) (h2 : decide ((20 : Int) < (cn : Int)) = g2) (h3 : decide ((40 : Int) < (n : Int)) = g3) (hg : (neg cs || g1 || g2 || g3 || !gr) = g) (w : World) (KR : Hid (g1 = false → g2 = false → g3 = false → ∀ w', Below w.heap.size w w' → Calls Tryz.prog 35 #[.agg (NN.prA p)] w' fun e w'' => e = .returned (.bool gr) ∧ Below w'.heap.size w' w'')) (hp : p.ok) (hA : ComesAt w a cs) :
  Calls Tryz.prog 8 #[.agg (NN.prA p), .slice a n c] w fun r w' => r = .returned (.bool g) ∧ Below w.heap.size w w' := by
 have HN := h_ hn
 have HA := h_ hA
 have HG := h_ hg
 clear hn hA hg
 go_enter Tryz.func8, Tryz.ntmps8
 go_upto_region 1 with fail
 generalize hw0 : World.alloc _ _ = v0
 have hB : Below w.heap.size w v0 := bl_ hw0
 have hP : NN.PrAt v0 w.heap.size p := by rw [← hw0]; exact NN.Has.new _ _
 clear hw0
 obtain ⟨bP, hbP⟩ : ∃ x, x = w.heap.size := ⟨_, rfl⟩
 rw [← hbP] at hP ⊢
 clear hbP
 have H1 := h_ h1
 have H2 := h_ h2
 have H3 := h_ h3
 clear h1 h2 h3
 go_wp2_with fail
 go_loopw [9] (fun i wr => ∃ k : Nat, k ≤ n ∧ i = .int .i64 (k : Int) ∧ Hid (neg cs = neg (cs.drop k)) ∧ NN.PrAt wr bP p ∧ Below w.heap.size w wr) (fun i _ => n - (intOf i).toNat)
 case atStart => exact ⟨0, by omega, rfl, h_ rfl, hP, hB⟩
 case round =>
  clear hP hB
  obtain ⟨k, hk, rfl, HZ, hP, hB⟩ := hrel
  by_cases hlt : k < n
  ·obtain ⟨ab, ao, hae, habl, hc⟩ := (HA.out.below hB) (by rw [← HN.out]; omega)
   subst hae
   have hk2 : k < cs.length := by rw [← HN.out]; exact hlt
   have hd : cs.drop k = cs[k] :: cs.drop (k + 1) := List.drop_eq_getElem_cons hk2
   obtain ⟨q0, q1⟩ := hc k hk2
   have hx := HZ.out
   rw [hd] at hx
   clear hd HZ hc
   generalize cs[k] = y at *
   have HX := h_ hx
   clear hx hk2
   have z1 := qew_ q0
   have z2 := qgl_ q0
   have z0 := qgl_ (c := cmZ) hdZ_ok
   have hb2 : Below wr.heap.size wr ((wr.alloc (.cells Tryz.zeroCells66 66)).setRow wr.heap.size (cmA y)) := below_setRow ((Below.refl _ _).alloc (Nat.le_refl _) _) (Nat.le_refl _) _
   have hB2 := tb_ hB hb2
   have hP2 := NN.PrAt.on hP hb2
   have c0 := (qts_ wr y).now q0
   have hnew := qpb_ wr
   clear hB hb2 hP
   cases t1 : decide (y.now < 0)
   ·have HZ2 : Hid (neg cs = neg (cs.drop (k + 1))) := h_ (by
     have e : neg (y :: cs.drop (k + 1)) = (decide (y.now < 0) || neg (cs.drop (k + 1))) := rfl
     rw [HX.out, e, t1, Bool.false_or])
    clear HX
    obtain ⟨yn, hyn⟩ : ∃ yn, yn = y.now := ⟨_, rfl⟩
    rw [← hyn] at c0 t1
    clear hyn
    go_wp2_with (with_reducible first | refine qdo_ rfl _ rfl ab (ao + k * 69) rfl y q1 z1 ?_ | refine qja_ rfl _ _ rfl _ _ y rfl rfl rfl z2 hnew z0 ?_)
    go_roundw
    case rel => exact ⟨k + 1, by omega, by go_num, HZ2, hP2, hB2⟩
    case measure => simp [intOf]; omega
   ·have hgt : g = true := by
     have e : neg (y :: cs.drop (k + 1)) = (decide (y.now < 0) || neg (cs.drop (k + 1))) := rfl
     rw [← HG.out, HX.out, e, t1]
     simp
    subst hgt
    clear HX HG
    obtain ⟨yn, hyn⟩ : ∃ yn, yn = y.now := ⟨_, rfl⟩
    rw [← hyn] at c0 t1
    clear hyn
    go_wp2_with (with_reducible first | refine qdo_ rfl _ rfl ab (ao + k * 69) rfl y q1 z1 ?_ | refine qja_ rfl _ _ rfl _ _ y rfl rfl rfl z2 hnew z0 ?_)
    go_ret
    exact ⟨rfl, hB2⟩
  ·obtain rfl : k = n := by omega
   have hg : (g1 || g2 || g3 || !gr) = g := by
    have := HG.out
    rw [HZ.out, HN.out, List.drop_length] at this
    exact this
   have h1 := H1.out
   have h2 := H2.out
   have h3 := H3.out
   clear HG HZ
   have c5 := qdl_ hP tt
   have c6 := qcp_ hP tt
   rw [eg] at c5
   rw [ec] at c6
   have hz := NN.qal_ hp
   generalize t.ga = ga at *
   generalize t.gc = gc at *
   generalize t.ca = ca at *
   generalize t.cc = cc at *
   have HGG := h_ hg
   clear eg ec hg H1 H2 H3
   cases g1
   ·cases g2
    ·cases g3
     ·go_wp2_with (with_reducible first | refine NN.qv_ rfl _ rfl _ rfl hP hz ?_ | refine NN.qp_ (by with_unfolding_all rfl) _ rfl _ rfl hP hz ?_)
      refine (KR.out (by simp) (by simp) (by simp) _ hB).mono ?_
      rintro e v9 ⟨rfl, hb⟩
      replace hB := tb_ hB hb
      clear hb
      cases gr
      all_goals
       go_wp2_with fail
       go_ret
       exact ⟨by rw [← HGG.out]; rfl, hB⟩
     ·go_wp2_with fail
      go_ret
      exact ⟨by rw [← HGG.out]; rfl, hB⟩
    ·go_wp2_with fail
     go_ret
     exact ⟨by rw [← HGG.out]; rfl, hB⟩
   ·go_wp2_with fail
    go_ret
    exact ⟨by rw [← HGG.out]; rfl, hB⟩
def grt13 (p : NN.Pr) (t : Tl) (gs : List Gt) (ks : List Ck) (cs : List Cm) : Bool := grt t cs || !ruleP p t.g gs ks
theorem qxv_ (p : NN.Pr) (hp : p.ok) (t : Tl) (tt : p.tl = t.C) (ht : t.ok) (gs : List Gt) (ks : List Ck) (hgn : t.gn = gs.length) (hcn : t.cn = ks.length) (cs : List Cm) (n : Nat) (a : Option Addr) (c : Nat) (hn : n = cs.length) (hl : n ≤ 4611686018427387904) (g : Bool) (hg : grt13 p t gs ks cs = g) (w : World) (hA : ComesAt w a cs) (hG : GatesAt w t.ga gs) (hC : ChecksAt w t.ca ks) :
  Calls Tryz.prog 8 #[.agg (NN.prA p), .slice a n c] w fun r w' => r = .returned (.bool g) ∧ Below w.heap.size w w' := by
 refine qsj_ p t tt cs n a c hn hl t.gn t.cn rfl rfl _ _ _ (ruleP p t.g gs ks) g rfl rfl rfl ?_ w (h_ fun h1 h2 _ w' hb => ?_) hp hA
 ·rw [← hg, hn]
  unfold grt13 grt neg
  congr 1
  congr 1
  ·congr 1
   ·congr 1
    exact decide_eq_decide.2 (by omega)
   ·exact decide_eq_decide.2 (by omega)
  ·exact decide_eq_decide.2 (by omega)
 ·have := of_decide_eq_false h1
  have := of_decide_eq_false h2
  exact qpa_ p hp t tt ht gs ks hgn hcn (by omega) (by omega) w' (hG.below hb) (hC.below hb)
theorem qsk_ (w : World)
  (KN : Hid (Calls Tryz.prog 22 #[.agg (NN.prA NN.prL), .int .i64 5] w fun r w' => ∃ b, r = .returned (.tuple #[.pointer (some ⟨b, 0, none⟩), .int .i64 0]) ∧ (∀ w2, Below w'.heap.size w' w2 → Calls Tryz.prog 10 #[.pointer (some ⟨b, 0, none⟩)] w2 fun e w3 => e = .returned (.int .i64 1) ∧ Below w2.heap.size w2 w3) ∧ (∀ w2, Below w'.heap.size w' w2 → Calls Tryz.prog 11 #[.pointer (some ⟨b, 0, none⟩), .int .i64 0, .int .i64 0] w2 fun e w3 => e = .returned (.int .i64 0) ∧ Below w2.heap.size w2 w3) ∧ Below w.heap.size w w'))
  (K8 : HG_ 34 #[.int .i64 8] (.int .i64 0))
  (K7 : HG_ 34 #[.int .i64 7] (.int .i64 1)) :
  Ca_ 7 #[] w (.bool true) := by
 go_enter Tryz.func7, Tryz.ntmps7
 go_wp2_with (with_reducible refine qse_ rfl rfl ?_)
 refine KN.out.mono ?_
 rintro e v1 ⟨b, rfl, K1, K2, hB⟩
 have H1 := h_ K1
 have H2 := h_ K2
 clear K1 K2
 go_wp2_with fail
 refine (H1.out _ (Below.refl _ _)).mono ?_
 rintro e v2 ⟨rfl, hb⟩
 replace hB := tb_ hB hb
 go_wp2_with fail
 refine (H2.out _ hb).mono ?_
 rintro e v3 ⟨rfl, hb3⟩
 replace hB := tb_ hB hb3
 clear hb3 hb
 go_wp2_with fail
 refine (K8.out _).mono ?_
 rintro e v4 ⟨rfl, hb3⟩
 replace hB := tb_ hB hb3
 clear hb3
 go_wp2_with fail
 refine (K7.out _).mono ?_
 rintro e v5 ⟨rfl, hb3⟩
 replace hB := tb_ hB hb3
 go_wp2_with fail
 go_ret
 exact ⟨rfl, hB⟩
theorem qtw_ (p : NN.Pr) (hp : p.ok) (h1 : p.one) (t : Tl) (tt : p.tl = t.C) (ht : t.ok) (gs : List Gt) (cs : List Ck) (hgn : t.gn = gs.length) (hcn : t.cn = cs.length) (hgl : t.gn ≤ 1000) (hcl : t.cn ≤ 1000) (room : Int) (hgood : ruleP p t.g gs cs = true) (w : World) (hT : Tab w) (hG : GatesAt w t.ga gs) (hC : ChecksAt w t.ca cs) :
  Calls Tryz.prog 22 #[.agg (NN.prA p), .int .i64 room] w fun r w' => ∃ b F, r = .returned (.tuple #[.pointer (some ⟨b, 0, none⟩), .int .i64 0]) ∧ TrS w' F b ⟨p, t.g, gs, cs, clampR room⟩ [entZ] [-1] ∧ (∀ i, F i → w.heap.size ≤ i) ∧ Below w.heap.size w w' :=
 tnew_w p hp room _ w (h_ fun w' hb => new_at p hp h1 t tt ht gs cs hgn hcn hgl hcl room hgood w' (hT.below hb) (hG.below hb) (hC.below hb))
theorem alive13 (w : World) (hT : Tab w) : Ca_ 7 #[] w (.bool true) := by
 refine qsk_ w ?_ (h_ fun w' => ?_) (h_ fun w' => ?_)
 ·refine h_ ((qtw_ NN.prL (NN.tlZ_ok _ _ _ _ _) (NN.tlZ_one _ _ _ _ _) tlN tlN_is tlN_ok [] [] rfl rfl (Nat.zero_le _) (Nat.zero_le _) 5 (by decide +kernel) w hT (fun h => by simp at h) (fun h => by simp at h)).mono ?_)
  rintro r w' ⟨b, F, rfl, hA, _, hb⟩
  have hOk := Ok.one ⟨NN.prL, tlN.g, [], [], clampR 5⟩
  exact ⟨b, rfl, fun w2 h2 => qtv_ (hA.below h2), fun w2 h2 => qfq_ (hA.below h2) hOk (by decide) 0 0 0 (fun _ => by decide) (.inl ⟨⟨by decide, by decide⟩, by decide, Ar.Up.self hOk (j := 0) (e := entZ) rfl⟩), hb⟩
 ·have := qdy_ 8 (by decide) (by decide) w'
  rwa [show ((Ar.hgt (Int.toNat 8) : Nat) : Int) = 0 from rfl] at this
 ·have := qdy_ 7 (by decide) (by decide) w'
  rwa [show ((Ar.hgt (Int.toNat 7) : Nat) : Int) = 1 from rfl] at this
end Go.Proofs.YtgaocfhlagbkpaaGreatDoor.An
namespace Go.Proofs.YtgaocfhlagbkpaaGreatDoor.An
open Go.RowKit Mem Sc
open Ar (Ent Ru entZ Ok isP Anc ComI)
end Go.Proofs.YtgaocfhlagbkpaaGreatDoor.An
namespace Go.Proofs.YtgaocfhlagbkpaaGreatDoor.An
open Go.RowKit Mem Sc
open Ar (Ent Ru entZ Ok isP ComI)
end Go.Proofs.YtgaocfhlagbkpaaGreatDoor.An
namespace Go.Proofs.YtgaocfhlagbkpaaGreatDoor.An
open Go.RowKit Mem Sc
open Ar (Ent Ru entZ Ok isP)
set_option maxRecDepth 100000
theorem qds_ {C : World → Prop} {a : Act} {o : Oper} {K : Act → Prop} (x : Operand) (ho : o.op = .load 26 x) (g off : Nat) (hx : a.eval x = .pointer (some ⟨g, off, none⟩)) (z : Nat) (hC : ∀ w', C w' → w'.rangeAt g off (NN.numC z).toList)
  (hk : K (a.put o.dst (.agg (NN.numC z)))) : o.quiet Tryz.prog a C K :=
 ⟨_, fun w' hw' => by
  unfold Oper.quietAt
  have this : (execOp a.eval o).run Tryz.prog w' = .ok (.value (.agg (NN.numC z))) w' := by
   unfold execOp
   simp only [ho, hx, Sem.run_bind, run_loadAt_mid w' g off 26 (NN.numC z).toList _ (hC w' hw') Tryz.underlying26 rfl (NN.infoNum.trans (by rw [Array.length_toList, NN.qaz_])), Result.andThen_ok]
   rfl
  rw [this]
  exact ⟨rfl, rfl⟩, hk⟩
theorem qpj_ (p : Value) (x y : Int) (w : World) (KX : HK_ w 53 #[p, .int .i64 x] (.bool false)) :
  Ca_ 30 #[p, .int .i64 x, .int .i64 y] w (.bool false) := by
 have hB := Below.refl w.heap.size w
 go_enter Tryz.func30, Tryz.ntmps30
 go_wp2_with fail
 refine (KX.out _ hB).mono ?_
 rintro e v1 ⟨rfl, hb⟩
 replace hB := tb_ hB hb
 go_wp2_with fail
 go_ret
 exact ⟨rfl, hB⟩
theorem qlq_ (p : Value) (x y : Int) (w : World) (KX : HK_ w 53 #[p, .int .i64 x] (.bool true))
  (KY : HK_ w 53 #[p, .int .i64 y] (.bool false)) :
  Ca_ 30 #[p, .int .i64 x, .int .i64 y] w (.bool true) := by
 have hB := Below.refl w.heap.size w
 go_enter Tryz.func30, Tryz.ntmps30
 go_wp2_with fail
 refine (KX.out _ hB).mono ?_
 rintro e v1 ⟨rfl, hb⟩
 replace hB := tb_ hB hb
 clear hb
 go_wp2_with fail
 refine (KY.out _ hB).mono ?_
 rintro e v2 ⟨rfl, hb⟩
 replace hB := tb_ hB hb
 go_wp2_with fail
 go_ret
 exact ⟨rfl, hB⟩
def hvb (a b k m : Nat) : Bool := decide (0 < NN.Nm.cmp a b) || (NN.Nm.cmp a b == 0 && decide (k < m))
theorem qpk_ (b g n c k m : Nat) (e d : En) (he : e.ok) (hd : d.ok) (hk : k < n) (hm : m < n) (z : Int) (g1 g2 : Bool) (hz : NN.Nm.cmp e.wk d.wk = z) (h1 : decide (0 < z) = g1) (h2 : (z == 0) = g2) (hw1 : e.wk < NN.Nm.big) (hw2 : d.wk < NN.Nm.big) (w : World) (hv : w.cell? ⟨b, 84, none⟩ = some (.slice (some ⟨g, 0, none⟩) n c)) (hr1 : w.rangeAt g (k * 144) (enC e)) (hr2 : w.rangeAt g (m * 144) (enC d))
  (KX : HK_ w 53 #[.pointer (some ⟨b, 0, none⟩), .int .i64 (k : Int)] (.bool true))
  (KY : HK_ w 53 #[.pointer (some ⟨b, 0, none⟩), .int .i64 (m : Int)] (.bool true)) :
  Ca_ 30 #[.pointer (some ⟨b, 0, none⟩), .int .i64 (k : Int), .int .i64 (m : Int)] w (.bool (g1 || (g2 && decide (k < m)))) := by
 have hB := Below.refl w.heap.size w
 have KC : HG_ 55 #[.agg (NN.numC e.wk), .agg (NN.numC d.wk)] (.int .i64 z) := h_ fun w' => by rw [← hz]; exact NN.compare _ _ hw1 hw2 w'
 have H1 := h_ (qis_ he hr1)
 have H2 := h_ (qis_ hd hr2)
 have HV := h_ hv
 clear hz hw1 hw2 hr1 hr2 hv
 generalize e.wk = ew at *
 generalize d.wk = dw at *
 go_enter Tryz.func30, Tryz.ntmps30
 go_wp2_with fail
 refine (KX.out _ hB).mono ?_
 rintro e v1 ⟨rfl, hb⟩
 replace hB := tb_ hB hb
 clear hb
 go_wp2_with fail
 refine (KY.out _ hB).mono ?_
 rintro e v2 ⟨rfl, hb⟩
 replace hB := tb_ hB hb
 clear hb KX KY
 have hv2 := (hB.cell (p := ⟨b, 84, none⟩) (block_lt_of_cell HV.out)).trans HV.out
 have q84 : ∀ d os, (Sort.grow (redrawn v2 d) os).cell? ⟨b, 84, none⟩ = some (.slice (some ⟨g, 0, none⟩) n c) := cell_regrown hv2
 have q1 : ∀ w', (∃ r : Regrown, w' = Sort.grow (redrawn v2 r.d) r.os) → w'.rangeAt g (k * 144 + 102) (NN.numC ew).toList := fun w' hw' => qao_ H1.out (hB.trans ((qr_ w' hw').mono hB.size)) (by rw [Array.length_toList, NN.qaz_]; decide)
 have q2 : ∀ w', (∃ r : Regrown, w' = Sort.grow (redrawn v2 r.d) r.os) → w'.rangeAt g (m * 144 + 102) (NN.numC dw).toList := fun w' hw' => qao_ H2.out (hB.trans ((qr_ w' hw').mono hB.size)) (by rw [Array.length_toList, NN.qaz_]; decide)
 clear hv2 H1 H2 HV
 go_wp2_with fail
 refine wp_region_quiet_below (by kernel_rfl) (by kernel_rfl) ?_
 repeat (first
  | (go_big_quiet_want; (with_reducible first | refine qds_ _ rfl g (k * 144 + 102) rfl ew q1 ?_ | refine qds_ _ rfl g (m * 144 + 102) rfl dw q2 ?_); (simp only [Act.put, List.setIfInBounds_toArray, List.set_cons_zero, List.set_cons_succ]); go_big_quiet_on)
  | go_big_quiet_step ((go_at_call 55; exact Calls.regrown_of (KC.out _))))
 refine wpQuiet_nil ?_
 intro v3 hw'
 have hb := qr_ v3 hw'
 replace hB := tb_ hB hb
 clear hw' hb q84 q1 q2 KC
 by_cases hkm : k < m
 ·cases g1 <;> cases g2
  all_goals
   go_wp2_with fail
   go_ret
   exact ⟨by simp [hkm], hB⟩
 ·cases g1 <;> cases g2
  all_goals
   go_wp2_with fail
   go_ret
   exact ⟨by simp [hkm], hB⟩
def HvI (r : Ru) (M : List Ent) (x y : Int) (g : Bool) : Prop := (¬ isP M x ∧ g = false) ∨ (isP M x ∧ ¬ isP M y ∧ g = true) ∨ ∃ (n m : Nat) (e d : Ent), x = (n : Int) ∧ y = (m : Int) ∧ M[n]? = some e ∧ M[m]? = some d ∧ g = hvb (wkOf r e.hs) (wkOf r d.hs) n m
theorem HvI.ex (r : Ru) (M : List Ent) (x y : Int) : ∃ g, HvI r M x y g := by
 by_cases hx : isP M x
 ·by_cases hy : isP M y
  ·obtain ⟨n, e, rfl, he⟩ := hx.is
   obtain ⟨m, d, rfl, hd⟩ := hy.is
   exact ⟨_, .inr (.inr ⟨n, m, e, d, rfl, rfl, he, hd, rfl⟩)⟩
  ·exact ⟨true, .inr (.inl ⟨hx, hy, rfl⟩)⟩
 ·exact ⟨false, .inl ⟨hx, rfl⟩⟩
theorem qcl_ {w : World} {F : Nat → Prop} {b : Nat} {r : Ru} {M : List Ent} (h : ArS w F b r M) (x y : Int) (g : Bool) (hg : HvI r M x y g) :
  Ca_ 30 #[.pointer (some ⟨b, 0, none⟩), .int .i64 x, .int .i64 y] w (.bool g) := by
 have hn : ∀ k, ¬ isP M k → HK_ w 53 #[.pointer (some ⟨b, 0, none⟩), .int .i64 k] (.bool false) := fun k hk => h_ fun w' hb => has_at (h.below hb) k false (by
  rw [Bool.and_eq_false_iff]
  by_cases h0 : 0 ≤ k
  ·exact .inr (decide_eq_false fun h1 => hk ⟨h0, h1⟩)
  ·exact .inl (decide_eq_false h0))
 have hp : ∀ k, isP M k → HK_ w 53 #[.pointer (some ⟨b, 0, none⟩), .int .i64 k] (.bool true) := fun k hk => h_ fun w' hb => has_at (h.below hb) k true (by rw [Bool.and_eq_true]; exact ⟨decide_eq_true hk.1, decide_eq_true hk.2⟩)
 rcases hg with ⟨h1, rfl⟩ | ⟨h1, h2, rfl⟩ | ⟨n, m, e, d, rfl, rfl, he, hd, rfl⟩
 ·exact qpj_ _ x y w (hn x h1)
 ·exact qlq_ _ x y w (hp x h1) (hn y h2)
 ·have k1 := hp _ (Ar.isP_of he)
  have k2 := hp _ (Ar.isP_of hd)
  have o1 := qer_ h he
  have o2 := qer_ h hd
  have l1 := (List.getElem?_eq_some_iff.1 he).1
  have l2 := (List.getElem?_eq_some_iff.1 hd).1
  obtain ⟨_, I, p, t, v, mb, L, a1, a2, a3, a4⟩ := h
  obtain ⟨s1, hs1⟩ := a3.at he
  obtain ⟨s2, hs2⟩ := a3.at hd
  obtain ⟨g1, c1, rfl, hg1, hr1⟩ := a1.range hs1
  obtain ⟨g2, c2, e2, hg2, hr2⟩ := a1.range hs2
  cases e2
  exact qpk_ b g1 L.length c1 n m (enOf r e) (enOf r d) o1 o2 (by rw [a3.length]; exact l1) (by rw [a3.length]; exact l2) _ _ _ rfl rfl rfl (qot_ r e.hs) (qot_ r d.hs) w (ar84 a1.has a1.pok) (qgg_ hr1) (qgg_ hr2) k1 k2
section
variable {w : World} {F : Nat → Prop} {b : Nat} {r : Ru} {M : List Ent} {ls : List Int}
theorem qcs_ (h : TrS w F b r M ls) (x y : Int) (g : Bool) (hg : HvI r M x y g) : Ca_ 20 #[.pointer (some ⟨b, 0, none⟩), .int .i64 x, .int .i64 y] w (.bool g) := by
 obtain ⟨Fa, ab, k1, k2⟩ := h.parts
 exact qpg_ _ _ x y g w (h_ k1) (h_ fun w' hb => qcl_ (k2.below hb) x y g hg)
end
theorem tfind_w (tp ap : Value) (id : List UInt8) (hid : id.length = 32) (z : Int) (w : World) (KH : Hid (HeldIs w tp ap)) (KL : HK_ w 32 #[ap, .agg (bytesV id)] (.int .i64 z)) :
  Ca_ 19 #[tp, .agg (bytesV id)] w (.int .i64 z) := by
 have s1 : (bytesV id).size = 32 := by rw [ql_]; exact hid
 go_enter Tryz.func19, Tryz.ntmps19
 go_upto_region 1 with fail
 generalize hw0 : World.alloc _ _ = v0
 have hB : Below w.heap.size w v0 := bl_ hw0
 have hI : Has v0 w.heap.size (bytesV id) 28 := by rw [← hw0]; exact Has.new _ _
 clear hw0
 obtain ⟨bI, hbI⟩ : ∃ b, b = w.heap.size := ⟨_, rfl⟩
 rw [← hbI] at hI ⊢
 have q1 : ∀ w', (∃ r : Regrown, w' = Sort.grow (redrawn v0 r.d) r.os) → w'.rangeAt bI 0 (Lib.byteCells id) := fun w' hw' => qgi_ (qd_ (qr_ w' hw') hI (Has.lt hI))
 have hsl : (Lib.byteCells id).length = 32 := qe_ hid
 have hR : ∀ d os, Below w.heap.size w (Sort.grow (redrawn v0 d) os) := fun d os => hB.trans ((below_regrown v0 d os).mono hB.size)
 clear hbI
 refine wp_region_quiet_below (by kernel_rfl) (by kernel_rfl) ?_
 repeat (first
  | (go_big_quiet_want; (with_reducible refine qei_ _ rfl bI 0 rfl id hsl q1 ?_); (simp only [Act.put, List.setIfInBounds_toArray, List.set_cons_zero, List.set_cons_succ]); go_big_quiet_on)
  | go_big_quiet_step ((go_at_call 38; exact Calls.regrown_of (KH.out _ (hR _ _))))
  | go_big_quiet_step ((go_at_call 32; exact Calls.regrown_of (KL.out _ (hR _ _)))))
 refine wpQuiet_nil ?_
 intro v3 hw'
 have hb := qr_ v3 hw'
 replace hB := tb_ hB hb
 clear hw' hb q1 hR
 go_wp2_with fail
 go_ret
 exact ⟨rfl, hB⟩
theorem qxw_ {w : World} {F : Nat → Prop} {b : Nat} {r : Ru} {M : List Ent} {ls : List Int} (h : TrS w F b r M ls) (id : List UInt8) (hid : id.length = 32) : Ca_ 19 #[.pointer (some ⟨b, 0, none⟩), .agg (bytesV id)] w (.int .i64 (plc (Ar.fnd r.g M id))) := by
 obtain ⟨Fa, ab, k1, k2⟩ := h.parts
 exact tfind_w _ _ id hid _ w (h_ k1) (h_ fun w' hb => qfm_ (k2.below hb) id hid)
theorem tspot_w (tp ap : Value) (k : Int) (P : World → World → Sp → Prop) (g : Bool) (w : World) (KH : Hid (HeldIs w tp ap)) (hP : ∀ w1 w2 w3 s, P w1 w2 s → Kp (fun i => i = w.heap.size) w2 w3 → P w1 w3 s) (KL : Hid (∀ w', Below w.heap.size w w' → Calls Tryz.prog 29 #[ap, .int .i64 k] w' fun x w'' => ∃ s, x = .returned (.tuple #[.agg (spA s), .bool g]) ∧ s.ok ∧ P w' w'' s ∧ Below w'.heap.size w' w'')) :
  Calls Tryz.prog 28 #[tp, .int .i64 k] w fun x w' => ∃ s w1, x = .returned (.tuple #[.agg (spA s), .bool g]) ∧ s.ok ∧ P w1 w' s ∧ (Below w.heap.size w w1 ∧ w.heap.size < w1.heap.size) ∧ Below w.heap.size w w' := by
 have z0 := qac_ spZ_ok
 go_enter Tryz.func28, Tryz.ntmps28
 go_upto_region 1 with fail
 generalize hw0 : World.alloc _ _ = v0
 have hB : Below w.heap.size w v0 := bl_ hw0
 have hR : SpAt v0 w.heap.size spZ := by rw [← hw0]; exact qbg_ w
 have HS : Hid (w.heap.size < v0.heap.size) := h_ (by rw [← hw0]; simp)
 clear hw0
 obtain ⟨bR, hbR⟩ : ∃ x, x = w.heap.size := ⟨_, rfl⟩
 rw [← hbR] at hR ⊢
 have HBR : Hid (bR = w.heap.size) := h_ hbR
 clear hbR
 go_wp2_with fail
 refine (KH.out _ hB).mono ?_
 rintro x v1 ⟨rfl, hb⟩
 replace hR := hR.on hb
 replace hB := tb_ hB hb
 replace HS : Hid (w.heap.size < v1.heap.size) := h_ (Nat.lt_of_lt_of_le HS.out hb.size)
 clear hb
 go_wp2_with fail
 refine (KL.out _ hB).mono ?_
 rintro x v2 ⟨s, rfl, hs, hp, hb⟩
 replace hR := hR.on hb
 have HB1 := h_ hB
 replace hB := tb_ hB hb
 have z1 := qac_ hs
 have HP := h_ hp
 clear hb hp
 go_wp2_with (with_reducible refine qbl_ rfl _ _ rfl _ _ s rfl rfl rfl z1 hR z0 ?_)
 have hk5 : Kp (fun i => i = w.heap.size) v2 (v2.setRow bR (spA s)) := ⟨rfl, rfl, rfl, by rw [setRow_size]; exact Nat.le_refl _, fun k _ hn => setRow_other v2 bR k _ (by rw [HBR.out]; exact hn)⟩
 refine bodyPost_ret (qdn_ Tryz.results28 _ _ _ rfl rfl (Has.row hR _) z1) rfl ⟨s, v1, rfl, hs, hP _ _ _ _ HP.out hk5, ⟨HB1.out, HS.out⟩, below_setRow hB (by rw [HBR.out]; exact Nat.le_refl _) _⟩
theorem qxx_ (tp ap : Value) (P : NN.Pr → Prop) (w : World) (KH : Hid (HeldIs w tp ap)) (KL : Hid (∀ w', Below w.heap.size w w' → Calls Tryz.prog 56 #[ap] w' fun x w'' => ∃ p, x = .returned (.agg (NN.prA p)) ∧ (p.ok ∧ p.one) ∧ P p ∧ Below w'.heap.size w' w'')) :
  Calls Tryz.prog 33 #[tp] w fun x w' => ∃ p, x = .returned (.agg (NN.prA p)) ∧ p.ok ∧ P p ∧ Below w.heap.size w w' := by
 have zZ := NN.qal_ prZ_ok
 go_enter Tryz.func33, Tryz.ntmps33
 go_upto_region 1 with fail
 generalize hw0 : World.alloc _ _ = v0
 have hB : Below w.heap.size w v0 := bl_ hw0
 have hR : NN.PrAt v0 w.heap.size prZ := by rw [← hw0]; exact qtq_ w
 clear hw0
 obtain ⟨bR, hbR⟩ : ∃ x, x = w.heap.size := ⟨_, rfl⟩
 rw [← hbR] at hR ⊢
 have HBR : Hid (bR = w.heap.size) := h_ hbR
 clear hbR
 go_wp2_with fail
 refine (KH.out _ hB).mono ?_
 rintro x v1 ⟨rfl, hb⟩
 replace hR := NN.PrAt.on hR hb
 replace hB := tb_ hB hb
 clear hb
 go_wp2_with fail
 refine (KL.out _ hB).mono ?_
 rintro x v2 ⟨p, rfl, ⟨hp, h1⟩, hP, hb⟩
 replace hR := NN.PrAt.on hR hb
 replace hB := tb_ hB hb
 have z5 := NN.qal_ hp
 clear hb
 go_wp2_with (with_reducible refine qiw_ rfl _ _ rfl _ _ p h1 rfl rfl rfl z5 hR zZ ?_)
 exact bodyPost_ret (qeu_ Tryz.results33 _ _ rfl (Has.row hR _) z5) rfl ⟨p, rfl, hp, hP, below_setRow hB (by rw [HBR.out]; exact Nat.le_refl _) _⟩
end Go.Proofs.YtgaocfhlagbkpaaGreatDoor.An
namespace Go.Proofs.YtgaocfhlagbkpaaGreatDoor.An
open Go.RowKit Mem Sc
theorem qxy_ : Tryz.prog.eqGuardType Tryz.prog.depth 68 = false := by kernel_rfl
theorem hd_self (a : Hd) (ha : a.ok) (d : Nat) (w : World) : (Op.equalIn (d + 4) 30 (.agg (hdA a)) (.agg (hdA a))).run Tryz.prog w = .ok true w := by
 have hS : Tryz.prog.underlying 30 = some (.struct (Tryz.prog.fieldsOf 30)) := by kernel_rfl
 rw [show d + 4 = (d + 3) + 1 from rfl, run_equalIn_agg w (d + 3) 30 _ _ hS (by kernel_rfl)]
 simp only [Program.fieldsOf, Tryz.underlying30]
 have pa0 := qy_ (hdA a) 0 (.int .i64 a.v) rfl
 have pa1 := qbx_ (hdA a) 1 a.prev (qnw_ a ha)
 have pa2 := qbx_ (hdA a) 33 a.root (qnx_ a ha)
 have pa3 := qy_ (hdA a) 65 (.int .i64 a.time) (qdd_ a ha 0)
 have pa4 := qy_ (hdA a) 66 (.int .i64 a.bits) (qdd_ a ha 1)
 have pa5 := qy_ (hdA a) 67 (.int .i64 a.nonce) (qdd_ a ha 2)
 have q1 := qfj_ a.prev a.prev ha.1 ha.1 (d + 1)
 have q2 := qfj_ a.root a.root ha.2 ha.2 (d + 1)
 have q0 := fun x y => eq_int x y (d + 2)
 simp only [Op.eqFields, ne_eq, String.reduceEq, not_false_eq_true, if_true, Sem.run_bind, Sem.run_ite, Sem.run_pure, Result.andThen_ok, pa0, pa1, pa2, pa3, pa4, pa5, q0, q1, q2, beq_self_eq_true, Bool.not_true, Bool.false_eq_true, if_false]
theorem qtx_ (cs : Array Value) (o : Nat) (h : Hd) (e : cs.extract o (o + 68) = hdA h) (w : World) : (part 30 cs o).run Tryz.prog w = .ok (.agg (hdA h)) w := by
 simp [part, e]
theorem qxz_ (cs : Array Value) (o n : Nat) (e : cs.extract o (o + 4) = NN.numC n) (w : World) : (part 26 cs o).run Tryz.prog w = .ok (.agg (NN.numC n)) w := by
 simp [part, e]
theorem qpl_ (e : En) (A X C : List Value) (o k : Nat) (h : enC e = A ++ (X ++ C)) (hA : A.length = o) (hX : X.length = k) : (enA e).extract o (o + k) = X.toArray := by
 apply Array.toList_inj.1
 rw [Array.toList_extract]
 show ((enC e).drop o).take (o + k - o) = X
 rw [h, List.drop_left' hA, show o + k - o = k by omega, List.take_left' hX]
theorem en_self (e : En) (he : e.ok) (w : World) : (Op.equalIn 10000 68 (.agg (enA e)) (.agg (enA e))).run Tryz.prog w = .ok true w := by
 have hS : Tryz.prog.underlying 68 = some (.struct (Tryz.prog.fieldsOf 68)) := by kernel_rfl
 rw [show (10000 : Nat) = 9999 + 1 from rfl, run_equalIn_agg w 9999 68 _ _ hS (by kernel_rfl)]
 simp only [Program.fieldsOf, Tryz.underlying68]
 have l0 := qj_ he.1
 have l1 := qe_ he.2
 have p0 := qtx_ (enA e) 0 e.h (qpl_ e [] (hdC e.h) _ 0 68 rfl rfl l0)
 have p1 := qbx_ (enA e) 68 e.id ((qpl_ e (hdC e.h) (Lib.byteCells e.id) _ 68 32 rfl l0 l1).trans (by rw [← qq_]))
 have c2 : (enA e)[100]? = some (.int .i64 e.up) := by
  show (enC e).toArray[100]? = _
  rw [List.getElem?_toArray]
  unfold enC
  rw [List.getElem?_append_right (by omega), List.getElem?_append_right (by omega), l0, l1]
  rfl
 have c3 : (enA e)[101]? = some (.int .i64 e.ht) := by
  show (enC e).toArray[101]? = _
  rw [List.getElem?_toArray]
  unfold enC
  rw [List.getElem?_append_right (by omega), List.getElem?_append_right (by omega), l0, l1]
  rfl
 have p2 := qy_ (enA e) 100 _ c2
 have p3 := qy_ (enA e) 101 _ c3
 have p4 := qxz_ (enA e) 102 e.wk ((qpl_ e (hdC e.h ++ (Lib.byteCells e.id ++ [.int .i64 e.up, .int .i64 e.ht])) (NN.numC e.wk).toList [] 102 4 (by unfold enC; simp) (by simp [l0, l1]) (by simp [NN.qaz_])).trans (by simp))
 have q0 := hd_self e.h he.1 9995
 have q1 := qfj_ e.id e.id he.2 he.2 9997
 have q2 := fun x y => eq_int x y 9998
 have q4 := fun w => NN.qcd_ (P := Tryz.prog) w 9997 .u64 26 24 4 Tryz.underlying26 Tryz.underlying24 NN.wordSize (NN.wds e.wk) (NN.wds e.wk) rfl rfl
 have q5 : ∀ w, (Op.equalIn 9999 26 (.agg (NN.numC e.wk)) (.agg (NN.numC e.wk))).run Tryz.prog w = .ok true w := fun w => by
  rw [NN.qib_]
  exact (q4 w).trans (by simp)
 simp only [Op.eqFields, ne_eq, String.reduceEq, not_false_eq_true, if_true, Sem.run_bind, Sem.run_ite, Sem.run_pure, Result.andThen_ok, p0, p1, p2, p3, p4, q0, q1, q2, q5, beq_self_eq_true, Bool.not_true, Bool.false_eq_true, if_false]
theorem en_neq (e : En) (he : e.ok) (w : World) : (binOp .neq 68 (.agg (enA e)) (.agg (enA e))).run Tryz.prog w = .ok (.bool false) w := by
 rw [run_neq_struct, en_self e he]; rfl
theorem enneq_f {ops : Array Oper} {rest : List Oper} {o : Oper} {a : Act} {w : World} {Q : Exit → Act → World → Prop} (hgd : o.guard = none) (t' : TypeId) (x y : Operand) (ho : o.op = .binOp .neq 68 x y t') (xs ys : Array Value) (v : Value) (hx : a.eval x = .agg xs) (hy : a.eval y = .agg ys)
  (hq : ∀ w, (binOp .neq 68 (.agg xs) (.agg ys)).run Tryz.prog w = .ok v w) (h : wpList Tryz.prog ops Q rest (a.put o.dst v) w) : wpList Tryz.prog ops Q (o :: rest) a w :=
 wpList_plain hgd fun _ hK => by
  unfold Oper.wp execOp
  simp only [ho, hx, hy, Sem.run_bind, Sem.run_pure, run_eqGuard_agg w .neq 68 x y xs ys qxy_, Result.andThen_ok, hq]
  exact hK _ _ h
end Go.Proofs.YtgaocfhlagbkpaaGreatDoor.An
namespace Go.Proofs.YtgaocfhlagbkpaaGreatDoor.An
open Go.RowKit Mem Sc NN.Rg2
open Ar (Ent Ru entZ Ok isP)
def RuQ (lim : Int) (g : Hd) (q : NN.Pr) : Prop := ∃ t' : Tl, q.tl = t'.C ∧ t'.ok ∧ t'.g = g ∧ q.lim = lim
section
variable {ρ : Operand → Value} {o : Oper} {w : World}
theorem ex_eqi {x y : Operand} {c d : Int} (ho : o.op = .binOp .eql 3 x y 3) (hx : ρ x = .int .i64 c) (hy : ρ y = .int .i64 d) : (execOp ρ o).run Tryz.prog w = .ok (.value (.bool (c == d))) w := by
 unfold execOp
 simp only [ho, hx, hy]
 kernel_rfl
theorem ex_eqs {T : TypeId} {x y : Operand} {xs ys : Array Value} {v : Value} (hg : Tryz.prog.eqGuardType Tryz.prog.depth T = false) (ho : o.op = .binOp .eql T x y T) (hx : ρ x = .agg xs) (hy : ρ y = .agg ys) (h : ∀ w, (binOp .eql T (.agg xs) (.agg ys)).run Tryz.prog w = .ok v w) : (execOp ρ o).run Tryz.prog w = .ok (.value v) w := by
 unfold execOp
 simp only [ho, hx, hy, Sem.run_bind, Sem.run_pure, run_eqGuard_agg w .eql T x y xs ys hg, Result.andThen_ok, h]
theorem pfield0 (w : World) (g : Nat) : (Instr.fieldAt 32 (.pointer (some ⟨g, 0, none⟩)) 0).run Tryz.prog w = .ok (.pointer (some ⟨g, 0, none⟩)) w := by kernel_rfl
theorem qsl_ (q : NN.Pr) (t : Tl) (tt : q.tl = t.C) (ht : t.ok) : ∃ A : List Value, A.length = 15 ∧ NN.prC q = A ++ hdC t.g := by
 refine ⟨.int .i64 q.lim :: .int .i64 q.ivl :: .int .i64 q.spc :: .int .i64 q.fut :: .bool q.easy :: .slice t.ga t.gn t.gc :: .slice t.ca t.cn t.cc :: t.nn, by simp [ht.1], ?_⟩
 unfold NN.prC
 rw [tt]
 rfl
theorem qpm_ (q : NN.Pr) (t : Tl) (tt : q.tl = t.C) (ht : t.ok) (w : World) : (Instr.field 32 (.agg (NN.prA q)) 9).run Tryz.prog w = .ok (.agg (hdA t.g)) w := by
 obtain ⟨X, h1, h2⟩ := qsl_ q t tt ht
 have h3 : (NN.prA q).extract 15 (15 + 68) = hdA t.g := by
  unfold NN.prA
  rw [h2]
  have h4 := qj_ ht.2
  apply Array.toList_inj.1
  simp [h1, hdA]
  exact List.take_of_length_le (by rw [h4]; exact Nat.le_refl _)
 have h := qtx_ (NN.prA q) 15 t.g h3 w
 unfold Instr.field
 simp only [Sem.run_bind, run_underlying Tryz.underlying32, Result.andThen_ok]
 exact h
theorem qpn_ (q : NN.Pr) (w : World) : (Instr.field 32 (.agg (NN.prA q)) 0).run Tryz.prog w = .ok (.int .i64 q.lim) w := by kernel_rfl
theorem qkf_ {T : TypeId} {x : Operand} {n : Nat} {u v : Value} (ho : o.op = .field T x n) (hx : ρ x = u) (h : (Instr.field T u n).run Tryz.prog w = .ok v w) : (execOp ρ o).run Tryz.prog w = .ok (.value v) w := by
 unfold execOp
 simp only [ho, hx, Sem.run_bind, h, Result.andThen_ok]
 rfl
end
structure StX (v : World) (bt ba : Nat) (x : Int) (E : En) (g : Bool) (X : NN.Pt) (pv : List UInt8) (nn : Nat) (gs h1 h2 : Bool) : Prop where
 ok : E.ok
 p32 : pv.length = 32
 at1 : ∀ w', Below v.heap.size v w' → Calls Tryz.prog 26 #[.pointer (some ⟨bt, 0, none⟩), .int .i64 x] w' fun e w'' => e = .returned (.tuple #[.agg (enA E), .bool g]) ∧ Below w'.heap.size w' w''
 at2 : ∀ w', Below v.heap.size v w' → Calls Tryz.prog 27 #[.pointer (some ⟨ba, 0, none⟩), .int .i64 x] w' fun e w'' => e = .returned (.tuple #[.agg (enA E), .bool g]) ∧ Below w'.heap.size w' w''
 sp1 : ∀ w', Below v.heap.size v w' → Calls Tryz.prog 28 #[.pointer (some ⟨bt, 0, none⟩), .int .i64 x] w' fun e w'' => ∃ s : Sp, e = .returned (.tuple #[.agg (spA s), .bool gs]) ∧ (s.x = X ∧ s.prev = pv ∧ s.n = nn) ∧ Below w'.heap.size w' w''
 sp2 : ∀ w', Below v.heap.size v w' → Calls Tryz.prog 29 #[.pointer (some ⟨ba, 0, none⟩), .int .i64 x] w' fun e w'' => ∃ s : Sp, e = .returned (.tuple #[.agg (spA s), .bool gs]) ∧ (s.x = X ∧ s.prev = pv ∧ s.n = nn) ∧ Below w'.heap.size w' w''
 hv1 : ∀ w', Below v.heap.size v w' → Calls Tryz.prog 20 #[.pointer (some ⟨bt, 0, none⟩), .int .i64 x, .int .i64 0] w' fun e w'' => e = .returned (.bool h1) ∧ Below w'.heap.size w' w''
 hv2 : ∀ w', Below v.heap.size v w' → Calls Tryz.prog 30 #[.pointer (some ⟨ba, 0, none⟩), .int .i64 x, .int .i64 0] w' fun e w'' => e = .returned (.bool h1) ∧ Below w'.heap.size w' w''
 hv3 : ∀ w', Below v.heap.size v w' → Calls Tryz.prog 20 #[.pointer (some ⟨bt, 0, none⟩), .int .i64 1, .int .i64 x] w' fun e w'' => e = .returned (.bool h2) ∧ Below w'.heap.size w' w''
 hv4 : ∀ w', Below v.heap.size v w' → Calls Tryz.prog 30 #[.pointer (some ⟨ba, 0, none⟩), .int .i64 1, .int .i64 x] w' fun e w'' => e = .returned (.bool h2) ∧ Below w'.heap.size w' w''
theorem qsm_ {w : World} {F : Nat → Prop} {b : Nat} {r : Ru} {M : List Ent} (h : ArS w F b r M) (x : Int) : ∃ (X : NN.Pt) (pv : List UInt8) (nn : Nat) (gs : Bool), pv.length = 32 ∧ ∀ (w' : World) (F' : Nat → Prop) (b' : Nat), ArS w' F' b' r M → Calls Tryz.prog 29 #[.pointer (some ⟨b', 0, none⟩), .int .i64 x] w' fun e w'' => ∃ s : Sp, e = .returned (.tuple #[.agg (spA s), .bool gs]) ∧ (s.x = X ∧ s.prev = pv ∧ s.n = nn) ∧ Below w'.heap.size w' w'' := by
 by_cases hx : isP M x
 ·obtain ⟨i, e, rfl, he⟩ := hx.is
  have h32 : (Ar.spot r e).prev.length = 32 := by
   obtain ⟨_, I, p, t, v, mb, L, h1, h2, h3, h4⟩ := h
   obtain ⟨s, hs⟩ := h3.at he
   have hx := (h1.good _ (List.mem_of_getElem? hs)).2
   have hsp := (h1.spots _ (List.mem_of_getElem? hs)).now
   have e2 : s.prev = (Ar.spot r e).prev := hsp.2.1
   have hx' : s.prev.length = 32 := hx
   rw [← e2]; exact hx'
  refine ⟨(Ar.spot r e).x, (Ar.spot r e).prev, (Ar.spot r e).ts.length, true, h32, fun w' F' b' h' => (qxl_ h' he).mono ?_⟩
  rintro y w'' ⟨g', c', rfl, _, _, hb⟩
  exact ⟨_, rfl, ⟨rfl, rfl, rfl⟩, hb⟩
 ·refine ⟨spZ.x, spZ.prev, spZ.n, false, rfl, fun w' F' b' h' => (qsf_ _ x w' (h_ fun w2 hb => has_at (h'.below hb) x false (by
   rw [Bool.and_eq_false_iff]
   by_cases h0 : 0 ≤ x
   ·exact .inr (decide_eq_false fun h1 => hx ⟨h0, h1⟩)
   ·exact .inl (decide_eq_false h0)))).mono ?_⟩
  rintro y w'' ⟨rfl, hb⟩
  exact ⟨_, rfl, ⟨rfl, rfl, rfl⟩, hb⟩
theorem stx_of {v : World} {bt ba : Nat} {F Fa : Nat → Prop} {r : Ru} {M : List Ent} {lp : List Int} (hS : TrS v F bt r M lp) (hA : ArS v Fa ba r M) (x : Int) : ∃ E g X pv nn gs h1 h2, StX v bt ba x E g X pv nn gs h1 h2 := by
 obtain ⟨X, pv, nn, gs, h32, hsp⟩ := qsm_ hA x
 obtain ⟨h1, hh1⟩ := HvI.ex r M x 0
 obtain ⟨h2, hh2⟩ := HvI.ex r M 1 x
 have hT : ∀ w', Below v.heap.size v w' → Calls Tryz.prog 28 #[.pointer (some ⟨bt, 0, none⟩), .int .i64 x] w' fun e w'' => ∃ s : Sp, e = .returned (.tuple #[.agg (spA s), .bool gs]) ∧ (s.x = X ∧ s.prev = pv ∧ s.n = nn) ∧ Below w'.heap.size w' w'' := fun w' hb => by
  obtain ⟨Fb, ab, k1, k2⟩ := (hS.below hb).parts
  refine (tspot_w _ _ x (fun _ _ s => s.x = X ∧ s.prev = pv ∧ s.n = nn) gs w' (h_ k1) (fun _ _ _ _ h _ => h) (h_ fun w2 hb2 => (hsp w2 Fb ab (k2.below hb2)).mono ?_)).mono ?_
  ·rintro e w3 ⟨s, rfl, h3, hb3⟩
   exact ⟨s, rfl, (by unfold Sp.ok; rw [h3.2.1]; exact h32), h3, hb3⟩
  ·rintro e w3 ⟨s, _, rfl, _, h3, _, hb3⟩
   exact ⟨s, rfl, h3, hb3⟩
 by_cases hx : isP M x
 ·obtain ⟨i, e, rfl, he⟩ := hx.is
  exact ⟨enOf r e, true, X, pv, nn, gs, h1, h2, ⟨qer_ hA he, h32, fun w' hb => tat_at (hS.below hb) he _ rfl, fun w' hb => at_at (hA.below hb) he _ rfl, hT, fun w' hb => hsp w' Fa ba (hA.below hb), fun w' hb => qcs_ (hS.below hb) _ _ _ hh1, fun w' hb => qcl_ (hA.below hb) _ _ _ hh1, fun w' hb => qcs_ (hS.below hb) _ _ _ hh2, fun w' hb => qcl_ (hA.below hb) _ _ _ hh2⟩⟩
 ·exact ⟨enN, false, X, pv, nn, gs, h1, h2, ⟨enN_ok, h32, fun w' hb => qph_ (hS.below hb) x hx, fun w' hb => at_not (hA.below hb) x hx, hT, fun w' hb => hsp w' Fa ba (hA.below hb), fun w' hb => qcs_ (hS.below hb) _ _ _ hh1, fun w' hb => qcl_ (hA.below hb) _ _ _ hh1, fun w' hb => qcs_ (hS.below hb) _ _ _ hh2, fun w' hb => qcl_ (hA.below hb) _ _ _ hh2⟩⟩
def StE (bt ba bP m room : Nat) (zf lim : Int) (g : Hd) (id : List UInt8) : Nat → Value → Prop
 | 0, v | 6, v | 13, v | 22, v | 30, v => v = .pointer (some ⟨bt, 0, none⟩)
 | 2, v | 8, v | 16, v => v = .pointer (some ⟨ba, 0, none⟩)
 | 1, v | 3, v => v = .int .i64 (m : Int)
 | 7, v | 9, v => v = .int .i64 (room : Int)
 | 14, v | 17, v => v = .agg (bytesV id)
 | 15, v | 18, v => v = .int .i64 zf
 | 23, v | 31, v => ∃ q, v = .agg (NN.prA q) ∧ RuQ lim g q
 | 24, v | 26, v => v = .agg (hdA g)
 | 25, v => v = .pointer (some ⟨bP, 15, none⟩)
 | 33, v => v = .pointer (some ⟨bP, 0, none⟩)
 | 32, v | 34, v => v = .int .i64 lim
 | 4, v | 5, v | 10, v | 11, v | 12, v | 19, v | 20, v | 21, v | 27, v | 28, v | 29, v | 35, v | 36, v | 37, v => v = .bool true
 | _, _ => m = m
theorem qjd_ (p : NN.Pr) (hp : p.ok) (a : Option Addr) (n c : Nat) (w : World) (room : Int) (id : List UInt8) (KA : HK_ w 7 #[] (.bool true)) (KG : HK_ w 8 #[.agg (NN.prA p), .slice a n c] (.bool true)) :
  Ca_ 5 #[.agg (NN.prA p), .slice a n c, .int .i64 room, .agg (bytesV id)] w (.bool true) := by
 have hz := NN.qal_ hp
 go_enter Tryz.func5, Tryz.ntmps5
 go_upto_region 1 with fail
 have hP0 : NN.PrAt (w.alloc (.cells (NN.prA p) 32)) w.heap.size p := NN.Has.new _ _
 have hB0 : Below w.heap.size w (w.alloc (.cells (NN.prA p) 32)) := (Below.refl _ _).alloc (Nat.le_refl _) _
 have hs0 : (w.alloc (.cells (NN.prA p) 32)).heap.size = w.heap.size + 1 := by simp
 generalize w.alloc (.cells (NN.prA p) 32) = u0 at *
 have hI : Has (u0.alloc (.cells (bytesV id) 28)) (w.heap.size + 1) (bytesV id) 28 := by rw [← hs0]; exact Has.new _ _
 have hB1 : Below u0.heap.size u0 (u0.alloc (.cells (bytesV id) 28)) := (Below.refl _ _).alloc (Nat.le_refl _) _
 have hs1 : (u0.alloc (.cells (bytesV id) 28)).heap.size = u0.heap.size + 1 := by simp
 generalize hv0 : World.alloc _ _ = v0 at *
 have hP : NN.PrAt v0 w.heap.size p := NN.PrAt.on hP0 hB1
 have hB : Below w.heap.size w v0 := tb_ hB0 hB1
 clear hB0 hB1 hP0 hs1 hv0 hs0
 obtain ⟨bP, hbP⟩ : ∃ x, x = w.heap.size := ⟨_, rfl⟩
 rw [← hbP] at hP hI ⊢
 obtain ⟨bI, hbI⟩ : ∃ x, x = bP + 1 := ⟨_, rfl⟩
 rw [← hbI] at hI ⊢
 clear hbP hbI
 go_wp2_with (first | fail)
 refine (KA.out _ hB).mono ?_
 rintro e v1 ⟨rfl, hb⟩
 replace hP := hP.on hb
 replace hB := tb_ hB hb
 replace hI := qd_ hb hI (Has.lt hI)
 clear hb
 go_wp2_with (with_reducible first | refine NN.qv_ rfl _ rfl _ rfl hP hz ?_ | refine NN.qp_ (by with_unfolding_all rfl) _ rfl _ rfl hP hz ?_)
 refine (KG.out _ hB).mono ?_
 rintro e v2 ⟨rfl, hb⟩
 replace hP := hP.on hb
 replace hB := tb_ hB hb
 replace hI := qd_ hb hI (Has.lt hI)
 clear hb
 go_wp2_with fail
 go_ret
 exact ⟨rfl, hB⟩
set_option maxHeartbeats 8000000 in
theorem qlr_ (p : NN.Pr) (hp : p.ok) (r : Ru) (a : Option Addr) (n c : Nat) (ls : List Cm) (w : World) (room : Int) (id : List UInt8) (i32 : id.length = 32) (HA : Hid (∀ w', Below w.heap.size w w' → ComesAt w' a ls)) (HN : Hid (n = ls.length)) (hn40 : n ≤ 40) (HT : Hid (∀ w', Below w.heap.size w w' → Tab w')) (HG : Hid (r.gs.length ≤ 1000 ∧ r.cs.length ≤ 1000)) (t : Tl) (tt : p.tl = t.C) (ht : t.ok) (hrg : r.g = t.g) (hrl : r.p.lim = p.lim) (KA : HK_ w 7 #[] (.bool true)) (KG : HK_ w 8 #[.agg (NN.prA p), .slice a n c] (.bool false)) (KNT : Hid (∀ w', Below w.heap.size w w' → Calls Tryz.prog 22 #[.agg (NN.prA p), .int .i64 room] w' fun e w'' => ∃ b F, e = .returned (.tuple #[.pointer (some ⟨b, 0, none⟩), .int .i64 0]) ∧ TrS w'' F b r [entZ] [-1] ∧ (∀ i, F i → w'.heap.size ≤ i) ∧ Below w'.heap.size w' w'')) (KNA : Hid (∀ w', Below w.heap.size w w' → Calls Tryz.prog 23 #[.agg (NN.prA p), .int .i64 room] w' fun e w'' => ∃ b F, e = .returned (.tuple #[.pointer (some ⟨b, 0, none⟩), .int .i64 0]) ∧ ArS w'' F b r [entZ] ∧ (∀ i, F i → w'.heap.size ≤ i) ∧ Below w'.heap.size w' w'')) :
  Ca_ 5 #[.agg (NN.prA p), .slice a n c, .int .i64 room, .agg (bytesV id)] w (.bool true) := by
 have HTT := h_ (And.intro tt (And.intro ht (And.intro hrg hrl)))
 clear tt ht hrg hrl
 have hz := NN.qal_ hp
 go_enter Tryz.func5, Tryz.ntmps5
 go_upto_region 1 with fail
 have hP0 : NN.PrAt (w.alloc (.cells (NN.prA p) 32)) w.heap.size p := NN.Has.new _ _
 have hB0 : Below w.heap.size w (w.alloc (.cells (NN.prA p) 32)) := (Below.refl _ _).alloc (Nat.le_refl _) _
 have hs0 : (w.alloc (.cells (NN.prA p) 32)).heap.size = w.heap.size + 1 := by simp
 generalize w.alloc (.cells (NN.prA p) 32) = u0 at *
 have hI : Has (u0.alloc (.cells (bytesV id) 28)) (w.heap.size + 1) (bytesV id) 28 := by rw [← hs0]; exact Has.new _ _
 have hB1 : Below u0.heap.size u0 (u0.alloc (.cells (bytesV id) 28)) := (Below.refl _ _).alloc (Nat.le_refl _) _
 have hs1 : (u0.alloc (.cells (bytesV id) 28)).heap.size = u0.heap.size + 1 := by simp
 generalize hv0 : World.alloc _ _ = v0 at *
 have hP : NN.PrAt v0 w.heap.size p := NN.PrAt.on hP0 hB1
 have hB : Below w.heap.size w v0 := tb_ hB0 hB1
 clear hB0 hB1 hP0 hs1 hv0 hs0
 obtain ⟨bP, hbP⟩ : ∃ x, x = w.heap.size := ⟨_, rfl⟩
 rw [← hbP] at hP hI ⊢
 obtain ⟨bI, hbI⟩ : ∃ x, x = bP + 1 := ⟨_, rfl⟩
 rw [← hbI] at hI ⊢
 clear hbP hbI
 go_wp2_with (first | fail)
 refine (KA.out _ hB).mono ?_
 rintro e v1 ⟨rfl, hb⟩
 replace hP := hP.on hb
 replace hB := tb_ hB hb
 replace hI := qd_ hb hI (Has.lt hI)
 clear hb
 go_wp2_with (with_reducible first | refine NN.qv_ rfl _ rfl _ rfl hP hz ?_ | refine NN.qp_ (by with_unfolding_all rfl) _ rfl _ rfl hP hz ?_)
 refine (KG.out _ hB).mono ?_
 rintro e v2 ⟨rfl, hb⟩
 replace hP := hP.on hb
 replace hB := tb_ hB hb
 replace hI := qd_ hb hI (Has.lt hI)
 clear hb
 go_wp2_with (first | fail | (with_reducible refine NN.qv_ rfl _ rfl _ rfl hP hz ?_))
 have HB2 := h_ hB
 have HPI := h_ (And.intro hP hI)
 refine (KNT.out _ hB).mono ?_
 rintro e v3 ⟨bt, F, rfl, hS, hF, hb3⟩
 have hP3 := hP.on hb3
 go_wp2_with (with_reducible first | refine NN.qv_ rfl _ rfl _ rfl hP3 hz ?_ | refine NN.qp_ (by with_unfolding_all rfl) _ rfl _ rfl hP3 hz ?_)
 refine (KNA.out _ (tb_ hB hb3)).mono ?_
 rintro e v4 ⟨ba, Fa, rfl, hA, hFa, hb4⟩
 have HD : Hid (Ok r [entZ] ∧ [entZ].length ≤ 0 + 1 ∧ [(-1 : Int)].length = [entZ].length ∧ (∀ i, F i → v2.heap.size ≤ i) ∧ (∀ i, Fa i → v2.heap.size ≤ i) ∧ ∀ i, F i → ¬ Fa i) := h_ ⟨Ok.one r, Nat.le_refl _, rfl, hF, fun i hi => Nat.le_trans hb3.size (hFa i hi), fun i hi hf => by have := hS.1 i hi; have := hFa i hf; omega⟩
 replace hS := hS.below hb4
 have hb := tb_ hb3 hb4
 clear hb3 hb4 hF hFa hP3 hP hI hB
 go_wp2_with fail
 go_loopw [49] (fun i wr => ∃ k : Nat, k ≤ n ∧ i = .int .i64 (k : Int) ∧ ∃ Ft Fa M lp, TrS wr Ft bt r M lp ∧ ArS wr Fa ba r M ∧ Hid (Ok r M ∧ M.length ≤ k + 1 ∧ lp.length = M.length ∧ (∀ i, Ft i → v2.heap.size ≤ i) ∧ (∀ i, Fa i → v2.heap.size ≤ i) ∧ ∀ i, Ft i → ¬ Fa i) ∧ Below v2.heap.size v2 wr) (fun i _ => n - (intOf i).toNat)
 case atStart => exact ⟨0, by omega, rfl, F, Fa, [entZ], [-1], hS, hA, HD, hb⟩
 case round =>
  clear hS hA hb HD F Fa
  obtain ⟨k, hk, rfl, Ft, Fa, M, lp, hS, hA, HM, hb⟩ := hrel
  by_cases hlt : k < n
  ·have hB := tb_ HB2.out hb
   obtain ⟨ab, ao, hae, habl, hc⟩ := (HA.out _ hB) (by rw [← HN.out]; omega)
   subst hae
   have hk2 : k < ls.length := by rw [← HN.out]; exact hlt
   obtain ⟨q0, q1⟩ := hc k hk2
   clear hc
   generalize ls[k] = y at *
   clear hk2
   have z1 := qew_ q0
   have z2 := qgl_ q0
   have z0 := qgl_ (c := cmZ) hdZ_ok
   have zy := qj_ q0
   have hb2 : Below wr.heap.size wr ((wr.alloc (.cells Tryz.zeroCells66 66)).setRow wr.heap.size (cmA y)) := below_setRow ((Below.refl _ _).alloc (Nat.le_refl _) _) (Nat.le_refl _) _
   have hY := qts_ wr y
   have hnew := qpb_ wr
   have hB2 := tb_ hB hb2
   replace hb := tb_ hb hb2
   have hS2 := hS.below hb2
   have hA2 := hA.below hb2
   have hT2 := HT.out _ hB2
   have cn := hY.now q0
   have rh := hY.head
   have hnY : ¬ Ft wr.heap.size := fun hf => by have := hS.1 _ hf; omega
   have KAdd := h_ (tadd_at hS2 HM.out.1 (by have := HM.out.2.1; omega) HM.out.2.2.1 HG.out.1 HG.out.2 hT2 y.h q0 y.now)
   clear hS hA hS2 hT2 hB hB2
   go_wp2_with (with_reducible first | refine qdo_ rfl _ rfl ab (ao + k * 69) rfl y q1 z1 ?_ | refine qja_ rfl _ _ rfl _ _ y rfl rfl rfl z2 hnew z0 ?_ | refine qdi_ rfl _ rfl _ 0 rfl y.h rh zy ?_)
   refine KAdd.out.mono ?_
   rintro e v6 ⟨rfl, ⟨lp2, hlp2, hS6⟩, hK6⟩
   generalize World.setRow _ _ _ = v5 at *
   obtain ⟨bY, hbY⟩ : ∃ x, x = wr.heap.size := ⟨_, rfl⟩
   rw [← hbY] at hY hnY ⊢
   clear hbY
   have hY6 : CmAt v6 bY y := hK6.has hY hnY
   have hA6 := hA2.on hK6 (fun i hi hf => HM.out.2.2.2.2.2 i hf hi)
   have hb6 := hb.trans (hK6.below HM.out.2.2.2.1 hb.size)
   have cn6 := hY6.now q0
   have rh6 := hY6.head
   have hT6 := HT.out v6 (tb_ HB2.out hb6)
   have KAdd2 := h_ (add_at hA6 HM.out.1 (by have := HM.out.2.1; omega) HG.out.1 HG.out.2 hT6 y.h q0 y.now)
   have HDj : Hid (∀ i, Nxt Ft v5 v6 i → ¬ Fa i) := h_ fun i hi hf => hi.elim (fun h => HM.out.2.2.2.2.2 i h hf) (fun h => by have := hA2.1 i hf; omega)
   have HF6 : Hid (∀ i, Nxt Ft v5 v6 i → v2.heap.size ≤ i) := h_ fun i hi => hi.elim (HM.out.2.2.2.1 i) (fun h => Nat.le_trans hb.size h.1)
   have hOk := HM.out.1.add q0 y.now
   have hlen := add_len r M y.h y.now
   have HL2 : Hid (M.length ≤ k + 1) := h_ HM.out.2.1
   have HFa : Hid (∀ i, Fa i → v2.heap.size ≤ i) := h_ HM.out.2.2.2.2.1
   have HLP := h_ hlp2
   clear hK6 hb KAdd hb2 HM hA2 hY hnY cn rh hlp2 hT6
   obtain ⟨⟨x1, x2, x3⟩, hres⟩ : ∃ res, res = (Ar.add r M y.h y.now).1 := ⟨_, rfl⟩
   rw [← hres] at KAdd2 ⊢
   go_wp2_with (first | fail | (with_reducible refine qdi_ rfl _ rfl _ 0 rfl y.h rh6 zy ?_))
   refine KAdd2.out.mono ?_
   rintro e v7 ⟨rfl, hA7, hK7⟩
   have hS7 := hS6.on hK7 (fun i hi hf => HDj.out i hi hf)
   have hb7 := hb6.trans (hK7.below HFa.out hb6.size)
   have hlx := hS6.1
   have HM7 : Hid (Ok r (Ar.add r M y.h y.now).2 ∧ (Ar.add r M y.h y.now).2.length ≤ k + 1 + 1 ∧ lp2.length = (Ar.add r M y.h y.now).2.length ∧ (∀ i, Nxt Ft v5 v6 i → v2.heap.size ≤ i) ∧ (∀ i, Nxt Fa v6 v7 i → v2.heap.size ≤ i) ∧ ∀ i, Nxt Ft v5 v6 i → ¬ Nxt Fa v6 v7 i) := h_ ⟨hOk, by have := HL2.out; omega, HLP.out, HF6.out, fun i hi => hi.elim (HFa.out i) (fun h => Nat.le_trans hb6.size h.1), fun i hi hf => hf.elim (HDj.out i hi) (fun h => by have := hlx i hi; omega)⟩
   clear hK7 hb6 KAdd2 hS6 hA6 hOk hlen hlx HDj HF6 HFa hres cn6 rh6 hY6 HLP
   generalize (Ar.add r M y.h y.now).2 = M' at *
   generalize Nxt Ft v5 v6 = Ft' at *
   generalize Nxt Fa v6 v7 = Fa' at *
   have t1 : (x1 != x1) = false := by simp
   have t2 : (x2 != x2) = false := by simp
   have t3 : (x3 != x3) = false := by simp
   go_wp2_with fail
   go_roundw
   case rel => exact ⟨k + 1, by omega, by go_num, Ft', Fa', M', lp2, hS7, hA7, HM7, hb7⟩
   case measure => simp [intOf]; omega
  ·obtain rfl : k = n := by omega
   have hm41 : M.length ≤ 41 := by have := HM.out.2.1; omega
   have KX : Hid (∀ x : Int, ∃ E g X pv nn gs h1 h2, StX wr bt ba x E g X pv nn gs h1 h2) := h_ fun x => stx_of hS hA x
   have KL1 : Hid (∀ w', Below wr.heap.size wr w' → Calls Tryz.prog 10 #[.pointer (some ⟨bt, 0, none⟩)] w' fun e w'' => e = .returned (.int .i64 (M.length : Nat)) ∧ Below w'.heap.size w' w'') := h_ fun w' hb => qtv_ (hS.below hb)
   have KL2 : Hid (∀ w', Below wr.heap.size wr w' → Calls Tryz.prog 25 #[.pointer (some ⟨ba, 0, none⟩)] w' fun e w'' => e = .returned (.int .i64 (M.length : Nat)) ∧ Below w'.heap.size w' w'') := h_ fun w' hb => len_at (hA.below hb)
   have KR1 : Hid (∀ w', Below wr.heap.size wr w' → Calls Tryz.prog 17 #[.pointer (some ⟨bt, 0, none⟩)] w' fun e w'' => e = .returned (.int .i64 (r.room : Nat)) ∧ Below w'.heap.size w' w'') := h_ fun w' hb => qxq_ (hS.below hb)
   have KR2 : Hid (∀ w', Below wr.heap.size wr w' → Calls Tryz.prog 31 #[.pointer (some ⟨ba, 0, none⟩)] w' fun e w'' => e = .returned (.int .i64 (r.room : Nat)) ∧ Below w'.heap.size w' w'') := h_ fun w' hb => qto_ (hA.below hb)
   have KF1 : Hid (∀ w', Below wr.heap.size wr w' → Calls Tryz.prog 19 #[.pointer (some ⟨bt, 0, none⟩), .agg (bytesV id)] w' fun e w'' => e = .returned (.int .i64 (plc (Ar.fnd r.g M id))) ∧ Below w'.heap.size w' w'') := h_ fun w' hb => qxw_ (hS.below hb) id i32
   have KF2 : Hid (∀ w', Below wr.heap.size wr w' → Calls Tryz.prog 32 #[.pointer (some ⟨ba, 0, none⟩), .agg (bytesV id)] w' fun e w'' => e = .returned (.int .i64 (plc (Ar.fnd r.g M id))) ∧ Below w'.heap.size w' w'') := h_ fun w' hb => qfm_ (hA.below hb) id i32
   have KRu : Hid (∀ w', Below wr.heap.size wr w' → Calls Tryz.prog 33 #[.pointer (some ⟨bt, 0, none⟩)] w' fun e w'' => ∃ q, e = .returned (.agg (NN.prA q)) ∧ q.ok ∧ RuQ p.lim t.g q ∧ Below w'.heap.size w' w'') := h_ fun w' hb => by
    obtain ⟨Fb, ab, k1, k2⟩ := (hS.below hb).parts
    refine qxx_ _ _ (RuQ p.lim t.g) w' (h_ k1) (h_ fun w2 hb2 => (qsh_ (k2.below hb2) HG.out.1 HG.out.2).mono ?_)
    rintro e w3 ⟨q, t', rfl, hq, hTo, hb3⟩
    exact ⟨q, rfl, ⟨hq, hTo.one⟩, ⟨t', hTo.tt, hTo.ok, hTo.al.2.2.2.2.2.trans HTT.out.2.2.1, hTo.al.1.trans HTT.out.2.2.2⟩, hb3⟩
   have hPr := NN.PrAt.on HPI.out.1 hb
   have hIr := qd_ hb HPI.out.2 (Has.lt HPI.out.2)
   have hb0 := Below.refl wr.heap.size wr
   have HBr := h_ (tb_ HB2.out hb)
   clear hS hA HM hb KNT KNA KA KG HPI
   generalize M.length = m at *
   generalize plc (Ar.fnd r.g M id) = zf at *
   generalize r.room = rm at *
   go_wp2_with fail
   go_loopw [21] (fun i ws => ∃ x : Int, i = .int .i64 x ∧ (-1 ≤ x ∧ x ≤ (m : Int) + 1) ∧ Below wr.heap.size wr ws) (fun i _ => ((m : Int) + 1 - intOf i).toNat)
   case atStart => exact ⟨-1, rfl, ⟨by omega, by omega⟩, hb0⟩
   case round =>
    clear hb0
    obtain ⟨x, rfl, ⟨hx1, hx2⟩, hb0⟩ := hrel
    go_wp2_with fail
    refine (KL2.out _ hb0).mono ?_
    rintro e v8 ⟨rfl, hb9⟩
    replace hb0 := tb_ hb0 hb9
    clear hb9
    by_cases hxm : x ≤ (m : Int)
    ·have tx : decide (x ≤ (m : Int)) = true := decide_eq_true hxm
     obtain ⟨E, g, X, pv, nn, gs, h1, h2, hK⟩ := KX.out x
     have HK := h_ hK
     have hE := hK.ok
     have h32 := hK.p32
     clear hK
     have ze := qad_ hE
     have z0 := qad_ enZ_ok
     have zS := qac_ spZ_ok
     go_wp2_with fail
     refine (HK.out.at1 _ hb0).mono ?_
     rintro e v10 ⟨rfl, hb9⟩
     replace hb0 := tb_ hb0 hb9
     clear hb9
     have hnew := qck_ v10
     have hE1 := qhu_ v10 E
     have hb3 := qex_ v10 68 Tryz.zeroCells68 (enA E)
     go_upto_region 19 with (with_reducible refine qbn_ rfl _ _ rfl _ _ E rfl rfl rfl ze hnew z0 ?_)
     generalize World.setRow _ _ _ = v11 at *
     replace hb0 := tb_ hb0 hb3
     obtain ⟨bhE1, hbN⟩ : ∃ x, x = v10.heap.size := ⟨_, rfl⟩
     rw [← hbN] at hE1 ⊢
     clear hbN hb3 hnew
     go_wp2_with fail
     refine (HK.out.at2 _ hb0).mono ?_
     rintro e v12 ⟨rfl, hb9⟩
     replace hE1 := EnAt.on hE1 hb9
     replace hb0 := tb_ hb0 hb9
     clear hb9
     have hnew := qck_ v12
     have hE2 := qhu_ v12 E
     have hb3 := qex_ v12 68 Tryz.zeroCells68 (enA E)
     go_upto_region 20 with (with_reducible refine qbn_ rfl _ _ rfl _ _ E rfl rfl rfl ze hnew z0 ?_)
     generalize World.setRow _ _ _ = v13 at *
     replace hE1 := EnAt.on hE1 hb3
     replace hb0 := tb_ hb0 hb3
     obtain ⟨bhE2, hbN⟩ : ∃ x, x = v12.heap.size := ⟨_, rfl⟩
     rw [← hbN] at hE2 ⊢
     clear hbN hb3 hnew
     go_wp2_with fail
     refine (HK.out.sp1 _ hb0).mono ?_
     rintro e v14 ⟨s1, rfl, hss1, hb9⟩
     replace hE1 := EnAt.on hE1 hb9
     replace hE2 := EnAt.on hE2 hb9
     replace hb0 := tb_ hb0 hb9
     clear hb9
     have zs1 : (spA s1).size = 38 := qac_ (by unfold Sp.ok; rw [hss1.2.1]; exact h32)
     go_upto_region 21 with (with_reducible refine qbl_ rfl _ _ rfl _ _ s1 rfl rfl rfl zs1 (qbg_ v14) zS ?_)
     generalize hv15 : World.setRow _ _ _ = v15
     have hb3 : Below v14.heap.size v14 v15 := bw_ hv15
     have hS1 : SpAt v15 v14.heap.size s1 := by rw [← hv15]; exact Has.row (qbg_ v14) _
     clear hv15
     replace hE1 := EnAt.on hE1 hb3
     replace hE2 := EnAt.on hE2 hb3
     replace hb0 := tb_ hb0 hb3
     obtain ⟨bhS1, hbN⟩ : ∃ x, x = v14.heap.size := ⟨_, rfl⟩
     rw [← hbN] at hS1 ⊢
     clear hbN hb3
     go_wp2_with fail
     refine (HK.out.sp2 _ hb0).mono ?_
     rintro e v16 ⟨s2, rfl, hss2, hb9⟩
     replace hE1 := EnAt.on hE1 hb9
     replace hE2 := EnAt.on hE2 hb9
     replace hS1 := SpAt.on hS1 hb9
     replace hb0 := tb_ hb0 hb9
     clear hb9
     have zs2 : (spA s2).size = 38 := qac_ (by unfold Sp.ok; rw [hss2.2.1]; exact h32)
     go_upto_region 22 with (with_reducible refine qbl_ rfl _ _ rfl _ _ s2 rfl rfl rfl zs2 (qbg_ v16) zS ?_)
     generalize hv17 : World.setRow _ _ _ = v17
     have hb3 : Below v16.heap.size v16 v17 := bw_ hv17
     have hS2 : SpAt v17 v16.heap.size s2 := by rw [← hv17]; exact Has.row (qbg_ v16) _
     clear hv17
     replace hE1 := EnAt.on hE1 hb3
     replace hE2 := EnAt.on hE2 hb3
     replace hS1 := SpAt.on hS1 hb3
     replace hb0 := tb_ hb0 hb3
     obtain ⟨bhS2, hbN⟩ : ∃ x, x = v16.heap.size := ⟨_, rfl⟩
     rw [← hbN] at hS2 ⊢
     clear hbN hb3
     obtain ⟨x1, p1, a1, n1, c1⟩ := s1
     obtain ⟨x2, p2, a2, n2, c2⟩ := s2
     obtain ⟨e1, e2, e3⟩ := hss1
     obtain ⟨e4, e5, e6⟩ := hss2
     simp only at e1 e2 e3 e4 e5 e6
     subst e1 e2 e3 e4 e5 e6
     have r1 := SpAt.pt hS1
     have r2 := SpAt.pt hS2
     have m1 := SpAt.prev hS1
     have m2 := SpAt.prev hS2
     have d1 := SpAt.sl hS1 h32
     have d2 := SpAt.sl hS2 h32
     simp only at r1 r2 m1 m2 d1 d2
     have b32 := qe_ h32
     have qn := fun w => hn_neq p2 p2 h32 h32 false (by simp) w
     have qe := en_neq E hE
     have tn : ((n2 : Int) != (n2 : Int)) = false := by simp
     clear hS1 hS2
     have tg : (g != g) = false := by simp
     have tgs : (gs != gs) = false := by simp
     have th1 : (h1 != h1) = false := by simp
     have th2 : (h2 != h2) = false := by simp
     go_wp2_with (first
      | fail
      | (with_reducible refine qtn_ rfl _ rfl _ rfl hE1 ze ?_)
      | (with_reducible refine qtn_ rfl _ rfl _ rfl hE2 ze ?_)
      | (with_reducible refine enneq_f rfl _ _ _ rfl _ _ _ rfl rfl qe ?_)
      | (with_reducible refine qpf_ (by with_unfolding_all rfl) _ rfl bhS1 rfl _ r1 ?_)
      | (with_reducible refine qpf_ (by with_unfolding_all rfl) _ rfl bhS2 rfl _ r2 ?_)
      | (with_reducible refine qbo_ (by with_unfolding_all rfl) _ rfl bhS1 5 rfl _ m1 b32 ?_)
      | (with_reducible refine qbo_ (by with_unfolding_all rfl) _ rfl bhS2 5 rfl _ m2 b32 ?_)
      | (with_reducible refine ptneq_g (by with_unfolding_all rfl) _ _ _ rfl _ rfl rfl ?_)
      | (with_reducible refine hneq_g (by with_unfolding_all rfl) _ _ _ rfl _ _ _ rfl rfl qn ?_))
     refine (HK.out.hv1 _ hb0).mono ?_
     rintro e v20 ⟨rfl, hb9⟩
     replace hb0 := tb_ hb0 hb9
     clear hb9
     clear r1 r2 m1 m2 d1 d2 hE1 hE2
     go_wp2_with fail
     refine (HK.out.hv2 _ hb0).mono ?_
     rintro e v21 ⟨rfl, hb9⟩
     replace hb0 := tb_ hb0 hb9
     clear hb9
     go_wp2_with fail
     refine (HK.out.hv3 _ hb0).mono ?_
     rintro e v22 ⟨rfl, hb9⟩
     replace hb0 := tb_ hb0 hb9
     clear hb9
     go_wp2_with fail
     refine (HK.out.hv4 _ hb0).mono ?_
     rintro e v23 ⟨rfl, hb9⟩
     replace hb0 := tb_ hb0 hb9
     clear hb9
     go_wp2_with fail
     go_roundw
     case rel => exact ⟨x + 1, by go_num, ⟨by omega, by omega⟩, hb0⟩
     case measure => simp [intOf]; omega
    ·have tx : decide (x ≤ (m : Int)) = false := decide_eq_false hxm
     go_upto_region 24 with fail
     have zg := qj_ HTT.out.2.1.2
     have qh := fun w => hd_eql t.g t.g HTT.out.2.1.2 HTT.out.2.1.2 true (by simp) w
     refine qh_ (by kernel_rfl) (fun w' => Below v8.heap.size v8 w') (fun i v' _ => StE bt ba bP m rm zf p.lim t.g id i v') (fun _ _ _ => True) (fun _ _ => True) (fun _ _ => trivial) (fun _ _ _ _ _ _ h => h) (by kernel_rfl) (Below.refl _ _).drew (fun _ _ => trivial) ?_ ?_
     ·intro i o listed a' wx ho' hnl hdep hinv
      have hC := hinv.c
      have hi : i < 38 := (Array.getElem?_eq_some_iff.1 ho').1
      have hBx := tb_ hb0 hC
      have hPx := NN.PrAt.on hPr hBx
      have hIx := qd_ hBx hIr (Has.lt hIr)
      obtain rfl | rfl | rfl | rfl | rfl | rfl | rfl | rfl | rfl | rfl | rfl | rfl | rfl | rfl | rfl | rfl | rfl | rfl | rfl | rfl | rfl | rfl | rfl | rfl | rfl | rfl | rfl | rfl | rfl | rfl | rfl | rfl | rfl | rfl | rfl | rfl | rfl | rfl : i = 0 ∨ i = 1 ∨ i = 2 ∨ i = 3 ∨ i = 4 ∨ i = 5 ∨ i = 6 ∨ i = 7 ∨ i = 8 ∨ i = 9 ∨ i = 10 ∨ i = 11 ∨ i = 12 ∨ i = 13 ∨ i = 14 ∨ i = 15 ∨ i = 16 ∨ i = 17 ∨ i = 18 ∨ i = 19 ∨ i = 20 ∨ i = 21 ∨ i = 22 ∨ i = 23 ∨ i = 24 ∨ i = 25 ∨ i = 26 ∨ i = 27 ∨ i = 28 ∨ i = 29 ∨ i = 30 ∨ i = 31 ∨ i = 32 ∨ i = 33 ∨ i = 34 ∨ i = 35 ∨ i = 36 ∨ i = 37 := by omega
      all_goals obtain rfl := Option.some.inj ho'
      ·exact dv_ 0 hinv (qa_ rfl) (NN.qn_ rfl) (hinv.old' 9) trivial
      ·exact dC_ (S := T2_) 1 hinv (qa_ rfl) (f := 10) (args := #[a'.eval (.tmp 171)]) (by kernel_rfl) (by rw [show a'.eval (.tmp 171) = _ from (gd_ hinv hdep 0 171)]; exact KL1.out wx hBx) (fun w' hb => ⟨tb_ hC hb, trivial, rfl, trivial⟩)
      ·exact dv_ 2 hinv (qa_ rfl) (NN.qn_ rfl) (hinv.old' 11) trivial
      ·exact dC_ (S := T2_) 3 hinv (qa_ rfl) (f := 25) (args := #[a'.eval (.tmp 173)]) (by kernel_rfl) (by rw [show a'.eval (.tmp 173) = _ from (gd_ hinv hdep 2 173)]; exact KL2.out wx hBx) (fun w' hb => ⟨tb_ hC hb, trivial, rfl, trivial⟩)
      ·exact dv_ 4 hinv (qa_ rfl) (ex_eqi rfl (gd_ hinv hdep 1 172) (gd_ hinv hdep 3 174)) (congrArg Value.bool (by simp)) trivial
      ·exact dv_ 5 hinv (qa_ rfl) (NN.qn_ rfl) (gd_ hinv hdep 4 175) trivial
      ·exact dv_ 6 hinv (gy_ hinv hdep 5 176 rfl) (NN.qn_ rfl) (hinv.old' 9) trivial
      ·exact dC_ (S := T2_) 7 hinv (gy_ hinv hdep 5 176 rfl) (f := 17) (args := #[a'.eval (.tmp 177)]) (by kernel_rfl) (by rw [show a'.eval (.tmp 177) = _ from (gd_ hinv hdep 6 177)]; exact KR1.out wx hBx) (fun w' hb => ⟨tb_ hC hb, trivial, rfl, trivial⟩)
      ·exact dv_ 8 hinv (gy_ hinv hdep 5 176 rfl) (NN.qn_ rfl) (hinv.old' 11) trivial
      ·exact dC_ (S := T2_) 9 hinv (gy_ hinv hdep 5 176 rfl) (f := 31) (args := #[a'.eval (.tmp 179)]) (by kernel_rfl) (by rw [show a'.eval (.tmp 179) = _ from (gd_ hinv hdep 8 179)]; exact KR2.out wx hBx) (fun w' hb => ⟨tb_ hC hb, trivial, rfl, trivial⟩)
      ·exact dv_ 10 hinv (gy_ hinv hdep 5 176 rfl) (ex_eqi rfl (gd_ hinv hdep 7 178) (gd_ hinv hdep 9 180)) (congrArg Value.bool (by simp)) trivial
      ·exact dv_ 11 hinv (qa_ rfl) (qjm_ rfl (gd_ hinv hdep 5 176)) (by rw [if_pos rfl]; exact (gd_ hinv hdep 10 181)) trivial
      ·exact dv_ 12 hinv (qa_ rfl) (NN.qn_ rfl) (gd_ hinv hdep 11 182) trivial
      ·exact dv_ 13 hinv (gy_ hinv hdep 12 183 rfl) (NN.qn_ rfl) (hinv.old' 9) trivial
      ·exact dv_ 14 hinv (gy_ hinv hdep 12 183 rfl) (qes_ rfl (hinv.old' 7) (qgi_ hIx) i32) rfl trivial
      ·exact dC_ (S := T2_) 15 hinv (gy_ hinv hdep 12 183 rfl) (f := 19) (args := #[a'.eval (.tmp 184), a'.eval (.tmp 185)]) (by kernel_rfl) (by rw [show a'.eval (.tmp 184) = _ from (gd_ hinv hdep 13 184)]; rw [show a'.eval (.tmp 185) = _ from (gd_ hinv hdep 14 185)]; exact KF1.out wx hBx) (fun w' hb => ⟨tb_ hC hb, trivial, rfl, trivial⟩)
      ·exact dv_ 16 hinv (gy_ hinv hdep 12 183 rfl) (NN.qn_ rfl) (hinv.old' 11) trivial
      ·exact dv_ 17 hinv (gy_ hinv hdep 12 183 rfl) (qes_ rfl (hinv.old' 7) (qgi_ hIx) i32) rfl trivial
      ·exact dC_ (S := T2_) 18 hinv (gy_ hinv hdep 12 183 rfl) (f := 32) (args := #[a'.eval (.tmp 187), a'.eval (.tmp 188)]) (by kernel_rfl) (by rw [show a'.eval (.tmp 187) = _ from (gd_ hinv hdep 16 187)]; rw [show a'.eval (.tmp 188) = _ from (gd_ hinv hdep 17 188)]; exact KF2.out wx hBx) (fun w' hb => ⟨tb_ hC hb, trivial, rfl, trivial⟩)
      ·exact dv_ 19 hinv (gy_ hinv hdep 12 183 rfl) (ex_eqi rfl (gd_ hinv hdep 15 186) (gd_ hinv hdep 18 189)) (congrArg Value.bool (by simp)) trivial
      ·exact dv_ 20 hinv (qa_ rfl) (qjm_ rfl (gd_ hinv hdep 12 183)) (by rw [if_pos rfl]; exact (gd_ hinv hdep 19 190)) trivial
      ·exact dv_ 21 hinv (qa_ rfl) (NN.qn_ rfl) (gd_ hinv hdep 20 191) trivial
      ·exact dv_ 22 hinv (gy_ hinv hdep 21 192 rfl) (NN.qn_ rfl) (hinv.old' 9) trivial
      ·refine dA_ (S := T2_) 23 hinv (gy_ hinv hdep 21 192 rfl) (f := 33) (args := #[a'.eval (.tmp 193)]) (by kernel_rfl) ?_
       rw [show a'.eval (.tmp 193) = _ from (gd_ hinv hdep 22 193)]
       refine (KRu.out wx hBx).mono ?_
       rintro e w' ⟨q, rfl, _, hq, hb⟩
       exact ⟨_, rfl, tb_ hC hb, trivial, ⟨q, rfl, hq⟩, trivial⟩
      ·obtain ⟨q, e194, t', q1, q2, q3, q4⟩ : ∃ q, a'.eval (.tmp 194) = .agg (NN.prA q) ∧ RuQ p.lim t.g q := (gd_ hinv hdep 23 194)
       exact dv_ 24 hinv (gy_ hinv hdep 21 192 rfl) (qkf_ rfl e194 (qpm_ q t' q1 q2 wx)) (by rw [q3]; rfl) trivial
      ·exact dv_ 25 hinv (gy_ hinv hdep 21 192 rfl) (qaw_ rfl (hinv.old' 4) (pfield9 wx bP)) rfl trivial
      ·exact dv_ 26 hinv (gy_ hinv hdep 21 192 rfl) (qcr_ rfl (gd_ hinv hdep 25 196) (pr_gen hPx HTT.out.1 HTT.out.2.1) zg) rfl trivial
      ·exact dv_ 27 hinv (gy_ hinv hdep 21 192 rfl) (ex_eqs qvr_ rfl (gd_ hinv hdep 24 195) (gd_ hinv hdep 26 197) qh) rfl trivial
      ·exact dv_ 28 hinv (qa_ rfl) (qjm_ rfl (gd_ hinv hdep 21 192)) (by rw [if_pos rfl]; exact (gd_ hinv hdep 27 198)) trivial
      ·exact dv_ 29 hinv (qa_ rfl) (NN.qn_ rfl) (gd_ hinv hdep 28 199) trivial
      ·exact dv_ 30 hinv (gy_ hinv hdep 29 200 rfl) (NN.qn_ rfl) (hinv.old' 9) trivial
      ·refine dA_ (S := T2_) 31 hinv (gy_ hinv hdep 29 200 rfl) (f := 33) (args := #[a'.eval (.tmp 201)]) (by kernel_rfl) ?_
       rw [show a'.eval (.tmp 201) = _ from (gd_ hinv hdep 30 201)]
       refine (KRu.out wx hBx).mono ?_
       rintro e w' ⟨q, rfl, _, hq, hb⟩
       exact ⟨_, rfl, tb_ hC hb, trivial, ⟨q, rfl, hq⟩, trivial⟩
      ·obtain ⟨q, e202, t', q1, q2, q3, q4⟩ : ∃ q, a'.eval (.tmp 202) = .agg (NN.prA q) ∧ RuQ p.lim t.g q := (gd_ hinv hdep 31 202)
       exact dv_ 32 hinv (gy_ hinv hdep 29 200 rfl) (qkf_ rfl e202 (qpn_ q wx)) (by rw [q4]; rfl) trivial
      ·exact dv_ 33 hinv (gy_ hinv hdep 29 200 rfl) (qaw_ rfl (hinv.old' 4) (pfield0 wx bP)) rfl trivial
      ·exact dv_ 34 hinv (gy_ hinv hdep 29 200 rfl) (NN.qbh_ rfl (gd_ hinv hdep 33 204) (hPx.c0 (h_ rfl))) rfl trivial
      ·exact dv_ 35 hinv (gy_ hinv hdep 29 200 rfl) (ex_eqi rfl (gd_ hinv hdep 32 203) (gd_ hinv hdep 34 205)) (congrArg Value.bool (by simp)) trivial
      ·exact dv_ 36 hinv (qa_ rfl) (qjm_ rfl (gd_ hinv hdep 29 200)) (by rw [if_pos rfl]; exact (gd_ hinv hdep 35 206)) trivial
      ·exact dv_ 37 hinv (qa_ rfl) (NN.qak_ rfl) (gd_ hinv hdep 36 207) trivial
     intro listed a' v9 hall hinv
     have hC := hinv.c
     have e8 : a'.eval (.tmp 8) = .bool true := hinv.got 37 _ 8 rfl (hall 37 (by decide)) rfl
     obtain ⟨u, hu⟩ : ∃ u : Nat → Value, ∀ t, u t = a'.eval (.tmp t) := ⟨_, fun _ => rfl⟩
     rw [qbc_ a' 208 u hinv.tsize hinv.defers hu]
     rw [← hu] at e8
     clear hu hinv hall
     simp only [List.range, List.range.loop, List.map_cons, List.map_nil]
     rw [e8]
     clear e8
     have hB9 := HBr.out.trans ((tb_ hb0 hC).mono HBr.out.size)
     clear hC hPr hIr
     go_wp2_with fail
     go_ret
     exact ⟨rfl, hB9⟩
theorem qls_ (p : NN.Pr) (hp : p.ok) (h1 : p.one) (t : Tl) (tt : p.tl = t.C) (ht : t.ok) (gs : List Gt) (cs : List Ck) (hgn : t.gn = gs.length) (hcn : t.cn = cs.length) (a : Option Addr) (ls : List Cm) (n c : Nat) (hn : n = ls.length) (hl : n ≤ 4611686018427387904) (room : Int) (id : List UInt8) (i32 : id.length = 32) (w : World) (hT : Tab w) (hA : ComesAt w a ls) (hG : GatesAt w t.ga gs) (hC : ChecksAt w t.ca cs) :
  Ca_ 5 #[.agg (NN.prA p), .slice a n c, .int .i64 room, .agg (bytesV id)] w (.bool true) := by
 have KA : HK_ w 7 #[] (.bool true) := h_ fun w' hb => alive13 w' (hT.below hb)
 have KG : ∀ g, grt13 p t gs cs ls = g → HK_ w 8 #[.agg (NN.prA p), .slice a n c] (.bool g) := fun g hg => h_ fun w' hb => qxv_ p hp t tt ht gs cs hgn hcn ls n a c hn hl g hg w' (hA.below hb) (hG.below hb) (hC.below hb)
 cases hg : grt13 p t gs cs ls
 ·have KG1 := KG false hg
  unfold grt13 grt at hg
  simp only [Bool.or_eq_false_iff, decide_eq_false_iff_not, Bool.not_eq_false'] at hg
  obtain ⟨⟨⟨⟨hg0, hg1⟩, hg2⟩, hg3⟩, hr⟩ := hg
  exact qlr_ p hp ⟨p, t.g, gs, cs, clampR room⟩ a n c ls w room id i32 (h_ fun w' hb => hA.below hb) (h_ hn) (by omega) (h_ fun w' hb => hT.below hb) (h_ ⟨by simp only; omega, by simp only; omega⟩) t tt ht rfl rfl KA KG1
   (h_ fun w' hb => qtw_ p hp h1 t tt ht gs cs hgn hcn (by omega) (by omega) room hr w' (hT.below hb) (hG.below hb) (hC.below hb))
   (h_ fun w' hb => new_at p hp h1 t tt ht gs cs hgn hcn (by omega) (by omega) room hr w' (hT.below hb) (hG.below hb) (hC.below hb))
 ·exact qjd_ p hp a n c w room id KA (KG true hg)
end Go.Proofs.YtgaocfhlagbkpaaGreatDoor.An
