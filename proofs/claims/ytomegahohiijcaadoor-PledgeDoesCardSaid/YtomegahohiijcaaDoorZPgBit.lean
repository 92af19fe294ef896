/-
  A name's bit: the program's; the reference's Due and Bit.
-/
import Derived.Test.YtomegahohiijcaaDoorBunQ6
import Derived.Test.YtomegahohiijcaaDoorBunQ15
import Derived.Test.YtomegahohiijcaaDoorBunQ20
import Derived.Test.YtomegahohiijcaaDoorBunQ14
namespace Go.Proofs.YtomegahohiijcaaDoor.An
open Go.RowKit Mem Sc NN.Rg2 Sha
open Pg (Pl pbit gv Ws)
set_option maxRecDepth 100000
theorem rdue_at (x : Pl) (p o : Int) (hp : x.p = p) (ho : x.o = o) (h : Int) (w : World) : Calls Tryd.prog 11 #[.int .i64 p, .int .i64 o, .int .i64 h] w fun r w' => r = .returned (.bool (x.due h)) ∧ w = w' := by
  obtain ⟨s, p', o'⟩ := x
  dsimp only at hp ho
  subst hp
  subst ho
  obtain ⟨b1, h1⟩ : ∃ b1, decide ((1 : Int) ≤ p') = b1 := ⟨_, rfl⟩
  obtain ⟨b2, h2⟩ : ∃ b2, decide (p' ≤ (64 : Int)) = b2 := ⟨_, rfl⟩
  obtain ⟨b3, h3⟩ : ∃ b3, decide ((0 : Int) ≤ o') = b3 := ⟨_, rfl⟩
  obtain ⟨b4, h4⟩ : ∃ b4, decide (o' < p') = b4 := ⟨_, rfl⟩
  obtain ⟨b5, h5⟩ : ∃ b5, decide ((0 : Int) ≤ h) = b5 := ⟨_, rfl⟩
  obtain ⟨t, ht⟩ : ∃ t, h.tmod p' = t := ⟨_, rfl⟩
  obtain ⟨b6, h6⟩ : ∃ b6, (t == o') = b6 := ⟨_, rfl⟩
  have hg : (⟨s, p', o'⟩ : Pl).due h = ((b1 && (b2 && (b3 && b4))) && (b5 && b6)) := by unfold Pl.due; rw [pl_good, h1, h2, h3, h4, h5, ht, ← h6]; rfl
  rw [hg]
  clear hg
  go_enter Tryd.func11, Tryd.ntmps11
  cases b1 with
  | false => go_wp2_with fail; go_ret; exact ⟨rfl, rfl⟩
  | true =>
  cases b2 with
  | false => go_wp2_with fail; go_ret; exact ⟨rfl, rfl⟩
  | true =>
  cases b3 with
  | false => go_wp2_with fail; go_ret; exact ⟨rfl, rfl⟩
  | true =>
  cases b4 with
  | false => go_wp2_with fail; go_ret; exact ⟨rfl, rfl⟩
  | true =>
  cases b5 with
  | false => go_wp2_with fail; go_ret; exact ⟨rfl, rfl⟩
  | true =>
  have hp0 : ¬ p' = 0 := by simp only [decide_eq_true_eq] at h1; omega
  go_wp2_with fail
  go_ret
  exact ⟨rfl, rfl⟩
/-- one name is put -/
theorem pname1_at (b : Nat) (v : Value) (l x : List UInt8) (hx : x.length = 32) (w : World) (H : Nat) (hH : w.heap.size = H) (h : PenAt w b v l) (hsz : l.length ≤ 70368744177600) :
    Calls Tryd.prog 20 #[.pointer (some ⟨b, 0, none⟩), .slice (some ⟨H, 0, none⟩) 1 1] (w.alloc (.cells (bytesV x) 25)) fun r w' => PenPost w b v (l ++ x) r w' := by
  subst hH
  have hlt := h.lt
  have hb : Below w.heap.size w (w.alloc (.cells (bytesV x) 25)) := (Below.refl _ _).alloc (Nat.le_refl _) _
  have hN : Has (w.alloc (.cells (bytesV x) 25)) w.heap.size (bytesV x) 25 := Has.new _ _
  refine (pnames_at b v l _ [x] 1 1 rfl _ (h.below hb) (fun _ => ⟨w.heap.size, 0, rfl, by rw [World.size_alloc]; omega, fun i hi => ?_⟩) (fun _ p hp => ?_) (fun z hz => by simp at hz; rw [hz]; exact hx) (by omega)).mono ?_
  · obtain rfl : i = 0 := by simpa using hi
    refine ⟨hx, fun j u hu => ?_⟩
    rw [hN.cell]
    change (Lib.byteCells x)[j]? = some u at hu
    rw [show bytesV x = (Lib.byteCells x).toArray from Array.toList_inj.1 (by rw [bytesV_list]), List.getElem?_toArray, show 0 + 0 * 32 + j = j by omega]
    exact hu
  · obtain rfl := Option.some.inj hp
    exact ⟨by show w.heap.size ≠ b; omega, fun e => absurd (h.ownLt (k := w.heap.size) e).2 (by omega)⟩
  · rintro r w' ⟨v', rfl, hP, hS⟩
    have e : [x].flatten = x := by simp
    rw [e] at hP
    exact ⟨v', rfl, hP, hS.below hb⟩
theorem and1 (z : UInt8) : bits .and .u8 (z.toNat : Int) 1 = ((z.toNat % 2 : Nat) : Int) := by
  rw [show bits .and .u8 (z.toNat : Int) 1 = (z.toNat : Int) % 2 from bits_mask .u8 8 (by decide) wraps_u8 1 (by decide) (z.toNat : Int) (by omega) (by have := z.toNat_lt; omega)]
  omega
theorem index_first (d : UInt8) (l : List UInt8) (w : World) : (Instr.index 25 (.agg (bytesV (d :: l))) (.int .i64 0)).run Tryd.prog w = .ok (.int .u8 (d.toNat : Int)) w := by kernel_rfl
set_option maxHeartbeats 2000000 in
theorem bit_at (x : Pl) (id : List UInt8) (hid : id.length = 32) (w : World) (hT : Tab w) :
    Calls Tryd.prog 12 #[.agg (plA x), .agg (bytesV id)] w fun r w' => r = .returned (.bool (pbit x.s id)) ∧ Below w.heap.size w w' := by
  have hsz : (bytesV id).size = 32 := hv_size hid
  have HSZ := Lib.hid hsz
  clear hsz
  obtain ⟨px, hpx⟩ : ∃ px, x.s = px := ⟨_, rfl⟩
  rw [hpx]
  obtain ⟨pb, hpb⟩ : ∃ pb, pbit px id = pb := ⟨_, rfl⟩
  rw [hpb]
  have HPB := Lib.hid hpb
  clear hpb
  go_enter Tryd.func12, Tryd.ntmps12
  go_upto_region 1 with fail
  generalize hw0 : World.alloc _ _ = v0
  have hB : Below w.heap.size w v0 := by rw [← hw0]; exact ((Below.refl _ _).alloc (Nat.le_refl _) _).alloc (by rw [World.size_alloc]; omega) _
  have hP : PlAt v0 w.heap.size x := by rw [← hw0]; exact Has.alloc (Has.new _ _) _
  have hI : Has v0 (w.heap.size + 1) (bytesV id) 25 := by rw [← hw0]; exact Mem.Has.new1 _ _ _
  clear hw0
  obtain ⟨bP, hbP⟩ : ∃ b, b = w.heap.size := ⟨_, rfl⟩
  have hT0 := hT.below hB
  rw [← hbP] at hP hI hB ⊢
  have HBP := Lib.hid hbP
  clear hbP
  have c0 := hP.c0
  rw [hpx] at c0
  go_upto_region 2 with fail
  generalize hw1 : World.alloc _ _ = v1
  have hN : PenAt v1 v0.heap.size (.slice none 0 0) [] := by rw [← hw1]; exact pen_new v0
  have hb1 : Below v0.heap.size v0 v1 := by rw [← hw1]; exact (Below.refl _ _).alloc (Nat.le_refl _) _
  have C0 : v1.cell? ⟨bP, 0, none⟩ = some (.int .i64 px) := (hb1.cell (p := ⟨bP, 0, none⟩) (Has.lt hP)).trans c0
  clear hw1 c0
  have C1 := Lib.hid (put1_at _ _ _ 8 8 rfl px v1 v1.heap.size rfl hN (by simp))
  go_wp2_with fail
  refine (C1.out).mono ?_
  rintro r v2 ⟨v, rfl, hN2, hS2⟩
  have hlt := Has.lt hI
  have hI2 : Has v2 (bP + 1) (bytesV id) 25 := hS2.has (below_has hb1 hI hlt) (by omega) (by simp [Value.ownBlock])
  have hB2 : Below bP v0 v2 := (hb1.mono (by omega)).trans ((hS2.toBelow hN).mono (by omega))
  have hl8 : ([] ++ num 8 px).length = 8 := num_length _ _
  have C2 := Lib.hid (pname1_at _ _ _ id hid v2 v2.heap.size rfl hN2 (by omega))
  replace hB := hB.trans (hB2.mono (by omega))
  clear C1 hI hP hB2
  go_wp2_with (first
    | (with_reducible refine hl_load rfl _ rfl _ rfl _ hI2 HSZ.out ?_)
    | (with_reducible refine build_hl rfl _ rfl _ rfl HSZ.out ?_))
  refine (C2.out).mono ?_
  rintro r v3 ⟨v', rfl, hN3, hS3⟩
  have hT3 : Tab v3 := hT0.below (Below.trans (B := v0.heap.size) hb1 ((hS2.toBelow hN).trans ((hS3.toBelow hN2).mono (Nat.le_refl _))))
  replace hB := hB.trans ((hS3.toBelow hN2).mono (by omega))
  obtain ⟨T, hTx⟩ : ∃ T, T = [] ++ num 8 px ++ id := ⟨_, rfl⟩
  rw [← hTx] at hN3
  have C3 := Lib.hid (text_at _ _ _ v3 hN3)
  have hTl : T.length = 40 := by rw [hTx, List.length_append, hl8, hid]
  clear C2 hI2 hN2 hS2 hS3
  go_wp2_with fail
  refine (C3.out).mono ?_
  rintro r v4 ⟨rfl, rfl⟩
  have hbs : Below v3.heap.size v3 (v3.alloc (.cells #[.string ⟨T.toArray⟩] 9)) := (Below.refl _ _).alloc (Nat.le_refl _) _
  have hfl : flat [(⟨T.toArray⟩ : ByteArray)] = T := by rw [flat_one]
  have KD := Lib.hid (double (some ⟨v3.heap.size, 0, none⟩) [⟨T.toArray⟩] 1 1 rfl _ (hT3.below hbs) (by rw [hfl]; omega) (by omega) (PartsW.one (by simp)))
  rw [hfl] at KD
  have HTX : Hid (T = num 8 px ++ id) := Lib.hid (by rw [hTx, List.nil_append])
  clear C3 hfl hTx
  go_wp2_with fail
  refine (KD.out).mono ?_
  rintro r v5 ⟨rfl, hb5⟩
  replace hB := (hB.trans (hbs.mono (by have := hB.size; have := HBP.out; omega))).trans (hb5.mono (by have := hB.size; have := HBP.out; rw [World.size_alloc]; omega))
  have hdl : (sha (sha T)).length = 32 := nameOf_length _
  obtain ⟨D, hD⟩ : ∃ D, D = sha (sha T) := ⟨_, rfl⟩
  rw [← hD] at hdl ⊢
  obtain ⟨z, D', rfl⟩ : ∃ z D', D = z :: D' := by
    cases D with
    | nil => simp at hdl
    | cons z D' => exact ⟨z, D', rfl⟩
  have hix := index_first z D'
  have ha := and1 z
  have hpb : (((z.toNat % 2 : Nat) : Int) == 1) = pb := by
    rw [← HPB.out]
    unfold pbit
    rw [← HTX.out, ← hD, Bool.eq_iff_iff]
    simp only [beq_iff_eq, decide_eq_true_eq, List.getD_cons_zero]
    omega
  obtain ⟨m, hm⟩ : ∃ m, z.toNat % 2 = m := ⟨_, rfl⟩
  rw [hm] at ha hpb
  have HM := Lib.hid hm
  clear hm hD KD hbs
  go_wp2_with fail
  go_ret
  exact ⟨rfl, HBP.out ▸ hB⟩
set_option maxHeartbeats 2000000 in
theorem rbit_at (z : Int) (id : List UInt8) (hid : id.length = 32) (w : World) :
    Calls Tryd.prog 13 #[.int .i64 z, .agg (bytesV id)] w fun r w' => r = .returned (.bool (pbit z id)) ∧ Below w.heap.size w w' := by
  have hnl : (num 8 z).length = 8 := num_length _ _
  have K1 : Hid (∀ w', Calls Tryd.prog 24 #[.int .i64 8, .int .i64 z] w' fun r w'' => r = .returned (.string (txt (num 8 z))) ∧ Below w'.heap.size w' w'') := Lib.hid (fun w' => rnumber 8 z w')
  have K2 := Lib.hid (fun w' => rname id hid w')
  have K3 : Hid (∀ w', Calls Tryd.prog 23 #[.string (txt (num 8 z) ++ txt id)] w' fun r w'' => r = .returned (.agg (bytesV (sha (sha (num 8 z ++ id))))) ∧ Below w'.heap.size w' w'') := Lib.hid (fun w' => by
    have := ref_double (txt (num 8 z) ++ txt id) (by rw [txt_append, txt_size, List.length_append, hnl, hid]; omega) w'
    rwa [txt_append, txt_list, ← txt_append] at this)
  have hsz1 : (txt (num 8 z)).size = 8 := by rw [txt_size, hnl]
  have hsz2 : (txt id).size = 32 := by rw [txt_size, hid]
  have hdl : (sha (sha (num 8 z ++ id))).length = 32 := nameOf_length _
  obtain ⟨pb, hpb⟩ : ∃ pb, pbit z id = pb := ⟨_, rfl⟩
  rw [hpb]
  unfold pbit at hpb
  obtain ⟨D, hD⟩ : ∃ D, D = sha (sha (num 8 z ++ id)) := ⟨_, rfl⟩
  rw [← hD] at hdl K3 hpb
  generalize txt (num 8 z) = t1 at *
  generalize txt id = t2 at *
  have HPB := Lib.hid hpb
  clear hD hnl hpb
  go_enter Tryd.func13, Tryd.ntmps13
  go_upto_region 1 with fail
  generalize hw0 : World.alloc _ _ = v0
  have hB : Below w.heap.size w v0 := by rw [← hw0]; exact (Below.refl _ _).alloc (Nat.le_refl _) _
  have hI : Has v0 w.heap.size (bytesV id) 25 := by rw [← hw0]; exact Has.new _ _
  have hlt := Has.lt hI
  clear hw0
  obtain ⟨bI, hbI⟩ : ∃ b, b = w.heap.size := ⟨_, rfl⟩
  rw [← hbI] at hI hlt ⊢
  have HBI := Lib.hid hbI
  clear hbI
  have KI : ∀ w', Below v0.heap.size v0 w' → w'.rangeAt bI 0 (Lib.byteCells id) := fun w' hb j u hu => by
    rw [Has.cell (below_has hb hI hlt) (0 + j), ← hu, Nat.zero_add, ← Array.getElem?_toList, bytesV_list]
  refine wp_tabG (fun b1 b2 g w' => HlS v0 D b1 b2 g w') 6 7 [1, 2, 3, 4, 5, 6, 7] (fun g => [.int .i64 z, .string t1, .agg (bytesV id), .string t2, .string (t1 ++ t2), .agg (bytesV D), .pointer (some ⟨g, 0, none⟩), undef]) 0 (HlS.start (Below.refl _ _).drew)
    ⟨fun b1 b2 g w' _ _ hC => .call ((K1.out w').mono fun e w'' h => ⟨h.1, hC.read h.2⟩), fun b1 b2 g w' _ _ hC => .val (ex_load_hl rfl rfl (KI _ hC.1) hid) hC, fun b1 b2 g w' _ _ hC => .call ((K2.out w').mono fun e w'' h => ⟨h.1, hC.read h.2⟩), fun b1 b2 g w' _ _ hC => .val (ex_adds rfl rfl rfl (by omega)) hC, fun b1 b2 g w' _ _ hC => .call ((K3.out w').mono fun e w'' h => ⟨h.1, hC.read h.2⟩), fun b1 b2 g w' _ f2 hC => .new w'.heap.size [6] rfl (ex_alloc_hl rfl) (hC.new (f2.no (by kernel_rfl))), fun b1 b2 g w' f1 _ hC => ?_, trivial⟩ ?_
  · obtain rfl := f1.yes (by kernel_rfl)
    exact .store rfl (ex_store_hl rfl rfl rfl hC.has (by cases b2 <;> first | rfl | exact hv_size hdl) hdl) (hC.put rfl)
  intro g v2 hC
  have hB2 := hB.trans (hC.1.mono hB.size)
  obtain ⟨z0, D', rfl⟩ : ∃ z D', D = z :: D' := by
    cases D with
    | nil => simp at hdl
    | cons z D' => exact ⟨z, D', rfl⟩
  have hg : Has v2 g (bytesV (z0 :: D')) 25 := (hC.2 rfl).2
  have c0 : v2.cell? ⟨g, 0, none⟩ = some (.int .u8 (z0.toNat : Int)) := hg.cell 0
  have hpb : (((z0.toNat % 2 : Nat) : Int) == 1) = pb := by
    rw [← HPB.out, Bool.eq_iff_iff]
    simp only [beq_iff_eq, decide_eq_true_eq, List.getD_cons_zero]
    omega
  have hlt0 := z0.toNat_lt
  generalize z0.toNat = m at *
  obtain ⟨m2, hm2⟩ : ∃ m2, m % 2 = m2 := ⟨_, rfl⟩
  have ht : (m : Int).tmod 2 = (m2 : Int) := by rw [← hm2, Int.ofNat_tmod]; rfl
  rw [hm2] at hpb
  have HM := Lib.hid hm2
  clear hC hI KI K1 K2 K3 hm2 hB
  simp only [finT, List.set_cons_zero, List.set_cons_succ, List.tail_cons, List.headD_cons]
  go_wp2_with fail
  go_ret
  exact ⟨rfl, hB2⟩
end Go.Proofs.YtomegahohiijcaaDoor.An
