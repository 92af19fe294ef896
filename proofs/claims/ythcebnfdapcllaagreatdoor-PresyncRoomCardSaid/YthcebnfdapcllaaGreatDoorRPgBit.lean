import Derived.Test.YthcebnfdapcllaaGreatDoorRBunQ16
import Derived.Test.YthcebnfdapcllaaGreatDoorRBunQ12
import Derived.Test.YthcebnfdapcllaaGreatDoorRBunQ22
import Derived.Test.YthcebnfdapcllaaGreatDoorRBunQ11
namespace Go.Proofs.YthcebnfdapcllaaGreatDoor.An
open Go.RowKit Mem Sc NN.Rg2 Sha
open Pg (Pl pbit gv Ws)
set_option maxRecDepth 100000
theorem pname1_at (b : Nat) (v : Value) (l x : List UInt8) (hx : x.length = 32) (w : World) (H : Nat) (hH : w.heap.size = H) (h : PenAt w b v l) (hsz : l.length ≤ 70368744177600) :
    Calls Tryz.prog 90 #[.pointer (some ⟨b, 0, none⟩), .slice (some ⟨H, 0, none⟩) 1 1] (w.alloc (.cells (bytesV x) 28)) fun r w' => PenPost w b v (l ++ x) r w' := by
  subst hH
  have hlt := h.lt
  have hb : Below w.heap.size w (w.alloc (.cells (bytesV x) 28)) := (Below.refl _ _).alloc (Nat.le_refl _) _
  have hN : Has (w.alloc (.cells (bytesV x) 28)) w.heap.size (bytesV x) 28 := Has.new _ _
  refine (pnames_at b v l _ [x] 1 1 rfl _ (h.below hb) (fun _ => ⟨w.heap.size, 0, rfl, by rw [World.size_alloc]; omega, fun i hi => ?_⟩) (fun _ p hp => ?_) (fun z hz => by simp at hz; rw [hz]; exact hx) (by omega)).mono ?_
  · obtain rfl : i = 0 := by simpa using hi
    refine ⟨hx, fun j u hu => ?_⟩
    rw [hN.cell]
    change (Lib.byteCells x)[j]? = some u at hu
    rw [show bytesV x = (Lib.byteCells x).toArray from Array.toList_inj.1 (by rw [bytesV_list]), List.getElem?_toArray, show 0 + 0 * 32 + j = j by omega]
    exact hu
  · obtain rfl := Option.some.inj hp
    exact ⟨by show w.heap.size ≠ b; omega, fun e => absurd (h.ownLt (k := w.heap.size) e).2 (by omega)⟩
  · rintro r w' ⟨v', rfl, hP, hS⟩
    have e : [x].flatten = x := by simp
    rw [e] at hP
    exact ⟨v', rfl, hP, hS.below hb⟩
theorem and1 (z : UInt8) : bits .and .u8 (z.toNat : Int) 1 = ((z.toNat % 2 : Nat) : Int) := by
  rw [show bits .and .u8 (z.toNat : Int) 1 = (z.toNat : Int) % 2 from bits_mask .u8 8 (by decide) wraps_u8 1 (by decide) (z.toNat : Int) (by omega) (by have := z.toNat_lt; omega)]
  omega
theorem index_first (d : UInt8) (l : List UInt8) (w : World) : (Instr.index 28 (.agg (bytesV (d :: l))) (.int .i64 0)).run Tryz.prog w = .ok (.int .u8 (d.toNat : Int)) w := by kernel_rfl
set_option maxHeartbeats 2000000 in
theorem bit_at (x : Pl) (id : List UInt8) (hid : id.length = 32) (w : World) (hT : Tab w) :
    Calls Tryz.prog 72 #[.agg (plA x), .agg (bytesV id)] w fun r w' => r = .returned (.bool (pbit x.s id)) ∧ Below w.heap.size w w' := by
  have hsz : (bytesV id).size = 32 := hv_size hid
  have HSZ := Lib.hid hsz
  clear hsz
  obtain ⟨px, hpx⟩ : ∃ px, x.s = px := ⟨_, rfl⟩
  rw [hpx]
  obtain ⟨pb, hpb⟩ : ∃ pb, pbit px id = pb := ⟨_, rfl⟩
  rw [hpb]
  have HPB := Lib.hid hpb
  clear hpb
  go_enter Tryz.func72, Tryz.ntmps72
  go_upto_region 1 with fail
  generalize hw0 : World.alloc _ _ = v0
  have hB : Below w.heap.size w v0 := by rw [← hw0]; exact ((Below.refl _ _).alloc (Nat.le_refl _) _).alloc (by rw [World.size_alloc]; omega) _
  have hP : PlAt v0 w.heap.size x := by rw [← hw0]; exact Has.alloc (Has.new _ _) _
  have hI : Has v0 (w.heap.size + 1) (bytesV id) 28 := by rw [← hw0]; exact Mem.Has.new1 _ _ _
  clear hw0
  obtain ⟨bP, hbP⟩ : ∃ b, b = w.heap.size := ⟨_, rfl⟩
  have hT0 := hT.below hB
  rw [← hbP] at hP hI hB ⊢
  have HBP := Lib.hid hbP
  clear hbP
  have c0 := hP.c0
  rw [hpx] at c0
  go_upto_region 2 with fail
  generalize hw1 : World.alloc _ _ = v1
  have hN : PenAt v1 v0.heap.size (.slice none 0 0) [] := by rw [← hw1]; exact pen_new v0
  have hb1 : Below v0.heap.size v0 v1 := by rw [← hw1]; exact (Below.refl _ _).alloc (Nat.le_refl _) _
  have C0 : v1.cell? ⟨bP, 0, none⟩ = some (.int .i64 px) := (hb1.cell (p := ⟨bP, 0, none⟩) (Has.lt hP)).trans c0
  clear hw1 c0
  have C1 := Lib.hid (put1_at _ _ _ 8 8 rfl px v1 v1.heap.size rfl hN (by simp))
  go_wp2_with fail
  refine (C1.out).mono ?_
  rintro r v2 ⟨v, rfl, hN2, hS2⟩
  have hlt := Has.lt hI
  have hI2 : Has v2 (bP + 1) (bytesV id) 28 := hS2.has (below_has hb1 hI hlt) (by omega) (by simp [Value.ownBlock])
  have hB2 : Below bP v0 v2 := (hb1.mono (by omega)).trans ((hS2.toBelow hN).mono (by omega))
  have hl8 : ([] ++ num 8 px).length = 8 := num_length _ _
  have C2 := Lib.hid (pname1_at _ _ _ id hid v2 v2.heap.size rfl hN2 (by omega))
  replace hB := hB.trans (hB2.mono (by omega))
  clear C1 hI hP hB2
  go_wp2_with (first
    | (with_reducible refine hl_load rfl _ rfl _ rfl _ hI2 HSZ.out ?_)
    | (with_reducible refine build_hl rfl _ rfl _ rfl HSZ.out ?_))
  refine (C2.out).mono ?_
  rintro r v3 ⟨v', rfl, hN3, hS3⟩
  have hT3 : Tab v3 := hT0.below (Below.trans (B := v0.heap.size) hb1 ((hS2.toBelow hN).trans ((hS3.toBelow hN2).mono (Nat.le_refl _))))
  replace hB := hB.trans ((hS3.toBelow hN2).mono (by omega))
  obtain ⟨T, hTx⟩ : ∃ T, T = [] ++ num 8 px ++ id := ⟨_, rfl⟩
  rw [← hTx] at hN3
  have C3 := Lib.hid (text_at _ _ _ v3 hN3)
  have hTl : T.length = 40 := by rw [hTx, List.length_append, hl8, hid]
  clear C2 hI2 hN2 hS2 hS3
  go_wp2_with fail
  refine (C3.out).mono ?_
  rintro r v4 ⟨rfl, rfl⟩
  have hbs : Below v3.heap.size v3 (v3.alloc (.cells #[.string ⟨T.toArray⟩] 9)) := (Below.refl _ _).alloc (Nat.le_refl _) _
  have hfl : flat [(⟨T.toArray⟩ : ByteArray)] = T := by rw [flat_one]
  have KD := Lib.hid (double (some ⟨v3.heap.size, 0, none⟩) [⟨T.toArray⟩] 1 1 rfl _ (hT3.below hbs) (by rw [hfl]; omega) (by omega) (PartsW.one (by simp)))
  rw [hfl] at KD
  have HTX : Hid (T = num 8 px ++ id) := Lib.hid (by rw [hTx, List.nil_append])
  clear C3 hfl hTx
  go_wp2_with fail
  refine (KD.out).mono ?_
  rintro r v5 ⟨rfl, hb5⟩
  replace hB := (hB.trans (hbs.mono (by have := hB.size; have := HBP.out; omega))).trans (hb5.mono (by have := hB.size; have := HBP.out; rw [World.size_alloc]; omega))
  have hdl : (sha (sha T)).length = 32 := nameOf_length _
  obtain ⟨D, hD⟩ : ∃ D, D = sha (sha T) := ⟨_, rfl⟩
  rw [← hD] at hdl ⊢
  obtain ⟨z, D', rfl⟩ : ∃ z D', D = z :: D' := by
    cases D with
    | nil => simp at hdl
    | cons z D' => exact ⟨z, D', rfl⟩
  have hix := index_first z D'
  have ha := and1 z
  have hpb : (((z.toNat % 2 : Nat) : Int) == 1) = pb := by
    rw [← HPB.out]
    unfold pbit
    rw [← HTX.out, ← hD, Bool.eq_iff_iff]
    simp only [beq_iff_eq, decide_eq_true_eq, List.getD_cons_zero]
    omega
  obtain ⟨m, hm⟩ : ∃ m, z.toNat % 2 = m := ⟨_, rfl⟩
  rw [hm] at ha hpb
  have HM := Lib.hid hm
  clear hm hD KD hbs
  go_wp2_with fail
  go_ret
  exact ⟨rfl, HBP.out ▸ hB⟩
end Go.Proofs.YthcebnfdapcllaaGreatDoor.An
