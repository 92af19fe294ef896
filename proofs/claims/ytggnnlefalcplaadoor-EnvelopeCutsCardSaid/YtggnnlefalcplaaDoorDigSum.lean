import Derived.Test.YtggnnlefalcplaaDoorRows
import Derived.Test.YtggnnlefalcplaaDoorDigWrite
namespace Go.Proofs.YtggnnlefalcplaaDoor
open Go.RowKit Mem Sha

theorem infoHasher : (Tryd.prog.info? 113).map (·.size) = some 73 := by kernel_rfl
theorem hcells_one (f l t) : (hcells f l t).all (·.oneCell') = true := by
  rw [Array.all_eq_true_iff_forall_mem]
  intro v hv
  simp only [hcells, Array.mem_append] at hv
  rcases hv with (hv | hv) | hv
  · exact Array.all_eq_true_iff_forall_mem.1 (words_one f 8) v hv
  · exact Array.all_eq_true_iff_forall_mem.1 (bytesV_one l) v hv
  · simp at hv; subst hv; rfl
theorem HsI.below {w w' : World} {b B : Nat} {m : List UInt8} (h : HsI w b m) (hb : Below B w w') (hB : b < B) : HsI w' b m := by
  obtain ⟨f, l, h1, h2⟩ := h
  exact ⟨f, l, below_has hb h1 hB, h2⟩
theorem zhash_size : zhash.size = 73 := by unfold zhash; rw [hcells_size]; rfl
theorem ending_length (n : Nat) : (Sha.ending n).length ≤ 80 := by simp [Sha.ending, lenBytes]; omega

set_option maxRecDepth 100000 in
set_option maxHeartbeats 1000000 in
theorem sum (b : Nat) (m : List UInt8) (w : World) (hT : Tab w) (hm : m.length ≤ 1152921504606846976) (hH : HsI w b m) :
    Calls Tryd.prog 64 #[.pointer (some ⟨b, 0, none⟩)] w fun e w' => e = .returned (.agg (bytesV (sha m))) ∧ Below w.heap.size w w' := by
  have hblt := hH.lt
  obtain ⟨f, l, hHb, hl, hS, hR⟩ := hH
  have HL := Lib.hid hl
  have HSR := Lib.hid (And.intro hS hR)
  clear hl hS hR
  have hzv := zeroHash
  have hHa : ∀ o, Has (w.alloc o) b (hcells f l m.length) 113 := fun o => hHb.alloc o
  have hsz : some (hcells f l m.length).size = some 73 := by rw [hcells_size, HL.out]
  have HSZ := Lib.hid hsz
  have HO := Lib.hid (hcells_one f l m.length)
  clear hsz
  go_enter Tryd.func64, Tryd.ntmps64
  go_upto_region 4 with (first
    | (with_reducible refine wpList_load_row rfl 113 _ rfl b rfl 113 (hcells f l m.length) (0, 0) _ (hHa _).out Tryd.underlying113 rfl (infoHasher.trans HSZ.out.symm) ?_)
    | (with_reducible refine wpList_store_row rfl 113 _ _ rfl _ (hcells f l m.length) rfl rfl 113 _ (heap_alloc2_new w _ _) (infoHasher.trans HSZ.out.symm) (zhash_size.trans (Option.some.inj (HSZ.out.symm))) HO.out ?_))
  generalize hw1 : World.setRow _ _ _ = w1
  have hB1 : Below w.heap.size w w1 := by rw [← hw1]; exact below_setRow (((Below.refl _ _).alloc (Nat.le_refl _) _).alloc (by simp) _) (by simp) _
  have hE1 : Has w1 (w.heap.size + 1) (hcells f l m.length) 113 := by
    rw [← hw1]
    exact Has.row (cs := zhash) (heap_alloc2_new w _ _) _
  have hR1 : ∃ cs, cs.size = 32 ∧ Has w1 w.heap.size cs 57 := by
    refine ⟨hz32, rfl, ?_⟩
    rw [← hw1]
    exact Has.otherRow (heap_alloc2_old w _ _) _ _ (by omega)
  clear hw1 hzv hHa
  have hI1 : HsI w1 (w.heap.size + 1) m := ⟨f, l, hE1, HL.out, HSR.out.1, HSR.out.2⟩
  have hH1 := below_has hB1 hHb hblt
  have c72 := (hH1.cell 72).trans (hcells_taken f l _ HL.out)
  have hT1 := hT.below hB1
  clear hE1
  have hne1 : w.heap.size + 1 ≠ 4 := by have := hT.lt; omega
  have hne2 : w.heap.size + 1 ≠ 1 := by have := hT.lt; omega
  have hel := ending_length m.length
  have HSum : ∀ f3, S8.of f3 = pressAll ((m ++ (⟨(Sha.ending m.length).toArray⟩ : ByteArray).data.toList).length / 64) Sha.start (m ++ (⟨(Sha.ending m.length).toArray⟩ : ByteArray).data.toList) → nameOf (S8.of f3) = sha m := fun f3 h => by
    rw [h]; rfl
  have HSum := Lib.hid HSum
  obtain ⟨es, hes⟩ : ∃ es : ByteArray, es = ⟨(Sha.ending m.length).toArray⟩ := ⟨_, rfl⟩
  have hess : es.size ≤ 80 := by rw [hes]; show (Sha.ending m.length).toArray.size ≤ 80; simpa using hel
  rw [← hes] at HSum
  have HES := Lib.hid hes
  clear hes hel
  go_wp2_with (go_at_call 69; (with_reducible refine (ending m.length hm _).mono ?_); rintro e w2 ⟨rfl, hb2⟩)
  rw [← HES.out]
  have hT2 := hT1.below hb2
  have hI2 := hI1.below hb2 hI1.lt
  have hR2 : ∃ cs, cs.size = 32 ∧ Has w2 w.heap.size cs 57 := by obtain ⟨cs, h1, h2⟩ := hR1; exact ⟨cs, h1, below_has hb2 h2 h2.lt⟩
  have hB2 := hB1.trans (hb2.mono hB1.size)
  clear hR1 hI1 hT1 hb2 hB1 hH1 c72
  go_wp2_with (go_at_call 68; (with_reducible refine (take (w.heap.size + 1) m es _ hT2 hne1 hne2 (by omega) hI2).mono ?_); rintro e w3 ⟨rfl, hg3, hI3⟩)
  obtain ⟨f3, l3, hH3, hl3, hS3, hR3⟩ := hI3
  have HN3 := Lib.hid (HSum.out f3 hS3)
  have hB3 := hB2.trans (gb_toBelow hg3 (by omega) hB2.size)
  obtain ⟨cs, hcs, hcs2⟩ := hR2
  have hres3 := gb_has hg3 hcs2 (by intro e; have := Option.some.inj e; omega)
  have HCS := Lib.hid hcs
  clear hl3 hS3 hR3 HSum hcs hcs2 hI2 hT2 hg3
  refine (name (w.heap.size + 1) f3 l3 _ _ hH3).mono ?_
  rintro e w4 ⟨rfl, hb4⟩
  rw [HN3.out]
  have hres4 := below_has hb4 hres3 hres3.lt
  have hB4 := hB3.trans (hb4.mono hB3.size)
  have HO2 := Lib.hid (bytesV_one (sha m))
  have hsz2 : some (bytesV (sha m)).size = some 32 := by rw [bytesV_size]; exact congrArg some (nameOf_length _)
  have HS2 := Lib.hid hsz2
  clear hsz2 hres3 hb4 hB3 hB2 hH3
  generalize hcs3 : bytesV (sha m) = rs at *
  go_wp2_with (with_reducible refine wpList_store_row rfl 57 _ _ rfl _ rs rfl rfl 57 _ hres4.out (infoHash.trans HS2.out.symm) (HCS.out.trans (Option.some.inj HS2.out).symm) HO2.out ?_)
  exact bodyPost_ret (v := .agg rs) (results_cell_row Tryd.results64 _ _ w.heap.size 57 rs (0, 0) _ rfl (hres4.row rs).out Tryd.underlying57 rfl (infoHash.trans HS2.out.symm)) rfl ⟨by rw [hcs3], below_setRow hB4 (by omega) _⟩
theorem infoHash32 : (Tryd.prog.info? 57).map (·.size) = some hz32.size := infoHash
theorem hz32_one : hz32.all (·.oneCell') = true := by kernel_rfl
theorem sum_nil (w : World) : Calls Tryd.prog 64 #[.pointer none] w fun e w' => e = .returned (.agg (bytesV (List.replicate 32 0))) ∧ Below w.heap.size w w' := by
  go_enter Tryd.func64, Tryd.ntmps64
  go_upto_region 1 with fail
  generalize hw1 : World.alloc _ _ = w1
  have hres : Has w1 w.heap.size hz32 57 := by rw [← hw1]; exact Has.new _ _
  have hbel : Below w.heap.size w w1 := by rw [← hw1]; exact (Below.refl _ _).alloc (Nat.le_refl _) _
  clear hw1
  go_upto_region 2 with fail
  go_wp2_with (refine wpList_store_row rfl 57 (.tmp 2) (.tmp 6) rfl w.heap.size hz32 rfl rfl 57 hz32 hres.out infoHash32 rfl hz32_one ?_)
  exact bodyPost_ret (v := .agg hz32) (results_cell_row Tryd.results64 _ _ w.heap.size 57 hz32 (0, 0) _ rfl (hres.row hz32).out Tryd.underlying57 rfl infoHash32) rfl ⟨rfl, below_setRow hbel (Nat.le_refl _) _⟩
end Go.Proofs.YtggnnlefalcplaaDoor
