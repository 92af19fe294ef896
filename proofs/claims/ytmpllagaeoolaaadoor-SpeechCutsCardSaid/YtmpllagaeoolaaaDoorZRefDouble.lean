/-
  The reference's Double (layer 1).
-/
import Derived.Test.YtmpllagaeoolaaaDoorZRefOf
namespace Go.Proofs.YtmpllagaeoolaaaDoor
open Go.RowKit Mem Sha
structure Rd (w wr : World) (D : Nat) (l : List UInt8) : Prop where
  below : Below w.heap.size w wr
  res : Has wr w.heap.size hz32 24
  h : Has wr D (bytesV l) 24
theorem Rd.on {w wr w' : World} {D : Nat} {l : List UInt8} (h : Rd w wr D l) (hb : Below wr.heap.size wr w') : Rd w w' D l := ⟨h.below.trans (hb.mono h.below.size), below_has hb h.res h.res.lt, below_has hb h.h h.h.lt⟩
theorem take_next {l : List UInt8} {i : Nat} (h : i < l.length) : l.take (i + 1) = l.take i ++ [l[i]] := List.take_succ_eq_append_getElem h
set_option maxRecDepth 100000 in
set_option maxHeartbeats 1000000 in
theorem ref_double (s : ByteArray) (hs : s.size ≤ 1048576) (w : World) :
    Calls Tryd.prog 38 #[.string s] w fun e w' => e = .returned (.agg (bytesV (sha (sha s.data.toList)))) ∧ Below w.heap.size w w' := by
  have cO := ref_of s hs
  have hl : (sha s.data.toList).length = 32 := nameOf_length _
  generalize sha s.data.toList = l at *
  have HL := Lib.hid hl
  have KO := Lib.hid cO
  have HO := Lib.hid (bytesV_one l)
  have hsz : some (bytesV l).size = some 32 := by rw [bytesV_size, hl]
  have HSZ := Lib.hid hsz
  clear hsz hl cO hs
  go_enter Tryd.func38, Tryd.ntmps38
  go_upto_region 1 with fail
  generalize hw1 : World.alloc _ _ = w1
  have hR : Has w1 w.heap.size hz32 24 := by rw [← hw1]; exact Has.new _ _
  have hB : Below w.heap.size w w1 := by rw [← hw1]; exact (Below.refl _ _).alloc (Nat.le_refl _) _
  clear hw1
  go_wp2_with fail
  refine (KO.out _).mono ?_
  rintro e w2 ⟨rfl, hb2⟩
  have hR2 := below_has hb2 hR hR.lt
  have hB2 := hB.trans (hb2.mono hB.size)
  clear hR hB hb2
  go_upto_region 2 with (with_reducible refine wpList_store_row rfl 24 _ _ rfl _ (bytesV l) rfl rfl 24 _ (heap_alloc_new w2 _) (infoHash.trans HSZ.out.symm) (by simp [Option.some.inj HSZ.out]) HO.out ?_)
  generalize hw3 : World.setRow _ _ _ = w3
  have h3 : Rd w w3 w2.heap.size l := by
    rw [← hw3]
    exact ⟨below_setRow (hB2.alloc hB2.size _) hB2.size _, (hR2.alloc _).otherRow _ _ (by have := hR2.lt; omega), (Has.new _ _).row _⟩
  clear hw3 hR2 hB2
  generalize w2.heap.size = D at *
  go_wp2_with fail
  go_loopw [4, 5] (fun v4 v5 wr => ∃ (i : Nat) (p : ByteArray), i ≤ 32 ∧ v5 = .int .i64 i ∧ v4 = .string p ∧ p.size = i ∧ Hid (p.data.toList = l.take i) ∧ Rd w wr D l) (fun _ v5 _ => 32 - (intOf v5).toNat)
  case atStart => exact ⟨0, ⟨#[]⟩, by omega, rfl, rfl, rfl, rfl, h3⟩
  case round =>
    clear h3
    obtain ⟨i, p, hi, rfl, rfl, hps, HP, hr⟩ := hrel
    have HPS := Lib.hid hps
    have hple : p.size ≤ 32 := by omega
    clear hps
    by_cases hlt : i < 32
    · have hil : i < l.length := by rw [HL.out]; exact hlt
      have c1 := hr.h.byte i hil
      have hiI : (i : Int) < 32 := by omega
      have hn := take_next hil
      generalize l[i] = x at *
      have HN := Lib.hid hn
      obtain ⟨bt, hbt⟩ : ∃ bt : ByteArray, bt = ⟨#[x]⟩ := ⟨_, rfl⟩
      have hcv : (Go.convert 51 9 (.slice (some ⟨wr.heap.size, 0, none⟩) 1 1)).run Tryd.prog (wr.alloc (.cells #[.int .u8 (x.toNat : Int)] 5)) = .ok (.string bt) (wr.alloc (.cells #[.int .u8 (x.toNat : Int)] 5)) := by
        rw [hbt]
        exact conv_bytes _ wr.heap.size [x] 1 (Has.new (bytesV [x]) _)
      have hbs : bt.size = 1 := by rw [hbt]; rfl
      have hbs2 : bt.size ≤ 1 := by omega
      have HBT := Lib.hid hbt
      have HBS := Lib.hid hbs
      clear hbt hbs hn hil
      go_wp2_with fail
      clear hcv
      refine ⟨⟨i + 1, p ++ bt, by omega, by go_num, rfl, ?_, ?_, hr.on ((Below.refl _ _).alloc (Nat.le_refl _) _)⟩, by simp [intOf]; omega⟩
      · rw [ByteArray.size_append, HBS.out, HPS.out]
      · show _ = _
        rw [append_bytes2, HBT.out, HP.out, HN.out]
    · obtain rfl : i = 32 := by omega
      have e : p.data.toList = l := by rw [HP.out, List.take_of_length_le (by rw [HL.out]; omega)]
      have cO2 := ref_of p (by omega)
      rw [e] at cO2
      have KO2 := Lib.hid cO2
      have hl2 : (sha l).length = 32 := nameOf_length _
      have HO2 := Lib.hid (bytesV_one (sha l))
      have hsz2 : some (bytesV (sha l)).size = some 32 := by rw [bytesV_size, hl2]
      have HS2 := Lib.hid hsz2
      clear hsz2 hl2 e cO2 HP HO HSZ HL
      generalize hcs3 : bytesV (sha l) = rs at *
      go_wp2_with fail
      refine (KO2.out _).mono ?_
      rintro e w5 ⟨rfl, hb5⟩
      have hr2 := hr.on hb5
      have hres := hr2.res
      go_wp2_with (with_reducible refine wpList_store_row rfl 24 _ _ rfl _ rs rfl rfl 24 _ hres.out (infoHash.trans HS2.out.symm) (hz32_size.trans (Option.some.inj HS2.out).symm) HO2.out ?_)
      exact bodyPost_ret (v := .agg rs) (results_cell_row Tryd.results38 _ _ w.heap.size 24 rs (0, 0) _ rfl (hres.row rs).out Tryd.underlying24 rfl (infoHash.trans HS2.out.symm)) rfl ⟨by rw [hcs3], below_setRow hr2.below (by omega) _⟩
end Go.Proofs.YtmpllagaeoolaaaDoor
