import Derived.Test.YtggnnlefalcplaaDoorRows
import Derived.Test.YtggnnlefalcplaaDoorDigSum
namespace Go.Proofs.YtggnnlefalcplaaDoor
open Go.RowKit Mem Sha

/-- the parts lie where a slice says -/
def PartsW (w : World) (a : Option Addr) (ps : List ByteArray) : Prop :=
  0 < ps.length → ∃ ab ao, a = some ⟨ab, ao, none⟩ ∧ ∀ i (hi : i < ps.length), w.cell? ⟨ab, ao + i, none⟩ = some (.string ps[i])
theorem PartsW.parts {w w1 : World} {a : Option Addr} {ps : List ByteArray} (h : PartsW w a ps) (hb : Below w.heap.size w w1) (b : Nat) (hB : w.heap.size ≤ b) : Parts w1 a b ps := fun h0 => by
  obtain ⟨ab, ao, ha, hc⟩ := h h0
  have hlt : ab < w.heap.size := block_lt_of_cell (hc 0 h0)
  exact ⟨ab, ao, ha, by omega, fun i hi => (hb.cell (p := ⟨ab, ao + i, none⟩) hlt).trans (hc i hi)⟩

theorem PartsW.below {w w1 : World} {a : Option Addr} {ps : List ByteArray} (h : PartsW w a ps) (hb : Below w.heap.size w w1) : PartsW w1 a ps := fun h0 => by
  obtain ⟨ab, ao, ha, hc⟩ := h h0
  have hlt : ab < w.heap.size := block_lt_of_cell (hc 0 h0)
  exact ⟨ab, ao, ha, fun i hi => (hb.cell (p := ⟨ab, ao + i, none⟩) hlt).trans (hc i hi)⟩
theorem PartsW.one {w : World} {b : Nat} {s : ByteArray} (h : w.cell? ⟨b, 0, none⟩ = some (.string s)) : PartsW w (some ⟨b, 0, none⟩) [s] := fun _ =>
  ⟨b, 0, rfl, fun i hi => by
    obtain rfl : i = 0 := by simpa using hi
    exact h⟩
theorem flat_one (s : ByteArray) : flat [s] = s.data.toList := by simp [flat]
set_option maxRecDepth 100000 in
set_option maxHeartbeats 1000000 in
theorem of (a : Option Addr) (ps : List ByteArray) (n c : Nat) (hn : n = ps.length) (w : World) (hT : Tab w)
    (hm : (flat ps).length ≤ 1152921504606846976) (hl : n ≤ 4611686018427387904) (hP : PartsW w a ps) :
    Calls Tryd.prog 53 #[.slice a n c] w fun e w' => e = .returned (.agg (bytesV (sha (flat ps)))) ∧ Below w.heap.size w w' := by
  have HN := Lib.hid hn
  have HP := Lib.hid hP
  clear hn hP
  go_enter Tryd.func53, Tryd.ntmps53
  go_upto_region 1 with fail
  generalize hw1 : World.alloc _ _ = w1
  have hres : Has w1 w.heap.size hz32 57 := by rw [← hw1]; exact Has.new _ _
  have hbel : Below w.heap.size w w1 := by rw [← hw1]; exact (Below.refl _ _).alloc (Nat.le_refl _) _
  have hT1 := hT.below hbel
  have h01 := hres.lt
  clear hw1
  go_wp2_with fail
  refine (new w1 hT1).mono ?_
  rintro e w2 ⟨rfl, hb2, hI2⟩
  have hT2 := hT1.below hb2
  have hB2 := hbel.trans (hb2.mono hbel.size)
  have hres2 := below_has hb2 hres h01
  have hP2 := HP.out.parts hB2 w1.heap.size hbel.size
  have hne1 : w1.heap.size ≠ 4 := by have := hT1.lt; omega
  have hne2 : w1.heap.size ≠ 1 := by have := hT1.lt; omega
  have HP2 := Lib.hid hP2
  clear hP2 hT1 hb2
  go_wp2_with fail
  refine (write w1.heap.size [] a ps n c HN.out _ hT2 hne1 hne2 (by simp; omega) hl HP2.out hI2).mono ?_
  rintro e w3 ⟨rfl, hg3, hI3⟩
  have hT3 := hT2.grown hg3 (by intro e; exact hne1 (Option.some.inj e).symm) (by intro e; exact hne2 (Option.some.inj e).symm)
  have hB3 := hB2.trans (gb_toBelow hg3 hbel.size hB2.size)
  have hres3 := gb_has hg3 hres2 (by intro e; have := Option.some.inj e; omega)
  rw [List.nil_append] at hI3
  clear hT2 hg3 hI2 hres2
  go_wp2_with fail
  refine (sum w1.heap.size (flat ps) _ hT3 hm hI3).mono ?_
  rintro e w4 ⟨rfl, hb4⟩
  have hres4 := below_has hb4 hres3 hres3.lt
  have hB4 := hB3.trans (hb4.mono hB3.size)
  have HO2 := Lib.hid (bytesV_one (sha (flat ps)))
  have hsz2 : some (bytesV (sha (flat ps))).size = some 32 := by rw [bytesV_size]; exact congrArg some (nameOf_length _)
  have HS2 := Lib.hid hsz2
  clear hsz2 hres3 hb4 hB3 hB2 hI3 hT3 hres
  generalize hcs3 : bytesV (sha (flat ps)) = rs at *
  go_wp2_with (with_reducible refine wpList_store_row rfl 57 _ _ rfl _ rs rfl rfl 57 _ hres4.out (infoHash.trans HS2.out.symm) (hz32_size.trans (Option.some.inj HS2.out).symm) HO2.out ?_)
  exact bodyPost_ret (v := .agg rs) (results_cell_row Tryd.results53 _ _ w.heap.size 57 rs (0, 0) _ rfl (hres4.row rs).out Tryd.underlying57 rfl (infoHash.trans HS2.out.symm)) rfl ⟨by rw [hcs3], below_setRow hB4 (by omega) _⟩

/-- a hash as bytes, told by a slice over an array -/
theorem conv_hash (wx : World) (b : Nat) (l : List UInt8) (hl : l.length = 32) (h : Has wx b (bytesV l) 57) :
    (Go.convert 43 9 (.slice (some ⟨b, 0, none⟩) 32 32)).run Tryd.prog wx = .ok (.string ⟨l.toArray⟩) wx := by
  have := run_convert_bytes_arg (P := Tryd.prog) wx 43 5 Tryd.underlying43 Tryd.underlying5 b 0 32 32 (l.map fun b => (b.toNat : Int)) (by simp [hl]) (fun i hi => by
    rw [Nat.zero_add, h.byte i (by omega)]; simp [show i < l.length by omega]) 9 Tryd.underlying9
  rw [this]
  simp [strOfNums, Function.comp_def]
set_option maxRecDepth 100000 in
set_option maxHeartbeats 1000000 in
theorem double (a : Option Addr) (ps : List ByteArray) (n c : Nat) (hn : n = ps.length) (w : World) (hT : Tab w)
    (hm : (flat ps).length ≤ 1152921504606846976) (hl : n ≤ 4611686018427387904) (hP : PartsW w a ps) :
    Calls Tryd.prog 39 #[.slice a n c] w fun e w' => e = .returned (.agg (bytesV (sha (sha (flat ps))))) ∧ Below w.heap.size w w' := by
  have HN := Lib.hid hn
  have HP := Lib.hid hP
  clear hn hP
  go_enter Tryd.func39, Tryd.ntmps39
  go_upto_region 1 with fail
  generalize hw1 : World.alloc _ _ = w1
  have hres : Has w1 w.heap.size hz32 57 := by rw [← hw1]; exact Has.new _ _
  have hbel : Below w.heap.size w w1 := by rw [← hw1]; exact (Below.refl _ _).alloc (Nat.le_refl _) _
  have hT1 := hT.below hbel
  have hP1 : PartsW w1 a ps := HP.out.below hbel
  have HP1 := Lib.hid hP1
  clear hw1 hP1
  go_wp2_with fail
  refine (of a ps n c HN.out w1 hT1 hm hl HP1.out).mono ?_
  rintro e w2 ⟨rfl, hb2⟩
  have hT2 := hT1.below hb2
  have hB2 := hbel.trans (hb2.mono hbel.size)
  have hres2 := below_has hb2 hres hres.lt
  have HO := Lib.hid (bytesV_one (sha (flat ps)))
  have hsz : some (bytesV (sha (flat ps))).size = some 32 := by rw [bytesV_size]; exact congrArg some (nameOf_length _)
  have HSZ := Lib.hid hsz
  clear hsz hres hbel hT1 hb2
  go_upto_region 2 with (with_reducible refine wpList_store_row rfl 57 _ _ rfl _ (bytesV (sha (flat ps))) rfl rfl 57 _ (heap_alloc_new w2 _) (infoHash.trans HSZ.out.symm) (by simp [Option.some.inj HSZ.out]) HO.out ?_)
  generalize hw3 : World.setRow _ _ _ = w3
  have hin : Has w3 w2.heap.size (bytesV (sha (flat ps))) 57 := by rw [← hw3]; exact (Has.new _ _).row _
  have hB3 : Below w.heap.size w w3 := by rw [← hw3]; exact below_setRow (hB2.alloc hB2.size _) hB2.size _
  have hb23 : Below w2.heap.size w2 w3 := by rw [← hw3]; exact below_setRow ((Below.refl _ _).alloc (Nat.le_refl _) _) (Nat.le_refl _) _
  have hT3 := hT2.below hb23
  have hres3 := below_has hb23 hres2 hres2.lt
  obtain ⟨hs, hhs⟩ : ∃ hs : ByteArray, hs = ⟨(sha (flat ps)).toArray⟩ := ⟨_, rfl⟩
  have hcv := conv_hash w3 w2.heap.size (sha (flat ps)) (nameOf_length _) hin
  rw [← hhs] at hcv
  have HHS : Hid (hs.data.toList = sha (flat ps)) := by show _ = _; rw [hhs]
  have hhsz : (sha (flat ps)).length = 32 := nameOf_length _
  have HHZ := Lib.hid hhsz
  clear hw3 hb23 hT2 hres2 hB2 hhs hin hhsz
  go_wp2_with fail
  have hb4 : Below w3.heap.size w3 (w3.alloc (.cells #[.string hs] 9)) := (Below.refl _ _).alloc (Nat.le_refl _) _
  refine (of (some ⟨w3.heap.size, 0, none⟩) [hs] 1 1 rfl _ (hT3.below hb4) (by rw [flat_one, HHS.out, HHZ.out]; omega) (by omega) (PartsW.one (by simp))).mono ?_
  rintro e w5 ⟨rfl, hb5⟩
  rw [flat_one, HHS.out]
  have hres4 := below_has hb5 (below_has hb4 hres3 hres3.lt) (Has.lt (below_has hb4 hres3 hres3.lt))
  have hB5 := (hB3.trans (hb4.mono hB3.size)).trans (hb5.mono (Nat.le_trans hB3.size hb4.size))
  have HO2 := Lib.hid (bytesV_one (sha (sha (flat ps))))
  have hsz2 : some (bytesV (sha (sha (flat ps)))).size = some 32 := by rw [bytesV_size]; exact congrArg some (nameOf_length _)
  have HS2 := Lib.hid hsz2
  clear hsz2 hres3 hb4 hb5 hB3 hT3 hcv
  generalize hcs3 : bytesV (sha (sha (flat ps))) = rs at *
  go_wp2_with (with_reducible refine wpList_store_row rfl 57 _ _ rfl _ rs rfl rfl 57 _ hres4.out (infoHash.trans HS2.out.symm) (hz32_size.trans (Option.some.inj HS2.out).symm) HO2.out ?_)
  exact bodyPost_ret (v := .agg rs) (results_cell_row Tryd.results39 _ _ w.heap.size 57 rs (0, 0) _ rfl (hres4.row rs).out Tryd.underlying57 rfl (infoHash.trans HS2.out.symm)) rfl ⟨by rw [hcs3], below_setRow hB5 (by omega) _⟩
end Go.Proofs.YtggnnlefalcplaaDoor
