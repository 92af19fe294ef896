/-
  Texts of this seat, one behind the other.
-/
import Derived.Test.YtomegahohiijcaaDoorRows
import Derived.Test.YtomegahohiijcaaDoorZDigTake
import Derived.Test.YtomegahohiijcaaDoorZShelf
import Derived.Deep.RegionHeld3
import Derived.Test.YtomegahohiijcaaDoorBunQ17
namespace Go.Proofs.YtomegahohiijcaaDoor
open Go.RowKit Mem Sha

theorem bytesV_set (l : List UInt8) (i : Nat) (b : UInt8) : (bytesV l).setIfInBounds i (.int .u8 (b.toNat : Int)) = bytesV (l.set i b) := by
  apply Array.ext_getElem?
  intro j
  simp only [bytesV, Array.getElem?_setIfInBounds, List.getElem?_toArray, List.getElem?_map, List.getElem?_set, List.size_toArray, List.length_map]
  by_cases h : i = j
  · subst h; by_cases h2 : i < l.length <;> simp [h2]
  · simp [h]
theorem lenByte (n i : Nat) (X : Int) (hX : X = ((n : Int) * 8) / 2 ^ (8 * (7 - i))) : X % 256 = ((UInt8.ofNat (n * 8 / 2 ^ (8 * (7 - i)) % 256)).toNat : Int) := by
  have e : X = ((n * 8 / 2 ^ (8 * (7 - i)) : Nat) : Int) := by rw [hX]; simp
  rw [e, UInt8.toNat_ofNat']
  omega
def lenTo (n k : Nat) : List UInt8 := (lenBytes n).take k ++ List.replicate (8 - k) 0
theorem lenBytes_length (n : Nat) : (lenBytes n).length = 8 := by simp [lenBytes]
theorem lenTo_length (n k : Nat) (hk : k ≤ 8) : (lenTo n k).length = 8 := by simp [lenTo, lenBytes_length]; omega
theorem lenTo_next (n k : Nat) (hk : k < 8) : (lenTo n k).set k (UInt8.ofNat (n * 8 / 2 ^ (8 * (7 - k)) % 256)) = lenTo n (k + 1) := by
  have hl : ((lenBytes n).take k).length = k := by simp [lenBytes_length]; omega
  have hg : (lenBytes n)[k]'(by rw [lenBytes_length]; exact hk) = UInt8.ofNat (n * 8 / 2 ^ (8 * (7 - k)) % 256) := by simp [lenBytes]
  unfold lenTo
  rw [List.set_append_right _ _ (by omega), hl, Nat.sub_self, show 8 - k = (8 - (k + 1)) + 1 by omega, List.replicate_succ, List.set_cons_zero,
    List.take_succ_eq_append_getElem (by rw [lenBytes_length]; exact hk), hg, List.append_assoc]
  rfl

def zs (z : Nat) : ByteArray := ⟨(List.replicate z 0).toArray⟩
def lb (n : Nat) : ByteArray := ⟨(lenBytes n).toArray⟩
theorem zs_size (z : Nat) : (zs z).size = z := by show (List.replicate z (0 : UInt8)).toArray.size = z; simp
theorem lb_size (n : Nat) : (lb n).size = 8 := by show (lenBytes n).toArray.size = 8; simp [lenBytes_length]
theorem end_eq (n z : Nat) (hz : z = (119 - n % 64) % 64) : (⟨#[128]⟩ ++ zs z ++ lb n : ByteArray) = ⟨(Sha.ending n).toArray⟩ := by
  apply ByteArray.ext
  rw [ByteArray.data_append, ByteArray.data_append]
  apply Array.toList_inj.1
  rw [Array.toList_append, Array.toList_append, zs, lb, Sha.ending, ← hz]
  rfl
theorem zeros (z : Nat) (hz : z < 64) (w : World) : Calls Tryd.prog 42 #[.string ⟨#[0]⟩, .int .i64 (z : Int)] w fun e w' => e = .returned (.string (zs z)) ∧ Below w.heap.size w w' := by
  have h := Tryd.strings_Repeat ⟨#[0]⟩ z w (by omega) (by show 1 * z ≤ _; omega)
  have e : Lib.repeatL [0] z = List.replicate z 0 := by
    have := Lib.repeatL_replicate 0 1 z
    rw [Nat.mul_one] at this
    exact this
  rw [show (⟨#[0]⟩ : ByteArray).data.toList = [0] from rfl, e] at h
  exact h
theorem conv_bytes (wx : World) (b : Nat) (l : List UInt8) (c : Nat) (h : Has wx b (bytesV l) 5) :
    (Go.convert 52 9 (.slice (some ⟨b, 0, none⟩) l.length c)).run Tryd.prog wx = .ok (.string ⟨l.toArray⟩) wx := by
  have := run_convert_bytes_arg (P := Tryd.prog) wx 52 5 Tryd.underlying52 Tryd.underlying5 b 0 l.length c (l.map fun b => (b.toNat : Int)) (by simp) (fun i hi => by
    rw [Nat.zero_add, h.byte i hi]; simp [hi]) 9 Tryd.underlying9
  rw [this]
  simp [strOfNums, Function.comp_def]

set_option maxRecDepth 100000 in
set_option maxHeartbeats 1000000 in
theorem ending (n : Nat) (hn : n ≤ 1152921504606846976) (w : World) :
    Calls Tryd.prog 39 #[.int .u64 n] w fun e w' => e = .returned (.string ⟨(Sha.ending n).toArray⟩) ∧ Below w.heap.size w w' := by
  have hmk : ∀ w, (Instr.makeSlice 52 (.int .i64 8) (.int .i64 8)).run Tryd.prog w = .ok (.slice (some ⟨w.heap.size, 0, none⟩) 8 8) (w.alloc (.cells (bytesV (List.replicate 8 0)) 5)) := fun _ => by kernel_rfl
  go_enter Tryd.func39, Tryd.ntmps39
  go_wp2_with fail
  obtain ⟨z, hz0⟩ : ∃ z : Nat, z = (119 - n % 64) % 64 := ⟨_, rfl⟩
  have hz : (119 - (n : Int) % 64) % 64 = (z : Int) := by omega
  rw [hz]
  have HZ0 := Lib.hid hz0
  have hz64 : z < 64 := by omega
  clear hz hz0
  go_loopw [11] (fun i wr => ∃ k : Nat, k ≤ 8 ∧ i = .int .i64 k ∧ Below w.heap.size w wr ∧ Has wr w.heap.size (bytesV (lenTo n k)) 5) (fun i _ => 8 - (intOf i).toNat)
  case atStart => exact ⟨0, by omega, rfl, (Below.refl _ _).alloc (Nat.le_refl _) _, Has.new _ _⟩
  case round =>
    obtain ⟨k, hk, rfl, hbel, hH⟩ := hrel
    by_cases hlt : k < 8
    · have ck := hH.byte k (by rw [lenTo_length n k hk]; exact hlt)
      have cf := hH.free k
      go_wp2_with fail
      rw [lenByte n k _ rfl]
      refine ⟨⟨k + 1, by omega, by go_num, hbel.setCell (Nat.le_refl _) _, ?_⟩, by simp [intOf]; omega⟩
      rw [← lenTo_next n k hlt, ← bytesV_set]
      exact hH.set _
    · obtain rfl : k = 8 := by omega
      go_wp2_with fail
      have hlt8 : lenTo n 8 = lenBytes n := by simp [lenTo, List.take_of_length_le, lenBytes_length]
      rw [hlt8] at hH
      have hconv : ∀ wx, Has wx w.heap.size (bytesV (lenBytes n)) 5 → (Go.convert 52 9 (.slice (some ⟨w.heap.size, 0, none⟩) 8 8)).run Tryd.prog wx = .ok (.string (lb n)) wx := fun wx h => by
        have := conv_bytes wx w.heap.size (lenBytes n) 8 h
        rwa [lenBytes_length] at this
      have hwr : IntKind.i64.wrap (z : Int) = (z : Int) := IntWalk.i64_in _ (by omega)
      clear hlt8
      have hs1 := zs_size z
      have hs2 := lb_size n
      have hs3 : (zs z).size ≤ 64 := by omega
      have hs4 : (lb n).size ≤ 8 := by omega
      clear hs1 hs2
      have hHd : Has wr.drew w.heap.size (bytesV (lenBytes n)) 5 := hH
      go_region_with ((go_at_call 42; (with_reducible refine (zeros z hz64 _).mono ?_); rintro e w1 ⟨rfl, hb1⟩; have h1 := below_has hb1 hH hH.lt))
      all_goals
        go_wp2_with fail
        go_ret
        refine ⟨?_, hbel.drew.trans (hb1.mono hbel.size)⟩
        rw [← end_eq n z HZ0.out]
        rfl
end Go.Proofs.YtomegahohiijcaaDoor
namespace Go.Proofs.YtomegahohiijcaaDoor
open Go.RowKit Mem Sha

theorem append_bytes (a : ByteArray) (b : UInt8) : (a ++ (⟨#[b]⟩ : ByteArray)).data.toList = a.data.toList ++ [b] := by
  rw [ByteArray.data_append]; simp
theorem append_bytes2 (a b : ByteArray) : (a ++ b).data.toList = a.data.toList ++ b.data.toList := by
  rw [ByteArray.data_append]; simp

set_option maxRecDepth 100000 in
set_option maxHeartbeats 1000000 in
theorem ref_padded (s : ByteArray) (hs : s.size ≤ 1048576) (w : World) :
    Calls Tryd.prog 35 #[.string s] w fun e w' => (∃ p : ByteArray, e = .returned (.string p) ∧ p.data.toList = s.data.toList ++ Sha.ending s.data.toList.length) ∧ Below w.heap.size w w' := by
  have hn : s.data.toList.length = s.size := (Lib.size_eq s).symm
  obtain ⟨z, hz⟩ : ∃ z, z = (119 - s.size % 64) % 64 := ⟨_, rfl⟩
  have hz64 : z < 64 := by omega
  have hz56 : (s.size + 1 + z) % 64 = 56 := by omega
  have HZ := Lib.hid hz
  have HZ56 := Lib.hid hz56
  have HN := Lib.hid hn
  clear hz hz56 hn
  go_enter Tryd.func35, Tryd.ntmps35
  go_wp2_with fail
  go_loop [0] (fun x => ∃ (j : Nat) (p : ByteArray), j ≤ z ∧ x = .string p ∧ p.size = s.size + 1 + j ∧ Hid (p.data.toList = s.data.toList ++ 0x80 :: List.replicate j 0)) (fun x => match x with | .string p => s.size + 1 + z - p.size | _ => 0)
  case atStart =>
    refine ⟨0, s ++ ⟨#[128]⟩, by omega, rfl, by simp; rfl, ?_⟩
    show _ = _
    rw [append_bytes]; simp
  case round =>
    obtain ⟨j, p, hj, rfl, hps, HP⟩ := hrel
    have HPS := Lib.hid hps
    have hple : p.size ≤ 1048576 + 1 + 64 := by omega
    by_cases hlt : j = z
    · subst hlt
      have ht : (((p.size : Int) % 64) != 56) = false := by rw [bne_eq_false_iff_eq]; have := HZ56.out; omega
      clear hps
      go_wp2_with fail
      go_loopw [3, 4, 5] (fun v3 v4 v5 wr => ∃ (i : Nat) (t : ByteArray), i ≤ 8 ∧ v5 = .int .i64 i ∧ v3 = .int .i64 ((s.size * 8 / 256 ^ i : Nat) : Int) ∧ v4 = .string t ∧ t.size = i ∧ Hid (t.data.toList = (lenBytes s.size).drop (8 - i)) ∧ Below w.heap.size w wr)
        (fun _ _ v5 _ => 8 - (intOf v5).toNat)
      case atStart =>
        refine ⟨0, ⟨#[]⟩, by omega, rfl, ?_, rfl, rfl, ?_, Below.refl _ _⟩
        · simp; omega
        · show _ = _; simp [lenBytes]
      case round =>
        obtain ⟨i, t, hi, rfl, rfl, rfl, hts, HTL, hbel⟩ := hrel
        have HTS := Lib.hid hts
        have htle : t.size ≤ 8 := by omega
        clear hts
        obtain ⟨m, hm⟩ : ∃ m, m = s.size * 8 / 256 ^ i := ⟨_, rfl⟩
        have hmle : m ≤ 8388608 := by rw [hm]; exact Nat.le_trans (Nat.div_le_self _ _) (by omega)
        rw [← hm]
        have HM := Lib.hid hm
        clear hm
        by_cases hi8 : i < 8
        · obtain ⟨bt, hbt⟩ : ∃ bt : ByteArray, bt = ⟨#[UInt8.ofNat (m % 256)]⟩ := ⟨_, rfl⟩
          have hcv : (Go.convert 52 9 (.slice (some ⟨wr.heap.size, 0, none⟩) 1 1)).run Tryd.prog (wr.alloc (.cells #[.int .u8 ((m : Int) % (256 : Int))] 5)) = .ok (.string bt) (wr.alloc (.cells #[.int .u8 ((m : Int) % (256 : Int))] 5)) := by
            have e0 : ((UInt8.ofNat (m % 256)).toNat : Int) = (m : Int) % (256 : Int) := by rw [UInt8.toNat_ofNat']; omega
            have e : (#[.int .u8 ((m : Int) % (256 : Int))] : Array Value) = bytesV [UInt8.ofNat (m % 256)] := by
              simp only [bytesV, List.map_cons, List.map_nil, e0]
            rw [e, hbt]
            exact conv_bytes _ wr.heap.size [UInt8.ofNat (m % 256)] 1 (Has.new _ _)
          have hbs : bt.size = 1 := by rw [hbt]; rfl
          have hbs2 : bt.size ≤ 1 := by omega
          have HBT := Lib.hid hbt
          have HBS := Lib.hid hbs
          clear hbt hbs
          go_wp2_with fail
          clear hcv
          refine ⟨⟨i + 1, bt ++ t, by omega, by go_num, ?_, rfl, ?_, ?_, hbel.alloc hbel.size _⟩, by simp [intOf]; omega⟩
          · rw [show (m : Int) / (256 : Int) = ((m / 256 : Nat) : Int) by omega, HM.out, Nat.div_div_eq_div_mul, ← Nat.pow_succ]
          · rw [ByteArray.size_append, HBS.out, HTS.out]; omega
          · show _ = _
            rw [append_bytes2, HBT.out, HTL.out]
            have hg : (lenBytes s.size)[8 - (i + 1)]'(by rw [lenBytes_length]; omega) = UInt8.ofNat (m % 256) := by
              simp only [lenBytes, List.getElem_map, List.getElem_range]
              rw [HM.out, show 8 * (7 - (8 - (i + 1))) = 8 * i by omega, show 256 = 2 ^ 8 from rfl, ← Nat.pow_mul]
            rw [List.drop_eq_getElem_cons (i := 8 - (i + 1)) (l := lenBytes s.size) (by rw [lenBytes_length]; omega), hg, show 8 - (i + 1) + 1 = 8 - i by omega]
            rfl
        · obtain rfl : i = 8 := by omega
          go_wp2_with fail
          go_ret
          refine ⟨⟨_, rfl, ?_⟩, hbel⟩
          rw [append_bytes2, HP.out, HTL.out, HN.out, Sha.ending, HZ.out]
          simp
    · have ht : (((p.size : Int) % 64) != 56) = true := by rw [bne_iff_ne]; have := HZ56.out; omega
      clear hps
      go_wp2_with fail
      refine ⟨⟨j + 1, _, by omega, rfl, ?_, ?_⟩, ?_⟩
      · rw [ByteArray.size_append]; have := HPS.out; show p.size + 1 = _; omega
      · show _ = _
        rw [append_bytes, HP.out, List.replicate_succ']; simp
      · show s.size + 1 + z - (p ++ (⟨#[0]⟩ : ByteArray)).size < s.size + 1 + z - p.size
        rw [ByteArray.size_append]; have := HPS.out; show _ - (p.size + 1) < _; omega
end Go.Proofs.YtomegahohiijcaaDoor
namespace Go.Proofs.YtomegahohiijcaaDoor
open Go.RowKit Mem Sha

def nameTo (s : S8) (k : Nat) : List UInt8 := (nameOf s).take k ++ List.replicate (32 - k) 0
theorem nameOf_length (s : S8) : (nameOf s).length = 32 := by simp [nameOf]
theorem nameTo_length (s : S8) (k : Nat) (hk : k ≤ 32) : (nameTo s k).length = 32 := by simp [nameTo, nameOf_length]; omega
theorem nameTo_next (s : S8) (k : Nat) (hk : k < 32) : (nameTo s k).set k (UInt8.ofNat ((s.at (k / 4)).toNat / 2 ^ (24 - 8 * (k % 4)) % 256)) = nameTo s (k + 1) := by
  have hl : ((nameOf s).take k).length = k := by simp [nameOf_length]; omega
  have hg : (nameOf s)[k]'(by rw [nameOf_length]; exact hk) = UInt8.ofNat ((s.at (k / 4)).toNat / 2 ^ (24 - 8 * (k % 4)) % 256) := by simp [nameOf]
  unfold nameTo
  rw [List.set_append_right _ _ (by omega), hl, Nat.sub_self, show 32 - k = (32 - (k + 1)) + 1 by omega, List.replicate_succ, List.set_cons_zero,
    List.take_succ_eq_append_getElem (by rw [nameOf_length]; exact hk), hg, List.append_assoc]
  rfl
theorem nameByte (x : BitVec 32) (m : Nat) : Wd.n x / (2 : Int) ^ m % 256 = ((UInt8.ofNat (x.toNat / 2 ^ m % 256)).toNat : Int) := by
  have e : Wd.n x / (2 : Int) ^ m = ((x.toNat / 2 ^ m : Nat) : Int) := by unfold Wd.n; simp
  rw [e, UInt8.toNat_ofNat']
  omega
theorem info42 : (Tryd.prog.info? 72).map (·.size) = some 8 := by kernel_rfl
theorem infoHash : (Tryd.prog.info? 25).map (·.size) = some 32 := by kernel_rfl
set_option maxRecDepth 100000 in
theorem index8w (f : Nat → W32) (k : Nat) (hk : k < 8) (w : World) : (Instr.index 72 (.agg #[.int .u32 (Wd.n (f 0)), .int .u32 (Wd.n (f 1)), .int .u32 (Wd.n (f 2)), .int .u32 (Wd.n (f 3)), .int .u32 (Wd.n (f 4)), .int .u32 (Wd.n (f 5)), .int .u32 (Wd.n (f 6)), .int .u32 (Wd.n (f 7))]) (.int .i64 (k : Int))).run Tryd.prog w = .ok (.int .u32 (Wd.n (f k))) w := by
  obtain rfl | rfl | rfl | rfl | rfl | rfl | rfl | rfl : k = 0 ∨ k = 1 ∨ k = 2 ∨ k = 3 ∨ k = 4 ∨ k = 5 ∨ k = 6 ∨ k = 7 := by omega
  all_goals rfl
set_option maxRecDepth 100000 in
theorem of_at (f : Nat → W32) (k : Nat) (hk : k < 8) : (S8.of f).at k = f k := by
  obtain rfl | rfl | rfl | rfl | rfl | rfl | rfl | rfl : k = 0 ∨ k = 1 ∨ k = 2 ∨ k = 3 ∨ k = 4 ∨ k = 5 ∨ k = 6 ∨ k = 7 := by omega
  all_goals rfl
structure Nam (w wr : World) (f : Nat → W32) (k : Nat) : Prop where
  below : Below w.heap.size w wr
  res : ∃ cs, cs.size = 32 ∧ Has wr w.heap.size cs 25
  out : Has wr (w.heap.size + 1) (bytesV (nameTo (S8.of f) k)) 25
theorem Nam.next {w wr : World} {f : Nat → W32} {k j : Nat} (h : Nam w wr f (4 * k + j)) (hk : k < 8) (hj : j < 4) :
    Nam w (wr.setCell ⟨w.heap.size + 1, 4 * k + j, none⟩ (.int .u8 (Wd.n (f k) / (2 : Int) ^ (24 - 8 * j) % 256))) f (4 * k + (j + 1)) where
  below := h.below.setCell (by simp) _
  res := by obtain ⟨cs, h1, h2⟩ := h.res; exact ⟨cs, h1, h2.other _ _ (by simp)⟩
  out := by
    rw [nameByte, ← of_at f k hk, show 4 * k + (j + 1) = 4 * k + j + 1 by omega, ← nameTo_next _ _ (by omega), show (4 * k + j) / 4 = k by omega, show (4 * k + j) % 4 = j by omega, ← bytesV_set]
    exact h.out.set _

def hz32 : Array Value := #[.int .u8 0, .int .u8 0, .int .u8 0, .int .u8 0, .int .u8 0, .int .u8 0, .int .u8 0, .int .u8 0, .int .u8 0, .int .u8 0, .int .u8 0, .int .u8 0, .int .u8 0, .int .u8 0, .int .u8 0, .int .u8 0, .int .u8 0, .int .u8 0, .int .u8 0, .int .u8 0, .int .u8 0, .int .u8 0, .int .u8 0, .int .u8 0, .int .u8 0, .int .u8 0, .int .u8 0, .int .u8 0, .int .u8 0, .int .u8 0, .int .u8 0, .int .u8 0]
theorem hz32_size : hz32.size = 32 := rfl
theorem hz32_eq (s : S8) : bytesV (nameTo s 0) = hz32 := rfl
theorem Nam.start (w : World) (f : Nat → W32) : Nam w ((w.alloc (.cells hz32 25)).alloc (.cells hz32 25)) f (4 * 0 + 0) where
  below := ((Below.refl _ _).alloc (Nat.le_refl _) _).alloc (by simp) _
  res := ⟨hz32, rfl, (Has.new _ _).alloc _⟩
  out := by
    rw [show 4 * 0 + 0 = 0 from rfl, hz32_eq]
    have := Has.new (w := w.alloc (.cells hz32 25)) hz32 25
    rwa [World.size_alloc] at this

set_option maxRecDepth 100000 in
set_option maxHeartbeats 1000000 in
theorem name (b : Nat) (f : Nat → W32) (l : List UInt8) (t : Nat) (w : World) (hH : Has w b (hcells f l t) 80) :
    Calls Tryd.prog 40 #[.pointer (some ⟨b, 0, none⟩)] w fun e w' => e = .returned (.agg (bytesV (nameOf (S8.of f)))) ∧ Below w.heap.size w w' := by
  have hrange : ∀ w1, Below w.heap.size w w1 → w1.rangeAt b 0 ((List.range 8).map fun i => Value.int .u32 (Wd.n (f i))) := fun w1 h1 j v hv => by
    have hj : j < 8 := by
      by_cases h : j < 8
      · exact h
      · rw [List.getElem?_eq_none (by simp; omega)] at hv; cases hv
    rw [Nat.zero_add, (below_has h1 hH hH.lt).cell, hcells_state f l t j hj]
    simpa [hj] using hv
  have hr2 : ∀ o1 o2, ((w.alloc o1).alloc o2).rangeAt b 0 ((List.range 8).map fun i => Value.int .u32 (Wd.n (f i))) := fun o1 o2 => hrange _ (((Below.refl _ _).alloc (Nat.le_refl _) o1).alloc (by simp) o2)
  have HR := Lib.hid hr2
  clear hrange hr2
  go_enter Tryd.func40, Tryd.ntmps40
  go_wp2_with (with_reducible refine wpList_load_mid rfl 72 _ rfl b 0 rfl ((List.range 8).map fun i => Value.int .u32 (Wd.n (f i))) _ (HR.out _ _) Tryd.underlying72 rfl (info42.trans (by simp)) ?_)
  go_loopw [11] (fun i wr => ∃ k : Nat, k ≤ 8 ∧ i = .int .i64 k ∧ Nam w wr f (4 * k + 0)) (fun i _ => 8 - (intOf i).toNat)
  case atStart => exact ⟨0, by omega, rfl, Nam.start w f⟩
  case round =>
    obtain ⟨k, hk, rfl, hs⟩ := hrel
    by_cases hlt : k < 8
    · have hidx := index8w f k hlt
      go_wp2_with fail
      clear hidx
      go_loopw [15] (fun i wr => ∃ j : Nat, j ≤ 4 ∧ i = .int .i64 j ∧ Nam w wr f (4 * k + j)) (fun i _ => 4 - (intOf i).toNat)
      case atStart => exact ⟨0, by omega, rfl, hs⟩
      case round =>
        obtain ⟨j, hj, rfl, ht⟩ := hrel
        by_cases hjl : j < 4
        · have c1 := ht.out.byte (4 * k + j) (by rw [nameTo_length _ _ (by omega)]; omega)
          have c2 := ht.out.free (4 * k + j)
          go_wp2_with fail
          go_roundw
          case rel => exact ⟨j + 1, by omega, by go_num, ht.next hlt hjl⟩
          case measure => simp [intOf]; omega
        · obtain rfl : j = 4 := by omega
          go_wp2_with fail
          go_roundw
          case rel => exact ⟨k + 1, by omega, by go_num, ht⟩
          case measure => simp [intOf]; omega
    · obtain rfl : k = 8 := by omega
      have hout := hs.out
      have hbel := hs.below
      obtain ⟨rs, hrs, hres⟩ := hs.res
      have e : nameTo (S8.of f) (4 * 8 + 0) = nameOf (S8.of f) := by simp [nameTo, List.take_of_length_le, nameOf_length]
      rw [e] at hout
      clear hs e
      have HZ := Lib.hid (bytesV_one (nameOf (S8.of f)))
      have hsz : some (bytesV (nameOf (S8.of f))).size = some 32 := by rw [bytesV_size, nameOf_length]
      have HS := Lib.hid hsz
      have HRS := Lib.hid hrs
      clear hsz hrs
      generalize hcs : bytesV (nameOf (S8.of f)) = cs at *
      go_wp2_with (first
        | (with_reducible refine wpList_load_row rfl 25 _ rfl _ rfl 25 cs (0, 0) _ hout.out Tryd.underlying25 rfl (infoHash.trans HS.out.symm) ?_)
        | (with_reducible refine wpList_store_row rfl 25 _ _ rfl _ _ rfl rfl 25 _ hres.out (infoHash.trans HS.out.symm) (HRS.out.trans (Option.some.inj HS.out).symm) HZ.out ?_))
      exact bodyPost_ret (v := .agg cs) (results_cell_row Tryd.results40 _ _ w.heap.size 25 cs (0, 0) _ rfl (hres.row cs).out Tryd.underlying25 rfl (infoHash.trans HS.out.symm)) rfl ⟨by rw [hcs], below_setRow hbel (by omega) _⟩
end Go.Proofs.YtomegahohiijcaaDoor
namespace Go.Proofs.YtomegahohiijcaaDoor
open Go.RowKit Mem Sha

structure Nws (w wr : World) (k : Nat) : Prop where
  below : Below w.heap.size w wr
  hsh : ∃ g, Has wr w.heap.size (hcells g (List.replicate 64 0) 0) 80 ∧ (∀ j, j < k → g j = Sha.start.at j)
theorem Nws.next {w wr : World} {k : Nat} (h : Nws w wr k) (hk : k < 8) {g : Nat → W32} (hg : Has wr w.heap.size (hcells g (List.replicate 64 0) 0) 80) (h1 : ∀ j, j < k → g j = Sha.start.at j) :
    Nws w (wr.setCell ⟨w.heap.size, k, none⟩ (.int .u32 (Wd.n (Sha.start.at k)))).drew (k + 1) where
  below := (h.below.setCell (by simp) _).drew
  hsh := by
    refine ⟨_, by have := (hg.set (i := k) (.int .u32 (Wd.n (Sha.start.at k)))).drew; rw [hcells_setState _ _ _ _ _ hk] at this; exact this, fun j hj => ?_⟩
    unfold upd
    by_cases e : j = k
    · rw [if_pos e, e]
    · rw [if_neg e]; exact h1 j (by omega)
def zhash : Array Value := hcells (fun _ => 0) (List.replicate 64 0) 0
theorem zeroHash (w : World) : (zeroValue 80).run Tryd.prog w = .ok (.agg zhash) w := by kernel_rfl

set_option maxRecDepth 100000 in
set_option maxHeartbeats 1000000 in
theorem new (w : World) (hT : Tab w) :
    Calls Tryd.prog 32 #[] w fun e w' => e = .returned (.pointer (some ⟨w.heap.size, 0, none⟩)) ∧ Below w.heap.size w w' ∧ HsI w' w.heap.size [] := by
  have hzv := zeroHash
  go_enter Tryd.func32, Tryd.ntmps32
  go_wp2_with fail
  clear hzv
  go_loopw [4] (fun i wr => ∃ k : Nat, k ≤ 8 ∧ i = .int .i64 k ∧ Nws w wr k) (fun i _ => 8 - (intOf i).toNat)
  case atStart => exact ⟨0, by omega, rfl, (Below.refl _ _).alloc (Nat.le_refl _) _, _, Has.new _ _, fun j hj => absurd hj (by omega)⟩
  case round =>
    obtain ⟨k, hk, rfl, hs⟩ := hrel
    obtain ⟨g, hg, h1⟩ := hs.hsh
    by_cases hlt : k < 8
    · have H1 := Lib.hid h1
      clear h1
      have ck := (hg.cell k).trans (hcells_state g _ _ k hlt)
      have cf := hg.free k
      have cs := (hT.below hs.below).s k hlt
      go_wp2_with fail
      go_region
      go_wp2_with fail
      exact ⟨⟨k + 1, by omega, by go_num, hs.next hlt hg H1.out⟩, by simp [intOf]; omega⟩
    · obtain rfl : k = 8 := by omega
      have hbel := hs.below
      have hI : HsI wr w.heap.size [] := by
        refine ⟨g, _, hg, by simp, ?_, by simp⟩
        show S8.of g = Sha.start
        unfold S8.of
        rw [h1 0 (by omega), h1 1 (by omega), h1 2 (by omega), h1 3 (by omega), h1 4 (by omega), h1 5 (by omega), h1 6 (by omega), h1 7 (by omega)]
        rfl
      clear h1 hs
      go_wp2_with fail
      go_ret
      exact ⟨rfl, hbel, hI⟩
end Go.Proofs.YtomegahohiijcaaDoor
namespace Go.Proofs.YtomegahohiijcaaDoor
open Go.RowKit Mem Sha

def flat (ps : List ByteArray) : List UInt8 := ps.flatMap (·.data.toList)
theorem flat_next (ps : List ByteArray) (k : Nat) (hk : k < ps.length) : flat (ps.take (k + 1)) = flat (ps.take k) ++ ps[k].data.toList := by
  unfold flat
  rw [List.take_succ_eq_append_getElem hk, List.flatMap_append]
  simp
theorem flat_le (ps : List ByteArray) (k : Nat) : (flat (ps.take k)).length ≤ (flat ps).length := by
  have e : flat ps = flat (ps.take k) ++ flat (ps.drop k) := by unfold flat; rw [← List.flatMap_append, List.take_append_drop]
  rw [e, List.length_append]; omega
/-- the parts lie where a slice says -/
def Parts (w : World) (a : Option Addr) (b : Nat) (ps : List ByteArray) : Prop :=
  0 < ps.length → ∃ ab ao, a = some ⟨ab, ao, none⟩ ∧ ab ≠ b ∧ ∀ i (hi : i < ps.length), w.cell? ⟨ab, ao + i, none⟩ = some (.string ps[i])

set_option maxRecDepth 100000 in
set_option maxHeartbeats 1000000 in
theorem write (b : Nat) (m : List UInt8) (a : Option Addr) (ps : List ByteArray) (n c : Nat) (hn : n = ps.length) (w : World) (hT : Tab w) (hb1 : b ≠ 1) (hb2 : b ≠ 0)
    (hm : m.length + (flat ps).length ≤ 4611686018427387904) (hl : n ≤ 4611686018427387904) (hP : Parts w a b ps) (hH : HsI w b m) :
    Calls Tryd.prog 33 #[.pointer (some ⟨b, 0, none⟩), .slice a n c] w fun e w' => e = .returned (.tuple #[]) ∧ w.grownBy w' (some b) ∧ HsI w' b (m ++ flat ps) := by
  have HN := Lib.hid hn
  have HP := Lib.hid hP
  clear hn hP
  go_enter Tryd.func33, Tryd.ntmps33
  go_wp2_with fail

  go_loopw [10] (fun i wr => ∃ k : Nat, k ≤ n ∧ i = .int .i64 k ∧ w.grownBy wr (some b) ∧ HsI wr b (m ++ flat (ps.take k))) (fun i _ => n - (intOf i).toNat)
  case atStart => exact ⟨0, by omega, rfl, gb_refl _ _, by simpa [flat] using hH⟩
  case round =>
    obtain ⟨k, hk, rfl, hg, hI⟩ := hrel
    by_cases hlt : k < n
    · have hkl : k < ps.length := by rw [← HN.out]; exact hlt
      obtain ⟨ab, ao, rfl, hab, hc⟩ := HP.out (by omega)
      have ck := World.grownBy.cell hg (hc k hkl) (by intro e; cases e; exact hab rfl)
      have hT2 := hT.grown hg (by intro e; cases e; exact hb1 rfl) (by intro e; cases e; exact hb2 rfl)
      have hsz : (m ++ flat (ps.take k)).length + ps[k].size ≤ 4611686018427387904 := by
        have h1 := flat_le ps (k + 1)
        rw [flat_next ps k hkl, List.length_append, ← Lib.size_eq] at h1
        rw [List.length_append]; omega
      have hI2 : ∀ w', HsI w' b (m ++ flat (ps.take k) ++ ps[k].data.toList) → HsI w' b (m ++ flat (ps.take (k + 1))) := fun w' h => by
        rw [flat_next ps k hkl, ← List.append_assoc]; exact h
      have HI2 := Lib.hid hI2
      have HSZ := Lib.hid hsz
      clear hsz hc hI2
      generalize ps[k] = s at *
      go_wp2_with (go_at_call 38; (with_reducible refine (take b _ s _ hT2 hb1 hb2 HSZ.out hI).mono ?_); rintro e w3 ⟨rfl, hg3, hI3⟩)
      go_roundw
      case rel => exact ⟨k + 1, by omega, by go_num, gb_trans hg hg3, HI2.out _ hI3⟩
      case measure => simp [intOf]; omega
    · obtain rfl : k = n := by omega
      rw [HN.out, List.take_length] at hI
      go_wp2_with fail
      go_end0
      exact ⟨rfl, hg, hI⟩
theorem write_nil (a : Option Addr) (n c : Nat) (w : World) :
    Calls Tryd.prog 33 #[.pointer none, .slice a n c] w fun e w' => e = .returned (.tuple #[]) ∧ w = w' := by
  go_enter Tryd.func33, Tryd.ntmps33
  go_wp2_with fail
  exact bodyPost_ret (v := .tuple #[]) (by simp [results, Tryd.results33, go_sem]) rfl ⟨rfl, rfl⟩
end Go.Proofs.YtomegahohiijcaaDoor
namespace Go.Proofs.YtomegahohiijcaaDoor
open Go.RowKit Mem Sha

theorem infoHasher : (Tryd.prog.info? 80).map (·.size) = some 73 := by kernel_rfl
theorem hcells_one (f l t) : (hcells f l t).all (·.oneCell') = true := by
  rw [Array.all_eq_true_iff_forall_mem]
  intro v hv
  simp only [hcells, Array.mem_append] at hv
  rcases hv with (hv | hv) | hv
  · exact Array.all_eq_true_iff_forall_mem.1 (words_one f 8) v hv
  · exact Array.all_eq_true_iff_forall_mem.1 (bytesV_one l) v hv
  · simp at hv; subst hv; rfl
theorem HsI.below {w w' : World} {b B : Nat} {m : List UInt8} (h : HsI w b m) (hb : Below B w w') (hB : b < B) : HsI w' b m := by
  obtain ⟨f, l, h1, h2⟩ := h
  exact ⟨f, l, below_has hb h1 hB, h2⟩
theorem zhash_size : zhash.size = 73 := by unfold zhash; rw [hcells_size]; rfl
theorem ending_length (n : Nat) : (Sha.ending n).length ≤ 80 := by simp [Sha.ending, lenBytes]; omega

set_option maxRecDepth 100000 in
set_option maxHeartbeats 1000000 in
theorem sum (b : Nat) (m : List UInt8) (w : World) (hT : Tab w) (hm : m.length ≤ 1152921504606846976) (hH : HsI w b m) :
    Calls Tryd.prog 34 #[.pointer (some ⟨b, 0, none⟩)] w fun e w' => e = .returned (.agg (bytesV (sha m))) ∧ Below w.heap.size w w' := by
  have hblt := hH.lt
  obtain ⟨f, l, hHb, hl, hS, hR⟩ := hH
  have HL := Lib.hid hl
  have HSR := Lib.hid (And.intro hS hR)
  clear hl hS hR
  have hzv := zeroHash
  have hHa : ∀ o, Has (w.alloc o) b (hcells f l m.length) 80 := fun o => hHb.alloc o
  have hsz : some (hcells f l m.length).size = some 73 := by rw [hcells_size, HL.out]
  have HSZ := Lib.hid hsz
  have HO := Lib.hid (hcells_one f l m.length)
  clear hsz
  go_enter Tryd.func34, Tryd.ntmps34
  go_upto_region 4 with (first
    | (with_reducible refine wpList_load_row rfl 80 _ rfl b rfl 80 (hcells f l m.length) (0, 0) _ (hHa _).out Tryd.underlying80 rfl (infoHasher.trans HSZ.out.symm) ?_)
    | (with_reducible refine wpList_store_row rfl 80 _ _ rfl _ (hcells f l m.length) rfl rfl 80 _ (heap_alloc2_new w _ _) (infoHasher.trans HSZ.out.symm) (zhash_size.trans (Option.some.inj (HSZ.out.symm))) HO.out ?_))
  generalize hw1 : World.setRow _ _ _ = w1
  have hB1 : Below w.heap.size w w1 := by rw [← hw1]; exact below_setRow (((Below.refl _ _).alloc (Nat.le_refl _) _).alloc (by simp) _) (by simp) _
  have hE1 : Has w1 (w.heap.size + 1) (hcells f l m.length) 80 := by
    rw [← hw1]
    exact Has.row (cs := zhash) (heap_alloc2_new w _ _) _
  have hR1 : ∃ cs, cs.size = 32 ∧ Has w1 w.heap.size cs 25 := by
    refine ⟨hz32, rfl, ?_⟩
    rw [← hw1]
    exact Has.otherRow (heap_alloc2_old w _ _) _ _ (by omega)
  clear hw1 hzv hHa
  have hI1 : HsI w1 (w.heap.size + 1) m := ⟨f, l, hE1, HL.out, HSR.out.1, HSR.out.2⟩
  have hH1 := below_has hB1 hHb hblt
  have c72 := (hH1.cell 72).trans (hcells_taken f l _ HL.out)
  have hT1 := hT.below hB1
  clear hE1
  have hne1 : w.heap.size + 1 ≠ 1 := by have := hT.lt; omega
  have hne2 : w.heap.size + 1 ≠ 0 := by have := hT.lt; omega
  have hel := ending_length m.length
  have HSum : ∀ f3, S8.of f3 = pressAll ((m ++ (⟨(Sha.ending m.length).toArray⟩ : ByteArray).data.toList).length / 64) Sha.start (m ++ (⟨(Sha.ending m.length).toArray⟩ : ByteArray).data.toList) → nameOf (S8.of f3) = sha m := fun f3 h => by
    rw [h]; rfl
  have HSum := Lib.hid HSum
  obtain ⟨es, hes⟩ : ∃ es : ByteArray, es = ⟨(Sha.ending m.length).toArray⟩ := ⟨_, rfl⟩
  have hess : es.size ≤ 80 := by rw [hes]; show (Sha.ending m.length).toArray.size ≤ 80; simpa using hel
  rw [← hes] at HSum
  have HES := Lib.hid hes
  clear hes hel
  go_wp2_with (go_at_call 39; (with_reducible refine (ending m.length hm _).mono ?_); rintro e w2 ⟨rfl, hb2⟩)
  rw [← HES.out]
  have hT2 := hT1.below hb2
  have hI2 := hI1.below hb2 hI1.lt
  have hR2 : ∃ cs, cs.size = 32 ∧ Has w2 w.heap.size cs 25 := by obtain ⟨cs, h1, h2⟩ := hR1; exact ⟨cs, h1, below_has hb2 h2 h2.lt⟩
  have hB2 := hB1.trans (hb2.mono hB1.size)
  clear hR1 hI1 hT1 hb2 hB1 hH1 c72
  go_wp2_with (go_at_call 38; (with_reducible refine (take (w.heap.size + 1) m es _ hT2 hne1 hne2 (by omega) hI2).mono ?_); rintro e w3 ⟨rfl, hg3, hI3⟩)
  obtain ⟨f3, l3, hH3, hl3, hS3, hR3⟩ := hI3
  have HN3 := Lib.hid (HSum.out f3 hS3)
  have hB3 := hB2.trans (gb_toBelow hg3 (by omega) hB2.size)
  obtain ⟨cs, hcs, hcs2⟩ := hR2
  have hres3 := gb_has hg3 hcs2 (by intro e; have := Option.some.inj e; omega)
  have HCS := Lib.hid hcs
  clear hl3 hS3 hR3 HSum hcs hcs2 hI2 hT2 hg3
  refine (name (w.heap.size + 1) f3 l3 _ _ hH3).mono ?_
  rintro e w4 ⟨rfl, hb4⟩
  rw [HN3.out]
  have hres4 := below_has hb4 hres3 hres3.lt
  have hB4 := hB3.trans (hb4.mono hB3.size)
  have HO2 := Lib.hid (bytesV_one (sha m))
  have hsz2 : some (bytesV (sha m)).size = some 32 := by rw [bytesV_size]; exact congrArg some (nameOf_length _)
  have HS2 := Lib.hid hsz2
  clear hsz2 hres3 hb4 hB3 hB2 hH3
  generalize hcs3 : bytesV (sha m) = rs at *
  go_wp2_with (with_reducible refine wpList_store_row rfl 25 _ _ rfl _ rs rfl rfl 25 _ hres4.out (infoHash.trans HS2.out.symm) (HCS.out.trans (Option.some.inj HS2.out).symm) HO2.out ?_)
  exact bodyPost_ret (v := .agg rs) (results_cell_row Tryd.results34 _ _ w.heap.size 25 rs (0, 0) _ rfl (hres4.row rs).out Tryd.underlying25 rfl (infoHash.trans HS2.out.symm)) rfl ⟨by rw [hcs3], below_setRow hB4 (by omega) _⟩
theorem infoHash32 : (Tryd.prog.info? 25).map (·.size) = some hz32.size := infoHash
theorem hz32_one : hz32.all (·.oneCell') = true := by kernel_rfl
theorem sum_nil (w : World) : Calls Tryd.prog 34 #[.pointer none] w fun e w' => e = .returned (.agg (bytesV (List.replicate 32 0))) ∧ Below w.heap.size w w' := by
  go_enter Tryd.func34, Tryd.ntmps34
  go_upto_region 1 with fail
  generalize hw1 : World.alloc _ _ = w1
  have hres : Has w1 w.heap.size hz32 25 := by rw [← hw1]; exact Has.new _ _
  have hbel : Below w.heap.size w w1 := by rw [← hw1]; exact (Below.refl _ _).alloc (Nat.le_refl _) _
  clear hw1
  go_upto_region 2 with fail
  go_wp2_with (refine wpList_store_row rfl 25 (.tmp 2) (.tmp 6) rfl w.heap.size hz32 rfl rfl 25 hz32 hres.out infoHash32 rfl hz32_one ?_)
  exact bodyPost_ret (v := .agg hz32) (results_cell_row Tryd.results34 _ _ w.heap.size 25 hz32 (0, 0) _ rfl (hres.row hz32).out Tryd.underlying25 rfl infoHash32) rfl ⟨rfl, below_setRow hbel (Nat.le_refl _) _⟩
end Go.Proofs.YtomegahohiijcaaDoor
namespace Go.Proofs.YtomegahohiijcaaDoor
open Go.RowKit Mem Sha

/-- the parts lie where a slice says -/
def PartsW (w : World) (a : Option Addr) (ps : List ByteArray) : Prop :=
  0 < ps.length → ∃ ab ao, a = some ⟨ab, ao, none⟩ ∧ ∀ i (hi : i < ps.length), w.cell? ⟨ab, ao + i, none⟩ = some (.string ps[i])
theorem PartsW.parts {w w1 : World} {a : Option Addr} {ps : List ByteArray} (h : PartsW w a ps) (hb : Below w.heap.size w w1) (b : Nat) (hB : w.heap.size ≤ b) : Parts w1 a b ps := fun h0 => by
  obtain ⟨ab, ao, ha, hc⟩ := h h0
  have hlt : ab < w.heap.size := block_lt_of_cell (hc 0 h0)
  exact ⟨ab, ao, ha, by omega, fun i hi => (hb.cell (p := ⟨ab, ao + i, none⟩) hlt).trans (hc i hi)⟩

theorem PartsW.below {w w1 : World} {a : Option Addr} {ps : List ByteArray} (h : PartsW w a ps) (hb : Below w.heap.size w w1) : PartsW w1 a ps := fun h0 => by
  obtain ⟨ab, ao, ha, hc⟩ := h h0
  have hlt : ab < w.heap.size := block_lt_of_cell (hc 0 h0)
  exact ⟨ab, ao, ha, fun i hi => (hb.cell (p := ⟨ab, ao + i, none⟩) hlt).trans (hc i hi)⟩
theorem PartsW.one {w : World} {b : Nat} {s : ByteArray} (h : w.cell? ⟨b, 0, none⟩ = some (.string s)) : PartsW w (some ⟨b, 0, none⟩) [s] := fun _ =>
  ⟨b, 0, rfl, fun i hi => by
    obtain rfl : i = 0 := by simpa using hi
    exact h⟩
theorem flat_one (s : ByteArray) : flat [s] = s.data.toList := by simp [flat]
set_option maxRecDepth 100000 in
set_option maxHeartbeats 1000000 in
theorem of (a : Option Addr) (ps : List ByteArray) (n c : Nat) (hn : n = ps.length) (w : World) (hT : Tab w)
    (hm : (flat ps).length ≤ 1152921504606846976) (hl : n ≤ 4611686018427387904) (hP : PartsW w a ps) :
    Calls Tryd.prog 29 #[.slice a n c] w fun e w' => e = .returned (.agg (bytesV (sha (flat ps)))) ∧ Below w.heap.size w w' := by
  have HN := Lib.hid hn
  have HP := Lib.hid hP
  clear hn hP
  go_enter Tryd.func29, Tryd.ntmps29
  go_upto_region 1 with fail
  generalize hw1 : World.alloc _ _ = w1
  have hres : Has w1 w.heap.size hz32 25 := by rw [← hw1]; exact Has.new _ _
  have hbel : Below w.heap.size w w1 := by rw [← hw1]; exact (Below.refl _ _).alloc (Nat.le_refl _) _
  have hT1 := hT.below hbel
  have h01 := hres.lt
  clear hw1
  go_wp2_with fail
  refine (new w1 hT1).mono ?_
  rintro e w2 ⟨rfl, hb2, hI2⟩
  have hT2 := hT1.below hb2
  have hB2 := hbel.trans (hb2.mono hbel.size)
  have hres2 := below_has hb2 hres h01
  have hP2 := HP.out.parts hB2 w1.heap.size hbel.size
  have hne1 : w1.heap.size ≠ 1 := by have := hT1.lt; omega
  have hne2 : w1.heap.size ≠ 0 := by have := hT1.lt; omega
  have HP2 := Lib.hid hP2
  clear hP2 hT1 hb2
  go_wp2_with fail
  refine (write w1.heap.size [] a ps n c HN.out _ hT2 hne1 hne2 (by simp; omega) hl HP2.out hI2).mono ?_
  rintro e w3 ⟨rfl, hg3, hI3⟩
  have hT3 := hT2.grown hg3 (by intro e; exact hne1 (Option.some.inj e).symm) (by intro e; exact hne2 (Option.some.inj e).symm)
  have hB3 := hB2.trans (gb_toBelow hg3 hbel.size hB2.size)
  have hres3 := gb_has hg3 hres2 (by intro e; have := Option.some.inj e; omega)
  rw [List.nil_append] at hI3
  clear hT2 hg3 hI2 hres2
  go_wp2_with fail
  refine (sum w1.heap.size (flat ps) _ hT3 hm hI3).mono ?_
  rintro e w4 ⟨rfl, hb4⟩
  have hres4 := below_has hb4 hres3 hres3.lt
  have hB4 := hB3.trans (hb4.mono hB3.size)
  have HO2 := Lib.hid (bytesV_one (sha (flat ps)))
  have hsz2 : some (bytesV (sha (flat ps))).size = some 32 := by rw [bytesV_size]; exact congrArg some (nameOf_length _)
  have HS2 := Lib.hid hsz2
  clear hsz2 hres3 hb4 hB3 hB2 hI3 hT3 hres
  generalize hcs3 : bytesV (sha (flat ps)) = rs at *
  go_wp2_with (with_reducible refine wpList_store_row rfl 25 _ _ rfl _ rs rfl rfl 25 _ hres4.out (infoHash.trans HS2.out.symm) (hz32_size.trans (Option.some.inj HS2.out).symm) HO2.out ?_)
  exact bodyPost_ret (v := .agg rs) (results_cell_row Tryd.results29 _ _ w.heap.size 25 rs (0, 0) _ rfl (hres4.row rs).out Tryd.underlying25 rfl (infoHash.trans HS2.out.symm)) rfl ⟨by rw [hcs3], below_setRow hB4 (by omega) _⟩

/-- a hash as bytes, told by a slice over an array -/
theorem conv_hash (wx : World) (b : Nat) (l : List UInt8) (hl : l.length = 32) (h : Has wx b (bytesV l) 25) :
    (Go.convert 52 9 (.slice (some ⟨b, 0, none⟩) 32 32)).run Tryd.prog wx = .ok (.string ⟨l.toArray⟩) wx := by
  have := run_convert_bytes_arg (P := Tryd.prog) wx 52 5 Tryd.underlying52 Tryd.underlying5 b 0 32 32 (l.map fun b => (b.toNat : Int)) (by simp [hl]) (fun i hi => by
    rw [Nat.zero_add, h.byte i (by omega)]; simp [show i < l.length by omega]) 9 Tryd.underlying9
  rw [this]
  simp [strOfNums, Function.comp_def]
set_option maxRecDepth 100000 in
set_option maxHeartbeats 1000000 in
theorem double (a : Option Addr) (ps : List ByteArray) (n c : Nat) (hn : n = ps.length) (w : World) (hT : Tab w)
    (hm : (flat ps).length ≤ 1152921504606846976) (hl : n ≤ 4611686018427387904) (hP : PartsW w a ps) :
    Calls Tryd.prog 21 #[.slice a n c] w fun e w' => e = .returned (.agg (bytesV (sha (sha (flat ps))))) ∧ Below w.heap.size w w' := by
  have HN := Lib.hid hn
  have HP := Lib.hid hP
  clear hn hP
  go_enter Tryd.func21, Tryd.ntmps21
  go_upto_region 1 with fail
  generalize hw1 : World.alloc _ _ = w1
  have hres : Has w1 w.heap.size hz32 25 := by rw [← hw1]; exact Has.new _ _
  have hbel : Below w.heap.size w w1 := by rw [← hw1]; exact (Below.refl _ _).alloc (Nat.le_refl _) _
  have hT1 := hT.below hbel
  have hP1 : PartsW w1 a ps := HP.out.below hbel
  have HP1 := Lib.hid hP1
  clear hw1 hP1
  go_wp2_with fail
  refine (of a ps n c HN.out w1 hT1 hm hl HP1.out).mono ?_
  rintro e w2 ⟨rfl, hb2⟩
  have hT2 := hT1.below hb2
  have hB2 := hbel.trans (hb2.mono hbel.size)
  have hres2 := below_has hb2 hres hres.lt
  have HO := Lib.hid (bytesV_one (sha (flat ps)))
  have hsz : some (bytesV (sha (flat ps))).size = some 32 := by rw [bytesV_size]; exact congrArg some (nameOf_length _)
  have HSZ := Lib.hid hsz
  clear hsz hres hbel hT1 hb2
  go_upto_region 2 with (with_reducible refine wpList_store_row rfl 25 _ _ rfl _ (bytesV (sha (flat ps))) rfl rfl 25 _ (heap_alloc_new w2 _) (infoHash.trans HSZ.out.symm) (by simp [Option.some.inj HSZ.out]) HO.out ?_)
  generalize hw3 : World.setRow _ _ _ = w3
  have hin : Has w3 w2.heap.size (bytesV (sha (flat ps))) 25 := by rw [← hw3]; exact (Has.new _ _).row _
  have hB3 : Below w.heap.size w w3 := by rw [← hw3]; exact below_setRow (hB2.alloc hB2.size _) hB2.size _
  have hb23 : Below w2.heap.size w2 w3 := by rw [← hw3]; exact below_setRow ((Below.refl _ _).alloc (Nat.le_refl _) _) (Nat.le_refl _) _
  have hT3 := hT2.below hb23
  have hres3 := below_has hb23 hres2 hres2.lt
  obtain ⟨hs, hhs⟩ : ∃ hs : ByteArray, hs = ⟨(sha (flat ps)).toArray⟩ := ⟨_, rfl⟩
  have hcv := conv_hash w3 w2.heap.size (sha (flat ps)) (nameOf_length _) hin
  rw [← hhs] at hcv
  have HHS : Hid (hs.data.toList = sha (flat ps)) := by show _ = _; rw [hhs]
  have hhsz : (sha (flat ps)).length = 32 := nameOf_length _
  have HHZ := Lib.hid hhsz
  clear hw3 hb23 hT2 hres2 hB2 hhs hin hhsz
  go_wp2_with fail
  have hb4 : Below w3.heap.size w3 (w3.alloc (.cells #[.string hs] 9)) := (Below.refl _ _).alloc (Nat.le_refl _) _
  refine (of (some ⟨w3.heap.size, 0, none⟩) [hs] 1 1 rfl _ (hT3.below hb4) (by rw [flat_one, HHS.out, HHZ.out]; omega) (by omega) (PartsW.one (by simp))).mono ?_
  rintro e w5 ⟨rfl, hb5⟩
  rw [flat_one, HHS.out]
  have hres4 := below_has hb5 (below_has hb4 hres3 hres3.lt) (Has.lt (below_has hb4 hres3 hres3.lt))
  have hB5 := (hB3.trans (hb4.mono hB3.size)).trans (hb5.mono (Nat.le_trans hB3.size hb4.size))
  have HO2 := Lib.hid (bytesV_one (sha (sha (flat ps))))
  have hsz2 : some (bytesV (sha (sha (flat ps)))).size = some 32 := by rw [bytesV_size]; exact congrArg some (nameOf_length _)
  have HS2 := Lib.hid hsz2
  clear hsz2 hres3 hb4 hb5 hB3 hT3 hcv
  generalize hcs3 : bytesV (sha (sha (flat ps))) = rs at *
  go_wp2_with (with_reducible refine wpList_store_row rfl 25 _ _ rfl _ rs rfl rfl 25 _ hres4.out (infoHash.trans HS2.out.symm) (hz32_size.trans (Option.some.inj HS2.out).symm) HO2.out ?_)
  exact bodyPost_ret (v := .agg rs) (results_cell_row Tryd.results21 _ _ w.heap.size 25 rs (0, 0) _ rfl (hres4.row rs).out Tryd.underlying25 rfl (infoHash.trans HS2.out.symm)) rfl ⟨by rw [hcs3], below_setRow hB5 (by omega) _⟩
end Go.Proofs.YtomegahohiijcaaDoor
namespace Go.Proofs.YtomegahohiijcaaDoor
open Go.RowKit Mem Sha
theorem quo_n (x : BitVec 32) (m : Int) (hm : 0 ≤ m) : (Wd.n x).tdiv m % (4294967296 : Int) = Wd.n x / m := by
  have h1 := Wd.n_nonneg x
  have h2 := Wd.n_lt x
  rw [Int.tdiv_eq_ediv_of_nonneg h1]
  have h3 : 0 ≤ Wd.n x / m := Int.ediv_nonneg h1 hm
  have h4 : Wd.n x / m ≤ Wd.n x := Int.ediv_le_self _ h1
  omega
theorem quo8 (x : BitVec 32) : (Wd.n x).tdiv 8 % (4294967296 : Int) = Wd.n (x >>> 3) := by rw [quo_n x 8 (by omega), Wd.shr3]
theorem quo1024 (x : BitVec 32) : (Wd.n x).tdiv 1024 % (4294967296 : Int) = Wd.n (x >>> 10) := by rw [quo_n x 1024 (by omega), Wd.shr10]
attribute [local go_sem] quo8 quo1024 Wd.not Wd.not' Wd.notSub Wd.add Wd.and Wd.or Wd.xor Wd.shl Wd.shr Wd.shr3 Wd.shr10 wrap_mul256 add_byte add_byte'

/-- what stands while ref's Of goes on: out, h and the block's words -/
structure Rw (w wr : World) (g : Nat → W32) (wb : Nat) (f : Nat → W32) : Prop where
  below : Below w.heap.size w wr
  out : Has wr w.heap.size hz32 25
  h : Has wr (w.heap.size + 1) (words g 8) 72
  wrd : Has wr wb (words f 64) 74
  ge : w.heap.size + 1 < wb
/-- the same, with the rounds' state -/
structure Rr (w wr : World) (g : Nat → W32) (wb : Nat) (f : Nat → W32) (sb : Nat) (t : S8) : Prop where
  rw : Rw w wr g wb f
  s : Has wr sb (words t.at 8) 72
  ge : wb < sb
/-- between the blocks -/
structure Rh (w wr : World) (g : Nat → W32) : Prop where
  below : Below w.heap.size w wr
  out : Has wr w.heap.size hz32 25
  h : Has wr (w.heap.size + 1) (words g 8) 72
theorem Rw.rh {w wr : World} {g : Nat → W32} {wb : Nat} {f : Nat → W32} (h : Rw w wr g wb f) : Rh w wr g := ⟨h.below, h.out, h.h⟩
theorem Rw.set {w wr : World} {g : Nat → W32} {wb : Nat} {f : Nat → W32} (h : Rw w wr g wb f) (i : Nat) (x : W32) : Rw w (wr.setCell ⟨wb, i, none⟩ (.int .u32 (Wd.n x))) g wb (upd f i x) :=
  have := h.ge
  ⟨h.below.setCell (by simp; omega) _, h.out.other _ _ (by simp; omega), h.h.other _ _ (by simp; omega), h.wrd.setWord _, h.ge⟩
theorem Rw.drew {w wr : World} {g : Nat → W32} {wb : Nat} {f : Nat → W32} (h : Rw w wr g wb f) : Rw w wr.drew g wb f :=
  ⟨h.below.drew, h.out.drew, h.h.drew, h.wrd.drew, h.ge⟩
theorem add_byteM (x : BitVec 32) (b : UInt8) : (Wd.n (x <<< 8) + (b.toNat : Int)) % (4294967296 : Int) = Wd.n (x <<< 8 ||| ofByte b) := by
  rw [← add_byte, IntKind.wrap_u32']
theorem Rr.drewN {w wr : World} {g : Nat → W32} {wb : Nat} {f : Nat → W32} {sb : Nat} {t : S8} (h : Rr w wr g wb f sb t) (n : Nat) : Rr w (wr.drewN n) g wb f sb t :=
  ⟨⟨below_drewN h.rw.below n, h.rw.out.drewN n, h.rw.h.drewN n, h.rw.wrd.drewN n, h.rw.ge⟩, h.s.drewN n, h.ge⟩
theorem Rr.drew {w wr : World} {g : Nat → W32} {wb : Nat} {f : Nat → W32} {sb : Nat} {t : S8} (h : Rr w wr g wb f sb t) : Rr w wr.drew g wb f sb t :=
  ⟨⟨h.rw.below.drew, h.rw.out.drew, h.rw.h.drew, h.rw.wrd.drew, h.rw.ge⟩, h.s.drew, h.ge⟩
theorem Rr.row {w wr : World} {g : Nat → W32} {wb : Nat} {f : Nat → W32} {sb : Nat} {t : S8} (h : Rr w wr g wb f sb t) (t' : S8) : Rr w (wr.setRow sb (words t'.at 8)) g wb f sb t' :=
  have h1 := h.ge
  have h2 := h.rw.ge
  ⟨⟨below_setRow h.rw.below (by omega) _, h.rw.out.otherRow _ _ (by omega), h.rw.h.otherRow _ _ (by omega), h.rw.wrd.otherRow _ _ (by omega), h.rw.ge⟩, h.s.row _, h.ge⟩
theorem Rr.lit {w wr : World} {g : Nat → W32} {wb : Nat} {f : Nat → W32} {sb : Nat} {t : S8} (h : Rr w wr g wb f sb t) (X Y : W32) :
    Rr w (wr.setRow sb #[.int .u32 (Wd.n (X + Y)), .int .u32 (Wd.n (t.at 0)), .int .u32 (Wd.n (t.at 1)), .int .u32 (Wd.n (t.at 2)), .int .u32 (Wd.n (t.at 3 + X)), .int .u32 (Wd.n (t.at 4)), .int .u32 (Wd.n (t.at 5)), .int .u32 (Wd.n (t.at 6))]) g wb f sb ⟨X + Y, t.at 0, t.at 1, t.at 2, t.at 3 + X, t.at 4, t.at 5, t.at 6⟩ :=
  h.row ⟨X + Y, t.at 0, t.at 1, t.at 2, t.at 3 + X, t.at 4, t.at 5, t.at 6⟩
theorem Rr.seth {w wr : World} {g : Nat → W32} {wb : Nat} {f : Nat → W32} {sb : Nat} {t : S8} (h : Rr w wr g wb f sb t) (i : Nat) (x : W32) : Rr w (wr.setCell ⟨w.heap.size + 1, i, none⟩ (.int .u32 (Wd.n x))) (upd g i x) wb f sb t :=
  have h1 := h.ge
  have h2 := h.rw.ge
  ⟨⟨h.rw.below.setCell (by simp) _, h.rw.out.other _ _ (by simp), h.rw.h.setWord _, h.rw.wrd.other _ _ (by simp; omega), h.rw.ge⟩, h.s.other _ _ (by simp; omega), h.ge⟩
/-- while the name's bytes are laid -/
structure Ro (w wr : World) (st : S8) (O k : Nat) : Prop where
  below : Below w.heap.size w wr
  res : Has wr w.heap.size hz32 25
  h : Has wr (w.heap.size + 1) (words st.at 8) 72
  out : Has wr O (bytesV (nameTo st k)) 25
  ge : w.heap.size + 1 < O
theorem nameByte2 (x : BitVec 32) (m : Nat) : (Wd.n (x >>> m)).tmod 256 % 256 = ((UInt8.ofNat (x.toNat / 2 ^ m % 256)).toNat : Int) := by
  have e : Wd.n (x >>> m) = ((x.toNat / 2 ^ m : Nat) : Int) := by unfold Wd.n; rw [BitVec.toNat_ushiftRight, Nat.shiftRight_eq_div_pow]
  rw [e, UInt8.toNat_ofNat', Int.tmod_eq_emod_of_nonneg (Int.natCast_nonneg _)]
  generalize x.toNat / 2 ^ m = q
  omega
theorem Ro.next {w wr : World} {st : S8} {O k : Nat} (h : Ro w wr st O k) (hk : k < 32) : Ro w (wr.setCell ⟨O, k, none⟩ (.int .u8 ((Wd.n (st.at (k / 4) >>> (24 - 8 * (k % 4)))).tmod 256 % 256))) st O (k + 1) :=
  have h1 := h.ge
  ⟨h.below.setCell (by simp; omega) _, h.res.other _ _ (by simp; omega), h.h.other _ _ (by simp; omega), by
    rw [nameByte2, ← nameTo_next _ _ hk, ← bytesV_set]
    exact h.out.set _, h.ge⟩
theorem index_str (p : ByteArray) (i : Nat) (b : UInt8) (h : p.data.toList[i]? = some b) (w : World) :
    (Instr.index 9 (.string p) (.int .i64 (i : Int))).run Tryd.prog w = .ok (.int .u8 (b.toNat : Int)) w := by
  have hi : i < p.size := by
    rw [Lib.size_eq]
    by_cases hh : i < p.data.toList.length
    · exact hh
    · rw [List.getElem?_eq_none (by omega)] at h; cases h
  rw [run_index_string w 9 p .i64 _ Tryd.underlying9, dif_pos ⟨by omega, by omega⟩]
  have e : p[i]'hi = b := by
    have : p.data.toList[i]'(by rw [← Lib.size_eq]; exact hi) = b := by
      rw [List.getElem?_eq_getElem (by rw [← Lib.size_eq]; exact hi)] at h; exact Option.some.inj h
    rw [← this]; simp; rfl
  simp [e]
theorem Rw.drewN {w wr : World} {g : Nat → W32} {wb : Nat} {f : Nat → W32} (h : Rw w wr g wb f) (n : Nat) : Rw w (wr.drewN n) g wb f :=
  ⟨below_drewN h.below n, h.out.drewN n, h.h.drewN n, h.wrd.drewN n, h.ge⟩

/-- the first sixteen words, half written -/
structure Wf (bl : List UInt8) (f : Nat → W32) (k j : Nat) : Prop where
  lo : ∀ i, i < k → f i = blockWord bl i
  here : f k = wordOf ((bl.drop (4 * k)).take j)
  hi : ∀ i, k < i → f i = 0
theorem Wf.next {bl : List UInt8} {f : Nat → W32} {k j : Nat} (h : Wf bl f k j) (hl : 4 * k + j < bl.length) : Wf bl (upd f k (f k <<< 8 ||| ofByte bl[4 * k + j])) k (j + 1) where
  lo i hi := by unfold upd; rw [if_neg (by omega)]; exact h.lo i hi
  here := by
    unfold upd
    rw [if_pos rfl, h.here, List.take_succ_eq_append_getElem (by simp; omega)]
    simp [wordOf, List.foldl_append]
  hi i hi := by unfold upd; rw [if_neg (by omega)]; exact h.hi i hi
theorem Wf.word {bl : List UInt8} {f : Nat → W32} {k : Nat} (h : Wf bl f k 4) : Wf bl f (k + 1) 0 where
  lo i hi := by
    by_cases e : i = k
    · subst e; exact h.here
    · exact h.lo i (by omega)
  here := by rw [h.hi (k + 1) (by omega)]; simp [wordOf]
  hi i hi := h.hi i (by omega)

theorem ending_len (n : Nat) : (Sha.ending n).length = 9 + (119 - n % 64) % 64 := by
  simp [Sha.ending, Sha.lenBytes]; omega

section
variable {w : World} {ops : Array Oper} {rest : List Oper} {o : Oper} {a : Act} {Q : Exit → Act → World → Prop}
theorem w8_load (hgd : o.guard = none) (x : Operand) (ho : o.op = .load 72 x) (g : Nat) (hx : a.eval x = .pointer (some ⟨g, 0, none⟩)) (cs : Array Value) (hg : Has w g cs 72) (hs : cs.size = 8)
    (h : wpList Tryd.prog ops Q rest (a.put o.dst (.agg cs)) w) : wpList Tryd.prog ops Q (o :: rest) a w :=
  wpList_load_row hgd 72 x ho g hx 72 cs (0, 0) _ hg.out Tryd.underlying72 rfl (info42.trans (by rw [hs])) h
theorem w8_store (hgd : o.guard = none) (x y : Operand) (ho : o.op = .store 72 x y) (g : Nat) (cs' : Array Value) (hx : a.eval x = .pointer (some ⟨g, 0, none⟩)) (hy : a.eval y = .agg cs') (hs' : cs'.size = 8) (h1 : cs'.all (·.oneCell') = true) (cs : Array Value) (hg : Has w g cs 72) (hs : cs.size = 8)
    (h : wpList Tryd.prog ops Q rest (a.put o.dst undef) (w.setRow g cs')) : wpList Tryd.prog ops Q (o :: rest) a w :=
  wpList_store_row hgd 72 x y ho g cs' hx hy 72 cs hg.out (info42.trans (by rw [hs'])) (by rw [hs, hs']) h1 h
theorem w8_store_lit (hgd : o.guard = none) (x y : Operand) (ho : o.op = .store 72 x y) (g : Nat) (a0 a1 a2 a3 a4 a5 a6 a7 : Int) (hx : a.eval x = .pointer (some ⟨g, 0, none⟩))
    (hy : a.eval y = .agg #[.int .u32 a0, .int .u32 a1, .int .u32 a2, .int .u32 a3, .int .u32 a4, .int .u32 a5, .int .u32 a6, .int .u32 a7]) (cs : Array Value) (hg : Has w g cs 72) (hs : cs.size = 8)
    (h : wpList Tryd.prog ops Q rest (a.put o.dst undef) (w.setRow g #[.int .u32 a0, .int .u32 a1, .int .u32 a2, .int .u32 a3, .int .u32 a4, .int .u32 a5, .int .u32 a6, .int .u32 a7])) : wpList Tryd.prog ops Q (o :: rest) a w :=
  w8_store hgd x y ho g _ hx hy rfl (by simp [Value.oneCell']) cs hg hs h
end
def zero8 : Array Value := #[.int .u32 0, .int .u32 0, .int .u32 0, .int .u32 0, .int .u32 0, .int .u32 0, .int .u32 0, .int .u32 0]
set_option maxRecDepth 100000 in
set_option maxHeartbeats 1000000 in
theorem ref_of (s : ByteArray) (hs : s.size ≤ 1048576) (w : World) :
    Calls Tryd.prog 30 #[.string s] w fun e w' => e = .returned (.agg (bytesV (sha s.data.toList))) ∧ Below w.heap.size w w' := by
  go_enter Tryd.func30, Tryd.ntmps30
  go_upto_region 2 with fail
  generalize hw1 : World.alloc _ _ = w1
  have hR : Rh w w1 Sha.start.at := by
    rw [← hw1]
    refine ⟨((Below.refl _ _).alloc (Nat.le_refl _) _).alloc (by simp) _, (Has.new _ _).alloc _, ?_⟩
    have := Has.new (w := w.alloc (.cells hz32 25)) (words Sha.start.at 8) 72
    rw [World.size_alloc] at this
    exact this
  clear hw1
  generalize hag : (#[Value.int IntKind.u32 1779033703, Value.int IntKind.u32 3144134277, Value.int IntKind.u32 1013904242, Value.int IntKind.u32 2773480762, Value.int IntKind.u32 1359893119, Value.int IntKind.u32 2600822924, Value.int IntKind.u32 528734635, Value.int IntKind.u32 1541459225] : Array Value) = ag
  clear hag
  go_wp2_with fail
  refine (ref_padded s hs w1).mono ?_
  rintro e w2 ⟨⟨p, rfl, hp⟩, hb2⟩
  have hR2 : Rh w w2 Sha.start.at := ⟨hR.below.trans (hb2.mono hR.below.size), below_has hb2 hR.out hR.out.lt, below_has hb2 hR.h hR.h.lt⟩
  obtain ⟨l, hl⟩ : ∃ l, l = s.data.toList ++ Sha.ending s.data.toList.length := ⟨_, rfl⟩
  have hsha : sha s.data.toList = nameOf (pressAll (l.length / 64) Sha.start l) := by rw [hl]; rfl
  rw [← hl] at hp
  have hpl : p.size = l.length := by rw [Lib.size_eq, hp]
  obtain ⟨n, hn⟩ : ∃ n, l.length = 64 * n := ⟨l.length / 64, by rw [hl, List.length_append, ending_len]; omega⟩
  have hps : p.size = 64 * n := by omega
  have hnm : n ≤ 16400 := by
    have : l.length ≤ s.size + 73 := by rw [hl, List.length_append, ending_len, ← Lib.size_eq]; omega
    omega
  have hsha2 : sha s.data.toList = nameOf (pressAll n Sha.start l) := by rw [hsha, hn]; congr 2; omega
  have HSH := Lib.hid hsha2
  have HP := Lib.hid hp
  have HN := Lib.hid hn
  have HL := Lib.hid hpl
  clear hl hsha hsha2 hp hn hpl hR hb2 hs
  go_wp2_with fail
  go_loopw [5] (fun i wr => ∃ m : Nat, m ≤ n ∧ i = .int .i64 ((64 * m : Nat) : Int) ∧ Rh w wr (pressAll m Sha.start l).at) (fun i _ => 64 * n - (intOf i).toNat)
  case atStart => exact ⟨0, by omega, rfl, hR2⟩
  case round =>
    obtain ⟨m, hm, rfl, hr⟩ := hrel
    generalize hst : pressAll m Sha.start l = st at hr
    have HST := Lib.hid hst
    clear hst hR2
    by_cases hlt : m < n
    · obtain ⟨bl, hbl⟩ : ∃ bl, bl = (l.drop (64 * m)).take 64 := ⟨_, rfl⟩
      have hbll : bl.length = 64 := by rw [hbl, List.length_take, List.length_drop, HN.out]; omega
      have HB := Lib.hid hbl
      clear hbl
      go_upto_region 7 with fail
      generalize hw3 : World.alloc _ _ = w3
      have hrw : Rw w w3 st.at wr.heap.size (fun _ => 0) := by
        rw [← hw3]
        refine ⟨hr.below.alloc hr.below.size _, hr.out.alloc _, hr.h.alloc _, Has.new _ _, hr.h.lt⟩
      clear hw3 hr
      generalize wr.heap.size = wb at *
      clear wr
      go_wp2_with fail
      go_loopw [7] (fun i wr => ∃ k : Nat, k ≤ 16 ∧ i = .int .i64 k ∧ ∃ f, Rw w wr st.at wb f ∧ Wf bl f k 0) (fun i _ => 16 - (intOf i).toNat)
      case atStart => exact ⟨0, by omega, rfl, _, hrw, ⟨fun i hi => absurd hi (by omega), by simp [wordOf], fun _ _ => rfl⟩⟩
      case round =>
        clear hrw
        obtain ⟨k, hk, rfl, f, hf, hw⟩ := hrel
        by_cases hkl : k < 16
        · go_wp2_with fail
          go_loopw [8] (fun i wr => ∃ j : Nat, j ≤ 4 ∧ i = .int .i64 j ∧ ∃ f, Rw w wr st.at wb f ∧ Wf bl f k j) (fun i _ => 4 - (intOf i).toNat)
          case atStart => exact ⟨0, by omega, rfl, f, hf, hw⟩
          case round =>
            clear hf hw
            obtain ⟨j, hj, rfl, f, hf, hw⟩ := hrel
            by_cases hjl : j < 4
            · have c2 := hf.wrd.word k (by omega)
              have c3 := hf.wrd.free k
              have hbb : 4 * k + j < bl.length := by omega
              have hpi : p.data.toList[64 * m + 4 * k + j]? = some bl[4 * k + j] := by
                rw [HP.out, ← List.getElem?_eq_getElem hbb, HB.out, List.getElem?_take_of_lt (by omega), List.getElem?_drop]
                congr 1; omega
              have hidx : ∀ w, (Instr.index 9 (.string p) (.int .i64 (64 * (m : Int) + 4 * (k : Int) + (j : Int)))).run Tryd.prog w = .ok (.int .u8 (bl[4 * k + j].toNat : Int)) w := fun w => by
                have := index_str p (64 * m + 4 * k + j) bl[4 * k + j] hpi w
                simpa using this
              have e1 : IntKind.i64.wrap (4 * (k : Int)) = 4 * (k : Int) := IntWalk.i64_in _ (by omega)
              have e2 : IntKind.i64.wrap (64 * (m : Int) + 4 * (k : Int)) = 64 * (m : Int) + 4 * (k : Int) := IntWalk.i64_in _ (by omega)
              have e3 : IntKind.i64.wrap (64 * (m : Int) + 4 * (k : Int) + (j : Int)) = 64 * (m : Int) + 4 * (k : Int) + (j : Int) := IntWalk.i64_in _ (by omega)
              clear hpi
              have hwn := hw.next hbb
              generalize bl[4 * k + j] = bb at *
              have HWN := Lib.hid hwn
              clear hw hwn
              go_wp2_with fail
              go_region
              go_wp2_with fail
              clear hidx
              refine ⟨⟨j + 1, by omega, by go_num, _, ?_, HWN.out⟩, by simp [intOf]; omega⟩
              rw [add_byteM]
              exact (hf.set k _).drew
            · obtain rfl : j = 4 := by omega
              go_wp2_with fail
              exact ⟨⟨k + 1, by omega, by go_num, f, hf, hw.word⟩, by simp [intOf]; omega⟩
        · obtain rfl : k = 16 := by omega
          have ht : ∀ i, i < 16 → f i = sched (blockWord bl) i := fun i hi => by rw [hw.lo i hi, sched_first _ _ hi]
          have HT := Lib.hid ht
          clear hw ht
          go_wp2_with fail
          go_loopw [9] (fun i wr => ∃ k : Nat, 16 ≤ k ∧ k ≤ 64 ∧ i = .int .i64 k ∧ ∃ f, Rw w wr st.at wb f ∧ Hid (∀ i, i < k → f i = sched (blockWord bl) i)) (fun i _ => 64 - (intOf i).toNat)
          case atStart => exact ⟨16, by omega, by omega, rfl, f, hf, HT⟩
          case round =>
            clear hf HT
            obtain ⟨k, hk16, hk, rfl, f, hf, HF⟩ := hrel
            by_cases hlt2 : k < 64
            · have c1 := hf.wrd.word (k - 15) (by omega)
              have c2 := hf.wrd.word (k - 2) (by omega)
              have c3 := hf.wrd.word (k - 16) (by omega)
              have c4 := hf.wrd.word (k - 7) (by omega)
              have c5 := hf.wrd.free k
              have b1 : IntKind.i64.wrap ((k : Int) - 15) = (k : Int) - 15 := IntWalk.i64_in _ (by omega)
              have b2 : IntKind.i64.wrap ((k : Int) - 2) = (k : Int) - 2 := IntWalk.i64_in _ (by omega)
              have b3 : IntKind.i64.wrap ((k : Int) - 16) = (k : Int) - 16 := IntWalk.i64_in _ (by omega)
              have b4 : IntKind.i64.wrap ((k : Int) - 7) = (k : Int) - 7 := IntWalk.i64_in _ (by omega)
              have a1 : (0 : Int) ≤ (k : Int) - 15 := by omega
              have a2 : (0 : Int) ≤ (k : Int) - 2 := by omega
              have a3 : (0 : Int) ≤ (k : Int) - 16 := by omega
              have a4 : (0 : Int) ≤ (k : Int) - 7 := by omega
              have t1 : ((k : Int) - 15).toNat = k - 15 := by omega
              have t2 : ((k : Int) - 2).toNat = k - 2 := by omega
              have t3 : ((k : Int) - 16).toNat = k - 16 := by omega
              have t4 : ((k : Int) - 7).toNat = k - 7 := by omega
              have l1 : (k : Int) - 15 < 64 := by omega
              have l2 : (k : Int) - 2 < 64 := by omega
              have l3 : (k : Int) - 16 < 64 := by omega
              have l4 : (k : Int) - 7 < 64 := by omega
              go_wp2_with fail
              go_quiet ((go_at_call 36; exact quiet_eq (ref_right _ _ (by omega) (by omega) _)))
              replace c2 := (hf.wrd.drewN nq).word (k - 2) (by omega)
              replace c3 := (hf.wrd.drewN nq).word (k - 16) (by omega)
              replace c4 := (hf.wrd.drewN nq).word (k - 7) (by omega)
              replace c5 := (hf.wrd.drewN nq).free k
              generalize hw1 : wr.drewN nq = wq at c2 c3 c4 c5
              have hfq : Rw w wq st.at wb f := by rw [← hw1]; exact hf.drewN nq
              have c6 := hfq.wrd.word k (by omega)
              clear c1 hf hw1
              go_wp2_with fail
              go_quiet ((go_at_call 36; exact quiet_eq (ref_right _ _ (by omega) (by omega) _)))
              go_wp2_with fail
              go_region
              go_wp2_with fail
              refine ⟨⟨k + 1, by omega, by omega, by go_num, _, (hfq.drewN _).set k _, ?_⟩, by simp [intOf]; omega⟩
              intro i hi
              unfold upd
              by_cases e : i = k
              · rw [if_pos e, e, sched_next _ k hk16 hlt2, HF.out _ (by omega), HF.out _ (by omega), HF.out _ (by omega), HF.out _ (by omega)]
                rfl
              · rw [if_neg e]; exact HF.out i (by omega)
            · obtain rfl : k = 64 := by omega
              have hf64 : Rw w wr st.at wb (sched (blockWord bl)) := ⟨hf.below, hf.out, hf.h, by rw [← words_congr HF.out]; exact hf.wrd, hf.ge⟩
              clear hf HF
              have hZ : Has (wr.alloc (.cells #[.int .u32 0, .int .u32 0, .int .u32 0, .int .u32 0, .int .u32 0, .int .u32 0, .int .u32 0, .int .u32 0] 72)) wr.heap.size zero8 72 := Has.new _ _
              have hz8 : zero8.size = 8 := rfl
              have hH := hf64.h
              have HS : (words st.at 8).size = 8 := words_size _ _
              have HO := words_one st.at 8
              have H1 := Lib.hid HO
              have hrr : Rr w ((wr.alloc (.cells #[.int .u32 0, .int .u32 0, .int .u32 0, .int .u32 0, .int .u32 0, .int .u32 0, .int .u32 0, .int .u32 0] 72)).setRow wr.heap.size (words st.at 8)) st.at wb (sched (blockWord bl)) wr.heap.size st := by
                have hz := hf64.wrd.lt
                exact ⟨⟨below_setRow (hf64.below.alloc hf64.below.size _) hf64.below.size _, (hf64.out.alloc _).otherRow _ _ (by have := hf64.out.lt; omega), (hf64.h.alloc _).otherRow _ _ (by have := hf64.h.lt; omega), (hf64.wrd.alloc _).otherRow _ _ (by omega), hf64.ge⟩, (Has.new _ _).row _, hz⟩
              clear HO hf64
              generalize words st.at 8 = cs at hH HS H1 hrr ⊢
              go_upto_region 21 with (first
                | (with_reducible refine w8_load rfl _ rfl _ rfl cs hH HS ?_)
                | (with_reducible refine w8_store rfl _ _ rfl _ cs rfl rfl HS H1.out zero8 hZ hz8 ?_))
              generalize World.setRow _ _ _ = w4 at hrr ⊢
              clear hH HS H1 hZ hz8
              generalize wr.heap.size = sb at *
              go_wp2_with fail
              go_loopw [13] (fun i wr => ∃ k : Nat, k ≤ 64 ∧ i = .int .i64 k ∧ ∃ t, Rr w wr st.at wb (sched (blockWord bl)) sb t ∧ Hid (t = rounds st (sched (blockWord bl)) k)) (fun i _ => 64 - (intOf i).toNat)
              case atStart => exact ⟨0, by omega, rfl, st, hrr, rfl⟩
              case round =>
                clear hrr
                obtain ⟨k, hk, rfl, t, ht, HR⟩ := hrel
                by_cases hlt3 : k < 64
                · have c0 := ht.s.word 0 (by omega)
                  have c1 := ht.s.word 1 (by omega)
                  have c2 := ht.s.word 2 (by omega)
                  have c3 := ht.s.word 3 (by omega)
                  have c4 := ht.s.word 4 (by omega)
                  have c5 := ht.s.word 5 (by omega)
                  have c6 := ht.s.word 6 (by omega)
                  have c7 := ht.s.word 7 (by omega)
                  have cw := ht.rw.wrd.word k hlt3
                  go_wp2_with fail
                  go_quiet (first
                    | (go_at_call 36; exact quiet_eq (ref_right _ _ (by omega) (by omega) _))
                    | (go_at_call 37; exact quiet_eq (ref_k _ hlt3 _)))
                  generalize hX : t.at 7 + (BitVec.rotateRight (t.at 4) 6 ^^^ BitVec.rotateRight (t.at 4) 11 ^^^ BitVec.rotateRight (t.at 4) 25) + (t.at 4 &&& t.at 5 ||| ~~~t.at 4 &&& t.at 6) + kAt k + sched (blockWord bl) k = X
                  have HX := Lib.hid hX
                  generalize hw5 : wr.drewN nq = w5
                  have ht5 : Rr w w5 st.at wb (sched (blockWord bl)) sb t := by rw [← hw5]; exact ht.drewN nq
                  clear c0 c1 c2 c3 c4 c5 c6 c7 cw hw5 ht hX
                  have c0 := ht5.s.word 0 (by omega)
                  have c1 := ht5.s.word 1 (by omega)
                  have c2 := ht5.s.word 2 (by omega)
                  go_wp2_with fail
                  go_quiet ((go_at_call 36; exact quiet_eq (ref_right _ _ (by omega) (by omega) _)))
                  generalize hY : (BitVec.rotateRight (t.at 0) 2 ^^^ BitVec.rotateRight (t.at 0) 13 ^^^ BitVec.rotateRight (t.at 0) 22) + (t.at 0 &&& t.at 1 ||| t.at 0 &&& t.at 2 ||| t.at 1 &&& t.at 2) = Y
                  have HY := Lib.hid hY
                  generalize hw6 : w5.drewN nq = w6
                  have ht6 : Rr w w6 st.at wb (sched (blockWord bl)) sb t := by rw [← hw6]; exact ht5.drewN nq
                  clear c0 c1 c2 hw6 ht5 hY
                  have c0 := ht6.s.word 0 (by omega)
                  have c1 := ht6.s.word 1 (by omega)
                  have c2 := ht6.s.word 2 (by omega)
                  have c3 := ht6.s.word 3 (by omega)
                  have c4 := ht6.s.word 4 (by omega)
                  have c5 := ht6.s.word 5 (by omega)
                  have c6 := ht6.s.word 6 (by omega)
                  have hs8 : (words t.at 8).size = 8 := words_size _ _
                  have hts := ht6.s
                  go_wp2_with (with_reducible refine w8_store_lit rfl _ _ rfl _ _ _ _ _ _ _ _ _ rfl rfl _ hts hs8 ?_)
                  go_roundw
                  case rel => exact ⟨k + 1, by omega, by go_num, ⟨X + Y, t.at 0, t.at 1, t.at 2, t.at 3 + X, t.at 4, t.at 5, t.at 6⟩, ht6.lit X Y, Lib.hid (by rw [← HX.out, ← HY.out, HR.out]; rfl)⟩
                  case measure => simp [intOf]; omega
                · obtain rfl : k = 64 := by omega
                  go_wp2_with fail
                  go_loopw [16] (fun i wr => ∃ k : Nat, k ≤ 8 ∧ i = .int .i64 k ∧ ∃ g, Rr w wr g wb (sched (blockWord bl)) sb t ∧ Hid (∀ j, g j = if j < k then st.at j + t.at j else st.at j)) (fun i _ => 8 - (intOf i).toNat)
                  case atStart => exact ⟨0, by omega, rfl, st.at, ht, Lib.hid fun j => by rw [if_neg (by omega)]⟩
                  case round =>
                    clear ht
                    obtain ⟨k, hk, rfl, g, hg, HG⟩ := hrel
                    by_cases hlt4 : k < 8
                    · have c1 := hg.rw.h.word k hlt4
                      have c2 := hg.s.word k hlt4
                      have c3 := hg.rw.h.free k
                      have hkI : (k : Int) < 8 := by omega
                      have e : g k = st.at k := by rw [HG.out, if_neg (by omega)]
                      have E1 := Lib.hid e
                      clear e
                      go_wp2_with fail
                      go_region
                      all_goals
                        first | go_wp2_with fail | skip
                        go_roundw
                        case rel => exact ⟨k + 1, by omega, by go_num, _, (hg.seth k (g k + t.at k)).drew, Lib.hid fun j => by
                          unfold upd
                          by_cases e : j = k
                          · rw [if_pos e, e, if_pos (by omega), E1.out]
                          · rw [if_neg e, HG.out]
                            by_cases h2 : j < k
                            · rw [if_pos h2, if_pos (by omega)]
                            · rw [if_neg h2, if_neg (by omega)]⟩
                        case measure => simp [intOf]; omega
                    · obtain rfl : k = 8 := by omega
                      have e : words g 8 = words (press st bl).at 8 := words_congr fun j hj => by
                        rw [HG.out, if_pos hj, press, ← HR.out]
                        match j, hj with
                        | 0, _ => rfl
                        | 1, _ => rfl
                        | 2, _ => rfl
                        | 3, _ => rfl
                        | 4, _ => rfl
                        | 5, _ => rfl
                        | 6, _ => rfl
                        | 7, _ => rfl
                      have hnx : pressAll (m + 1) Sha.start l = press st bl := by rw [pressAll_succ, HST.out, ← HB.out]
                      have hrh : Rh w wr (pressAll (m + 1) Sha.start l).at := ⟨hg.rw.below, hg.rw.out, by rw [hnx, ← e]; exact hg.rw.h⟩
                      clear e hnx hg HG
                      go_wp2_with fail
                      go_roundw
                      case rel => exact ⟨m + 1, by omega, by go_num, hrh⟩
                      case measure => simp [intOf]; omega
    · obtain rfl : m = n := by omega
      have hsha : sha s.data.toList = nameOf st := by rw [HSH.out, HST.out]
      have HSH2 := Lib.hid hsha
      clear hsha HSH HST hlt
      go_upto_region 32 with fail
      generalize hw3 : World.alloc _ _ = w3
      have hro : Ro w w3 st wr.heap.size 0 := by
        rw [← hw3]
        exact ⟨hr.below.alloc hr.below.size _, hr.out.alloc _, hr.h.alloc _, by rw [hz32_eq]; exact Has.new _ _, hr.h.lt⟩
      clear hw3 hr
      generalize wr.heap.size = O at *
      go_wp2_with fail
      go_loopw [18] (fun i wr => ∃ k : Nat, k ≤ 32 ∧ i = .int .i64 k ∧ Ro w wr st O k) (fun i _ => 32 - (intOf i).toNat)
      case atStart => exact ⟨0, by omega, rfl, hro⟩
      case round =>
        clear hro
        obtain ⟨k, hk, rfl, hs⟩ := hrel
        by_cases hlt : k < 32
        · have c1 := hs.h.word (k / 4) (by omega)
          have c2 := hs.out.byte k (by rw [nameTo_length _ _ (by omega)]; omega)
          have c3 := hs.out.free k
          go_wp2_with fail
          go_roundw
          case rel => exact ⟨k + 1, by omega, by go_num, hs.next hlt⟩
          case measure => simp [intOf]; omega
        · obtain rfl : k = 32 := by omega
          have hout := hs.out
          have hbel := hs.below
          have hres := hs.res
          have e : nameTo st 32 = nameOf st := by simp [nameTo, List.take_of_length_le, nameOf_length]
          rw [e, ← HSH2.out] at hout
          have hl32 : (sha s.data.toList).length = 32 := by rw [HSH2.out]; exact nameOf_length _
          clear hs e
          have HZ := Lib.hid (bytesV_one (sha s.data.toList))
          have hsz : some (bytesV (sha s.data.toList)).size = some 32 := by rw [bytesV_size, hl32]
          have HS := Lib.hid hsz
          have HRS := Lib.hid hz32_size
          clear hsz hl32
          generalize hcs : bytesV (sha s.data.toList) = cs at *
          go_wp2_with (first
            | (with_reducible refine wpList_load_row rfl 25 _ rfl _ rfl 25 cs (0, 0) _ hout.out Tryd.underlying25 rfl (infoHash.trans HS.out.symm) ?_)
            | (with_reducible refine wpList_store_row rfl 25 _ _ rfl _ _ rfl rfl 25 _ hres.out (infoHash.trans HS.out.symm) (HRS.out.trans (Option.some.inj HS.out).symm) HZ.out ?_))
          exact bodyPost_ret (v := .agg cs) (results_cell_row Tryd.results30 _ _ w.heap.size 25 cs (0, 0) _ rfl (hres.row cs).out Tryd.underlying25 rfl (infoHash.trans HS.out.symm)) rfl ⟨by rw [hcs], below_setRow hbel (by omega) _⟩
end Go.Proofs.YtomegahohiijcaaDoor
/-
  The reference's Double (layer 1).
-/
namespace Go.Proofs.YtomegahohiijcaaDoor
open Go.RowKit Mem Sha
structure Rd (w wr : World) (D : Nat) (l : List UInt8) : Prop where
  below : Below w.heap.size w wr
  res : Has wr w.heap.size hz32 25
  h : Has wr D (bytesV l) 25
theorem Rd.on {w wr w' : World} {D : Nat} {l : List UInt8} (h : Rd w wr D l) (hb : Below wr.heap.size wr w') : Rd w w' D l := ⟨h.below.trans (hb.mono h.below.size), below_has hb h.res h.res.lt, below_has hb h.h h.h.lt⟩
theorem take_next {l : List UInt8} {i : Nat} (h : i < l.length) : l.take (i + 1) = l.take i ++ [l[i]] := List.take_succ_eq_append_getElem h
set_option maxRecDepth 100000 in
set_option maxHeartbeats 1000000 in
theorem ref_double (s : ByteArray) (hs : s.size ≤ 1048576) (w : World) :
    Calls Tryd.prog 23 #[.string s] w fun e w' => e = .returned (.agg (bytesV (sha (sha s.data.toList)))) ∧ Below w.heap.size w w' := by
  have cO := ref_of s hs
  have hl : (sha s.data.toList).length = 32 := nameOf_length _
  generalize sha s.data.toList = l at *
  have HL := Lib.hid hl
  have KO := Lib.hid cO
  have HO := Lib.hid (bytesV_one l)
  have hsz : some (bytesV l).size = some 32 := by rw [bytesV_size, hl]
  have HSZ := Lib.hid hsz
  clear hsz hl cO hs
  go_enter Tryd.func23, Tryd.ntmps23
  go_upto_region 1 with fail
  generalize hw1 : World.alloc _ _ = w1
  have hR : Has w1 w.heap.size hz32 25 := by rw [← hw1]; exact Has.new _ _
  have hB : Below w.heap.size w w1 := by rw [← hw1]; exact (Below.refl _ _).alloc (Nat.le_refl _) _
  clear hw1
  go_wp2_with fail
  refine (KO.out _).mono ?_
  rintro e w2 ⟨rfl, hb2⟩
  have hR2 := below_has hb2 hR hR.lt
  have hB2 := hB.trans (hb2.mono hB.size)
  clear hR hB hb2
  go_upto_region 2 with (with_reducible refine wpList_store_row rfl 25 _ _ rfl _ (bytesV l) rfl rfl 25 _ (heap_alloc_new w2 _) (infoHash.trans HSZ.out.symm) (by simp [Option.some.inj HSZ.out]) HO.out ?_)
  generalize hw3 : World.setRow _ _ _ = w3
  have h3 : Rd w w3 w2.heap.size l := by
    rw [← hw3]
    exact ⟨below_setRow (hB2.alloc hB2.size _) hB2.size _, (hR2.alloc _).otherRow _ _ (by have := hR2.lt; omega), (Has.new _ _).row _⟩
  clear hw3 hR2 hB2
  generalize w2.heap.size = D at *
  go_wp2_with fail
  go_loopw [4, 5] (fun v4 v5 wr => ∃ (i : Nat) (p : ByteArray), i ≤ 32 ∧ v5 = .int .i64 i ∧ v4 = .string p ∧ p.size = i ∧ Hid (p.data.toList = l.take i) ∧ Rd w wr D l) (fun _ v5 _ => 32 - (intOf v5).toNat)
  case atStart => exact ⟨0, ⟨#[]⟩, by omega, rfl, rfl, rfl, rfl, h3⟩
  case round =>
    clear h3
    obtain ⟨i, p, hi, rfl, rfl, hps, HP, hr⟩ := hrel
    have HPS := Lib.hid hps
    have hple : p.size ≤ 32 := by omega
    clear hps
    by_cases hlt : i < 32
    · have hil : i < l.length := by rw [HL.out]; exact hlt
      have c1 := hr.h.byte i hil
      have hiI : (i : Int) < 32 := by omega
      have hn := take_next hil
      generalize l[i] = x at *
      have HN := Lib.hid hn
      obtain ⟨bt, hbt⟩ : ∃ bt : ByteArray, bt = ⟨#[x]⟩ := ⟨_, rfl⟩
      have hcv : (Go.convert 52 9 (.slice (some ⟨wr.heap.size, 0, none⟩) 1 1)).run Tryd.prog (wr.alloc (.cells #[.int .u8 (x.toNat : Int)] 5)) = .ok (.string bt) (wr.alloc (.cells #[.int .u8 (x.toNat : Int)] 5)) := by
        rw [hbt]
        exact conv_bytes _ wr.heap.size [x] 1 (Has.new (bytesV [x]) _)
      have hbs : bt.size = 1 := by rw [hbt]; rfl
      have hbs2 : bt.size ≤ 1 := by omega
      have HBT := Lib.hid hbt
      have HBS := Lib.hid hbs
      clear hbt hbs hn hil
      go_wp2_with fail
      clear hcv
      refine ⟨⟨i + 1, p ++ bt, by omega, by go_num, rfl, ?_, ?_, hr.on ((Below.refl _ _).alloc (Nat.le_refl _) _)⟩, by simp [intOf]; omega⟩
      · rw [ByteArray.size_append, HBS.out, HPS.out]
      · show _ = _
        rw [append_bytes2, HBT.out, HP.out, HN.out]
    · obtain rfl : i = 32 := by omega
      have e : p.data.toList = l := by rw [HP.out, List.take_of_length_le (by rw [HL.out]; omega)]
      have cO2 := ref_of p (by omega)
      rw [e] at cO2
      have KO2 := Lib.hid cO2
      have hl2 : (sha l).length = 32 := nameOf_length _
      have HO2 := Lib.hid (bytesV_one (sha l))
      have hsz2 : some (bytesV (sha l)).size = some 32 := by rw [bytesV_size, hl2]
      have HS2 := Lib.hid hsz2
      clear hsz2 hl2 e cO2 HP HO HSZ HL
      generalize hcs3 : bytesV (sha l) = rs at *
      go_wp2_with fail
      refine (KO2.out _).mono ?_
      rintro e w5 ⟨rfl, hb5⟩
      have hr2 := hr.on hb5
      have hres := hr2.res
      go_wp2_with (with_reducible refine wpList_store_row rfl 25 _ _ rfl _ rs rfl rfl 25 _ hres.out (infoHash.trans HS2.out.symm) (hz32_size.trans (Option.some.inj HS2.out).symm) HO2.out ?_)
      exact bodyPost_ret (v := .agg rs) (results_cell_row Tryd.results23 _ _ w.heap.size 25 rs (0, 0) _ rfl (hres.row rs).out Tryd.underlying25 rfl (infoHash.trans HS2.out.symm)) rfl ⟨by rw [hcs3], below_setRow hr2.below (by omega) _⟩
end Go.Proofs.YtomegahohiijcaaDoor
