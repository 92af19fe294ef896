import Derived.Test.YthcebnfdapcllaaGreatDoorRows
import Derived.Test.YthcebnfdapcllaaGreatDoorRDigTake
import Derived.Test.YthcebnfdapcllaaGreatDoorRBunQ21
import Derived.Deep.RegionHeld3
import Derived.Test.YthcebnfdapcllaaGreatDoorRBunQ19
namespace Go.Proofs.YthcebnfdapcllaaGreatDoor
open Go.RowKit Mem Sha
theorem bytesV_set (l : List UInt8) (i : Nat) (b : UInt8) : (bytesV l).setIfInBounds i (.int .u8 (b.toNat : Int)) = bytesV (l.set i b) := by
  apply Array.ext_getElem?
  intro j
  simp only [bytesV, Array.getElem?_setIfInBounds, List.getElem?_toArray, List.getElem?_map, List.getElem?_set, List.size_toArray, List.length_map]
  by_cases h : i = j
  · subst h; by_cases h2 : i < l.length <;> simp [h2]
  · simp [h]
theorem lenByte (n i : Nat) (X : Int) (hX : X = ((n : Int) * 8) / 2 ^ (8 * (7 - i))) : X % 256 = ((UInt8.ofNat (n * 8 / 2 ^ (8 * (7 - i)) % 256)).toNat : Int) := by
  have e : X = ((n * 8 / 2 ^ (8 * (7 - i)) : Nat) : Int) := by rw [hX]; simp
  rw [e, UInt8.toNat_ofNat']
  omega
def lenTo (n k : Nat) : List UInt8 := (lenBytes n).take k ++ List.replicate (8 - k) 0
theorem lenBytes_length (n : Nat) : (lenBytes n).length = 8 := by simp [lenBytes]
theorem lenTo_length (n k : Nat) (hk : k ≤ 8) : (lenTo n k).length = 8 := by simp [lenTo, lenBytes_length]; omega
theorem lenTo_next (n k : Nat) (hk : k < 8) : (lenTo n k).set k (UInt8.ofNat (n * 8 / 2 ^ (8 * (7 - k)) % 256)) = lenTo n (k + 1) := by
  have hl : ((lenBytes n).take k).length = k := by simp [lenBytes_length]; omega
  have hg : (lenBytes n)[k]'(by rw [lenBytes_length]; exact hk) = UInt8.ofNat (n * 8 / 2 ^ (8 * (7 - k)) % 256) := by simp [lenBytes]
  unfold lenTo
  rw [List.set_append_right _ _ (by omega), hl, Nat.sub_self, show 8 - k = (8 - (k + 1)) + 1 by omega, List.replicate_succ, List.set_cons_zero,
    List.take_succ_eq_append_getElem (by rw [lenBytes_length]; exact hk), hg, List.append_assoc]
  rfl
def zs (z : Nat) : ByteArray := ⟨(List.replicate z 0).toArray⟩
def lb (n : Nat) : ByteArray := ⟨(lenBytes n).toArray⟩
theorem zs_size (z : Nat) : (zs z).size = z := by show (List.replicate z (0 : UInt8)).toArray.size = z; simp
theorem lb_size (n : Nat) : (lb n).size = 8 := by show (lenBytes n).toArray.size = 8; simp [lenBytes_length]
theorem end_eq (n z : Nat) (hz : z = (119 - n % 64) % 64) : (⟨#[128]⟩ ++ zs z ++ lb n : ByteArray) = ⟨(Sha.ending n).toArray⟩ := by
  apply ByteArray.ext
  rw [ByteArray.data_append, ByteArray.data_append]
  apply Array.toList_inj.1
  rw [Array.toList_append, Array.toList_append, zs, lb, Sha.ending, ← hz]
  rfl
theorem zeros (z : Nat) (hz : z < 64) (w : World) : Calls Tryz.prog 128 #[.string ⟨#[0]⟩, .int .i64 (z : Int)] w fun e w' => e = .returned (.string (zs z)) ∧ Below w.heap.size w w' := by
  have h := Tryz.strings_Repeat ⟨#[0]⟩ z w (by omega) (by show 1 * z ≤ _; omega)
  have e : Lib.repeatL [0] z = List.replicate z 0 := by
    have := Lib.repeatL_replicate 0 1 z
    rw [Nat.mul_one] at this
    exact this
  rw [show (⟨#[0]⟩ : ByteArray).data.toList = [0] from rfl, e] at h
  exact h
theorem conv_bytes (wx : World) (b : Nat) (l : List UInt8) (c : Nat) (h : Has wx b (bytesV l) 5) :
    (Go.convert 118 9 (.slice (some ⟨b, 0, none⟩) l.length c)).run Tryz.prog wx = .ok (.string ⟨l.toArray⟩) wx := by
  have := run_convert_bytes_arg (P := Tryz.prog) wx 118 5 Tryz.underlying118 Tryz.underlying5 b 0 l.length c (l.map fun b => (b.toNat : Int)) (by simp) (fun i hi => by
    rw [Nat.zero_add, h.byte i hi]; simp [hi]) 9 Tryz.underlying9
  rw [this]
  simp [strOfNums, Function.comp_def]
set_option maxRecDepth 100000 in
set_option maxHeartbeats 1000000 in
theorem ending (n : Nat) (hn : n ≤ 1152921504606846976) (w : World) :
    Calls Tryz.prog 114 #[.int .u64 n] w fun e w' => e = .returned (.string ⟨(Sha.ending n).toArray⟩) ∧ Below w.heap.size w w' := by
  have hmk : ∀ w, (Instr.makeSlice 118 (.int .i64 8) (.int .i64 8)).run Tryz.prog w = .ok (.slice (some ⟨w.heap.size, 0, none⟩) 8 8) (w.alloc (.cells (bytesV (List.replicate 8 0)) 5)) := fun _ => by kernel_rfl
  go_enter Tryz.func114, Tryz.ntmps114
  go_wp2_with fail
  obtain ⟨z, hz0⟩ : ∃ z : Nat, z = (119 - n % 64) % 64 := ⟨_, rfl⟩
  have hz : (119 - (n : Int) % 64) % 64 = (z : Int) := by omega
  rw [hz]
  have HZ0 := Lib.hid hz0
  have hz64 : z < 64 := by omega
  clear hz hz0
  go_loopw [11] (fun i wr => ∃ k : Nat, k ≤ 8 ∧ i = .int .i64 k ∧ Below w.heap.size w wr ∧ Has wr w.heap.size (bytesV (lenTo n k)) 5) (fun i _ => 8 - (intOf i).toNat)
  case atStart => exact ⟨0, by omega, rfl, (Below.refl _ _).alloc (Nat.le_refl _) _, Has.new _ _⟩
  case round =>
    obtain ⟨k, hk, rfl, hbel, hH⟩ := hrel
    by_cases hlt : k < 8
    · have ck := hH.byte k (by rw [lenTo_length n k hk]; exact hlt)
      have cf := hH.free k
      go_wp2_with fail
      rw [lenByte n k _ rfl]
      refine ⟨⟨k + 1, by omega, by go_num, hbel.setCell (Nat.le_refl _) _, ?_⟩, by simp [intOf]; omega⟩
      rw [← lenTo_next n k hlt, ← bytesV_set]
      exact hH.set _
    · obtain rfl : k = 8 := by omega
      go_wp2_with fail
      have hlt8 : lenTo n 8 = lenBytes n := by simp [lenTo, List.take_of_length_le, lenBytes_length]
      rw [hlt8] at hH
      have hconv : ∀ wx, Has wx w.heap.size (bytesV (lenBytes n)) 5 → (Go.convert 118 9 (.slice (some ⟨w.heap.size, 0, none⟩) 8 8)).run Tryz.prog wx = .ok (.string (lb n)) wx := fun wx h => by
        have := conv_bytes wx w.heap.size (lenBytes n) 8 h
        rwa [lenBytes_length] at this
      have hwr : IntKind.i64.wrap (z : Int) = (z : Int) := IntWalk.i64_in _ (by omega)
      clear hlt8
      have hs1 := zs_size z
      have hs2 := lb_size n
      have hs3 : (zs z).size ≤ 64 := by omega
      have hs4 : (lb n).size ≤ 8 := by omega
      clear hs1 hs2
      have hHd : Has wr.drew w.heap.size (bytesV (lenBytes n)) 5 := hH
      go_region_with ((go_at_call 128; (with_reducible refine (zeros z hz64 _).mono ?_); rintro e w1 ⟨rfl, hb1⟩; have h1 := below_has hb1 hH hH.lt))
      all_goals
        go_wp2_with fail
        go_ret
        refine ⟨?_, hbel.drew.trans (hb1.mono hbel.size)⟩
        rw [← end_eq n z HZ0.out]
        rfl
end Go.Proofs.YthcebnfdapcllaaGreatDoor
namespace Go.Proofs.YthcebnfdapcllaaGreatDoor
open Go.RowKit Mem Sha
def nameTo (s : S8) (k : Nat) : List UInt8 := (nameOf s).take k ++ List.replicate (32 - k) 0
theorem nameOf_length (s : S8) : (nameOf s).length = 32 := by simp [nameOf]
theorem nameTo_length (s : S8) (k : Nat) (hk : k ≤ 32) : (nameTo s k).length = 32 := by simp [nameTo, nameOf_length]; omega
theorem nameTo_next (s : S8) (k : Nat) (hk : k < 32) : (nameTo s k).set k (UInt8.ofNat ((s.at (k / 4)).toNat / 2 ^ (24 - 8 * (k % 4)) % 256)) = nameTo s (k + 1) := by
  have hl : ((nameOf s).take k).length = k := by simp [nameOf_length]; omega
  have hg : (nameOf s)[k]'(by rw [nameOf_length]; exact hk) = UInt8.ofNat ((s.at (k / 4)).toNat / 2 ^ (24 - 8 * (k % 4)) % 256) := by simp [nameOf]
  unfold nameTo
  rw [List.set_append_right _ _ (by omega), hl, Nat.sub_self, show 32 - k = (32 - (k + 1)) + 1 by omega, List.replicate_succ, List.set_cons_zero,
    List.take_succ_eq_append_getElem (by rw [nameOf_length]; exact hk), hg, List.append_assoc]
  rfl
theorem nameByte (x : BitVec 32) (m : Nat) : Wd.n x / (2 : Int) ^ m % 256 = ((UInt8.ofNat (x.toNat / 2 ^ m % 256)).toNat : Int) := by
  have e : Wd.n x / (2 : Int) ^ m = ((x.toNat / 2 ^ m : Nat) : Int) := by unfold Wd.n; simp
  rw [e, UInt8.toNat_ofNat']
  omega
theorem info42 : (Tryz.prog.info? 166).map (·.size) = some 8 := by kernel_rfl
theorem infoHash : (Tryz.prog.info? 28).map (·.size) = some 32 := by kernel_rfl
set_option maxRecDepth 100000 in
theorem index8w (f : Nat → W32) (k : Nat) (hk : k < 8) (w : World) : (Instr.index 166 (.agg #[.int .u32 (Wd.n (f 0)), .int .u32 (Wd.n (f 1)), .int .u32 (Wd.n (f 2)), .int .u32 (Wd.n (f 3)), .int .u32 (Wd.n (f 4)), .int .u32 (Wd.n (f 5)), .int .u32 (Wd.n (f 6)), .int .u32 (Wd.n (f 7))]) (.int .i64 (k : Int))).run Tryz.prog w = .ok (.int .u32 (Wd.n (f k))) w := by
  obtain rfl | rfl | rfl | rfl | rfl | rfl | rfl | rfl : k = 0 ∨ k = 1 ∨ k = 2 ∨ k = 3 ∨ k = 4 ∨ k = 5 ∨ k = 6 ∨ k = 7 := by omega
  all_goals rfl
set_option maxRecDepth 100000 in
theorem of_at (f : Nat → W32) (k : Nat) (hk : k < 8) : (S8.of f).at k = f k := by
  obtain rfl | rfl | rfl | rfl | rfl | rfl | rfl | rfl : k = 0 ∨ k = 1 ∨ k = 2 ∨ k = 3 ∨ k = 4 ∨ k = 5 ∨ k = 6 ∨ k = 7 := by omega
  all_goals rfl
structure Nam (w wr : World) (f : Nat → W32) (k : Nat) : Prop where
  below : Below w.heap.size w wr
  res : ∃ cs, cs.size = 32 ∧ Has wr w.heap.size cs 28
  out : Has wr (w.heap.size + 1) (bytesV (nameTo (S8.of f) k)) 28
theorem Nam.next {w wr : World} {f : Nat → W32} {k j : Nat} (h : Nam w wr f (4 * k + j)) (hk : k < 8) (hj : j < 4) :
    Nam w (wr.setCell ⟨w.heap.size + 1, 4 * k + j, none⟩ (.int .u8 (Wd.n (f k) / (2 : Int) ^ (24 - 8 * j) % 256))) f (4 * k + (j + 1)) where
  below := h.below.setCell (by simp) _
  res := by obtain ⟨cs, h1, h2⟩ := h.res; exact ⟨cs, h1, h2.other _ _ (by simp)⟩
  out := by
    rw [nameByte, ← of_at f k hk, show 4 * k + (j + 1) = 4 * k + j + 1 by omega, ← nameTo_next _ _ (by omega), show (4 * k + j) / 4 = k by omega, show (4 * k + j) % 4 = j by omega, ← bytesV_set]
    exact h.out.set _
def hz32 : Array Value := #[.int .u8 0, .int .u8 0, .int .u8 0, .int .u8 0, .int .u8 0, .int .u8 0, .int .u8 0, .int .u8 0, .int .u8 0, .int .u8 0, .int .u8 0, .int .u8 0, .int .u8 0, .int .u8 0, .int .u8 0, .int .u8 0, .int .u8 0, .int .u8 0, .int .u8 0, .int .u8 0, .int .u8 0, .int .u8 0, .int .u8 0, .int .u8 0, .int .u8 0, .int .u8 0, .int .u8 0, .int .u8 0, .int .u8 0, .int .u8 0, .int .u8 0, .int .u8 0]
theorem hz32_size : hz32.size = 32 := rfl
theorem hz32_eq (s : S8) : bytesV (nameTo s 0) = hz32 := rfl
theorem Nam.start (w : World) (f : Nat → W32) : Nam w ((w.alloc (.cells hz32 28)).alloc (.cells hz32 28)) f (4 * 0 + 0) where
  below := ((Below.refl _ _).alloc (Nat.le_refl _) _).alloc (by simp) _
  res := ⟨hz32, rfl, (Has.new _ _).alloc _⟩
  out := by
    rw [show 4 * 0 + 0 = 0 from rfl, hz32_eq]
    have := Has.new (w := w.alloc (.cells hz32 28)) hz32 28
    rwa [World.size_alloc] at this
set_option maxRecDepth 100000 in
set_option maxHeartbeats 1000000 in
theorem name (b : Nat) (f : Nat → W32) (l : List UInt8) (t : Nat) (w : World) (hH : Has w b (hcells f l t) 169) :
    Calls Tryz.prog 115 #[.pointer (some ⟨b, 0, none⟩)] w fun e w' => e = .returned (.agg (bytesV (nameOf (S8.of f)))) ∧ Below w.heap.size w w' := by
  have hrange : ∀ w1, Below w.heap.size w w1 → w1.rangeAt b 0 ((List.range 8).map fun i => Value.int .u32 (Wd.n (f i))) := fun w1 h1 j v hv => by
    have hj : j < 8 := by
      by_cases h : j < 8
      · exact h
      · rw [List.getElem?_eq_none (by simp; omega)] at hv; cases hv
    rw [Nat.zero_add, (below_has h1 hH hH.lt).cell, hcells_state f l t j hj]
    simpa [hj] using hv
  have hr2 : ∀ o1 o2, ((w.alloc o1).alloc o2).rangeAt b 0 ((List.range 8).map fun i => Value.int .u32 (Wd.n (f i))) := fun o1 o2 => hrange _ (((Below.refl _ _).alloc (Nat.le_refl _) o1).alloc (by simp) o2)
  have HR := Lib.hid hr2
  clear hrange hr2
  go_enter Tryz.func115, Tryz.ntmps115
  go_wp2_with (with_reducible refine wpList_load_mid rfl 166 _ rfl b 0 rfl ((List.range 8).map fun i => Value.int .u32 (Wd.n (f i))) _ (HR.out _ _) Tryz.underlying166 rfl (info42.trans (by simp)) ?_)
  go_loopw [11] (fun i wr => ∃ k : Nat, k ≤ 8 ∧ i = .int .i64 k ∧ Nam w wr f (4 * k + 0)) (fun i _ => 8 - (intOf i).toNat)
  case atStart => exact ⟨0, by omega, rfl, Nam.start w f⟩
  case round =>
    obtain ⟨k, hk, rfl, hs⟩ := hrel
    by_cases hlt : k < 8
    · have hidx := index8w f k hlt
      go_wp2_with fail
      clear hidx
      go_loopw [15] (fun i wr => ∃ j : Nat, j ≤ 4 ∧ i = .int .i64 j ∧ Nam w wr f (4 * k + j)) (fun i _ => 4 - (intOf i).toNat)
      case atStart => exact ⟨0, by omega, rfl, hs⟩
      case round =>
        obtain ⟨j, hj, rfl, ht⟩ := hrel
        by_cases hjl : j < 4
        · have c1 := ht.out.byte (4 * k + j) (by rw [nameTo_length _ _ (by omega)]; omega)
          have c2 := ht.out.free (4 * k + j)
          go_wp2_with fail
          go_roundw
          case rel => exact ⟨j + 1, by omega, by go_num, ht.next hlt hjl⟩
          case measure => simp [intOf]; omega
        · obtain rfl : j = 4 := by omega
          go_wp2_with fail
          go_roundw
          case rel => exact ⟨k + 1, by omega, by go_num, ht⟩
          case measure => simp [intOf]; omega
    · obtain rfl : k = 8 := by omega
      have hout := hs.out
      have hbel := hs.below
      obtain ⟨rs, hrs, hres⟩ := hs.res
      have e : nameTo (S8.of f) (4 * 8 + 0) = nameOf (S8.of f) := by simp [nameTo, List.take_of_length_le, nameOf_length]
      rw [e] at hout
      clear hs e
      have HZ := Lib.hid (bytesV_one (nameOf (S8.of f)))
      have hsz : some (bytesV (nameOf (S8.of f))).size = some 32 := by rw [bytesV_size, nameOf_length]
      have HS := Lib.hid hsz
      have HRS := Lib.hid hrs
      clear hsz hrs
      generalize hcs : bytesV (nameOf (S8.of f)) = cs at *
      go_wp2_with (first
        | (with_reducible refine wpList_load_row rfl 28 _ rfl _ rfl 28 cs (0, 0) _ hout.out Tryz.underlying28 rfl (infoHash.trans HS.out.symm) ?_)
        | (with_reducible refine wpList_store_row rfl 28 _ _ rfl _ _ rfl rfl 28 _ hres.out (infoHash.trans HS.out.symm) (HRS.out.trans (Option.some.inj HS.out).symm) HZ.out ?_))
      exact bodyPost_ret (v := .agg cs) (results_cell_row Tryz.results115 _ _ w.heap.size 28 cs (0, 0) _ rfl (hres.row cs).out Tryz.underlying28 rfl (infoHash.trans HS.out.symm)) rfl ⟨by rw [hcs], below_setRow hbel (by omega) _⟩
end Go.Proofs.YthcebnfdapcllaaGreatDoor
namespace Go.Proofs.YthcebnfdapcllaaGreatDoor
open Go.RowKit Mem Sha
structure Nws (w wr : World) (k : Nat) : Prop where
  below : Below w.heap.size w wr
  hsh : ∃ g, Has wr w.heap.size (hcells g (List.replicate 64 0) 0) 169 ∧ (∀ j, j < k → g j = Sha.start.at j)
theorem Nws.next {w wr : World} {k : Nat} (h : Nws w wr k) (hk : k < 8) {g : Nat → W32} (hg : Has wr w.heap.size (hcells g (List.replicate 64 0) 0) 169) (h1 : ∀ j, j < k → g j = Sha.start.at j) :
    Nws w (wr.setCell ⟨w.heap.size, k, none⟩ (.int .u32 (Wd.n (Sha.start.at k)))).drew (k + 1) where
  below := (h.below.setCell (by simp) _).drew
  hsh := by
    refine ⟨_, by have := (hg.set (i := k) (.int .u32 (Wd.n (Sha.start.at k)))).drew; rw [hcells_setState _ _ _ _ _ hk] at this; exact this, fun j hj => ?_⟩
    unfold upd
    by_cases e : j = k
    · rw [if_pos e, e]
    · rw [if_neg e]; exact h1 j (by omega)
def zhash : Array Value := hcells (fun _ => 0) (List.replicate 64 0) 0
theorem zeroHash (w : World) : (zeroValue 169).run Tryz.prog w = .ok (.agg zhash) w := by kernel_rfl
set_option maxRecDepth 100000 in
set_option maxHeartbeats 1000000 in
theorem new (w : World) (hT : Tab w) :
    Calls Tryz.prog 91 #[] w fun e w' => e = .returned (.pointer (some ⟨w.heap.size, 0, none⟩)) ∧ Below w.heap.size w w' ∧ HsI w' w.heap.size [] := by
  have hzv := zeroHash
  go_enter Tryz.func91, Tryz.ntmps91
  go_wp2_with fail
  clear hzv
  go_loopw [4] (fun i wr => ∃ k : Nat, k ≤ 8 ∧ i = .int .i64 k ∧ Nws w wr k) (fun i _ => 8 - (intOf i).toNat)
  case atStart => exact ⟨0, by omega, rfl, (Below.refl _ _).alloc (Nat.le_refl _) _, _, Has.new _ _, fun j hj => absurd hj (by omega)⟩
  case round =>
    obtain ⟨k, hk, rfl, hs⟩ := hrel
    obtain ⟨g, hg, h1⟩ := hs.hsh
    by_cases hlt : k < 8
    · have H1 := Lib.hid h1
      clear h1
      have ck := (hg.cell k).trans (hcells_state g _ _ k hlt)
      have cf := hg.free k
      have cs := (hT.below hs.below).s k hlt
      go_wp2_with fail
      go_region
      go_wp2_with fail
      exact ⟨⟨k + 1, by omega, by go_num, hs.next hlt hg H1.out⟩, by simp [intOf]; omega⟩
    · obtain rfl : k = 8 := by omega
      have hbel := hs.below
      have hI : HsI wr w.heap.size [] := by
        refine ⟨g, _, hg, by simp, ?_, by simp⟩
        show S8.of g = Sha.start
        unfold S8.of
        rw [h1 0 (by omega), h1 1 (by omega), h1 2 (by omega), h1 3 (by omega), h1 4 (by omega), h1 5 (by omega), h1 6 (by omega), h1 7 (by omega)]
        rfl
      clear h1 hs
      go_wp2_with fail
      go_ret
      exact ⟨rfl, hbel, hI⟩
end Go.Proofs.YthcebnfdapcllaaGreatDoor
namespace Go.Proofs.YthcebnfdapcllaaGreatDoor
open Go.RowKit Mem Sha
def flat (ps : List ByteArray) : List UInt8 := ps.flatMap (·.data.toList)
theorem flat_next (ps : List ByteArray) (k : Nat) (hk : k < ps.length) : flat (ps.take (k + 1)) = flat (ps.take k) ++ ps[k].data.toList := by
  unfold flat
  rw [List.take_succ_eq_append_getElem hk, List.flatMap_append]
  simp
theorem flat_le (ps : List ByteArray) (k : Nat) : (flat (ps.take k)).length ≤ (flat ps).length := by
  have e : flat ps = flat (ps.take k) ++ flat (ps.drop k) := by unfold flat; rw [← List.flatMap_append, List.take_append_drop]
  rw [e, List.length_append]; omega
def Parts (w : World) (a : Option Addr) (b : Nat) (ps : List ByteArray) : Prop :=
  0 < ps.length → ∃ ab ao, a = some ⟨ab, ao, none⟩ ∧ ab ≠ b ∧ ∀ i (hi : i < ps.length), w.cell? ⟨ab, ao + i, none⟩ = some (.string ps[i])
set_option maxRecDepth 100000 in
set_option maxHeartbeats 1000000 in
theorem write (b : Nat) (m : List UInt8) (a : Option Addr) (ps : List ByteArray) (n c : Nat) (hn : n = ps.length) (w : World) (hT : Tab w) (hb1 : b ≠ 1) (hb2 : b ≠ 0)
    (hm : m.length + (flat ps).length ≤ 4611686018427387904) (hl : n ≤ 4611686018427387904) (hP : Parts w a b ps) (hH : HsI w b m) :
    Calls Tryz.prog 92 #[.pointer (some ⟨b, 0, none⟩), .slice a n c] w fun e w' => e = .returned (.tuple #[]) ∧ w.grownBy w' (some b) ∧ HsI w' b (m ++ flat ps) := by
  have HN := Lib.hid hn
  have HP := Lib.hid hP
  clear hn hP
  go_enter Tryz.func92, Tryz.ntmps92
  go_wp2_with fail
  go_loopw [10] (fun i wr => ∃ k : Nat, k ≤ n ∧ i = .int .i64 k ∧ w.grownBy wr (some b) ∧ HsI wr b (m ++ flat (ps.take k))) (fun i _ => n - (intOf i).toNat)
  case atStart => exact ⟨0, by omega, rfl, gb_refl _ _, by simpa [flat] using hH⟩
  case round =>
    obtain ⟨k, hk, rfl, hg, hI⟩ := hrel
    by_cases hlt : k < n
    · have hkl : k < ps.length := by rw [← HN.out]; exact hlt
      obtain ⟨ab, ao, rfl, hab, hc⟩ := HP.out (by omega)
      have ck := World.grownBy.cell hg (hc k hkl) (by intro e; cases e; exact hab rfl)
      have hT2 := hT.grown hg (by intro e; cases e; exact hb1 rfl) (by intro e; cases e; exact hb2 rfl)
      have hsz : (m ++ flat (ps.take k)).length + ps[k].size ≤ 4611686018427387904 := by
        have h1 := flat_le ps (k + 1)
        rw [flat_next ps k hkl, List.length_append, ← Lib.size_eq] at h1
        rw [List.length_append]; omega
      have hI2 : ∀ w', HsI w' b (m ++ flat (ps.take k) ++ ps[k].data.toList) → HsI w' b (m ++ flat (ps.take (k + 1))) := fun w' h => by
        rw [flat_next ps k hkl, ← List.append_assoc]; exact h
      have HI2 := Lib.hid hI2
      have HSZ := Lib.hid hsz
      clear hsz hc hI2
      generalize ps[k] = s at *
      go_wp2_with (go_at_call 113; (with_reducible refine (take b _ s _ hT2 hb1 hb2 HSZ.out hI).mono ?_); rintro e w3 ⟨rfl, hg3, hI3⟩)
      go_roundw
      case rel => exact ⟨k + 1, by omega, by go_num, gb_trans hg hg3, HI2.out _ hI3⟩
      case measure => simp [intOf]; omega
    · obtain rfl : k = n := by omega
      rw [HN.out, List.take_length] at hI
      go_wp2_with fail
      go_end0
      exact ⟨rfl, hg, hI⟩
end Go.Proofs.YthcebnfdapcllaaGreatDoor
namespace Go.Proofs.YthcebnfdapcllaaGreatDoor
open Go.RowKit Mem Sha
theorem infoHasher : (Tryz.prog.info? 169).map (·.size) = some 73 := by kernel_rfl
theorem hcells_one (f l t) : (hcells f l t).all (·.oneCell') = true := by
  rw [Array.all_eq_true_iff_forall_mem]
  intro v hv
  simp only [hcells, Array.mem_append] at hv
  rcases hv with (hv | hv) | hv
  · exact Array.all_eq_true_iff_forall_mem.1 (words_one f 8) v hv
  · exact Array.all_eq_true_iff_forall_mem.1 (bytesV_one l) v hv
  · simp at hv; subst hv; rfl
theorem HsI.below {w w' : World} {b B : Nat} {m : List UInt8} (h : HsI w b m) (hb : Below B w w') (hB : b < B) : HsI w' b m := by
  obtain ⟨f, l, h1, h2⟩ := h
  exact ⟨f, l, below_has hb h1 hB, h2⟩
theorem zhash_size : zhash.size = 73 := by unfold zhash; rw [hcells_size]; rfl
theorem ending_length (n : Nat) : (Sha.ending n).length ≤ 80 := by simp [Sha.ending, lenBytes]; omega
set_option maxRecDepth 100000 in
set_option maxHeartbeats 1000000 in
theorem sum (b : Nat) (m : List UInt8) (w : World) (hT : Tab w) (hm : m.length ≤ 1152921504606846976) (hH : HsI w b m) :
    Calls Tryz.prog 93 #[.pointer (some ⟨b, 0, none⟩)] w fun e w' => e = .returned (.agg (bytesV (sha m))) ∧ Below w.heap.size w w' := by
  have hblt := hH.lt
  obtain ⟨f, l, hHb, hl, hS, hR⟩ := hH
  have HL := Lib.hid hl
  have HSR := Lib.hid (And.intro hS hR)
  clear hl hS hR
  have hzv := zeroHash
  have hHa : ∀ o, Has (w.alloc o) b (hcells f l m.length) 169 := fun o => hHb.alloc o
  have hsz : some (hcells f l m.length).size = some 73 := by rw [hcells_size, HL.out]
  have HSZ := Lib.hid hsz
  have HO := Lib.hid (hcells_one f l m.length)
  clear hsz
  go_enter Tryz.func93, Tryz.ntmps93
  go_upto_region 4 with (first
    | (with_reducible refine wpList_load_row rfl 169 _ rfl b rfl 169 (hcells f l m.length) (0, 0) _ (hHa _).out Tryz.underlying169 rfl (infoHasher.trans HSZ.out.symm) ?_)
    | (with_reducible refine wpList_store_row rfl 169 _ _ rfl _ (hcells f l m.length) rfl rfl 169 _ (heap_alloc2_new w _ _) (infoHasher.trans HSZ.out.symm) (zhash_size.trans (Option.some.inj (HSZ.out.symm))) HO.out ?_))
  generalize hw1 : World.setRow _ _ _ = w1
  have hB1 : Below w.heap.size w w1 := by rw [← hw1]; exact below_setRow (((Below.refl _ _).alloc (Nat.le_refl _) _).alloc (by simp) _) (by simp) _
  have hE1 : Has w1 (w.heap.size + 1) (hcells f l m.length) 169 := by
    rw [← hw1]
    exact Has.row (cs := zhash) (heap_alloc2_new w _ _) _
  have hR1 : ∃ cs, cs.size = 32 ∧ Has w1 w.heap.size cs 28 := by
    refine ⟨hz32, rfl, ?_⟩
    rw [← hw1]
    exact Has.otherRow (heap_alloc2_old w _ _) _ _ (by omega)
  clear hw1 hzv hHa
  have hI1 : HsI w1 (w.heap.size + 1) m := ⟨f, l, hE1, HL.out, HSR.out.1, HSR.out.2⟩
  have hH1 := below_has hB1 hHb hblt
  have c72 := (hH1.cell 72).trans (hcells_taken f l _ HL.out)
  have hT1 := hT.below hB1
  clear hE1
  have hne1 : w.heap.size + 1 ≠ 1 := by have := hT.lt; omega
  have hne2 : w.heap.size + 1 ≠ 0 := by have := hT.lt; omega
  have hel := ending_length m.length
  have HSum : ∀ f3, S8.of f3 = pressAll ((m ++ (⟨(Sha.ending m.length).toArray⟩ : ByteArray).data.toList).length / 64) Sha.start (m ++ (⟨(Sha.ending m.length).toArray⟩ : ByteArray).data.toList) → nameOf (S8.of f3) = sha m := fun f3 h => by
    rw [h]; rfl
  have HSum := Lib.hid HSum
  obtain ⟨es, hes⟩ : ∃ es : ByteArray, es = ⟨(Sha.ending m.length).toArray⟩ := ⟨_, rfl⟩
  have hess : es.size ≤ 80 := by rw [hes]; show (Sha.ending m.length).toArray.size ≤ 80; simpa using hel
  rw [← hes] at HSum
  have HES := Lib.hid hes
  clear hes hel
  go_wp2_with (go_at_call 114; (with_reducible refine (ending m.length hm _).mono ?_); rintro e w2 ⟨rfl, hb2⟩)
  rw [← HES.out]
  have hT2 := hT1.below hb2
  have hI2 := hI1.below hb2 hI1.lt
  have hR2 : ∃ cs, cs.size = 32 ∧ Has w2 w.heap.size cs 28 := by obtain ⟨cs, h1, h2⟩ := hR1; exact ⟨cs, h1, below_has hb2 h2 h2.lt⟩
  have hB2 := hB1.trans (hb2.mono hB1.size)
  clear hR1 hI1 hT1 hb2 hB1 hH1 c72
  go_wp2_with (go_at_call 113; (with_reducible refine (take (w.heap.size + 1) m es _ hT2 hne1 hne2 (by omega) hI2).mono ?_); rintro e w3 ⟨rfl, hg3, hI3⟩)
  obtain ⟨f3, l3, hH3, hl3, hS3, hR3⟩ := hI3
  have HN3 := Lib.hid (HSum.out f3 hS3)
  have hB3 := hB2.trans (gb_toBelow hg3 (by omega) hB2.size)
  obtain ⟨cs, hcs, hcs2⟩ := hR2
  have hres3 := gb_has hg3 hcs2 (by intro e; have := Option.some.inj e; omega)
  have HCS := Lib.hid hcs
  clear hl3 hS3 hR3 HSum hcs hcs2 hI2 hT2 hg3
  refine (name (w.heap.size + 1) f3 l3 _ _ hH3).mono ?_
  rintro e w4 ⟨rfl, hb4⟩
  rw [HN3.out]
  have hres4 := below_has hb4 hres3 hres3.lt
  have hB4 := hB3.trans (hb4.mono hB3.size)
  have HO2 := Lib.hid (bytesV_one (sha m))
  have hsz2 : some (bytesV (sha m)).size = some 32 := by rw [bytesV_size]; exact congrArg some (nameOf_length _)
  have HS2 := Lib.hid hsz2
  clear hsz2 hres3 hb4 hB3 hB2 hH3
  generalize hcs3 : bytesV (sha m) = rs at *
  go_wp2_with (with_reducible refine wpList_store_row rfl 28 _ _ rfl _ rs rfl rfl 28 _ hres4.out (infoHash.trans HS2.out.symm) (HCS.out.trans (Option.some.inj HS2.out).symm) HO2.out ?_)
  exact bodyPost_ret (v := .agg rs) (results_cell_row Tryz.results93 _ _ w.heap.size 28 rs (0, 0) _ rfl (hres4.row rs).out Tryz.underlying28 rfl (infoHash.trans HS2.out.symm)) rfl ⟨by rw [hcs3], below_setRow hB4 (by omega) _⟩
end Go.Proofs.YthcebnfdapcllaaGreatDoor
namespace Go.Proofs.YthcebnfdapcllaaGreatDoor
open Go.RowKit Mem Sha
def PartsW (w : World) (a : Option Addr) (ps : List ByteArray) : Prop :=
  0 < ps.length → ∃ ab ao, a = some ⟨ab, ao, none⟩ ∧ ∀ i (hi : i < ps.length), w.cell? ⟨ab, ao + i, none⟩ = some (.string ps[i])
theorem PartsW.parts {w w1 : World} {a : Option Addr} {ps : List ByteArray} (h : PartsW w a ps) (hb : Below w.heap.size w w1) (b : Nat) (hB : w.heap.size ≤ b) : Parts w1 a b ps := fun h0 => by
  obtain ⟨ab, ao, ha, hc⟩ := h h0
  have hlt : ab < w.heap.size := block_lt_of_cell (hc 0 h0)
  exact ⟨ab, ao, ha, by omega, fun i hi => (hb.cell (p := ⟨ab, ao + i, none⟩) hlt).trans (hc i hi)⟩
theorem PartsW.below {w w1 : World} {a : Option Addr} {ps : List ByteArray} (h : PartsW w a ps) (hb : Below w.heap.size w w1) : PartsW w1 a ps := fun h0 => by
  obtain ⟨ab, ao, ha, hc⟩ := h h0
  have hlt : ab < w.heap.size := block_lt_of_cell (hc 0 h0)
  exact ⟨ab, ao, ha, fun i hi => (hb.cell (p := ⟨ab, ao + i, none⟩) hlt).trans (hc i hi)⟩
theorem PartsW.one {w : World} {b : Nat} {s : ByteArray} (h : w.cell? ⟨b, 0, none⟩ = some (.string s)) : PartsW w (some ⟨b, 0, none⟩) [s] := fun _ =>
  ⟨b, 0, rfl, fun i hi => by
    obtain rfl : i = 0 := by simpa using hi
    exact h⟩
theorem flat_one (s : ByteArray) : flat [s] = s.data.toList := by simp [flat]
set_option maxRecDepth 100000 in
set_option maxHeartbeats 1000000 in
theorem of (a : Option Addr) (ps : List ByteArray) (n c : Nat) (hn : n = ps.length) (w : World) (hT : Tab w)
    (hm : (flat ps).length ≤ 1152921504606846976) (hl : n ≤ 4611686018427387904) (hP : PartsW w a ps) :
    Calls Tryz.prog 66 #[.slice a n c] w fun e w' => e = .returned (.agg (bytesV (sha (flat ps)))) ∧ Below w.heap.size w w' := by
  have HN := Lib.hid hn
  have HP := Lib.hid hP
  clear hn hP
  go_enter Tryz.func66, Tryz.ntmps66
  go_upto_region 1 with fail
  generalize hw1 : World.alloc _ _ = w1
  have hres : Has w1 w.heap.size hz32 28 := by rw [← hw1]; exact Has.new _ _
  have hbel : Below w.heap.size w w1 := by rw [← hw1]; exact (Below.refl _ _).alloc (Nat.le_refl _) _
  have hT1 := hT.below hbel
  have h01 := hres.lt
  clear hw1
  go_wp2_with fail
  refine (new w1 hT1).mono ?_
  rintro e w2 ⟨rfl, hb2, hI2⟩
  have hT2 := hT1.below hb2
  have hB2 := hbel.trans (hb2.mono hbel.size)
  have hres2 := below_has hb2 hres h01
  have hP2 := HP.out.parts hB2 w1.heap.size hbel.size
  have hne1 : w1.heap.size ≠ 1 := by have := hT1.lt; omega
  have hne2 : w1.heap.size ≠ 0 := by have := hT1.lt; omega
  have HP2 := Lib.hid hP2
  clear hP2 hT1 hb2
  go_wp2_with fail
  refine (write w1.heap.size [] a ps n c HN.out _ hT2 hne1 hne2 (by simp; omega) hl HP2.out hI2).mono ?_
  rintro e w3 ⟨rfl, hg3, hI3⟩
  have hT3 := hT2.grown hg3 (by intro e; exact hne1 (Option.some.inj e).symm) (by intro e; exact hne2 (Option.some.inj e).symm)
  have hB3 := hB2.trans (gb_toBelow hg3 hbel.size hB2.size)
  have hres3 := gb_has hg3 hres2 (by intro e; have := Option.some.inj e; omega)
  rw [List.nil_append] at hI3
  clear hT2 hg3 hI2 hres2
  go_wp2_with fail
  refine (sum w1.heap.size (flat ps) _ hT3 hm hI3).mono ?_
  rintro e w4 ⟨rfl, hb4⟩
  have hres4 := below_has hb4 hres3 hres3.lt
  have hB4 := hB3.trans (hb4.mono hB3.size)
  have HO2 := Lib.hid (bytesV_one (sha (flat ps)))
  have hsz2 : some (bytesV (sha (flat ps))).size = some 32 := by rw [bytesV_size]; exact congrArg some (nameOf_length _)
  have HS2 := Lib.hid hsz2
  clear hsz2 hres3 hb4 hB3 hB2 hI3 hT3 hres
  generalize hcs3 : bytesV (sha (flat ps)) = rs at *
  go_wp2_with (with_reducible refine wpList_store_row rfl 28 _ _ rfl _ rs rfl rfl 28 _ hres4.out (infoHash.trans HS2.out.symm) (hz32_size.trans (Option.some.inj HS2.out).symm) HO2.out ?_)
  exact bodyPost_ret (v := .agg rs) (results_cell_row Tryz.results66 _ _ w.heap.size 28 rs (0, 0) _ rfl (hres4.row rs).out Tryz.underlying28 rfl (infoHash.trans HS2.out.symm)) rfl ⟨by rw [hcs3], below_setRow hB4 (by omega) _⟩
theorem conv_hash (wx : World) (b : Nat) (l : List UInt8) (hl : l.length = 32) (h : Has wx b (bytesV l) 28) :
    (Go.convert 118 9 (.slice (some ⟨b, 0, none⟩) 32 32)).run Tryz.prog wx = .ok (.string ⟨l.toArray⟩) wx := by
  have := run_convert_bytes_arg (P := Tryz.prog) wx 118 5 Tryz.underlying118 Tryz.underlying5 b 0 32 32 (l.map fun b => (b.toNat : Int)) (by simp [hl]) (fun i hi => by
    rw [Nat.zero_add, h.byte i (by omega)]; simp [show i < l.length by omega]) 9 Tryz.underlying9
  rw [this]
  simp [strOfNums, Function.comp_def]
set_option maxRecDepth 100000 in
set_option maxHeartbeats 1000000 in
theorem double (a : Option Addr) (ps : List ByteArray) (n c : Nat) (hn : n = ps.length) (w : World) (hT : Tab w)
    (hm : (flat ps).length ≤ 1152921504606846976) (hl : n ≤ 4611686018427387904) (hP : PartsW w a ps) :
    Calls Tryz.prog 50 #[.slice a n c] w fun e w' => e = .returned (.agg (bytesV (sha (sha (flat ps))))) ∧ Below w.heap.size w w' := by
  have HN := Lib.hid hn
  have HP := Lib.hid hP
  clear hn hP
  go_enter Tryz.func50, Tryz.ntmps50
  go_upto_region 1 with fail
  generalize hw1 : World.alloc _ _ = w1
  have hres : Has w1 w.heap.size hz32 28 := by rw [← hw1]; exact Has.new _ _
  have hbel : Below w.heap.size w w1 := by rw [← hw1]; exact (Below.refl _ _).alloc (Nat.le_refl _) _
  have hT1 := hT.below hbel
  have hP1 : PartsW w1 a ps := HP.out.below hbel
  have HP1 := Lib.hid hP1
  clear hw1 hP1
  go_wp2_with fail
  refine (of a ps n c HN.out w1 hT1 hm hl HP1.out).mono ?_
  rintro e w2 ⟨rfl, hb2⟩
  have hT2 := hT1.below hb2
  have hB2 := hbel.trans (hb2.mono hbel.size)
  have hres2 := below_has hb2 hres hres.lt
  have HO := Lib.hid (bytesV_one (sha (flat ps)))
  have hsz : some (bytesV (sha (flat ps))).size = some 32 := by rw [bytesV_size]; exact congrArg some (nameOf_length _)
  have HSZ := Lib.hid hsz
  clear hsz hres hbel hT1 hb2
  go_upto_region 2 with (with_reducible refine wpList_store_row rfl 28 _ _ rfl _ (bytesV (sha (flat ps))) rfl rfl 28 _ (heap_alloc_new w2 _) (infoHash.trans HSZ.out.symm) (by simp [Option.some.inj HSZ.out]) HO.out ?_)
  generalize hw3 : World.setRow _ _ _ = w3
  have hin : Has w3 w2.heap.size (bytesV (sha (flat ps))) 28 := by rw [← hw3]; exact (Has.new _ _).row _
  have hB3 : Below w.heap.size w w3 := by rw [← hw3]; exact below_setRow (hB2.alloc hB2.size _) hB2.size _
  have hb23 : Below w2.heap.size w2 w3 := by rw [← hw3]; exact below_setRow ((Below.refl _ _).alloc (Nat.le_refl _) _) (Nat.le_refl _) _
  have hT3 := hT2.below hb23
  have hres3 := below_has hb23 hres2 hres2.lt
  obtain ⟨hs, hhs⟩ : ∃ hs : ByteArray, hs = ⟨(sha (flat ps)).toArray⟩ := ⟨_, rfl⟩
  have hcv := conv_hash w3 w2.heap.size (sha (flat ps)) (nameOf_length _) hin
  rw [← hhs] at hcv
  have HHS : Hid (hs.data.toList = sha (flat ps)) := by show _ = _; rw [hhs]
  have hhsz : (sha (flat ps)).length = 32 := nameOf_length _
  have HHZ := Lib.hid hhsz
  clear hw3 hb23 hT2 hres2 hB2 hhs hin hhsz
  go_wp2_with fail
  have hb4 : Below w3.heap.size w3 (w3.alloc (.cells #[.string hs] 9)) := (Below.refl _ _).alloc (Nat.le_refl _) _
  refine (of (some ⟨w3.heap.size, 0, none⟩) [hs] 1 1 rfl _ (hT3.below hb4) (by rw [flat_one, HHS.out, HHZ.out]; omega) (by omega) (PartsW.one (by simp))).mono ?_
  rintro e w5 ⟨rfl, hb5⟩
  rw [flat_one, HHS.out]
  have hres4 := below_has hb5 (below_has hb4 hres3 hres3.lt) (Has.lt (below_has hb4 hres3 hres3.lt))
  have hB5 := (hB3.trans (hb4.mono hB3.size)).trans (hb5.mono (Nat.le_trans hB3.size hb4.size))
  have HO2 := Lib.hid (bytesV_one (sha (sha (flat ps))))
  have hsz2 : some (bytesV (sha (sha (flat ps)))).size = some 32 := by rw [bytesV_size]; exact congrArg some (nameOf_length _)
  have HS2 := Lib.hid hsz2
  clear hsz2 hres3 hb4 hb5 hB3 hT3 hcv
  generalize hcs3 : bytesV (sha (sha (flat ps))) = rs at *
  go_wp2_with (with_reducible refine wpList_store_row rfl 28 _ _ rfl _ rs rfl rfl 28 _ hres4.out (infoHash.trans HS2.out.symm) (hz32_size.trans (Option.some.inj HS2.out).symm) HO2.out ?_)
  exact bodyPost_ret (v := .agg rs) (results_cell_row Tryz.results50 _ _ w.heap.size 28 rs (0, 0) _ rfl (hres4.row rs).out Tryz.underlying28 rfl (infoHash.trans HS2.out.symm)) rfl ⟨by rw [hcs3], below_setRow hB5 (by omega) _⟩
end Go.Proofs.YthcebnfdapcllaaGreatDoor
namespace Go.Proofs.YthcebnfdapcllaaGreatDoor
open Go.RowKit Mem Sha
end Go.Proofs.YthcebnfdapcllaaGreatDoor
namespace Go.Proofs.YthcebnfdapcllaaGreatDoor
open Go.RowKit Mem Sha
theorem quo_n (x : BitVec 32) (m : Int) (hm : 0 ≤ m) : (Wd.n x).tdiv m % (4294967296 : Int) = Wd.n x / m := by
  have h1 := Wd.n_nonneg x
  have h2 := Wd.n_lt x
  rw [Int.tdiv_eq_ediv_of_nonneg h1]
  have h3 : 0 ≤ Wd.n x / m := Int.ediv_nonneg h1 hm
  have h4 : Wd.n x / m ≤ Wd.n x := Int.ediv_le_self _ h1
  omega
theorem quo8 (x : BitVec 32) : (Wd.n x).tdiv 8 % (4294967296 : Int) = Wd.n (x >>> 3) := by rw [quo_n x 8 (by omega), Wd.shr3]
theorem quo1024 (x : BitVec 32) : (Wd.n x).tdiv 1024 % (4294967296 : Int) = Wd.n (x >>> 10) := by rw [quo_n x 1024 (by omega), Wd.shr10]
attribute [local go_sem] quo8 quo1024 Wd.not Wd.not' Wd.notSub Wd.add Wd.and Wd.or Wd.xor Wd.shl Wd.shr Wd.shr3 Wd.shr10 wrap_mul256 add_byte add_byte'
section
variable {w : World} {ops : Array Oper} {rest : List Oper} {o : Oper} {a : Act} {Q : Exit → Act → World → Prop}
end
end Go.Proofs.YthcebnfdapcllaaGreatDoor
namespace Go.Proofs.YthcebnfdapcllaaGreatDoor
open Go.RowKit Mem Sha
end Go.Proofs.YthcebnfdapcllaaGreatDoor
