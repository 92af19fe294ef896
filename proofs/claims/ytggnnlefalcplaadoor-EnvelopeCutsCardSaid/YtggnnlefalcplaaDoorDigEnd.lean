import Derived.Test.YtggnnlefalcplaaDoorRows
import Derived.Test.YtggnnlefalcplaaDoorDigTake
import Derived.Test.YtggnnlefalcplaaDoorShelf
import Derived.Deep.RegionHeld3
namespace Go.Proofs.YtggnnlefalcplaaDoor
open Go.RowKit Mem Sha

theorem bytesV_set (l : List UInt8) (i : Nat) (b : UInt8) : (bytesV l).setIfInBounds i (.int .u8 (b.toNat : Int)) = bytesV (l.set i b) := by
  apply Array.ext_getElem?
  intro j
  simp only [bytesV, Array.getElem?_setIfInBounds, List.getElem?_toArray, List.getElem?_map, List.getElem?_set, List.size_toArray, List.length_map]
  by_cases h : i = j
  · subst h; by_cases h2 : i < l.length <;> simp [h2]
  · simp [h]
theorem lenByte (n i : Nat) (X : Int) (hX : X = ((n : Int) * 8) / 2 ^ (8 * (7 - i))) : X % 256 = ((UInt8.ofNat (n * 8 / 2 ^ (8 * (7 - i)) % 256)).toNat : Int) := by
  have e : X = ((n * 8 / 2 ^ (8 * (7 - i)) : Nat) : Int) := by rw [hX]; simp
  rw [e, UInt8.toNat_ofNat']
  omega
def lenTo (n k : Nat) : List UInt8 := (lenBytes n).take k ++ List.replicate (8 - k) 0
theorem lenBytes_length (n : Nat) : (lenBytes n).length = 8 := by simp [lenBytes]
theorem lenTo_length (n k : Nat) (hk : k ≤ 8) : (lenTo n k).length = 8 := by simp [lenTo, lenBytes_length]; omega
theorem lenTo_next (n k : Nat) (hk : k < 8) : (lenTo n k).set k (UInt8.ofNat (n * 8 / 2 ^ (8 * (7 - k)) % 256)) = lenTo n (k + 1) := by
  have hl : ((lenBytes n).take k).length = k := by simp [lenBytes_length]; omega
  have hg : (lenBytes n)[k]'(by rw [lenBytes_length]; exact hk) = UInt8.ofNat (n * 8 / 2 ^ (8 * (7 - k)) % 256) := by simp [lenBytes]
  unfold lenTo
  rw [List.set_append_right _ _ (by omega), hl, Nat.sub_self, show 8 - k = (8 - (k + 1)) + 1 by omega, List.replicate_succ, List.set_cons_zero,
    List.take_succ_eq_append_getElem (by rw [lenBytes_length]; exact hk), hg, List.append_assoc]
  rfl

def zs (z : Nat) : ByteArray := ⟨(List.replicate z 0).toArray⟩
def lb (n : Nat) : ByteArray := ⟨(lenBytes n).toArray⟩
theorem zs_size (z : Nat) : (zs z).size = z := by show (List.replicate z (0 : UInt8)).toArray.size = z; simp
theorem lb_size (n : Nat) : (lb n).size = 8 := by show (lenBytes n).toArray.size = 8; simp [lenBytes_length]
theorem end_eq (n z : Nat) (hz : z = (119 - n % 64) % 64) : (⟨#[128]⟩ ++ zs z ++ lb n : ByteArray) = ⟨(Sha.ending n).toArray⟩ := by
  apply ByteArray.ext
  rw [ByteArray.data_append, ByteArray.data_append]
  apply Array.toList_inj.1
  rw [Array.toList_append, Array.toList_append, zs, lb, Sha.ending, ← hz]
  rfl
theorem zeros (z : Nat) (hz : z < 64) (w : World) : Calls Tryd.prog 18 #[.string ⟨#[0]⟩, .int .i64 (z : Int)] w fun e w' => e = .returned (.string (zs z)) ∧ Below w.heap.size w w' := by
  have h := Tryd.strings_Repeat ⟨#[0]⟩ z w (by omega) (by show 1 * z ≤ _; omega)
  have e : Lib.repeatL [0] z = List.replicate z 0 := by
    have := Lib.repeatL_replicate 0 1 z
    rw [Nat.mul_one] at this
    exact this
  rw [show (⟨#[0]⟩ : ByteArray).data.toList = [0] from rfl, e] at h
  exact h
theorem conv_bytes (wx : World) (b : Nat) (l : List UInt8) (c : Nat) (h : Has wx b (bytesV l) 5) :
    (Go.convert 43 9 (.slice (some ⟨b, 0, none⟩) l.length c)).run Tryd.prog wx = .ok (.string ⟨l.toArray⟩) wx := by
  have := run_convert_bytes_arg (P := Tryd.prog) wx 43 5 Tryd.underlying43 Tryd.underlying5 b 0 l.length c (l.map fun b => (b.toNat : Int)) (by simp) (fun i hi => by
    rw [Nat.zero_add, h.byte i hi]; simp [hi]) 9 Tryd.underlying9
  rw [this]
  simp [strOfNums, Function.comp_def]

set_option maxRecDepth 100000 in
set_option maxHeartbeats 1000000 in
theorem ending (n : Nat) (hn : n ≤ 1152921504606846976) (w : World) :
    Calls Tryd.prog 69 #[.int .u64 n] w fun e w' => e = .returned (.string ⟨(Sha.ending n).toArray⟩) ∧ Below w.heap.size w w' := by
  have hmk : ∀ w, (Instr.makeSlice 43 (.int .i64 8) (.int .i64 8)).run Tryd.prog w = .ok (.slice (some ⟨w.heap.size, 0, none⟩) 8 8) (w.alloc (.cells (bytesV (List.replicate 8 0)) 5)) := fun _ => by kernel_rfl
  go_enter Tryd.func69, Tryd.ntmps69
  go_wp2_with fail
  obtain ⟨z, hz0⟩ : ∃ z : Nat, z = (119 - n % 64) % 64 := ⟨_, rfl⟩
  have hz : (119 - (n : Int) % 64) % 64 = (z : Int) := by omega
  rw [hz]
  have HZ0 := Lib.hid hz0
  have hz64 : z < 64 := by omega
  clear hz hz0
  go_loopw [11] (fun i wr => ∃ k : Nat, k ≤ 8 ∧ i = .int .i64 k ∧ Below w.heap.size w wr ∧ Has wr w.heap.size (bytesV (lenTo n k)) 5) (fun i _ => 8 - (intOf i).toNat)
  case atStart => exact ⟨0, by omega, rfl, (Below.refl _ _).alloc (Nat.le_refl _) _, Has.new _ _⟩
  case round =>
    obtain ⟨k, hk, rfl, hbel, hH⟩ := hrel
    by_cases hlt : k < 8
    · have ck := hH.byte k (by rw [lenTo_length n k hk]; exact hlt)
      have cf := hH.free k
      go_wp2_with fail
      rw [lenByte n k _ rfl]
      refine ⟨⟨k + 1, by omega, by go_num, hbel.setCell (Nat.le_refl _) _, ?_⟩, by simp [intOf]; omega⟩
      rw [← lenTo_next n k hlt, ← bytesV_set]
      exact hH.set _
    · obtain rfl : k = 8 := by omega
      go_wp2_with fail
      have hlt8 : lenTo n 8 = lenBytes n := by simp [lenTo, List.take_of_length_le, lenBytes_length]
      rw [hlt8] at hH
      have hconv : ∀ wx, Has wx w.heap.size (bytesV (lenBytes n)) 5 → (Go.convert 43 9 (.slice (some ⟨w.heap.size, 0, none⟩) 8 8)).run Tryd.prog wx = .ok (.string (lb n)) wx := fun wx h => by
        have := conv_bytes wx w.heap.size (lenBytes n) 8 h
        rwa [lenBytes_length] at this
      have hwr : IntKind.i64.wrap (z : Int) = (z : Int) := IntWalk.i64_in _ (by omega)
      clear hlt8
      have hs1 := zs_size z
      have hs2 := lb_size n
      have hs3 : (zs z).size ≤ 64 := by omega
      have hs4 : (lb n).size ≤ 8 := by omega
      clear hs1 hs2
      have hHd : Has wr.drew w.heap.size (bytesV (lenBytes n)) 5 := hH
      go_region_with ((go_at_call 18; (with_reducible refine (zeros z hz64 _).mono ?_); rintro e w1 ⟨rfl, hb1⟩; have h1 := below_has hb1 hH hH.lt))
      all_goals
        go_wp2_with fail
        go_ret
        refine ⟨?_, hbel.drew.trans (hb1.mono hbel.size)⟩
        rw [← end_eq n z HZ0.out]
        rfl
end Go.Proofs.YtggnnlefalcplaaDoor
