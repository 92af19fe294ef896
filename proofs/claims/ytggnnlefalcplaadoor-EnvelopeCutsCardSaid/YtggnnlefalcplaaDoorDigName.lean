import Derived.Test.YtggnnlefalcplaaDoorRows
import Derived.Test.YtggnnlefalcplaaDoorDigEnd
namespace Go.Proofs.YtggnnlefalcplaaDoor
open Go.RowKit Mem Sha

def nameTo (s : S8) (k : Nat) : List UInt8 := (nameOf s).take k ++ List.replicate (32 - k) 0
theorem nameOf_length (s : S8) : (nameOf s).length = 32 := by simp [nameOf]
theorem nameTo_length (s : S8) (k : Nat) (hk : k ≤ 32) : (nameTo s k).length = 32 := by simp [nameTo, nameOf_length]; omega
theorem nameTo_next (s : S8) (k : Nat) (hk : k < 32) : (nameTo s k).set k (UInt8.ofNat ((s.at (k / 4)).toNat / 2 ^ (24 - 8 * (k % 4)) % 256)) = nameTo s (k + 1) := by
  have hl : ((nameOf s).take k).length = k := by simp [nameOf_length]; omega
  have hg : (nameOf s)[k]'(by rw [nameOf_length]; exact hk) = UInt8.ofNat ((s.at (k / 4)).toNat / 2 ^ (24 - 8 * (k % 4)) % 256) := by simp [nameOf]
  unfold nameTo
  rw [List.set_append_right _ _ (by omega), hl, Nat.sub_self, show 32 - k = (32 - (k + 1)) + 1 by omega, List.replicate_succ, List.set_cons_zero,
    List.take_succ_eq_append_getElem (by rw [nameOf_length]; exact hk), hg, List.append_assoc]
  rfl
theorem nameByte (x : BitVec 32) (m : Nat) : Wd.n x / (2 : Int) ^ m % 256 = ((UInt8.ofNat (x.toNat / 2 ^ m % 256)).toNat : Int) := by
  have e : Wd.n x / (2 : Int) ^ m = ((x.toNat / 2 ^ m : Nat) : Int) := by unfold Wd.n; simp
  rw [e, UInt8.toNat_ofNat']
  omega
theorem info42 : (Tryd.prog.info? 99).map (·.size) = some 8 := by kernel_rfl
theorem infoHash : (Tryd.prog.info? 57).map (·.size) = some 32 := by kernel_rfl
set_option maxRecDepth 100000 in
theorem index8w (f : Nat → W32) (k : Nat) (hk : k < 8) (w : World) : (Instr.index 99 (.agg #[.int .u32 (Wd.n (f 0)), .int .u32 (Wd.n (f 1)), .int .u32 (Wd.n (f 2)), .int .u32 (Wd.n (f 3)), .int .u32 (Wd.n (f 4)), .int .u32 (Wd.n (f 5)), .int .u32 (Wd.n (f 6)), .int .u32 (Wd.n (f 7))]) (.int .i64 (k : Int))).run Tryd.prog w = .ok (.int .u32 (Wd.n (f k))) w := by
  obtain rfl | rfl | rfl | rfl | rfl | rfl | rfl | rfl : k = 0 ∨ k = 1 ∨ k = 2 ∨ k = 3 ∨ k = 4 ∨ k = 5 ∨ k = 6 ∨ k = 7 := by omega
  all_goals rfl
set_option maxRecDepth 100000 in
theorem of_at (f : Nat → W32) (k : Nat) (hk : k < 8) : (S8.of f).at k = f k := by
  obtain rfl | rfl | rfl | rfl | rfl | rfl | rfl | rfl : k = 0 ∨ k = 1 ∨ k = 2 ∨ k = 3 ∨ k = 4 ∨ k = 5 ∨ k = 6 ∨ k = 7 := by omega
  all_goals rfl
structure Nam (w wr : World) (f : Nat → W32) (k : Nat) : Prop where
  below : Below w.heap.size w wr
  res : ∃ cs, cs.size = 32 ∧ Has wr w.heap.size cs 57
  out : Has wr (w.heap.size + 1) (bytesV (nameTo (S8.of f) k)) 57
theorem Nam.next {w wr : World} {f : Nat → W32} {k j : Nat} (h : Nam w wr f (4 * k + j)) (hk : k < 8) (hj : j < 4) :
    Nam w (wr.setCell ⟨w.heap.size + 1, 4 * k + j, none⟩ (.int .u8 (Wd.n (f k) / (2 : Int) ^ (24 - 8 * j) % 256))) f (4 * k + (j + 1)) where
  below := h.below.setCell (by simp) _
  res := by obtain ⟨cs, h1, h2⟩ := h.res; exact ⟨cs, h1, h2.other _ _ (by simp)⟩
  out := by
    rw [nameByte, ← of_at f k hk, show 4 * k + (j + 1) = 4 * k + j + 1 by omega, ← nameTo_next _ _ (by omega), show (4 * k + j) / 4 = k by omega, show (4 * k + j) % 4 = j by omega, ← bytesV_set]
    exact h.out.set _

def hz32 : Array Value := #[.int .u8 0, .int .u8 0, .int .u8 0, .int .u8 0, .int .u8 0, .int .u8 0, .int .u8 0, .int .u8 0, .int .u8 0, .int .u8 0, .int .u8 0, .int .u8 0, .int .u8 0, .int .u8 0, .int .u8 0, .int .u8 0, .int .u8 0, .int .u8 0, .int .u8 0, .int .u8 0, .int .u8 0, .int .u8 0, .int .u8 0, .int .u8 0, .int .u8 0, .int .u8 0, .int .u8 0, .int .u8 0, .int .u8 0, .int .u8 0, .int .u8 0, .int .u8 0]
theorem hz32_size : hz32.size = 32 := rfl
theorem hz32_eq (s : S8) : bytesV (nameTo s 0) = hz32 := rfl
theorem Nam.start (w : World) (f : Nat → W32) : Nam w ((w.alloc (.cells hz32 57)).alloc (.cells hz32 57)) f (4 * 0 + 0) where
  below := ((Below.refl _ _).alloc (Nat.le_refl _) _).alloc (by simp) _
  res := ⟨hz32, rfl, (Has.new _ _).alloc _⟩
  out := by
    rw [show 4 * 0 + 0 = 0 from rfl, hz32_eq]
    have := Has.new (w := w.alloc (.cells hz32 57)) hz32 57
    rwa [World.size_alloc] at this

set_option maxRecDepth 100000 in
set_option maxHeartbeats 1000000 in
theorem name (b : Nat) (f : Nat → W32) (l : List UInt8) (t : Nat) (w : World) (hH : Has w b (hcells f l t) 113) :
    Calls Tryd.prog 70 #[.pointer (some ⟨b, 0, none⟩)] w fun e w' => e = .returned (.agg (bytesV (nameOf (S8.of f)))) ∧ Below w.heap.size w w' := by
  have hrange : ∀ w1, Below w.heap.size w w1 → w1.rangeAt b 0 ((List.range 8).map fun i => Value.int .u32 (Wd.n (f i))) := fun w1 h1 j v hv => by
    have hj : j < 8 := by
      by_cases h : j < 8
      · exact h
      · rw [List.getElem?_eq_none (by simp; omega)] at hv; cases hv
    rw [Nat.zero_add, (below_has h1 hH hH.lt).cell, hcells_state f l t j hj]
    simpa [hj] using hv
  have hr2 : ∀ o1 o2, ((w.alloc o1).alloc o2).rangeAt b 0 ((List.range 8).map fun i => Value.int .u32 (Wd.n (f i))) := fun o1 o2 => hrange _ (((Below.refl _ _).alloc (Nat.le_refl _) o1).alloc (by simp) o2)
  have HR := Lib.hid hr2
  clear hrange hr2
  go_enter Tryd.func70, Tryd.ntmps70
  go_wp2_with (with_reducible refine wpList_load_mid rfl 99 _ rfl b 0 rfl ((List.range 8).map fun i => Value.int .u32 (Wd.n (f i))) _ (HR.out _ _) Tryd.underlying99 rfl (info42.trans (by simp)) ?_)
  go_loopw [11] (fun i wr => ∃ k : Nat, k ≤ 8 ∧ i = .int .i64 k ∧ Nam w wr f (4 * k + 0)) (fun i _ => 8 - (intOf i).toNat)
  case atStart => exact ⟨0, by omega, rfl, Nam.start w f⟩
  case round =>
    obtain ⟨k, hk, rfl, hs⟩ := hrel
    by_cases hlt : k < 8
    · have hidx := index8w f k hlt
      go_wp2_with fail
      clear hidx
      go_loopw [15] (fun i wr => ∃ j : Nat, j ≤ 4 ∧ i = .int .i64 j ∧ Nam w wr f (4 * k + j)) (fun i _ => 4 - (intOf i).toNat)
      case atStart => exact ⟨0, by omega, rfl, hs⟩
      case round =>
        obtain ⟨j, hj, rfl, ht⟩ := hrel
        by_cases hjl : j < 4
        · have c1 := ht.out.byte (4 * k + j) (by rw [nameTo_length _ _ (by omega)]; omega)
          have c2 := ht.out.free (4 * k + j)
          go_wp2_with fail
          go_roundw
          case rel => exact ⟨j + 1, by omega, by go_num, ht.next hlt hjl⟩
          case measure => simp [intOf]; omega
        · obtain rfl : j = 4 := by omega
          go_wp2_with fail
          go_roundw
          case rel => exact ⟨k + 1, by omega, by go_num, ht⟩
          case measure => simp [intOf]; omega
    · obtain rfl : k = 8 := by omega
      have hout := hs.out
      have hbel := hs.below
      obtain ⟨rs, hrs, hres⟩ := hs.res
      have e : nameTo (S8.of f) (4 * 8 + 0) = nameOf (S8.of f) := by simp [nameTo, List.take_of_length_le, nameOf_length]
      rw [e] at hout
      clear hs e
      have HZ := Lib.hid (bytesV_one (nameOf (S8.of f)))
      have hsz : some (bytesV (nameOf (S8.of f))).size = some 32 := by rw [bytesV_size, nameOf_length]
      have HS := Lib.hid hsz
      have HRS := Lib.hid hrs
      clear hsz hrs
      generalize hcs : bytesV (nameOf (S8.of f)) = cs at *
      go_wp2_with (first
        | (with_reducible refine wpList_load_row rfl 57 _ rfl _ rfl 57 cs (0, 0) _ hout.out Tryd.underlying57 rfl (infoHash.trans HS.out.symm) ?_)
        | (with_reducible refine wpList_store_row rfl 57 _ _ rfl _ _ rfl rfl 57 _ hres.out (infoHash.trans HS.out.symm) (HRS.out.trans (Option.some.inj HS.out).symm) HZ.out ?_))
      exact bodyPost_ret (v := .agg cs) (results_cell_row Tryd.results70 _ _ w.heap.size 57 cs (0, 0) _ rfl (hres.row cs).out Tryd.underlying57 rfl (infoHash.trans HS.out.symm)) rfl ⟨by rw [hcs], below_setRow hbel (by omega) _⟩
end Go.Proofs.YtggnnlefalcplaaDoor
