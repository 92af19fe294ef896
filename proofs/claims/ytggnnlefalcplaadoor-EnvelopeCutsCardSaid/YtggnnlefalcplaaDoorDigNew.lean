import Derived.Test.YtggnnlefalcplaaDoorRows
import Derived.Test.YtggnnlefalcplaaDoorDigName
namespace Go.Proofs.YtggnnlefalcplaaDoor
open Go.RowKit Mem Sha

structure Nws (w wr : World) (k : Nat) : Prop where
  below : Below w.heap.size w wr
  hsh : ∃ g, Has wr w.heap.size (hcells g (List.replicate 64 0) 0) 113 ∧ (∀ j, j < k → g j = Sha.start.at j)
theorem Nws.next {w wr : World} {k : Nat} (h : Nws w wr k) (hk : k < 8) {g : Nat → W32} (hg : Has wr w.heap.size (hcells g (List.replicate 64 0) 0) 113) (h1 : ∀ j, j < k → g j = Sha.start.at j) :
    Nws w (wr.setCell ⟨w.heap.size, k, none⟩ (.int .u32 (Wd.n (Sha.start.at k)))).drew (k + 1) where
  below := (h.below.setCell (by simp) _).drew
  hsh := by
    refine ⟨_, by have := (hg.set (i := k) (.int .u32 (Wd.n (Sha.start.at k)))).drew; rw [hcells_setState _ _ _ _ _ hk] at this; exact this, fun j hj => ?_⟩
    unfold upd
    by_cases e : j = k
    · rw [if_pos e, e]
    · rw [if_neg e]; exact h1 j (by omega)
def zhash : Array Value := hcells (fun _ => 0) (List.replicate 64 0) 0
theorem zeroHash (w : World) : (zeroValue 113).run Tryd.prog w = .ok (.agg zhash) w := by kernel_rfl

set_option maxRecDepth 100000 in
set_option maxHeartbeats 1000000 in
theorem new (w : World) (hT : Tab w) :
    Calls Tryd.prog 62 #[] w fun e w' => e = .returned (.pointer (some ⟨w.heap.size, 0, none⟩)) ∧ Below w.heap.size w w' ∧ HsI w' w.heap.size [] := by
  have hzv := zeroHash
  go_enter Tryd.func62, Tryd.ntmps62
  go_wp2_with fail
  clear hzv
  go_loopw [4] (fun i wr => ∃ k : Nat, k ≤ 8 ∧ i = .int .i64 k ∧ Nws w wr k) (fun i _ => 8 - (intOf i).toNat)
  case atStart => exact ⟨0, by omega, rfl, (Below.refl _ _).alloc (Nat.le_refl _) _, _, Has.new _ _, fun j hj => absurd hj (by omega)⟩
  case round =>
    obtain ⟨k, hk, rfl, hs⟩ := hrel
    obtain ⟨g, hg, h1⟩ := hs.hsh
    by_cases hlt : k < 8
    · have H1 := Lib.hid h1
      clear h1
      have ck := (hg.cell k).trans (hcells_state g _ _ k hlt)
      have cf := hg.free k
      have cs := (hT.below hs.below).s k hlt
      go_wp2_with fail
      go_region
      go_wp2_with fail
      exact ⟨⟨k + 1, by omega, by go_num, hs.next hlt hg H1.out⟩, by simp [intOf]; omega⟩
    · obtain rfl : k = 8 := by omega
      have hbel := hs.below
      have hI : HsI wr w.heap.size [] := by
        refine ⟨g, _, hg, by simp, ?_, by simp⟩
        show S8.of g = Sha.start
        unfold S8.of
        rw [h1 0 (by omega), h1 1 (by omega), h1 2 (by omega), h1 3 (by omega), h1 4 (by omega), h1 5 (by omega), h1 6 (by omega), h1 7 (by omega)]
        rfl
      clear h1 hs
      go_wp2_with fail
      go_ret
      exact ⟨rfl, hbel, hI⟩
end Go.Proofs.YtggnnlefalcplaaDoor
