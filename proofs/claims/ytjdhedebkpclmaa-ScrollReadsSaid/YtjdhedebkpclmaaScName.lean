/-
  scroll's Eye: Name.
-/
import Derived.Test.YtjdhedebkpclmaaScRaw
import Derived.Test.YtjdhedebkpclmaaHashMem
namespace Go.Proofs.Ytjdhedebkpclmaa
open Go.RowKit Mem Sc
theorem raw32 (e : Ey) : (e.raw 32).1.data.toList.length = 32 ∨ (e.raw 32).1 = E0 := by
  unfold Ey.raw
  split
  · exact .inr rfl
  · split
    · exact .inr rfl
    · left
      rw [← Lib.size_eq]
      simp only [ByteArray.size_extract]
      omega
set_option maxRecDepth 100000 in
set_option maxHeartbeats 1000000 in
theorem name_at (b : Nat) (e : Ey) (w : World) (h : EyeAt w b e) : Calls Try.prog 17 #[.pointer (some ⟨b, 0, none⟩)] w fun r w' => ReadPost b w (.agg (bytesV e.name.1)) e.name.2 r w' := by
  have h32 := raw32 e
  have C1 := Lib.hid (fun w h => raw_at b e 32 w h)
  have hlt := h.lt
  unfold Ey.name
  generalize e.raw 32 = q at *
  obtain ⟨s, e'⟩ := q
  simp only at *
  have hn32 := name32_length s.data.toList
  have hsp := fun n hn => name_splice s.data.toList (by rcases h32 with h | h; exact .inl h; exact .inr (by rw [h]; rfl)) n hn
  change ∀ n (_ : n = Nat.min s.data.toList.length 32), _ = bytesV (name32 s.data.toList) at hsp
  have hsz := hv_size hn32
  have hone := bytesV_one (name32 s.data.toList)
  have HSP := Lib.hid hsp
  have HSZ := Lib.hid hsz
  clear hn32 hsp hsz h32
  generalize bytesV (name32 s.data.toList) = cs at *
  go_enter Try.func17, Try.ntmps17
  go_wp2_with fail
  generalize hw1 : World.alloc _ _ = w1
  have hR : Has w1 w.heap.size h0 30 := by rw [← hw1]; exact (h0_new _ _).alloc _
  have hN : Has w1 (w.heap.size + 1) h0 30 := by rw [← hw1]; exact Has.new1 _ h0 _
  have hE : EyeAt w1 b e := by rw [← hw1]; exact (Has.alloc h _).alloc _
  have hg : w.grownBy w1 (some b) := by rw [← hw1]; exact gb_below (((Below.refl _ _).alloc (Nat.le_refl _) _).alloc (by simp) _) _
  clear hw1
  obtain ⟨R, hRe⟩ : ∃ R, R = w.heap.size := ⟨_, rfl⟩
  rw [← hRe] at hlt hR hN ⊢
  have hRl : w.heap.size ≤ R := by omega
  clear hRe
  have hEd : EyeAt w1.drew b e := hE
  have hne : some (R + 1) ≠ some b := by simp; omega
  obtain ⟨n, hn⟩ : ∃ n, n = Nat.min s.size 32 := ⟨_, rfl⟩
  have hfit : 0 + n ≤ h0.size := by rw [hn]; exact (Nat.zero_add _).symm ▸ Nat.min_le_right _ _
  have HNN := Lib.hid hn
  clear hn
  go_region_held3 (fun _ => True) (trivial)
    (first
      | (go_at_call 18; (with_reducible refine (C1.out _ hEd).mono ?_); rintro r w3 ⟨rfl, hE3, hg3⟩; have hN3 := gb_has hg3 (Has.drew hN) hne)
      | (refine wp_copy_min _ _ 46 9 (by rfl) 5 Try.underlying46 hinfo8 (R + 1) 0 32 32 n (by rfl) s (by rfl) h0 30 hN3.out HNN.out hfit ?_))
  rw [HSP.out n (by rw [HNN.out, Lib.size_eq])]
  have hR3 := gb_has hg3 (Has.drew hR) (by simp; omega)
  have hg4 : w.grownBy (w3.setRow (R + 1) (cs)) (some b) := gb_setRowNew (gb_trans hg (gb_trans (gb_drewN (gb_refl _ _) 1) hg3)) _ (by omega) _
  have hN4 := hN3.row (cs)
  have hR4 := hR3.otherRow (R + 1) (cs) (by omega)
  have hE4 : EyeAt (w3.setRow (R + 1) (cs)) b e' := Has.otherRow hE3 (R + 1) (cs) (by omega)
  generalize World.setRow _ _ _ = w4 at *
  have h0s : h0.size = 32 := rfl
  clear hE3 hN3 hR3 hR hN hE hg hg3 hEd C1 HNN HSP hfit
  have hZ := Lib.hid h0s
  clear h0s
  go_wp2_with (first
    | (with_reducible refine hl_load rfl _ rfl _ rfl cs hN4 HSZ.out ?_)
    | (with_reducible refine hl_store rfl _ _ rfl _ _ cs rfl rfl rfl HSZ.out hone h0 hR4 hZ.out ?_))
  exact bodyPost_ret (v := .agg cs) (hl_results Try.results17 _ _ _ rfl (hR4.row _) HSZ.out) rfl ⟨rfl, Has.otherRow hE4 _ _ (by omega), gb_setRowNew hg4 _ hRl _⟩
set_option maxRecDepth 100000 in
set_option maxHeartbeats 1000000 in
theorem name_nil (w : World) : Calls Try.prog 17 #[.pointer none] w fun r w' => r = .returned (.agg h0) ∧ Below w.heap.size w w' := by
  have C1 := Lib.hid (fun w => raw_nil 32 w)
  obtain ⟨s, hs⟩ : ∃ s, s = E0 := ⟨_, rfl⟩
  have hn32 : name32 s.data.toList = List.replicate 32 0 := by rw [hs]; rfl
  have h32 : s.data.toList.length = 32 ∨ s = E0 := .inr hs
  rw [← hs] at C1
  clear hs
  have hsp := fun n hn => name_splice s.data.toList (by rcases h32 with h | h; exact .inl h; exact .inr (by rw [h]; rfl)) n hn
  change ∀ n (_ : n = Nat.min s.data.toList.length 32), _ = bytesV (name32 s.data.toList) at hsp
  rw [hn32] at hsp
  have hsz : h0.size = 32 := rfl
  have hone : h0.all (·.oneCell') = true := bytesV_one _
  change ∀ n (_ : n = Nat.min s.data.toList.length 32), _ = h0 at hsp
  have HSP := Lib.hid hsp
  have HSZ := Lib.hid hsz
  clear hn32 hsp hsz h32
  obtain ⟨cs, hcs⟩ : ∃ cs, cs = h0 := ⟨_, rfl⟩
  rw [← hcs] at hone ⊢
  have HSP2 : Hid (∀ n (_ : n = Nat.min s.data.toList.length 32), (h0.toList.take 0 ++ (Lib.byteCells (s.data.toList.take n) ++ h0.toList.drop (0 + n))).toArray = cs) := by rw [hcs]; exact HSP
  have HSZ2 : Hid (cs.size = 32) := by rw [hcs]; exact HSZ
  clear HSP HSZ hcs
  go_enter Try.func17, Try.ntmps17
  go_wp2_with fail
  generalize hw1 : World.alloc _ _ = w1
  have hR : Has w1 w.heap.size h0 30 := by rw [← hw1]; exact (h0_new _ _).alloc _
  have hN : Has w1 (w.heap.size + 1) h0 30 := by rw [← hw1]; exact Has.new1 _ h0 _
  have hg : w.grownBy w1 none := by rw [← hw1]; exact gb_below (((Below.refl _ _).alloc (Nat.le_refl _) _).alloc (by simp) _) _
  clear hw1
  obtain ⟨R, hRe⟩ : ∃ R, R = w.heap.size := ⟨_, rfl⟩
  rw [← hRe] at hR hN ⊢
  have hRl : w.heap.size ≤ R := by omega
  clear hRe
  obtain ⟨n, hn⟩ : ∃ n, n = Nat.min s.size 32 := ⟨_, rfl⟩
  have hfit : 0 + n ≤ h0.size := by rw [hn]; exact (Nat.zero_add _).symm ▸ Nat.min_le_right _ _
  have HNN := Lib.hid hn
  clear hn
  go_region_held3 (fun _ => True) (trivial)
    (first
      | (go_at_call 18; (with_reducible refine (C1.out _).mono ?_); rintro r w3 ⟨rfl, hw3⟩; have hN3 : Has w3 (R + 1) h0 30 := hw3 ▸ Has.drew hN)
      | (refine wp_copy_min _ _ 46 9 (by rfl) 5 Try.underlying46 hinfo8 (R + 1) 0 32 32 n (by rfl) s (by rfl) h0 30 hN3.out HNN.out hfit ?_))
  rw [HSP2.out n (by rw [HNN.out, Lib.size_eq])]
  have hR3 : Has w3 R h0 30 := hw3 ▸ Has.drew hR
  have hg3 : w.grownBy w3 none := hw3 ▸ gb_drewN hg 1
  have hg4 : w.grownBy (w3.setRow (R + 1) (cs)) none := gb_setRowNew hg3 _ (by omega) _
  have hN4 := hN3.row (cs)
  have hR4 := hR3.otherRow (R + 1) (cs) (by omega)
  generalize World.setRow _ _ _ = w4 at *
  have h0s : h0.size = 32 := rfl
  clear hN3 hR3 hR hN hg hg3 hw3 C1 HNN HSP2 hfit
  have hZ := Lib.hid h0s
  clear h0s
  go_wp2_with (first
    | (with_reducible refine hl_load rfl _ rfl _ rfl cs hN4 HSZ2.out ?_)
    | (with_reducible refine hl_store rfl _ _ rfl _ _ cs rfl rfl rfl HSZ2.out hone h0 hR4 hZ.out ?_))
  exact bodyPost_ret (v := .agg cs) (hl_results Try.results17 _ _ _ rfl (hR4.row _) HSZ2.out) rfl ⟨rfl, gb_none_below (gb_setRowNew hg4 _ hRl _)⟩
end Go.Proofs.Ytjdhedebkpclmaa
