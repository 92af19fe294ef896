import Derived.Test.YthcebnfdapcllaaGreatDoorRows
import Derived.Test.YthcebnfdapcllaaGreatDoorRBunQ19
import Derived.Lib.IndexBytes
namespace Go.Proofs.YthcebnfdapcllaaGreatDoor
open Go.RowKit Mem Sha
attribute [local go_sem] Wd.not Wd.not' Wd.notSub Wd.add Wd.and Wd.or Wd.xor Wd.shl Wd.shr Wd.shl8 Wd.shr3 Wd.shr10 Wd.byte Wd.orByte
def HsI (w : World) (b : Nat) (m : List UInt8) : Prop :=
  ∃ f l, Has w b (hcells f l m.length) 169 ∧ l.length = 64 ∧ S8.of f = pressAll (m.length / 64) Sha.start m ∧ l.take (m.length % 64) = m.drop (64 * (m.length / 64))
theorem HsI.drewN {w : World} {b : Nat} {m : List UInt8} (h : HsI w b m) (n : Nat) : HsI (w.drewN n) b m := by
  obtain ⟨f, l, h1, h2⟩ := h
  exact ⟨f, l, h1.drewN n, h2⟩
theorem HsI.lt {w : World} {b : Nat} {m : List UInt8} (h : HsI w b m) : b < w.heap.size := by obtain ⟨f, l, h1, h2⟩ := h; exact h1.lt
theorem HsI.more {w : World} {b n r : Nat} {m x : List UInt8} {f : Nat → W32} {l : List UInt8} (hx : x.length = n) (hr : r = m.length % 64) (hrn : r + n < 64) (hl : l.length = 64)
    (h : Has w b (hcells f (l.take r ++ x ++ l.drop (r + n)) (m.length + n)) 169) (hS : S8.of f = pressAll (m.length / 64) Sha.start m) (hR : l.take (m.length % 64) = m.drop (64 * (m.length / 64))) : HsI w b (m ++ x) := by
  have e1 : (m ++ x).length = m.length + n := by rw [List.length_append, hx]
  have e2 : (m.length + n) / 64 = m.length / 64 := by omega
  have e3 : (m.length + n) % 64 = r + n := by omega
  have hq : 64 * (m.length / 64) ≤ m.length := by omega
  have ht : (l.take r ++ x).length = r + n := by rw [List.length_append, List.length_take, hl, hx]; omega
  have e5 : (l.take r ++ x ++ l.drop (r + n)).take (r + n) = l.take r ++ x := List.take_left' ht
  have e6 : (m ++ x).drop (64 * (m.length / 64)) = l.take r ++ x := by rw [List.drop_append_of_le_length hq, ← hR, ← hr]
  refine ⟨f, _, by rw [e1]; exact h, ?_, ?_, ?_⟩
  · rw [List.length_append, ht, List.length_drop, hl]; omega
  · rw [e1, e2, hS, pressAll_more _ _ _ _ hq]
  · rw [e1, e2, e3, e5, e6]
theorem HsI.full {w : World} {b n r : Nat} {m x : List UInt8} {f g : Nat → W32} {l : List UInt8} (hx : x.length = n) (hr : r = m.length % 64) (hrn : r + n = 64) (hl : l.length = 64)
    (h : Has w b (hcells g (l.take r ++ x ++ l.drop (r + n)) (m.length + n)) 169) (hg : S8.of g = press (S8.of f) (l.take r ++ x ++ l.drop (r + n)))
    (hS : S8.of f = pressAll (m.length / 64) Sha.start m) (hR : l.take (m.length % 64) = m.drop (64 * (m.length / 64))) : HsI w b (m ++ x) := by
  have e1 : (m ++ x).length = m.length + n := by rw [List.length_append, hx]
  have e2 : (m.length + n) / 64 = m.length / 64 + 1 := by omega
  have e3 : (m.length + n) % 64 = 0 := by omega
  have hq : 64 * (m.length / 64) ≤ m.length := by omega
  have ht : (l.take r ++ x).length = 64 := by rw [List.length_append, List.length_take, hl, hx]; omega
  have e7 : l.drop (r + n) = [] := List.drop_eq_nil_of_le (by omega)
  have e6 : (m ++ x).drop (64 * (m.length / 64)) = l.take r ++ x := by rw [List.drop_append_of_le_length hq, ← hR, ← hr]
  rw [e7, List.append_nil] at h hg
  refine ⟨g, _, by rw [e1]; exact h, ht, ?_, ?_⟩
  · rw [e1, e2, hg, hS, pressAll_succ, pressAll_more _ _ _ _ hq, e6, List.take_of_length_le (l := l.take r ++ x) (by omega)]
  · rw [e1, e2, e3, List.take_zero, List.drop_eq_nil_of_le (by rw [e1]; omega)]
theorem infoByte : (Tryz.prog.info? 5).map (·.size) = some 1 := by kernel_rfl
set_option maxRecDepth 100000 in
set_option maxHeartbeats 1000000 in
theorem take (b : Nat) (m : List UInt8) (s : ByteArray) (w : World) (hT : Tab w) (hb1 : b ≠ 1) (hb2 : b ≠ 0) (hm : m.length + s.size ≤ 4611686018427387904) (hH : HsI w b m) :
    Calls Tryz.prog 113 #[.pointer (some ⟨b, 0, none⟩), .string s] w fun e w' => e = .returned (.tuple #[]) ∧ w.grownBy w' (some b) ∧ HsI w' b (m ++ s.data.toList) := by
  go_enter Tryz.func113, Tryz.ntmps113
  go_wp2_with fail
  go_loopw [1] (fun x wr => ∃ (m' : List UInt8) (s' : ByteArray), x = .string s' ∧ w.grownBy wr (some b) ∧ HsI wr b m' ∧ Hid (m' ++ s'.data.toList = m ++ s.data.toList))
    (fun x _ => match x with | .string s' => s'.size | _ => 0)
  case atStart => exact ⟨m, s, rfl, gb_refl _ _, hH, rfl⟩
  case round =>
    obtain ⟨m', s', rfl, hgr, hI, HE⟩ := hrel
    by_cases h0 : s'.size = 0
    · go_wp2_with fail
      go_end0
      have e : s'.data.toList = [] := List.eq_nil_of_length_eq_zero (by rw [← Lib.size_eq]; exact h0)
      refine ⟨rfl, hgr, ?_⟩
      have := HE.out
      rw [e, List.append_nil] at this
      rwa [← this]
    · obtain ⟨f, l, hH1, hl, hS, hR⟩ := hI
      have hlen : m'.length + s'.size = m.length + s.size := by
        have := congrArg List.length HE.out
        simp only [List.length_append] at this
        rwa [← Lib.size_eq, ← Lib.size_eq] at this
      have c72 := (hH1.cell 72).trans (hcells_taken f l _ hl)
      have f72 := hH1.free 72
      obtain ⟨r, hr⟩ : ∃ r, r = m'.length % 64 := ⟨_, rfl⟩
      have hr64 : r < 64 := by omega
      have hmod : ((m'.length : Int) % 64) = (r : Int) := by omega
      have htm : ((m'.length : Int).tmod 64) = (r : Int) := by rw [Int.tmod_eq_emod_of_nonneg (by omega)]; exact hmod
      obtain ⟨n, hn⟩ : ∃ n, n = Nat.min s'.size (64 - r) := ⟨_, rfl⟩
      have hsl := fun w => arr_slice_l (P := Tryz.prog) .u64 167 5 64 b r Tryz.underlying167 size1 hr64 8 w
      go_wp2_with fail
      have HN := Lib.hid hn
      have HR := Lib.hid hr
      have HL := Lib.hid hlen
      have Hl := Lib.hid hl
      have HS := Lib.hid hS
      have HRR := Lib.hid hR
      have hn1 : n ≤ s'.size := by rw [hn]; exact Nat.min_le_left _ _
      have hn0 : 0 < n := by rw [hn]; exact Nat.lt_min.2 ⟨by omega, by omega⟩
      have hn2 : n ≤ 64 - r := by rw [hn]; exact Nat.min_le_right _ _
      have hfit : 8 + r + n ≤ (hcells f l m'.length).size := by rw [hcells_size, hl]; clear hn; omega
      clear hn hr hlen hl hS hR
      go_region_law (refine step_copy_min rfl (.tmp 16) (.tmp 17) 118 9 rfl 5 Tryz.underlying118 infoByte b (8 + r) (64 - r) (64 - r) n (by simp [Act.eval, Act.put]) s' (by simp [Act.eval, Act.put]) (hcells f l m'.length) 169 hH1.out HN.out hfit ?_)
      generalize hw2 : World.setRow _ _ _ = w2
      have hx : (s'.data.toList.take n).length = n := by rw [List.length_take, ← Lib.size_eq]; omega
      have hH2 : Has w2 b (hcells f (l.take r ++ s'.data.toList.take n ++ l.drop (r + n)) m'.length) 169 := by
        rw [← hw2, ← hcells_splice f l _ m'.length r n hx (by rw [Hl.out]; omega)]
        exact Has.row (w := wr.drew) hH1 _
      have hgr2 : w.grownBy w2 (some b) := by rw [← hw2]; exact gb_setRow (gb_drewN hgr 1) _
      clear hw2 hH1 hgr c72 f72
      obtain ⟨l2, hl2⟩ : ∃ l2, l2 = l.take r ++ s'.data.toList.take n ++ l.drop (r + n) := ⟨_, rfl⟩
      rw [← hl2] at hH2
      have hl264 : l2.length = 64 := by rw [hl2]; simp [Hl.out, hx]; omega
      have HL2 := Lib.hid hl2
      clear hl2
      have c72 := (hH2.cell 72).trans (hcells_taken f l2 _ hl264)
      have f72 := hH2.free 72
      have HL264 := Lib.hid hl264
      have HX := Lib.hid hx
      clear hl264 hx
      have HLm : m'.length ≤ 4611686018427387904 := by have := HL.out; omega
      have hst := hH2.set (i := 72) (.int .u64 ((m'.length : Int) + (n : Int)))
      rw [show ((m'.length : Int) + (n : Int)) = ((m'.length + n : Nat) : Int) by omega, hcells_setTaken f l2 _ _ HL264.out] at hst
      have hT2 := hT.grown (gb_setCell hgr2 72 (.int .u64 ((m'.length : Int) + (n : Int)))) (by intro e; cases e; exact hb1 rfl) (by intro e; cases e; exact hb2 rfl)
      have hext : Hid ((s'.extract n s'.size).data.toList = s'.data.toList.drop n) := Lib.extract_to_end s' n
      have hesz : Hid ((s'.extract n s'.size).size = s'.size - n) := by show _ = _; rw [Lib.size_eq, hext.out, List.length_drop, ← Lib.size_eq]
      have HE2 : Hid (m' ++ s'.data.toList.take n ++ (s'.extract n s'.size).data.toList = m ++ s.data.toList) := by
        show _ = _
        rw [hext.out, List.append_assoc, List.take_append_drop]; exact HE.out
      by_cases hfull : r + n = 64
      · have hz : (((m'.length : Int) + (n : Int)) % 64 == 0) = true := by rw [beq_iff_eq]; omega
        have HZ := Lib.hid hfull
        clear hfull
        go_wp2_with (go_at_call 127; refine (stir b f l2 (m'.length + n) HL264.out _ hT2 hst).mono ?_; rintro e w3 ⟨rfl, hg3, hH3⟩)
        refine ⟨⟨_, _, rfl, gb_trans (gb_setCell hgr2 _ _) hg3, ?_, HE2⟩, ?_⟩
        · rw [HL2.out] at hH3
          exact HsI.full HX.out HR.out HZ.out Hl.out hH3 (S8.of_at _) HS.out HRR.out
        · show (s'.extract n s'.size).size < s'.size
          rw [hesz.out]; omega
      · have hz : (((m'.length : Int) + (n : Int)) % 64 == 0) = false := by rw [beq_eq_false_iff_ne]; omega
        have HZ := Lib.hid hfull
        clear hfull
        go_wp2_with fail
        refine ⟨⟨_, _, rfl, gb_setCell hgr2 _ _, ?_, HE2⟩, ?_⟩
        · rw [HL2.out] at hst
          exact HsI.more HX.out HR.out (by have := HZ.out; omega) Hl.out hst HS.out HRR.out
        · show (s'.extract n s'.size).size < s'.size
          rw [hesz.out]; omega
end Go.Proofs.YthcebnfdapcllaaGreatDoor
