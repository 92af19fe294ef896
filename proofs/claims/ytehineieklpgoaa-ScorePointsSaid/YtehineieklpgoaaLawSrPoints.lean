/-
  ScorePoints: the walk.
-/
import Derived.Test.YtehineieklpgoaaSrLaw
import Derived.Test.YtehineieklpgoaaSrRBl
namespace Go.Proofs.Ytehineieklpgoaa.An
open Go.RowKit Mem NN.Rg2
open Sr (Bd pt pts upd wo shunRow last16)
set_option maxRecDepth 100000
theorem spts_long (a : Option Addr) (n c : Nat) (k : Int) (h1 : 20 < n) (w : World) : Calls Try.prog 6 #[.slice a n c, .int .i64 k] w fun e w' => e = .returned (.bool true) ∧ Below w.heap.size w w' := by
  have t1 : decide ((20 : Int) < (n : Int)) = true := decide_eq_true (by omega)
  clear h1
  go_enter Try.func6, Try.ntmps6
  go_wp2_with fail
  refine (alive20 w).mono ?_
  rintro e w1 ⟨rfl, hB⟩
  go_wp2_with fail
  go_ret
  exact ⟨rfl, hB⟩
/-- a board of which nobody has been let go, and of whom one has nothing -/
def Calm (x : Bd) (k : Int) : Prop := x.p k = 0 ∧ x.row = []
theorem Calm.next {x : Bd} {k : Int} (h : Calm x k) {n : Nat} (hn : n < 100) : Calm ((x.blame k n).forget k) k := by
  unfold Bd.blame
  rw [if_neg (by rw [h.1]; omega)]
  exact ⟨Sr.upd_same _ _ _, h.2⟩
theorem Calm.forget {x : Bd} {k : Int} (h : Calm x k) : Calm (x.forget k) k := ⟨Sr.upd_same _ _ _, h.2⟩
set_option maxHeartbeats 16000000 in
theorem spts_main (a : Option Addr) (l : List Int) (n c : Nat) (k : Int) (hn : n = l.length) (h1 : n ≤ 20) (hk : in64 k) (w : World) (hA : FsAt w a l) : Calls Try.prog 6 #[.slice a n c, .int .i64 k] w fun e w' => e = .returned (.bool true) ∧ Below w.heap.size w w' := by
  have t1 : decide ((20 : Int) < (n : Int)) = false := decide_eq_false (by omega)
  have HA := Lib.hid hA
  have HN := Lib.hid hn
  have HRV : Hid (l.reverse.length = n) := Lib.hid (by rw [List.length_reverse, hn])
  clear hn hA
  go_enter Try.func6, Try.ntmps6
  go_wp2_with fail
  refine (alive20 w).mono ?_
  rintro e w1 ⟨rfl, hB⟩
  go_wp2_with fail
  clear t1
  go_loopw [5, 6, 19] (fun s v i wl => ∃ (u t : Nat) (pv : Option Addr) (cv : Nat), u ≤ n ∧ t ≤ 100 * u ∧ i = .int .i64 (u : Int) ∧ s = .int .i64 (t : Int) ∧ v = .slice pv u cv ∧ Hid (t = pts (l.take u) ∧ RowO wl w.heap.size (.slice pv u cv) u (l.reverse.take u)) ∧ Below w.heap.size w wl) (fun _ _ i _ => n - (intOf i).toNat)
  case atStart => exact ⟨0, 0, none, 0, Nat.zero_le _, by omega, rfl, rfl, rfl, Lib.hid ⟨rfl, rowo_nil _ _⟩, hB⟩
  case round =>
    obtain ⟨u, t, pv, cv, hu, ht, rfl, rfl, rfl, HV, hb⟩ := hrel
    rename World => wl
    clear hB
    by_cases hlt : u < n
    · obtain ⟨z, hz⟩ : ∃ z, l[u]? = some z := ⟨l[u]'(by rw [← HN.out]; exact hlt), List.getElem?_eq_getElem _⟩
      obtain ⟨u2, hu2⟩ : ∃ u2, u2 = n - 1 - u := ⟨_, rfl⟩
      have hlt2 : u2 < n := by omega
      obtain ⟨z2, hz2⟩ : ∃ z, l[u2]? = some z := ⟨l[u2]'(by rw [← HN.out]; exact hlt2), List.getElem?_eq_getElem _⟩
      have hrev : l.reverse[u]? = some z2 := by
        rw [List.getElem?_reverse (by rw [← HN.out]; exact hlt), ← HN.out, ← hu2]
        exact hz2
      obtain ⟨ab, ao, rfl, hab, hc⟩ := (HA.out.below hb) (by rw [← HN.out]; omega)
      have hcz := hc u z hz
      have hmk := build_flt wl z
      have hb5 : Below wl.heap.size wl (wl.alloc (.cells #[.int .i64 z] 42)) := (Below.refl _ _).alloc (Nat.le_refl _) _
      have hB5 := hb.trans (hb5.mono hb.size)
      have hcz2 : (wl.alloc (.cells #[.int .i64 z] 42)).cell? ⟨ab, ao + u2, none⟩ = some (.int .i64 z2) := (hb5.cell hab).trans (hc u2 z2 hz2)
      have K5 := Lib.hid (points_row (some ⟨wl.heap.size, 0, none⟩) [z] 1 1 rfl (by decide) _ (one_fs wl z 42))
      obtain ⟨q, hq⟩ : ∃ q, q = pts [z] := ⟨_, rfl⟩
      have hq1 : q ≤ 100 := by rw [hq]; exact Sr.pts_le [z]
      have HT : Hid (t + q = pts (l.take (u + 1))) := Lib.hid (by rw [Sr.take_more hz, Sr.pts_app, ← hq, HV.out.1])
      have HRR : Hid (l.reverse.take (u + 1) = l.reverse.take u ++ [z2]) := Lib.hid (Sr.take_more hrev)
      have hR5 := HV.out.2.below hb5
      have hw1 : IntKind.i64.wrap ((n : Int) - 1) = (n : Int) - 1 := by rw [IntKind.wrap_i64]; omega
      have hw2 : IntKind.i64.wrap ((n : Int) - 1 - (u : Int)) = (u2 : Int) := by rw [IntKind.wrap_i64]; omega
      rw [← hq] at K5
      clear hc hz hz2 hrev hab hb5 hb hq HV hu2
      go_wp2_with fail
      refine (K5.out).mono ?_
      rintro e w6 ⟨rfl, hw6⟩
      rw [← hw6] at hR5 hcz2 hB5
      clear K5 hw6 hmk hcz
      have hmk := build_int w6 z2
      have hb7 : Below w6.heap.size w6 (w6.alloc (.cells #[.int .i64 z2] 3)) := (Below.refl _ _).alloc (Nat.le_refl _) _
      have hB7 := hB5.trans (hb7.mono hB5.size)
      have hz7 : (w6.alloc (.cells #[.int .i64 z2] 3)).cell? ⟨w6.heap.size, 0, none⟩ = some (.int .i64 z2) := Has.cell (Has.new _ _) 0
      have hR7 := hR5.below hb7
      have hs7 := hB7.size
      have hN9 : u ≤ 1000 := by omega
      clear hb7 hB5 hR5
      go_wp2_with ((with_reducible refine app_int rfl _ _ rfl w.heap.size (.slice pv u cv) u (l.reverse.take u) rfl hR7 w6.heap.size z2 rfl hz7 hN9 hs7 ?_); intro v8 w8 hR8 hb8; rw [← HRR.out] at hR8; obtain ⟨p8, c8, rfl⟩ := rowo_sl hR8)
      go_roundw
      case rel => exact ⟨u + 1, t + q, p8, c8, by omega, by omega, by go_num, by go_num, rfl, Lib.hid ⟨HT.out, hR8⟩, hB7.trans hb8⟩
      case measure => simp [intOf]; omega
    · obtain rfl : u = n := by omega
      obtain ⟨htp, hRO⟩ := HV.out
      rw [HN.out, List.take_length] at htp
      rw [show l.reverse.take u = l.reverse by rw [← HRV.out, List.take_length]] at hRO
      obtain ⟨pb, cb, eb, _, hfb⟩ := rowo_fs hRO
      cases eb
      have KF := Lib.hid (fun wq (hbq : Below wl.heap.size wl wq) => faults_at a l u c HN.out (by omega) wq ((HA.out.below hb).below hbq))
      have KB := Lib.hid (fun wq (hbq : Below wl.heap.size wl wq) => faults_at pv l.reverse u cv HRV.out.symm (by omega) wq (hfb.below hbq))
      have HAQ : Hid (∀ wq, Below wl.heap.size wl wq → FsAt wq a l) := Lib.hid fun wq hbq => (HA.out.below hb).below hbq
      have HTP := Lib.hid htp
      clear hRO hfb HV htp HA
      have hb0 := Below.refl wl.heap.size wl
      go_wp2_with fail
      refine (KF.out _ hb0).mono ?_
      rintro e w3 ⟨p3, c3, rfl, hf3, _, hb3⟩
      have K3 := Lib.hid (points_row p3 l u c3 HN.out (by omega) w3 hf3)
      rw [← HTP.out] at K3
      clear hf3 KF
      go_wp2_with fail
      refine (K3.out).mono ?_
      rintro e w' ⟨rfl, rfl⟩
      rename World => w4
      clear K3
      have t2 : ((t : Int) != (t : Int)) = false := by simp
      go_wp2_with fail
      refine (KB.out _ hb3).mono ?_
      rintro e w5 ⟨p5, c5, rfl, hf5, _, hb5⟩
      have K5 := Lib.hid (points_row p5 l.reverse u c5 HRV.out.symm (by omega) w5 hf5)
      rw [Sr.pts_rev, ← HTP.out] at K5
      have hbq := hb3.trans (hb5.mono hb3.size)
      have hB5 := hb.trans (hbq.mono hb.size)
      clear hf5 KB hb3 hb5 hb hb0
      go_wp2_with fail
      refine (K5.out).mono ?_
      rintro e w' ⟨rfl, rfl⟩
      rename World => w6
      clear K5
      go_wp2_with fail
      refine (new_at w6).mono ?_
      rintro e w7 ⟨b, rfl, hwb, hS, hb7⟩
      have HS : Hid (∃ F x, BdS w7 F b 0 x ∧ Calm x k ∧ ∀ i, F i → w6.heap.size ≤ i) := Lib.hid ⟨_, _, hS, ⟨rfl, rfl⟩, fun i hi => hi.1⟩
      clear hS hwb t2
      go_wp2_with fail
      go_loopw [56] (fun i wr => ∃ s : Nat, s ≤ u ∧ i = .int .i64 (s : Int) ∧ Hid (∃ F x, BdS wr F b s x ∧ Calm x k ∧ ∀ i, F i → w6.heap.size ≤ i) ∧ Below w6.heap.size w6 wr) (fun i _ => u - (intOf i).toNat)
      case atStart => exact ⟨0, Nat.zero_le _, rfl, HS, hb7⟩
      case round =>
        obtain ⟨s, hs, rfl, HSR, hbr⟩ := hrel
        rename World => wr
        clear hb7 HS
        obtain ⟨F, x, hS, hC, hF⟩ := HSR.out
        by_cases hlt2 : s < u
        · obtain ⟨z, hz⟩ : ∃ z, l[s]? = some z := ⟨l[s]'(by rw [← HN.out]; exact hlt2), List.getElem?_eq_getElem _⟩
          obtain ⟨ab, ao, rfl, hab, hc⟩ := (HAQ.out wr (hbq.trans (hbr.mono hbq.size))) (by rw [← HN.out]; omega)
          have hcz := hc s z hz
          have hmk := build_flt wr z
          have hb5 : Below wr.heap.size wr (wr.alloc (.cells #[.int .i64 z] 42)) := (Below.refl _ _).alloc (Nat.le_refl _) _
          have h5 := hS.there.below hb5 fun i hi => hi.2
          have K5 := Lib.hid (points_row (some ⟨wr.heap.size, 0, none⟩) [z] 1 1 rfl (by decide) _ (one_fs wr z 42))
          have hB6 := hbr.trans (hb5.mono hbr.size)
          obtain ⟨q, hq⟩ : ∃ q, q = pts [z] := ⟨_, rfl⟩
          rw [← hq] at K5
          have H5 := Lib.hid (And.intro h5 (And.intro hC (And.intro hF hq)))
          clear hc hz hab hb5 h5 hS hC hF hq HSR hbr
          go_wp2_with fail
          refine (K5.out).mono ?_
          rintro e w8 ⟨rfl, hw8⟩
          obtain ⟨h8, hC, hF, hq⟩ := H5.out
          rw [← hw8] at h8 hB6
          clear K5 hw8 H5 hcz hmk
          have HF := Lib.hid (And.intro hC hF)
          by_cases h100 : q < 100
          · have t2 : decide ((q : Int) < 100) = true := decide_eq_true (by omega)
            have hmk := build_flt w8 z
            have hb9 : Below w8.heap.size w8 (w8.alloc (.cells #[.int .i64 z] 42)) := (Below.refl _ _).alloc (Nat.le_refl _) _
            have h9 := h8.there.below hb9 fun i hi => hi.2
            have K9 := Lib.hid (blame_at h9 (by omega) k hk (some ⟨w8.heap.size, 0, none⟩) [z] 1 1 rfl (by decide) (one_fs w8 z 42))
            rw [← hq] at K9
            have hB9 := hB6.trans (hb9.mono hB6.size)
            have HQ := Lib.hid h100
            clear hC hF hq h8 hb9 h9 h100 hB6
            go_wp2_with fail
            refine (K9.out).mono ?_
            rintro e w10 ⟨rfl, h10, hk10⟩
            have hB10 := hB9.trans (hk10.below (fun i hi => HF.out.2 i hi.1.1) hB9.size)
            have H10 : Hid (∃ F x, BdS w10 F b (s + 1) x ∧ Calm (x.forget k) k ∧ ∀ i, F i → w6.heap.size ≤ i) := Lib.hid ⟨_, _, h10, HF.out.1.next HQ.out, fun i hi => hi.elim (fun h => HF.out.2 i h.1.1) fun h => Nat.le_trans hB9.size h.1⟩
            clear K9 h10 hk10 hB9 hmk HF HQ
            obtain ⟨F2, x2, h10, hC2, hF2⟩ := H10.out
            have K11 := Lib.hid (forget_at h10 k hk)
            have HF2 := Lib.hid (And.intro hC2 hF2)
            clear h10 hC2 hF2 H10
            go_wp2_with fail
            refine (K11.out).mono ?_
            rintro e w12 ⟨rfl, h12, hk12⟩
            have hB12 := hB10.trans (hk12.below HF2.out.2 hB10.size)
            have HE : Hid (∃ F x, BdS w12 F b (s + 1) x ∧ Calm x k ∧ ∀ i, F i → w6.heap.size ≤ i) := Lib.hid ⟨_, _, h12, HF2.out.1, HF2.out.2⟩
            clear h12 hk12 HF2 K11 hB10
            go_wp2_with fail
            go_roundw
            case rel => exact ⟨s + 1, by omega, by go_num, HE, hB12⟩
            case measure => simp [intOf]; omega
          · have t2 : decide ((q : Int) < 100) = false := decide_eq_false (by omega)
            have K11 := Lib.hid (forget_at h8 k hk)
            clear h8 hC hF hq h100
            go_wp2_with fail
            refine (K11.out).mono ?_
            rintro e w12 ⟨rfl, h12, hk12⟩
            have hB12 := hB6.trans (hk12.below (fun i hi => HF.out.2 i hi.1) hB6.size)
            have HE : Hid (∃ F x, BdS w12 F b (s + 1) x ∧ Calm x k ∧ ∀ i, F i → w6.heap.size ≤ i) := Lib.hid ⟨_, _, h12.more (Nat.le_succ s), HF.out.1.forget, fun i hi => HF.out.2 i hi.1⟩
            clear h12 hk12 HF K11 hB6
            go_wp2_with fail
            go_roundw
            case rel => exact ⟨s + 1, by omega, by go_num, HE, hB12⟩
            case measure => simp [intOf]; omega
        · have K8 := Lib.hid (shuns_at hS k)
          have K9 := Lib.hid (sum_at hS k hk)
          rw [show x.shuns k = false by unfold Bd.shuns; rw [hC.2]; rfl] at K8
          rw [show ((x.p k : Nat) : Int) = 0 by rw [hC.1]; rfl] at K9
          have hBE := hB5.trans (hbr.mono hB5.size)
          have t2 : ¬ s < u := hlt2
          clear hS hC hF HSR hbr hbq hB5 HAQ HTP HN HRV
          go_wp2_with fail
          refine (K8.out).mono ?_
          rintro e w' ⟨rfl, rfl⟩
          go_wp2_with fail
          refine (K9.out).mono ?_
          rintro e w' ⟨rfl, rfl⟩
          go_wp2_with fail
          go_ret
          exact ⟨rfl, hBE⟩
theorem spts_walk (a : Option Addr) (l : List Int) (n c : Nat) (k : Int) (hn : n = l.length) (hk : in64 k) (w : World) (hA : FsAt w a l) : Calls Try.prog 6 #[.slice a n c, .int .i64 k] w fun e w' => e = .returned (.bool true) ∧ Below w.heap.size w w' := by
  by_cases h : 20 < n
  · exact spts_long a n c k h w
  · exact spts_main a l n c k hn (by omega) hk w hA
end Go.Proofs.Ytehineieklpgoaa.An
