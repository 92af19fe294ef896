/-
  The document's board: Sum, Shuns, Forget; a sum told anew, a row put in the place of another one.
-/
import Derived.Test.YtehineieklpgoaaSrRef
namespace Go.Proofs.Ytehineieklpgoaa.An
open Go.RowKit Mem NN.Rg2
open Sr (Bd pt pts upd wo shunRow last16)
set_option maxRecDepth 100000
theorem rowi_set {w : World} {g n c : Nat} {l : List Int} (h : RowI w (.slice (some ⟨g, 0, none⟩) n c) l) {j : Nat} (hj : j < l.length) (z : Int) : RowI (w.setCell ⟨g, j, none⟩ (.int .i64 z)) (.slice (some ⟨g, 0, none⟩) n c) (l.set j z) := by
  rcases row_parts h with ⟨e, _⟩ | ⟨g', c', S, e, hg, hc, hm⟩
  · cases e
  · cases e
    have h2 := hg.set (i := j) (Value.int .i64 z)
    rw [List.setIfInBounds_toArray, List.set_append_left _ _ (by simpa using hj), ← List.map_set] at h2
    exact row_made (S := S) h2 (by rw [List.length_set]; exact hc) hm (by rw [List.length_set])
theorem natI_set (ss : List Nat) (j v : Nat) : (natI ss).set j (v : Int) = natI (ss.set j v) := by unfold natI; rw [List.map_set]
theorem natI_get {ss : List Nat} {j s : Nat} (h : ss[j]? = some s) : (natI ss)[j]? = some (s : Int) := by unfold natI; rw [List.getElem?_map, h]; rfl
section
variable {w0 w w' : World} {G : Nat → Prop} {r m : Nat} {va vs vr v' : Value} {ps row l' : List Int} {ss ss' : List Nat} {x : Bd}
theorem RdS.more (h : RdS w G r m x) {n : Nat} (hm : m ≤ n) : RdS w G r n x := by
  obtain ⟨va, ps, vs, ss, vr, h1, h2, h3, h4⟩ := h.ex
  exact ⟨⟨va, ps, vs, ss, vr, h1, h2, Nat.le_trans h3 hm, h4⟩, h.ok⟩
theorem RdR.setS {g n c : Nat} (h : RdR w0 w G r va ps (.slice (some ⟨g, 0, none⟩) n c) ss vr row) {j : Nat} (hj : j < ss.length) (v : Nat) : RdR w0 (w.setCell ⟨g, j, none⟩ (.int .i64 (v : Int))) G r va ps (.slice (some ⟨g, 0, none⟩) n c) (ss.set j v) vr row := by
  have hk : Kp (fun k => k = g) w (w.setCell ⟨g, j, none⟩ (.int .i64 (v : Int))) := kp_setCells w g j [_]
  have hr : g ≠ r := (h.na (.inr (.inl rfl))).1
  have hR := rowi_set h.sa (j := j) (by rw [natI_len]; exact hj) (v : Int)
  rw [natI_set] at hR
  obtain ⟨p, c', e, hp⟩ := h.ra
  refine ⟨hk.has h.h fun e => hr e.symm, rowi_kp h.pa hk fun i hi e => h.da i hi (by rw [e]; rfl), hR, ⟨p, c', e, ?_⟩, h.da, fun i hi => ?_, h.gr, h.own, h.kp.trans hk fun i hi hl => ?_⟩
  · exact fs_kp (n := row.length) (c := c') hp hk fun i hi e2 => (h.dr i (e ▸ hi)).2.1 (by rw [e2]; rfl)
  · obtain ⟨a1, a2, a3, a4⟩ := h.dr i hi
    exact ⟨a1, a2, a3, Nat.lt_of_lt_of_le a4 hk.size⟩
  · subst hi
    rcases h.own i (.inr (.inl rfl)) with hg | hg
    · exact hg
    · omega
/-- of the two rows one is another now, put in its place -/
theorem RdR.turnP (h : RdR w0 w G r va ps vs ss vr row) (hR : RowI w' v' l') (hv : v'.ownBlock = va.ownBlock ∨ ∃ g, v'.ownBlock = some g ∧ w.heap.size ≤ g) (hk : Kp (fun k => va.ownBlock = some k) w w') : RdR w0 (w'.setCell ⟨r, 0, none⟩ v') G r v' l' vs ss vr row := by
  have hs : Kp (fun k => k = r) w' (w'.setCell ⟨r, 0, none⟩ v') := kp_setCells w' r 0 [v']
  have hh : Has w' r (rbA va vs vr) 30 := hk.has h.h fun e => (h.na (.inl e)).1 rfl
  have hn : ∀ k, v'.ownBlock = some k → k ≠ r ∧ vs.ownBlock ≠ some k ∧ vr.ownBlock ≠ some k ∧ (G k ∨ w0.heap.size ≤ k) := fun k e => by
    rcases hv with hv | ⟨g, hv, hg⟩
    · rw [hv] at e
      exact ⟨(h.na (.inl e)).1, h.da k e, fun e2 => (h.dr k e2).1 e, h.own k (.inl e)⟩
    · rw [hv] at e
      cases e
      have a1 := h.h.lt
      exact ⟨by omega, fun e2 => by have := (h.na (.inr (.inl e2))).2; omega, fun e2 => by have := (h.na (.inr (.inr e2))).2; omega, .inr (Nat.le_trans h.kp.size hg)⟩
  obtain ⟨p, c', e, hp⟩ := h.ra
  refine ⟨?_, rowi_kp hR hs fun i hi => (hn i hi).1, rowi_kp (rowi_kp h.sa hk fun i hi e => h.da i e hi) hs fun i hi => (h.na (.inr (.inl hi))).1, ⟨p, c', e, ?_⟩, fun k e1 => (hn k e1).2.1, fun i hi => ?_, h.gr, fun k hk2 => ?_, (h.kp.trans hk fun i hi hl => ?_).trans hs fun i hi _ => hi ▸ h.gr⟩
  · exact hh.set (i := 0) v'
  · refine fs_kp (n := row.length) (c := c') (fs_kp (n := row.length) (c := c') hp hk fun i hi e2 => (h.dr i (e ▸ hi)).1 e2) hs fun i hi => (h.na (.inr (.inr (e ▸ hi)))).1
  · obtain ⟨a1, a2, a3, a4⟩ := h.dr i hi
    exact ⟨fun e1 => (hn i e1).2.2.1 hi, a2, a3, Nat.lt_of_lt_of_le a4 (Nat.le_trans hk.size hs.size)⟩
  · rcases hk2 with e1 | e1 | e1
    · exact (hn k e1).2.2.2
    · exact h.own k (.inr (.inl e1))
    · exact h.own k (.inr (.inr e1))
  · rcases h.own i (.inl hi) with hg | hg
    · exact hg
    · omega
theorem RdR.turnS (h : RdR w0 w G r va ps vs ss vr row) (hR : RowI w' v' (natI ss')) (hv : v'.ownBlock = vs.ownBlock ∨ ∃ g, v'.ownBlock = some g ∧ w.heap.size ≤ g) (hk : Kp (fun k => vs.ownBlock = some k) w w') : RdR w0 (w'.setCell ⟨r, 1, none⟩ v') G r va ps v' ss' vr row := by
  have hs : Kp (fun k => k = r) w' (w'.setCell ⟨r, 1, none⟩ v') := kp_setCells w' r 1 [v']
  have hh : Has w' r (rbA va vs vr) 30 := hk.has h.h fun e => (h.na (.inr (.inl e))).1 rfl
  have hn : ∀ k, v'.ownBlock = some k → k ≠ r ∧ va.ownBlock ≠ some k ∧ vr.ownBlock ≠ some k ∧ (G k ∨ w0.heap.size ≤ k) := fun k e => by
    rcases hv with hv | ⟨g, hv, hg⟩
    · rw [hv] at e
      exact ⟨(h.na (.inr (.inl e))).1, fun e1 => h.da k e1 e, fun e2 => (h.dr k e2).2.1 e, h.own k (.inr (.inl e))⟩
    · rw [hv] at e
      cases e
      have a1 := h.h.lt
      exact ⟨by omega, fun e2 => by have := (h.na (.inl e2)).2; omega, fun e2 => by have := (h.na (.inr (.inr e2))).2; omega, .inr (Nat.le_trans h.kp.size hg)⟩
  obtain ⟨p, c', e, hp⟩ := h.ra
  refine ⟨?_, rowi_kp (rowi_kp h.pa hk fun i hi e => h.da i hi e) hs fun i hi => (h.na (.inl hi)).1, rowi_kp hR hs fun i hi => (hn i hi).1, ⟨p, c', e, ?_⟩, fun k e1 e2 => (hn k e2).2.1 e1, fun i hi => ?_, h.gr, fun k hk2 => ?_, (h.kp.trans hk fun i hi hl => ?_).trans hs fun i hi _ => hi ▸ h.gr⟩
  · exact hh.set (i := 1) v'
  · refine fs_kp (n := row.length) (c := c') (fs_kp (n := row.length) (c := c') hp hk fun i hi e2 => (h.dr i (e ▸ hi)).2.1 e2) hs fun i hi => (h.na (.inr (.inr (e ▸ hi)))).1
  · obtain ⟨a1, a2, a3, a4⟩ := h.dr i hi
    exact ⟨a1, fun e1 => (hn i e1).2.2.1 hi, a3, Nat.lt_of_lt_of_le a4 (Nat.le_trans hk.size hs.size)⟩
  · rcases hk2 with e1 | e1 | e1
    · exact h.own k (.inl e1)
    · exact (hn k e1).2.2.2
    · exact h.own k (.inr (.inr e1))
  · rcases h.own i (.inr (.inl hi)) with hg | hg
    · exact hg
    · omega
/-- another row of those who aren't welcome, in memory that came up since B -/
theorem RdR.turnR {B : Nat} (h : RdR w0 w G r va ps vs ss vr row) (hB0 : w0.heap.size ≤ B) {p : Option Addr} {n c : Nat} (hn : n = l'.length) (hf : FsAt w p l') (hlt : ∀ k, (Value.slice p n c).ownBlock = some k → B ≤ k ∧ k < w.heap.size) (hB : ∀ k, k = r ∨ va.ownBlock = some k ∨ vs.ownBlock = some k → k < B) : RdR w0 (w.setCell ⟨r, 2, none⟩ (.slice p n c)) G r va ps vs ss (.slice p n c) l' := by
  subst hn
  have hs : Kp (fun k => k = r) w (w.setCell ⟨r, 2, none⟩ (.slice p l'.length c)) := kp_setCells w r 2 [_]
  refine ⟨h.h.set (i := 2) _, rowi_kp h.pa hs fun i hi => (h.na (.inl hi)).1, rowi_kp h.sa hs fun i hi => (h.na (.inr (.inl hi))).1, ⟨p, c, rfl, fs_kp (n := l'.length) (c := c) hf hs fun i hi e => ?_⟩, h.da, fun k hk => ?_, h.gr, fun k hk => ?_, h.kp.trans hs fun i hi _ => hi ▸ h.gr⟩
  · have h1 := (hlt i hi).1
    have h2 := hB r (.inl rfl)
    omega
  · have h1 := hlt k hk
    exact ⟨fun e => by have := hB k (.inr (.inl e)); omega, fun e => by have := hB k (.inr (.inr e)); omega, fun e => by have := hB k (.inl e); omega, Nat.lt_of_lt_of_le h1.2 hs.size⟩
  · rcases hk with hk | hk | hk
    · exact h.own k (.inl hk)
    · exact h.own k (.inr (.inl hk))
    · exact .inr (Nat.le_trans hB0 (hlt k hk).1)
end
theorem rshuns_at {w0 w : World} {G : Nat → Prop} {r : Nat} {va vs vr : Value} {ps row : List Int} {ss : List Nat} (h : RdR w0 w G r va ps vs ss vr row) (h9 : row.length ≤ 1000) (k : Int) : Calls Try.prog 21 #[.pointer (some ⟨r, 0, none⟩), .int .i64 k] w fun e w' => e = .returned (.bool (decide (k ∈ row))) ∧ w' = w := by
  have c0 := h.c2
  obtain ⟨p, c, rfl, hf⟩ := h.ra
  have HA := Lib.hid hf
  obtain ⟨n, hn⟩ : ∃ n, n = row.length := ⟨_, rfl⟩
  rw [← hn] at c0
  have HN := Lib.hid hn
  have hn9 : n ≤ 1000 := by omega
  clear h hf hn h9
  go_enter Try.func21, Try.ntmps21
  go_wp2_with fail
  go_loopw [12] (fun i wr => ∃ j : Nat, j ≤ n ∧ i = .int .i64 (j : Int) ∧ Hid (∀ t, t < j → row[t]? ≠ some k) ∧ wr = w) (fun i _ => n - (intOf i).toNat)
  case atStart => exact ⟨0, Nat.zero_le _, rfl, Lib.hid fun t ht => absurd ht (Nat.not_lt_zero _), rfl⟩
  case round =>
    obtain ⟨j, hj, rfl, HM, rfl⟩ := hrel
    by_cases hlt : j < n
    · obtain ⟨z, hz⟩ : ∃ z, row[j]? = some z := ⟨row[j]'(by rw [← HN.out]; exact hlt), List.getElem?_eq_getElem _⟩
      obtain ⟨b, off, rfl, _, hc⟩ := HA.out (by rw [← HN.out]; omega)
      have hcz := hc j z hz
      have HZ := Lib.hid hz
      clear hc hz c0
      by_cases e : z = k
      · have HE : Hid (decide (k ∈ row) = true) := Lib.hid (decide_eq_true (e ▸ List.mem_of_getElem? HZ.out))
        have t1 : (z == k) = true := by simpa using e
        clear e HM HZ
        go_wp2_with fail
        go_ret
        rw [HE.out]
        exact ⟨rfl, rfl⟩
      · have t1 : (z == k) = false := by simpa using e
        have HM2 : Hid (∀ t, t < j + 1 → row[t]? ≠ some k) := Lib.hid fun t ht hh => by
          by_cases h2 : t < j
          · exact HM.out t h2 hh
          · obtain rfl : t = j := by omega
            exact e (Option.some.inj (HZ.out.symm.trans hh))
        clear e HM HZ
        go_wp2_with fail
        go_roundw
        case rel => exact ⟨j + 1, by omega, by go_num, HM2, trivial⟩
        case measure => simp [intOf]; omega
    · obtain rfl : j = n := by omega
      have HE : Hid (decide (k ∈ row) = false) := Lib.hid (decide_eq_false (idx_miss fun t ht => HM.out t (by rw [HN.out]; exact ht)))
      clear HM HN c0
      go_wp2_with fail
      go_ret
      rw [HE.out]
      exact ⟨rfl, rfl⟩
section
variable {w : World} {G : Nat → Prop} {r m : Nat} {x : Bd}
/-- where a peer's points stand -/
theorem sum_place {w0 : World} {va vs vr : Value} {ps row : List Int} {ss : List Nat} (hR : RdR w0 w G r va ps vs ss vr row) (hl : ps.length = ss.length) {k : Int} (hk : k ∈ ps) : ∃ g n c s, vs = .slice (some ⟨g, 0, none⟩) n c ∧ n = ss.length ∧ ps.idxOf k < n ∧ ss[ps.idxOf k]? = some s ∧ w.cell? ⟨g, ps.idxOf k, none⟩ = some (.int .i64 (s : Int)) ∧ w.frozen? ⟨g, ps.idxOf k, none⟩ = false := by
  have hi := Sr.idx_lt_mem.2 hk
  have hs : ss[ps.idxOf k]? = some (ss[ps.idxOf k]'(by omega)) := List.getElem?_eq_getElem _
  rcases row_parts hR.sa with ⟨_, e2⟩ | ⟨g, c, S, e, hg, _, _⟩
  · have := natI_len ss
    rw [e2] at this
    simp at this
    omega
  · refine ⟨g, _, c, _, e, natI_len ss, by rw [natI_len]; omega, hs, ?_, hg.free _⟩
    rw [hg.cell, List.getElem?_toArray, List.getElem?_append_left (by rw [List.length_map, natI_len]; omega), List.getElem?_map, natI_get hs]
    rfl
theorem rsum_at (h : RdS w G r m x) (hm : m ≤ 1000) (k : Int) : Calls Try.prog 19 #[.pointer (some ⟨r, 0, none⟩), .int .i64 k] w fun e w' => e = .returned (.int .i64 (x.p k : Int)) ∧ w' = w := by
  obtain ⟨va, ps, vs, ss, vr, hR, hl, hm2, hp, _⟩ := h.ex
  have KA := Lib.hid (rat_at hR (by omega) k)
  by_cases hk : k ∈ ps
  · obtain ⟨g, n, c, s, rfl, hn, hi, hs, hc, _⟩ := sum_place hR hl hk
    have c1 := hR.c1
    rw [show atZ ps k = (ps.idxOf k : Int) by unfold atZ; rw [if_pos hk]] at KA
    rw [show x.p k = s by rw [hp]; exact Sr.look_at hs]
    generalize ps.idxOf k = j at *
    have t1 : decide ((j : Int) < 0) = false := decide_eq_false (by omega)
    clear hR hl hm2 hp hk hs h hn
    go_enter Try.func19, Try.ntmps19
    go_wp2_with fail
    refine (KA.out).mono ?_
    rintro e w' ⟨rfl, rfl⟩
    go_wp2_with fail
    go_ret
    exact ⟨rfl, rfl⟩
  · rw [show atZ ps k = -1 by unfold atZ; rw [if_neg hk]] at KA
    rw [show x.p k = 0 by rw [hp]; exact Sr.look_none hl hk]
    clear hR hl hm2 hp hk h
    go_enter Try.func19, Try.ntmps19
    go_wp2_with fail
    refine (KA.out).mono ?_
    rintro e w' ⟨rfl, rfl⟩
    go_wp2_with fail
    go_ret
    exact ⟨rfl, rfl⟩
theorem rforget_at (h : RdS w G r m x) (hm : m ≤ 1000) (k : Int) : Calls Try.prog 16 #[.pointer (some ⟨r, 0, none⟩), .int .i64 k] w fun e w' => e = .returned (.tuple #[]) ∧ RdS w' (Nxt G w w') r m (x.forget k) ∧ Kp G w w' := by
  obtain ⟨va, ps, vs, ss, vr, hR, hl, hm2, hp, h100⟩ := h.ex
  have KA := Lib.hid (rat_at hR (by omega) k)
  have hok := h.ok.forget k
  by_cases hk : k ∈ ps
  · obtain ⟨g, n, c, s, rfl, hn, hi, hs, hc, hf⟩ := sum_place hR hl hk
    have c1 := hR.c1
    have H1 := Lib.hid (hR.setS (j := ps.idxOf k) (by omega) 0)
    have HD : Hid (∀ w', RdR w w' G r va ps (.slice (some ⟨g, 0, none⟩) n c) (ss.set (ps.idxOf k) 0) vr x.row → RdS w' (Nxt G w w') r m (x.forget k) ∧ Kp G w w') := Lib.hid fun w' hh =>
      RdR.done (y := x.forget k) hh (by rw [List.length_set]; exact hl) hm2 (by rw [Sr.look_set hl hk, ← hp]; rfl) (Sr.set_low h100 _ (by decide)) hok
    rw [show atZ ps k = (ps.idxOf k : Int) by unfold atZ; rw [if_pos hk]] at KA
    generalize ps.idxOf k = j at *
    have t1 : decide ((0 : Int) ≤ (j : Int)) = true := decide_eq_true (by omega)
    clear hR hl hm2 hp hk hs h hn h100 hok
    go_enter Try.func16, Try.ntmps16
    go_wp2_with fail
    refine (KA.out).mono ?_
    rintro e w' ⟨rfl, rfl⟩
    go_wp2_with fail
    go_end0
    exact ⟨rfl, HD.out _ H1.out⟩
  · have HD := Lib.hid (RdR.done (y := x.forget k) hR hl hm2 (by
      rw [← hp]
      show upd x.p k 0 = x.p
      have e0 : x.p k = 0 := by rw [hp]; exact Sr.look_none hl hk
      rw [← e0, Sr.upd_id]) h100 hok)
    rw [show atZ ps k = -1 by unfold atZ; rw [if_neg hk]] at KA
    clear hR hl hm2 hp hk h h100 hok
    go_enter Try.func16, Try.ntmps16
    go_wp2_with fail
    refine (KA.out).mono ?_
    rintro e w' ⟨rfl, rfl⟩
    go_wp2_with fail
    go_end0
    exact ⟨rfl, HD.out⟩
end
end Go.Proofs.Ytehineieklpgoaa.An
