/-
  The document's board in memory; its points, where a peer stands, Sum, Shuns and Forget.
-/
import Derived.Test.YtehineieklpgoaaSrShun
namespace Go.Proofs.Ytehineieklpgoaa.An
open Go.RowKit Mem NN.Rg2
open Sr (Bd pt pts upd wo shunRow last16)
set_option maxRecDepth 100000
theorem rpoints_no (z : Int) (h : z < 1 ∨ 7 < z) (w : World) : Calls Try.prog 10 #[.int .i64 z] w fun e w' => e = .returned (.int .i64 0) ∧ w' = w := by
  by_cases h1 : z < 1
  · clear h
    have t1 : decide (z < 1) = true := decide_eq_true h1
    clear h1
    go_enter Try.func10, Try.ntmps10
    go_wp2_with fail
    go_ret
    exact ⟨rfl, rfl⟩
  · have t1 : decide (z < 1) = false := decide_eq_false h1
    have t2 : decide (7 < z) = true := decide_eq_true (by omega)
    clear h h1
    go_enter Try.func10, Try.ntmps10
    go_wp2_with fail
    go_ret
    exact ⟨rfl, rfl⟩
theorem ridx0 (w : World) : (Instr.index 49 (.agg #[.int .i64 100, .int .i64 100, .int .i64 100, .int .i64 20, .int .i64 100, .int .i64 50, .int .i64 10]) (.int .i64 0)).run Try.prog w = .ok (.int .i64 100) w := by kernel_rfl
theorem ridx1 (w : World) : (Instr.index 49 (.agg #[.int .i64 100, .int .i64 100, .int .i64 100, .int .i64 20, .int .i64 100, .int .i64 50, .int .i64 10]) (.int .i64 1)).run Try.prog w = .ok (.int .i64 100) w := by kernel_rfl
theorem ridx2 (w : World) : (Instr.index 49 (.agg #[.int .i64 100, .int .i64 100, .int .i64 100, .int .i64 20, .int .i64 100, .int .i64 50, .int .i64 10]) (.int .i64 2)).run Try.prog w = .ok (.int .i64 100) w := by kernel_rfl
theorem ridx3 (w : World) : (Instr.index 49 (.agg #[.int .i64 100, .int .i64 100, .int .i64 100, .int .i64 20, .int .i64 100, .int .i64 50, .int .i64 10]) (.int .i64 3)).run Try.prog w = .ok (.int .i64 20) w := by kernel_rfl
theorem ridx4 (w : World) : (Instr.index 49 (.agg #[.int .i64 100, .int .i64 100, .int .i64 100, .int .i64 20, .int .i64 100, .int .i64 50, .int .i64 10]) (.int .i64 4)).run Try.prog w = .ok (.int .i64 100) w := by kernel_rfl
theorem ridx5 (w : World) : (Instr.index 49 (.agg #[.int .i64 100, .int .i64 100, .int .i64 100, .int .i64 20, .int .i64 100, .int .i64 50, .int .i64 10]) (.int .i64 5)).run Try.prog w = .ok (.int .i64 50) w := by kernel_rfl
theorem ridx6 (w : World) : (Instr.index 49 (.agg #[.int .i64 100, .int .i64 100, .int .i64 100, .int .i64 20, .int .i64 100, .int .i64 50, .int .i64 10]) (.int .i64 6)).run Try.prog w = .ok (.int .i64 10) w := by kernel_rfl
theorem rpoints_one (z : Int) (n : Nat) (h : (z = 1 ∧ n = 100) ∨ (z = 2 ∧ n = 100) ∨ (z = 3 ∧ n = 100) ∨ (z = 4 ∧ n = 20) ∨ (z = 5 ∧ n = 100) ∨ (z = 6 ∧ n = 50) ∨ (z = 7 ∧ n = 10)) (w : World) : Calls Try.prog 10 #[.int .i64 z] w fun e w' => e = .returned (.int .i64 (n : Int)) ∧ w' = w := by
  rcases h with ⟨rfl, rfl⟩ | ⟨rfl, rfl⟩ | ⟨rfl, rfl⟩ | ⟨rfl, rfl⟩ | ⟨rfl, rfl⟩ | ⟨rfl, rfl⟩ | ⟨rfl, rfl⟩
  all_goals have i0 := ridx0 w
  all_goals have i1 := ridx1 w
  all_goals have i2 := ridx2 w
  all_goals have i3 := ridx3 w
  all_goals have i4 := ridx4 w
  all_goals have i5 := ridx5 w
  all_goals have i6 := ridx6 w
  all_goals
    go_enter Try.func10, Try.ntmps10
    go_wp2_with fail
    go_ret
    exact ⟨rfl, rfl⟩
theorem rpoints_at (z : Int) (w : World) : Calls Try.prog 10 #[.int .i64 z] w fun e w' => e = .returned (.int .i64 (pt z : Int)) ∧ w' = w := by
  by_cases h : 1 ≤ z ∧ z ≤ 7
  · have : z = 1 ∨ z = 2 ∨ z = 3 ∨ z = 4 ∨ z = 5 ∨ z = 6 ∨ z = 7 := by omega
    rcases this with rfl | rfl | rfl | rfl | rfl | rfl | rfl <;> exact rpoints_one _ _ (by decide) w
  · rw [Sr.pt_none (by omega)]
    exact rpoints_no z (by omega) w
def rbA (va vs vr : Value) : Array Value := #[va, vs, vr]
def natI (ss : List Nat) : List Int := ss.map fun (s : Nat) => (s : Int)
theorem natI_len (ss : List Nat) : (natI ss).length = ss.length := List.length_map ..
/-- the document's board under way since w0 -/
structure RdR (w0 w : World) (G : Nat → Prop) (r : Nat) (va : Value) (ps : List Int) (vs : Value) (ss : List Nat) (vr : Value) (row : List Int) : Prop where
  h : Has w r (rbA va vs vr) 30
  pa : RowI w va ps
  sa : RowI w vs (natI ss)
  ra : ∃ p c, vr = .slice p row.length c ∧ FsAt w p row
  da : ∀ k, va.ownBlock = some k → vs.ownBlock ≠ some k
  dr : ∀ k, vr.ownBlock = some k → va.ownBlock ≠ some k ∧ vs.ownBlock ≠ some k ∧ k ≠ r ∧ k < w.heap.size
  gr : G r
  own : ∀ k, va.ownBlock = some k ∨ vs.ownBlock = some k ∨ vr.ownBlock = some k → G k ∨ w0.heap.size ≤ k
  kp : Kp G w0 w
/-- block r is the document's board; all of its blocks are of G; it knows so many peers at most -/
structure RdS (w : World) (G : Nat → Prop) (r m : Nat) (x : Bd) : Prop where
  ex : ∃ va ps vs ss vr, RdR w w G r va ps vs ss vr x.row ∧ ps.length = ss.length ∧ ps.length ≤ m ∧ x.p = Sr.look ps ss ∧ ∀ s ∈ ss, s < 100
  ok : x.Ok
section
variable {w0 w w' : World} {G H : Nat → Prop} {r m : Nat} {va vs vr : Value} {ps row : List Int} {ss : List Nat} {x : Bd}
theorem RdR.c0 (h : RdR w0 w G r va ps vs ss vr row) : w.cell? ⟨r, 0, none⟩ = some va := Has.cell h.h 0
theorem RdR.c1 (h : RdR w0 w G r va ps vs ss vr row) : w.cell? ⟨r, 1, none⟩ = some vs := Has.cell h.h 1
theorem RdR.c2 (h : RdR w0 w G r va ps vs ss vr row) : w.cell? ⟨r, 2, none⟩ = some vr := Has.cell h.h 2
theorem RdR.fr (h : RdR w0 w G r va ps vs ss vr row) (i : Nat) : w.frozen? ⟨r, i, none⟩ = false := Has.free h.h i
theorem RdR.na (h : RdR w0 w G r va ps vs ss vr row) {k : Nat} (hk : va.ownBlock = some k ∨ vs.ownBlock = some k ∨ vr.ownBlock = some k) : k ≠ r ∧ k < w.heap.size := by
  rcases hk with hk | hk | hk
  · obtain ⟨cs, hc⟩ := rowi_blk h.pa hk
    refine ⟨fun e => ?_, hc.lt⟩
    subst e
    have := (Has.out hc).symm.trans (Has.out h.h)
    cases this
  · obtain ⟨cs, hc⟩ := rowi_blk h.sa hk
    refine ⟨fun e => ?_, hc.lt⟩
    subst e
    have := (Has.out hc).symm.trans (Has.out h.h)
    cases this
  · exact (h.dr k hk).2.2
theorem fs_kp {p : Option Addr} {l : List Int} {F : Nat → Prop} {n c : Nat} (h : FsAt w p l) (k : Kp F w w') (hF : ∀ i, (Value.slice p n c).ownBlock = some i → ¬ F i) : FsAt w' p l :=
  h.on k.size fun b off e hb => k.block b hb (hF b (by rw [e]; rfl))
theorem RdR.keep (h : RdR w0 w G r va ps vs ss vr row) {F : Nat → Prop} (k : Kp F w w') (hF : ∀ i, i = r ∨ va.ownBlock = some i ∨ vs.ownBlock = some i ∨ vr.ownBlock = some i → ¬ F i) (hG : ∀ i, F i → i < w0.heap.size → G i) : RdR w0 w' G r va ps vs ss vr row := by
  obtain ⟨p, c, e, hp⟩ := h.ra
  refine ⟨k.has h.h (hF r (.inl rfl)), rowi_kp h.pa k fun i hi => hF i (.inr (.inl hi)), rowi_kp h.sa k fun i hi => hF i (.inr (.inr (.inl hi))), ⟨p, c, e, ?_⟩, h.da, fun i hi => ?_, h.gr, h.own, h.kp.trans k hG⟩
  · exact fs_kp (n := row.length) (c := c) hp k fun i hi => hF i (.inr (.inr (.inr (e ▸ hi))))
  · obtain ⟨h1, h2, h3, h4⟩ := h.dr i hi
    exact ⟨h1, h2, h3, Nat.lt_of_lt_of_le h4 k.size⟩
theorem RdR.rest (h : RdR w0 w G r va ps vs ss vr row) (hb : Below w.heap.size w w') : RdR w0 w' G r va ps vs ss vr row :=
  h.keep (F := fun _ => False) (Kp.of hb) (fun _ _ hf => hf) fun _ hf _ => hf.elim
theorem RdS.raw (h : RdS w G r m x) : ∃ va ps vs ss vr, RdR w w G r va ps vs ss vr x.row ∧ ps.length = ss.length ∧ ps.length ≤ m ∧ x.p = Sr.look ps ss ∧ ∀ s ∈ ss, s < 100 := h.ex
theorem RdR.done {y : Bd} (h : RdR w0 w G r va ps vs ss vr y.row) (hl : ps.length = ss.length) (hm : ps.length ≤ m) (hp : y.p = Sr.look ps ss) (h100 : ∀ s ∈ ss, s < 100) (ok : y.Ok) : RdS w (Nxt G w0 w) r m y ∧ Kp G w0 w :=
  ⟨⟨⟨va, ps, vs, ss, vr, ⟨h.h, h.pa, h.sa, h.ra, h.da, h.dr, .inl h.gr, fun k hk => .inl ((h.own k hk).elim .inl fun h1 => .inr ⟨h1, (h.na hk).2⟩), Kp.refl _ _⟩, hl, hm, hp, h100⟩, ok⟩, h.kp⟩
theorem RdS.keep (h : RdS w G r m x) (k : Kp H w w') (hG : ∀ i, G i → ¬ H i) : RdS w' G r m x := by
  obtain ⟨va, ps, vs, ss, vr, hR, h1, h2, h3, h4⟩ := h.ex
  have hn : ∀ i, va.ownBlock = some i ∨ vs.ownBlock = some i ∨ vr.ownBlock = some i → G i := fun i hi => (hR.own i hi).elim id fun hh => absurd (hR.na hi).2 (Nat.not_lt_of_le hh)
  obtain ⟨p, c, e, hp⟩ := hR.ra
  refine ⟨⟨va, ps, vs, ss, vr, ⟨k.has hR.h (hG r hR.gr), rowi_kp hR.pa k fun i hi => hG i (hn i (.inl hi)), rowi_kp hR.sa k fun i hi => hG i (hn i (.inr (.inl hi))), ⟨p, c, e, ?_⟩, hR.da, fun i hi => ?_, hR.gr, fun i hi => .inl (hn i hi), Kp.refl _ _⟩, h1, h2, h3, h4⟩, h.ok⟩
  · exact fs_kp (n := x.row.length) (c := c) hp k fun i hi => hG i (hn i (.inr (.inr (e ▸ hi))))
  · obtain ⟨a1, a2, a3, a4⟩ := hR.dr i hi
    exact ⟨a1, a2, a3, Nat.lt_of_lt_of_le a4 k.size⟩
theorem RdS.below (h : RdS w G r m x) {B : Nat} (hb : Below B w w') (hF : ∀ i, G i → i < B) : RdS w' G r m x :=
  h.keep (H := fun i => B ≤ i) ⟨hb.os, hb.tape, hb.output, hb.size, fun k _ hn => hb.block k (Nat.lt_of_not_le hn)⟩ fun i hi hn => absurd (hF i hi) (Nat.not_lt_of_le hn)
theorem RdS.lt (h : RdS w G r m x) : r < w.heap.size := by obtain ⟨va, ps, vs, ss, vr, hR, _⟩ := h.ex; exact hR.h.lt
end
/-! ### where a peer stands -/
theorem idx_hit : ∀ {l : List Int} {k : Int} {j : Nat}, l[j]? = some k → (∀ t, t < j → l[t]? ≠ some k) → l.idxOf k = j
  | [], _, _, h, _ => by simp at h
  | y :: l, k, 0, h, _ => by
    obtain rfl : y = k := by simpa using h
    simp
  | y :: l, k, j + 1, h, hn => by
    have h0 : y ≠ k := fun e => hn 0 (Nat.succ_pos _) (by rw [e]; rfl)
    rw [List.idxOf_cons, show (y == k) = false by simpa using h0]
    show List.idxOf k l + 1 = j + 1
    rw [idx_hit (j := j) (by simpa using h) fun t ht => by simpa using hn (t + 1) (by omega)]
theorem idx_miss {l : List Int} {k : Int} (h : ∀ t, t < l.length → l[t]? ≠ some k) : k ∉ l := fun hm => by
  obtain ⟨t, ht, e⟩ := List.mem_iff_getElem.1 hm
  exact h t ht (by rw [List.getElem?_eq_getElem ht, e])
/-- a place, or none -/
def atZ (ps : List Int) (k : Int) : Int := if k ∈ ps then (ps.idxOf k : Int) else -1
theorem row_at {w : World} {v : Value} {l : List Int} (h : RowI w v l) : ∃ p c, v = .slice p l.length c ∧ FsAt w p l := by
  obtain ⟨p, c, e, _, hf⟩ := fs_own h
  exact ⟨p, c, e, hf⟩
set_option maxHeartbeats 4000000 in
theorem rat_at {w0 w : World} {G : Nat → Prop} {r : Nat} {va vs vr : Value} {ps row : List Int} {ss : List Nat} (h : RdR w0 w G r va ps vs ss vr row) (h9 : ps.length ≤ 1000) (k : Int) : Calls Try.prog 24 #[.pointer (some ⟨r, 0, none⟩), .int .i64 k] w fun e w' => e = .returned (.int .i64 (atZ ps k)) ∧ w' = w := by
  have c0 := h.c0
  obtain ⟨p, c, rfl, hf⟩ := row_at h.pa
  have HA := Lib.hid hf
  obtain ⟨n, hn⟩ : ∃ n, n = ps.length := ⟨_, rfl⟩
  rw [← hn] at c0
  have HN := Lib.hid hn
  have hn9 : n ≤ 1000 := by omega
  clear h hf hn h9
  go_enter Try.func24, Try.ntmps24
  go_wp2_with fail
  go_loopw [12] (fun i wr => ∃ j : Nat, j ≤ n ∧ i = .int .i64 (j : Int) ∧ Hid (∀ t, t < j → ps[t]? ≠ some k) ∧ wr = w) (fun i _ => n - (intOf i).toNat)
  case atStart => exact ⟨0, Nat.zero_le _, rfl, Lib.hid fun t ht => absurd ht (Nat.not_lt_zero _), rfl⟩
  case round =>
    obtain ⟨j, hj, rfl, HM, rfl⟩ := hrel
    by_cases hlt : j < n
    · obtain ⟨z, hz⟩ : ∃ z, ps[j]? = some z := ⟨ps[j]'(by rw [← HN.out]; exact hlt), List.getElem?_eq_getElem _⟩
      obtain ⟨b, off, rfl, _, hc⟩ := HA.out (by rw [← HN.out]; omega)
      have hcz := hc j z hz
      have HZ := Lib.hid hz
      clear hc hz c0
      by_cases e : z = k
      · have HE : Hid (atZ ps k = (j : Int)) := Lib.hid (by
          have hm : k ∈ ps := e ▸ List.mem_of_getElem? HZ.out
          unfold atZ
          rw [if_pos hm, idx_hit (e ▸ HZ.out) HM.out])
        have t1 : (z == k) = true := by simpa using e
        clear e HM HZ
        go_wp2_with fail
        go_ret
        rw [HE.out]
        exact ⟨rfl, rfl⟩
      · have t1 : (z == k) = false := by simpa using e
        have HM2 : Hid (∀ t, t < j + 1 → ps[t]? ≠ some k) := Lib.hid fun t ht hh => by
          by_cases h2 : t < j
          · exact HM.out t h2 hh
          · obtain rfl : t = j := by omega
            exact e (Option.some.inj (HZ.out.symm.trans hh))
        clear e HM HZ
        go_wp2_with fail
        go_roundw
        case rel => exact ⟨j + 1, by omega, by go_num, HM2, trivial⟩
        case measure => simp [intOf]; omega
    · obtain rfl : j = n := by omega
      have HE : Hid (atZ ps k = -1) := Lib.hid (by
        unfold atZ
        rw [if_neg (idx_miss fun t ht => HM.out t (by rw [HN.out]; exact ht))])
      clear HM HN c0
      go_wp2_with fail
      go_ret
      rw [HE.out]
      exact ⟨rfl, rfl⟩
end Go.Proofs.Ytehineieklpgoaa.An
