/-
  Package score: who isn't welcome stands last in the row.
-/
import Derived.Test.YtehineieklpgoaaSrBd
namespace Go.Proofs.Ytehineieklpgoaa.An
open Go.RowKit Mem NN.Rg2
open Sr (Bd pt pts upd wo shunRow last16)
set_option maxRecDepth 100000
/-- a board under way since w0: its map, its row -/
structure BdR (w0 w : World) (F : Nat → Prop) (b mg m : Nat) (p : Int → Nat) (rv : Value) (l : List Int) : Prop where
  h : Has w b (bdA mg rv) 48
  mp : MapP w mg m p
  row : RowI w rv l
  fm : F mg
  fb : F b
  own : ∀ k, rv.ownBlock = some k → F k ∨ w0.heap.size ≤ k
  kp : Kp F w0 w
section
variable {w0 w w' : World} {F : Nat → Prop} {b mg m : Nat} {p : Int → Nat} {rv v' : Value} {l l' : List Int}
theorem BdR.c0 (h : BdR w0 w F b mg m p rv l) : w.cell? ⟨b, 0, none⟩ = some (.map (some mg)) := Has.cell h.h 0
theorem BdR.c1 (h : BdR w0 w F b mg m p rv l) : w.cell? ⟨b, 1, none⟩ = some rv := Has.cell h.h 1
theorem BdR.rest (h : BdR w0 w F b mg m p rv l) (hb : Below w.heap.size w w') : BdR w0 w' F b mg m p rv l :=
  ⟨below_has hb h.h h.h.lt, h.mp.on (hb.block _ h.mp.lt), rowi_kp h.row (Kp.of (F := fun _ => False) hb) fun _ _ h => h, h.fm, h.fb, h.own, h.kp.trans (Kp.of (F := F) hb) fun _ h _ => h⟩
/-- another row, made of this one, and put in its place -/
theorem BdR.turn (h : BdR w0 w F b mg m p rv l) (hR : RowI w' v' l') (hv : v'.ownBlock = rv.ownBlock ∨ ∃ g, v'.ownBlock = some g ∧ w.heap.size ≤ g) (hk : Kp (fun k => rv.ownBlock = some k) w w') : BdR w0 (w'.setCell ⟨b, 1, none⟩ v') F b mg m p v' l' := by
  have hnb : ∀ k, rv.ownBlock = some k → k ≠ b ∧ k ≠ mg := fun k hk => by
    obtain ⟨cs, hc⟩ := rowi_blk h.row hk
    refine ⟨fun e => ?_, h.mp.not_cells hc⟩
    subst e
    have := (Has.out hc).symm.trans (Has.out h.h)
    cases this
  have hb : Has w' b (bdA mg rv) 48 := hk.has h.h fun e => (hnb b e).1 rfl
  have hm : MapP w' mg m p := h.mp.on (hk.block _ h.mp.lt fun e => (hnb mg e).2 rfl)
  have hs : Kp (fun k => k = b) w' (w'.setCell ⟨b, 1, none⟩ v') := kp_setCells w' b 1 [v']
  have hvb : ∀ k, v'.ownBlock = some k → k ≠ b := fun k e => by
    rcases hv with hv | ⟨g, hv, hg⟩
    · exact (hnb k (hv ▸ e)).1
    · rw [hv] at e
      cases e
      have := h.h.lt
      omega
  refine ⟨?_, hm.on (hs.block _ hm.lt fun e => hm.not_cells (Has.out hb) e.symm), rowi_kp hR hs fun k e => hvb k e, h.fm, h.fb, fun k e => ?_, ?_⟩
  · have := hb.set (i := 1) v'
    exact this
  · rcases hv with hv | ⟨g, hv, hg⟩
    · exact h.own k (hv ▸ e)
    · rw [hv] at e
      cases e
      exact .inr (Nat.le_trans h.kp.size hg)
  · refine (h.kp.trans hk fun k e hl => ?_).trans hs fun k e _ => e ▸ h.fb
    rcases h.own k e with hF | hF
    · exact hF
    · omega
theorem BdR.free (h : BdR w0 w F b mg m p rv l) (hk : Kp (fun k => rv.ownBlock = some k) w w') (hR : RowI w rv l) : w'.frozen? ⟨b, 1, none⟩ = false ∧ w'.cell? ⟨b, 1, none⟩ = some rv := by
  have hb : Has w' b (bdA mg rv) 48 := hk.has h.h fun e => by
    obtain ⟨cs, hc⟩ := rowi_blk hR e
    have := (Has.out hc).symm.trans (Has.out h.h)
    cases this
  exact ⟨Has.free hb _, Has.cell hb 1⟩
theorem BdR.done {x : Bd} (h : BdR w0 w F b mg m x.p rv x.row) (ok : x.Ok) : BdS w (Nxt F w0 w) b m x ∧ Kp F w0 w :=
  ⟨⟨⟨mg, rv, h.h, h.mp, h.row, .inl h.fm, fun k e => (h.own k e).elim .inl fun hk => .inr ⟨hk, rowi_lt h.row e⟩⟩, .inl h.fb, ok⟩, h.kp⟩
end
theorem BdS.raw {w : World} {F : Nat → Prop} {b m : Nat} {x : Bd} (h : BdS w F b m x) : ∃ mg rv, BdR w w F b mg m x.p rv x.row := by
  obtain ⟨mg, rv, h1, h2, h3, h4, h5⟩ := h.ex
  exact ⟨mg, rv, h1, h2, h3, h4, h.on, fun k e => .inl (h5 k e), Kp.refl _ _⟩
theorem rowi_sl {w : World} {v : Value} {l : List Int} (h : RowI w v l) : ∃ (p : Option Addr) (n c : Nat), v = .slice p n c ∧ Hid (n = l.length) := by
  obtain ⟨p, c, e⟩ := rowi_slice h
  exact ⟨p, _, c, e, Lib.hid rfl⟩
set_option maxHeartbeats 4000000 in
theorem shun_at {w0 w : World} {F : Nat → Prop} {b mg m : Nat} {p : Int → Nat} {rv : Value} {l : List Int} (h : BdR w0 w F b mg m p rv l) (hf : l.length ≤ 16) (ho : l.Nodup) (k : Int) (hk : in64 k) :
    Calls Try.prog 23 #[.pointer (some ⟨b, 0, none⟩), .int .i64 k] w fun e w' => e = .returned (.tuple #[]) ∧ ∃ rv', BdR w0 w' F b mg m (upd p k 0) rv' (shunRow l k) := by
  have c0 := h.c0
  have hM := h.mp
  have H := Lib.hid h
  have HC := Lib.hid (Sr.shun_cut hf k)
  obtain ⟨l1, hl1⟩ : ∃ l1, l1 = wo l k := ⟨_, rfl⟩
  have HL1 := Lib.hid (And.intro hl1 (And.intro hf ho))
  have h16 : l1.length ≤ 16 := by rw [hl1]; exact Nat.le_trans (Sr.wo_len _ _) hf
  rw [← hl1] at HC
  clear hf ho h hl1
  go_enter Try.func23, Try.ntmps23
  go_upto_region 1 with (with_reducible refine mapp_del rfl _ _ rfl k rfl rfl hM hk ?_; intro w1 hM1 g1)
  have h1 : BdR w0 w1 F b mg m (upd p k 0) rv l := by
    have h := H.out
    have hkp : Kp (fun i => i = mg) w w1 := Kp.gb g1 fun k hk => (Option.some.inj hk).symm
    exact ⟨hkp.has h.h (h.mp.not_cells h.h), hM1, rowi_kp h.row hkp fun i hi => by
      obtain ⟨cs, hc⟩ := rowi_blk h.row hi
      exact h.mp.not_cells hc, h.fm, h.fb, h.own, h.kp.trans hkp fun i hi _ => hi ▸ h.fm⟩
  clear hM1 g1 H c0 hM
  have KI := Lib.hid (index_at h1.row (by have := HL1.out.2.1; omega) k)
  have c1 := h1.c1
  have H1 := Lib.hid h1
  obtain ⟨p1, n1, cp1, rfl, HN1⟩ := rowi_sl h1.row
  clear h1
  go_wp2_with fail
  refine (KI.out).mono ?_
  rintro e w2 ⟨z, rfl, hz, rfl⟩
  clear KI
  rcases hz with ⟨rfl, hno⟩ | ⟨i, rfl, hi⟩
  case' inl =>
    have e1 : l1 = l := by rw [HL1.out.1, Sr.wo_not hno]
    have H4 : Hid (∃ rv4, BdR w0 w2 F b mg m (upd p k 0) rv4 l1) := Lib.hid ⟨_, by rw [e1]; exact H1.out⟩
    clear hno e1 c1 H1
    go_upto_region 4 with fail
    rename World => w4
  case' inr =>
    have e1 : l1 = l.take i ++ l.drop (i + 1) := by rw [HL1.out.1, Sr.wo_at HL1.out.2.2 hi]
    have hil := (List.getElem?_eq_some_iff.1 hi).1
    have hs : IntKind.i64.wrap ((i : Int) + 1) = (i : Int) + 1 := by have := HL1.out.2.1; rw [IntKind.wrap_i64]; omega
    have KD := Lib.hid (delete_at H1.out.row i hil ((i : Int) + 1) (by omega))
    rw [← e1] at KD
    have d0 : decide ((0 : Int) ≤ (i : Int)) = true := decide_eq_true (by omega)
    clear hi e1
    go_wp2_with fail
    refine (KD.out).mono ?_
    rintro e w3 ⟨v3, rfl, hR3, hv3, hk3⟩
    obtain ⟨f3, c3⟩ := H1.out.free hk3 H1.out.row
    have H4 : Hid (∃ rv4, BdR w0 (w3.setCell ⟨b, 1, none⟩ v3) F b mg m (upd p k 0) rv4 l1) := Lib.hid ⟨_, H1.out.turn hR3 hv3 hk3⟩
    obtain ⟨p3, n3, cp3, rfl, HN3⟩ := rowi_sl hR3
    clear hR3 hv3 hk3 KD H1 c1
    go_upto_region 4 with fail
    generalize World.setCell _ _ _ = w4 at *
    clear HN3
  all_goals
    obtain ⟨rv4, h4⟩ := H4.out
    obtain ⟨p4, n4, cp4, rfl, HN4⟩ := rowi_sl h4.row
    have c4 := h4.c1
    have hmk := build_int w4 k
    have hb5 : Below w4.heap.size w4 (w4.alloc (.cells #[.int .i64 k] 3)) := (Below.refl _ _).alloc (Nat.le_refl _) _
    have h5 := h4.rest hb5
    have hz5 : (w4.alloc (.cells #[.int .i64 k] 3)).cell? ⟨w4.heap.size, 0, none⟩ = some (.int .i64 k) := Has.cell (Has.new _ _) 0
    have hR5 := h5.row
    have H5 := Lib.hid h5
    clear h4 h5 hb5 H4
    go_upto_region 5 with (with_reducible refine app_row rfl _ _ rfl (.slice p4 n4 cp4) l1 rfl hR5 w4.heap.size k rfl hz5 (by omega) ?_; intro v6 w6 hR6 hg6 hv6; have hk6 := Kp.gb (F := fun k => (Value.slice p4 n4 cp4).ownBlock = some k) hg6 (fun _ h => h); obtain ⟨f6, c6⟩ := H5.out.free hk6 H5.out.row; have H6 := Lib.hid (H5.out.turn hR6 (hv6.imp_right fun h => ⟨_, h, Nat.le_refl _⟩) hk6); obtain ⟨p6, n6, cp6, rfl, HN6⟩ := rowi_sl hR6; clear hR6 hg6 hv6 hk6)
    clear H5 hR5 hz5 hmk c4
    generalize World.setCell _ _ _ = w7 at *
    have c7 := H6.out.c1
    clear HN4
    obtain ⟨g7, hg7⟩ : ∃ g, decide ((16 : Int) < (n6 : Int)) = g := ⟨_, rfl⟩
    cases g7
    · have HE : Hid (shunRow l k = l1 ++ [k]) := Lib.hid (by
        rw [HC.out, if_neg (by
          rw [← HN6.out]
          have := of_decide_eq_false hg7
          omega)])
      go_wp2_with fail
      go_end0
      exact ⟨rfl, _, by rw [HE.out]; exact H6.out⟩
    · have hg8 := of_decide_eq_true hg7
      have HE : Hid (shunRow l k = (l1 ++ [k]).drop 1) := Lib.hid (by
        rw [HC.out, if_pos (by
          rw [← HN6.out]
          omega)])
      have q := delete_at H6.out.row 0 (by rw [← HN6.out]; omega) 1 rfl
      rw [show ((0 : Nat) : Int) = 0 from rfl, List.take_zero, List.nil_append, ← HE.out] at q
      have KD := Lib.hid q
      clear q hg8
      go_wp2_with fail
      refine (KD.out).mono ?_
      rintro e w8 ⟨v8, rfl, hR8, hv8, hk8⟩
      obtain ⟨f8, c8⟩ := H6.out.free hk8 H6.out.row
      have H8 := Lib.hid (H6.out.turn hR8 hv8 hk8)
      obtain ⟨p8, n8, cp8, rfl, HN8⟩ := rowi_sl hR8
      clear hR8 hv8 hk8
      go_wp2_with fail
      go_end0
      exact ⟨rfl, _, H8.out⟩
end Go.Proofs.Ytehineieklpgoaa.An
