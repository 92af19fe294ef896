/-
  ScoreDoes: the walk.
-/
import Derived.Test.YtehineieklpgoaaSrDuo
namespace Go.Proofs.Ytehineieklpgoaa.An
open Go.RowKit Mem NN.Rg2
open Sr (Bd pt pts upd wo shunRow last16)
set_option maxRecDepth 100000
theorem own_bif {c : Bool} {A B : OwnP} (h1 : Own A) (h2 : Own B) : Own (bif c then A else B) := by cases c; exact h2; exact h1
/-- what stands while both are blamed, by which deeds have come up -/
def DsQ (w0 : World) (b o u : Nat) (x x' : Bd) (z : Nat × Cl) (ls : List Int) (fl : Nat → Bool) (g : (Option Addr × Nat) × (Option Addr × Nat)) (w' : World) : Prop :=
  Duo w0 w' (bif fl 13 then PB b (u + 1) x' else PB b u x) (bif fl 19 then RB o (u + 1) x' else RB o u x) (some z) ((bif fl 2 then [(g.1.1, ls)] else []) ++ (bif fl 12 then [(g.2.1, ls)] else []))
abbrev dsK : List Nat := [2, 12, 13, 19]
section
variable {w0 w' : World} {b o u : Nat} {x x' : Bd} {z : Nat × Cl} {ls : List Int} {k : Int} {fl : Nat → Bool} {g : (Option Addr × Nat) × (Option Addr × Nat)}
theorem DsQ.oa : Own (bif fl 13 then PB b (u + 1) x' else PB b u x) := own_bif (PB.own _ _ _) (PB.own _ _ _)
theorem DsQ.ob : Own (bif fl 19 then RB o (u + 1) x' else RB o u x) := own_bif (RB.own _ _ _) (RB.own _ _ _)
theorem DsQ.f2 (h : DsQ w0 b o u x x' z ls fl g w') (p : Option Addr) (n c : Nat) (hn : n = ls.length) (hl : n ≤ 100) (hA : FsAt w' p ls) : Calls Try.prog 12 #[.slice p n c] w' fun e w'' => ∃ p' c', e = .returned (.slice p' n c') ∧ DsQ w0 b o u x x' z ls (upF dsK 2 fl) ((p', c'), g.2) w'' := by
  have h' := Duo.sub (E' := bif fl 12 then [(g.2.1, ls)] else []) h fun y hy => List.mem_append.2 (.inr hy)
  exact (duo_faults h' DsQ.oa DsQ.ob p ls n c hn hl hA).mono fun e w'' ⟨p', c', he, hd⟩ => ⟨p', c', he, hd⟩
theorem DsQ.f12 (h : DsQ w0 b o u x x' z ls fl g w') (p : Option Addr) (n c : Nat) (hn : n = ls.length) (hl : n ≤ 100) (hA : FsAt w' p ls) : Calls Try.prog 12 #[.slice p n c] w' fun e w'' => ∃ p' c', e = .returned (.slice p' n c') ∧ DsQ w0 b o u x x' z ls (upF dsK 12 fl) (g.1, (p', c')) w'' := by
  have h' := Duo.sub (E' := bif fl 2 then [(g.1.1, ls)] else []) h fun y hy => List.mem_append.2 (.inl hy)
  exact (duo_faults h' DsQ.oa DsQ.ob p ls n c hn hl hA).mono fun e w'' ⟨p', c', he, hd⟩ => ⟨p', c', he, Duo.sub (E' := (bif fl 2 then [(g.1.1, ls)] else []) ++ [(p', ls)]) hd fun y hy => (List.mem_append.1 hy).elim (fun hy => List.mem_cons_of_mem _ hy) fun hy => List.mem_cons.2 (.inl (List.mem_singleton.1 hy))⟩
theorem DsQ.fs1 (h : DsQ w0 b o u x x' z ls fl g w') (e : fl 2 = true) : FsAt w' g.1.1 ls := Duo.fs (z := (g.1.1, ls)) h (by rw [e]; simp)
theorem DsQ.fs2 (h : DsQ w0 b o u x x' z ls fl g w') (e : fl 12 = true) : FsAt w' g.2.1 ls := Duo.fs (z := (g.2.1, ls)) h (by rw [e]; simp)
theorem DsQ.b13 (h : DsQ w0 b o u x (x.blame k (pts ls)) z ls fl g w') (e12 : fl 12 = true) (e13 : fl 13 = false) (hu : u < 1000) (hk : in64 k) (n : Nat) (hn : n = ls.length) (hl : n ≤ 1000) :
    Calls Try.prog 13 #[.pointer (some ⟨b, 0, none⟩), .int .i64 k, .slice g.2.1 n g.2.2] w' fun e w'' => e = .returned (.bool ((x.blame k (pts ls)).shuns k)) ∧ DsQ w0 b o u x (x.blame k (pts ls)) z ls (upF dsK 13 fl) g w'' := by
  have hf := h.fs2 e12
  unfold DsQ at h
  rw [e13] at h
  exact duo_blame1 h DsQ.ob hu k hk g.2.1 ls n g.2.2 hn hl hf
theorem DsQ.b19 (h : DsQ w0 b o u x (x.blame k (pts ls)) z ls fl g w') (e19 : fl 19 = false) (hu : u < 1000) (p : Option Addr) (n c : Nat) (hn : n = ls.length) (hl : n ≤ 1000) (hA : FsAt w' p ls) :
    Calls Try.prog 14 #[.pointer (some ⟨o, 0, none⟩), .int .i64 k, .slice p n c] w' fun e w'' => e = .returned (.bool ((x.blame k (pts ls)).shuns k)) ∧ DsQ w0 b o u x (x.blame k (pts ls)) z ls (upF dsK 19 fl) g w'' := by
  unfold DsQ at h
  rw [e19] at h
  exact duo_rblame h DsQ.oa hu k p ls n c hn hl hA
end
set_option maxHeartbeats 16000000 in
theorem sdoes_walk (a : Option Addr) (l : List Cl) (n c : Nat) (k : Int) (hn : n = l.length) (hn9 : n < 9223372036854775808) (hk : in64 k) (w : World) (hA : CallsAt w a l) : Calls Try.prog 3 #[.slice a n c, .int .i64 k] w fun e w' => e = .returned (.bool true) ∧ Below w.heap.size w w' := by
  have HA := Lib.hid hA
  have HN := Lib.hid hn
  have KG := Lib.hid (fun wq (hb : Below w.heap.size w wq) => great_at a l n c hn hn9 wq (hA.below hb))
  clear hA hn
  go_enter Try.func3, Try.ntmps3
  go_wp2_with fail
  refine (alive20 w).mono ?_
  rintro e w1 ⟨rfl, hB⟩
  go_wp2_with fail
  refine (KG.out _ hB).mono ?_
  rintro e w2 ⟨g, rfl, hg, hb2⟩
  replace hB := hB.trans (hb2.mono hB.size)
  clear hb2 KG
  cases g with
  | true =>
    clear hg
    go_wp2_with fail
    go_ret
    exact ⟨rfl, hB⟩
  | false =>
    have HG := Lib.hid (hg rfl)
    have hn100 := HG.out.1
    clear hg
    go_wp2_with fail
    refine (new_at w2).mono ?_
    rintro e w3 ⟨b, rfl, hwb, hS, hb3⟩
    have HS := Lib.hid (And.intro hS hb3)
    have hB3 := hB.trans (hb3.mono hB.size)
    clear hS hb3 hwb
    go_upto_region 6 with fail
    have hal : ∀ v, FsAt v none [] := fun _ h => absurd h (by simp)
    have hH := Has.new (w := w3) (rbA (.slice none 0 0) (.slice none 0 0) (.slice none 0 0)) 30
    have hb4 : Below w3.heap.size w3 (w3.alloc (.cells (rbA (.slice none 0 0) (.slice none 0 0) (.slice none 0 0)) 30)) := (Below.refl _ _).alloc (Nat.le_refl _) _
    have hR4 : RdS (w3.alloc (.cells (rbA (.slice none 0 0) (.slice none 0 0) (.slice none 0 0)) 30)) (fun i => i = w3.heap.size) w3.heap.size 0 Bd.new :=
      ⟨⟨.slice none 0 0, [], .slice none 0 0, [], .slice none 0 0, ⟨hH, World.ownsRow_nil _ _ _ _, World.ownsRow_nil _ _ _ _, ⟨none, 0, rfl, hal _⟩, fun k h => (by cases h), fun k h => (by cases h), rfl, fun k h => (by rcases h with h | h | h <;> cases h), Kp.refl _ _⟩, rfl, Nat.le_refl _, rfl, fun s h => (by cases h)⟩, Sr.Bd.new_ok⟩
    have hr4 := hR4.lt
    unfold rbA at hR4 hb4 hr4
    clear hH hal
    generalize World.alloc _ _ = w4 at *
    obtain ⟨o, ho⟩ : ∃ o, o = w3.heap.size := ⟨_, rfl⟩
    rw [← ho] at hR4 hr4 ⊢
    have HD : Hid (Duo w w4 (PB b 0 Bd.new) (RB o 0 Bd.new) none []) := Lib.hid ⟨_, _, HS.out.1.below hb4 fun i hi => hi.2, hR4, fun i hi => ⟨Nat.le_trans hB.size hi.1, Nat.lt_of_lt_of_le hi.2 hb4.size, fun h => by omega⟩, fun i hi => by
      have := hB3.size
      rw [hi]
      exact ⟨by omega, hr4⟩, fun z hz => (by cases hz), fun z hz => (by cases hz), hB3.trans (hb4.mono hB3.size)⟩
    clear HS hR4 hb4 hr4 ho hB3 hB
    go_wp2_with fail
    go_loopw [24] (fun i wr => ∃ (u : Nat) (x : Bd), u ≤ n ∧ i = .int .i64 (u : Int) ∧ Hid (Duo w wr (PB b u x) (RB o u x) none [])) (fun i _ => n - (intOf i).toNat)
    case atStart => exact ⟨0, Bd.new, Nat.zero_le _, rfl, HD⟩
    case round =>
      obtain ⟨u, x, hu, rfl, HI⟩ := hrel
      rename World => wl
      clear HD
      by_cases hlt : u < n
      · obtain ⟨q, hq⟩ : ∃ q, l[u]? = some q := ⟨l[u]'(by rw [← HN.out]; exact hlt), List.getElem?_eq_getElem _⟩
        have hbw := HI.out.below
        obtain ⟨ab, ao, rfl, _, hcc⟩ := (HA.out.below hbw) (by rw [← HN.out]; omega)
        obtain ⟨hok, hr⟩ := hcc u q hq
        have h20 := HG.out.2 u q hq
        have HQ : Hid (∀ wq, Below w.heap.size w wq → FsAt wq q.na q.ls) := Lib.hid fun wq hbq => by
          obtain ⟨ab2, ao2, e, _, hcc2⟩ := (HA.out.below hbq) (by rw [← HN.out]; omega)
          exact (hcc2 u q hq).1.at_
        have hp64 := hok.p64
        have HQN := Lib.hid hok.n
        have hnew : Has (wl.alloc (.cells #[.int .i64 0, .int .i64 0, .slice none 0 0] 32)) wl.heap.size #[.int .i64 0, .int .i64 0, .slice none 0 0] 32 := Has.new _ _
        clear hcc hq hok hbw
        go_upto_region 9 with (first
          | (with_reducible refine cl_load_mid rfl _ rfl ab (ao + u * 3) rfl q hr ?_)
          | (with_reducible refine cl_store rfl _ _ rfl _ q rfl rfl _ hnew rfl ?_))
        have hC3 := cl_new wl q
        have hB3 : Below wl.heap.size wl ((wl.alloc (.cells #[.int .i64 0, .int .i64 0, .slice none 0 0] 32)).setRow wl.heap.size (clA q)) := by
          have := gb_setRow (gb_below ((Below.refl wl.heap.size wl).alloc (Nat.le_refl _) (.cells #[.int .i64 0, .int .i64 0, .slice none 0 0] 32)) (some wl.heap.size)) (clA q)
          exact gb_toBelow this (Nat.le_refl _) (Nat.le_refl _)
        generalize World.setRow _ _ _ = w5 at *
        clear hnew hr
        obtain ⟨bC, hbC⟩ : ∃ bC, bC = wl.heap.size := ⟨_, rfl⟩
        have H5 : Hid (Duo w w5 (PB b u x) (RB o u x) (some (bC, q)) []) := Lib.hid (HI.out.box (PB.own _ _ _) (RB.own _ _ _) hB3 (hbC ▸ hC3) (by omega))
        rw [← hbC]
        clear hB3 hbC hC3 HI
        obtain ⟨kd, hkd⟩ : ∃ kd, kd = q.kind := ⟨_, rfl⟩
        obtain ⟨pe, hpe⟩ : ∃ pe, pe = q.peer := ⟨_, rfl⟩
        obtain ⟨na, hna⟩ : ∃ na, na = q.na := ⟨_, rfl⟩
        obtain ⟨nn, hnn⟩ : ∃ nn, nn = q.nn := ⟨_, rfl⟩
        obtain ⟨nc, hnc⟩ : ∃ nc, nc = q.nc := ⟨_, rfl⟩
        obtain ⟨ls, hls⟩ : ∃ ls, ls = q.ls := ⟨_, rfl⟩
        have HCL : Hid (∀ (wq : World) (A B : OwnP) (E : FsL), Duo w wq A B (some (bC, q)) E → wq.cell? ⟨bC, 0, none⟩ = some (.int .i64 kd) ∧ wq.cell? ⟨bC, 1, none⟩ = some (.int .i64 pe) ∧ wq.cell? ⟨bC, 2, none⟩ = some (.slice na nn nc)) := Lib.hid fun wq A B E hd => by
          rw [hkd, hpe, hna, hnn, hnc]
          exact ⟨hd.cl.c0, hd.cl.c1, hd.cl.c2⟩
        rw [← hpe] at hp64
        rw [← hnn] at h20
        rw [← hna, ← hls] at HQ
        rw [← hnn, ← hls] at HQN
        clear hkd hpe hna hnn hnc hls
        have c0 := (HCL.out _ _ _ _ H5.out).1
        have ob1 := PB.own b u x
        have oo1 := RB.own o u x
        have hu2 : u < 1000 := by omega
        go_upto_block 2 with fail
        clear c0
        go_cut [9, 11, 24] from 24 to 136 (fun s9 s11 i wx => ∃ x' : Bd, i = .int .i64 (u : Int) ∧ Hid (Duo w wx (PB b (u + 1) x') (RB o (u + 1) x') (some (bC, q)) []))
        case first =>
          by_cases e0 : kd = 0
          · have t0 : (kd == 0) = true := by simpa using e0
            have c2 := (HCL.out _ _ _ _ H5.out).2.2
            have KP := Lib.hid (fun z w' => rpoints_at z w')
            clear e0
            go_wp2_with fail
            go_loopw [9, 35] (fun s i wr => ∃ j t : Nat, j ≤ nn ∧ t ≤ 100 * j ∧ i = .int .i64 (j : Int) ∧ s = .int .i64 (t : Int) ∧ Hid (t = pts (ls.take j)) ∧ wr = w5) (fun _ i _ => nn - (intOf i).toNat)
            case atStart => exact ⟨0, 0, Nat.zero_le _, by omega, rfl, rfl, Lib.hid rfl, rfl⟩
            case round =>
              obtain ⟨j, t, hj, ht, rfl, rfl, HM, rfl⟩ := hrel
              rename World => w5
              by_cases hlt3 : j < nn
              · obtain ⟨z, hz⟩ : ∃ z, ls[j]? = some z := ⟨ls[j]'(by rw [← HQN.out]; exact hlt3), List.getElem?_eq_getElem _⟩
                obtain ⟨bq, oq, rfl, _, hcq⟩ := (HQ.out _ H5.out.below) (by rw [← HQN.out]; omega)
                have hcz := hcq j z hz
                obtain ⟨q2, hq2⟩ : ∃ q2, q2 = pt z := ⟨_, rfl⟩
                have hq3 : q2 ≤ 100 := by rw [hq2]; exact Sr.pt_le z
                have HM2 : Hid (t + q2 = pts (ls.take (j + 1))) := Lib.hid (by rw [Sr.take_more hz, Sr.pts_snoc, HM.out, hq2])
                have KZ := Lib.hid (KP.out z w5)
                rw [← hq2] at KZ
                clear hcq hz hq2
                go_wp2_with fail
                refine (KZ.out).mono ?_
                rintro e w' ⟨rfl, rfl⟩
                go_wp2_with fail
                go_roundw
                case rel => exact ⟨j + 1, t + q2, by omega, by omega, by go_num, by go_num, HM2, trivial⟩
                case measure => simp [intOf]; omega
              · obtain rfl : j = nn := by omega
                have HT : Hid (t = pts ls) := Lib.hid (by rw [HM.out, HQN.out, List.take_length])
                obtain ⟨an, han⟩ : ∃ an, an = (x.blame pe (pts ls)).shuns pe := ⟨_, rfl⟩
                have H5d := Lib.hid (H5.out.rest ob1 oo1 ((Below.refl _ _).drew))
                clear HM KP H5 c2 t0
                go_upto_region 17 with fail
                refine wp_tabF (DsQ w b o u x (x.blame pe (pts ls)) (bC, q) ls) dsK [1, 2, 3, 5, 9, 11, 12, 13, 16, 18, 19, 20] (fun g => [.pointer (some ⟨bC, 2, none⟩), .slice na j nc, .slice g.1.1 j g.1.2, .int .i64 (t : Int), .int .i64 (t : Int), .bool false, .bool false, .pointer (some ⟨b, 0, none⟩), .pointer (some ⟨bC, 1, none⟩), .int .i64 pe, .pointer (some ⟨bC, 2, none⟩), .slice na j nc, .slice g.2.1 j g.2.2, .bool an, .pointer (some ⟨o, 0, none⟩), .pointer (some ⟨bC, 1, none⟩), .int .i64 pe, .pointer (some ⟨bC, 2, none⟩), .slice na j nc, .bool an, .bool false, .bool false]) ((none, 0), (none, 0)) H5d.out ⟨fun fl g w' hf hC => ?_, fun fl g w' hf hC => ?_, fun fl g w' hf hC => ?_, fun fl g w' hf hC => ?_, fun fl g w' hf hC => ?_, fun fl g w' hf hC => ?_, fun fl g w' hf hC => ?_, fun fl g w' hf hC => ?_, fun fl g w' hf hC => ?_, fun fl g w' hf hC => ?_, fun fl g w' hf hC => ?_, fun fl g w' hf hC => ?_, trivial⟩ ?_
                · exact .val (ex_load_of rfl rfl (ld_sl (HCL.out _ _ _ _ hC).2.2)) hC
                · exact .callN [2] ((DsQ.f2 hC na j nc HQN.out (by omega) (HQ.out _ hC.below)).mono fun e w'' ⟨p', c', he, hd⟩ => ⟨((p', c'), g.2), rfl, he, hd⟩)
                · exact .call ((points_row g.1.1 ls j g.1.2 HQN.out (by omega) w' (DsQ.fs1 hC (hf.yes 2 (by kernel_rfl)))).mono fun e w'' h => ⟨by rw [h.1, ← HT.out]; rfl, by rw [h.2]; exact hC⟩)
                · exact .val (ex_neqi rfl rfl rfl (by simp)) hC
                · exact .val (ex_load_of rfl rfl (ld_i (HCL.out _ _ _ _ hC).2.1)) hC
                · exact .val (ex_load_of rfl rfl (ld_sl (HCL.out _ _ _ _ hC).2.2)) hC
                · exact .callN [12] ((DsQ.f12 hC na j nc HQN.out (by omega) (HQ.out _ hC.below)).mono fun e w'' ⟨p', c', he, hd⟩ => ⟨(g.1, (p', c')), rfl, he, hd⟩)
                · exact .call ((DsQ.b13 hC (hf.yes 12 (by kernel_rfl)) (hf.no 13 (by kernel_rfl)) hu2 hp64 j HQN.out (by omega)).mono fun e w'' h => ⟨by rw [h.1, ← han]; rfl, h.2⟩)
                · exact .val (ex_load_of rfl rfl (ld_i (HCL.out _ _ _ _ hC).2.1)) hC
                · exact .val (ex_load_of rfl rfl (ld_sl (HCL.out _ _ _ _ hC).2.2)) hC
                · exact .call ((DsQ.b19 hC (hf.no 19 (by kernel_rfl)) hu2 na j nc HQN.out (by omega) (HQ.out _ hC.below)).mono fun e w'' h => ⟨by rw [h.1, ← han]; rfl, h.2⟩)
                · exact .val (ex_neqb rfl rfl rfl (by simp)) hC
                · intro g w' hJ
                  have H6 : Hid (Duo w w' (PB b (u + 1) (x.blame pe (pts ls))) (RB o (u + 1) (x.blame pe (pts ls))) (some (bC, q)) []) := Lib.hid (Duo.sub (E' := []) hJ fun z hz => by cases hz)
                  clear hJ H5d ob1 oo1 HT han
                  simp only [finT, List.set_cons_zero, List.set_cons_succ, List.tail_cons, List.headD_cons]
                  go_wp2_with fail
                  go_meet
                  case rel => exact ⟨_, rfl, H6⟩
          · have t0 : (kd == 0) = false := by simpa using e0
            by_cases e1 : kd = 1
            · have t1 : (kd == 1) = true := by simpa using e1
              have c1 := (HCL.out _ _ _ _ H5.out).2.1
              have K6 := Lib.hid (duo_forget1 H5.out oo1 pe hp64)
              clear e0 e1 H5 HQ HQN h20
              go_wp2_with fail
              refine (K6.out).mono ?_
              rintro e w6 ⟨rfl, h6⟩
              have c1 := (HCL.out _ _ _ _ h6).2.1
              have K7 := Lib.hid (duo_rforget h6 (PB.own _ _ _) (by omega) pe)
              clear K6 h6
              go_wp2_with fail
              refine (K7.out).mono ?_
              rintro e w7 ⟨rfl, h7⟩
              have H7 : Hid (Duo w w7 (PB b (u + 1) (x.forget pe)) (RB o (u + 1) (x.forget pe)) (some (bC, q)) []) := Lib.hid ((h7.mapA fun F h => PB.more h (Nat.le_succ u)).mapB fun F h => RB.more h (Nat.le_succ u))
              clear h7 K7
              go_wp2_with fail
              go_meet
              case rel => exact ⟨_, rfl, H7⟩
            · have t1 : (kd == 1) = false := by simpa using e1
              have H7 : Hid (Duo w w5 (PB b (u + 1) x) (RB o (u + 1) x) (some (bC, q)) []) := Lib.hid ((H5.out.mapA fun F h => PB.more h (Nat.le_succ u)).mapB fun F h => RB.more h (Nat.le_succ u))
              clear e0 e1 H5 HQ HQN h20
              go_wp2_with fail
              go_meet
              case rel => exact ⟨_, rfl, H7⟩
        case rest =>
          obtain ⟨x', rfl, HX⟩ := hcut
          have KW := Lib.hid (duo_shunned HX.out)
          clear H5 HQ HQN h20
          go_wp2_with fail
          refine (KW.out).mono ?_
          rintro e w8 ⟨v8, rfl, hR8, hv8, hb8⟩
          clear KW
          have h16 := HX.out.ok1.few
          obtain ⟨p8, N, c8, e8, HN8⟩ := rowi_sl hR8
          subst e8
          have h8d := (HX.out.rest (PB.own _ _ _) (RB.own _ _ _) hb8).rest (PB.own _ _ _) (RB.own _ _ _) ((Below.refl _ _).drew)
          have KA := Lib.hid (duo_sum1 h8d pe hp64)
          have KB := Lib.hid (duo_rsum h8d (by omega) pe)
          have KC := Lib.hid (duo_sum1 h8d k hk)
          have KD := Lib.hid (duo_rsum h8d (by omega) k)
          have KE := Lib.hid (duo_shuns1 h8d k)
          have KF := Lib.hid (duo_rshuns h8d k)
          obtain ⟨pr, cr, hcr, _⟩ := duo_row h8d
          rw [← HN8.out] at hcr h16
          have hcp := (HCL.out _ _ _ _ h8d).2.1
          obtain ⟨v1, hv1⟩ : ∃ v : Int, v = (x'.p pe : Int) := ⟨_, rfl⟩
          obtain ⟨v2, hv2⟩ : ∃ v : Int, v = (x'.p k : Int) := ⟨_, rfl⟩
          obtain ⟨s1, hs1⟩ : ∃ s, s = x'.shuns k := ⟨_, rfl⟩
          rw [← hv1] at KA KB
          rw [← hv2] at KC KD
          rw [← hs1] at KE KF
          have HR8 := Lib.hid hR8
          have HV8 := Lib.hid hv8
          have HB8 := Lib.hid hb8
          clear hR8 hv8 hb8 h8d hv1 hv2 hs1
          go_upto_region 23 with fail
          refine wp_tab (fun _ _ w' => w' = w8.drew) 99 98 [1, 5, 6, 7, 11, 12, 15, 16, 17, 22, 25, 26, 31, 34, 35] [.slice p8 N c8, .int .i64 (N : Int), .pointer (some ⟨o, 0, none⟩), .pointer (some ⟨o, 0, none⟩), .pointer (some ⟨o, 2, none⟩), .slice pr N cr, .int .i64 (N : Int), .bool false, .bool false, .pointer (some ⟨b, 0, none⟩), .pointer (some ⟨bC, 1, none⟩), .int .i64 pe, .int .i64 v1, .pointer (some ⟨o, 0, none⟩), .pointer (some ⟨bC, 1, none⟩), .int .i64 pe, .int .i64 v1, .bool false, .bool false, .bool false, .pointer (some ⟨b, 0, none⟩), .int .i64 k, .int .i64 v2, .pointer (some ⟨o, 0, none⟩), .int .i64 k, .int .i64 v2, .bool false, .bool false, .bool false, .pointer (some ⟨b, 0, none⟩), .int .i64 k, .bool s1, .pointer (some ⟨o, 0, none⟩), .int .i64 k, .bool s1, .bool false, .bool false] rfl ⟨fun _ _ w' _ _ hC => ?_, fun _ _ w' _ _ hC => ?_, fun _ _ w' _ _ hC => ?_, fun _ _ w' _ _ hC => ?_, fun _ _ w' _ _ hC => ?_, fun _ _ w' _ _ hC => ?_, fun _ _ w' _ _ hC => ?_, fun _ _ w' _ _ hC => ?_, fun _ _ w' _ _ hC => ?_, fun _ _ w' _ _ hC => ?_, fun _ _ w' _ _ hC => ?_, fun _ _ w' _ _ hC => ?_, fun _ _ w' _ _ hC => ?_, fun _ _ w' _ _ hC => ?_, fun _ _ w' _ _ hC => ?_, trivial⟩ ?_
          · exact .val (ex_len rfl rfl) hC
          · subst hC; exact .val (ex_load_of rfl rfl (ld_sl hcr)) rfl
          · exact .val (ex_len rfl rfl) hC
          · exact .val (ex_neqi rfl rfl rfl (by simp)) hC
          · subst hC; exact .val (ex_load_of rfl rfl (ld_i hcp)) rfl
          · subst hC; exact .call (KA.out.mono fun e w'' h => h)
          · subst hC; exact .val (ex_load_of rfl rfl (ld_i hcp)) rfl
          · subst hC; exact .call (KB.out.mono fun e w'' h => h)
          · exact .val (ex_neqi rfl rfl rfl (by simp)) hC
          · subst hC; exact .call (KC.out.mono fun e w'' h => h)
          · subst hC; exact .call (KD.out.mono fun e w'' h => h)
          · exact .val (ex_neqi rfl rfl rfl (by simp)) hC
          · subst hC; exact .call (KE.out.mono fun e w'' h => h)
          · subst hC; exact .call (KF.out.mono fun e w'' h => h)
          · exact .val (ex_neqb rfl rfl rfl (by simp)) hC
          · intro w' hJ
            subst hJ
            clear hcr hcp KA KB KC KD KE KF
            simp only [finT, List.set_cons_zero, List.set_cons_succ, List.tail_cons, List.headD_cons]
            have hb9 : Below w8.heap.size w8 w8.drew := (Below.refl _ _).drew
            have HB9 := Lib.hid (HB8.out.trans (hb9.mono HB8.out.size))
            have HC9 : Hid (∀ (g f z : Nat), x'.row[z]? ≠ none → p8 = some ⟨g, f, none⟩ → f = 0 ∧ wc.heap.size ≤ g ∧ ∃ cs, Has w8.drew g cs 3 ∧ ∀ (j : Nat) (z : Int), x'.row[j]? = some z → cs[j]? = some (Value.int .i64 z)) := Lib.hid fun g f z _ e => by
              rcases row_parts HR8.out with ⟨e2, _⟩ | ⟨g2, c2, S, e2, hg, _, _⟩
              · rw [e] at e2
                cases e2
              · rw [e] at e2
                cases e2
                refine ⟨rfl, HV8.out g (by rw [e]; rfl), _, hg, fun j z hj => ?_⟩
                rw [List.getElem?_toArray, List.getElem?_append_left (by simpa using (List.getElem?_eq_some_iff.1 hj).1), List.getElem?_map, hj]
                rfl
            have HP9 : Hid (0 < N → ∃ g, p8 = some ⟨g, 0, none⟩) := Lib.hid fun h0 => by
              rcases row_parts HR8.out with ⟨e2, e3⟩ | ⟨g2, c2, S, e2, hg, _, _⟩
              · rw [HN8.out, e3] at h0
                simp at h0
              · cases e2
                exact ⟨_, rfl⟩
            clear hb9 HR8 HV8 HB8
            generalize World.drew w8 = w9 at *
            go_wp2_with fail
            go_loopw [117] (fun i wq => ∃ a2 : Nat, a2 ≤ N ∧ i = .int .i64 (a2 : Int) ∧ Below wc.heap.size wc wq ∧ Hid (∀ (g f : Nat), p8 = some ⟨g, f, none⟩ → a2 < N → f = 0 ∧ wc.heap.size ≤ g ∧ ∃ cs, Has wq g cs 3 ∧ ∀ (j : Nat) (z : Int), a2 ≤ j → x'.row[j]? = some z → cs[j]? = some (Value.int .i64 z))) (fun i _ => N - (intOf i).toNat)
            case atStart => exact ⟨0, Nat.zero_le _, rfl, HB9.out, Lib.hid fun g f e h0 => by
              obtain ⟨h1, h2, cs, h3, h4⟩ := HC9.out g f 0 (by rw [List.getElem?_eq_getElem (by rw [← HN8.out]; exact h0)]; simp) e
              exact ⟨h1, h2, cs, h3, fun j z _ hj => h4 j z hj⟩⟩
            case round =>
              obtain ⟨a2, ha2, rfl, hbq, HQ9⟩ := hrel
              rename World => wq
              by_cases hlt2 : a2 < N
              · obtain ⟨g, rfl⟩ := HP9.out (by omega)
                obtain ⟨-, hwg, cs, hcs, hcj⟩ := HQ9.out g 0 rfl hlt2
                obtain ⟨q2, hq2⟩ : ∃ q, x'.row[a2]? = some q := ⟨x'.row[a2]'(by rw [← HN8.out]; exact hlt2), List.getElem?_eq_getElem _⟩
                have k1 : wq.drew.cell? ⟨g, a2, none⟩ = some (Value.int .i64 q2) := (Has.cell (Has.drew hcs) a2).trans (hcj a2 q2 (Nat.le_refl _) hq2)
                have f1 : wq.drew.frozen? ⟨g, a2, none⟩ = false := Has.free (Has.drew hcs) a2
                have hdq := (HX.out.rest (PB.own _ _ _) (RB.own _ _ _) hbq).rest (PB.own _ _ _) (RB.own _ _ _) ((Below.refl wq.heap.size wq).drew)
                obtain ⟨pr2, cr2, hcr2, hfr2⟩ := duo_row hdq
                rw [← HN8.out] at hcr2
                obtain ⟨gr, fr, rfl, _, hcc2⟩ := hfr2 (by rw [← HN8.out]; omega)
                have k2 := hcc2 a2 q2 hq2
                have HE : Hid (Below wc.heap.size wc (wq.drew.setCell ⟨g, a2, none⟩ (Value.int .i64 (-1))) ∧ ∀ (g' f : Nat), (some ⟨g, 0, none⟩ : Option Addr) = some ⟨g', f, none⟩ → a2 + 1 < N → f = 0 ∧ wc.heap.size ≤ g' ∧ ∃ cs, Has (wq.drew.setCell ⟨g, a2, none⟩ (Value.int .i64 (-1))) g' cs 3 ∧ ∀ (j : Nat) (z : Int), a2 + 1 ≤ j → x'.row[j]? = some z → cs[j]? = some (Value.int .i64 z)) := Lib.hid ⟨(hbq.drew).setCell hwg _, fun g' f e h0 => by
                  cases e
                  refine ⟨rfl, hwg, _, (Has.drew hcs).set (i := a2) _, fun j z hj hz => ?_⟩
                  rw [Array.getElem?_setIfInBounds, if_neg (by omega)]
                  exact hcj j z (by omega) hz⟩
                clear hcs hcj hdq hcc2 hq2 HQ9 hbq hwg
                go_upto_region 28 with fail
                refine wp_tab (fun _ _ w' => w' = wq.drew) 99 98 [2, 3, 7, 9, 10, 11] [.slice (some ⟨g, 0, none⟩) N c8, .int .i64 (a2 : Int), .pointer (some ⟨g, a2, none⟩), .int .i64 q2, .pointer (some ⟨o, 0, none⟩), .pointer (some ⟨o, 0, none⟩), .pointer (some ⟨o, 2, none⟩), .slice (some ⟨gr, fr, none⟩) N cr2, .int .i64 (a2 : Int), .pointer (some ⟨gr, fr + a2, none⟩), .int .i64 q2, .bool false] rfl ⟨fun _ _ w' _ _ hC => ?_, fun _ _ w' _ _ hC => ?_, fun _ _ w' _ _ hC => ?_, fun _ _ w' _ _ hC => ?_, fun _ _ w' _ _ hC => ?_, fun _ _ w' _ _ hC => ?_, trivial⟩ ?_
                · exact .val (ex_idx rfl rfl rfl (by have := idx_ints w' g 0 a2 N c8 hlt2; rwa [Nat.zero_add] at this)) hC
                · subst hC; exact .val (ex_load_of rfl rfl (ld_i k1)) rfl
                · subst hC; exact .val (ex_load_of rfl rfl (ld_sl hcr2)) rfl
                · exact .val (ex_idx rfl rfl rfl (idx_ints _ _ _ _ _ _ hlt2)) hC
                · subst hC; exact .val (ex_load_of rfl rfl (ld_i k2)) rfl
                · exact .val (ex_neqi rfl rfl rfl (by simp)) hC
                · intro w' hJ
                  subst hJ
                  simp only [finT, List.set_cons_zero, List.set_cons_succ, List.tail_cons, List.headD_cons]
                  clear k2 hcr2
                  go_wp2_with fail
                  go_roundw
                  case rel => exact ⟨a2 + 1, by omega, by go_num, HE.out.1, Lib.hid HE.out.2⟩
                  case measure => simp [intOf]; omega
              · obtain rfl : a2 = N := by omega
                have HE : Hid (Duo w wq (PB b (u + 1) x') (RB o (u + 1) x') none []) := Lib.hid ((HX.out.rest (PB.own _ _ _) (RB.own _ _ _) hbq).free)
                clear HQ9 hbq HX HC9 HP9 HB9 HN8 HCL
                go_wp2_with fail
                go_roundw
                case rel => exact ⟨u + 1, x', by omega, by go_num, HE⟩
                case measure => simp [intOf]; omega
      · obtain rfl : u = n := by omega
        have hbw := HI.out.below
        have hmk := build_flt wl 1
        have hb5 := hbw.alloc hbw.size (.cells #[.int .i64 1] 42)
        have K1 := Lib.hid (forget_nil 1 wl)
        have K2 := Lib.hid (fun wq => blame_nil 1 (.slice (some ⟨wl.heap.size, 0, none⟩) 1 1) wq)
        have K3 := Lib.hid (fun wq => sum_nil 1 wq)
        have K4 := Lib.hid (fun wq => shuns_nil 1 wq)
        have K5 := Lib.hid (fun wq => shunned_nil wq)
        clear HI HA HN HG hbw
        go_wp2_with fail
        refine (K1.out).mono ?_
        rintro e w' ⟨rfl, rfl⟩
        go_wp2_with fail
        refine (K2.out _).mono ?_
        rintro e w' ⟨rfl, rfl⟩
        go_wp2_with fail
        refine (K3.out _).mono ?_
        rintro e w' ⟨rfl, rfl⟩
        go_wp2_with fail
        refine (K4.out _).mono ?_
        rintro e w' ⟨rfl, rfl⟩
        go_wp2_with fail
        refine (K5.out _).mono ?_
        rintro e w' ⟨rfl, rfl⟩
        go_wp2_with fail
        go_ret
        exact ⟨rfl, hb5⟩
end Go.Proofs.Ytehineieklpgoaa.An
