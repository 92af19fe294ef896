/-
  The document's board: Blame.
-/
import Derived.Test.YtehineieklpgoaaSrRef2
namespace Go.Proofs.Ytehineieklpgoaa.An
open Go.RowKit Mem NN.Rg2
open Sr (Bd pt pts upd wo shunRow last16)
set_option maxRecDepth 100000
theorem max_is {P : Program} (x y m : Int) (h : m = max x y) (ts : Array TypeId) (t : TypeId) (w : World) : (Builtin.max_ ts t #[.int .i64 x, .int .i64 y]).run P w = .ok (.int .i64 m) w := by
  rw [run_max_int2, show (if y > x then y else x) = m by split <;> omega]
/-- a row that came up since B -/
def RowO (w : World) (B : Nat) (v : Value) (n : Nat) (l : List Int) : Prop := w.ownsRow B 3 1 v n (l.map (Value.int .i64))
theorem RowO.len {w : World} {B : Nat} {v : Value} {n : Nat} {l : List Int} (h : RowO w B v n l) : n = l.length := by
  have := h.1
  rw [List.length_map] at this
  omega
theorem RowO.below {w w' : World} {B : Nat} {v : Value} {n : Nat} {l : List Int} (h : RowO w B v n l) (hb : Below w.heap.size w w') : RowO w' B v n l := row_below h hb (Nat.le_refl _)
theorem app_int {w : World} {ops : Array Oper} {rest : List Oper} {o : Oper} {a : Act} {Q : Exit → Act → World → Prop} (hgd : o.guard = none) (s x : Operand) (ho : o.op = .call { callee := .builtin .append, args := #[s, x], argTypes := #[28, 28] })
    (base : Nat) (v : Value) (n : Nat) (l : List Int) (hs : a.eval s = v) (hown : RowO w base v n l) (g : Nat) (z : Int) (hx : a.eval x = .slice (some ⟨g, 0, none⟩) 1 1) (hg : w.cell? ⟨g, 0, none⟩ = some (.int .i64 z)) (hn : n ≤ 1000) (hbase : base ≤ w.heap.size)
    (h : ∀ v' w', RowO w' base v' (n + 1) (l ++ [z]) → Below base w w' → wpList Try.prog ops Q rest (a.put o.dst v') w') : wpList Try.prog ops Q (o :: rest) a w :=
  app_el Try.underlying28 int_inf (by decide) (by decide) hgd s x ho base v n _ [.int .i64 z] hs hown g hx (fun j u hj => by
    match j, hj with
    | 0, hj => rw [Nat.zero_add, hg]; exact hj
    | j + 1, hj => simp at hj) rfl (fun u hu => by
    obtain rfl : u = .int .i64 z := by simpa using hu
    rfl) hn hbase fun v' w' q1 q2 => h v' w' (by unfold RowO; rw [List.map_append]; exact q1) q2
/-- a slice from place k on -/
theorem cut_fs {w : World} {p : Option Addr} {n cap k : Nat} {l : List Int} (hl : l.length = n) (hk : k ≤ n) (hc : n ≤ cap) (h : FsAt w p l) :
    ∃ p', (∀ w' : World, (Instr.sliceAt 28 (.slice p n cap) (some (.int .i64 (k : Int))) none none).run Try.prog w' = .ok (.slice p' (n - k) (cap - k)) w') ∧ FsAt w p' (l.drop k) ∧ ∀ i x y x' y', (Value.slice p' x y).ownBlock = some i → (Value.slice p x' y').ownBlock = some i := by
  refine ⟨if cap = k then p else p.map (·.add k), fun w' => ?_, fun h0 => ?_, fun i x y x' y' hi => ?_⟩
  · rw [run_sliceAt_slice w' 28 _ _ _ _ (by kernel_rfl), run_slice_l w' 28 p n cap (by kernel_rfl) .i64 k (by omega) (by omega)]
    rw [show Try.prog.elem 28 = 3 by kernel_rfl]
    simp [sliced, Try.sizeOf3]
  · have h1 : k < n := by simp at h0; omega
    obtain ⟨b, off, rfl, h2, hcl⟩ := h (by omega)
    refine ⟨b, off + k, by rw [if_neg (by omega)]; unfold Addr.add; by_cases h9 : k = 0 <;> simp [h9], h2, fun j z hj => ?_⟩
    rw [List.getElem?_drop] at hj
    rw [Nat.add_assoc]
    exact hcl (k + j) z hj
  · by_cases hck : cap = k
    · rw [if_pos hck] at hi
      cases p with
      | none => cases hi
      | some a => exact hi
    · rw [if_neg hck] at hi
      cases p with
      | none => cases hi
      | some a =>
        have : (a.add k).block = a.block := by unfold Addr.add; split <;> rfl
        rw [← hi]
        show some a.block = some (a.add k).block
        rw [this]
theorem rowo_fs {w : World} {B : Nat} {v : Value} {n : Nat} {l : List Int} (h : RowO w B v n l) : ∃ p c, v = .slice p n c ∧ n ≤ c ∧ FsAt w p l := by
  obtain ⟨p, c, e, _, hf⟩ := fs_own h
  obtain ⟨p2, c2, e2, hc⟩ := own_slice h
  rw [e] at e2
  cases e2
  exact ⟨p, c, e, hc, hf⟩
theorem cutO {w : World} {B : Nat} {v : Value} {n k : Nat} {l : List Int} (h : RowO w B v n l) (hk : k ≤ n) : ∃ p c p' n' c', v = .slice p n c ∧ (∀ w' : World, (Instr.sliceAt 28 (.slice p n c) (some (.int .i64 (k : Int))) none none).run Try.prog w' = .ok (.slice p' n' c') w') ∧ n' = (l.drop k).length ∧ FsAt w p' (l.drop k) ∧ ∀ i, (Value.slice p' n' c').ownBlock = some i → B ≤ i ∧ i < w.heap.size := by
  obtain ⟨p, c, rfl, hc, hf⟩ := rowo_fs h
  obtain ⟨p', h1, h2, h3⟩ := cut_fs h.len.symm hk hc hf
  exact ⟨p, c, p', n - k, c - k, rfl, h1, by rw [List.length_drop, h.len], h2, fun i hi => own_block h i (h3 i _ _ _ _ hi)⟩
theorem rowo_nil (w : World) (B : Nat) : RowO w B (.slice none 0 0) 0 [] := World.ownsRow_nil _ _ _ _
theorem rowo_sl {w : World} {B : Nat} {v : Value} {n : Nat} {l : List Int} (h : RowO w B v n l) : ∃ p c, v = .slice p n c := by
  obtain ⟨p, c, e, _⟩ := own_slice h
  exact ⟨p, c, e⟩
theorem wo_more {l : List Int} {k : Nat} {z x : Int} (h : l[k]? = some z) : wo (l.take (k + 1)) x = if z = x then wo (l.take k) x else wo (l.take k) x ++ [z] := by
  rw [Sr.take_more h]
  unfold wo
  rw [List.filter_append]
  by_cases e : z = x
  · rw [if_pos e]; simp [e]
  · rw [if_neg e]; simp [e]
section
variable {w : World} {G : Nat → Prop} {r m : Nat} {x : Bd}
set_option maxHeartbeats 8000000 in
theorem rblame_at (h : RdS w G r m x) (hm : m < 1000) (k : Int) (p : Option Addr) (l : List Int) (n c : Nat) (hn : n = l.length) (hl : n ≤ 1000) (hA : FsAt w p l) :
    Calls Try.prog 14 #[.pointer (some ⟨r, 0, none⟩), .int .i64 k, .slice p n c] w fun e w' => e = .returned (.bool ((x.blame k (pts l)).shuns k)) ∧ RdS w' (Nxt G w w') r (m + 1) (x.blame k (pts l)) ∧ Kp G w w' := by
  obtain ⟨va, ps, vs, ss, vr, hR, hps, hpm, hp, h100⟩ := h.ex
  have hok := h.ok.blame k (pts l)
  have hql := Sr.pts_le l
  obtain ⟨q, hq⟩ : ∃ q, q = pts l := ⟨_, rfl⟩
  rw [← hq] at hok hql ⊢
  have hq1 : q ≤ 100000 := by omega
  obtain ⟨y, hy⟩ : ∃ y, y = x.blame k q := ⟨_, rfl⟩
  rw [← hy] at hok ⊢
  have HY := Lib.hid hy
  have KP := Lib.hid (fun z w' => rpoints_at z w')
  have HA := Lib.hid hA
  have HN := Lib.hid hn
  have HQ := Lib.hid hq
  have HR := Lib.hid hR
  have H := Lib.hid (And.intro h.ok (And.intro hps (And.intro hpm (And.intro hp (And.intro h100 hok)))))
  clear h hA hn hq hR hps hpm hp h100 hok hql hy
  go_enter Try.func14, Try.ntmps14
  go_wp2_with fail
  go_loopw [7, 16] (fun s i wr => ∃ j t : Nat, j ≤ n ∧ t ≤ 100 * j ∧ i = .int .i64 (j : Int) ∧ s = .int .i64 (t : Int) ∧ Hid (t = pts (l.take j)) ∧ wr = w) (fun _ i _ => n - (intOf i).toNat)
  case atStart => exact ⟨0, 0, Nat.zero_le _, by omega, rfl, rfl, Lib.hid rfl, rfl⟩
  case round =>
    obtain ⟨j, t, hj, ht, rfl, rfl, HM, rfl⟩ := hrel
    by_cases hlt : j < n
    · obtain ⟨z, hz⟩ : ∃ z, l[j]? = some z := ⟨l[j]'(by rw [← HN.out]; exact hlt), List.getElem?_eq_getElem _⟩
      obtain ⟨b, off, rfl, _, hc⟩ := HA.out (by rw [← HN.out]; omega)
      have hcz := hc j z hz
      obtain ⟨q2, hq2⟩ : ∃ q2, q2 = pt z := ⟨_, rfl⟩
      have hq3 : q2 ≤ 100 := by rw [hq2]; exact Sr.pt_le z
      have HM2 : Hid (t + q2 = pts (l.take (j + 1))) := Lib.hid (by rw [Sr.take_more hz, Sr.pts_snoc, HM.out, hq2])
      have KZ := Lib.hid (KP.out z wr)
      rw [← hq2] at KZ
      clear hc hz hq2
      go_wp2_with fail
      refine (KZ.out).mono ?_
      rintro e w' ⟨rfl, rfl⟩
      go_wp2_with fail
      go_roundw
      case rel => exact ⟨j + 1, t + q2, by omega, by omega, by go_num, by go_num, HM2, trivial⟩
      case measure => simp [intOf]; omega
    · obtain rfl : j = n := by omega
      obtain rfl : t = q := by rw [HM.out, HQ.out, HN.out, List.take_length]
      clear HM HN KP HA HQ
      by_cases h0 : t = 0
      · subst h0
        have HE : Hid (y = x) := Lib.hid (HY.out.trans (H.out.1.blame_none k))
        have KS := Lib.hid (rshuns_at HR.out (by have := H.out.1.few; omega) k)
        have HD := Lib.hid (RdR.done HR.out H.out.2.1 (Nat.le_succ_of_le H.out.2.2.1) H.out.2.2.2.1 H.out.2.2.2.2.1 H.out.1)
        clear H HR HY
        go_wp2_with fail
        refine (KS.out).mono ?_
        rintro e w' ⟨rfl, rfl⟩
        go_wp2_with fail
        go_ret
        rw [HE.out]
        exact ⟨rfl, HD.out⟩
      · have d0 : ((t : Int) == 0) = false := by simp; omega
        have KA := Lib.hid (rat_at HR.out (by have := H.out.2.2.1; omega) k)
        have hpm2 : ps.length ≤ 1000 := by have := H.out.2.2.1; omega
        -- who isn't known comes behind the others
        by_cases hk : k ∈ ps
        case' pos =>
          have hz : atZ ps k = (ps.idxOf k : Int) := by unfold atZ; rw [if_pos hk]
          have HZ := Lib.hid hz
          rw [hz] at KA
          have hi := Sr.idx_lt_mem.2 hk
          obtain ⟨j, hj⟩ : ∃ j, j = ps.idxOf k := ⟨_, rfl⟩
          rw [← hj] at KA hi
          have t1 : decide ((j : Int) < 0) = false := decide_eq_false (by omega)
          have H12 : Hid (∃ va' ps' vs' ss', RdR wr wr G r va' ps' vs' ss' vr x.row ∧ ps'.length = ss'.length ∧ ps'.length ≤ m + 1 ∧ x.p = Sr.look ps' ss' ∧ (∀ s ∈ ss', s < 100) ∧ k ∈ ps') := Lib.hid ⟨va, ps, vs, ss, HR.out, H.out.2.1, Nat.le_succ_of_le H.out.2.2.1, H.out.2.2.2.1, H.out.2.2.2.2.1, hk⟩
          have HOK := Lib.hid (And.intro H.out.1 H.out.2.2.2.2.2)
          clear hk hz hj H HR HZ
          go_wp2_with fail
          refine (KA.out).mono ?_
          rintro e w' ⟨rfl, rfl⟩
          clear KA t1 d0 hi
          go_upto_region 12 with fail
          rename World => w12
        case' neg =>
          have hz : atZ ps k = -1 := by unfold atZ; rw [if_neg hk]
          rw [hz] at KA
          have HOK := Lib.hid (And.intro H.out.1 H.out.2.2.2.2.2)
          have H11 : Hid (∀ w' va' vs', RdR wr w' G r va' (ps ++ [k]) vs' (ss ++ [0]) vr x.row → ∃ va' ps' vs' ss', RdR wr w' G r va' ps' vs' ss' vr x.row ∧ ps'.length = ss'.length ∧ ps'.length ≤ m + 1 ∧ x.p = Sr.look ps' ss' ∧ (∀ s ∈ ss', s < 100) ∧ k ∈ ps') := Lib.hid fun w' va' vs' hh => ⟨_, _, _, _, hh, by rw [List.length_append, List.length_append, H.out.2.1]; rfl, by rw [List.length_append]; exact Nat.succ_le_succ H.out.2.2.1, by rw [Sr.look_more H.out.2.1 hk]; exact H.out.2.2.2.1, fun s hs => (List.mem_append.1 hs).elim (H.out.2.2.2.2.1 s) fun h => by rw [List.mem_singleton] at h; omega, by simp⟩
          have hss : (natI ss).length ≤ 1000 := by rw [natI_len, ← H.out.2.1]; exact hpm2
          obtain ⟨pa, na, ca, rfl, HNA⟩ := rowi_sl HR.out.pa
          obtain ⟨pb, nb, cb, rfl, HNB⟩ := rowi_sl HR.out.sa
          have c0 := HR.out.c0
          clear hk hz H
          go_wp2_with fail
          refine (KA.out).mono ?_
          rintro e w' ⟨rfl, rfl⟩
          rename World => w9
          clear KA d0
          have hmk := build_int w9 k
          have hb5 : Below w9.heap.size w9 (w9.alloc (.cells #[.int .i64 k] 3)) := (Below.refl _ _).alloc (Nat.le_refl _) _
          have h5 := HR.out.rest hb5
          have hz5 : (w9.alloc (.cells #[.int .i64 k] 3)).cell? ⟨w9.heap.size, 0, none⟩ = some (.int .i64 k) := Has.cell (Has.new _ _) 0
          have hR5 := h5.pa
          have H5 := Lib.hid h5
          clear h5 hb5
          go_upto_region 11 with ((with_reducible refine app_row rfl _ _ rfl (.slice pa na ca) ps rfl hR5 w9.heap.size k rfl hz5 hpm2 ?_); intro v6 w6 hR6 hg6 hv6; have hk6 := Kp.gb (F := fun k => (Value.slice pa na ca).ownBlock = some k) hg6 (fun _ h => h); have hh6 := hk6.has H5.out.h (fun e => (H5.out.na (.inl e)).1 rfl); have f6 := Has.free hh6 0; have c6 := Has.cell hh6 0; have H6 := Lib.hid (H5.out.turnP hR6 (hv6.imp_right fun h => ⟨_, h, Nat.le_refl _⟩) hk6); obtain ⟨p6, n6, cp6, rfl, HN6⟩ := rowi_sl hR6; clear hR6 hg6 hv6 hk6 hh6)
          clear H5 hR5 hz5 hmk c0 HR
          generalize World.setCell _ _ _ = w7 at *
          have hmk := build_int w7 0
          have c1 := H6.out.c1
          have hb5 : Below w7.heap.size w7 (w7.alloc (.cells #[.int .i64 0] 3)) := (Below.refl _ _).alloc (Nat.le_refl _) _
          have h5 := H6.out.rest hb5
          have hz5 : (w7.alloc (.cells #[.int .i64 0] 3)).cell? ⟨w7.heap.size, 0, none⟩ = some (.int .i64 0) := Has.cell (Has.new _ _) 0
          have hR5 := h5.sa
          have H7 := Lib.hid h5
          clear h5 hb5 H6
          go_upto_region 12 with ((with_reducible refine app_row rfl _ _ rfl (.slice pb nb cb) (natI ss) rfl hR5 w7.heap.size 0 rfl hz5 hss ?_); intro v8 w8 hR8 hg8 hv8; have hk8 := Kp.gb (F := fun k => (Value.slice pb nb cb).ownBlock = some k) hg8 (fun _ h => h); have hh8 := hk8.has H7.out.h (fun e => (H7.out.na (.inr (.inl e))).1 rfl); have f8 := Has.free hh8 1; have c8 := Has.cell hh8 1; have H8 := Lib.hid (H7.out.turnS (ss' := ss ++ [0]) (by unfold natI at hR8 ⊢; rw [List.map_append]; exact hR8) (hv8.imp_right fun h => ⟨_, h, Nat.le_refl _⟩) hk8); obtain ⟨p8, n8, cp8, rfl, HN8⟩ := rowi_sl hR8; clear hR8 hg8 hv8 hk8 hh8)
          clear H7 hR5 hz5 hmk c1 f6 c6
          generalize World.setCell _ _ _ = w12 at *
          have H12 := Lib.hid (H11.out _ _ _ H8.out)
          clear H8 H11 HN6 HN8 HNA HNB hss f8 c8
        all_goals
          obtain ⟨va', ps', vs', ss', h12, hl2, hm2, hp2, h1002, hk2⟩ := H12.out
          have KA2 := Lib.hid (rat_at h12 (by omega) k)
          have hz : atZ ps' k = (ps'.idxOf k : Int) := by unfold atZ; rw [if_pos hk2]
          rw [hz] at KA2
          have h12d := h12.rest ((Below.refl _ _).drew)
          obtain ⟨g, nb', cb', s, rfl, hnb, hi2, hs2, hcs, hfs⟩ := sum_place h12d hl2 hk2
          have hsl : s < 100 := h1002 s (List.mem_of_getElem? hs2)
          have hxk : x.p k = s := by rw [hp2]; exact Sr.look_at hs2
          obtain ⟨j, hj⟩ : ∃ j, j = ps'.idxOf k := ⟨_, rfl⟩
          rw [← hj] at KA2 hi2 hs2 hcs hfs
          have c1 := h12d.c1
          obtain ⟨v, hv⟩ : ∃ v, v = s + t := ⟨_, rfl⟩
          have hvw : IntKind.i64.wrap ((s : Int) + (t : Int)) = (v : Int) := by rw [IntKind.wrap_i64]; omega
          have hv2 : v ≤ 200000 := by omega
          have HB := Lib.hid (h12d.setS (j := j) (by omega) v)
          have HX : Hid (j = ps'.idxOf k ∧ ps'.length = ss'.length ∧ ps'.length ≤ m + 1 ∧ x.p = Sr.look ps' ss' ∧ (∀ s ∈ ss', s < 100) ∧ k ∈ ps' ∧ x.p k + t = v ∧ j < ss'.length) := Lib.hid ⟨hj, hl2, hm2, hp2, h1002, hk2, by rw [hxk, hv], by omega⟩
          clear hz hl2 hm2 hp2 h1002 hk2 hnb hs2 hxk h12 H12 h12d hj hv
          go_upto_region 13 with fail
          refine (KA2.out).mono ?_
          rintro e w' ⟨rfl, rfl⟩
          rename World => w13
          clear KA2
          go_upto_region 13 with fail
          refine wp_tab (fun b1 _ w' => w' = if b1 = true then w13.drew.setCell ⟨g, j, none⟩ (.int .i64 (v : Int)) else w13.drew) 15 99 [3, 8, 10, 11, 13, 14, 15] [.pointer (some ⟨r, 0, none⟩), .pointer (some ⟨r, 0, none⟩), .pointer (some ⟨r, 1, none⟩), .slice (some ⟨g, 0, none⟩) nb' cb', .int .i64 (j : Int), .pointer (some ⟨r, 0, none⟩), .pointer (some ⟨r, 0, none⟩), .pointer (some ⟨r, 1, none⟩), .slice (some ⟨g, 0, none⟩) nb' cb', .int .i64 (j : Int), .pointer (some ⟨g, j, none⟩), .int .i64 (s : Int), .int .i64 (t : Int), .int .i64 (v : Int), .pointer (some ⟨g, j, none⟩), undef] rfl ⟨fun b1 _ w' h1 _ hC => ?_, fun b1 _ w' h1 _ hC => ?_, fun b1 _ w' h1 _ hC => ?_, fun b1 _ w' h1 _ hC => ?_, fun b1 _ w' h1 _ hC => ?_, fun b1 _ w' h1 _ hC => ?_, fun b1 _ w' h1 _ hC => ?_, trivial⟩ ?_
          · obtain rfl := h1.no (by kernel_rfl); subst hC; exact .val (ex_load_of rfl rfl (ld_sl c1)) rfl
          · obtain rfl := h1.no (by kernel_rfl); subst hC; exact .val (ex_load_of rfl rfl (ld_sl c1)) rfl
          · obtain rfl := h1.no (by kernel_rfl); subst hC; exact .val (ex_idx rfl rfl rfl (by have := idx_ints w13.drew g 0 j nb' cb' hi2; rwa [Nat.zero_add] at this)) rfl
          · obtain rfl := h1.no (by kernel_rfl); subst hC; exact .val (ex_load_of rfl rfl (ld_i hcs)) rfl
          · obtain rfl := h1.no (by kernel_rfl); subst hC; exact .val (ex_addi rfl rfl rfl hvw) rfl
          · obtain rfl := h1.no (by kernel_rfl); subst hC; exact .val (ex_idx rfl rfl rfl (by have := idx_ints w13.drew g 0 j nb' cb' hi2; rwa [Nat.zero_add] at this)) rfl
          · obtain rfl := h1.no (by kernel_rfl); subst hC; exact .store rfl (ex_store_of rfl rfl rfl (sv_i hfs hcs)) rfl
          · intro w' hJ
            replace hJ : w' = w13.drew.setCell ⟨g, j, none⟩ (.int .i64 (v : Int)) := hJ
            rw [← hJ] at HB
            clear hJ hcs hfs hvw c1
            simp only [finT, List.set_cons_zero, List.set_cons_succ, List.tail_cons, List.headD_cons]
            rename World => w14
            obtain ⟨hj, hl2, hm2, hp2, h1002, hk2, hxt, hjl⟩ := HX.out
            have hl3 : ps'.length = (ss'.set j v).length := by rw [List.length_set]; exact hl2
            have hcv : w14.cell? ⟨g, j, none⟩ = some (.int .i64 (v : Int)) ∧ w14.frozen? ⟨g, j, none⟩ = false := by
              obtain ⟨g2, n2, c2, s2, e2, _, _, hs3, hc3, hf3⟩ := sum_place HB.out hl3 hk2
              cases e2
              rw [← hj] at hs3 hc3 hf3
              rw [List.getElem?_set_self hjl] at hs3
              cases hs3
              exact ⟨hc3, hf3⟩
            obtain ⟨hcv, hfv⟩ := hcv
            have c1 := HB.out.c1
            by_cases h100 : 100 ≤ v
            · have t1 : decide ((100 : Int) ≤ (v : Int)) = true := decide_eq_true (by omega)
              have hy2 : y = ⟨upd x.p k 0, shunRow x.row k⟩ := by rw [HY.out]; unfold Bd.blame; rw [if_pos (by rw [hxt]; exact h100)]
              have h15 := HB.out.setS (j := j) (by rw [List.length_set]; exact hjl) 0
              rw [List.set_set, show ((0 : Nat) : Int) = 0 from rfl] at h15
              have HL : Hid (ps'.length = (ss'.set j 0).length ∧ y.p = Sr.look ps' (ss'.set j 0) ∧ ∀ s ∈ ss'.set j 0, s < 100) := Lib.hid ⟨by rw [List.length_set]; exact hl2, by rw [hy2, hj, Sr.look_set hl2 hk2, ← hp2], Sr.set_low h1002 _ (by decide)⟩
              have HM2 := Lib.hid hm2
              have HR2 : Hid (y.row = shunRow x.row k) := Lib.hid (by rw [hy2])
              have H15 := Lib.hid h15
              clear hj hl2 hm2 hp2 h1002 hk2 hxt hjl hl3 h15 HX HB hy2 HY h100 hv2
              go_upto_region 17 with fail
              generalize World.setCell _ _ _ = w15 at *
              clear hcv hfv c1 t1
              have hx16 := HOK.out.1.few
              obtain ⟨pr, cr, e, hfr⟩ := H15.out.ra
              subst e
              have c2 := H15.out.c2
              obtain ⟨nr, hnr⟩ : ∃ nr, nr = x.row.length := ⟨_, rfl⟩
              rw [← hnr] at c2 hx16
              have HNR := Lib.hid hnr
              have HFR := Lib.hid hfr
              clear hnr hfr
              go_wp2_with fail
              go_loopw [11, 90] (fun v i wl => ∃ (u N : Nat) (pv : Option Addr) (cv : Nat), u ≤ nr ∧ N ≤ u ∧ i = .int .i64 (u : Int) ∧ v = .slice pv N cv ∧ Hid (RowO wl w15.heap.size (.slice pv N cv) N (wo (x.row.take u) k)) ∧ Below w15.heap.size w15 wl) (fun _ i _ => nr - (intOf i).toNat)
              case atStart => exact ⟨0, 0, none, 0, Nat.zero_le _, Nat.le_refl _, rfl, rfl, Lib.hid (rowo_nil _ _), Below.refl _ _⟩
              case round =>
                obtain ⟨u, N, pv, cv, hu, hN, rfl, rfl, HV, hb⟩ := hrel
                rename World => wl
                by_cases hlt : u < nr
                · obtain ⟨z, hz⟩ : ∃ z, x.row[u]? = some z := ⟨x.row[u]'(by rw [← HNR.out]; exact hlt), List.getElem?_eq_getElem _⟩
                  obtain ⟨b, off, rfl, _, hc⟩ := (HFR.out.below hb) (by rw [← HNR.out]; omega)
                  have hcz := hc u z hz
                  have hw2 := wo_more (x := k) hz
                  clear hc hz c2
                  by_cases e : z = k
                  · have t1 : (z != k) = false := by simpa using e
                    have HV2 : Hid (RowO wl w15.heap.size (.slice pv N cv) N (wo (x.row.take (u + 1)) k)) := Lib.hid (by rw [hw2, if_pos e]; exact HV.out)
                    clear e hw2 HV
                    go_wp2_with fail
                    go_roundw
                    case rel => exact ⟨u + 1, N, pv, cv, by omega, by omega, by go_num, rfl, HV2, hb⟩
                    case measure => simp [intOf]; omega
                  · have t1 : (z != k) = true := by simpa using e
                    rw [if_neg e] at hw2
                    have HW2 := Lib.hid hw2
                    have hmk := build_int wl z
                    have hb5 : Below w15.heap.size w15 (wl.alloc (.cells #[.int .i64 z] 3)) := hb.alloc hb.size _
                    have hz5 : (wl.alloc (.cells #[.int .i64 z] 3)).cell? ⟨wl.heap.size, 0, none⟩ = some (.int .i64 z) := Has.cell (Has.new _ _) 0
                    have hR5 := HV.out.below (w' := wl.alloc (.cells #[.int .i64 z] 3)) ((Below.refl _ _).alloc (Nat.le_refl _) _)
                    have hs5 := hb5.size
                    have hN9 : N ≤ 1000 := by omega
                    clear e hw2 HV
                    go_wp2_with ((with_reducible refine app_int rfl _ _ rfl w15.heap.size (.slice pv N cv) N (wo (x.row.take u) k) rfl hR5 wl.heap.size z rfl hz5 hN9 hs5 ?_); intro v6 w6 hR6 hb6; rw [← HW2.out] at hR6; obtain ⟨p6, c6, rfl⟩ := rowo_sl hR6)
                    go_roundw
                    case rel => exact ⟨u + 1, N + 1, p6, c6, by omega, by omega, by go_num, rfl, Lib.hid hR6, hb5.trans hb6⟩
                    case measure => simp [intOf]; omega
                · obtain rfl : u = nr := by omega
                  have hV := HV.out
                  rw [HNR.out, List.take_length] at hV
                  have hmk := build_int wl k
                  have hb5 : Below w15.heap.size w15 (wl.alloc (.cells #[.int .i64 k] 3)) := hb.alloc hb.size _
                  have hz5 : (wl.alloc (.cells #[.int .i64 k] 3)).cell? ⟨wl.heap.size, 0, none⟩ = some (.int .i64 k) := Has.cell (Has.new _ _) 0
                  have hR5 := hV.below (w' := wl.alloc (.cells #[.int .i64 k] 3)) ((Below.refl _ _).alloc (Nat.le_refl _) _)
                  have hs5 := hb5.size
                  have hN9 : N ≤ 1000 := by omega
                  obtain ⟨M, hM⟩ : ∃ M, M = N + 1 := ⟨_, rfl⟩
                  have HM := Lib.hid hM
                  have hM17 : M ≤ 17 := by omega
                  clear HV hV hM hlt
                  go_upto_region 24 with ((with_reducible refine app_int rfl _ _ rfl w15.heap.size (.slice pv N cv) N (wo x.row k) rfl hR5 wl.heap.size k rfl hz5 hN9 hs5 ?_); intro v6 w6 hR6 hb6; rw [← HM.out] at hR6; obtain ⟨p6, c6, rfl⟩ := rowo_sl hR6)
                  have hb20 := hb5.trans hb6
                  have hlen := hR6.len
                  clear hb5 hb6 hR5 hz5 hs5 hmk hN9 c2 hb
                  rename World => w20
                  obtain ⟨k0, hk0⟩ : ∃ k0, k0 = M - 16 := ⟨_, rfl⟩
                  obtain ⟨dI, hdI⟩ : ∃ dI : Int, dI = (M : Int) - 16 := ⟨_, rfl⟩
                  have hsb : IntKind.i64.wrap ((M : Int) - 16) = dI := by rw [hdI, IntKind.wrap_i64]; omega
                  have hmx := max_is (P := Try.prog) dI 0 (k0 : Int) (by omega)
                  obtain ⟨p7, c7, p8, n8, c8, e8, hcut, hn8, hf8, ho8⟩ := cutO hR6 (k := k0) (by omega)
                  cases e8
                  have hrow : (wo x.row k ++ [k]).drop k0 = shunRow x.row k := by unfold shunRow last16; rw [hk0, hlen]
                  rw [hrow] at hn8 hf8
                  have h20 := H15.out.rest hb20
                  have hB : ∀ i, i = r ∨ va'.ownBlock = some i ∨ (Value.slice (some ⟨g, 0, none⟩) nb' cb').ownBlock = some i → i < w15.heap.size := fun i hi => by
                    rcases hi with rfl | hi | hi
                    · exact H15.out.h.lt
                    · exact (H15.out.na (.inl hi)).2
                    · exact (H15.out.na (.inr (.inl hi))).2
                  have H21 := Lib.hid (h20.turnR (c := c8) H15.out.kp.size hn8 hf8 ho8 hB)
                  have c2 := h20.c2
                  have f2 := h20.fr 2
                  clear hdI hk0 hR6 hrow hn8 hf8 ho8 h20 hB hb20 hlen HFR HNR H15
                  go_upto_region 25 with fail
                  generalize World.setCell _ _ _ = w21 at *
                  rw [← HR2.out] at H21
                  have KS := Lib.hid (rshuns_at H21.out (by have := HOK.out.2.few; omega) k)
                  have HD := Lib.hid (RdR.done H21.out HL.out.1 HM2.out HL.out.2.1 HL.out.2.2 HOK.out.2)
                  clear H21 c2 f2 hcut hmx hsb
                  go_wp2_with fail
                  refine (KS.out).mono ?_
                  rintro e w' ⟨rfl, rfl⟩
                  go_wp2_with fail
                  go_ret
                  exact ⟨rfl, HD.out⟩
            · have t1 : decide ((100 : Int) ≤ (v : Int)) = false := decide_eq_false (by omega)
              have hy2 : y = ⟨upd x.p k v, x.row⟩ := by rw [HY.out]; unfold Bd.blame; rw [if_neg (by rw [hxt]; exact h100), hxt]
              have HH := HB
              rw [show x.row = y.row by rw [hy2]] at HH
              have KS := Lib.hid (rshuns_at HH.out (by have := HOK.out.2.few; omega) k)
              have HD := Lib.hid (RdR.done HH.out hl3 hm2 (by rw [hy2, hj, Sr.look_set hl2 hk2, ← hp2]) (Sr.set_low h1002 _ (by omega)) HOK.out.2)
              clear hj hl2 hm2 hp2 h1002 hk2 hxt hjl hl3 HX HB HH hy2 HY h100 hv2
              go_wp2_with fail
              refine (KS.out).mono ?_
              rintro e w' ⟨rfl, rfl⟩
              go_wp2_with fail
              go_ret
              exact ⟨rfl, HD.out⟩
end
end Go.Proofs.Ytehineieklpgoaa.An
