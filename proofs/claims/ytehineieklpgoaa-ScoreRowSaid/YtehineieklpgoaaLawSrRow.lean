/-
  ScoreRow: the walk.
-/
import Derived.Test.YtehineieklpgoaaSrLaw
import Derived.Test.YtehineieklpgoaaSrRef
namespace Go.Proofs.Ytehineieklpgoaa.An
open Go.RowKit Mem NN.Rg2
open Sr (Bd pt pts upd wo shunRow last16)
set_option maxRecDepth 100000
theorem srow_long (a : Option Addr) (n c : Nat) (h1 : 100 < n) (w : World) : Calls Try.prog 5 #[.slice a n c] w fun e w' => e = .returned (.bool true) ∧ Below w.heap.size w w' := by
  have t1 : decide ((100 : Int) < (n : Int)) = true := decide_eq_true (by omega)
  clear h1
  go_enter Try.func5, Try.ntmps5
  go_wp2_with fail
  refine (alive20 w).mono ?_
  rintro e w1 ⟨rfl, hB⟩
  go_wp2_with fail
  go_ret
  exact ⟨rfl, hB⟩
theorem bad_blame {x : Bd} (k : Int) : x.blame k (pts [2]) = ⟨upd x.p k 0, shunRow x.row k⟩ := by
  unfold Bd.blame
  rw [if_pos (by have : pts [2] = 100 := by decide
                 omega)]
set_option maxHeartbeats 16000000 in
theorem srow_main (a : Option Addr) (l : List Int) (n c : Nat) (hn : n = l.length) (h1 : n ≤ 100) (h64 : ∀ x ∈ l, in64 x) (w : World) (hA : FsAt w a l) : Calls Try.prog 5 #[.slice a n c] w fun e w' => e = .returned (.bool true) ∧ Below w.heap.size w w' := by
  have t1 : decide ((100 : Int) < (n : Int)) = false := decide_eq_false (by omega)
  have HA := Lib.hid hA
  have HN := Lib.hid hn
  have H64 := Lib.hid h64
  clear hn hA h64
  go_enter Try.func5, Try.ntmps5
  go_wp2_with fail
  refine (alive20 w).mono ?_
  rintro e w1 ⟨rfl, hB⟩
  go_wp2_with fail
  refine (new_at w1).mono ?_
  rintro e w2 ⟨b, rfl, hwb, hS, hb2⟩
  have HS : Hid (∃ F x, BdS w2 F b 0 x ∧ ∀ i, F i → w.heap.size ≤ i) := Lib.hid ⟨_, _, hS, fun i hi => Nat.le_trans hB.size hi.1⟩
  replace hB := hB.trans (hb2.mono hB.size)
  clear hwb hS hb2 t1
  go_wp2_with fail
  go_loopw [17] (fun i wr => ∃ u : Nat, u ≤ n ∧ i = .int .i64 (u : Int) ∧ Hid (∃ F x, BdS wr F b u x ∧ ∀ i, F i → w.heap.size ≤ i) ∧ Below w.heap.size w wr) (fun i _ => n - (intOf i).toNat)
  case atStart => exact ⟨0, Nat.zero_le _, rfl, HS, hB⟩
  case round =>
    obtain ⟨u, hu, rfl, HSR, hb⟩ := hrel
    rename World => wl
    clear hB HS
    by_cases hlt : u < n
    · obtain ⟨z, hz⟩ : ∃ z, l[u]? = some z := ⟨l[u]'(by rw [← HN.out]; exact hlt), List.getElem?_eq_getElem _⟩
      obtain ⟨ab, ao, rfl, _, hc⟩ := (HA.out.below hb) (by rw [← HN.out]; omega)
      have hcz := hc u z hz
      have hz64 := H64.out z (List.mem_of_getElem? hz)
      obtain ⟨F, x, hS, hF⟩ := HSR.out
      have hmk := build_flt wl 2
      have hb5 : Below wl.heap.size wl (wl.alloc (.cells #[.int .i64 2] 42)) := (Below.refl _ _).alloc (Nat.le_refl _) _
      have h5 := hS.there.below hb5 fun i hi => hi.2
      have K5 := Lib.hid (blame_at h5 (by omega) z hz64 (some ⟨wl.heap.size, 0, none⟩) [2] 1 1 rfl (by decide) (one_fs wl 2 _))
      have hyok := h5.ok.blame z (pts [2])
      rw [show (x.blame z (pts [2])).shuns z = true by rw [bad_blame]; exact decide_eq_true (Sr.mem_shun_self _ _)] at K5
      have hB5 := hb.trans (hb5.mono hb.size)
      obtain ⟨y, hy⟩ : ∃ y, y = x.blame z (pts [2]) := ⟨_, rfl⟩
      have hyr : y.row = shunRow x.row z := by rw [hy, bad_blame]
      rw [← hy] at K5 hyok
      have HF := Lib.hid hF
      have HY := Lib.hid (And.intro hyr hyok)
      clear hc hz hz64 hS hF hb5 h5 hy hyr hyok HSR
      go_wp2_with fail
      refine (K5.out).mono ?_
      rintro e w6 ⟨rfl, h6, hk6⟩
      have hB6 := hB5.trans (hk6.below (fun i hi => HF.out i hi.1) hB5.size)
      have HF6 : Hid (∀ i, Nxt (fun i => F i ∧ i < wl.heap.size) (wl.alloc (.cells #[.int .i64 2] 42)) w6 i → w.heap.size ≤ i) := Lib.hid fun i hi => hi.elim (fun h => HF.out i h.1) fun h => Nat.le_trans hB5.size h.1
      have K7 := Lib.hid (shunned_at h6)
      have H6 := Lib.hid h6.there
      clear K5 h6 hk6 hB5 hmk hb
      go_wp2_with fail
      refine (K7.out).mono ?_
      rintro e w8 ⟨v8, rfl, hR8, hv8, hb8⟩
      have H8 : Hid (∃ F x, BdS w8 F b (u + 1) x ∧ (∀ i, F i → w.heap.size ≤ i) ∧ ∀ i, F i → i < w8.heap.size) := Lib.hid ⟨_, _, H6.out.below hb8 fun i hi => hi.2, fun i hi => HF6.out i hi.1, fun i hi => Nat.lt_of_lt_of_le hi.2 hb8.size⟩
      replace hB6 := hB6.trans (hb8.mono hB6.size)
      obtain ⟨p8, c8, e8, hf8⟩ := row_at hR8
      subst e8
      obtain ⟨N, hN⟩ : ∃ N, N = y.row.length := ⟨_, rfl⟩
      have hN16 : N ≤ 16 := by rw [hN]; exact HY.out.2.few
      obtain ⟨m8, hm8⟩ := Sr.shun_last x.row z
      rw [← HY.out.1] at hm8
      have hN0 : 0 < N := by rw [hN, hm8]; simp
      obtain ⟨g, off, rfl, hg8, hc8⟩ := hf8 (by omega)
      obtain ⟨N1, hN1⟩ : ∃ N1, N1 = N - 1 := ⟨_, rfl⟩
      have hlast : y.row[N1]? = some z := by
        rw [hN1, hN, hm8]
        simp
      have hcl := hc8 N1 z hlast
      have hw1 : IntKind.i64.wrap ((N : Int) - 1) = (N1 : Int) := by rw [IntKind.wrap_i64]; omega
      have hlt1 : N1 < N := by omega
      have t2 : decide ((16 : Int) < (N : Int)) = false := decide_eq_false (by omega)
      have t3 : (z != z) = false := by simp
      have HC8 : Hid (∀ wq, Below w8.heap.size w8 wq → ∀ j q, y.row[j]? = some q → wq.cell? ⟨g, off + j, none⟩ = some (.int .i64 q)) := Lib.hid fun wq hbq j q hj => (World.cell?_of_block (w := w8) (a := ⟨g, off + j, none⟩) (hbq.block g hg8)).trans (hc8 j q hj)
      have HNN := Lib.hid hN
      rw [← hN]
      clear hR8 hv8 hb8 hf8 hm8 hg8 hc8 hN1 hlast hN H6 HF6 HF K7
      go_wp2_with fail
      go_loopw [43] (fun i wq => ∃ a2 : Nat, a2 ≤ N ∧ i = .int .i64 (a2 : Int) ∧ Below w8.heap.size w8 wq) (fun i _ => N - (intOf i).toNat)
      case atStart => exact ⟨0, Nat.zero_le _, rfl, Below.refl _ _⟩
      case round =>
        obtain ⟨a2, ha2, rfl, hbq⟩ := hrel
        rename World => wq
        by_cases hlt2 : a2 < N
        · obtain ⟨q2, hq2⟩ : ∃ q, y.row[a2]? = some q := ⟨y.row[a2]'(by rw [← HNN.out]; exact hlt2), List.getElem?_eq_getElem _⟩
          have HQ2 := Lib.hid hq2
          clear hq2
          go_wp2_with fail
          go_loopw [8] (fun i wt => ∃ a3 : Nat, a3 ≤ a2 ∧ i = .int .i64 (a3 : Int) ∧ Below w8.heap.size w8 wt) (fun i _ => a2 - (intOf i).toNat)
          case atStart => exact ⟨0, Nat.zero_le _, rfl, hbq⟩
          case round =>
            clear hbq
            obtain ⟨a3, ha3, rfl, hbt⟩ := hrel
            rename World => wt
            by_cases hlt3 : a3 < a2
            · have hl3 : a3 < N := by omega
              obtain ⟨q3, hq3⟩ : ∃ q, y.row[a3]? = some q := ⟨y.row[a3]'(by rw [← HNN.out]; exact hl3), List.getElem?_eq_getElem _⟩
              have hne : (q3 == q2) = false := by
                have h1 := HY.out.2.once
                have h2 := HQ2.out
                obtain ⟨e1, e2⟩ := List.getElem?_eq_some_iff.1 hq3
                obtain ⟨e3, e4⟩ := List.getElem?_eq_some_iff.1 h2
                simp only [beq_eq_false_iff_ne, ne_eq]
                intro e
                rw [← e2, ← e4] at e
                exact List.pairwise_iff_getElem.1 h1 a3 a2 e1 e3 hlt3 e
              have hbd := hbt.trans ((Below.refl wt.heap.size wt).drew.mono hbt.size)
              have k2 := HC8.out _ hbd a2 q2 HQ2.out
              have k3 := HC8.out _ hbd a3 q3 hq3
              clear hbt hq3
              go_upto_region 20 with fail
              refine wp_tab (fun _ _ w' => w' = wt.drew) 99 98 [2, 3, 6, 7, 8] [.slice (some ⟨g, off, none⟩) N c8, .int .i64 (a3 : Int), .pointer (some ⟨g, off + a3, none⟩), .int .i64 q3, .slice (some ⟨g, off, none⟩) N c8, .int .i64 (a2 : Int), .pointer (some ⟨g, off + a2, none⟩), .int .i64 q2, .bool false] rfl ⟨fun _ _ w' _ _ hC => ?_, fun _ _ w' _ _ hC => ?_, fun _ _ w' _ _ hC => ?_, fun _ _ w' _ _ hC => ?_, fun _ _ w' _ _ hC => ?_, trivial⟩ ?_
              · exact .val (ex_idx rfl rfl rfl (idx_ints _ _ _ _ _ _ hl3)) hC
              · subst hC; exact .val (ex_load_of rfl rfl (ld_i k3)) rfl
              · exact .val (ex_idx rfl rfl rfl (idx_ints _ _ _ _ _ _ hlt2)) hC
              · subst hC; exact .val (ex_load_of rfl rfl (ld_i k2)) rfl
              · exact .val (ex_eqi rfl rfl rfl hne) hC
              · intro w' hJ
                subst hJ
                simp only [finT, List.set_cons_zero, List.set_cons_succ, List.tail_cons, List.headD_cons]
                clear k2 k3 hne
                go_wp2_with fail
                go_roundw
                case rel => exact ⟨a3 + 1, by omega, by go_num, hbd⟩
                case measure => simp [intOf]; omega
            · obtain rfl : a3 = a2 := by omega
              go_wp2_with fail
              go_roundw
              case rel => exact ⟨a3 + 1, by omega, by go_num, hbt⟩
              case measure => simp [intOf]; omega
        · obtain rfl : a2 = N := by omega
          have HE : Hid ((∃ F x, BdS wq F b (u + 1) x ∧ ∀ i, F i → w.heap.size ≤ i) ∧ Below w.heap.size w wq) := Lib.hid (by
            obtain ⟨F, x, h1, h2, h3⟩ := H8.out
            exact ⟨⟨F, x, h1.below hbq h3, h2⟩, hB6.trans (hbq.mono hB6.size)⟩)
          clear hbq H8 hB6 HC8 HY
          go_wp2_with fail
          go_roundw
          case rel => exact ⟨u + 1, by omega, by go_num, Lib.hid HE.out.1, HE.out.2⟩
          case measure => simp [intOf]; omega
    · obtain rfl : u = n := by omega
      clear HSR HA HN H64
      go_wp2_with fail
      go_ret
      exact ⟨rfl, hb⟩
theorem srow_walk (a : Option Addr) (l : List Int) (n c : Nat) (hn : n = l.length) (h64 : ∀ x ∈ l, in64 x) (w : World) (hA : FsAt w a l) : Calls Try.prog 5 #[.slice a n c] w fun e w' => e = .returned (.bool true) ∧ Below w.heap.size w w' := by
  by_cases h : 100 < n
  · exact srow_long a n c h w
  · exact srow_main a l n c hn (by omega) h64 w hA
end Go.Proofs.Ytehineieklpgoaa.An
