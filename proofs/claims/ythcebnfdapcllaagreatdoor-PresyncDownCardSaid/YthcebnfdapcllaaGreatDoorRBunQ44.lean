import Derived.Test.YthcebnfdapcllaaGreatDoorRPgBook
import Derived.Laws.OwnMore
namespace Go.Proofs.YthcebnfdapcllaaGreatDoor.An
open Go.RowKit Mem Sc NN.Rg2
open Pg (Pl pbit gv Ws)
set_option maxRecDepth 100000
variable {w w' : World} {b : Nat} {v v' : Value} {x : Pl} {bs : List Bool} {m n : Nat} {ws : List Nat}
structure BkW (w : World) (b : Nat) (v : Value) (x : Pl) (n m : Nat) (ws : List Nat) : Prop where
  cell : Has w b (bkA x v n m) 101
  own : w.ownsRow (b + 1) 24 1 v ws.length (wsC ws)
theorem BkW.ownLt (h : BkW w b v x n m ws) {k : Nat} (hk : v.ownBlock = some k) : b + 1 ≤ k ∧ k < w.heap.size := h.own.lt k hk
theorem u64_info : (Tryz.prog.info? 24).map (fun i => (i.zero, i.size, i.bytes)) = some (some (.int .u64 0), 1, 8) := by kernel_rfl
theorem u64_one : (Tryz.prog.info? 24).map (·.size) = some 1 := by kernel_rfl
theorem make_words (n : Nat) (hn : n ≤ 35184372088832) (w : World) : (Instr.makeSlice 99 (.int .i64 (n : Int)) (.int .i64 (n : Int))).run Tryz.prog w = .ok (.slice (some ⟨w.heap.size, 0, none⟩) n n) (w.alloc (.cells (madeCells #[.int .u64 0] n) 24)) :=
  run_make_row' 99 24 (.int .u64 0) 8 Tryz.underlying99 u64_info rfl .i64 .i64 n (by omega) (by omega) w
theorem wsC_length (ws : List Nat) : (wsC ws).length = ws.length := by simp [wsC]
theorem wsC_one (ws : List Nat) : ∀ v ∈ wsC ws, v.oneCell' = true := fun v hv => by
  obtain ⟨y, _, rfl⟩ := List.mem_map.1 hv
  rfl
theorem made_words (k : Nat) : madeCells #[.int .u64 0] k = (wsC (List.replicate k 0)).toArray := by
  rw [← Array.toArray_toList (xs := madeCells #[.int .u64 0] k), toList_madeCells_one]
  simp [wsC]
theorem splice_words (ws : List Nat) (k : Nat) : splice (wsC (List.replicate (ws.length + k) 0)) 0 (wsC ws) = wsC (ws ++ List.replicate k 0) := by
  unfold splice
  simp [wsC]
theorem own_cells (h : w.ownsRow (b + 1) 24 1 v ws.length (wsC ws)) : ∃ a c, v = .slice a ws.length c ∧ (0 < ws.length → ∃ g, a = some ⟨g, 0, none⟩ ∧ g < w.heap.size ∧ ∀ j u, (wsC ws)[j]? = some u → w.cell? ⟨g, j, none⟩ = some u) := by
  rcases h.2 with ⟨rfl, h1⟩ | ⟨g, cap, cur, rfl, hb, hg, hc, hm, hcs, ht⟩
  · exact ⟨none, 0, by rw [h1], fun h => by omega⟩
  · have hH : Has w g cur 24 := hg
    refine ⟨_, cap, rfl, fun _ => ⟨g, rfl, hH.lt, fun j u hu => ?_⟩⟩
    have hj := (List.getElem?_eq_some_iff.1 hu).1
    rw [wsC_length] at hj
    rw [hH.cell j, ← hu, ← ht, List.getElem?_take_of_lt (by omega), Array.getElem?_toList]
set_option maxHeartbeats 2000000 in
theorem lengthen_at (h : BkW w b v x n m ws) (hl : ws.length ≤ 17592186044416) : Calls Tryz.prog 104 #[.pointer (some ⟨b, 0, none⟩)] w fun r w' => r = .returned (.tuple #[]) ∧ ∃ v', BkW w' b v' x n m (ws ++ List.replicate 16 0) ∧ PenStep w w' b v v' := by
  have c3 := h.cell.cell 3
  obtain ⟨a, c, rfl, hcs⟩ := own_cells h.own
  have C3 : w.cell? ⟨b, 3, none⟩ = some (.slice a ws.length c) := c3
  clear c3
  obtain ⟨k, hk⟩ : ∃ k, ws.length = k := ⟨_, rfl⟩
  obtain ⟨k2, hk2⟩ : ∃ k2, k + 16 = k2 := ⟨_, rfl⟩
  have hwr : IntKind.i64.wrap ((k : Int) + 16) = (k2 : Int) := by rw [IntKind.wrap_i64]; omega
  have hmk := make_words k2 (by omega)
  have H := Lib.hid h
  have HK := Lib.hid hk
  have HK2 := Lib.hid hk2
  rw [hk] at C3 hcs
  have HCS := Lib.hid hcs
  have hblt := h.cell.lt
  clear h hk2 hk hcs
  go_enter Tryz.func104, Tryz.ntmps104
  go_upto_region 1 with fail
  generalize hw1 : World.alloc _ _ = w1
  have hN : w1.heap[w.heap.size]? = some (.cells (wsC (List.replicate k2 0)).toArray 24 (0, 0)) := by rw [← hw1, ← made_words]; exact heap_alloc_new w _
  have hb1 : Below w.heap.size w w1 := by rw [← hw1]; exact (Below.refl _ _).alloc (Nat.le_refl _) _
  have C3' : w1.cell? ⟨b, 3, none⟩ = some (.slice a k c) := (hb1.cell (p := ⟨b, 3, none⟩) hblt).trans C3
  have hsz : w1.heap.size = w.heap.size + 1 := by rw [← hw1, World.size_alloc]
  clear hw1 C3 hmk hwr
  obtain ⟨g, hg⟩ : ∃ g, g = w.heap.size := ⟨_, rfl⟩
  rw [← hg] at hN ⊢
  have HG := Lib.hid hg
  have HSZ := Lib.hid hsz
  have HB1 := Lib.hid hb1
  clear hg hsz hb1
  have hlen : (wsC ws).length = Nat.min k k2 := by
    rw [wsC_length, HK.out]; have := HK2.out; exact (Nat.min_eq_left (by omega)).symm
  have hpos : 0 < (wsC ws).length → ∃ ad, a = some ad ∧ ∀ j u, (wsC ws)[j]? = some u → w1.cell? (ad.add j) = some u := fun h0 => by
    rw [wsC_length, HK.out] at h0
    obtain ⟨ga, rfl, hgl, hc⟩ := HCS.out h0
    exact ⟨_, rfl, fun j u hu => by
      rw [Addr.add_lit, Nat.zero_add]
      exact (HB1.out.cell (p := ⟨ga, j, none⟩) hgl).trans (hc j u hu)⟩
  have hfit : 0 + (wsC ws).length ≤ (wsC (List.replicate k2 0)).length := by
    rw [wsC_length, wsC_length, List.length_replicate, HK.out]; have := HK2.out; omega
  have HL := Lib.hid hlen
  have HP := Lib.hid hpos
  have HF := Lib.hid hfit
  clear hlen hpos hfit
  go_upto_region 2 with (with_reducible refine wpList_copy_splice rfl _ _ _ _ rfl 24 Tryz.underlying99 u64_one _ _ _ _ _ _ rfl rfl g 0 (wsC (List.replicate k2 0)) _ hN (wsC ws) HL.out (fun h0 => ⟨rfl, HP.out h0⟩) HF.out (wsC_one ws) g w1 (Below.refl _ _) (Nat.le_refl _) ?_; intro w2 HG2 hB2)
  have hbg : b < g := by have := HG.out; omega
  have hBw : Below g w w2 := (HG.out ▸ HB1.out : Below g w w1).trans hB2
  have hB9 : Has w2 b (bkA x (.slice a ws.length c) n m) 101 := below_has hBw H.out.cell hbg
  have C3 : w2.cell? ⟨b, 3, none⟩ = some (.slice a ws.length c) := hB9.cell 3
  have F3 := hB9.free 3
  have hgh : Has w2 g (wsC (ws ++ List.replicate 16 0)).toArray 24 := by
    have := HG2.out
    rw [← HK2.out, ← HK.out, splice_words] at this
    exact this
  have HGH := Lib.hid hgh
  have HB9 := Lib.hid hB9
  have HBW := Lib.hid hBw
  clear hgh hB9 hBw hB2 HG2 C3' hN HL HP HF HCS
  go_wp2_with fail
  go_end0
  refine ⟨rfl, .slice (some ⟨g, 0, none⟩) k2 k2, ⟨(HB9.out.set (i := 3) _), ?_⟩, ?_⟩
  · have e : (ws ++ List.replicate 16 0).length = k2 := by rw [List.length_append, List.length_replicate, HK.out]; exact HK2.out
    rw [e]
    refine ⟨by rw [wsC_length, e, Nat.mul_one], .inr ⟨g, k2, _, rfl, hbg, Has.other HGH.out ⟨b, 3, none⟩ _ (by show g ≠ b; omega), Nat.le_refl _, by unfold maxLen; have := HK2.out; have := HK.out; omega, by rw [List.size_toArray, wsC_length, e, Nat.mul_one], ?_⟩⟩
    rw [List.toList_toArray, Nat.mul_one, List.take_of_length_le (by rw [wsC_length, e]; omega)]
  · have hB := HBW.out
    refine ⟨hB.os, hB.tape, hB.output, by simp only [World.setCell, Array.size_modify]; exact hB.size, fun k hk hkb _ => (Below.heap_setCell _ _ _ _ (by simpa using hkb)).trans (hB.block k (by have := HG.out; omega)), fun k hk => .inr ?_⟩
    obtain rfl := Option.some.inj hk
    show w.heap.size ≤ g
    rw [HG.out]
    exact Nat.le_refl _
theorem pen_set {w w1 : World} {b g o : Nat} {v v' u : Value} (h : PenStep w w1 b v v') (hg : g = b ∨ v'.ownBlock = some g) : PenStep w (w1.setCell ⟨g, o, none⟩ u) b v v' :=
  h.trans ⟨rfl, rfl, rfl, by simp only [World.setCell, Array.size_modify]; exact Nat.le_refl _, fun k hk hkb hkv => Below.heap_setCell _ _ _ _ (by
    rcases hg with rfl | hg
    · simpa using hkb
    · intro e
      have e' : k = g := e
      rw [e'] at hkv
      exact hkv hg), fun _ h => .inl h⟩
theorem BkW.more (h : BkW w b v x n m ws) (n' : Nat) : BkW (w.setCell ⟨b, 4, none⟩ (.int .i64 (n' : Int))) b v x n' m ws := by
  refine ⟨h.cell.set (i := 4) _, h.own.kept (row := some b) ⟨rfl, rfl, rfl, by simp [World.setCell], fun k _ hn => Below.heap_setCell _ _ _ _ (fun e => hn (by rw [e]))⟩ (.inr fun e => ?_)⟩
  have := (h.own.lt b e).1
  omega
theorem BkW.meet (h : BkW w b v x n m ws) (m' : Nat) : BkW (w.setCell ⟨b, 5, none⟩ (.int .i64 (m' : Int))) b v x n m' ws := by
  refine ⟨h.cell.set (i := 5) _, h.own.kept (row := some b) ⟨rfl, rfl, rfl, by simp [World.setCell], fun k _ hn => Below.heap_setCell _ _ _ _ (fun e => hn (by rw [e]))⟩ (.inr fun e => ?_)⟩
  have := (h.own.lt b e).1
  omega
theorem BkW.word (h : BkW w b v x n m ws) {g c j : Nat} (hv : v = .slice (some ⟨g, 0, none⟩) ws.length c) (z : Nat) : BkW (w.setCell ⟨g, j, none⟩ (.int .u64 (z : Int))) b v x n m (ws.set j z) := by
  subst hv
  have hbg := (h.ownLt (k := g) rfl).1
  refine ⟨Has.other h.cell ⟨g, j, none⟩ _ (by show b ≠ g; omega), ?_⟩
  rcases h.own.2 with ⟨h1, _⟩ | ⟨g', cap, cur, h1, hb, hg, hc, hm, hcs, ht⟩
  · cases h1
  · simp only [Value.slice.injEq, Option.some.injEq, Addr.mk.injEq, and_true, true_and] at h1
    obtain ⟨rfl, rfl⟩ := h1
    have hH : Has w g cur 24 := hg
    rw [List.length_set]
    refine ⟨by rw [wsC_length, List.length_set, Nat.mul_one], .inr ⟨g, c, _, rfl, hb, hH.set _, hc, hm, by rw [Array.size_setIfInBounds, hcs], ?_⟩⟩
    rw [Array.toList_setIfInBounds, Nat.mul_one, List.take_set, ← Nat.mul_one ws.length, ht]
    simp [wsC, List.map_set]
theorem BkW.below (h : BkW w b v x n m ws) (hb : Below w.heap.size w w') : BkW w' b v x n m ws :=
  ⟨below_has hb h.cell h.cell.lt, h.own.kept (gb_below hb none) (by cases hv : v.ownBlock <;> simp)⟩
theorem BkW.slice (h : BkW w b v x n m ws) (hl : n < 64 * ws.length) : ∃ g c, v = .slice (some ⟨g, 0, none⟩) ws.length c ∧ ∀ j (hj : j < ws.length), w.cell? ⟨g, j, none⟩ = some (.int .u64 (ws[j] : Int)) ∧ w.frozen? ⟨g, j, none⟩ = false := by
  rcases h.own.2 with ⟨rfl, h1⟩ | ⟨g, cap, cur, rfl, hb, hg, hc, hm, hcs, ht⟩
  · omega
  · have hH : Has w g cur 24 := hg
    refine ⟨g, cap, rfl, fun j hj => ⟨?_, hH.free j⟩⟩
    have e : cur[j]? = (wsC ws)[j]? := by rw [← ht, List.getElem?_take_of_lt (by omega), Array.getElem?_toList]
    rw [hH.cell j, e]
    simp [wsC, hj]
set_option maxHeartbeats 4000000 in
theorem write_at (h : BkW w b v x n m ws) (hw : Ws ws bs) (hn : bs.length = n) (hr : 64 * ws.length ≤ n + 1024) (hf : n < 1099511627776) (bit : Bool) : Calls Tryz.prog 71 #[.pointer (some ⟨b, 0, none⟩), .bool bit] w fun r w' => r = .returned (.tuple #[]) ∧ ∃ v' ws', BkW w' b v' x (n + 1) m ws' ∧ Ws ws' (bs ++ [bit]) ∧ 64 * ws'.length ≤ n + 1 + 1024 ∧ PenStep w w' b v v' := by
  obtain ⟨a, c, hva, -⟩ := own_cells h.own
  subst hva
  have hroom := hw.room
  rw [hn] at hroom
  have H := Lib.hid h
  have HW := Lib.hid hw
  have HN := Lib.hid hn
  obtain ⟨k, hk⟩ : ∃ k, ws.length = k := ⟨_, rfl⟩
  have C3 : ∀ w', Below w.heap.size w w' → w'.cell? ⟨b, 3, none⟩ = some (.slice a k c) := fun w' hb => hk ▸ (H.out.below hb).cell.cell 3
  have C4 : ∀ w', Below w.heap.size w w' → w'.cell? ⟨b, 4, none⟩ = some (.int .i64 (n : Int)) := fun w' hb => (H.out.below hb).cell.cell 4
  obtain ⟨k64, hk64⟩ : ∃ k64 : Int, ((64 * k : Nat) : Int) = k64 := ⟨_, rfl⟩
  have hmul : IntKind.i64.wrap ((64 : Int) * (k : Int)) = k64 := by rw [IntKind.wrap_i64]; omega
  obtain ⟨fu, hfu⟩ : ∃ fu, ((n : Int) == k64) = fu := ⟨_, rfl⟩
  have HFU : Hid (fu = true ↔ n = 64 * k) := Lib.hid (by rw [← hfu, beq_iff_eq]; omega)
  have HK := Lib.hid hk
  have HC3 := Lib.hid C3
  have HC4 := Lib.hid C4
  have HR := Lib.hid hr
  have HRM := Lib.hid hroom
  clear h hw hn hk hk64 C3 C4 hr hroom
  go_enter Tryz.func71, Tryz.ntmps71
  go_upto_region 0 with fail
  refine wp_tab (fun _ _ w' => Below w.heap.size w w') 99 98 [3, 7, 9, 10] [.pointer (some ⟨b, 0, none⟩), .pointer (some ⟨b, 0, none⟩), .pointer (some ⟨b, 4, none⟩), .int .i64 (n : Int), .pointer (some ⟨b, 0, none⟩), .pointer (some ⟨b, 0, none⟩), .pointer (some ⟨b, 3, none⟩), .slice a k c, .int .i64 (k : Int), .int .i64 k64, .bool fu] (Below.refl _ _).drew
    ⟨fun _ _ w' _ _ hC => .val (ex_load_of rfl rfl (ld_i (HC4.out _ hC))) hC, fun _ _ w' _ _ hC => .val (ex_load_of rfl rfl (ld_ws (HC3.out _ hC))) hC, fun _ _ w' _ _ hC => .val (ex_muli rfl rfl rfl hmul) hC, fun _ _ w' _ _ hC => .val (ex_eqi rfl rfl rfl hfu) hC, trivial⟩ ?_
  intro w1 hB1
  simp only [finT, List.set_cons_zero, List.set_cons_succ, List.tail_cons, List.headD_cons]
  have hH1 := H.out.below hB1
  have HH1 := Lib.hid hH1
  have HB1 := Lib.hid hB1
  clear hH1 hB1 HC3 HC4 hmul hfu
  cases fu
  · have hlt : n < 64 * ws.length := by
      have := HRM.out; have := HFU.out; have := HK.out
      by_cases e : n = 64 * k
      · exact absurd (HFU.out.2 e) (by simp)
      · omega
    obtain ⟨w2, v1, ws1, hB2, HW2, HL2, HR2, HS2⟩ : ∃ w2 v1 ws1, BkW w2 b v1 x n m ws1 ∧ Hid (Ws ws1 bs) ∧ Hid (n < 64 * ws1.length) ∧ Hid (64 * ws1.length ≤ n + 1024) ∧ Hid (PenStep w w2 b (.slice a ws.length c) v1 ∧ w1 = w2) := ⟨w1, _, ws, HH1.out, HW, hlt, HR, PenStep.below HB1.out (PenStep.refl _ _ _), rfl⟩
    obtain rfl := HS2.out.2
    replace HS2 := Lib.hid HS2.out.1
    have HB2 := Lib.hid hB2
    clear hlt HR HRM HFU HB1 HH1 HW hB2
    generalize w1 = w2 at *
    obtain ⟨g, c1, rfl, hcw⟩ := HB2.out.slice HL2.out
    have hadd : IntKind.i64.wrap ((n : Int) + 1) = ((n + 1 : Nat) : Int) := by rw [IntKind.wrap_i64]; omega
    obtain ⟨n1, hn1⟩ : ∃ n1, n + 1 = n1 := ⟨_, rfl⟩
    rw [hn1] at hadd
    have HN1 := Lib.hid hn1
    have HCW := Lib.hid hcw
    clear hn1 hcw
    cases bit
    · have c4 : w2.cell? ⟨b, 4, none⟩ = some (.int .i64 (n : Int)) := HB2.out.cell.cell 4
      have f4 := HB2.out.cell.free 4
      go_wp2_with fail
      go_end0
      refine ⟨rfl, _, ws1, ?_, ?_, ?_, pen_set HS2.out (.inl rfl)⟩
      · rw [HN1.out]; exact HB2.out.more n1
      · exact HW2.out.no (by rw [HN.out]; exact HL2.out)
      · have := HR2.out; omega
    · obtain ⟨j, hj⟩ : ∃ j, n / 64 = j := ⟨_, rfl⟩
      obtain ⟨i, hi⟩ : ∃ i, n % 64 = i := ⟨_, rfl⟩
      have f1 : (n : Int).tdiv 64 = (j : Int) := by rw [← hj, Int.ofNat_tdiv]; rfl
      have f2 : (n : Int).tmod 64 = (i : Int) := by rw [← hi, Int.ofNat_tmod]; rfl
      have hi64 : i < 64 := by omega
      have hjl : j < ws1.length := by have := HL2.out; omega
      have f1w : IntKind.i64.wrap (j : Int) = (j : Int) := by rw [IntKind.wrap_i64]; omega
      have f2w : IntKind.i64.wrap (i : Int) = (i : Int) := by rw [IntKind.wrap_i64]; omega
      have hn64 : n = 64 * j + i := by omega
      have hp : 2 ^ i < 18446744073709551616 := Nat.pow_lt_pow_right (by decide) hi64
      have hsh : IntKind.u64.wrap ((1 : Int) * 2 ^ i) = ((2 ^ i : Nat) : Int) := by
        have e2 : ((2 : Int) ^ i) = ((2 ^ i : Nat) : Int) := by norm_cast
        rw [IntKind.wrap_u64, Int.one_mul, e2]
        generalize 2 ^ i = q at *
        omega
      have hyl := HW2.out.lt _ (List.getElem_mem hjl)
      have hor := bits_or_u64_nat ws1[j] (2 ^ i) hyl hp
      have hW3 := HW2.out.yes j i hjl hi64 (by rw [HN.out]; exact hn64)
      obtain ⟨cy, fy⟩ := HCW.out j hjl
      generalize ws1[j] = y at *
      obtain ⟨z, hz⟩ : ∃ z, y ||| 2 ^ i = z := ⟨_, rfl⟩
      rw [hz] at hor hW3
      obtain ⟨q, hq⟩ : ∃ q, 2 ^ i = q := ⟨_, rfl⟩
      rw [hq] at hor hsh
      have HW3 := Lib.hid hW3
      have HN64 := Lib.hid hn64
      have hgl : g < w2.heap.size := (HB2.out.ownLt (k := g) rfl).2
      have C3 : ∀ w', Below w2.heap.size w2 w' → w'.cell? ⟨b, 3, none⟩ = some (.slice (some ⟨g, 0, none⟩) ws1.length c1) := fun w' hb => (HB2.out.below hb).cell.cell 3
      have C4 : ∀ w', Below w2.heap.size w2 w' → w'.cell? ⟨b, 4, none⟩ = some (.int .i64 (n : Int)) := fun w' hb => (HB2.out.below hb).cell.cell 4
      have CY : ∀ w', Below w2.heap.size w2 w' → w'.cell? ⟨g, j, none⟩ = some (.int .u64 (y : Int)) := fun w' hb => (hb.cell (p := ⟨g, j, none⟩) hgl).trans cy
      have FY : ∀ w', Below w2.heap.size w2 w' → w'.frozen? ⟨g, j, none⟩ = false := fun w' hb => by
        obtain ⟨g', c', e1, hc⟩ := (HB2.out.below hb).slice HL2.out
        simp only [Value.slice.injEq, Option.some.injEq, Addr.mk.injEq, and_true, true_and] at e1
        rw [e1.1]
        exact (hc j hjl).2
      obtain ⟨k1, hk1⟩ : ∃ k1, ws1.length = k1 := ⟨_, rfl⟩
      rw [hk1] at C3 hjl
      have hix : ∀ w', (Instr.indexAt 99 (.slice (some ⟨g, 0, none⟩) k1 c1) (.int .i64 (j : Int))).run Tryz.prog w' = .ok (.pointer (some ⟨g, j, none⟩)) w' := fun w' => idx_words w' g j k1 c1 hjl
      have HK1 := Lib.hid hk1
      clear hj hi hn64 hp hz hq hW3 hyl cy fy hk1
      go_upto_region 3 with fail
      refine wp_tab (fun b1 _ w' => ∃ wx, Below w2.heap.size w2 wx ∧ w' = bif b1 then wx.setCell ⟨g, j, none⟩ (.int .u64 (z : Int)) else wx) 19 99 [3, 7, 8, 9, 10, 14, 15, 16, 17, 18, 19] [.pointer (some ⟨b, 0, none⟩), .pointer (some ⟨b, 0, none⟩), .pointer (some ⟨b, 3, none⟩), .slice (some ⟨g, 0, none⟩) k1 c1, .pointer (some ⟨b, 0, none⟩), .pointer (some ⟨b, 0, none⟩), .pointer (some ⟨b, 4, none⟩), .int .i64 (n : Int), .int .i64 (j : Int), .pointer (some ⟨g, j, none⟩), .int .u64 (y : Int), .pointer (some ⟨b, 0, none⟩), .pointer (some ⟨b, 0, none⟩), .pointer (some ⟨b, 4, none⟩), .int .i64 (n : Int), .int .i64 (i : Int), .int .u64 (q : Int), .int .u64 (z : Int), .pointer (some ⟨g, j, none⟩), undef] ⟨_, (Below.refl _ _).drew, rfl⟩
        ⟨fun b1 b2 w' f1' _ hC => ?_, fun b1 b2 w' f1' _ hC => ?_, fun b1 b2 w' f1' _ hC => ?_, fun b1 b2 w' f1' _ hC => ?_, fun b1 b2 w' f1' _ hC => ?_, fun b1 b2 w' f1' _ hC => ?_, fun b1 b2 w' f1' _ hC => ?_, fun b1 b2 w' f1' _ hC => ?_, fun b1 b2 w' f1' _ hC => ?_, fun b1 b2 w' f1' _ hC => ?_, fun b1 b2 w' f1' _ hC => ?_, trivial⟩ ?_
      · obtain rfl := f1'.no (by kernel_rfl)
        obtain ⟨wx, h1, rfl⟩ := hC
        exact .val (ex_load_of rfl rfl (ld_ws (C3 _ h1))) ⟨_, h1, rfl⟩
      · obtain rfl := f1'.no (by kernel_rfl)
        obtain ⟨wx, h1, rfl⟩ := hC
        exact .val (ex_load_of rfl rfl (ld_i (C4 _ h1))) ⟨_, h1, rfl⟩
      · obtain rfl := f1'.no (by kernel_rfl)
        exact .val (ex_quoi rfl rfl rfl (by decide) f1 f1w) hC
      · obtain rfl := f1'.no (by kernel_rfl)
        exact .val (pex_idx rfl rfl rfl (hix _)) hC
      · obtain rfl := f1'.no (by kernel_rfl)
        obtain ⟨wx, h1, rfl⟩ := hC
        exact .val (ex_load_of rfl rfl (ld_u (CY _ h1))) ⟨_, h1, rfl⟩
      · obtain rfl := f1'.no (by kernel_rfl)
        obtain ⟨wx, h1, rfl⟩ := hC
        exact .val (ex_load_of rfl rfl (ld_i (C4 _ h1))) ⟨_, h1, rfl⟩
      · obtain rfl := f1'.no (by kernel_rfl)
        exact .val (ex_remi rfl rfl rfl (by decide) f2) hC
      · obtain rfl := f1'.no (by kernel_rfl)
        exact .val (ex_shlu rfl rfl rfl hi64 hsh) hC
      · obtain rfl := f1'.no (by kernel_rfl)
        exact .val (ex_oru rfl rfl rfl hor) hC
      · obtain rfl := f1'.no (by kernel_rfl)
        exact .val (pex_idx rfl rfl rfl (hix _)) hC
      · obtain rfl := f1'.no (by kernel_rfl)
        obtain ⟨wx, h1, rfl⟩ := hC
        exact .store rfl (ex_store_of rfl rfl rfl (sv_u (FY _ h1) (CY _ h1))) ⟨_, h1, rfl⟩
      rintro w3 ⟨wx, h1, e3⟩
      have hB3 : BkW w3 b (.slice (some ⟨g, 0, none⟩) ws1.length c1) x n m (ws1.set j z) := by
        rw [e3]
        exact (HB2.out.below h1).word rfl z
      have hS3 : PenStep w w3 b (.slice a ws.length c) (.slice (some ⟨g, 0, none⟩) ws1.length c1) := by
        rw [e3]
        exact pen_set (HS2.out.trans (PenStep.below h1 (PenStep.refl _ _ _))) (.inr rfl)
      have c4 : w3.cell? ⟨b, 4, none⟩ = some (.int .i64 (n : Int)) := hB3.cell.cell 4
      have f4 := hB3.cell.free 4
      have HB3 := Lib.hid hB3
      have HS3 := Lib.hid hS3
      clear h1 e3 hB3 hS3 C3 C4 CY FY hix hor hsh f1 f2 f1w f2w
      simp only [finT, List.set_cons_zero, List.set_cons_succ, List.tail_cons, List.headD_cons]
      go_wp2_with fail
      go_end0
      refine ⟨rfl, _, ws1.set j z, ?_, HW3.out, ?_, pen_set HS3.out (.inl rfl)⟩
      · rw [HN1.out]; exact HB3.out.more n1
      · rw [List.length_set]; have := HR2.out; omega
  · have KL := Lib.hid (lengthen_at HH1.out (by have := HR.out; omega))
    go_wp2_with fail
    refine (KL.out).mono ?_
    rintro r w2 ⟨rfl, v1, hB2, hS2⟩
    have hfull : n = 64 * ws.length := by have h9 : n = 64 * k := (by have := HFU.out; simpa using this); have := HK.out; omega
    obtain ⟨ws1, hws1⟩ : ∃ ws1, ws1 = ws ++ List.replicate 16 0 := ⟨_, rfl⟩
    have hl1 : ws1.length = ws.length + 16 := by rw [hws1, List.length_append, List.length_replicate]
    have HL2 : Hid (n < 64 * ws1.length) := Lib.hid (by omega)
    have HR2 : Hid (64 * ws1.length ≤ n + 1024) := Lib.hid (by omega)
    have HW2 : Hid (Ws ws1 bs) := Lib.hid (hws1 ▸ HW.out.longer 16)
    have HS2 := Lib.hid (PenStep.below HB1.out hS2)
    have HB2 : Hid (BkW w2 b v1 x n m ws1) := Lib.hid (hws1 ▸ hB2)
    clear hB2 hS2 KL hfull hws1 hl1 HR HRM HFU HB1 HH1 HW
    obtain ⟨g, c1, rfl, hcw⟩ := HB2.out.slice HL2.out
    have hadd : IntKind.i64.wrap ((n : Int) + 1) = ((n + 1 : Nat) : Int) := by rw [IntKind.wrap_i64]; omega
    obtain ⟨n1, hn1⟩ : ∃ n1, n + 1 = n1 := ⟨_, rfl⟩
    rw [hn1] at hadd
    have HN1 := Lib.hid hn1
    have HCW := Lib.hid hcw
    clear hn1 hcw
    cases bit
    · have c4 : w2.cell? ⟨b, 4, none⟩ = some (.int .i64 (n : Int)) := HB2.out.cell.cell 4
      have f4 := HB2.out.cell.free 4
      go_wp2_with fail
      go_end0
      refine ⟨rfl, _, ws1, ?_, ?_, ?_, pen_set HS2.out (.inl rfl)⟩
      · rw [HN1.out]; exact HB2.out.more n1
      · exact HW2.out.no (by rw [HN.out]; exact HL2.out)
      · have := HR2.out; omega
    · obtain ⟨j, hj⟩ : ∃ j, n / 64 = j := ⟨_, rfl⟩
      obtain ⟨i, hi⟩ : ∃ i, n % 64 = i := ⟨_, rfl⟩
      have f1 : (n : Int).tdiv 64 = (j : Int) := by rw [← hj, Int.ofNat_tdiv]; rfl
      have f2 : (n : Int).tmod 64 = (i : Int) := by rw [← hi, Int.ofNat_tmod]; rfl
      have hi64 : i < 64 := by omega
      have hjl : j < ws1.length := by have := HL2.out; omega
      have f1w : IntKind.i64.wrap (j : Int) = (j : Int) := by rw [IntKind.wrap_i64]; omega
      have f2w : IntKind.i64.wrap (i : Int) = (i : Int) := by rw [IntKind.wrap_i64]; omega
      have hn64 : n = 64 * j + i := by omega
      have hp : 2 ^ i < 18446744073709551616 := Nat.pow_lt_pow_right (by decide) hi64
      have hsh : IntKind.u64.wrap ((1 : Int) * 2 ^ i) = ((2 ^ i : Nat) : Int) := by
        have e2 : ((2 : Int) ^ i) = ((2 ^ i : Nat) : Int) := by norm_cast
        rw [IntKind.wrap_u64, Int.one_mul, e2]
        generalize 2 ^ i = q at *
        omega
      have hyl := HW2.out.lt _ (List.getElem_mem hjl)
      have hor := bits_or_u64_nat ws1[j] (2 ^ i) hyl hp
      have hW3 := HW2.out.yes j i hjl hi64 (by rw [HN.out]; exact hn64)
      obtain ⟨cy, fy⟩ := HCW.out j hjl
      generalize ws1[j] = y at *
      obtain ⟨z, hz⟩ : ∃ z, y ||| 2 ^ i = z := ⟨_, rfl⟩
      rw [hz] at hor hW3
      obtain ⟨q, hq⟩ : ∃ q, 2 ^ i = q := ⟨_, rfl⟩
      rw [hq] at hor hsh
      have HW3 := Lib.hid hW3
      have HN64 := Lib.hid hn64
      have hgl : g < w2.heap.size := (HB2.out.ownLt (k := g) rfl).2
      have C3 : ∀ w', Below w2.heap.size w2 w' → w'.cell? ⟨b, 3, none⟩ = some (.slice (some ⟨g, 0, none⟩) ws1.length c1) := fun w' hb => (HB2.out.below hb).cell.cell 3
      have C4 : ∀ w', Below w2.heap.size w2 w' → w'.cell? ⟨b, 4, none⟩ = some (.int .i64 (n : Int)) := fun w' hb => (HB2.out.below hb).cell.cell 4
      have CY : ∀ w', Below w2.heap.size w2 w' → w'.cell? ⟨g, j, none⟩ = some (.int .u64 (y : Int)) := fun w' hb => (hb.cell (p := ⟨g, j, none⟩) hgl).trans cy
      have FY : ∀ w', Below w2.heap.size w2 w' → w'.frozen? ⟨g, j, none⟩ = false := fun w' hb => by
        obtain ⟨g', c', e1, hc⟩ := (HB2.out.below hb).slice HL2.out
        simp only [Value.slice.injEq, Option.some.injEq, Addr.mk.injEq, and_true, true_and] at e1
        rw [e1.1]
        exact (hc j hjl).2
      obtain ⟨k1, hk1⟩ : ∃ k1, ws1.length = k1 := ⟨_, rfl⟩
      rw [hk1] at C3 hjl
      have hix : ∀ w', (Instr.indexAt 99 (.slice (some ⟨g, 0, none⟩) k1 c1) (.int .i64 (j : Int))).run Tryz.prog w' = .ok (.pointer (some ⟨g, j, none⟩)) w' := fun w' => idx_words w' g j k1 c1 hjl
      have HK1 := Lib.hid hk1
      clear hj hi hn64 hp hz hq hW3 hyl cy fy hk1
      go_upto_region 3 with fail
      refine wp_tab (fun b1 _ w' => ∃ wx, Below w2.heap.size w2 wx ∧ w' = bif b1 then wx.setCell ⟨g, j, none⟩ (.int .u64 (z : Int)) else wx) 19 99 [3, 7, 8, 9, 10, 14, 15, 16, 17, 18, 19] [.pointer (some ⟨b, 0, none⟩), .pointer (some ⟨b, 0, none⟩), .pointer (some ⟨b, 3, none⟩), .slice (some ⟨g, 0, none⟩) k1 c1, .pointer (some ⟨b, 0, none⟩), .pointer (some ⟨b, 0, none⟩), .pointer (some ⟨b, 4, none⟩), .int .i64 (n : Int), .int .i64 (j : Int), .pointer (some ⟨g, j, none⟩), .int .u64 (y : Int), .pointer (some ⟨b, 0, none⟩), .pointer (some ⟨b, 0, none⟩), .pointer (some ⟨b, 4, none⟩), .int .i64 (n : Int), .int .i64 (i : Int), .int .u64 (q : Int), .int .u64 (z : Int), .pointer (some ⟨g, j, none⟩), undef] ⟨_, (Below.refl _ _).drew, rfl⟩
        ⟨fun b1 b2 w' f1' _ hC => ?_, fun b1 b2 w' f1' _ hC => ?_, fun b1 b2 w' f1' _ hC => ?_, fun b1 b2 w' f1' _ hC => ?_, fun b1 b2 w' f1' _ hC => ?_, fun b1 b2 w' f1' _ hC => ?_, fun b1 b2 w' f1' _ hC => ?_, fun b1 b2 w' f1' _ hC => ?_, fun b1 b2 w' f1' _ hC => ?_, fun b1 b2 w' f1' _ hC => ?_, fun b1 b2 w' f1' _ hC => ?_, trivial⟩ ?_
      · obtain rfl := f1'.no (by kernel_rfl)
        obtain ⟨wx, h1, rfl⟩ := hC
        exact .val (ex_load_of rfl rfl (ld_ws (C3 _ h1))) ⟨_, h1, rfl⟩
      · obtain rfl := f1'.no (by kernel_rfl)
        obtain ⟨wx, h1, rfl⟩ := hC
        exact .val (ex_load_of rfl rfl (ld_i (C4 _ h1))) ⟨_, h1, rfl⟩
      · obtain rfl := f1'.no (by kernel_rfl)
        exact .val (ex_quoi rfl rfl rfl (by decide) f1 f1w) hC
      · obtain rfl := f1'.no (by kernel_rfl)
        exact .val (pex_idx rfl rfl rfl (hix _)) hC
      · obtain rfl := f1'.no (by kernel_rfl)
        obtain ⟨wx, h1, rfl⟩ := hC
        exact .val (ex_load_of rfl rfl (ld_u (CY _ h1))) ⟨_, h1, rfl⟩
      · obtain rfl := f1'.no (by kernel_rfl)
        obtain ⟨wx, h1, rfl⟩ := hC
        exact .val (ex_load_of rfl rfl (ld_i (C4 _ h1))) ⟨_, h1, rfl⟩
      · obtain rfl := f1'.no (by kernel_rfl)
        exact .val (ex_remi rfl rfl rfl (by decide) f2) hC
      · obtain rfl := f1'.no (by kernel_rfl)
        exact .val (ex_shlu rfl rfl rfl hi64 hsh) hC
      · obtain rfl := f1'.no (by kernel_rfl)
        exact .val (ex_oru rfl rfl rfl hor) hC
      · obtain rfl := f1'.no (by kernel_rfl)
        exact .val (pex_idx rfl rfl rfl (hix _)) hC
      · obtain rfl := f1'.no (by kernel_rfl)
        obtain ⟨wx, h1, rfl⟩ := hC
        exact .store rfl (ex_store_of rfl rfl rfl (sv_u (FY _ h1) (CY _ h1))) ⟨_, h1, rfl⟩
      rintro w3 ⟨wx, h1, e3⟩
      have hB3 : BkW w3 b (.slice (some ⟨g, 0, none⟩) ws1.length c1) x n m (ws1.set j z) := by
        rw [e3]
        exact (HB2.out.below h1).word rfl z
      have hS3 : PenStep w w3 b (.slice a ws.length c) (.slice (some ⟨g, 0, none⟩) ws1.length c1) := by
        rw [e3]
        exact pen_set (HS2.out.trans (PenStep.below h1 (PenStep.refl _ _ _))) (.inr rfl)
      have c4 : w3.cell? ⟨b, 4, none⟩ = some (.int .i64 (n : Int)) := hB3.cell.cell 4
      have f4 := hB3.cell.free 4
      have HB3 := Lib.hid hB3
      have HS3 := Lib.hid hS3
      clear h1 e3 hB3 hS3 C3 C4 CY FY hix hor hsh f1 f2 f1w f2w
      simp only [finT, List.set_cons_zero, List.set_cons_succ, List.tail_cons, List.headD_cons]
      go_wp2_with fail
      go_end0
      refine ⟨rfl, _, ws1.set j z, ?_, HW3.out, ?_, pen_set HS3.out (.inl rfl)⟩
      · rw [HN1.out]; exact HB3.out.more n1
      · rw [List.length_set]; have := HR2.out; omega
end Go.Proofs.YthcebnfdapcllaaGreatDoor.An
namespace Go.Proofs.YthcebnfdapcllaaGreatDoor.An
open Go.RowKit Mem Sc NN.Rg2
open Pg (Pl pbit gv Ws)
set_option maxRecDepth 100000
theorem book_write {w : World} {b : Nat} {v : Value} {x : Pl} {bs : List Bool} {m : Nat} (h : BookAt w b v x bs m) (hf : bs.length < 1099511627776) (bit : Bool) : Calls Tryz.prog 71 #[.pointer (some ⟨b, 0, none⟩), .bool bit] w fun r w' => r = .returned (.tuple #[]) ∧ ∃ v', BookAt w' b v' x (bs ++ [bit]) m ∧ PenStep w w' b v v' := by
  obtain ⟨ws, ho, hw, hr⟩ := h.own
  refine (write_at ⟨h.cell, ho⟩ hw rfl hr hf bit).mono ?_
  rintro r w' ⟨hr, v', ws', hB, hW, hR, hS⟩
  have e : (bs ++ [bit]).length = bs.length + 1 := by simp
  exact ⟨hr, v', ⟨by rw [e]; exact hB.cell, ⟨ws', hB.own, hW, by rw [e]; exact hR⟩, h.good, by rw [e]; have := h.met; omega, by rw [e]; omega⟩, hS⟩
theorem new_yes (x : Pl) (hg : x.good = true) (w : World) : Calls Tryz.prog 26 #[.agg (plA x)] w fun r w' => ∃ b, r = .returned (.tuple #[.pointer (some ⟨b, 0, none⟩), .int .i64 0]) ∧ w.heap.size ≤ b ∧ BookAt w' b (.slice none 0 0) x [] 0 ∧ Below w.heap.size w w' := by
  have KG := Lib.hid (fun w' => good_at x w')
  rw [hg] at KG
  have HG := Lib.hid hg
  clear hg
  obtain ⟨s, p, o⟩ := x
  unfold plA at KG ⊢
  dsimp only at KG ⊢
  go_enter Tryz.func26, Tryz.ntmps26
  go_upto_region 1 with fail
  generalize hw0 : World.alloc _ _ = v0
  have hB : Below w.heap.size w v0 := by rw [← hw0]; exact (Below.refl _ _).alloc (Nat.le_refl _) _
  have hP : Has v0 w.heap.size #[.int .i64 s, .int .i64 p, .int .i64 o] 35 := by rw [← hw0]; exact Has.new _ _
  have c0 : v0.cell? ⟨w.heap.size, 0, none⟩ = some (.int .i64 s) := hP.cell 0
  have c1 : v0.cell? ⟨w.heap.size, 1, none⟩ = some (.int .i64 p) := hP.cell 1
  have c2 : v0.cell? ⟨w.heap.size, 2, none⟩ = some (.int .i64 o) := hP.cell 2
  clear hw0
  go_wp2_with fail
  refine (KG.out _).mono ?_
  rintro r v1 ⟨rfl, hb⟩
  replace hP := below_has hb hP hP.lt
  replace hB := hB.trans (hb.mono hB.size)
  replace c0 : v1.cell? ⟨w.heap.size, 0, none⟩ = some (.int .i64 s) := hP.cell 0
  replace c1 : v1.cell? ⟨w.heap.size, 1, none⟩ = some (.int .i64 p) := hP.cell 1
  replace c2 : v1.cell? ⟨w.heap.size, 2, none⟩ = some (.int .i64 o) := hP.cell 2
  clear hb
  go_wp2_with fail
  go_ret2
  exact ⟨_, rfl, hB.size, ⟨Has.new _ _, ⟨[], World.ownsRow_nil _ _ _ _, Ws.nil, by simp⟩, HG.out, Nat.le_refl _, by simp⟩, hB.alloc hB.size _⟩
end Go.Proofs.YthcebnfdapcllaaGreatDoor.An
namespace Go.Proofs.YthcebnfdapcllaaGreatDoor.An
open Go.RowKit Mem Sc NN.Rg2
open Pg (Pl pbit gv Ws)
set_option maxRecDepth 100000
end Go.Proofs.YthcebnfdapcllaaGreatDoor.An
