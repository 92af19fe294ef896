import Derived.Test.YtggnnlefalcplaaDoorRows
import Derived.Test.YtggnnlefalcplaaDoorDigSpread
namespace Go.Proofs.YtggnnlefalcplaaDoor
open Go.RowKit Mem Sha
attribute [local go_sem] Wd.not Wd.not' Wd.notSub Wd.add Wd.and Wd.or Wd.xor Wd.shl Wd.shr Wd.shl8 Wd.shr3 Wd.shr10 Wd.byte Wd.orByte

/-- the tables hold what the program's text says -/
structure Tab (w : World) : Prop where
  k : ∀ i, i < 64 → w.cell? ⟨4, i, none⟩ = some (.int .u32 (Wd.n (kAt i)))
  s : ∀ i, i < 8 → w.cell? ⟨1, i, none⟩ = some (.int .u32 (Wd.n (Sha.start.at i)))
theorem Tab.of {w w' : World} (h : Tab w) (h1 : w'.heap[4]? = w.heap[4]?) (h2 : w'.heap[1]? = w.heap[1]?) : Tab w' where
  k i hi := (World.cell?_of_block (a := ⟨4, i, none⟩) h1).trans (h.k i hi)
  s i hi := (World.cell?_of_block (a := ⟨1, i, none⟩) h2).trans (h.s i hi)
theorem Tab.lt {w : World} (h : Tab w) : 4 < w.heap.size ∧ 1 < w.heap.size := ⟨block_lt_of_cell (h.k 0 (by omega)), block_lt_of_cell (h.s 0 (by omega))⟩
theorem Tab.grown {w w' : World} (h : Tab w) {r : Option Nat} (hg : w.grownBy w' r) (h1 : some 4 ≠ r) (h2 : some 1 ≠ r) : Tab w' :=
  h.of (hg.block _ h.lt.1 h1) (hg.block _ h.lt.2 h2)
theorem Tab.below {w w' : World} (h : Tab w) (hg : Below w.heap.size w w') : Tab w' := h.of (hg.block _ h.lt.1) (hg.block _ h.lt.2)

/-- what stands while the rounds go on -/
structure Sti (w wr : World) (b wb : Nat) (f : Nat → W32) (l : List UInt8) (t : Nat) : Prop where
  below : Below w.heap.size w wr
  wrd : Has wr wb (words (sched (blockWord l)) 64) 100
  hsh : Has wr b (hcells f l t) 113
  tab : Tab wr
theorem Sti.drewN {w wr : World} {b wb : Nat} {f : Nat → W32} {l : List UInt8} {t : Nat} (h : Sti w wr b wb f l t) (n : Nat) : Sti w (wr.drewN n) b wb f l t :=
  ⟨below_drewN h.below n, h.wrd.drewN n, h.hsh.drewN n, h.tab.of rfl rfl⟩
theorem Sti.drewN2 {w wr : World} {b wb : Nat} {f : Nat → W32} {l : List UInt8} {t : Nat} (h : Sti w wr b wb f l t) (n m : Nat) : Sti w ((wr.drewN n).drewN m) b wb f l t := (h.drewN n).drewN m
set_option maxRecDepth 100000 in
theorem index8 (st : S8) (k : Nat) (hk : k < 8) (w : World) :
    (Instr.index 99 (.agg #[.int .u32 (Wd.n st.a), .int .u32 (Wd.n st.b), .int .u32 (Wd.n st.c), .int .u32 (Wd.n st.d), .int .u32 (Wd.n st.e), .int .u32 (Wd.n st.f), .int .u32 (Wd.n st.g), .int .u32 (Wd.n st.h)]) (.int .i64 (k : Int))).run Tryd.prog w = .ok (.int .u32 (Wd.n (st.at k))) w := by
  obtain rfl | rfl | rfl | rfl | rfl | rfl | rfl | rfl : k = 0 ∨ k = 1 ∨ k = 2 ∨ k = 3 ∨ k = 4 ∨ k = 5 ∨ k = 6 ∨ k = 7 := by omega
  all_goals rfl
/-- what stands while the sums are written -/
structure Stw (w wr : World) (b : Nat) (f : Nat → W32) (st : S8) (l : List UInt8) (t : Nat) (k : Nat) : Prop where
  grown : w.grownBy wr (some b)
  hsh : ∃ g, Has wr b (hcells g l t) 113 ∧ (∀ j, j < k → g j = f j + st.at j) ∧ (∀ j, k ≤ j → g j = f j)
theorem Stw.next {w wr : World} {b : Nat} {f : Nat → W32} {st : S8} {l : List UInt8} {t k : Nat} (h : Stw w wr b f st l t k) (hk : k < 8) {g : Nat → W32} (hg : Has wr b (hcells g l t) 113)
    (h1 : ∀ j, j < k → g j = f j + st.at j) (h2 : ∀ j, k ≤ j → g j = f j) : Stw w (wr.setCell ⟨b, k, none⟩ (.int .u32 (Wd.n (g k + st.at k)))).drew b f st l t (k + 1) where
  grown := gb_drewN (gb_setCell h.grown _ _) 1
  hsh := by
    refine ⟨_, by have := (hg.set (i := k) (.int .u32 (Wd.n (g k + st.at k)))).drew; rw [hcells_setState _ _ _ _ _ hk] at this; exact this, fun j hj => ?_, fun j hj => ?_⟩
    · unfold upd
      by_cases e : j = k
      · rw [if_pos e, e, h2 k (Nat.le_refl _)]
      · rw [if_neg e]; exact h1 j (by omega)
    · unfold upd
      rw [if_neg (by omega)]; exact h2 j (by omega)
theorem rounds_next {st s : S8} {w : Nat → W32} {k : Nat} (h : st = rounds s w k) :
    Hid ((⟨st.h + (BitVec.rotateRight st.e 6 ^^^ BitVec.rotateRight st.e 11 ^^^ BitVec.rotateRight st.e 25) + (st.e &&& st.f ||| ~~~st.e &&& st.g) + kAt k + w k +
      ((BitVec.rotateRight st.a 2 ^^^ BitVec.rotateRight st.a 13 ^^^ BitVec.rotateRight st.a 22) + (st.a &&& st.b ||| st.a &&& st.c ||| st.b &&& st.c)), st.a, st.b, st.c,
      st.d + (st.h + (BitVec.rotateRight st.e 6 ^^^ BitVec.rotateRight st.e 11 ^^^ BitVec.rotateRight st.e 25) + (st.e &&& st.f ||| ~~~st.e &&& st.g) + kAt k + w k), st.e, st.f, st.g⟩ : S8) = rounds s w (k + 1)) := by
  rw [h]; exact (rfl : _ = _)
set_option maxRecDepth 100000 in
set_option maxHeartbeats 1000000 in
theorem stir (b : Nat) (f : Nat → W32) (l : List UInt8) (t : Nat) (hl : l.length = 64) (w : World) (hT : Tab w) (hH : Has w b (hcells f l t) 113) :
    Calls Tryd.prog 76 #[.pointer (some ⟨b, 0, none⟩)] w fun e w' => e = .returned (.tuple #[]) ∧ w.grownBy w' (some b) ∧ Has w' b (hcells (press (S8.of f) l).at l t) 113 := by
  have hrange : w.rangeAt b 8 (l.map fun b => Value.int .u8 (b.toNat : Int)) := fun j v hv => by
    have hj : j < l.length := by
      by_cases h : j < l.length
      · exact h
      · rw [List.getElem?_eq_none (by simpa using h)] at hv; cases hv
    rw [hH.cell, hcells_rest f l t j hj]
    simpa [hj] using hv
  have HR := Lib.hid hrange
  clear hrange
  go_enter Tryd.func76, Tryd.ntmps76
  go_wp2_with (first
    | (with_reducible refine wpList_load_mid rfl 111 _ rfl b 8 rfl (l.map fun b => Value.int .u8 (b.toNat : Int)) _ HR.out Tryd.underlying111 rfl (by rw [List.length_map, hl]; exact info48) ?_)
    | (go_at_call 78; refine (spread l hl _).mono ?_; rintro e w1 ⟨rfl, hbel⟩)
    | (with_reducible refine wpList_store_row rfl 100 _ _ rfl w1.heap.size (words (sched (blockWord l)) 64) rfl rfl 100 _ (heap_alloc_new w1 _) (by rw [words_size]; exact info44) (by simp [words_size]) (words_one _ _) ?_))
  generalize hw2 : World.setRow _ _ _ = w2
  have hbw : Below w.heap.size w w2 := by rw [← hw2]; exact below_setRow (hbel.alloc hbel.size _) hbel.size _
  have hWs : Has w2 w1.heap.size (words (sched (blockWord l)) 64) 100 := by rw [← hw2]; exact (Has.new _ _).row _
  have hge : w.heap.size ≤ w1.heap.size := hbel.size
  clear hw2 hbel HR
  have hH2 := below_has hbw hH hH.lt
  have hT2 := hT.below hbw
  generalize w1.heap.size = wb at *
  clear w1
  have c0 := (hH2.cell 0).trans (hcells_state f l t 0 (by omega))
  have c1 := (hH2.cell 1).trans (hcells_state f l t 1 (by omega))
  have c2 := (hH2.cell 2).trans (hcells_state f l t 2 (by omega))
  have c3 := (hH2.cell 3).trans (hcells_state f l t 3 (by omega))
  have c4 := (hH2.cell 4).trans (hcells_state f l t 4 (by omega))
  have c5 := (hH2.cell 5).trans (hcells_state f l t 5 (by omega))
  have c6 := (hH2.cell 6).trans (hcells_state f l t 6 (by omega))
  have c7 := (hH2.cell 7).trans (hcells_state f l t 7 (by omega))
  go_quiet (fail)
  go_wp2_with fail
  go_quiet (fail)
  go_wp2_with fail
  clear c0 c1 c2 c3 c4 c5 c6 c7
  go_loopw [3, 4, 5, 6, 7, 8, 9, 10, 61] (fun s3 s4 s5 s6 s7 s8 s9 s10 i wr => ∃ (k : Nat) (st : S8), k ≤ 64 ∧ i = .int .i64 k ∧ Hid (st = rounds (S8.of f) (sched (blockWord l)) k) ∧ Sti w wr b wb f l t ∧
      s3 = .int .u32 (Wd.n st.a) ∧ s4 = .int .u32 (Wd.n st.b) ∧ s5 = .int .u32 (Wd.n st.c) ∧ s6 = .int .u32 (Wd.n st.d) ∧ s7 = .int .u32 (Wd.n st.e) ∧ s8 = .int .u32 (Wd.n st.f) ∧ s9 = .int .u32 (Wd.n st.g) ∧ s10 = .int .u32 (Wd.n st.h))
    (fun _ _ _ _ _ _ _ _ i _ => 64 - (intOf i).toNat)
  case atStart => exact ⟨0, S8.of f, by omega, rfl, rfl, (⟨hbw, hWs, hH2, hT2⟩ : Sti w w2 b wb f l t).drewN2 _ _, rfl, rfl, rfl, rfl, rfl, rfl, rfl, rfl⟩
  case round =>
    obtain ⟨k, st, hk, rfl, HS, hi, rfl, rfl, rfl, rfl, rfl, rfl, rfl, rfl⟩ := hrel
    by_cases hlt : k < 64
    · have ck := hi.tab.k k hlt
      have cw := hi.wrd.word k hlt
      go_wp2_with fail
      go_quiet ((go_at_call 79; exact quiet_eq (three _ _ _ _ (by omega) (by omega) (by omega) (by omega) (by omega) (by omega) _)))
      have hi2 := hi.drewN nq
      clear ck cw
      go_wp2_with (go_at_call 79; (with_reducible refine (three _ _ _ _ (by omega) (by omega) (by omega) (by omega) (by omega) (by omega) _).mono ?_); rintro e w' ⟨rfl, rfl⟩)
      go_roundw
      case rel =>
        refine ⟨k + 1, ⟨_, _, _, _, _, _, _, _⟩, by omega, by go_num, ?hs, hi2, rfl, rfl, rfl, rfl, rfl, rfl, rfl, rfl⟩
        exact rounds_next HS.out
      case measure => simp [intOf]; omega
    · obtain rfl : k = 64 := by omega
      go_wp2_with fail
      go_loopw [121] (fun i wr => ∃ k : Nat, k ≤ 8 ∧ i = .int .i64 k ∧ Stw w wr b f st l t k) (fun i _ => 8 - (intOf i).toNat)
      case atStart => exact ⟨0, by omega, rfl, gb_below hi.below _, f, hi.hsh, fun j hj => absurd hj (by omega), fun _ _ => rfl⟩
      case round =>
        obtain ⟨k, hk, rfl, hs⟩ := hrel
        obtain ⟨g, hg, h1, h2⟩ := hs.hsh
        by_cases hlt : k < 8
        · have H1 := Lib.hid h1
          have H2 := Lib.hid h2
          clear h1 h2
          have hidx := index8 st k hlt
          have ck := (hg.cell k).trans (hcells_state g l t k hlt)
          have cf := hg.free k
          go_wp2_with fail
          go_region
          go_wp2_with fail
          exact ⟨⟨k + 1, by omega, by go_num, hs.next hlt hg H1.out H2.out⟩, by simp [intOf]; omega⟩
        · obtain rfl : k = 8 := by omega
          have e : hcells g l t = hcells (press (S8.of f) l).at l t := hcells_congr (fun j hj => by
            rw [h1 j hj, press, ← HS.out]
            match j, hj with
            | 0, _ => rfl
            | 1, _ => rfl
            | 2, _ => rfl
            | 3, _ => rfl
            | 4, _ => rfl
            | 5, _ => rfl
            | 6, _ => rfl
            | 7, _ => rfl) l t
          rw [e] at hg
          clear h1 h2 e
          go_wp2_with fail
          go_end0
          exact ⟨rfl, hs.grown, hg⟩
end Go.Proofs.YtggnnlefalcplaaDoor
