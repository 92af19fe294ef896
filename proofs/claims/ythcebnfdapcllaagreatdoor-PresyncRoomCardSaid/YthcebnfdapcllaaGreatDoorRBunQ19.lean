import Derived.Test.YthcebnfdapcllaaGreatDoorRows
import Derived.Test.YthcebnfdapcllaaGreatDoorRMem
import Derived.Test.YthcebnfdapcllaaGreatDoorRDigTurn
import Derived.BigQuiet
import Derived.Deep.QuietTactic
namespace Go.Proofs.YthcebnfdapcllaaGreatDoor
open Go.RowKit Mem Sha
attribute [local go_sem] Wd.add Wd.and Wd.or Wd.xor Wd.shl Wd.shr Wd.shl8 Wd.shr3 Wd.shr10 Wd.byte Wd.orByte
abbrev zeros64 : Array Value := words (fun _ => 0) 64
structure Spr (w wr : World) (l : List UInt8) (k : Nat) (j : Nat) : Prop where
  below : Below w.heap.size w wr
  src : Has wr w.heap.size (bytesV l) 167
  res : Has wr (w.heap.size + 1) zeros64 188
  arr : ∃ f, Has wr (w.heap.size + 1 + 1) (words f 64) 188 ∧ (∀ i, i < k → f i = blockWord l i) ∧ f k = wordOf ((l.drop (4 * k)).take j) ∧ (∀ i, k < i → f i = 0)
theorem size1 (w : World) : (sizeOf 5).run Tryz.prog w = .ok 1 w := by kernel_rfl
theorem info48 : (Tryz.prog.info? 167).map (·.size) = some 64 := by kernel_rfl
theorem info44 : (Tryz.prog.info? 188).map (·.size) = some 64 := by kernel_rfl
theorem Spr.next {w wr : World} {l : List UInt8} {k j : Nat} (h : Spr w wr l k j) (hl : l.length = 64) (hk : k < 16) {f : Nat → W32} (hf : Has wr (w.heap.size + 1 + 1) (words f 64) 188)
    (h1 : ∀ i, i < k → f i = blockWord l i) (h2 : f k = wordOf ((l.drop (4 * k)).take j)) (h3 : ∀ i, k < i → f i = 0) (hh : 4 * k + j < l.length) :
    Spr w (wr.setCell ⟨w.heap.size + 1 + 1, k, none⟩ (.int .u32 (Wd.n (f k <<< 8 ||| Wd.ofByte l[4 * k + j])))) l k (j + 1) where
  below := h.below.setCell (by simp; omega) _
  src := h.src.other _ _ (by simp; omega)
  res := h.res.other _ _ (by simp)
  arr := by
    refine ⟨_, hf.setWord _, fun i hi => ?_, ?_, fun i hi => ?_⟩
    · unfold upd; rw [if_neg (by omega)]; exact h1 i hi
    · unfold upd
      rw [if_pos rfl, h2, List.take_succ_eq_append_getElem (by simp; omega)]
      simp [wordOf, List.foldl_append]
    · unfold upd; rw [if_neg (by omega)]; exact h3 i hi
theorem Spr.word {w wr : World} {l : List UInt8} {k : Nat} (h : Spr w wr l k 4) : Spr w wr l (k + 1) 0 where
  below := h.below
  src := h.src
  res := h.res
  arr := by
    obtain ⟨f, hf, h1, h2, h3⟩ := h.arr
    refine ⟨f, hf, fun i hi => ?_, ?_, fun i hi => h3 i (by omega)⟩
    · by_cases e : i = k
      · subst e; exact h2
      · exact h1 i (by omega)
    · rw [h3 (k + 1) (by omega)]; simp [wordOf]
structure Spt (w wr : World) (l : List UInt8) (k : Nat) : Prop where
  below : Below w.heap.size w wr
  res : Has wr (w.heap.size + 1) zeros64 188
  arr : ∃ f, Has wr (w.heap.size + 1 + 1) (words f 64) 188 ∧ (∀ i, i < k → f i = sched (blockWord l) i)
theorem Spr.done {w wr : World} {l : List UInt8} (h : Spr w wr l 16 0) : Spt w wr l 16 where
  below := h.below
  res := h.res
  arr := by
    obtain ⟨f, hf, h1, _, _⟩ := h.arr
    exact ⟨f, hf, fun i hi => by rw [h1 i hi, sched_first _ _ hi]⟩
theorem Spt.next {w wr : World} {l : List UInt8} {k : Nat} (h : Spt w wr l k) (hk : 16 ≤ k) (hk2 : k < 64) {f : Nat → W32} (hf : Has wr (w.heap.size + 1 + 1) (words f 64) 188)
    (h1 : ∀ i, i < k → f i = sched (blockWord l) i) (m : Nat) :
    Spt w ((wr.drewN m).setCell ⟨w.heap.size + 1 + 1, k, none⟩ (.int .u32 (Wd.n (f (k - 16) + (BitVec.rotateRight (f (k - 15)) 7 ^^^ BitVec.rotateRight (f (k - 15)) 18 ^^^ f (k - 15) >>> 3) + f (k - 7) +
      (BitVec.rotateRight (f (k - 2)) 17 ^^^ BitVec.rotateRight (f (k - 2)) 19 ^^^ f (k - 2) >>> 10))))) l (k + 1) where
  below := (below_drewN h.below m).setCell (by simp; omega) _
  res := (h.res.drewN m).other _ _ (by simp)
  arr := by
    refine ⟨_, (hf.drewN m).setWord _, fun i hi => ?_⟩
    unfold upd
    by_cases e : i = k
    · rw [if_pos e, e, sched_next _ k hk hk2, h1 _ (by omega), h1 _ (by omega), h1 _ (by omega), h1 _ (by omega)]
      rfl
    · rw [if_neg e]; exact h1 i (by omega)
set_option maxRecDepth 100000 in
theorem Spr.start (w : World) (l : List UInt8) : Spr w (((w.alloc (.cells (bytesV l) 167)).alloc (.cells zeros64 188)).alloc (.cells zeros64 188)) l 0 0 where
  below := (((Below.refl _ _).alloc (Nat.le_refl _) _).alloc (by simp) _).alloc (by simp; omega) _
  src := ((Has.new _ _).alloc _).alloc _
  res := by
    have := (Has.new (w := w.alloc (.cells (bytesV l) 167)) zeros64 188).alloc (.cells zeros64 188)
    simpa using this
  arr := by
    have := Has.new (w := (w.alloc (.cells (bytesV l) 167)).alloc (.cells zeros64 188)) zeros64 188
    rw [World.size_alloc, World.size_alloc] at this
    exact ⟨_, this, fun i hi => absurd hi (by omega), by simp [wordOf], fun _ _ => rfl⟩
set_option maxRecDepth 100000 in
set_option maxHeartbeats 400000 in
theorem spread (l : List UInt8) (hl : l.length = 64) (w : World) :
    Calls Tryz.prog 138 #[.agg (bytesV l)] w fun e w' => e = .returned (.agg (words (sched (blockWord l)) 64)) ∧ Below w.heap.size w w' := by
  go_enter Tryz.func138, Tryz.ntmps138
  go_wp2_with fail
  go_loopw [10] (fun i wr => ∃ k : Nat, k ≤ 16 ∧ i = .int .i64 k ∧ Spr w wr l k 0) (fun i _ => 16 - (intOf i).toNat)
  case atStart => exact ⟨0, by omega, rfl, Spr.start w l⟩
  case round =>
    obtain ⟨k, hk, rfl, hs⟩ := hrel
    by_cases hlt : k < 16
    · have hsl : ∀ w', (Instr.sliceAt 167 (.pointer (some ⟨w.heap.size, 0, none⟩)) (some (.int .i64 (4 * (k : Int)))) (some (.int .i64 (4 * (k : Int) + 4))) none).run Tryz.prog w' = .ok (.slice (some ⟨w.heap.size, 4 * k, none⟩) 4 (64 - 4 * k)) w' := fun w' => by
        have := arr_slice_lh (P := Tryz.prog) 167 5 64 w.heap.size (4 * k) (4 * k + 4) Tryz.underlying167 size1 (by omega) (by omega) (by omega) w'
        rw [show 4 * k + 4 - 4 * k = 4 by omega] at this
        simpa using this
      go_wp2_with fail
      clear hsl
      go_loopw [20] (fun i wr => ∃ j : Nat, j ≤ 4 ∧ i = .int .i64 j ∧ Spr w wr l k j) (fun i _ => 4 - (intOf i).toNat)
      case atStart => exact ⟨0, by omega, rfl, hs⟩
      case round =>
        obtain ⟨j, hj, rfl, ht⟩ := hrel
        by_cases hjl : j < 4
        · obtain ⟨f, hf, h1, h2, h3⟩ := ht.arr
          have c1 := ht.src.byte (4 * k + j) (by omega)
          have c2 := hf.word k (by omega)
          have c3 := hf.free k
          have HH := Lib.hid h2
          have H1 := Lib.hid h1
          have H3 := Lib.hid h3
          clear h1 h2 h3
          go_wp2_with fail
          go_roundw
          case rel =>
            exact ⟨j + 1, by omega, by go_num, ht.next hl hlt hf H1.out HH.out H3.out (by omega)⟩
          case measure => simp [intOf]; omega
        · obtain rfl : j = 4 := by omega
          go_wp2_with fail
          go_roundw
          case rel => exact ⟨k + 1, by omega, by go_num, ht.word⟩
          case measure => simp [intOf]; omega
    · obtain rfl : k = 16 := by omega
      have ht := hs.done
      clear hs
      go_wp2_with fail
      go_loopw [7] (fun i wr => ∃ k : Nat, 16 ≤ k ∧ k ≤ 64 ∧ i = .int .i64 k ∧ Spt w wr l k) (fun i _ => 64 - (intOf i).toNat)
      case atStart => exact ⟨16, by omega, by omega, rfl, ht⟩
      case round =>
        obtain ⟨k, hk16, hk, rfl, hs⟩ := hrel
        obtain ⟨f, hf, h1⟩ := hs.arr
        have H1 := Lib.hid h1
        clear h1
        by_cases hlt : k < 64
        · have c1 := hf.word (k - 15) (by omega)
          have c2 := hf.word (k - 2) (by omega)
          have c3 := hf.word (k - 16) (by omega)
          have c4 := hf.word (k - 7) (by omega)
          have c5 := hf.free k
          have b1 : IntKind.i64.wrap ((k : Int) - 15) = (k : Int) - 15 := IntWalk.i64_in _ (by omega)
          have b2 : IntKind.i64.wrap ((k : Int) - 2) = (k : Int) - 2 := IntWalk.i64_in _ (by omega)
          have b3 : IntKind.i64.wrap ((k : Int) - 16) = (k : Int) - 16 := IntWalk.i64_in _ (by omega)
          have b4 : IntKind.i64.wrap ((k : Int) - 7) = (k : Int) - 7 := IntWalk.i64_in _ (by omega)
          have a1 : (0 : Int) ≤ (k : Int) - 15 := by omega
          have a2 : (0 : Int) ≤ (k : Int) - 2 := by omega
          have a3 : (0 : Int) ≤ (k : Int) - 16 := by omega
          have a4 : (0 : Int) ≤ (k : Int) - 7 := by omega
          have t1 : ((k : Int) - 15).toNat = k - 15 := by omega
          have t2 : ((k : Int) - 2).toNat = k - 2 := by omega
          have t3 : ((k : Int) - 16).toNat = k - 16 := by omega
          have t4 : ((k : Int) - 7).toNat = k - 7 := by omega
          have l1 : (k : Int) - 15 < 64 := by omega
          have l2 : (k : Int) - 2 < 64 := by omega
          have l3 : (k : Int) - 16 < 64 := by omega
          have l4 : (k : Int) - 7 < 64 := by omega
          go_wp2_with fail
          go_quiet ((go_at_call 149; exact quiet_eq (turned _ _ (by omega) (by omega) _)))
          replace c2 := (hf.drewN nq).word (k - 2) (by omega)
          replace c3 := (hf.drewN nq).word (k - 16) (by omega)
          replace c4 := (hf.drewN nq).word (k - 7) (by omega)
          replace c5 := (hf.drewN nq).free k
          have c6 := (hf.drewN nq).word k (by omega)
          generalize hw1 : wr.drewN nq = w1 at c2 c3 c4 c5 c6
          have HW1 := Lib.hid hw1
          clear hw1 c1
          go_wp2_with fail
          go_quiet ((go_at_call 149; exact quiet_eq (turned _ _ (by omega) (by omega) _)))
          go_wp2_with fail
          go_region
          go_wp2_with fail
          refine ⟨?_, by simp [intOf]; omega⟩
          have hw2 : ∃ m, w1.drewN (nq + 1) = wr.drewN m := ⟨_, by rw [← HW1.out, World.drewN_drewN]⟩
          obtain ⟨m, hm⟩ := hw2
          rw [hm]
          exact ⟨k + 1, by omega, by omega, by go_num, hs.next hk16 hlt hf H1.out m⟩
        · obtain rfl : k = 64 := by omega
          have hres := hs.res
          have hbel := hs.below
          rw [words_congr H1.out] at hf
          clear H1 hs
          have hz : (words (sched (blockWord l)) 64).all (·.oneCell') = true := words_one _ _
          have hsz : some (words (sched (blockWord l)) 64).size = some 64 := by rw [words_size]
          have HZ := Lib.hid hz
          have HS := Lib.hid hsz
          clear hz hsz
          generalize hcs : words (sched (blockWord l)) 64 = cs at *
          go_wp2_with (first
            | (with_reducible refine wpList_load_row rfl 188 _ rfl _ rfl 188 cs (0, 0) _ hf.out Tryz.underlying188 rfl (info44.trans HS.out.symm) ?_)
            | (with_reducible refine wpList_store_row rfl 188 _ _ rfl _ _ rfl rfl 188 _ hres.out (info44.trans HS.out.symm) (by rw [words_size]; exact (Option.some.inj HS.out).symm) HZ.out ?_))
          exact bodyPost_ret (v := .agg cs) (results_cell_row Tryz.results138 _ _ (w.heap.size + 1) 188 cs (0, 0) _ rfl (hres.row cs).out Tryz.underlying188 rfl (info44.trans HS.out.symm)) rfl ⟨by rw [hcs], below_setRow hbel (by omega) _⟩
end Go.Proofs.YthcebnfdapcllaaGreatDoor
namespace Go.Proofs.YthcebnfdapcllaaGreatDoor
open Go.RowKit Mem Sha
attribute [local go_sem] Wd.not Wd.not' Wd.notSub Wd.add Wd.and Wd.or Wd.xor Wd.shl Wd.shr Wd.shl8 Wd.shr3 Wd.shr10 Wd.byte Wd.orByte
structure Tab (w : World) : Prop where
  k : ∀ i, i < 64 → w.cell? ⟨1, i, none⟩ = some (.int .u32 (Wd.n (kAt i)))
  s : ∀ i, i < 8 → w.cell? ⟨0, i, none⟩ = some (.int .u32 (Wd.n (Sha.start.at i)))
theorem Tab.of {w w' : World} (h : Tab w) (h1 : w'.heap[1]? = w.heap[1]?) (h2 : w'.heap[0]? = w.heap[0]?) : Tab w' where
  k i hi := (World.cell?_of_block (a := ⟨1, i, none⟩) h1).trans (h.k i hi)
  s i hi := (World.cell?_of_block (a := ⟨0, i, none⟩) h2).trans (h.s i hi)
theorem Tab.lt {w : World} (h : Tab w) : 1 < w.heap.size ∧ 0 < w.heap.size := ⟨block_lt_of_cell (h.k 0 (by omega)), block_lt_of_cell (h.s 0 (by omega))⟩
theorem Tab.grown {w w' : World} (h : Tab w) {r : Option Nat} (hg : w.grownBy w' r) (h1 : some 1 ≠ r) (h2 : some 0 ≠ r) : Tab w' :=
  h.of (hg.block _ h.lt.1 h1) (hg.block _ h.lt.2 h2)
theorem Tab.below {w w' : World} (h : Tab w) (hg : Below w.heap.size w w') : Tab w' := h.of (hg.block _ h.lt.1) (hg.block _ h.lt.2)
structure Sti (w wr : World) (b wb : Nat) (f : Nat → W32) (l : List UInt8) (t : Nat) : Prop where
  below : Below w.heap.size w wr
  wrd : Has wr wb (words (sched (blockWord l)) 64) 188
  hsh : Has wr b (hcells f l t) 169
  tab : Tab wr
theorem Sti.drewN {w wr : World} {b wb : Nat} {f : Nat → W32} {l : List UInt8} {t : Nat} (h : Sti w wr b wb f l t) (n : Nat) : Sti w (wr.drewN n) b wb f l t :=
  ⟨below_drewN h.below n, h.wrd.drewN n, h.hsh.drewN n, h.tab.of rfl rfl⟩
theorem Sti.drewN2 {w wr : World} {b wb : Nat} {f : Nat → W32} {l : List UInt8} {t : Nat} (h : Sti w wr b wb f l t) (n m : Nat) : Sti w ((wr.drewN n).drewN m) b wb f l t := (h.drewN n).drewN m
set_option maxRecDepth 100000 in
theorem index8 (st : S8) (k : Nat) (hk : k < 8) (w : World) :
    (Instr.index 166 (.agg #[.int .u32 (Wd.n st.a), .int .u32 (Wd.n st.b), .int .u32 (Wd.n st.c), .int .u32 (Wd.n st.d), .int .u32 (Wd.n st.e), .int .u32 (Wd.n st.f), .int .u32 (Wd.n st.g), .int .u32 (Wd.n st.h)]) (.int .i64 (k : Int))).run Tryz.prog w = .ok (.int .u32 (Wd.n (st.at k))) w := by
  obtain rfl | rfl | rfl | rfl | rfl | rfl | rfl | rfl : k = 0 ∨ k = 1 ∨ k = 2 ∨ k = 3 ∨ k = 4 ∨ k = 5 ∨ k = 6 ∨ k = 7 := by omega
  all_goals rfl
structure Stw (w wr : World) (b : Nat) (f : Nat → W32) (st : S8) (l : List UInt8) (t : Nat) (k : Nat) : Prop where
  grown : w.grownBy wr (some b)
  hsh : ∃ g, Has wr b (hcells g l t) 169 ∧ (∀ j, j < k → g j = f j + st.at j) ∧ (∀ j, k ≤ j → g j = f j)
theorem Stw.next {w wr : World} {b : Nat} {f : Nat → W32} {st : S8} {l : List UInt8} {t k : Nat} (h : Stw w wr b f st l t k) (hk : k < 8) {g : Nat → W32} (hg : Has wr b (hcells g l t) 169)
    (h1 : ∀ j, j < k → g j = f j + st.at j) (h2 : ∀ j, k ≤ j → g j = f j) : Stw w (wr.setCell ⟨b, k, none⟩ (.int .u32 (Wd.n (g k + st.at k)))).drew b f st l t (k + 1) where
  grown := gb_drewN (gb_setCell h.grown _ _) 1
  hsh := by
    refine ⟨_, by have := (hg.set (i := k) (.int .u32 (Wd.n (g k + st.at k)))).drew; rw [hcells_setState _ _ _ _ _ hk] at this; exact this, fun j hj => ?_, fun j hj => ?_⟩
    · unfold upd
      by_cases e : j = k
      · rw [if_pos e, e, h2 k (Nat.le_refl _)]
      · rw [if_neg e]; exact h1 j (by omega)
    · unfold upd
      rw [if_neg (by omega)]; exact h2 j (by omega)
theorem rounds_next {st s : S8} {w : Nat → W32} {k : Nat} (h : st = rounds s w k) :
    Hid ((⟨st.h + (BitVec.rotateRight st.e 6 ^^^ BitVec.rotateRight st.e 11 ^^^ BitVec.rotateRight st.e 25) + (st.e &&& st.f ||| ~~~st.e &&& st.g) + kAt k + w k +
      ((BitVec.rotateRight st.a 2 ^^^ BitVec.rotateRight st.a 13 ^^^ BitVec.rotateRight st.a 22) + (st.a &&& st.b ||| st.a &&& st.c ||| st.b &&& st.c)), st.a, st.b, st.c,
      st.d + (st.h + (BitVec.rotateRight st.e 6 ^^^ BitVec.rotateRight st.e 11 ^^^ BitVec.rotateRight st.e 25) + (st.e &&& st.f ||| ~~~st.e &&& st.g) + kAt k + w k), st.e, st.f, st.g⟩ : S8) = rounds s w (k + 1)) := by
  rw [h]; exact (rfl : _ = _)
set_option maxRecDepth 100000 in
set_option maxHeartbeats 1000000 in
theorem stir (b : Nat) (f : Nat → W32) (l : List UInt8) (t : Nat) (hl : l.length = 64) (w : World) (hT : Tab w) (hH : Has w b (hcells f l t) 169) :
    Calls Tryz.prog 127 #[.pointer (some ⟨b, 0, none⟩)] w fun e w' => e = .returned (.tuple #[]) ∧ w.grownBy w' (some b) ∧ Has w' b (hcells (press (S8.of f) l).at l t) 169 := by
  have hrange : w.rangeAt b 8 (l.map fun b => Value.int .u8 (b.toNat : Int)) := fun j v hv => by
    have hj : j < l.length := by
      by_cases h : j < l.length
      · exact h
      · rw [List.getElem?_eq_none (by simpa using h)] at hv; cases hv
    rw [hH.cell, hcells_rest f l t j hj]
    simpa [hj] using hv
  have HR := Lib.hid hrange
  clear hrange
  go_enter Tryz.func127, Tryz.ntmps127
  go_wp2_with (first
    | (with_reducible refine wpList_load_mid rfl 167 _ rfl b 8 rfl (l.map fun b => Value.int .u8 (b.toNat : Int)) _ HR.out Tryz.underlying167 rfl (by rw [List.length_map, hl]; exact info48) ?_)
    | (go_at_call 138; refine (spread l hl _).mono ?_; rintro e w1 ⟨rfl, hbel⟩)
    | (with_reducible refine wpList_store_row rfl 188 _ _ rfl w1.heap.size (words (sched (blockWord l)) 64) rfl rfl 188 _ (heap_alloc_new w1 _) (by rw [words_size]; exact info44) (by simp [words_size]) (words_one _ _) ?_))
  generalize hw2 : World.setRow _ _ _ = w2
  have hbw : Below w.heap.size w w2 := by rw [← hw2]; exact below_setRow (hbel.alloc hbel.size _) hbel.size _
  have hWs : Has w2 w1.heap.size (words (sched (blockWord l)) 64) 188 := by rw [← hw2]; exact (Has.new _ _).row _
  have hge : w.heap.size ≤ w1.heap.size := hbel.size
  clear hw2 hbel HR
  have hH2 := below_has hbw hH hH.lt
  have hT2 := hT.below hbw
  generalize w1.heap.size = wb at *
  clear w1
  have c0 := (hH2.cell 0).trans (hcells_state f l t 0 (by omega))
  have c1 := (hH2.cell 1).trans (hcells_state f l t 1 (by omega))
  have c2 := (hH2.cell 2).trans (hcells_state f l t 2 (by omega))
  have c3 := (hH2.cell 3).trans (hcells_state f l t 3 (by omega))
  have c4 := (hH2.cell 4).trans (hcells_state f l t 4 (by omega))
  have c5 := (hH2.cell 5).trans (hcells_state f l t 5 (by omega))
  have c6 := (hH2.cell 6).trans (hcells_state f l t 6 (by omega))
  have c7 := (hH2.cell 7).trans (hcells_state f l t 7 (by omega))
  go_quiet (fail)
  go_wp2_with fail
  go_quiet (fail)
  go_wp2_with fail
  clear c0 c1 c2 c3 c4 c5 c6 c7
  go_loopw [3, 4, 5, 6, 7, 8, 9, 10, 61] (fun s3 s4 s5 s6 s7 s8 s9 s10 i wr => ∃ (k : Nat) (st : S8), k ≤ 64 ∧ i = .int .i64 k ∧ Hid (st = rounds (S8.of f) (sched (blockWord l)) k) ∧ Sti w wr b wb f l t ∧
      s3 = .int .u32 (Wd.n st.a) ∧ s4 = .int .u32 (Wd.n st.b) ∧ s5 = .int .u32 (Wd.n st.c) ∧ s6 = .int .u32 (Wd.n st.d) ∧ s7 = .int .u32 (Wd.n st.e) ∧ s8 = .int .u32 (Wd.n st.f) ∧ s9 = .int .u32 (Wd.n st.g) ∧ s10 = .int .u32 (Wd.n st.h))
    (fun _ _ _ _ _ _ _ _ i _ => 64 - (intOf i).toNat)
  case atStart => exact ⟨0, S8.of f, by omega, rfl, rfl, (⟨hbw, hWs, hH2, hT2⟩ : Sti w w2 b wb f l t).drewN2 _ _, rfl, rfl, rfl, rfl, rfl, rfl, rfl, rfl⟩
  case round =>
    obtain ⟨k, st, hk, rfl, HS, hi, rfl, rfl, rfl, rfl, rfl, rfl, rfl, rfl⟩ := hrel
    by_cases hlt : k < 64
    · have ck := hi.tab.k k hlt
      have cw := hi.wrd.word k hlt
      go_wp2_with fail
      go_quiet ((go_at_call 139; exact quiet_eq (three _ _ _ _ (by omega) (by omega) (by omega) (by omega) (by omega) (by omega) _)))
      have hi2 := hi.drewN nq
      clear ck cw
      go_wp2_with (go_at_call 139; (with_reducible refine (three _ _ _ _ (by omega) (by omega) (by omega) (by omega) (by omega) (by omega) _).mono ?_); rintro e w' ⟨rfl, rfl⟩)
      go_roundw
      case rel =>
        refine ⟨k + 1, ⟨_, _, _, _, _, _, _, _⟩, by omega, by go_num, ?hs, hi2, rfl, rfl, rfl, rfl, rfl, rfl, rfl, rfl⟩
        exact rounds_next HS.out
      case measure => simp [intOf]; omega
    · obtain rfl : k = 64 := by omega
      go_wp2_with fail
      go_loopw [121] (fun i wr => ∃ k : Nat, k ≤ 8 ∧ i = .int .i64 k ∧ Stw w wr b f st l t k) (fun i _ => 8 - (intOf i).toNat)
      case atStart => exact ⟨0, by omega, rfl, gb_below hi.below _, f, hi.hsh, fun j hj => absurd hj (by omega), fun _ _ => rfl⟩
      case round =>
        obtain ⟨k, hk, rfl, hs⟩ := hrel
        obtain ⟨g, hg, h1, h2⟩ := hs.hsh
        by_cases hlt : k < 8
        · have H1 := Lib.hid h1
          have H2 := Lib.hid h2
          clear h1 h2
          have hidx := index8 st k hlt
          have ck := (hg.cell k).trans (hcells_state g l t k hlt)
          have cf := hg.free k
          go_wp2_with fail
          go_region
          go_wp2_with fail
          exact ⟨⟨k + 1, by omega, by go_num, hs.next hlt hg H1.out H2.out⟩, by simp [intOf]; omega⟩
        · obtain rfl : k = 8 := by omega
          have e : hcells g l t = hcells (press (S8.of f) l).at l t := hcells_congr (fun j hj => by
            rw [h1 j hj, press, ← HS.out]
            match j, hj with
            | 0, _ => rfl
            | 1, _ => rfl
            | 2, _ => rfl
            | 3, _ => rfl
            | 4, _ => rfl
            | 5, _ => rfl
            | 6, _ => rfl
            | 7, _ => rfl) l t
          rw [e] at hg
          clear h1 h2 e
          go_wp2_with fail
          go_end0
          exact ⟨rfl, hs.grown, hg⟩
end Go.Proofs.YthcebnfdapcllaaGreatDoor
namespace Go.Proofs.YthcebnfdapcllaaGreatDoor
open Go.RowKit Mem Sha
attribute [local go_sem] Wd.not Wd.not' Wd.notSub Wd.add Wd.and Wd.or Wd.xor Wd.shl Wd.shr Wd.shl8 Wd.shr3 Wd.shr10 Wd.byte Wd.orByte
end Go.Proofs.YthcebnfdapcllaaGreatDoor
namespace Go.Proofs.YthcebnfdapcllaaGreatDoor
open Go.RowKit Mem Sha
theorem mul256_byte (x : BitVec 32) (b : UInt8) : IntKind.u32.wrap (IntKind.u32.wrap (Wd.n x * (256 : Int)) + (b.toNat : Int)) = Wd.n (x <<< 8 ||| ofByte b) := by
  have h : x <<< 8 ||| ofByte b = x <<< 8 + ofByte b := by
    symm
    apply BitVec.add_eq_or_of_and_eq_zero
    apply BitVec.eq_of_getLsbD_eq
    intro i hi
    rw [BitVec.getLsbD_and, BitVec.getLsbD_shiftLeft, BitVec.getLsbD_zero]
    by_cases h : i < 8
    · simp [h]
    · have : (ofByte b).getLsbD i = false := by
        show (BitVec.ofNat 32 b.toNat).getLsbD i = false
        rw [BitVec.getLsbD_ofNat, Nat.testBit_lt_two_pow (Nat.lt_of_lt_of_le b.toNat_lt (Nat.pow_le_pow_right (by omega) (by omega)))]
        simp
      rw [this]; simp
  rw [h, ← Wd.add, Wd.n_ofByte, IntKind.wrap_u32' (Wd.n x * 256), Wd.shl8]
theorem wrap_mul256 (x : BitVec 32) : IntKind.u32.wrap (Wd.n x * (256 : Int)) = Wd.n (x <<< 8) := by rw [IntKind.wrap_u32', Wd.shl8]
theorem add_byte (x : BitVec 32) (b : UInt8) : IntKind.u32.wrap (Wd.n (x <<< 8) + (b.toNat : Int)) = Wd.n (x <<< 8 ||| ofByte b) := by
  rw [← mul256_byte, wrap_mul256]
theorem add_byte' (x : BitVec 32) (b : UInt8) : IntKind.u32.wrap (Wd.n (x <<< 8) + Wd.n (ofByte b)) = Wd.n (x <<< 8 ||| ofByte b) := by
  rw [Wd.n_ofByte]; exact add_byte x b
end Go.Proofs.YthcebnfdapcllaaGreatDoor
