/-
  Texts of this seat, one behind the other.
-/
import Derived.Test.YtmpllagaeoolaaaDoorRows
import Derived.Test.YtmpllagaeoolaaaDoorZWord
import Derived.Lib.Hide
import Derived.Test.YtmpllagaeoolaaaDoorZMem
import Derived.BigQuiet
import Derived.Deep.QuietTactic
import Derived.Lib.IndexBytes
import Derived.Shelf.Strings.Builder1
import Derived.Shelf.Strings.Builder2
import Derived.Shelf.Strings.BuilderF
import Derived.Shelf.Strings.Prefix
import Derived.Shelf.Bits.Mul64
import Derived.Shelf.Strings.Repeat
import Derived.Test.YtmpllagaeoolaaaDoorProg
import Derived.Deep.RegionHeld3
namespace Go.Proofs.YtmpllagaeoolaaaDoor
open Go.RowKit
attribute [local go_sem] Wd.add Wd.and Wd.or Wd.xor Wd.shl Wd.shr Wd.shl8 Wd.shr3 Wd.shr10

set_option maxHeartbeats 400000 in
theorem rot (x : BitVec 32) (k : Int) (s : Nat) (hs : s < 32) (hk : bits .and .u64 (IntKind.u64.wrap k) 31 = (s : Int)) (w : World) :
    Calls Tryd.prog 100 #[.int .u32 (Wd.n x), .int .i64 k] w fun e w' => e = .returned (.int .u32 (Wd.n (x.rotateLeft s))) ∧ w = w' := by
  go_enter Tryd.func100, Tryd.ntmps100
  go_wp2
  go_ret
  refine ⟨?_, rfl⟩
  rw [BitVec.rotateLeft_def, Nat.mod_eq_of_lt hs]
  rfl

theorem turned (x : BitVec 32) (k : Int) (h1 : 0 < k) (h2 : k < 32) (w : World) :
    Calls Tryd.prog 99 #[.int .u32 (Wd.n x), .int .i64 k] w fun e w' => e = .returned (.int .u32 (Wd.n (x.rotateRight k.toNat))) ∧ w = w' := by
  have hk : bits .and .u64 (IntKind.u64.wrap (-k)) 31 = ((32 - k.toNat : Nat) : Int) := Wd.neg31 k h1 h2
  have H := Lib.hid hk
  clear hk
  go_enter Tryd.func99, Tryd.ntmps99
  go_wp2_with (go_at_call 100; (with_reducible refine (rot _ _ _ (by omega) H.out _).mono ?_); rintro e w' ⟨rfl, rfl⟩)
  go_ret
  refine ⟨?_, rfl⟩
  rw [← Wd.left_right x k h1 h2]
  rfl
theorem three (x : BitVec 32) (a b c : Int) (ha : 0 < a) (ha2 : a < 32) (hb : 0 < b) (hb2 : b < 32) (hc : 0 < c) (hc2 : c < 32) (w : World) :
    Calls Tryd.prog 98 #[.int .u32 (Wd.n x), .int .i64 a, .int .i64 b, .int .i64 c] w fun e w' => e = .returned (.int .u32 (Wd.n (x.rotateRight a.toNat ^^^ x.rotateRight b.toNat ^^^ x.rotateRight c.toNat))) ∧ w = w' := by
  go_enter Tryd.func98, Tryd.ntmps98
  go_wp2_with (go_at_call 99; (with_reducible refine (turned _ _ (by omega) (by omega) _).mono ?_); rintro e w' ⟨rfl, rfl⟩)
  go_ret
  exact ⟨rfl, rfl⟩
end Go.Proofs.YtmpllagaeoolaaaDoor
namespace Go.Proofs.YtmpllagaeoolaaaDoor
open Go.RowKit Mem Sha
attribute [local go_sem] Wd.add Wd.and Wd.or Wd.xor Wd.shl Wd.shr Wd.shl8 Wd.shr3 Wd.shr10 Wd.byte Wd.orByte

abbrev zeros64 : Array Value := words (fun _ => 0) 64
/-- the state of spread's walk -/
structure Spr (w wr : World) (l : List UInt8) (k : Nat) (j : Nat) : Prop where
  below : Below w.heap.size w wr
  src : Has wr w.heap.size (bytesV l) 124
  res : Has wr (w.heap.size + 1) zeros64 108
  arr : ∃ f, Has wr (w.heap.size + 1 + 1) (words f 64) 108 ∧ (∀ i, i < k → f i = blockWord l i) ∧ f k = wordOf ((l.drop (4 * k)).take j) ∧ (∀ i, k < i → f i = 0)

theorem size1 (w : World) : (sizeOf 5).run Tryd.prog w = .ok 1 w := by kernel_rfl
theorem info48 : (Tryd.prog.info? 124).map (·.size) = some 64 := by kernel_rfl
theorem info44 : (Tryd.prog.info? 108).map (·.size) = some 64 := by kernel_rfl
theorem Spr.next {w wr : World} {l : List UInt8} {k j : Nat} (h : Spr w wr l k j) (hl : l.length = 64) (hk : k < 16) {f : Nat → W32} (hf : Has wr (w.heap.size + 1 + 1) (words f 64) 108)
    (h1 : ∀ i, i < k → f i = blockWord l i) (h2 : f k = wordOf ((l.drop (4 * k)).take j)) (h3 : ∀ i, k < i → f i = 0) (hh : 4 * k + j < l.length) :
    Spr w (wr.setCell ⟨w.heap.size + 1 + 1, k, none⟩ (.int .u32 (Wd.n (f k <<< 8 ||| Wd.ofByte l[4 * k + j])))) l k (j + 1) where
  below := h.below.setCell (by simp; omega) _
  src := h.src.other _ _ (by simp; omega)
  res := h.res.other _ _ (by simp)
  arr := by
    refine ⟨_, hf.setWord _, fun i hi => ?_, ?_, fun i hi => ?_⟩
    · unfold upd; rw [if_neg (by omega)]; exact h1 i hi
    · unfold upd
      rw [if_pos rfl, h2, List.take_succ_eq_append_getElem (by simp; omega)]
      simp [wordOf, List.foldl_append]
    · unfold upd; rw [if_neg (by omega)]; exact h3 i hi
theorem Spr.word {w wr : World} {l : List UInt8} {k : Nat} (h : Spr w wr l k 4) : Spr w wr l (k + 1) 0 where
  below := h.below
  src := h.src
  res := h.res
  arr := by
    obtain ⟨f, hf, h1, h2, h3⟩ := h.arr
    refine ⟨f, hf, fun i hi => ?_, ?_, fun i hi => h3 i (by omega)⟩
    · by_cases e : i = k
      · subst e; exact h2
      · exact h1 i (by omega)
    · rw [h3 (k + 1) (by omega)]; simp [wordOf]
/-- the state of the second loop -/
structure Spt (w wr : World) (l : List UInt8) (k : Nat) : Prop where
  below : Below w.heap.size w wr
  res : Has wr (w.heap.size + 1) zeros64 108
  arr : ∃ f, Has wr (w.heap.size + 1 + 1) (words f 64) 108 ∧ (∀ i, i < k → f i = sched (blockWord l) i)
theorem Spr.done {w wr : World} {l : List UInt8} (h : Spr w wr l 16 0) : Spt w wr l 16 where
  below := h.below
  res := h.res
  arr := by
    obtain ⟨f, hf, h1, _, _⟩ := h.arr
    exact ⟨f, hf, fun i hi => by rw [h1 i hi, sched_first _ _ hi]⟩

theorem Spt.next {w wr : World} {l : List UInt8} {k : Nat} (h : Spt w wr l k) (hk : 16 ≤ k) (hk2 : k < 64) {f : Nat → W32} (hf : Has wr (w.heap.size + 1 + 1) (words f 64) 108)
    (h1 : ∀ i, i < k → f i = sched (blockWord l) i) (m : Nat) :
    Spt w ((wr.drewN m).setCell ⟨w.heap.size + 1 + 1, k, none⟩ (.int .u32 (Wd.n (f (k - 16) + (BitVec.rotateRight (f (k - 15)) 7 ^^^ BitVec.rotateRight (f (k - 15)) 18 ^^^ f (k - 15) >>> 3) + f (k - 7) +
      (BitVec.rotateRight (f (k - 2)) 17 ^^^ BitVec.rotateRight (f (k - 2)) 19 ^^^ f (k - 2) >>> 10))))) l (k + 1) where
  below := (below_drewN h.below m).setCell (by simp; omega) _
  res := (h.res.drewN m).other _ _ (by simp)
  arr := by
    refine ⟨_, (hf.drewN m).setWord _, fun i hi => ?_⟩
    unfold upd
    by_cases e : i = k
    · rw [if_pos e, e, sched_next _ k hk hk2, h1 _ (by omega), h1 _ (by omega), h1 _ (by omega), h1 _ (by omega)]
      rfl
    · rw [if_neg e]; exact h1 i (by omega)
set_option maxRecDepth 100000 in
theorem Spr.start (w : World) (l : List UInt8) : Spr w (((w.alloc (.cells (bytesV l) 124)).alloc (.cells zeros64 108)).alloc (.cells zeros64 108)) l 0 0 where
  below := (((Below.refl _ _).alloc (Nat.le_refl _) _).alloc (by simp) _).alloc (by simp; omega) _
  src := ((Has.new _ _).alloc _).alloc _
  res := by
    have := (Has.new (w := w.alloc (.cells (bytesV l) 124)) zeros64 108).alloc (.cells zeros64 108)
    simpa using this
  arr := by
    have := Has.new (w := (w.alloc (.cells (bytesV l) 124)).alloc (.cells zeros64 108)) zeros64 108
    rw [World.size_alloc, World.size_alloc] at this
    exact ⟨_, this, fun i hi => absurd hi (by omega), by simp [wordOf], fun _ _ => rfl⟩

set_option maxRecDepth 100000 in
set_option maxHeartbeats 400000 in
theorem spread (l : List UInt8) (hl : l.length = 64) (w : World) :
    Calls Tryd.prog 97 #[.agg (bytesV l)] w fun e w' => e = .returned (.agg (words (sched (blockWord l)) 64)) ∧ Below w.heap.size w w' := by
  go_enter Tryd.func97, Tryd.ntmps97
  go_wp2_with fail
  go_loopw [10] (fun i wr => ∃ k : Nat, k ≤ 16 ∧ i = .int .i64 k ∧ Spr w wr l k 0) (fun i _ => 16 - (intOf i).toNat)
  case atStart => exact ⟨0, by omega, rfl, Spr.start w l⟩
  case round =>
    obtain ⟨k, hk, rfl, hs⟩ := hrel
    by_cases hlt : k < 16
    · have hsl : ∀ w', (Instr.sliceAt 124 (.pointer (some ⟨w.heap.size, 0, none⟩)) (some (.int .i64 (4 * (k : Int)))) (some (.int .i64 (4 * (k : Int) + 4))) none).run Tryd.prog w' = .ok (.slice (some ⟨w.heap.size, 4 * k, none⟩) 4 (64 - 4 * k)) w' := fun w' => by
        have := arr_slice_lh (P := Tryd.prog) 124 5 64 w.heap.size (4 * k) (4 * k + 4) Tryd.underlying124 size1 (by omega) (by omega) (by omega) w'
        rw [show 4 * k + 4 - 4 * k = 4 by omega] at this
        simpa using this
      go_wp2_with fail
      clear hsl
      go_loopw [20] (fun i wr => ∃ j : Nat, j ≤ 4 ∧ i = .int .i64 j ∧ Spr w wr l k j) (fun i _ => 4 - (intOf i).toNat)
      case atStart => exact ⟨0, by omega, rfl, hs⟩
      case round =>
        obtain ⟨j, hj, rfl, ht⟩ := hrel
        by_cases hjl : j < 4
        · obtain ⟨f, hf, h1, h2, h3⟩ := ht.arr
          have c1 := ht.src.byte (4 * k + j) (by omega)
          have c2 := hf.word k (by omega)
          have c3 := hf.free k
          have HH := Lib.hid h2
          have H1 := Lib.hid h1
          have H3 := Lib.hid h3
          clear h1 h2 h3
          go_wp2_with fail
          go_roundw
          case rel =>
            exact ⟨j + 1, by omega, by go_num, ht.next hl hlt hf H1.out HH.out H3.out (by omega)⟩
          case measure => simp [intOf]; omega
        · obtain rfl : j = 4 := by omega
          go_wp2_with fail
          go_roundw
          case rel => exact ⟨k + 1, by omega, by go_num, ht.word⟩
          case measure => simp [intOf]; omega
    · obtain rfl : k = 16 := by omega
      have ht := hs.done
      clear hs
      go_wp2_with fail
      go_loopw [7] (fun i wr => ∃ k : Nat, 16 ≤ k ∧ k ≤ 64 ∧ i = .int .i64 k ∧ Spt w wr l k) (fun i _ => 64 - (intOf i).toNat)
      case atStart => exact ⟨16, by omega, by omega, rfl, ht⟩
      case round =>
        obtain ⟨k, hk16, hk, rfl, hs⟩ := hrel
        obtain ⟨f, hf, h1⟩ := hs.arr
        have H1 := Lib.hid h1
        clear h1
        by_cases hlt : k < 64
        · have c1 := hf.word (k - 15) (by omega)
          have c2 := hf.word (k - 2) (by omega)
          have c3 := hf.word (k - 16) (by omega)
          have c4 := hf.word (k - 7) (by omega)
          have c5 := hf.free k
          have b1 : IntKind.i64.wrap ((k : Int) - 15) = (k : Int) - 15 := IntWalk.i64_in _ (by omega)
          have b2 : IntKind.i64.wrap ((k : Int) - 2) = (k : Int) - 2 := IntWalk.i64_in _ (by omega)
          have b3 : IntKind.i64.wrap ((k : Int) - 16) = (k : Int) - 16 := IntWalk.i64_in _ (by omega)
          have b4 : IntKind.i64.wrap ((k : Int) - 7) = (k : Int) - 7 := IntWalk.i64_in _ (by omega)
          have a1 : (0 : Int) ≤ (k : Int) - 15 := by omega
          have a2 : (0 : Int) ≤ (k : Int) - 2 := by omega
          have a3 : (0 : Int) ≤ (k : Int) - 16 := by omega
          have a4 : (0 : Int) ≤ (k : Int) - 7 := by omega
          have t1 : ((k : Int) - 15).toNat = k - 15 := by omega
          have t2 : ((k : Int) - 2).toNat = k - 2 := by omega
          have t3 : ((k : Int) - 16).toNat = k - 16 := by omega
          have t4 : ((k : Int) - 7).toNat = k - 7 := by omega
          have l1 : (k : Int) - 15 < 64 := by omega
          have l2 : (k : Int) - 2 < 64 := by omega
          have l3 : (k : Int) - 16 < 64 := by omega
          have l4 : (k : Int) - 7 < 64 := by omega
          go_wp2_with fail
          go_quiet ((go_at_call 99; exact quiet_eq (turned _ _ (by omega) (by omega) _)))
          replace c2 := (hf.drewN nq).word (k - 2) (by omega)
          replace c3 := (hf.drewN nq).word (k - 16) (by omega)
          replace c4 := (hf.drewN nq).word (k - 7) (by omega)
          replace c5 := (hf.drewN nq).free k
          have c6 := (hf.drewN nq).word k (by omega)
          generalize hw1 : wr.drewN nq = w1 at c2 c3 c4 c5 c6
          have HW1 := Lib.hid hw1
          clear hw1 c1
          go_wp2_with fail
          go_quiet ((go_at_call 99; exact quiet_eq (turned _ _ (by omega) (by omega) _)))
          go_wp2_with fail
          go_region
          go_wp2_with fail
          refine ⟨?_, by simp [intOf]; omega⟩
          have hw2 : ∃ m, w1.drewN (nq + 1) = wr.drewN m := ⟨_, by rw [← HW1.out, World.drewN_drewN]⟩
          obtain ⟨m, hm⟩ := hw2
          rw [hm]
          exact ⟨k + 1, by omega, by omega, by go_num, hs.next hk16 hlt hf H1.out m⟩
        · obtain rfl : k = 64 := by omega
          have hres := hs.res
          have hbel := hs.below
          rw [words_congr H1.out] at hf
          clear H1 hs
          have hz : (words (sched (blockWord l)) 64).all (·.oneCell') = true := words_one _ _
          have hsz : some (words (sched (blockWord l)) 64).size = some 64 := by rw [words_size]
          have HZ := Lib.hid hz
          have HS := Lib.hid hsz
          clear hz hsz
          generalize hcs : words (sched (blockWord l)) 64 = cs at *
          go_wp2_with (first
            | (with_reducible refine wpList_load_row rfl 108 _ rfl _ rfl 108 cs (0, 0) _ hf.out Tryd.underlying108 rfl (info44.trans HS.out.symm) ?_)
            | (with_reducible refine wpList_store_row rfl 108 _ _ rfl _ _ rfl rfl 108 _ hres.out (info44.trans HS.out.symm) (by rw [words_size]; exact (Option.some.inj HS.out).symm) HZ.out ?_))
          exact bodyPost_ret (v := .agg cs) (results_cell_row Tryd.results97 _ _ (w.heap.size + 1) 108 cs (0, 0) _ rfl (hres.row cs).out Tryd.underlying108 rfl (info44.trans HS.out.symm)) rfl ⟨by rw [hcs], below_setRow hbel (by omega) _⟩
end Go.Proofs.YtmpllagaeoolaaaDoor
namespace Go.Proofs.YtmpllagaeoolaaaDoor
open Go.RowKit Mem Sha
attribute [local go_sem] Wd.not Wd.not' Wd.notSub Wd.add Wd.and Wd.or Wd.xor Wd.shl Wd.shr Wd.shl8 Wd.shr3 Wd.shr10 Wd.byte Wd.orByte

/-- the tables hold what the program's text says -/
structure Tab (w : World) : Prop where
  k : ∀ i, i < 64 → w.cell? ⟨3, i, none⟩ = some (.int .u32 (Wd.n (kAt i)))
  s : ∀ i, i < 8 → w.cell? ⟨2, i, none⟩ = some (.int .u32 (Wd.n (Sha.start.at i)))
theorem Tab.of {w w' : World} (h : Tab w) (h1 : w'.heap[3]? = w.heap[3]?) (h2 : w'.heap[2]? = w.heap[2]?) : Tab w' where
  k i hi := (World.cell?_of_block (a := ⟨3, i, none⟩) h1).trans (h.k i hi)
  s i hi := (World.cell?_of_block (a := ⟨2, i, none⟩) h2).trans (h.s i hi)
theorem Tab.lt {w : World} (h : Tab w) : 3 < w.heap.size ∧ 2 < w.heap.size := ⟨block_lt_of_cell (h.k 0 (by omega)), block_lt_of_cell (h.s 0 (by omega))⟩
theorem Tab.grown {w w' : World} (h : Tab w) {r : Option Nat} (hg : w.grownBy w' r) (h1 : some 3 ≠ r) (h2 : some 2 ≠ r) : Tab w' :=
  h.of (hg.block _ h.lt.1 h1) (hg.block _ h.lt.2 h2)
theorem Tab.below {w w' : World} (h : Tab w) (hg : Below w.heap.size w w') : Tab w' := h.of (hg.block _ h.lt.1) (hg.block _ h.lt.2)

/-- what stands while the rounds go on -/
structure Sti (w wr : World) (b wb : Nat) (f : Nat → W32) (l : List UInt8) (t : Nat) : Prop where
  below : Below w.heap.size w wr
  wrd : Has wr wb (words (sched (blockWord l)) 64) 108
  hsh : Has wr b (hcells f l t) 126
  tab : Tab wr
theorem Sti.drewN {w wr : World} {b wb : Nat} {f : Nat → W32} {l : List UInt8} {t : Nat} (h : Sti w wr b wb f l t) (n : Nat) : Sti w (wr.drewN n) b wb f l t :=
  ⟨below_drewN h.below n, h.wrd.drewN n, h.hsh.drewN n, h.tab.of rfl rfl⟩
theorem Sti.drewN2 {w wr : World} {b wb : Nat} {f : Nat → W32} {l : List UInt8} {t : Nat} (h : Sti w wr b wb f l t) (n m : Nat) : Sti w ((wr.drewN n).drewN m) b wb f l t := (h.drewN n).drewN m
set_option maxRecDepth 100000 in
theorem index8 (st : S8) (k : Nat) (hk : k < 8) (w : World) :
    (Instr.index 107 (.agg #[.int .u32 (Wd.n st.a), .int .u32 (Wd.n st.b), .int .u32 (Wd.n st.c), .int .u32 (Wd.n st.d), .int .u32 (Wd.n st.e), .int .u32 (Wd.n st.f), .int .u32 (Wd.n st.g), .int .u32 (Wd.n st.h)]) (.int .i64 (k : Int))).run Tryd.prog w = .ok (.int .u32 (Wd.n (st.at k))) w := by
  obtain rfl | rfl | rfl | rfl | rfl | rfl | rfl | rfl : k = 0 ∨ k = 1 ∨ k = 2 ∨ k = 3 ∨ k = 4 ∨ k = 5 ∨ k = 6 ∨ k = 7 := by omega
  all_goals rfl
/-- what stands while the sums are written -/
structure Stw (w wr : World) (b : Nat) (f : Nat → W32) (st : S8) (l : List UInt8) (t : Nat) (k : Nat) : Prop where
  grown : w.grownBy wr (some b)
  hsh : ∃ g, Has wr b (hcells g l t) 126 ∧ (∀ j, j < k → g j = f j + st.at j) ∧ (∀ j, k ≤ j → g j = f j)
theorem Stw.next {w wr : World} {b : Nat} {f : Nat → W32} {st : S8} {l : List UInt8} {t k : Nat} (h : Stw w wr b f st l t k) (hk : k < 8) {g : Nat → W32} (hg : Has wr b (hcells g l t) 126)
    (h1 : ∀ j, j < k → g j = f j + st.at j) (h2 : ∀ j, k ≤ j → g j = f j) : Stw w (wr.setCell ⟨b, k, none⟩ (.int .u32 (Wd.n (g k + st.at k)))).drew b f st l t (k + 1) where
  grown := gb_drewN (gb_setCell h.grown _ _) 1
  hsh := by
    refine ⟨_, by have := (hg.set (i := k) (.int .u32 (Wd.n (g k + st.at k)))).drew; rw [hcells_setState _ _ _ _ _ hk] at this; exact this, fun j hj => ?_, fun j hj => ?_⟩
    · unfold upd
      by_cases e : j = k
      · rw [if_pos e, e, h2 k (Nat.le_refl _)]
      · rw [if_neg e]; exact h1 j (by omega)
    · unfold upd
      rw [if_neg (by omega)]; exact h2 j (by omega)
theorem rounds_next {st s : S8} {w : Nat → W32} {k : Nat} (h : st = rounds s w k) :
    Hid ((⟨st.h + (BitVec.rotateRight st.e 6 ^^^ BitVec.rotateRight st.e 11 ^^^ BitVec.rotateRight st.e 25) + (st.e &&& st.f ||| ~~~st.e &&& st.g) + kAt k + w k +
      ((BitVec.rotateRight st.a 2 ^^^ BitVec.rotateRight st.a 13 ^^^ BitVec.rotateRight st.a 22) + (st.a &&& st.b ||| st.a &&& st.c ||| st.b &&& st.c)), st.a, st.b, st.c,
      st.d + (st.h + (BitVec.rotateRight st.e 6 ^^^ BitVec.rotateRight st.e 11 ^^^ BitVec.rotateRight st.e 25) + (st.e &&& st.f ||| ~~~st.e &&& st.g) + kAt k + w k), st.e, st.f, st.g⟩ : S8) = rounds s w (k + 1)) := by
  rw [h]; exact (rfl : _ = _)
set_option maxRecDepth 100000 in
set_option maxHeartbeats 1000000 in
theorem stir (b : Nat) (f : Nat → W32) (l : List UInt8) (t : Nat) (hl : l.length = 64) (w : World) (hT : Tab w) (hH : Has w b (hcells f l t) 126) :
    Calls Tryd.prog 96 #[.pointer (some ⟨b, 0, none⟩)] w fun e w' => e = .returned (.tuple #[]) ∧ w.grownBy w' (some b) ∧ Has w' b (hcells (press (S8.of f) l).at l t) 126 := by
  have hrange : w.rangeAt b 8 (l.map fun b => Value.int .u8 (b.toNat : Int)) := fun j v hv => by
    have hj : j < l.length := by
      by_cases h : j < l.length
      · exact h
      · rw [List.getElem?_eq_none (by simpa using h)] at hv; cases hv
    rw [hH.cell, hcells_rest f l t j hj]
    simpa [hj] using hv
  have HR := Lib.hid hrange
  clear hrange
  go_enter Tryd.func96, Tryd.ntmps96
  go_wp2_with (first
    | (with_reducible refine wpList_load_mid rfl 124 _ rfl b 8 rfl (l.map fun b => Value.int .u8 (b.toNat : Int)) _ HR.out Tryd.underlying124 rfl (by rw [List.length_map, hl]; exact info48) ?_)
    | (go_at_call 97; refine (spread l hl _).mono ?_; rintro e w1 ⟨rfl, hbel⟩)
    | (with_reducible refine wpList_store_row rfl 108 _ _ rfl w1.heap.size (words (sched (blockWord l)) 64) rfl rfl 108 _ (heap_alloc_new w1 _) (by rw [words_size]; exact info44) (by simp [words_size]) (words_one _ _) ?_))
  generalize hw2 : World.setRow _ _ _ = w2
  have hbw : Below w.heap.size w w2 := by rw [← hw2]; exact below_setRow (hbel.alloc hbel.size _) hbel.size _
  have hWs : Has w2 w1.heap.size (words (sched (blockWord l)) 64) 108 := by rw [← hw2]; exact (Has.new _ _).row _
  have hge : w.heap.size ≤ w1.heap.size := hbel.size
  clear hw2 hbel HR
  have hH2 := below_has hbw hH hH.lt
  have hT2 := hT.below hbw
  generalize w1.heap.size = wb at *
  clear w1
  have c0 := (hH2.cell 0).trans (hcells_state f l t 0 (by omega))
  have c1 := (hH2.cell 1).trans (hcells_state f l t 1 (by omega))
  have c2 := (hH2.cell 2).trans (hcells_state f l t 2 (by omega))
  have c3 := (hH2.cell 3).trans (hcells_state f l t 3 (by omega))
  have c4 := (hH2.cell 4).trans (hcells_state f l t 4 (by omega))
  have c5 := (hH2.cell 5).trans (hcells_state f l t 5 (by omega))
  have c6 := (hH2.cell 6).trans (hcells_state f l t 6 (by omega))
  have c7 := (hH2.cell 7).trans (hcells_state f l t 7 (by omega))
  go_quiet (fail)
  go_wp2_with fail
  go_quiet (fail)
  go_wp2_with fail
  clear c0 c1 c2 c3 c4 c5 c6 c7
  go_loopw [3, 4, 5, 6, 7, 8, 9, 10, 61] (fun s3 s4 s5 s6 s7 s8 s9 s10 i wr => ∃ (k : Nat) (st : S8), k ≤ 64 ∧ i = .int .i64 k ∧ Hid (st = rounds (S8.of f) (sched (blockWord l)) k) ∧ Sti w wr b wb f l t ∧
      s3 = .int .u32 (Wd.n st.a) ∧ s4 = .int .u32 (Wd.n st.b) ∧ s5 = .int .u32 (Wd.n st.c) ∧ s6 = .int .u32 (Wd.n st.d) ∧ s7 = .int .u32 (Wd.n st.e) ∧ s8 = .int .u32 (Wd.n st.f) ∧ s9 = .int .u32 (Wd.n st.g) ∧ s10 = .int .u32 (Wd.n st.h))
    (fun _ _ _ _ _ _ _ _ i _ => 64 - (intOf i).toNat)
  case atStart => exact ⟨0, S8.of f, by omega, rfl, rfl, (⟨hbw, hWs, hH2, hT2⟩ : Sti w w2 b wb f l t).drewN2 _ _, rfl, rfl, rfl, rfl, rfl, rfl, rfl, rfl⟩
  case round =>
    obtain ⟨k, st, hk, rfl, HS, hi, rfl, rfl, rfl, rfl, rfl, rfl, rfl, rfl⟩ := hrel
    by_cases hlt : k < 64
    · have ck := hi.tab.k k hlt
      have cw := hi.wrd.word k hlt
      go_wp2_with fail
      go_quiet ((go_at_call 98; exact quiet_eq (three _ _ _ _ (by omega) (by omega) (by omega) (by omega) (by omega) (by omega) _)))
      have hi2 := hi.drewN nq
      clear ck cw
      go_wp2_with (go_at_call 98; (with_reducible refine (three _ _ _ _ (by omega) (by omega) (by omega) (by omega) (by omega) (by omega) _).mono ?_); rintro e w' ⟨rfl, rfl⟩)
      go_roundw
      case rel =>
        refine ⟨k + 1, ⟨_, _, _, _, _, _, _, _⟩, by omega, by go_num, ?hs, hi2, rfl, rfl, rfl, rfl, rfl, rfl, rfl, rfl⟩
        exact rounds_next HS.out
      case measure => simp [intOf]; omega
    · obtain rfl : k = 64 := by omega
      go_wp2_with fail
      go_loopw [121] (fun i wr => ∃ k : Nat, k ≤ 8 ∧ i = .int .i64 k ∧ Stw w wr b f st l t k) (fun i _ => 8 - (intOf i).toNat)
      case atStart => exact ⟨0, by omega, rfl, gb_below hi.below _, f, hi.hsh, fun j hj => absurd hj (by omega), fun _ _ => rfl⟩
      case round =>
        obtain ⟨k, hk, rfl, hs⟩ := hrel
        obtain ⟨g, hg, h1, h2⟩ := hs.hsh
        by_cases hlt : k < 8
        · have H1 := Lib.hid h1
          have H2 := Lib.hid h2
          clear h1 h2
          have hidx := index8 st k hlt
          have ck := (hg.cell k).trans (hcells_state g l t k hlt)
          have cf := hg.free k
          go_wp2_with fail
          go_region
          go_wp2_with fail
          exact ⟨⟨k + 1, by omega, by go_num, hs.next hlt hg H1.out H2.out⟩, by simp [intOf]; omega⟩
        · obtain rfl : k = 8 := by omega
          have e : hcells g l t = hcells (press (S8.of f) l).at l t := hcells_congr (fun j hj => by
            rw [h1 j hj, press, ← HS.out]
            match j, hj with
            | 0, _ => rfl
            | 1, _ => rfl
            | 2, _ => rfl
            | 3, _ => rfl
            | 4, _ => rfl
            | 5, _ => rfl
            | 6, _ => rfl
            | 7, _ => rfl) l t
          rw [e] at hg
          clear h1 h2 e
          go_wp2_with fail
          go_end0
          exact ⟨rfl, hs.grown, hg⟩
end Go.Proofs.YtmpllagaeoolaaaDoor
namespace Go.Proofs.YtmpllagaeoolaaaDoor
open Go.RowKit Mem Sha
attribute [local go_sem] Wd.not Wd.not' Wd.notSub Wd.add Wd.and Wd.or Wd.xor Wd.shl Wd.shr Wd.shl8 Wd.shr3 Wd.shr10 Wd.byte Wd.orByte

/-- block b is a hasher that has taken the bytes m -/
def HsI (w : World) (b : Nat) (m : List UInt8) : Prop :=
  ∃ f l, Has w b (hcells f l m.length) 126 ∧ l.length = 64 ∧ S8.of f = pressAll (m.length / 64) Sha.start m ∧ l.take (m.length % 64) = m.drop (64 * (m.length / 64))
theorem HsI.drewN {w : World} {b : Nat} {m : List UInt8} (h : HsI w b m) (n : Nat) : HsI (w.drewN n) b m := by
  obtain ⟨f, l, h1, h2⟩ := h
  exact ⟨f, l, h1.drewN n, h2⟩
theorem HsI.lt {w : World} {b : Nat} {m : List UInt8} (h : HsI w b m) : b < w.heap.size := by obtain ⟨f, l, h1, h2⟩ := h; exact h1.lt
/-- the buffer behind n more bytes, not full yet -/
theorem HsI.more {w : World} {b n r : Nat} {m x : List UInt8} {f : Nat → W32} {l : List UInt8} (hx : x.length = n) (hr : r = m.length % 64) (hrn : r + n < 64) (hl : l.length = 64)
    (h : Has w b (hcells f (l.take r ++ x ++ l.drop (r + n)) (m.length + n)) 126) (hS : S8.of f = pressAll (m.length / 64) Sha.start m) (hR : l.take (m.length % 64) = m.drop (64 * (m.length / 64))) : HsI w b (m ++ x) := by
  have e1 : (m ++ x).length = m.length + n := by rw [List.length_append, hx]
  have e2 : (m.length + n) / 64 = m.length / 64 := by omega
  have e3 : (m.length + n) % 64 = r + n := by omega
  have hq : 64 * (m.length / 64) ≤ m.length := by omega
  have ht : (l.take r ++ x).length = r + n := by rw [List.length_append, List.length_take, hl, hx]; omega
  have e5 : (l.take r ++ x ++ l.drop (r + n)).take (r + n) = l.take r ++ x := List.take_left' ht
  have e6 : (m ++ x).drop (64 * (m.length / 64)) = l.take r ++ x := by rw [List.drop_append_of_le_length hq, ← hR, ← hr]
  refine ⟨f, _, by rw [e1]; exact h, ?_, ?_, ?_⟩
  · rw [List.length_append, ht, List.length_drop, hl]; omega
  · rw [e1, e2, hS, pressAll_more _ _ _ _ hq]
  · rw [e1, e2, e3, e5, e6]
/-- the buffer behind n more bytes, which fill it: worked in -/
theorem HsI.full {w : World} {b n r : Nat} {m x : List UInt8} {f g : Nat → W32} {l : List UInt8} (hx : x.length = n) (hr : r = m.length % 64) (hrn : r + n = 64) (hl : l.length = 64)
    (h : Has w b (hcells g (l.take r ++ x ++ l.drop (r + n)) (m.length + n)) 126) (hg : S8.of g = press (S8.of f) (l.take r ++ x ++ l.drop (r + n)))
    (hS : S8.of f = pressAll (m.length / 64) Sha.start m) (hR : l.take (m.length % 64) = m.drop (64 * (m.length / 64))) : HsI w b (m ++ x) := by
  have e1 : (m ++ x).length = m.length + n := by rw [List.length_append, hx]
  have e2 : (m.length + n) / 64 = m.length / 64 + 1 := by omega
  have e3 : (m.length + n) % 64 = 0 := by omega
  have hq : 64 * (m.length / 64) ≤ m.length := by omega
  have ht : (l.take r ++ x).length = 64 := by rw [List.length_append, List.length_take, hl, hx]; omega
  have e7 : l.drop (r + n) = [] := List.drop_eq_nil_of_le (by omega)
  have e6 : (m ++ x).drop (64 * (m.length / 64)) = l.take r ++ x := by rw [List.drop_append_of_le_length hq, ← hR, ← hr]
  rw [e7, List.append_nil] at h hg
  refine ⟨g, _, by rw [e1]; exact h, ht, ?_, ?_⟩
  · rw [e1, e2, hg, hS, pressAll_succ, pressAll_more _ _ _ _ hq, e6, List.take_of_length_le (l := l.take r ++ x) (by omega)]
  · rw [e1, e2, e3, List.take_zero, List.drop_eq_nil_of_le (by rw [e1]; omega)]
theorem infoByte : (Tryd.prog.info? 5).map (·.size) = some 1 := by kernel_rfl

set_option maxRecDepth 100000 in
set_option maxHeartbeats 1000000 in
theorem take (b : Nat) (m : List UInt8) (s : ByteArray) (w : World) (hT : Tab w) (hb1 : b ≠ 3) (hb2 : b ≠ 2) (hm : m.length + s.size ≤ 4611686018427387904) (hH : HsI w b m) :
    Calls Tryd.prog 93 #[.pointer (some ⟨b, 0, none⟩), .string s] w fun e w' => e = .returned (.tuple #[]) ∧ w.grownBy w' (some b) ∧ HsI w' b (m ++ s.data.toList) := by
  go_enter Tryd.func93, Tryd.ntmps93
  go_wp2_with fail
  go_loopw [1] (fun x wr => ∃ (m' : List UInt8) (s' : ByteArray), x = .string s' ∧ w.grownBy wr (some b) ∧ HsI wr b m' ∧ Hid (m' ++ s'.data.toList = m ++ s.data.toList))
    (fun x _ => match x with | .string s' => s'.size | _ => 0)
  case atStart => exact ⟨m, s, rfl, gb_refl _ _, hH, rfl⟩
  case round =>
    obtain ⟨m', s', rfl, hgr, hI, HE⟩ := hrel
    by_cases h0 : s'.size = 0
    · go_wp2_with fail
      go_end0
      have e : s'.data.toList = [] := List.eq_nil_of_length_eq_zero (by rw [← Lib.size_eq]; exact h0)
      refine ⟨rfl, hgr, ?_⟩
      have := HE.out
      rw [e, List.append_nil] at this
      rwa [← this]
    · obtain ⟨f, l, hH1, hl, hS, hR⟩ := hI
      have hlen : m'.length + s'.size = m.length + s.size := by
        have := congrArg List.length HE.out
        simp only [List.length_append] at this
        rwa [← Lib.size_eq, ← Lib.size_eq] at this
      have c72 := (hH1.cell 72).trans (hcells_taken f l _ hl)
      have f72 := hH1.free 72
      obtain ⟨r, hr⟩ : ∃ r, r = m'.length % 64 := ⟨_, rfl⟩
      have hr64 : r < 64 := by omega
      have hmod : ((m'.length : Int) % 64) = (r : Int) := by omega
      have htm : ((m'.length : Int).tmod 64) = (r : Int) := by rw [Int.tmod_eq_emod_of_nonneg (by omega)]; exact hmod
      obtain ⟨n, hn⟩ : ∃ n, n = Nat.min s'.size (64 - r) := ⟨_, rfl⟩
      have hsl := fun w => arr_slice_l (P := Tryd.prog) .u64 124 5 64 b r Tryd.underlying124 size1 hr64 8 w
      go_wp2_with fail
      have HN := Lib.hid hn
      have HR := Lib.hid hr
      have HL := Lib.hid hlen
      have Hl := Lib.hid hl
      have HS := Lib.hid hS
      have HRR := Lib.hid hR
      have hn1 : n ≤ s'.size := by rw [hn]; exact Nat.min_le_left _ _
      have hn0 : 0 < n := by rw [hn]; exact Nat.lt_min.2 ⟨by omega, by omega⟩
      have hn2 : n ≤ 64 - r := by rw [hn]; exact Nat.min_le_right _ _
      have hfit : 8 + r + n ≤ (hcells f l m'.length).size := by rw [hcells_size, hl]; clear hn; omega
      clear hn hr hlen hl hS hR
      go_region_law (refine step_copy_min rfl (.tmp 16) (.tmp 17) 51 9 rfl 5 Tryd.underlying51 infoByte b (8 + r) (64 - r) (64 - r) n (by simp [Act.eval, Act.put]) s' (by simp [Act.eval, Act.put]) (hcells f l m'.length) 126 hH1.out HN.out hfit ?_)
      generalize hw2 : World.setRow _ _ _ = w2
      have hx : (s'.data.toList.take n).length = n := by rw [List.length_take, ← Lib.size_eq]; omega
      have hH2 : Has w2 b (hcells f (l.take r ++ s'.data.toList.take n ++ l.drop (r + n)) m'.length) 126 := by
        rw [← hw2, ← hcells_splice f l _ m'.length r n hx (by rw [Hl.out]; omega)]
        exact Has.row (w := wr.drew) hH1 _
      have hgr2 : w.grownBy w2 (some b) := by rw [← hw2]; exact gb_setRow (gb_drewN hgr 1) _
      clear hw2 hH1 hgr c72 f72
      obtain ⟨l2, hl2⟩ : ∃ l2, l2 = l.take r ++ s'.data.toList.take n ++ l.drop (r + n) := ⟨_, rfl⟩
      rw [← hl2] at hH2
      have hl264 : l2.length = 64 := by rw [hl2]; simp [Hl.out, hx]; omega
      have HL2 := Lib.hid hl2
      clear hl2
      have c72 := (hH2.cell 72).trans (hcells_taken f l2 _ hl264)
      have f72 := hH2.free 72
      have HL264 := Lib.hid hl264
      have HX := Lib.hid hx
      clear hl264 hx
      have HLm : m'.length ≤ 4611686018427387904 := by have := HL.out; omega
      have hst := hH2.set (i := 72) (.int .u64 ((m'.length : Int) + (n : Int)))
      rw [show ((m'.length : Int) + (n : Int)) = ((m'.length + n : Nat) : Int) by omega, hcells_setTaken f l2 _ _ HL264.out] at hst
      have hT2 := hT.grown (gb_setCell hgr2 72 (.int .u64 ((m'.length : Int) + (n : Int)))) (by intro e; cases e; exact hb1 rfl) (by intro e; cases e; exact hb2 rfl)
      have hext : Hid ((s'.extract n s'.size).data.toList = s'.data.toList.drop n) := Lib.extract_to_end s' n
      have hesz : Hid ((s'.extract n s'.size).size = s'.size - n) := by show _ = _; rw [Lib.size_eq, hext.out, List.length_drop, ← Lib.size_eq]
      have HE2 : Hid (m' ++ s'.data.toList.take n ++ (s'.extract n s'.size).data.toList = m ++ s.data.toList) := by
        show _ = _
        rw [hext.out, List.append_assoc, List.take_append_drop]; exact HE.out
      by_cases hfull : r + n = 64
      · have hz : (((m'.length : Int) + (n : Int)) % 64 == 0) = true := by rw [beq_iff_eq]; omega
        have HZ := Lib.hid hfull
        clear hfull
        go_wp2_with (go_at_call 96; refine (stir b f l2 (m'.length + n) HL264.out _ hT2 hst).mono ?_; rintro e w3 ⟨rfl, hg3, hH3⟩)
        refine ⟨⟨_, _, rfl, gb_trans (gb_setCell hgr2 _ _) hg3, ?_, HE2⟩, ?_⟩
        · rw [HL2.out] at hH3
          exact HsI.full HX.out HR.out HZ.out Hl.out hH3 (S8.of_at _) HS.out HRR.out
        · show (s'.extract n s'.size).size < s'.size
          rw [hesz.out]; omega
      · have hz : (((m'.length : Int) + (n : Int)) % 64 == 0) = false := by rw [beq_eq_false_iff_ne]; omega
        have HZ := Lib.hid hfull
        clear hfull
        go_wp2_with fail
        refine ⟨⟨_, _, rfl, gb_setCell hgr2 _ _, ?_, HE2⟩, ?_⟩
        · rw [HL2.out] at hst
          exact HsI.more HX.out HR.out (by have := HZ.out; omega) Hl.out hst HS.out HRR.out
        · show (s'.extract n s'.size).size < s'.size
          rw [hesz.out]; omega
end Go.Proofs.YtmpllagaeoolaaaDoor
/-
  The library contracts that this seat uses, laid at its own program (each one application of a contract that is proved once).
-/
namespace Go.Proofs
open Go.Shelf
def Tryd.lays105_ren : Go.Shelf.Ren := ⟨fun | 105 => 47 | 212 => 63 | 99 => 64 | 165 => 65 | 166 => 66 | 170 => 67 | 169 => 68 | 263 => 81 | 264 => 82 | 206 => 83 | 240 => 84 | 241 => 85 | 276 => 88 | 277 => 89 | n => n, fun | 9 => 9 | 3 => 3 | 4 => 4 | 20 => 20 | 0 => 0 | 46 => 44 | 109 => 93 | 5 => 5 | 72 => 97 | 76 => 100 | 51 => 106 | 146 => 112 | 53 => 82 | 148 => 114 | 70 => 95 | 37 => 51 | 75 => 99 | 127 => 116 | 164 => 118 | 80 => 56 | n => n, fun | n => n⟩
theorem Tryd.lays105 : Go.Proofs.Lays.n105 Tryd.prog Tryd.lays105_ren := {
  mixed := by kernel_rfl
  f99 := Tryd.func64.trans (congrArg some (by kernel_rfl))
  f105 := Tryd.func47.trans (congrArg some (by kernel_rfl))
  f165 := Tryd.func65.trans (congrArg some (by kernel_rfl))
  f166 := Tryd.func66.trans (congrArg some (by kernel_rfl))
  f169 := Tryd.func68.trans (congrArg some (by kernel_rfl))
  f170 := Tryd.func67.trans (congrArg some (by kernel_rfl))
  f206 := Tryd.func83.trans (congrArg some (by kernel_rfl))
  f212 := Tryd.func63.trans (congrArg some (by kernel_rfl))
  f240 := Tryd.func84.trans (congrArg some (by kernel_rfl))
  f241 := Tryd.func85.trans (congrArg some (by kernel_rfl))
  f263 := Tryd.func81.trans (congrArg some (by kernel_rfl))
  f264 := Tryd.func82.trans (congrArg some (by kernel_rfl))
  f276 := Tryd.func88.trans (congrArg some (by kernel_rfl))
  f277 := Tryd.func89.trans (congrArg some (by kernel_rfl))
  t0 := Tryd.underlying0
  a0 := Tryd.isAgg0
  z0 := Tryd.sizeOf0
  v0 := Tryd.zeroValue0
  t3 := Tryd.underlying3
  a3 := Tryd.isAgg3
  z3 := Tryd.sizeOf3
  v3 := Tryd.zeroValue3
  t4 := Tryd.underlying4
  a4 := Tryd.isAgg4
  z4 := Tryd.sizeOf4
  v4 := Tryd.zeroValue4
  t5 := Tryd.underlying5
  a5 := Tryd.isAgg5
  z5 := Tryd.sizeOf5
  v5 := Tryd.zeroValue5
  t9 := Tryd.underlying9
  a9 := Tryd.isAgg9
  z9 := Tryd.sizeOf9
  v9 := Tryd.zeroValue9
  t20 := Tryd.underlying20
  a20 := Tryd.isAgg20
  z20 := Tryd.sizeOf20
  v20 := Tryd.zeroValue20
  t37 := Tryd.underlying51
  a37 := Tryd.isAgg51
  z37 := Tryd.sizeOf51
  v37 := Tryd.zeroValue51
  t46 := Tryd.underlying44
  a46 := Tryd.isAgg44
  z46 := Tryd.sizeOf44
  v46 := Tryd.zeroValue44
  t51 := Tryd.underlying106
  a51 := Tryd.isAgg106
  z51 := Tryd.sizeOf106
  v51 := Tryd.zeroValue106
  t53 := Tryd.underlying82
  a53 := Tryd.isAgg82
  z53 := Tryd.sizeOf82
  v53 := Tryd.zeroValue82
  t70 := Tryd.underlying95
  a70 := Tryd.isAgg95
  z70 := Tryd.sizeOf95
  v70 := Tryd.zeroValue95
  t72 := Tryd.underlying97
  a72 := Tryd.isAgg97
  z72 := Tryd.sizeOf97
  v72 := Tryd.zeroValue97
  t75 := Tryd.underlying99
  a75 := Tryd.isAgg99
  z75 := Tryd.sizeOf99
  v75 := Tryd.zeroValue99
  t76 := Tryd.underlying100
  a76 := Tryd.isAgg100
  z76 := Tryd.sizeOf100
  v76 := Tryd.zeroValue100
  t109 := Tryd.underlying93
  a109 := Tryd.isAgg93
  z109 := Tryd.sizeOf93
  v109 := Tryd.zeroValue93
  t127 := Tryd.underlying116
  a127 := Tryd.isAgg116
  z127 := Tryd.sizeOf116
  v127 := Tryd.zeroValue116
  t146 := Tryd.underlying112
  a146 := Tryd.isAgg112
  z146 := Tryd.sizeOf112
  v146 := Tryd.zeroValue112
  t148 := Tryd.underlying114
  a148 := Tryd.isAgg114
  z148 := Tryd.sizeOf114
  v148 := Tryd.zeroValue114
  t164 := Tryd.underlying118
  a164 := Tryd.isAgg118
  z164 := Tryd.sizeOf118
  v164 := Tryd.zeroValue118 }
theorem Tryd.Builder_Extra_105 : Builder.Extra Tryd.prog Tryd.lays105_ren := {
  sizeBuilder := by kernel_rfl
  liesBuilder := by kernel_rfl
  t5 := Tryd.underlying5
  a5 := Tryd.isAgg5
  z5 := Tryd.sizeOf5
  v5 := Tryd.zeroValue5
  infoByte := by kernel_rfl
  cellsByte := by kernel_rfl
  sizeByte := by kernel_rfl
  neB5 := by decide }
open Go.RowKit Go.Lib in
theorem Tryd.strings_Repeat (s : ByteArray) (c : Nat) (w : World) (hc : c ≤ 9223372036854775807) (hlen : s.size * c ≤ 140737488355328) :
    Calls Tryd.prog 47 #[.string s, .int .i64 c] w fun e w' => e = .returned (.string ⟨(Lib.repeatL s.data.toList c).toArray⟩) ∧ Below w.heap.size w w' := Any.strings_Repeat Tryd.lays105 Tryd.Builder_Extra_105 s c w hc hlen
end Go.Proofs
namespace Go.Proofs.YtmpllagaeoolaaaDoor
open Go.RowKit Mem Sha

theorem bytesV_set (l : List UInt8) (i : Nat) (b : UInt8) : (bytesV l).setIfInBounds i (.int .u8 (b.toNat : Int)) = bytesV (l.set i b) := by
  apply Array.ext_getElem?
  intro j
  simp only [bytesV, Array.getElem?_setIfInBounds, List.getElem?_toArray, List.getElem?_map, List.getElem?_set, List.size_toArray, List.length_map]
  by_cases h : i = j
  · subst h; by_cases h2 : i < l.length <;> simp [h2]
  · simp [h]
theorem lenByte (n i : Nat) (X : Int) (hX : X = ((n : Int) * 8) / 2 ^ (8 * (7 - i))) : X % 256 = ((UInt8.ofNat (n * 8 / 2 ^ (8 * (7 - i)) % 256)).toNat : Int) := by
  have e : X = ((n * 8 / 2 ^ (8 * (7 - i)) : Nat) : Int) := by rw [hX]; simp
  rw [e, UInt8.toNat_ofNat']
  omega
def lenTo (n k : Nat) : List UInt8 := (lenBytes n).take k ++ List.replicate (8 - k) 0
theorem lenBytes_length (n : Nat) : (lenBytes n).length = 8 := by simp [lenBytes]
theorem lenTo_length (n k : Nat) (hk : k ≤ 8) : (lenTo n k).length = 8 := by simp [lenTo, lenBytes_length]; omega
theorem lenTo_next (n k : Nat) (hk : k < 8) : (lenTo n k).set k (UInt8.ofNat (n * 8 / 2 ^ (8 * (7 - k)) % 256)) = lenTo n (k + 1) := by
  have hl : ((lenBytes n).take k).length = k := by simp [lenBytes_length]; omega
  have hg : (lenBytes n)[k]'(by rw [lenBytes_length]; exact hk) = UInt8.ofNat (n * 8 / 2 ^ (8 * (7 - k)) % 256) := by simp [lenBytes]
  unfold lenTo
  rw [List.set_append_right _ _ (by omega), hl, Nat.sub_self, show 8 - k = (8 - (k + 1)) + 1 by omega, List.replicate_succ, List.set_cons_zero,
    List.take_succ_eq_append_getElem (by rw [lenBytes_length]; exact hk), hg, List.append_assoc]
  rfl

def zs (z : Nat) : ByteArray := ⟨(List.replicate z 0).toArray⟩
def lb (n : Nat) : ByteArray := ⟨(lenBytes n).toArray⟩
theorem zs_size (z : Nat) : (zs z).size = z := by show (List.replicate z (0 : UInt8)).toArray.size = z; simp
theorem lb_size (n : Nat) : (lb n).size = 8 := by show (lenBytes n).toArray.size = 8; simp [lenBytes_length]
theorem end_eq (n z : Nat) (hz : z = (119 - n % 64) % 64) : (⟨#[128]⟩ ++ zs z ++ lb n : ByteArray) = ⟨(Sha.ending n).toArray⟩ := by
  apply ByteArray.ext
  rw [ByteArray.data_append, ByteArray.data_append]
  apply Array.toList_inj.1
  rw [Array.toList_append, Array.toList_append, zs, lb, Sha.ending, ← hz]
  rfl
theorem zeros (z : Nat) (hz : z < 64) (w : World) : Calls Tryd.prog 47 #[.string ⟨#[0]⟩, .int .i64 (z : Int)] w fun e w' => e = .returned (.string (zs z)) ∧ Below w.heap.size w w' := by
  have h := Tryd.strings_Repeat ⟨#[0]⟩ z w (by omega) (by show 1 * z ≤ _; omega)
  have e : Lib.repeatL [0] z = List.replicate z 0 := by
    have := Lib.repeatL_replicate 0 1 z
    rw [Nat.mul_one] at this
    exact this
  rw [show (⟨#[0]⟩ : ByteArray).data.toList = [0] from rfl, e] at h
  exact h
theorem conv_bytes (wx : World) (b : Nat) (l : List UInt8) (c : Nat) (h : Has wx b (bytesV l) 5) :
    (Go.convert 51 9 (.slice (some ⟨b, 0, none⟩) l.length c)).run Tryd.prog wx = .ok (.string ⟨l.toArray⟩) wx := by
  have := run_convert_bytes_arg (P := Tryd.prog) wx 51 5 Tryd.underlying51 Tryd.underlying5 b 0 l.length c (l.map fun b => (b.toNat : Int)) (by simp) (fun i hi => by
    rw [Nat.zero_add, h.byte i hi]; simp [hi]) 9 Tryd.underlying9
  rw [this]
  simp [strOfNums, Function.comp_def]

set_option maxRecDepth 100000 in
set_option maxHeartbeats 1000000 in
theorem ending (n : Nat) (hn : n ≤ 1152921504606846976) (w : World) :
    Calls Tryd.prog 94 #[.int .u64 n] w fun e w' => e = .returned (.string ⟨(Sha.ending n).toArray⟩) ∧ Below w.heap.size w w' := by
  have hmk : ∀ w, (Instr.makeSlice 51 (.int .i64 8) (.int .i64 8)).run Tryd.prog w = .ok (.slice (some ⟨w.heap.size, 0, none⟩) 8 8) (w.alloc (.cells (bytesV (List.replicate 8 0)) 5)) := fun _ => by kernel_rfl
  go_enter Tryd.func94, Tryd.ntmps94
  go_wp2_with fail
  obtain ⟨z, hz0⟩ : ∃ z : Nat, z = (119 - n % 64) % 64 := ⟨_, rfl⟩
  have hz : (119 - (n : Int) % 64) % 64 = (z : Int) := by omega
  rw [hz]
  have HZ0 := Lib.hid hz0
  have hz64 : z < 64 := by omega
  clear hz hz0
  go_loopw [11] (fun i wr => ∃ k : Nat, k ≤ 8 ∧ i = .int .i64 k ∧ Below w.heap.size w wr ∧ Has wr w.heap.size (bytesV (lenTo n k)) 5) (fun i _ => 8 - (intOf i).toNat)
  case atStart => exact ⟨0, by omega, rfl, (Below.refl _ _).alloc (Nat.le_refl _) _, Has.new _ _⟩
  case round =>
    obtain ⟨k, hk, rfl, hbel, hH⟩ := hrel
    by_cases hlt : k < 8
    · have ck := hH.byte k (by rw [lenTo_length n k hk]; exact hlt)
      have cf := hH.free k
      go_wp2_with fail
      rw [lenByte n k _ rfl]
      refine ⟨⟨k + 1, by omega, by go_num, hbel.setCell (Nat.le_refl _) _, ?_⟩, by simp [intOf]; omega⟩
      rw [← lenTo_next n k hlt, ← bytesV_set]
      exact hH.set _
    · obtain rfl : k = 8 := by omega
      go_wp2_with fail
      have hlt8 : lenTo n 8 = lenBytes n := by simp [lenTo, List.take_of_length_le, lenBytes_length]
      rw [hlt8] at hH
      have hconv : ∀ wx, Has wx w.heap.size (bytesV (lenBytes n)) 5 → (Go.convert 51 9 (.slice (some ⟨w.heap.size, 0, none⟩) 8 8)).run Tryd.prog wx = .ok (.string (lb n)) wx := fun wx h => by
        have := conv_bytes wx w.heap.size (lenBytes n) 8 h
        rwa [lenBytes_length] at this
      have hwr : IntKind.i64.wrap (z : Int) = (z : Int) := IntWalk.i64_in _ (by omega)
      clear hlt8
      have hs1 := zs_size z
      have hs2 := lb_size n
      have hs3 : (zs z).size ≤ 64 := by omega
      have hs4 : (lb n).size ≤ 8 := by omega
      clear hs1 hs2
      have hHd : Has wr.drew w.heap.size (bytesV (lenBytes n)) 5 := hH
      go_region_with ((go_at_call 47; (with_reducible refine (zeros z hz64 _).mono ?_); rintro e w1 ⟨rfl, hb1⟩; have h1 := below_has hb1 hH hH.lt))
      all_goals
        go_wp2_with fail
        go_ret
        refine ⟨?_, hbel.drew.trans (hb1.mono hbel.size)⟩
        rw [← end_eq n z HZ0.out]
        rfl
end Go.Proofs.YtmpllagaeoolaaaDoor
namespace Go.Proofs.YtmpllagaeoolaaaDoor
open Go.RowKit Mem Sha

def nameTo (s : S8) (k : Nat) : List UInt8 := (nameOf s).take k ++ List.replicate (32 - k) 0
theorem nameOf_length (s : S8) : (nameOf s).length = 32 := by simp [nameOf]
theorem nameTo_length (s : S8) (k : Nat) (hk : k ≤ 32) : (nameTo s k).length = 32 := by simp [nameTo, nameOf_length]; omega
theorem nameTo_next (s : S8) (k : Nat) (hk : k < 32) : (nameTo s k).set k (UInt8.ofNat ((s.at (k / 4)).toNat / 2 ^ (24 - 8 * (k % 4)) % 256)) = nameTo s (k + 1) := by
  have hl : ((nameOf s).take k).length = k := by simp [nameOf_length]; omega
  have hg : (nameOf s)[k]'(by rw [nameOf_length]; exact hk) = UInt8.ofNat ((s.at (k / 4)).toNat / 2 ^ (24 - 8 * (k % 4)) % 256) := by simp [nameOf]
  unfold nameTo
  rw [List.set_append_right _ _ (by omega), hl, Nat.sub_self, show 32 - k = (32 - (k + 1)) + 1 by omega, List.replicate_succ, List.set_cons_zero,
    List.take_succ_eq_append_getElem (by rw [nameOf_length]; exact hk), hg, List.append_assoc]
  rfl
theorem nameByte (x : BitVec 32) (m : Nat) : Wd.n x / (2 : Int) ^ m % 256 = ((UInt8.ofNat (x.toNat / 2 ^ m % 256)).toNat : Int) := by
  have e : Wd.n x / (2 : Int) ^ m = ((x.toNat / 2 ^ m : Nat) : Int) := by unfold Wd.n; simp
  rw [e, UInt8.toNat_ofNat']
  omega
theorem info42 : (Tryd.prog.info? 107).map (·.size) = some 8 := by kernel_rfl
theorem infoHash : (Tryd.prog.info? 24).map (·.size) = some 32 := by kernel_rfl
set_option maxRecDepth 100000 in
theorem index8w (f : Nat → W32) (k : Nat) (hk : k < 8) (w : World) : (Instr.index 107 (.agg #[.int .u32 (Wd.n (f 0)), .int .u32 (Wd.n (f 1)), .int .u32 (Wd.n (f 2)), .int .u32 (Wd.n (f 3)), .int .u32 (Wd.n (f 4)), .int .u32 (Wd.n (f 5)), .int .u32 (Wd.n (f 6)), .int .u32 (Wd.n (f 7))]) (.int .i64 (k : Int))).run Tryd.prog w = .ok (.int .u32 (Wd.n (f k))) w := by
  obtain rfl | rfl | rfl | rfl | rfl | rfl | rfl | rfl : k = 0 ∨ k = 1 ∨ k = 2 ∨ k = 3 ∨ k = 4 ∨ k = 5 ∨ k = 6 ∨ k = 7 := by omega
  all_goals rfl
set_option maxRecDepth 100000 in
theorem of_at (f : Nat → W32) (k : Nat) (hk : k < 8) : (S8.of f).at k = f k := by
  obtain rfl | rfl | rfl | rfl | rfl | rfl | rfl | rfl : k = 0 ∨ k = 1 ∨ k = 2 ∨ k = 3 ∨ k = 4 ∨ k = 5 ∨ k = 6 ∨ k = 7 := by omega
  all_goals rfl
structure Nam (w wr : World) (f : Nat → W32) (k : Nat) : Prop where
  below : Below w.heap.size w wr
  res : ∃ cs, cs.size = 32 ∧ Has wr w.heap.size cs 24
  out : Has wr (w.heap.size + 1) (bytesV (nameTo (S8.of f) k)) 24
theorem Nam.next {w wr : World} {f : Nat → W32} {k j : Nat} (h : Nam w wr f (4 * k + j)) (hk : k < 8) (hj : j < 4) :
    Nam w (wr.setCell ⟨w.heap.size + 1, 4 * k + j, none⟩ (.int .u8 (Wd.n (f k) / (2 : Int) ^ (24 - 8 * j) % 256))) f (4 * k + (j + 1)) where
  below := h.below.setCell (by simp) _
  res := by obtain ⟨cs, h1, h2⟩ := h.res; exact ⟨cs, h1, h2.other _ _ (by simp)⟩
  out := by
    rw [nameByte, ← of_at f k hk, show 4 * k + (j + 1) = 4 * k + j + 1 by omega, ← nameTo_next _ _ (by omega), show (4 * k + j) / 4 = k by omega, show (4 * k + j) % 4 = j by omega, ← bytesV_set]
    exact h.out.set _

def hz32 : Array Value := #[.int .u8 0, .int .u8 0, .int .u8 0, .int .u8 0, .int .u8 0, .int .u8 0, .int .u8 0, .int .u8 0, .int .u8 0, .int .u8 0, .int .u8 0, .int .u8 0, .int .u8 0, .int .u8 0, .int .u8 0, .int .u8 0, .int .u8 0, .int .u8 0, .int .u8 0, .int .u8 0, .int .u8 0, .int .u8 0, .int .u8 0, .int .u8 0, .int .u8 0, .int .u8 0, .int .u8 0, .int .u8 0, .int .u8 0, .int .u8 0, .int .u8 0, .int .u8 0]
theorem hz32_size : hz32.size = 32 := rfl
theorem hz32_eq (s : S8) : bytesV (nameTo s 0) = hz32 := rfl
theorem Nam.start (w : World) (f : Nat → W32) : Nam w ((w.alloc (.cells hz32 24)).alloc (.cells hz32 24)) f (4 * 0 + 0) where
  below := ((Below.refl _ _).alloc (Nat.le_refl _) _).alloc (by simp) _
  res := ⟨hz32, rfl, (Has.new _ _).alloc _⟩
  out := by
    rw [show 4 * 0 + 0 = 0 from rfl, hz32_eq]
    have := Has.new (w := w.alloc (.cells hz32 24)) hz32 24
    rwa [World.size_alloc] at this

set_option maxRecDepth 100000 in
set_option maxHeartbeats 1000000 in
theorem name (b : Nat) (f : Nat → W32) (l : List UInt8) (t : Nat) (w : World) (hH : Has w b (hcells f l t) 126) :
    Calls Tryd.prog 95 #[.pointer (some ⟨b, 0, none⟩)] w fun e w' => e = .returned (.agg (bytesV (nameOf (S8.of f)))) ∧ Below w.heap.size w w' := by
  have hrange : ∀ w1, Below w.heap.size w w1 → w1.rangeAt b 0 ((List.range 8).map fun i => Value.int .u32 (Wd.n (f i))) := fun w1 h1 j v hv => by
    have hj : j < 8 := by
      by_cases h : j < 8
      · exact h
      · rw [List.getElem?_eq_none (by simp; omega)] at hv; cases hv
    rw [Nat.zero_add, (below_has h1 hH hH.lt).cell, hcells_state f l t j hj]
    simpa [hj] using hv
  have hr2 : ∀ o1 o2, ((w.alloc o1).alloc o2).rangeAt b 0 ((List.range 8).map fun i => Value.int .u32 (Wd.n (f i))) := fun o1 o2 => hrange _ (((Below.refl _ _).alloc (Nat.le_refl _) o1).alloc (by simp) o2)
  have HR := Lib.hid hr2
  clear hrange hr2
  go_enter Tryd.func95, Tryd.ntmps95
  go_wp2_with (with_reducible refine wpList_load_mid rfl 107 _ rfl b 0 rfl ((List.range 8).map fun i => Value.int .u32 (Wd.n (f i))) _ (HR.out _ _) Tryd.underlying107 rfl (info42.trans (by simp)) ?_)
  go_loopw [11] (fun i wr => ∃ k : Nat, k ≤ 8 ∧ i = .int .i64 k ∧ Nam w wr f (4 * k + 0)) (fun i _ => 8 - (intOf i).toNat)
  case atStart => exact ⟨0, by omega, rfl, Nam.start w f⟩
  case round =>
    obtain ⟨k, hk, rfl, hs⟩ := hrel
    by_cases hlt : k < 8
    · have hidx := index8w f k hlt
      go_wp2_with fail
      clear hidx
      go_loopw [15] (fun i wr => ∃ j : Nat, j ≤ 4 ∧ i = .int .i64 j ∧ Nam w wr f (4 * k + j)) (fun i _ => 4 - (intOf i).toNat)
      case atStart => exact ⟨0, by omega, rfl, hs⟩
      case round =>
        obtain ⟨j, hj, rfl, ht⟩ := hrel
        by_cases hjl : j < 4
        · have c1 := ht.out.byte (4 * k + j) (by rw [nameTo_length _ _ (by omega)]; omega)
          have c2 := ht.out.free (4 * k + j)
          go_wp2_with fail
          go_roundw
          case rel => exact ⟨j + 1, by omega, by go_num, ht.next hlt hjl⟩
          case measure => simp [intOf]; omega
        · obtain rfl : j = 4 := by omega
          go_wp2_with fail
          go_roundw
          case rel => exact ⟨k + 1, by omega, by go_num, ht⟩
          case measure => simp [intOf]; omega
    · obtain rfl : k = 8 := by omega
      have hout := hs.out
      have hbel := hs.below
      obtain ⟨rs, hrs, hres⟩ := hs.res
      have e : nameTo (S8.of f) (4 * 8 + 0) = nameOf (S8.of f) := by simp [nameTo, List.take_of_length_le, nameOf_length]
      rw [e] at hout
      clear hs e
      have HZ := Lib.hid (bytesV_one (nameOf (S8.of f)))
      have hsz : some (bytesV (nameOf (S8.of f))).size = some 32 := by rw [bytesV_size, nameOf_length]
      have HS := Lib.hid hsz
      have HRS := Lib.hid hrs
      clear hsz hrs
      generalize hcs : bytesV (nameOf (S8.of f)) = cs at *
      go_wp2_with (first
        | (with_reducible refine wpList_load_row rfl 24 _ rfl _ rfl 24 cs (0, 0) _ hout.out Tryd.underlying24 rfl (infoHash.trans HS.out.symm) ?_)
        | (with_reducible refine wpList_store_row rfl 24 _ _ rfl _ _ rfl rfl 24 _ hres.out (infoHash.trans HS.out.symm) (HRS.out.trans (Option.some.inj HS.out).symm) HZ.out ?_))
      exact bodyPost_ret (v := .agg cs) (results_cell_row Tryd.results95 _ _ w.heap.size 24 cs (0, 0) _ rfl (hres.row cs).out Tryd.underlying24 rfl (infoHash.trans HS.out.symm)) rfl ⟨by rw [hcs], below_setRow hbel (by omega) _⟩
end Go.Proofs.YtmpllagaeoolaaaDoor
namespace Go.Proofs.YtmpllagaeoolaaaDoor
open Go.RowKit Mem Sha

structure Nws (w wr : World) (k : Nat) : Prop where
  below : Below w.heap.size w wr
  hsh : ∃ g, Has wr w.heap.size (hcells g (List.replicate 64 0) 0) 126 ∧ (∀ j, j < k → g j = Sha.start.at j)
theorem Nws.next {w wr : World} {k : Nat} (h : Nws w wr k) (hk : k < 8) {g : Nat → W32} (hg : Has wr w.heap.size (hcells g (List.replicate 64 0) 0) 126) (h1 : ∀ j, j < k → g j = Sha.start.at j) :
    Nws w (wr.setCell ⟨w.heap.size, k, none⟩ (.int .u32 (Wd.n (Sha.start.at k)))).drew (k + 1) where
  below := (h.below.setCell (by simp) _).drew
  hsh := by
    refine ⟨_, by have := (hg.set (i := k) (.int .u32 (Wd.n (Sha.start.at k)))).drew; rw [hcells_setState _ _ _ _ _ hk] at this; exact this, fun j hj => ?_⟩
    unfold upd
    by_cases e : j = k
    · rw [if_pos e, e]
    · rw [if_neg e]; exact h1 j (by omega)
def zhash : Array Value := hcells (fun _ => 0) (List.replicate 64 0) 0
theorem zeroHash (w : World) : (zeroValue 126).run Tryd.prog w = .ok (.agg zhash) w := by kernel_rfl

set_option maxRecDepth 100000 in
set_option maxHeartbeats 1000000 in
theorem new (w : World) (hT : Tab w) :
    Calls Tryd.prog 90 #[] w fun e w' => e = .returned (.pointer (some ⟨w.heap.size, 0, none⟩)) ∧ Below w.heap.size w w' ∧ HsI w' w.heap.size [] := by
  have hzv := zeroHash
  go_enter Tryd.func90, Tryd.ntmps90
  go_wp2_with fail
  clear hzv
  go_loopw [4] (fun i wr => ∃ k : Nat, k ≤ 8 ∧ i = .int .i64 k ∧ Nws w wr k) (fun i _ => 8 - (intOf i).toNat)
  case atStart => exact ⟨0, by omega, rfl, (Below.refl _ _).alloc (Nat.le_refl _) _, _, Has.new _ _, fun j hj => absurd hj (by omega)⟩
  case round =>
    obtain ⟨k, hk, rfl, hs⟩ := hrel
    obtain ⟨g, hg, h1⟩ := hs.hsh
    by_cases hlt : k < 8
    · have H1 := Lib.hid h1
      clear h1
      have ck := (hg.cell k).trans (hcells_state g _ _ k hlt)
      have cf := hg.free k
      have cs := (hT.below hs.below).s k hlt
      go_wp2_with fail
      go_region
      go_wp2_with fail
      exact ⟨⟨k + 1, by omega, by go_num, hs.next hlt hg H1.out⟩, by simp [intOf]; omega⟩
    · obtain rfl : k = 8 := by omega
      have hbel := hs.below
      have hI : HsI wr w.heap.size [] := by
        refine ⟨g, _, hg, by simp, ?_, by simp⟩
        show S8.of g = Sha.start
        unfold S8.of
        rw [h1 0 (by omega), h1 1 (by omega), h1 2 (by omega), h1 3 (by omega), h1 4 (by omega), h1 5 (by omega), h1 6 (by omega), h1 7 (by omega)]
        rfl
      clear h1 hs
      go_wp2_with fail
      go_ret
      exact ⟨rfl, hbel, hI⟩
end Go.Proofs.YtmpllagaeoolaaaDoor
namespace Go.Proofs.YtmpllagaeoolaaaDoor
open Go.RowKit Mem Sha

def flat (ps : List ByteArray) : List UInt8 := ps.flatMap (·.data.toList)
theorem flat_next (ps : List ByteArray) (k : Nat) (hk : k < ps.length) : flat (ps.take (k + 1)) = flat (ps.take k) ++ ps[k].data.toList := by
  unfold flat
  rw [List.take_succ_eq_append_getElem hk, List.flatMap_append]
  simp
theorem flat_le (ps : List ByteArray) (k : Nat) : (flat (ps.take k)).length ≤ (flat ps).length := by
  have e : flat ps = flat (ps.take k) ++ flat (ps.drop k) := by unfold flat; rw [← List.flatMap_append, List.take_append_drop]
  rw [e, List.length_append]; omega
/-- the parts lie where a slice says -/
def Parts (w : World) (a : Option Addr) (b : Nat) (ps : List ByteArray) : Prop :=
  0 < ps.length → ∃ ab ao, a = some ⟨ab, ao, none⟩ ∧ ab ≠ b ∧ ∀ i (hi : i < ps.length), w.cell? ⟨ab, ao + i, none⟩ = some (.string ps[i])

set_option maxRecDepth 100000 in
set_option maxHeartbeats 1000000 in
theorem write (b : Nat) (m : List UInt8) (a : Option Addr) (ps : List ByteArray) (n c : Nat) (hn : n = ps.length) (w : World) (hT : Tab w) (hb1 : b ≠ 3) (hb2 : b ≠ 2)
    (hm : m.length + (flat ps).length ≤ 4611686018427387904) (hl : n ≤ 4611686018427387904) (hP : Parts w a b ps) (hH : HsI w b m) :
    Calls Tryd.prog 91 #[.pointer (some ⟨b, 0, none⟩), .slice a n c] w fun e w' => e = .returned (.tuple #[]) ∧ w.grownBy w' (some b) ∧ HsI w' b (m ++ flat ps) := by
  have HN := Lib.hid hn
  have HP := Lib.hid hP
  clear hn hP
  go_enter Tryd.func91, Tryd.ntmps91
  go_wp2_with fail

  go_loopw [10] (fun i wr => ∃ k : Nat, k ≤ n ∧ i = .int .i64 k ∧ w.grownBy wr (some b) ∧ HsI wr b (m ++ flat (ps.take k))) (fun i _ => n - (intOf i).toNat)
  case atStart => exact ⟨0, by omega, rfl, gb_refl _ _, by simpa [flat] using hH⟩
  case round =>
    obtain ⟨k, hk, rfl, hg, hI⟩ := hrel
    by_cases hlt : k < n
    · have hkl : k < ps.length := by rw [← HN.out]; exact hlt
      obtain ⟨ab, ao, rfl, hab, hc⟩ := HP.out (by omega)
      have ck := World.grownBy.cell hg (hc k hkl) (by intro e; cases e; exact hab rfl)
      have hT2 := hT.grown hg (by intro e; cases e; exact hb1 rfl) (by intro e; cases e; exact hb2 rfl)
      have hsz : (m ++ flat (ps.take k)).length + ps[k].size ≤ 4611686018427387904 := by
        have h1 := flat_le ps (k + 1)
        rw [flat_next ps k hkl, List.length_append, ← Lib.size_eq] at h1
        rw [List.length_append]; omega
      have hI2 : ∀ w', HsI w' b (m ++ flat (ps.take k) ++ ps[k].data.toList) → HsI w' b (m ++ flat (ps.take (k + 1))) := fun w' h => by
        rw [flat_next ps k hkl, ← List.append_assoc]; exact h
      have HI2 := Lib.hid hI2
      have HSZ := Lib.hid hsz
      clear hsz hc hI2
      generalize ps[k] = s at *
      go_wp2_with (go_at_call 93; (with_reducible refine (take b _ s _ hT2 hb1 hb2 HSZ.out hI).mono ?_); rintro e w3 ⟨rfl, hg3, hI3⟩)
      go_roundw
      case rel => exact ⟨k + 1, by omega, by go_num, gb_trans hg hg3, HI2.out _ hI3⟩
      case measure => simp [intOf]; omega
    · obtain rfl : k = n := by omega
      rw [HN.out, List.take_length] at hI
      go_wp2_with fail
      go_end0
      exact ⟨rfl, hg, hI⟩
theorem write_nil (a : Option Addr) (n c : Nat) (w : World) :
    Calls Tryd.prog 91 #[.pointer none, .slice a n c] w fun e w' => e = .returned (.tuple #[]) ∧ w = w' := by
  go_enter Tryd.func91, Tryd.ntmps91
  go_wp2_with fail
  exact bodyPost_ret (v := .tuple #[]) (by simp [results, Tryd.results91, go_sem]) rfl ⟨rfl, rfl⟩
end Go.Proofs.YtmpllagaeoolaaaDoor
namespace Go.Proofs.YtmpllagaeoolaaaDoor
open Go.RowKit Mem Sha

theorem infoHasher : (Tryd.prog.info? 126).map (·.size) = some 73 := by kernel_rfl
theorem hcells_one (f l t) : (hcells f l t).all (·.oneCell') = true := by
  rw [Array.all_eq_true_iff_forall_mem]
  intro v hv
  simp only [hcells, Array.mem_append] at hv
  rcases hv with (hv | hv) | hv
  · exact Array.all_eq_true_iff_forall_mem.1 (words_one f 8) v hv
  · exact Array.all_eq_true_iff_forall_mem.1 (bytesV_one l) v hv
  · simp at hv; subst hv; rfl
theorem HsI.below {w w' : World} {b B : Nat} {m : List UInt8} (h : HsI w b m) (hb : Below B w w') (hB : b < B) : HsI w' b m := by
  obtain ⟨f, l, h1, h2⟩ := h
  exact ⟨f, l, below_has hb h1 hB, h2⟩
theorem zhash_size : zhash.size = 73 := by unfold zhash; rw [hcells_size]; rfl
theorem ending_length (n : Nat) : (Sha.ending n).length ≤ 80 := by simp [Sha.ending, lenBytes]; omega

set_option maxRecDepth 100000 in
set_option maxHeartbeats 1000000 in
theorem sum (b : Nat) (m : List UInt8) (w : World) (hT : Tab w) (hm : m.length ≤ 1152921504606846976) (hH : HsI w b m) :
    Calls Tryd.prog 92 #[.pointer (some ⟨b, 0, none⟩)] w fun e w' => e = .returned (.agg (bytesV (sha m))) ∧ Below w.heap.size w w' := by
  have hblt := hH.lt
  obtain ⟨f, l, hHb, hl, hS, hR⟩ := hH
  have HL := Lib.hid hl
  have HSR := Lib.hid (And.intro hS hR)
  clear hl hS hR
  have hzv := zeroHash
  have hHa : ∀ o, Has (w.alloc o) b (hcells f l m.length) 126 := fun o => hHb.alloc o
  have hsz : some (hcells f l m.length).size = some 73 := by rw [hcells_size, HL.out]
  have HSZ := Lib.hid hsz
  have HO := Lib.hid (hcells_one f l m.length)
  clear hsz
  go_enter Tryd.func92, Tryd.ntmps92
  go_upto_region 4 with (first
    | (with_reducible refine wpList_load_row rfl 126 _ rfl b rfl 126 (hcells f l m.length) (0, 0) _ (hHa _).out Tryd.underlying126 rfl (infoHasher.trans HSZ.out.symm) ?_)
    | (with_reducible refine wpList_store_row rfl 126 _ _ rfl _ (hcells f l m.length) rfl rfl 126 _ (heap_alloc2_new w _ _) (infoHasher.trans HSZ.out.symm) (zhash_size.trans (Option.some.inj (HSZ.out.symm))) HO.out ?_))
  generalize hw1 : World.setRow _ _ _ = w1
  have hB1 : Below w.heap.size w w1 := by rw [← hw1]; exact below_setRow (((Below.refl _ _).alloc (Nat.le_refl _) _).alloc (by simp) _) (by simp) _
  have hE1 : Has w1 (w.heap.size + 1) (hcells f l m.length) 126 := by
    rw [← hw1]
    exact Has.row (cs := zhash) (heap_alloc2_new w _ _) _
  have hR1 : ∃ cs, cs.size = 32 ∧ Has w1 w.heap.size cs 24 := by
    refine ⟨hz32, rfl, ?_⟩
    rw [← hw1]
    exact Has.otherRow (heap_alloc2_old w _ _) _ _ (by omega)
  clear hw1 hzv hHa
  have hI1 : HsI w1 (w.heap.size + 1) m := ⟨f, l, hE1, HL.out, HSR.out.1, HSR.out.2⟩
  have hH1 := below_has hB1 hHb hblt
  have c72 := (hH1.cell 72).trans (hcells_taken f l _ HL.out)
  have hT1 := hT.below hB1
  clear hE1
  have hne1 : w.heap.size + 1 ≠ 3 := by have := hT.lt; omega
  have hne2 : w.heap.size + 1 ≠ 2 := by have := hT.lt; omega
  have hel := ending_length m.length
  have HSum : ∀ f3, S8.of f3 = pressAll ((m ++ (⟨(Sha.ending m.length).toArray⟩ : ByteArray).data.toList).length / 64) Sha.start (m ++ (⟨(Sha.ending m.length).toArray⟩ : ByteArray).data.toList) → nameOf (S8.of f3) = sha m := fun f3 h => by
    rw [h]; rfl
  have HSum := Lib.hid HSum
  obtain ⟨es, hes⟩ : ∃ es : ByteArray, es = ⟨(Sha.ending m.length).toArray⟩ := ⟨_, rfl⟩
  have hess : es.size ≤ 80 := by rw [hes]; show (Sha.ending m.length).toArray.size ≤ 80; simpa using hel
  rw [← hes] at HSum
  have HES := Lib.hid hes
  clear hes hel
  go_wp2_with (go_at_call 94; (with_reducible refine (ending m.length hm _).mono ?_); rintro e w2 ⟨rfl, hb2⟩)
  rw [← HES.out]
  have hT2 := hT1.below hb2
  have hI2 := hI1.below hb2 hI1.lt
  have hR2 : ∃ cs, cs.size = 32 ∧ Has w2 w.heap.size cs 24 := by obtain ⟨cs, h1, h2⟩ := hR1; exact ⟨cs, h1, below_has hb2 h2 h2.lt⟩
  have hB2 := hB1.trans (hb2.mono hB1.size)
  clear hR1 hI1 hT1 hb2 hB1 hH1 c72
  go_wp2_with (go_at_call 93; (with_reducible refine (take (w.heap.size + 1) m es _ hT2 hne1 hne2 (by omega) hI2).mono ?_); rintro e w3 ⟨rfl, hg3, hI3⟩)
  obtain ⟨f3, l3, hH3, hl3, hS3, hR3⟩ := hI3
  have HN3 := Lib.hid (HSum.out f3 hS3)
  have hB3 := hB2.trans (gb_toBelow hg3 (by omega) hB2.size)
  obtain ⟨cs, hcs, hcs2⟩ := hR2
  have hres3 := gb_has hg3 hcs2 (by intro e; have := Option.some.inj e; omega)
  have HCS := Lib.hid hcs
  clear hl3 hS3 hR3 HSum hcs hcs2 hI2 hT2 hg3
  refine (name (w.heap.size + 1) f3 l3 _ _ hH3).mono ?_
  rintro e w4 ⟨rfl, hb4⟩
  rw [HN3.out]
  have hres4 := below_has hb4 hres3 hres3.lt
  have hB4 := hB3.trans (hb4.mono hB3.size)
  have HO2 := Lib.hid (bytesV_one (sha m))
  have hsz2 : some (bytesV (sha m)).size = some 32 := by rw [bytesV_size]; exact congrArg some (nameOf_length _)
  have HS2 := Lib.hid hsz2
  clear hsz2 hres3 hb4 hB3 hB2 hH3
  generalize hcs3 : bytesV (sha m) = rs at *
  go_wp2_with (with_reducible refine wpList_store_row rfl 24 _ _ rfl _ rs rfl rfl 24 _ hres4.out (infoHash.trans HS2.out.symm) (HCS.out.trans (Option.some.inj HS2.out).symm) HO2.out ?_)
  exact bodyPost_ret (v := .agg rs) (results_cell_row Tryd.results92 _ _ w.heap.size 24 rs (0, 0) _ rfl (hres4.row rs).out Tryd.underlying24 rfl (infoHash.trans HS2.out.symm)) rfl ⟨by rw [hcs3], below_setRow hB4 (by omega) _⟩
theorem infoHash32 : (Tryd.prog.info? 24).map (·.size) = some hz32.size := infoHash
theorem hz32_one : hz32.all (·.oneCell') = true := by kernel_rfl
theorem sum_nil (w : World) : Calls Tryd.prog 92 #[.pointer none] w fun e w' => e = .returned (.agg (bytesV (List.replicate 32 0))) ∧ Below w.heap.size w w' := by
  go_enter Tryd.func92, Tryd.ntmps92
  go_upto_region 1 with fail
  generalize hw1 : World.alloc _ _ = w1
  have hres : Has w1 w.heap.size hz32 24 := by rw [← hw1]; exact Has.new _ _
  have hbel : Below w.heap.size w w1 := by rw [← hw1]; exact (Below.refl _ _).alloc (Nat.le_refl _) _
  clear hw1
  go_upto_region 2 with fail
  go_wp2_with (refine wpList_store_row rfl 24 (.tmp 2) (.tmp 6) rfl w.heap.size hz32 rfl rfl 24 hz32 hres.out infoHash32 rfl hz32_one ?_)
  exact bodyPost_ret (v := .agg hz32) (results_cell_row Tryd.results92 _ _ w.heap.size 24 hz32 (0, 0) _ rfl (hres.row hz32).out Tryd.underlying24 rfl infoHash32) rfl ⟨rfl, below_setRow hbel (Nat.le_refl _) _⟩
end Go.Proofs.YtmpllagaeoolaaaDoor
namespace Go.Proofs.YtmpllagaeoolaaaDoor
open Go.RowKit Mem Sha

/-- the parts lie where a slice says -/
def PartsW (w : World) (a : Option Addr) (ps : List ByteArray) : Prop :=
  0 < ps.length → ∃ ab ao, a = some ⟨ab, ao, none⟩ ∧ ∀ i (hi : i < ps.length), w.cell? ⟨ab, ao + i, none⟩ = some (.string ps[i])
theorem PartsW.parts {w w1 : World} {a : Option Addr} {ps : List ByteArray} (h : PartsW w a ps) (hb : Below w.heap.size w w1) (b : Nat) (hB : w.heap.size ≤ b) : Parts w1 a b ps := fun h0 => by
  obtain ⟨ab, ao, ha, hc⟩ := h h0
  have hlt : ab < w.heap.size := block_lt_of_cell (hc 0 h0)
  exact ⟨ab, ao, ha, by omega, fun i hi => (hb.cell (p := ⟨ab, ao + i, none⟩) hlt).trans (hc i hi)⟩

theorem PartsW.below {w w1 : World} {a : Option Addr} {ps : List ByteArray} (h : PartsW w a ps) (hb : Below w.heap.size w w1) : PartsW w1 a ps := fun h0 => by
  obtain ⟨ab, ao, ha, hc⟩ := h h0
  have hlt : ab < w.heap.size := block_lt_of_cell (hc 0 h0)
  exact ⟨ab, ao, ha, fun i hi => (hb.cell (p := ⟨ab, ao + i, none⟩) hlt).trans (hc i hi)⟩
theorem PartsW.one {w : World} {b : Nat} {s : ByteArray} (h : w.cell? ⟨b, 0, none⟩ = some (.string s)) : PartsW w (some ⟨b, 0, none⟩) [s] := fun _ =>
  ⟨b, 0, rfl, fun i hi => by
    obtain rfl : i = 0 := by simpa using hi
    exact h⟩
theorem flat_one (s : ByteArray) : flat [s] = s.data.toList := by simp [flat]
set_option maxRecDepth 100000 in
set_option maxHeartbeats 1000000 in
theorem of (a : Option Addr) (ps : List ByteArray) (n c : Nat) (hn : n = ps.length) (w : World) (hT : Tab w)
    (hm : (flat ps).length ≤ 1152921504606846976) (hl : n ≤ 4611686018427387904) (hP : PartsW w a ps) :
    Calls Tryd.prog 86 #[.slice a n c] w fun e w' => e = .returned (.agg (bytesV (sha (flat ps)))) ∧ Below w.heap.size w w' := by
  have HN := Lib.hid hn
  have HP := Lib.hid hP
  clear hn hP
  go_enter Tryd.func86, Tryd.ntmps86
  go_upto_region 1 with fail
  generalize hw1 : World.alloc _ _ = w1
  have hres : Has w1 w.heap.size hz32 24 := by rw [← hw1]; exact Has.new _ _
  have hbel : Below w.heap.size w w1 := by rw [← hw1]; exact (Below.refl _ _).alloc (Nat.le_refl _) _
  have hT1 := hT.below hbel
  have h01 := hres.lt
  clear hw1
  go_wp2_with fail
  refine (new w1 hT1).mono ?_
  rintro e w2 ⟨rfl, hb2, hI2⟩
  have hT2 := hT1.below hb2
  have hB2 := hbel.trans (hb2.mono hbel.size)
  have hres2 := below_has hb2 hres h01
  have hP2 := HP.out.parts hB2 w1.heap.size hbel.size
  have hne1 : w1.heap.size ≠ 3 := by have := hT1.lt; omega
  have hne2 : w1.heap.size ≠ 2 := by have := hT1.lt; omega
  have HP2 := Lib.hid hP2
  clear hP2 hT1 hb2
  go_wp2_with fail
  refine (write w1.heap.size [] a ps n c HN.out _ hT2 hne1 hne2 (by simp; omega) hl HP2.out hI2).mono ?_
  rintro e w3 ⟨rfl, hg3, hI3⟩
  have hT3 := hT2.grown hg3 (by intro e; exact hne1 (Option.some.inj e).symm) (by intro e; exact hne2 (Option.some.inj e).symm)
  have hB3 := hB2.trans (gb_toBelow hg3 hbel.size hB2.size)
  have hres3 := gb_has hg3 hres2 (by intro e; have := Option.some.inj e; omega)
  rw [List.nil_append] at hI3
  clear hT2 hg3 hI2 hres2
  go_wp2_with fail
  refine (sum w1.heap.size (flat ps) _ hT3 hm hI3).mono ?_
  rintro e w4 ⟨rfl, hb4⟩
  have hres4 := below_has hb4 hres3 hres3.lt
  have hB4 := hB3.trans (hb4.mono hB3.size)
  have HO2 := Lib.hid (bytesV_one (sha (flat ps)))
  have hsz2 : some (bytesV (sha (flat ps))).size = some 32 := by rw [bytesV_size]; exact congrArg some (nameOf_length _)
  have HS2 := Lib.hid hsz2
  clear hsz2 hres3 hb4 hB3 hB2 hI3 hT3 hres
  generalize hcs3 : bytesV (sha (flat ps)) = rs at *
  go_wp2_with (with_reducible refine wpList_store_row rfl 24 _ _ rfl _ rs rfl rfl 24 _ hres4.out (infoHash.trans HS2.out.symm) (hz32_size.trans (Option.some.inj HS2.out).symm) HO2.out ?_)
  exact bodyPost_ret (v := .agg rs) (results_cell_row Tryd.results86 _ _ w.heap.size 24 rs (0, 0) _ rfl (hres4.row rs).out Tryd.underlying24 rfl (infoHash.trans HS2.out.symm)) rfl ⟨by rw [hcs3], below_setRow hB4 (by omega) _⟩

/-- a hash as bytes, told by a slice over an array -/
theorem conv_hash (wx : World) (b : Nat) (l : List UInt8) (hl : l.length = 32) (h : Has wx b (bytesV l) 24) :
    (Go.convert 51 9 (.slice (some ⟨b, 0, none⟩) 32 32)).run Tryd.prog wx = .ok (.string ⟨l.toArray⟩) wx := by
  have := run_convert_bytes_arg (P := Tryd.prog) wx 51 5 Tryd.underlying51 Tryd.underlying5 b 0 32 32 (l.map fun b => (b.toNat : Int)) (by simp [hl]) (fun i hi => by
    rw [Nat.zero_add, h.byte i (by omega)]; simp [show i < l.length by omega]) 9 Tryd.underlying9
  rw [this]
  simp [strOfNums, Function.comp_def]
set_option maxRecDepth 100000 in
set_option maxHeartbeats 1000000 in
theorem double (a : Option Addr) (ps : List ByteArray) (n c : Nat) (hn : n = ps.length) (w : World) (hT : Tab w)
    (hm : (flat ps).length ≤ 1152921504606846976) (hl : n ≤ 4611686018427387904) (hP : PartsW w a ps) :
    Calls Tryd.prog 69 #[.slice a n c] w fun e w' => e = .returned (.agg (bytesV (sha (sha (flat ps))))) ∧ Below w.heap.size w w' := by
  have HN := Lib.hid hn
  have HP := Lib.hid hP
  clear hn hP
  go_enter Tryd.func69, Tryd.ntmps69
  go_upto_region 1 with fail
  generalize hw1 : World.alloc _ _ = w1
  have hres : Has w1 w.heap.size hz32 24 := by rw [← hw1]; exact Has.new _ _
  have hbel : Below w.heap.size w w1 := by rw [← hw1]; exact (Below.refl _ _).alloc (Nat.le_refl _) _
  have hT1 := hT.below hbel
  have hP1 : PartsW w1 a ps := HP.out.below hbel
  have HP1 := Lib.hid hP1
  clear hw1 hP1
  go_wp2_with fail
  refine (of a ps n c HN.out w1 hT1 hm hl HP1.out).mono ?_
  rintro e w2 ⟨rfl, hb2⟩
  have hT2 := hT1.below hb2
  have hB2 := hbel.trans (hb2.mono hbel.size)
  have hres2 := below_has hb2 hres hres.lt
  have HO := Lib.hid (bytesV_one (sha (flat ps)))
  have hsz : some (bytesV (sha (flat ps))).size = some 32 := by rw [bytesV_size]; exact congrArg some (nameOf_length _)
  have HSZ := Lib.hid hsz
  clear hsz hres hbel hT1 hb2
  go_upto_region 2 with (with_reducible refine wpList_store_row rfl 24 _ _ rfl _ (bytesV (sha (flat ps))) rfl rfl 24 _ (heap_alloc_new w2 _) (infoHash.trans HSZ.out.symm) (by simp [Option.some.inj HSZ.out]) HO.out ?_)
  generalize hw3 : World.setRow _ _ _ = w3
  have hin : Has w3 w2.heap.size (bytesV (sha (flat ps))) 24 := by rw [← hw3]; exact (Has.new _ _).row _
  have hB3 : Below w.heap.size w w3 := by rw [← hw3]; exact below_setRow (hB2.alloc hB2.size _) hB2.size _
  have hb23 : Below w2.heap.size w2 w3 := by rw [← hw3]; exact below_setRow ((Below.refl _ _).alloc (Nat.le_refl _) _) (Nat.le_refl _) _
  have hT3 := hT2.below hb23
  have hres3 := below_has hb23 hres2 hres2.lt
  obtain ⟨hs, hhs⟩ : ∃ hs : ByteArray, hs = ⟨(sha (flat ps)).toArray⟩ := ⟨_, rfl⟩
  have hcv := conv_hash w3 w2.heap.size (sha (flat ps)) (nameOf_length _) hin
  rw [← hhs] at hcv
  have HHS : Hid (hs.data.toList = sha (flat ps)) := by show _ = _; rw [hhs]
  have hhsz : (sha (flat ps)).length = 32 := nameOf_length _
  have HHZ := Lib.hid hhsz
  clear hw3 hb23 hT2 hres2 hB2 hhs hin hhsz
  go_wp2_with fail
  have hb4 : Below w3.heap.size w3 (w3.alloc (.cells #[.string hs] 9)) := (Below.refl _ _).alloc (Nat.le_refl _) _
  refine (of (some ⟨w3.heap.size, 0, none⟩) [hs] 1 1 rfl _ (hT3.below hb4) (by rw [flat_one, HHS.out, HHZ.out]; omega) (by omega) (PartsW.one (by simp))).mono ?_
  rintro e w5 ⟨rfl, hb5⟩
  rw [flat_one, HHS.out]
  have hres4 := below_has hb5 (below_has hb4 hres3 hres3.lt) (Has.lt (below_has hb4 hres3 hres3.lt))
  have hB5 := (hB3.trans (hb4.mono hB3.size)).trans (hb5.mono (Nat.le_trans hB3.size hb4.size))
  have HO2 := Lib.hid (bytesV_one (sha (sha (flat ps))))
  have hsz2 : some (bytesV (sha (sha (flat ps)))).size = some 32 := by rw [bytesV_size]; exact congrArg some (nameOf_length _)
  have HS2 := Lib.hid hsz2
  clear hsz2 hres3 hb4 hb5 hB3 hT3 hcv
  generalize hcs3 : bytesV (sha (sha (flat ps))) = rs at *
  go_wp2_with (with_reducible refine wpList_store_row rfl 24 _ _ rfl _ rs rfl rfl 24 _ hres4.out (infoHash.trans HS2.out.symm) (hz32_size.trans (Option.some.inj HS2.out).symm) HO2.out ?_)
  exact bodyPost_ret (v := .agg rs) (results_cell_row Tryd.results69 _ _ w.heap.size 24 rs (0, 0) _ rfl (hres4.row rs).out Tryd.underlying24 rfl (infoHash.trans HS2.out.symm)) rfl ⟨by rw [hcs3], below_setRow hB5 (by omega) _⟩
end Go.Proofs.YtmpllagaeoolaaaDoor
