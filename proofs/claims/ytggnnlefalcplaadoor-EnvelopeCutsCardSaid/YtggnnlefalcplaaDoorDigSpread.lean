import Derived.Test.YtggnnlefalcplaaDoorRows
import Derived.Test.YtggnnlefalcplaaDoorMem
import Derived.Test.YtggnnlefalcplaaDoorDigTurn
import Derived.BigQuiet
import Derived.Deep.QuietTactic
namespace Go.Proofs.YtggnnlefalcplaaDoor
open Go.RowKit Mem Sha
attribute [local go_sem] Wd.add Wd.and Wd.or Wd.xor Wd.shl Wd.shr Wd.shl8 Wd.shr3 Wd.shr10 Wd.byte Wd.orByte

abbrev zeros64 : Array Value := words (fun _ => 0) 64
/-- the state of spread's walk -/
structure Spr (w wr : World) (l : List UInt8) (k : Nat) (j : Nat) : Prop where
  below : Below w.heap.size w wr
  src : Has wr w.heap.size (bytesV l) 111
  res : Has wr (w.heap.size + 1) zeros64 100
  arr : ∃ f, Has wr (w.heap.size + 1 + 1) (words f 64) 100 ∧ (∀ i, i < k → f i = blockWord l i) ∧ f k = wordOf ((l.drop (4 * k)).take j) ∧ (∀ i, k < i → f i = 0)

theorem size1 (w : World) : (sizeOf 5).run Tryd.prog w = .ok 1 w := by kernel_rfl
theorem info48 : (Tryd.prog.info? 111).map (·.size) = some 64 := by kernel_rfl
theorem info44 : (Tryd.prog.info? 100).map (·.size) = some 64 := by kernel_rfl
theorem Spr.next {w wr : World} {l : List UInt8} {k j : Nat} (h : Spr w wr l k j) (hl : l.length = 64) (hk : k < 16) {f : Nat → W32} (hf : Has wr (w.heap.size + 1 + 1) (words f 64) 100)
    (h1 : ∀ i, i < k → f i = blockWord l i) (h2 : f k = wordOf ((l.drop (4 * k)).take j)) (h3 : ∀ i, k < i → f i = 0) (hh : 4 * k + j < l.length) :
    Spr w (wr.setCell ⟨w.heap.size + 1 + 1, k, none⟩ (.int .u32 (Wd.n (f k <<< 8 ||| Wd.ofByte l[4 * k + j])))) l k (j + 1) where
  below := h.below.setCell (by simp; omega) _
  src := h.src.other _ _ (by simp; omega)
  res := h.res.other _ _ (by simp)
  arr := by
    refine ⟨_, hf.setWord _, fun i hi => ?_, ?_, fun i hi => ?_⟩
    · unfold upd; rw [if_neg (by omega)]; exact h1 i hi
    · unfold upd
      rw [if_pos rfl, h2, List.take_succ_eq_append_getElem (by simp; omega)]
      simp [wordOf, List.foldl_append]
    · unfold upd; rw [if_neg (by omega)]; exact h3 i hi
theorem Spr.word {w wr : World} {l : List UInt8} {k : Nat} (h : Spr w wr l k 4) : Spr w wr l (k + 1) 0 where
  below := h.below
  src := h.src
  res := h.res
  arr := by
    obtain ⟨f, hf, h1, h2, h3⟩ := h.arr
    refine ⟨f, hf, fun i hi => ?_, ?_, fun i hi => h3 i (by omega)⟩
    · by_cases e : i = k
      · subst e; exact h2
      · exact h1 i (by omega)
    · rw [h3 (k + 1) (by omega)]; simp [wordOf]
/-- the state of the second loop -/
structure Spt (w wr : World) (l : List UInt8) (k : Nat) : Prop where
  below : Below w.heap.size w wr
  res : Has wr (w.heap.size + 1) zeros64 100
  arr : ∃ f, Has wr (w.heap.size + 1 + 1) (words f 64) 100 ∧ (∀ i, i < k → f i = sched (blockWord l) i)
theorem Spr.done {w wr : World} {l : List UInt8} (h : Spr w wr l 16 0) : Spt w wr l 16 where
  below := h.below
  res := h.res
  arr := by
    obtain ⟨f, hf, h1, _, _⟩ := h.arr
    exact ⟨f, hf, fun i hi => by rw [h1 i hi, sched_first _ _ hi]⟩

theorem Spt.next {w wr : World} {l : List UInt8} {k : Nat} (h : Spt w wr l k) (hk : 16 ≤ k) (hk2 : k < 64) {f : Nat → W32} (hf : Has wr (w.heap.size + 1 + 1) (words f 64) 100)
    (h1 : ∀ i, i < k → f i = sched (blockWord l) i) (m : Nat) :
    Spt w ((wr.drewN m).setCell ⟨w.heap.size + 1 + 1, k, none⟩ (.int .u32 (Wd.n (f (k - 16) + (BitVec.rotateRight (f (k - 15)) 7 ^^^ BitVec.rotateRight (f (k - 15)) 18 ^^^ f (k - 15) >>> 3) + f (k - 7) +
      (BitVec.rotateRight (f (k - 2)) 17 ^^^ BitVec.rotateRight (f (k - 2)) 19 ^^^ f (k - 2) >>> 10))))) l (k + 1) where
  below := (below_drewN h.below m).setCell (by simp; omega) _
  res := (h.res.drewN m).other _ _ (by simp)
  arr := by
    refine ⟨_, (hf.drewN m).setWord _, fun i hi => ?_⟩
    unfold upd
    by_cases e : i = k
    · rw [if_pos e, e, sched_next _ k hk hk2, h1 _ (by omega), h1 _ (by omega), h1 _ (by omega), h1 _ (by omega)]
      rfl
    · rw [if_neg e]; exact h1 i (by omega)
set_option maxRecDepth 100000 in
theorem Spr.start (w : World) (l : List UInt8) : Spr w (((w.alloc (.cells (bytesV l) 111)).alloc (.cells zeros64 100)).alloc (.cells zeros64 100)) l 0 0 where
  below := (((Below.refl _ _).alloc (Nat.le_refl _) _).alloc (by simp) _).alloc (by simp; omega) _
  src := ((Has.new _ _).alloc _).alloc _
  res := by
    have := (Has.new (w := w.alloc (.cells (bytesV l) 111)) zeros64 100).alloc (.cells zeros64 100)
    simpa using this
  arr := by
    have := Has.new (w := (w.alloc (.cells (bytesV l) 111)).alloc (.cells zeros64 100)) zeros64 100
    rw [World.size_alloc, World.size_alloc] at this
    exact ⟨_, this, fun i hi => absurd hi (by omega), by simp [wordOf], fun _ _ => rfl⟩

set_option maxRecDepth 100000 in
set_option maxHeartbeats 400000 in
theorem spread (l : List UInt8) (hl : l.length = 64) (w : World) :
    Calls Tryd.prog 78 #[.agg (bytesV l)] w fun e w' => e = .returned (.agg (words (sched (blockWord l)) 64)) ∧ Below w.heap.size w w' := by
  go_enter Tryd.func78, Tryd.ntmps78
  go_wp2_with fail
  go_loopw [10] (fun i wr => ∃ k : Nat, k ≤ 16 ∧ i = .int .i64 k ∧ Spr w wr l k 0) (fun i _ => 16 - (intOf i).toNat)
  case atStart => exact ⟨0, by omega, rfl, Spr.start w l⟩
  case round =>
    obtain ⟨k, hk, rfl, hs⟩ := hrel
    by_cases hlt : k < 16
    · have hsl : ∀ w', (Instr.sliceAt 111 (.pointer (some ⟨w.heap.size, 0, none⟩)) (some (.int .i64 (4 * (k : Int)))) (some (.int .i64 (4 * (k : Int) + 4))) none).run Tryd.prog w' = .ok (.slice (some ⟨w.heap.size, 4 * k, none⟩) 4 (64 - 4 * k)) w' := fun w' => by
        have := arr_slice_lh (P := Tryd.prog) 111 5 64 w.heap.size (4 * k) (4 * k + 4) Tryd.underlying111 size1 (by omega) (by omega) (by omega) w'
        rw [show 4 * k + 4 - 4 * k = 4 by omega] at this
        simpa using this
      go_wp2_with fail
      clear hsl
      go_loopw [20] (fun i wr => ∃ j : Nat, j ≤ 4 ∧ i = .int .i64 j ∧ Spr w wr l k j) (fun i _ => 4 - (intOf i).toNat)
      case atStart => exact ⟨0, by omega, rfl, hs⟩
      case round =>
        obtain ⟨j, hj, rfl, ht⟩ := hrel
        by_cases hjl : j < 4
        · obtain ⟨f, hf, h1, h2, h3⟩ := ht.arr
          have c1 := ht.src.byte (4 * k + j) (by omega)
          have c2 := hf.word k (by omega)
          have c3 := hf.free k
          have HH := Lib.hid h2
          have H1 := Lib.hid h1
          have H3 := Lib.hid h3
          clear h1 h2 h3
          go_wp2_with fail
          go_roundw
          case rel =>
            exact ⟨j + 1, by omega, by go_num, ht.next hl hlt hf H1.out HH.out H3.out (by omega)⟩
          case measure => simp [intOf]; omega
        · obtain rfl : j = 4 := by omega
          go_wp2_with fail
          go_roundw
          case rel => exact ⟨k + 1, by omega, by go_num, ht.word⟩
          case measure => simp [intOf]; omega
    · obtain rfl : k = 16 := by omega
      have ht := hs.done
      clear hs
      go_wp2_with fail
      go_loopw [7] (fun i wr => ∃ k : Nat, 16 ≤ k ∧ k ≤ 64 ∧ i = .int .i64 k ∧ Spt w wr l k) (fun i _ => 64 - (intOf i).toNat)
      case atStart => exact ⟨16, by omega, by omega, rfl, ht⟩
      case round =>
        obtain ⟨k, hk16, hk, rfl, hs⟩ := hrel
        obtain ⟨f, hf, h1⟩ := hs.arr
        have H1 := Lib.hid h1
        clear h1
        by_cases hlt : k < 64
        · have c1 := hf.word (k - 15) (by omega)
          have c2 := hf.word (k - 2) (by omega)
          have c3 := hf.word (k - 16) (by omega)
          have c4 := hf.word (k - 7) (by omega)
          have c5 := hf.free k
          have b1 : IntKind.i64.wrap ((k : Int) - 15) = (k : Int) - 15 := IntWalk.i64_in _ (by omega)
          have b2 : IntKind.i64.wrap ((k : Int) - 2) = (k : Int) - 2 := IntWalk.i64_in _ (by omega)
          have b3 : IntKind.i64.wrap ((k : Int) - 16) = (k : Int) - 16 := IntWalk.i64_in _ (by omega)
          have b4 : IntKind.i64.wrap ((k : Int) - 7) = (k : Int) - 7 := IntWalk.i64_in _ (by omega)
          have a1 : (0 : Int) ≤ (k : Int) - 15 := by omega
          have a2 : (0 : Int) ≤ (k : Int) - 2 := by omega
          have a3 : (0 : Int) ≤ (k : Int) - 16 := by omega
          have a4 : (0 : Int) ≤ (k : Int) - 7 := by omega
          have t1 : ((k : Int) - 15).toNat = k - 15 := by omega
          have t2 : ((k : Int) - 2).toNat = k - 2 := by omega
          have t3 : ((k : Int) - 16).toNat = k - 16 := by omega
          have t4 : ((k : Int) - 7).toNat = k - 7 := by omega
          have l1 : (k : Int) - 15 < 64 := by omega
          have l2 : (k : Int) - 2 < 64 := by omega
          have l3 : (k : Int) - 16 < 64 := by omega
          have l4 : (k : Int) - 7 < 64 := by omega
          go_wp2_with fail
          go_quiet ((go_at_call 81; exact quiet_eq (turned _ _ (by omega) (by omega) _)))
          replace c2 := (hf.drewN nq).word (k - 2) (by omega)
          replace c3 := (hf.drewN nq).word (k - 16) (by omega)
          replace c4 := (hf.drewN nq).word (k - 7) (by omega)
          replace c5 := (hf.drewN nq).free k
          have c6 := (hf.drewN nq).word k (by omega)
          generalize hw1 : wr.drewN nq = w1 at c2 c3 c4 c5 c6
          have HW1 := Lib.hid hw1
          clear hw1 c1
          go_wp2_with fail
          go_quiet ((go_at_call 81; exact quiet_eq (turned _ _ (by omega) (by omega) _)))
          go_wp2_with fail
          go_region
          go_wp2_with fail
          refine ⟨?_, by simp [intOf]; omega⟩
          have hw2 : ∃ m, w1.drewN (nq + 1) = wr.drewN m := ⟨_, by rw [← HW1.out, World.drewN_drewN]⟩
          obtain ⟨m, hm⟩ := hw2
          rw [hm]
          exact ⟨k + 1, by omega, by omega, by go_num, hs.next hk16 hlt hf H1.out m⟩
        · obtain rfl : k = 64 := by omega
          have hres := hs.res
          have hbel := hs.below
          rw [words_congr H1.out] at hf
          clear H1 hs
          have hz : (words (sched (blockWord l)) 64).all (·.oneCell') = true := words_one _ _
          have hsz : some (words (sched (blockWord l)) 64).size = some 64 := by rw [words_size]
          have HZ := Lib.hid hz
          have HS := Lib.hid hsz
          clear hz hsz
          generalize hcs : words (sched (blockWord l)) 64 = cs at *
          go_wp2_with (first
            | (with_reducible refine wpList_load_row rfl 100 _ rfl _ rfl 100 cs (0, 0) _ hf.out Tryd.underlying100 rfl (info44.trans HS.out.symm) ?_)
            | (with_reducible refine wpList_store_row rfl 100 _ _ rfl _ _ rfl rfl 100 _ hres.out (info44.trans HS.out.symm) (by rw [words_size]; exact (Option.some.inj HS.out).symm) HZ.out ?_))
          exact bodyPost_ret (v := .agg cs) (results_cell_row Tryd.results78 _ _ (w.heap.size + 1) 100 cs (0, 0) _ rfl (hres.row cs).out Tryd.underlying100 rfl (info44.trans HS.out.symm)) rfl ⟨by rw [hcs], below_setRow hbel (by omega) _⟩
end Go.Proofs.YtggnnlefalcplaaDoor
