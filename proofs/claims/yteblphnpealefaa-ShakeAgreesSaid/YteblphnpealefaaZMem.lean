import Derived.WalkKit
import Derived.WalkSpells
import Derived.WalkLawsBesides
import Derived.Lib.Hide
import Derived.Lib.LazyBuf
import Derived.Lib.BufferWrite
import Derived.Deep.RegionLaw
import Derived.Laws.CopyOwn
import Derived.Deep.MidRow
import Derived.BigQuiet
import Derived.Deep.QuietTactic
import Derived.BigRegion
import Derived.Test.YteblphnpealefaaBunQ0
namespace Go.Proofs.Yteblphnpealefaa.Mem
open Go.RowKit Sha

/-- block b of w is a row of cells, none of them frozen -/
def Has (w : World) (b : Nat) (cs : Array Value) (t : TypeId) : Prop := w.heap[b]? = some (.cells cs t (0, 0))

def words (f : Nat → W32) (n : Nat) : Array Value := ((List.range n).map fun i => Value.int .u32 (Wd.n (f i))).toArray
def bytesV (l : List UInt8) : Array Value := (l.map fun b => Value.int .u8 (b.toNat : Int)).toArray
def upd (f : Nat → W32) (i : Nat) (x : W32) : Nat → W32 := fun j => if j = i then x else f j

theorem words_size (f n) : (words f n).size = n := by simp [words]
theorem bytesV_size (l) : (bytesV l).size = l.length := by simp [bytesV]
theorem words_get (f n j) (h : j < n) : (words f n)[j]? = some (.int .u32 (Wd.n (f j))) := by simp [words, h]
theorem words_congr {f g : Nat → W32} {n : Nat} (h : ∀ j, j < n → f j = g j) : words f n = words g n := by
  unfold words
  congr 1
  exact List.map_congr_left fun i hi => by rw [h i (by simpa using hi)]
theorem words_set (f n i x) : (words f n).setIfInBounds i (.int .u32 (Wd.n x)) = words (upd f i x) n := by
  apply Array.ext_getElem?
  intro j
  rw [Array.getElem?_setIfInBounds]
  by_cases hj : j < n
  · rw [words_get _ _ _ hj]
    by_cases hij : i = j
    · subst hij; rw [words_get _ _ _ hj]; simp [words_size, hj, upd]
    · rw [if_neg hij, words_get _ _ _ hj]
      have : j ≠ i := fun e => hij e.symm
      simp [upd, this]
  · have h1 : ∀ g, (words g n)[j]? = none := fun g => by simp [words]; omega
    rw [h1, h1]
    by_cases hij : i = j
    · subst hij; simp [words_size, hj]
    · simp [hij]

variable {w w' : World}
theorem Has.out {b : Nat} {cs : Array Value} {t : TypeId} (h : Has w b cs t) : w.heap[b]? = some (.cells cs t (0, 0)) := h
theorem Has.cell {b : Nat} {cs : Array Value} {t : TypeId} (h : Has w b cs t) (j : Nat) : w.cell? ⟨b, j, none⟩ = cs[j]? := cell_of_row w b j cs t (0, 0) h
theorem Has.word {b : Nat} {f n} {t : TypeId} (h : Has w b (words f n) t) (j : Nat) (hj : j < n) : w.cell? ⟨b, j, none⟩ = some (.int .u32 (Wd.n (f j))) := (h.cell j).trans (words_get f n j hj)
theorem Has.byte {b : Nat} {l : List UInt8} {t : TypeId} (h : Has w b (bytesV l) t) (j : Nat) (hj : j < l.length) : w.cell? ⟨b, j, none⟩ = some (.int .u8 (l[j].toNat : Int)) := by
  rw [h.cell j]; simp [bytesV, hj]
theorem Has.free {b : Nat} {cs : Array Value} {t : TypeId} (h : Has w b cs t) (j : Nat) : w.frozen? ⟨b, j, none⟩ = false := frozen_of_row w b j cs t h
theorem Has.lt {b : Nat} {cs : Array Value} {t : TypeId} (h : Has w b cs t) : b < w.heap.size := by
  unfold Has at h
  by_cases hb : b < w.heap.size
  · exact hb
  · simp [Array.getElem?_eq_none (by omega : w.heap.size ≤ b)] at h
theorem Has.drew {b : Nat} {cs : Array Value} {t : TypeId} (h : Has w b cs t) : Has w.drew b cs t := h
theorem Has.drewN {b : Nat} {cs : Array Value} {t : TypeId} (h : Has w b cs t) (n : Nat) : Has (w.drewN n) b cs t := by
  unfold Has at *; simpa using h
theorem Has.alloc {b : Nat} {cs : Array Value} {t : TypeId} (h : Has w b cs t) (o : Obj) : Has (w.alloc o) b cs t := by
  exact (heap_alloc_old w o h.lt).trans h
theorem Has.new (cs : Array Value) (t : TypeId) : Has (w.alloc (.cells cs t)) w.heap.size cs t := heap_alloc_new w _
theorem Has.set {b i : Nat} {cs : Array Value} {t : TypeId} (h : Has w b cs t) (v : Value) : Has (w.setCell ⟨b, i, none⟩ v) b (cs.setIfInBounds i v) t := heap_setCell_same w b i cs t v h
theorem Has.other {b : Nat} {cs : Array Value} {t : TypeId} (h : Has w b cs t) (a : Addr) (v : Value) (ha : b ≠ a.block) : Has (w.setCell a v) b cs t := by
  exact (heap_setCell_other w a b v ha).trans h
theorem Has.setWord {b i : Nat} {f n} {t : TypeId} (h : Has w b (words f n) t) (x : W32) : Has (w.setCell ⟨b, i, none⟩ (.int .u32 (Wd.n x))) b (words (upd f i x) n) t := by
  rw [← words_set]; exact h.set _
/-- a piece of an array that lies at the head of a block, one cell an element -/
theorem arr_slice_lh {P : Program} (t e n b l h : Nat) (hu : P.underlying t = some (.array n e)) (hc : ∀ w, (sizeOf e).run P w = .ok 1 w) (h1 : l ≤ h) (h2 : h ≤ n) (h3 : l < n) (w : World) :
    (Instr.sliceAt t (.pointer (some ⟨b, 0, none⟩)) (some (.int .i64 (l : Int))) (some (.int .i64 (h : Int))) none).run P w = .ok (.slice (some ⟨b, l, none⟩) (h - l) (n - l)) w := by
  have ha : P.arrayLen t = n := by simp [Program.arrayLen, hu]
  have he : P.elem t = e := by simp [Program.elem, hu]
  rw [run_sliceAt_array_lh w t ⟨b, 0, none⟩ (by rw [ha, he]; exact hu) .i64 .i64 l h (by omega) (by omega) (by rw [ha]; omega), he, hc]
  simp only [Result.andThen_ok, ha, slicedAt, Int.toNat_natCast]
  rw [if_neg (by omega)]
  unfold Addr.add
  by_cases hl : l = 0
  · subst hl; rfl
  · simp [hl]
theorem arr_slice_l {P : Program} (k : IntKind) (t e n b l : Nat) (hu : P.underlying t = some (.array n e)) (hc : ∀ w, (sizeOf e).run P w = .ok 1 w) (h3 : l < n) (o : Nat) (w : World) :
    (Instr.sliceAt t (.pointer (some ⟨b, o, none⟩)) (some (.int k (l : Int))) none none).run P w = .ok (.slice (some ⟨b, o + l, none⟩) (n - l) (n - l)) w := by
  have ha : P.arrayLen t = n := by simp [Program.arrayLen, hu]
  have he : P.elem t = e := by simp [Program.elem, hu]
  rw [run_sliceAt_array_l w t ⟨b, o, none⟩ (by rw [ha, he]; exact hu) k l (by omega) (by rw [ha]; omega), he, hc]
  simp only [Result.andThen_ok, ha, slicedAt, Int.toNat_natCast]
  rw [if_neg (by omega)]
  unfold Addr.add
  by_cases hl : l = 0
  · subst hl; rfl
  · simp [hl]
theorem words_one (f n) : (words f n).all (·.oneCell') = true := by
  rw [Array.all_eq_true_iff_forall_mem]
  intro v hv
  simp [words] at hv
  obtain ⟨i, _, rfl⟩ := hv
  rfl
theorem bytesV_one (l) : (bytesV l).all (·.oneCell') = true := by
  rw [Array.all_eq_true_iff_forall_mem]
  intro v hv
  simp [bytesV] at hv
  obtain ⟨i, _, rfl⟩ := hv
  rfl
theorem Has.row {b : Nat} {cs : Array Value} {t : TypeId} (h : Has w b cs t) (cs' : Array Value) : Has (w.setRow b cs') b cs' t := setRow_heap w b cs cs' t (0, 0) h
theorem Has.otherRow {b : Nat} {cs : Array Value} {t : TypeId} (h : Has w b cs t) (g : Nat) (cs' : Array Value) (ha : b ≠ g) : Has (w.setRow g cs') b cs t := (setRow_other w g b cs' ha).trans h
/-! ### what a call leaves: all blocks but one stand -/
theorem gb_trans {a b c : World} {r : Option Nat} (h : a.grownBy b r) (k : b.grownBy c r) : a.grownBy c r :=
  ⟨k.os.trans h.os, k.tape.trans h.tape, k.output.trans h.output, Nat.le_trans h.size k.size, fun i hi hn => (k.block i (Nat.lt_of_lt_of_le hi h.size) hn).trans (h.block i hi hn)⟩
theorem gb_refl (w : World) (r : Option Nat) : w.grownBy w r := ⟨rfl, rfl, rfl, Nat.le_refl _, fun _ _ _ => rfl⟩
theorem gb_below {a b : World} (h : Below a.heap.size a b) (r : Option Nat) : a.grownBy b r := ⟨h.os, h.tape, h.output, h.size, fun k hk _ => h.block k hk⟩
theorem gb_drewN {a b : World} {r : Option Nat} (h : a.grownBy b r) (n : Nat) : a.grownBy (b.drewN n) r := ⟨h.os, h.tape, h.output, h.size, h.block⟩
theorem gb_setCell {a b : World} {g : Nat} (h : a.grownBy b (some g)) (o : Nat) (v : Value) : a.grownBy (b.setCell ⟨g, o, none⟩ v) (some g) :=
  gb_trans h ⟨rfl, rfl, rfl, by simp [World.setCell], fun k _ hn => Below.heap_setCell _ _ _ _ (fun e => hn (by rw [e]))⟩
theorem gb_setRow {a b : World} {g : Nat} (h : a.grownBy b (some g)) (cs : Array Value) : a.grownBy (b.setRow g cs) (some g) :=
  gb_trans h ⟨rfl, rfl, rfl, by simp [World.setRow], fun k _ hn => setRow_other b g k cs (fun e => hn (by rw [e]))⟩
/-- a store into a block that is new -/
theorem gb_setCellNew {a b : World} {r : Option Nat} (h : a.grownBy b r) (p : Addr) (hp : a.heap.size ≤ p.block) (v : Value) : a.grownBy (b.setCell p v) r :=
  ⟨h.os, h.tape, h.output, by simpa [World.setCell] using h.size, fun k hk hn => (Below.heap_setCell _ _ _ _ (by omega)).trans (h.block k hk hn)⟩
theorem gb_has {a b : World} {r : Option Nat} (h : a.grownBy b r) {g : Nat} {cs : Array Value} {t : TypeId} (hg : Has a g cs t) (hn : some g ≠ r) : Has b g cs t := (h.block g hg.lt hn).trans hg
theorem gb_toBelow {a b : World} {g : Nat} {B : Nat} (h : a.grownBy b (some g)) (hB : B ≤ g) (hs : B ≤ a.heap.size) : Below B a b :=
  ⟨h.os, h.tape, h.output, h.size, fun k hk => h.block k (by omega) (by intro e; cases e; omega)⟩
theorem below_has {a b : World} {B : Nat} (h : Below B a b) {g : Nat} {cs : Array Value} {t : TypeId} (hg : Has a g cs t) (hB : g < B) : Has b g cs t := (h.block g hB).trans hg

/-! ### a hasher: eight words, 64 bytes, how many were taken -/
def hcells (f : Nat → W32) (l : List UInt8) (t : Nat) : Array Value := words f 8 ++ bytesV l ++ #[.int .u64 (t : Int)]
theorem hcells_state (f l t j) (h : j < 8) : (hcells f l t)[j]? = some (.int .u32 (Wd.n (f j))) := by
  unfold hcells
  rw [Array.getElem?_append, if_pos (by rw [Array.size_append, words_size]; omega), Array.getElem?_append, if_pos (by rw [words_size]; exact h), words_get f 8 j h]
theorem bytesV_get (l : List UInt8) (j : Nat) (h : j < l.length) : (bytesV l)[j]? = some (.int .u8 (l[j].toNat : Int)) := by simp [bytesV, h]
theorem hcells_rest (f l t j) (h : j < l.length) : (hcells f l t)[8 + j]? = some (.int .u8 (l[j].toNat : Int)) := by
  unfold hcells
  rw [Array.getElem?_append, if_pos (by rw [Array.size_append, words_size, bytesV_size]; omega), Array.getElem?_append, if_neg (by rw [words_size]; omega), words_size, Nat.add_sub_cancel_left, bytesV_get l j h]
theorem hcells_taken (f l t) (h : l.length = 64) : (hcells f l t)[72]? = some (.int .u64 (t : Int)) := by
  unfold hcells
  rw [Array.getElem?_append, if_neg (by rw [Array.size_append, words_size, bytesV_size]; omega), Array.size_append, words_size, bytesV_size, h]
  rfl
theorem hcells_size (f l t) : (hcells f l t).size = l.length + 9 := by unfold hcells; simp [words_size, bytesV_size]; omega
theorem set_append_left (a b : Array Value) (i : Nat) (v : Value) (h : i < a.size) : (a ++ b).setIfInBounds i v = a.setIfInBounds i v ++ b := by
  apply Array.ext_getElem?
  intro j
  simp only [Array.getElem?_setIfInBounds, Array.getElem?_append, Array.size_append, Array.size_setIfInBounds]
  by_cases hij : i = j
  · subst hij; rw [if_pos rfl, if_pos (by omega), if_pos h, if_pos rfl, if_pos h]
  · rw [if_neg hij, if_neg hij]
theorem set_append_right (a b : Array Value) (i : Nat) (v : Value) : (a ++ b).setIfInBounds (a.size + i) v = a ++ b.setIfInBounds i v := by
  apply Array.ext_getElem?
  intro j
  by_cases h : j < a.size
  · rw [Array.getElem?_setIfInBounds, if_neg (by omega), Array.getElem?_append, if_pos h, Array.getElem?_append, if_pos h]
  · obtain ⟨d, rfl⟩ := Nat.exists_eq_add_of_le (Nat.le_of_not_lt h)
    rw [Array.getElem?_append (xs := a) (ys := b.setIfInBounds i v), if_neg h, Nat.add_sub_cancel_left, Array.getElem?_setIfInBounds, Array.getElem?_setIfInBounds, Array.size_append,
      Array.getElem?_append (xs := a) (ys := b), if_neg h, Nat.add_sub_cancel_left]
    by_cases e : i = d
    · subst e; simp
    · rw [if_neg (by omega), if_neg e]
theorem hcells_setState (f l t i x) (h : i < 8) : (hcells f l t).setIfInBounds i (.int .u32 (Wd.n x)) = hcells (upd f i x) l t := by
  unfold hcells
  rw [set_append_left _ _ _ _ (by rw [Array.size_append, words_size]; omega), set_append_left _ _ _ _ (by rw [words_size]; exact h), words_set]
theorem hcells_setTaken (f l) (t t' : Nat) (h : l.length = 64) : (hcells f l t).setIfInBounds 72 (.int .u64 (t' : Int)) = hcells f l t' := by
  unfold hcells
  have := set_append_right (words f 8 ++ bytesV l) #[.int .u64 (t : Int)] 0 (.int .u64 (t' : Int))
  rw [Array.size_append, words_size, bytesV_size, h] at this
  rw [this]; rfl
theorem hcells_congr {f g : Nat → W32} (h : ∀ j, j < 8 → f j = g j) (l t) : hcells f l t = hcells g l t := by unfold hcells; rw [words_congr h]
/-! ### copy from a string, as much of it as there is room for -/
theorem run_copy_min {P : Program} (w : World) (dT sT ty elem : TypeId) (g o dLen dCap n : Nat) (s : ByteArray) (cur : Array Value) (t : TypeId)
    (hu : P.underlying dT = some (.slice elem)) (hs : (P.info? elem).map (·.size) = some 1) (hg : w.heap[g]? = some (.cells cur t (0, 0))) (hn : n = Nat.min s.size dLen) (hfit : o + n ≤ cur.size) :
    (Builtin.copy_ #[dT, sT] ty #[.slice (some ⟨g, o, none⟩) dLen dCap, .string s]).run P w =
      .ok (goInt n) (w.setRow g (cur.toList.take o ++ (Lib.byteCells (s.data.toList.take n) ++ cur.toList.drop (o + n))).toArray) := by
  have hl : (s.data.toList.take n).length = n := by rw [List.length_take, ← Lib.size_eq, hn]; simp only [Nat.min_def]; split <;> (try split) <;> omega
  have hlen : (Lib.byteCells (s.data.toList.take n)).length = n := by rw [Lib.byteCells_length, hl]
  have hst := run_storeCells_at P g o t (Lib.byteCells (s.data.toList.take n)) 0 cur w hg (by rw [hlen]; simpa using hfit) (Lib.byteCells_one _)
  have htk : List.take n (List.map (fun b : UInt8 => Value.int IntKind.u8 (b.toNat : Int)) s.data.toList) = Lib.byteCells (s.data.toList.take n) := by
    rw [← List.map_take]; rfl
  rw [hlen] at hst
  simp only [Nat.add_zero] at hst
  cases hq : P.info? elem with
  | none => simp [hq] at hs
  | some i =>
    simp [Builtin.copy_, run_underlying hu, Builtin.lenOf, Builtin.firstCells, sizeOf, typeInfo, hq, ← hn]
    rw [htk, hst]
    simp [Result.andThen]
theorem bytesV_list (l : List UInt8) : (bytesV l).toList = Lib.byteCells l := by simp [bytesV, Lib.byteCells]
theorem hcells_splice (f : Nat → W32) (l x : List UInt8) (t r n : Nat) (hx : x.length = n) (hr : r + n ≤ l.length) :
    ((hcells f l t).toList.take (8 + r) ++ (Lib.byteCells x ++ (hcells f l t).toList.drop (8 + r + n))).toArray = hcells f (l.take r ++ x ++ l.drop (r + n)) t := by
  have hw : (words f 8).toList.length = 8 := by rw [Array.length_toList, words_size]
  have hb : (Lib.byteCells l).length = l.length := Lib.byteCells_length l
  apply Array.toList_inj.1
  simp only [hcells, Array.toList_append, bytesV_list, Lib.byteCells, List.map_append, List.map_take, List.map_drop]
  have hb' : (List.map (fun b : UInt8 => Value.int IntKind.u8 (b.toNat : Int)) l).length = l.length := by simp
  generalize List.map (fun b : UInt8 => Value.int IntKind.u8 (b.toNat : Int)) l = L at *
  generalize (words f 8).toList = A at *
  rw [List.append_assoc A, List.take_append, hw, List.take_of_length_le (by omega), Nat.add_sub_cancel_left, List.take_append_of_le_length (by omega),
    List.drop_append, hw, List.drop_eq_nil_of_le (by omega), List.nil_append, show 8 + r + n - 8 = r + n by omega, List.drop_append_of_le_length (by omega)]
  simp only [List.append_assoc]
theorem step_copy_min {P : Program} {ops : Array Oper} {o : Oper} {a : Act} {w : World} {K : Act → World → Prop} {Q : Exit → Act → World → Prop} {E : Prop}
    (hg : o.guard = none) (d x : Operand) (dT sT : TypeId) (hop : o.op = Op.call { callee := Callee.builtin Builtin.copy, args := #[d, x], argTypes := #[dT, sT] })
    (elem : TypeId) (hu : P.underlying dT = some (.slice elem)) (hz : (P.info? elem).map (·.size) = some 1)
    (b off dLen dCap n : Nat) (hd : a.eval d = .slice (some ⟨b, off, none⟩) dLen dCap) (t : ByteArray) (hx : a.eval x = .string t) (cur : Array Value) (ty : TypeId) (hh : w.heap[b]? = some (.cells cur ty (0, 0)))
    (hn : n = Nat.min t.size dLen) (hfit : off + n ≤ cur.size)
    (hK : K (a.put o.dst (goInt n)) (w.setRow b (cur.toList.take off ++ (Lib.byteCells (t.data.toList.take n) ++ cur.toList.drop (off + n))).toArray)) :
    if Region.wanted o (yielded ops a.tmps) = true then Oper.wp P o a w K Q else E := by
  have hw : Region.wanted o (yielded ops a.tmps) = true := by simp [Region.wanted, hg]
  rw [if_pos hw]
  have hrun := run_copy_min (P := P) w dT sT o.type elem b off dLen dCap n t cur ty hu hz hh hn hfit
  unfold Oper.wp
  simp [execOp, hop, resolve, invoke, builtin, hd, hx, hrun, Result.andThen]
  exact hK
theorem quiet_eq {P : Program} {f : FuncId} {args : Array Value} {w : World} {n : Nat} {v : Value}
    (h : Calls P f args (w.drewN n) fun e w' => e = .returned v ∧ w.drewN n = w') : Calls P f args (w.drewN n) fun e w'' => e = .returned v ∧ ∃ m, w'' = w.drewN m :=
  h.mono fun _ _ ⟨he, hm⟩ => ⟨he, n, hm.symm⟩
end Go.Proofs.Yteblphnpealefaa.Mem
