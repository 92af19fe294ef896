/-
  Numbers as the program's values hold them: four words in a row; blocks that hold one.
-/
import Derived.WalkKit
import Derived.WalkSpells
import Derived.WalkLawsBesides
import Derived.Lib.Hide
import Derived.Lib.LazyBuf
import Derived.Lib.BufferWrite
import Derived.Deep.RegionLaw
import Derived.Laws.CopyOwn
import Derived.Laws.Rows
import Derived.Laws.ResultCell
import Derived.Deep.MidRow
import Derived.BigQuiet
import Derived.Deep.QuietTactic
import Derived.BigRegion
import Derived.Deep.RegionHeld3
import Derived.Stop.BytesEq
import Derived.Deep.DeepCutAuto
import Derived.Lib.QuietBelow
import Derived.StillTailTactics
import Derived.Test.YtmemppkkchfphaaNum
import Derived.Test.YtmemppkkchfphaaRows
namespace Go.Proofs.Ytmemppkkchfphaa
open Go.RowKit

/-- the words of a function of four as cells -/
def cells4 (f : Nat → Nat) : Array Value := #[.int .u64 (f 0 : Nat), .int .u64 (f 1 : Nat), .int .u64 (f 2 : Nat), .int .u64 (f 3 : Nat)]
def numC (x : Nat) : Array Value := cells4 (Nm.wd x)
/-- block b of w is a row of cells, none of them frozen -/
def Has (w : World) (b : Nat) (cs : Array Value) (t : TypeId) : Prop := w.heap[b]? = some (.cells cs t (0, 0))
variable {w w' : World}
theorem Has.out {b : Nat} {cs : Array Value} {t : TypeId} (h : Has w b cs t) : w.heap[b]? = some (.cells cs t (0, 0)) := h
theorem Has.cell {b : Nat} {cs : Array Value} {t : TypeId} (h : Has w b cs t) (j : Nat) : w.cell? ⟨b, j, none⟩ = cs[j]? := cell_of_row w b j cs t (0, 0) h
theorem cells4_get (f : Nat → Nat) {j : Nat} (h : j < 4) : (cells4 f)[j]? = some (.int .u64 (f j : Nat)) := by
  rcases Nm.four h with rfl | rfl | rfl | rfl <;> rfl
theorem Has.word {b : Nat} {f : Nat → Nat} {t : TypeId} (h : Has w b (cells4 f) t) {j : Nat} (hj : j < 4) : w.cell? ⟨b, j, none⟩ = some (.int .u64 (f j : Nat)) := (h.cell j).trans (cells4_get f hj)
theorem Has.free {b : Nat} {cs : Array Value} {t : TypeId} (h : Has w b cs t) (j : Nat) : w.frozen? ⟨b, j, none⟩ = false := frozen_of_row w b j cs t h
theorem Has.lt {b : Nat} {cs : Array Value} {t : TypeId} (h : Has w b cs t) : b < w.heap.size := by
  unfold Has at h
  by_cases hb : b < w.heap.size
  · exact hb
  · simp [Array.getElem?_eq_none (by omega : w.heap.size ≤ b)] at h
theorem Has.drew {b : Nat} {cs : Array Value} {t : TypeId} (h : Has w b cs t) : Has w.drew b cs t := h
theorem Has.drewN {b : Nat} {cs : Array Value} {t : TypeId} (h : Has w b cs t) (n : Nat) : Has (w.drewN n) b cs t := by
  unfold Has at *; simpa using h
theorem Has.alloc {b : Nat} {cs : Array Value} {t : TypeId} (h : Has w b cs t) (o : Obj) : Has (w.alloc o) b cs t := (heap_alloc_old w o h.lt).trans h
theorem Has.new (cs : Array Value) (t : TypeId) : Has (w.alloc (.cells cs t)) w.heap.size cs t := heap_alloc_new w _
theorem Has.set {b i : Nat} {cs : Array Value} {t : TypeId} (h : Has w b cs t) (v : Value) : Has (w.setCell ⟨b, i, none⟩ v) b (cs.setIfInBounds i v) t := heap_setCell_same w b i cs t v h
theorem Has.other {b : Nat} {cs : Array Value} {t : TypeId} (h : Has w b cs t) (a : Addr) (v : Value) (ha : b ≠ a.block) : Has (w.setCell a v) b cs t := (heap_setCell_other w a b v ha).trans h
theorem Has.row {b : Nat} {cs : Array Value} {t : TypeId} (h : Has w b cs t) (cs' : Array Value) : Has (w.setRow b cs') b cs' t := setRow_heap w b cs cs' t (0, 0) h
theorem Has.otherRow {b : Nat} {cs : Array Value} {t : TypeId} (h : Has w b cs t) (g : Nat) (cs' : Array Value) (ha : b ≠ g) : Has (w.setRow g cs') b cs t := (setRow_other w g b cs' ha).trans h
theorem Has.below {B : Nat} {b : Nat} {cs : Array Value} {t : TypeId} (h : Has w b cs t) (hb : Below B w w') (hB : b < B) : Has w' b cs t := (hb.block b hB).trans h
theorem Has.on {b : Nat} {cs : Array Value} {t : TypeId} (h : Has w b cs t) (hb : Below w.heap.size w w') : Has w' b cs t := h.below hb h.lt
def upd (f : Nat → Nat) (i : Nat) (x : Nat) : Nat → Nat := fun j => if j = i then x else f j
theorem cells4_set (f : Nat → Nat) (i x : Nat) (hi : i < 4) : (cells4 f).setIfInBounds i (.int .u64 (x : Nat)) = cells4 (upd f i x) := by
  rcases Nm.four hi with rfl | rfl | rfl | rfl <;> rfl
theorem cells4_congr {f g : Nat → Nat} (h : ∀ j, j < 4 → f j = g j) : cells4 f = cells4 g := by
  unfold cells4; rw [h 0 (by omega), h 1 (by omega), h 2 (by omega), h 3 (by omega)]
theorem cells4_size (f : Nat → Nat) : (cells4 f).size = 4 := rfl
theorem numC_size (x : Nat) : (numC x).size = 4 := rfl
theorem cells4_one (f : Nat → Nat) : (cells4 f).all (·.oneCell') = true := by simp [cells4, Value.oneCell']
theorem numC_one (x : Nat) : (numC x).all (·.oneCell') = true := cells4_one _
theorem numC_mk {f : Nat → Nat} (hf : ∀ i, i < 4 → f i < 18446744073709551616) : cells4 f = numC (Nm.mk f) := cells4_congr fun _ hj => (Nm.wd_mk hf hj).symm
theorem numC_get (x : Nat) {j : Nat} (h : j < 4) : (numC x)[j]? = some (.int .u64 (Nm.wd x j : Nat)) := cells4_get _ h
theorem Has.num {b : Nat} {x : Nat} {t : TypeId} (h : Has w b (numC x) t) {j : Nat} (hj : j < 4) : w.cell? ⟨b, j, none⟩ = some (.int .u64 (Nm.wd x j : Nat)) := (h.cell j).trans (numC_get x hj)
theorem Has.new1 (o : Obj) (cs : Array Value) (t : TypeId) : Has ((w.alloc o).alloc (.cells cs t)) (w.heap.size + 1) cs t := by
  have := Has.new (w := w.alloc o) cs t
  rwa [World.size_alloc] at this
theorem Has.new2 (o o' : Obj) (cs : Array Value) (t : TypeId) : Has (((w.alloc o).alloc o').alloc (.cells cs t)) (w.heap.size + 1 + 1) cs t := by
  have := Has.new (w := (w.alloc o).alloc o') cs t
  rwa [World.size_alloc, World.size_alloc] at this
theorem Has.new3 (o o' o'' : Obj) (cs : Array Value) (t : TypeId) : Has ((((w.alloc o).alloc o').alloc o'').alloc (.cells cs t)) (w.heap.size + 1 + 1 + 1) cs t := by
  have := Has.new (w := ((w.alloc o).alloc o').alloc o'') cs t
  rwa [World.size_alloc, World.size_alloc, World.size_alloc] at this
theorem zero4 : (#[.int .u64 0, .int .u64 0, .int .u64 0, .int .u64 0] : Array Value) = numC 0 := rfl
theorem Has.newz (t : TypeId) : Has (w.alloc (.cells #[.int .u64 0, .int .u64 0, .int .u64 0, .int .u64 0] t)) w.heap.size (numC 0) t := Has.new (numC 0) t
theorem infoNum : (Try.prog.info? 26).map (·.size) = some 4 := by kernel_rfl
section
variable {ops : Array Oper} {rest : List Oper} {o : Oper} {a : Act} {Q : Exit → Act → World → Prop}
/-- a number is loaded whole -/
theorem num_load (hgd : o.guard = none) (x : Operand) (ho : o.op = .load 26 x) (g : Nat) (hx : a.eval x = .pointer (some ⟨g, 0, none⟩)) (cs : Array Value) (hg : Has w g cs 26) (hs : cs.size = 4)
    (h : wpList Try.prog ops Q rest (a.put o.dst (.agg cs)) w) : wpList Try.prog ops Q (o :: rest) a w :=
  wpList_load_row hgd 26 x ho g hx 26 cs (0, 0) _ hg.out Try.underlying26 rfl (infoNum.trans (by rw [hs])) h
/-- a number is stored whole -/
theorem num_store (hgd : o.guard = none) (x y : Operand) (ho : o.op = .store 26 x y) (g : Nat) (z : Nat) (hx : a.eval x = .pointer (some ⟨g, 0, none⟩)) (hy : a.eval y = .agg (numC z)) (cs : Array Value) (hg : Has w g cs 26) (hs : cs.size = 4)
    (h : wpList Try.prog ops Q rest (a.put o.dst undef) (w.setRow g (numC z))) : wpList Try.prog ops Q (o :: rest) a w :=
  wpList_store_row hgd 26 x y ho g (numC z) hx hy 26 cs hg.out infoNum hs (numC_one z) h
end
/-- a result that lies in a block of its own -/
theorem num_results {fn : Func} {p : Tmp} (h : fn.results = #[.cell p 26]) (tmps : Array Value) (g x : Nat) (hp : tmps.getD p undef = .pointer (some ⟨g, 0, none⟩)) (hg : Has w g (numC x) 26) :
    (results fn tmps).run Try.prog w = .ok (.agg (numC x)) w :=
  results_cell_row h tmps w g 26 (numC x) (0, 0) _ hp hg.out Try.underlying26 rfl infoNum
/-- .. and a second result beside it -/
theorem num_results2 {fn : Func} {p u : Tmp} (h : fn.results = #[.cell p 26, .tmp u]) (tmps : Array Value) (g x : Nat) (v : Value) (hp : tmps.getD p undef = .pointer (some ⟨g, 0, none⟩)) (hv : tmps.getD u undef = v) (hg : Has w g (numC x) 26) :
    (results fn tmps).run Try.prog w = .ok (.tuple #[.agg (numC x), v]) w := by
  rw [results_cell_tmp h, hp, hv]
  have hl : (loadVar 26 ⟨g, 0, none⟩).run Try.prog w = .ok (.agg (numC x)) w := run_loadVar_row w g 26 26 (numC x) (0, 0) _ hg.out Try.underlying26 rfl infoNum
  simp [asAddr, hl, Result.andThen]
theorem run_load_num {b : Nat} {x : Nat} (h : Has w b (numC x) 26) : (Instr.loadAt 26 (.pointer (some ⟨b, 0, none⟩))).run Try.prog w = .ok (.agg (numC x)) w := by
  have hl : (loadVar 26 ⟨b, 0, none⟩).run Try.prog w = .ok (.agg (numC x)) w := run_loadVar_row w b 26 26 (numC x) (0, 0) _ h.out Try.underlying26 rfl infoNum
  simp [Instr.loadAt, Instr.sureAddr, hl]
theorem Has.regrown {b : Nat} {cs : Array Value} {t : TypeId} (h : Has w b cs t) (d : Nat) (os : Array Obj) : Has (Sort.grow (redrawn w d) os) b cs t := h.on (below_regrown w d os)
theorem sizeWord : (Try.prog.info? 24).map (·.size) = some 1 := by kernel_rfl
theorem Has.cls {b : Nat} {cs : Array Value} {t : TypeId} (h : Has w b cs t) : ∀ w', (∃ p : Regrown, w' = Sort.grow (redrawn w p.d) p.os) → Has w' b cs t := by
  rintro w' ⟨p, rfl⟩
  exact h.regrown _ _
/-- a number is loaded whole in a region that draws its order -/
theorem quiet_load_num {C : World → Prop} {a : Act} {o : Oper} {K : Act → Prop} (x : Operand) (ho : o.op = .load 26 x) (g : Nat) (hx : a.eval x = .pointer (some ⟨g, 0, none⟩)) (z : Nat) (hC : ∀ w', C w' → Has w' g (numC z) 26)
    (hk : K (a.put o.dst (.agg (numC z)))) : o.quiet Try.prog a C K :=
  ⟨_, fun w' hw' => by
    unfold Oper.quietAt
    have hl : (loadVar 26 ⟨g, 0, none⟩).run Try.prog w' = .ok (.agg (numC z)) w' := run_loadVar_row w' g 26 26 (numC z) (0, 0) _ (hC w' hw').out Try.underlying26 rfl infoNum
    have : (execOp a.eval o).run Try.prog w' = .ok (.value (.agg (numC z))) w' := by
      unfold execOp
      simp only [ho, hx, Instr.loadAt, Instr.sureAddr, Sem.run_bind, Sem.run_pure, Result.andThen_ok, hl]
    rw [this]
    exact ⟨rfl, rfl⟩, hk⟩
/-- two numbers that are read, a result's block, a number that grows -/
structure Acc (w wr : World) (A B R O x y : Nat) (cs : Array Value) : Prop where
  below : Below w.heap.size w wr
  a : Has wr A (numC x) 26
  b : Has wr B (numC y) 26
  r : Has wr R (numC 0) 26
  o : Has wr O cs 26
theorem Acc.on {w wr w' : World} {A B R O x y : Nat} {cs : Array Value} (h : Acc w wr A B R O x y cs) (hb : Below wr.heap.size wr w') : Acc w w' A B R O x y cs :=
  ⟨h.below.trans (hb.mono h.below.size), h.a.on hb, h.b.on hb, h.r.on hb, h.o.on hb⟩
theorem Acc.drew {w wr : World} {A B R O x y : Nat} {cs : Array Value} (h : Acc w wr A B R O x y cs) : Acc w wr.drew A B R O x y cs := h.on (Below.refl _ _).drew
theorem Acc.put {w wr : World} {A B R O x y : Nat} {cs : Array Value} (h : Acc w wr A B R O x y cs) (cs' : Array Value) (hA : A ≠ O) (hB : B ≠ O) (hR : R ≠ O) (hO : w.heap.size ≤ O) : Acc w (wr.setRow O cs') A B R O x y cs' :=
  ⟨below_setRow h.below hO _, h.a.otherRow _ _ hA, h.b.otherRow _ _ hB, h.r.otherRow _ _ hR, h.o.row _⟩
theorem Acc.set {w wr : World} {A B R O x y : Nat} {cs : Array Value} (h : Acc w wr A B R O x y cs) (i : Nat) (v : Value) (hA : A ≠ O) (hB : B ≠ O) (hR : R ≠ O) (hO : w.heap.size ≤ O) : Acc w (wr.setCell ⟨O, i, none⟩ v) A B R O x y (cs.setIfInBounds i v) :=
  ⟨h.below.setCell hO _, h.a.other _ _ hA, h.b.other _ _ hB, h.r.other _ _ hR, h.o.set _⟩
theorem Acc.start (w : World) (x y : Nat) (cs : Array Value) : Acc w ((((w.alloc (.cells (numC x) 26)).alloc (.cells (numC y) 26)).alloc (.cells (numC 0) 26)).alloc (.cells cs 26)) w.heap.size (w.heap.size + 1) (w.heap.size + 1 + 1) (w.heap.size + 1 + 1 + 1) x y cs :=
  ⟨((((Below.refl _ _).alloc (Nat.le_refl _) _).alloc (by simp) _).alloc (by simp; omega) _).alloc (by simp; omega) _, (((Has.new _ _).alloc _).alloc _).alloc _, ((Has.new1 _ _ _).alloc _).alloc _, (Has.new2 _ _ _ _).alloc _, Has.new3 _ _ _ _ _⟩
theorem Acc.setWord {w wr : World} {A B R O x y : Nat} {g : Nat → Nat} (h : Acc w wr A B R O x y (cells4 g)) (i v : Nat) (hi : i < 4) (hA : A ≠ O) (hB : B ≠ O) (hR : R ≠ O) (hO : w.heap.size ≤ O) : Acc w (wr.setCell ⟨O, i, none⟩ (.int .u64 (v : Nat))) A B R O x y (cells4 (upd g i v)) := by
  rw [← cells4_set g i v hi]; exact h.set i _ hA hB hR hO
theorem upd_next {g : Nat → Nat} {k : Nat} {f : Nat → Nat} (h : Hid (∀ j, j < k → g j = f j)) : Hid (∀ j, j < k + 1 → upd g k (f k) j = f j) := Lib.hid fun j hj => by
  unfold upd
  split
  · rename_i e; rw [e]
  · exact h.out j (by omega)
theorem cells4_done {g : Nat → Nat} {x : Nat} (h : Hid (∀ j, j < 4 → g j = Nm.wd x j)) : cells4 g = numC x := cells4_congr h.out
theorem numC_mod (x : Nat) : numC (x % Nm.big) = numC x := cells4_congr fun _ hj => Nm.wd_mod x hj
end Go.Proofs.Ytmemppkkchfphaa
