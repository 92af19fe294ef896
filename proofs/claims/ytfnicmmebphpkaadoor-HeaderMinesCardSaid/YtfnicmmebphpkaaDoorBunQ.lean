/-
  Texts of this seat, one behind the other.
-/
import Derived.WalkKit
import Derived.WalkSpells
import Derived.WalkLawsBesides
import Derived.Lib.Hide
import Derived.Lib.LazyBuf
import Derived.Lib.BufferWrite
import Derived.Deep.RegionLaw
import Derived.Laws.CopyOwn
import Derived.Laws.Rows
import Derived.Laws.ResultCell
import Derived.Deep.MidRow
import Derived.BigQuiet
import Derived.Deep.QuietTactic
import Derived.BigRegion
import Derived.Deep.RegionHeld3
import Derived.Stop.BytesEq
import Derived.Deep.DeepCutAuto
import Derived.Lib.QuietBelow
import Derived.StillTailTactics
import Derived.Test.YtfnicmmebphpkaaDoorBunP
import Derived.Test.YtfnicmmebphpkaaDoorRows
/-
  Numbers as the program's values hold them: four words in a row; blocks that hold one.
-/
namespace Go.Proofs.YtfnicmmebphpkaaDoor.NN
open Go.RowKit

/-- the words of a function of four as cells -/
def cells4 (f : Nat → Nat) : Array Value := #[.int .u64 (f 0 : Nat), .int .u64 (f 1 : Nat), .int .u64 (f 2 : Nat), .int .u64 (f 3 : Nat)]
def numC (x : Nat) : Array Value := cells4 (Nm.wd x)
/-- block b of w is a row of cells, none of them frozen -/
def Has (w : World) (b : Nat) (cs : Array Value) (t : TypeId) : Prop := w.heap[b]? = some (.cells cs t (0, 0))
variable {w w' : World}
theorem Has.out {b : Nat} {cs : Array Value} {t : TypeId} (h : Has w b cs t) : w.heap[b]? = some (.cells cs t (0, 0)) := h
theorem Has.cell {b : Nat} {cs : Array Value} {t : TypeId} (h : Has w b cs t) (j : Nat) : w.cell? ⟨b, j, none⟩ = cs[j]? := cell_of_row w b j cs t (0, 0) h
theorem cells4_get (f : Nat → Nat) {j : Nat} (h : j < 4) : (cells4 f)[j]? = some (.int .u64 (f j : Nat)) := by
  rcases Nm.four h with rfl | rfl | rfl | rfl <;> rfl
theorem Has.word {b : Nat} {f : Nat → Nat} {t : TypeId} (h : Has w b (cells4 f) t) {j : Nat} (hj : j < 4) : w.cell? ⟨b, j, none⟩ = some (.int .u64 (f j : Nat)) := (h.cell j).trans (cells4_get f hj)
theorem Has.free {b : Nat} {cs : Array Value} {t : TypeId} (h : Has w b cs t) (j : Nat) : w.frozen? ⟨b, j, none⟩ = false := frozen_of_row w b j cs t h
theorem Has.lt {b : Nat} {cs : Array Value} {t : TypeId} (h : Has w b cs t) : b < w.heap.size := by
  unfold Has at h
  by_cases hb : b < w.heap.size
  · exact hb
  · simp [Array.getElem?_eq_none (by omega : w.heap.size ≤ b)] at h
theorem Has.drew {b : Nat} {cs : Array Value} {t : TypeId} (h : Has w b cs t) : Has w.drew b cs t := h
theorem Has.drewN {b : Nat} {cs : Array Value} {t : TypeId} (h : Has w b cs t) (n : Nat) : Has (w.drewN n) b cs t := by
  unfold Has at *; simpa using h
theorem Has.alloc {b : Nat} {cs : Array Value} {t : TypeId} (h : Has w b cs t) (o : Obj) : Has (w.alloc o) b cs t := (heap_alloc_old w o h.lt).trans h
theorem Has.new (cs : Array Value) (t : TypeId) : Has (w.alloc (.cells cs t)) w.heap.size cs t := heap_alloc_new w _
theorem Has.set {b i : Nat} {cs : Array Value} {t : TypeId} (h : Has w b cs t) (v : Value) : Has (w.setCell ⟨b, i, none⟩ v) b (cs.setIfInBounds i v) t := heap_setCell_same w b i cs t v h
theorem Has.other {b : Nat} {cs : Array Value} {t : TypeId} (h : Has w b cs t) (a : Addr) (v : Value) (ha : b ≠ a.block) : Has (w.setCell a v) b cs t := (heap_setCell_other w a b v ha).trans h
theorem Has.row {b : Nat} {cs : Array Value} {t : TypeId} (h : Has w b cs t) (cs' : Array Value) : Has (w.setRow b cs') b cs' t := setRow_heap w b cs cs' t (0, 0) h
theorem Has.otherRow {b : Nat} {cs : Array Value} {t : TypeId} (h : Has w b cs t) (g : Nat) (cs' : Array Value) (ha : b ≠ g) : Has (w.setRow g cs') b cs t := (setRow_other w g b cs' ha).trans h
theorem Has.below {B : Nat} {b : Nat} {cs : Array Value} {t : TypeId} (h : Has w b cs t) (hb : Below B w w') (hB : b < B) : Has w' b cs t := (hb.block b hB).trans h
theorem Has.on {b : Nat} {cs : Array Value} {t : TypeId} (h : Has w b cs t) (hb : Below w.heap.size w w') : Has w' b cs t := h.below hb h.lt
def upd (f : Nat → Nat) (i : Nat) (x : Nat) : Nat → Nat := fun j => if j = i then x else f j
theorem cells4_set (f : Nat → Nat) (i x : Nat) (hi : i < 4) : (cells4 f).setIfInBounds i (.int .u64 (x : Nat)) = cells4 (upd f i x) := by
  rcases Nm.four hi with rfl | rfl | rfl | rfl <;> rfl
theorem cells4_congr {f g : Nat → Nat} (h : ∀ j, j < 4 → f j = g j) : cells4 f = cells4 g := by
  unfold cells4; rw [h 0 (by omega), h 1 (by omega), h 2 (by omega), h 3 (by omega)]
theorem cells4_size (f : Nat → Nat) : (cells4 f).size = 4 := rfl
theorem numC_size (x : Nat) : (numC x).size = 4 := rfl
theorem cells4_one (f : Nat → Nat) : (cells4 f).all (·.oneCell') = true := by simp [cells4, Value.oneCell']
theorem numC_one (x : Nat) : (numC x).all (·.oneCell') = true := cells4_one _
theorem numC_mk {f : Nat → Nat} (hf : ∀ i, i < 4 → f i < 18446744073709551616) : cells4 f = numC (Nm.mk f) := cells4_congr fun _ hj => (Nm.wd_mk hf hj).symm
theorem numC_get (x : Nat) {j : Nat} (h : j < 4) : (numC x)[j]? = some (.int .u64 (Nm.wd x j : Nat)) := cells4_get _ h
theorem Has.num {b : Nat} {x : Nat} {t : TypeId} (h : Has w b (numC x) t) {j : Nat} (hj : j < 4) : w.cell? ⟨b, j, none⟩ = some (.int .u64 (Nm.wd x j : Nat)) := (h.cell j).trans (numC_get x hj)
theorem Has.new1 (o : Obj) (cs : Array Value) (t : TypeId) : Has ((w.alloc o).alloc (.cells cs t)) (w.heap.size + 1) cs t := by
  have := Has.new (w := w.alloc o) cs t
  rwa [World.size_alloc] at this
theorem Has.new2 (o o' : Obj) (cs : Array Value) (t : TypeId) : Has (((w.alloc o).alloc o').alloc (.cells cs t)) (w.heap.size + 1 + 1) cs t := by
  have := Has.new (w := (w.alloc o).alloc o') cs t
  rwa [World.size_alloc, World.size_alloc] at this
theorem Has.new3 (o o' o'' : Obj) (cs : Array Value) (t : TypeId) : Has ((((w.alloc o).alloc o').alloc o'').alloc (.cells cs t)) (w.heap.size + 1 + 1 + 1) cs t := by
  have := Has.new (w := ((w.alloc o).alloc o').alloc o'') cs t
  rwa [World.size_alloc, World.size_alloc, World.size_alloc] at this
theorem zero4 : (#[.int .u64 0, .int .u64 0, .int .u64 0, .int .u64 0] : Array Value) = numC 0 := rfl
theorem Has.newz (t : TypeId) : Has (w.alloc (.cells #[.int .u64 0, .int .u64 0, .int .u64 0, .int .u64 0] t)) w.heap.size (numC 0) t := Has.new (numC 0) t
theorem infoNum : (Tryd.prog.info? 54).map (·.size) = some 4 := by kernel_rfl
section
variable {ops : Array Oper} {rest : List Oper} {o : Oper} {a : Act} {Q : Exit → Act → World → Prop}
/-- a number is loaded whole -/
theorem num_load (hgd : o.guard = none) (x : Operand) (ho : o.op = .load 54 x) (g : Nat) (hx : a.eval x = .pointer (some ⟨g, 0, none⟩)) (cs : Array Value) (hg : Has w g cs 54) (hs : cs.size = 4)
    (h : wpList Tryd.prog ops Q rest (a.put o.dst (.agg cs)) w) : wpList Tryd.prog ops Q (o :: rest) a w :=
  wpList_load_row hgd 54 x ho g hx 54 cs (0, 0) _ hg.out Tryd.underlying54 rfl (infoNum.trans (by rw [hs])) h
/-- a number is stored whole -/
theorem num_store (hgd : o.guard = none) (x y : Operand) (ho : o.op = .store 54 x y) (g : Nat) (z : Nat) (hx : a.eval x = .pointer (some ⟨g, 0, none⟩)) (hy : a.eval y = .agg (numC z)) (cs : Array Value) (hg : Has w g cs 54) (hs : cs.size = 4)
    (h : wpList Tryd.prog ops Q rest (a.put o.dst undef) (w.setRow g (numC z))) : wpList Tryd.prog ops Q (o :: rest) a w :=
  wpList_store_row hgd 54 x y ho g (numC z) hx hy 54 cs hg.out infoNum hs (numC_one z) h
end
/-- a result that lies in a block of its own -/
theorem num_results {fn : Func} {p : Tmp} (h : fn.results = #[.cell p 54]) (tmps : Array Value) (g x : Nat) (hp : tmps.getD p undef = .pointer (some ⟨g, 0, none⟩)) (hg : Has w g (numC x) 54) :
    (results fn tmps).run Tryd.prog w = .ok (.agg (numC x)) w :=
  results_cell_row h tmps w g 54 (numC x) (0, 0) _ hp hg.out Tryd.underlying54 rfl infoNum
/-- .. and a second result beside it -/
theorem num_results2 {fn : Func} {p u : Tmp} (h : fn.results = #[.cell p 54, .tmp u]) (tmps : Array Value) (g x : Nat) (v : Value) (hp : tmps.getD p undef = .pointer (some ⟨g, 0, none⟩)) (hv : tmps.getD u undef = v) (hg : Has w g (numC x) 54) :
    (results fn tmps).run Tryd.prog w = .ok (.tuple #[.agg (numC x), v]) w := by
  rw [results_cell_tmp h, hp, hv]
  have hl : (loadVar 54 ⟨g, 0, none⟩).run Tryd.prog w = .ok (.agg (numC x)) w := run_loadVar_row w g 54 54 (numC x) (0, 0) _ hg.out Tryd.underlying54 rfl infoNum
  simp [asAddr, hl, Result.andThen]
theorem run_load_num {b : Nat} {x : Nat} (h : Has w b (numC x) 54) : (Instr.loadAt 54 (.pointer (some ⟨b, 0, none⟩))).run Tryd.prog w = .ok (.agg (numC x)) w := by
  have hl : (loadVar 54 ⟨b, 0, none⟩).run Tryd.prog w = .ok (.agg (numC x)) w := run_loadVar_row w b 54 54 (numC x) (0, 0) _ h.out Tryd.underlying54 rfl infoNum
  simp [Instr.loadAt, Instr.sureAddr, hl]
theorem Has.regrown {b : Nat} {cs : Array Value} {t : TypeId} (h : Has w b cs t) (d : Nat) (os : Array Obj) : Has (Sort.grow (redrawn w d) os) b cs t := h.on (below_regrown w d os)
theorem sizeWord : (Tryd.prog.info? 52).map (·.size) = some 1 := by kernel_rfl
theorem Has.cls {b : Nat} {cs : Array Value} {t : TypeId} (h : Has w b cs t) : ∀ w', (∃ p : Regrown, w' = Sort.grow (redrawn w p.d) p.os) → Has w' b cs t := by
  rintro w' ⟨p, rfl⟩
  exact h.regrown _ _
/-- a number is loaded whole in a region that draws its order -/
theorem quiet_load_num {C : World → Prop} {a : Act} {o : Oper} {K : Act → Prop} (x : Operand) (ho : o.op = .load 54 x) (g : Nat) (hx : a.eval x = .pointer (some ⟨g, 0, none⟩)) (z : Nat) (hC : ∀ w', C w' → Has w' g (numC z) 54)
    (hk : K (a.put o.dst (.agg (numC z)))) : o.quiet Tryd.prog a C K :=
  ⟨_, fun w' hw' => by
    unfold Oper.quietAt
    have hl : (loadVar 54 ⟨g, 0, none⟩).run Tryd.prog w' = .ok (.agg (numC z)) w' := run_loadVar_row w' g 54 54 (numC z) (0, 0) _ (hC w' hw').out Tryd.underlying54 rfl infoNum
    have : (execOp a.eval o).run Tryd.prog w' = .ok (.value (.agg (numC z))) w' := by
      unfold execOp
      simp only [ho, hx, Instr.loadAt, Instr.sureAddr, Sem.run_bind, Sem.run_pure, Result.andThen_ok, hl]
    rw [this]
    exact ⟨rfl, rfl⟩, hk⟩
/-- two numbers that are read, a result's block, a number that grows -/
structure Acc (w wr : World) (A B R O x y : Nat) (cs : Array Value) : Prop where
  below : Below w.heap.size w wr
  a : Has wr A (numC x) 54
  b : Has wr B (numC y) 54
  r : Has wr R (numC 0) 54
  o : Has wr O cs 54
theorem Acc.on {w wr w' : World} {A B R O x y : Nat} {cs : Array Value} (h : Acc w wr A B R O x y cs) (hb : Below wr.heap.size wr w') : Acc w w' A B R O x y cs :=
  ⟨h.below.trans (hb.mono h.below.size), h.a.on hb, h.b.on hb, h.r.on hb, h.o.on hb⟩
theorem Acc.drew {w wr : World} {A B R O x y : Nat} {cs : Array Value} (h : Acc w wr A B R O x y cs) : Acc w wr.drew A B R O x y cs := h.on (Below.refl _ _).drew
theorem Acc.put {w wr : World} {A B R O x y : Nat} {cs : Array Value} (h : Acc w wr A B R O x y cs) (cs' : Array Value) (hA : A ≠ O) (hB : B ≠ O) (hR : R ≠ O) (hO : w.heap.size ≤ O) : Acc w (wr.setRow O cs') A B R O x y cs' :=
  ⟨below_setRow h.below hO _, h.a.otherRow _ _ hA, h.b.otherRow _ _ hB, h.r.otherRow _ _ hR, h.o.row _⟩
theorem Acc.set {w wr : World} {A B R O x y : Nat} {cs : Array Value} (h : Acc w wr A B R O x y cs) (i : Nat) (v : Value) (hA : A ≠ O) (hB : B ≠ O) (hR : R ≠ O) (hO : w.heap.size ≤ O) : Acc w (wr.setCell ⟨O, i, none⟩ v) A B R O x y (cs.setIfInBounds i v) :=
  ⟨h.below.setCell hO _, h.a.other _ _ hA, h.b.other _ _ hB, h.r.other _ _ hR, h.o.set _⟩
theorem Acc.start (w : World) (x y : Nat) (cs : Array Value) : Acc w ((((w.alloc (.cells (numC x) 54)).alloc (.cells (numC y) 54)).alloc (.cells (numC 0) 54)).alloc (.cells cs 54)) w.heap.size (w.heap.size + 1) (w.heap.size + 1 + 1) (w.heap.size + 1 + 1 + 1) x y cs :=
  ⟨((((Below.refl _ _).alloc (Nat.le_refl _) _).alloc (by simp) _).alloc (by simp; omega) _).alloc (by simp; omega) _, (((Has.new _ _).alloc _).alloc _).alloc _, ((Has.new1 _ _ _).alloc _).alloc _, (Has.new2 _ _ _ _).alloc _, Has.new3 _ _ _ _ _⟩
theorem Acc.setWord {w wr : World} {A B R O x y : Nat} {g : Nat → Nat} (h : Acc w wr A B R O x y (cells4 g)) (i v : Nat) (hi : i < 4) (hA : A ≠ O) (hB : B ≠ O) (hR : R ≠ O) (hO : w.heap.size ≤ O) : Acc w (wr.setCell ⟨O, i, none⟩ (.int .u64 (v : Nat))) A B R O x y (cells4 (upd g i v)) := by
  rw [← cells4_set g i v hi]; exact h.set i _ hA hB hR hO
theorem upd_next {g : Nat → Nat} {k : Nat} {f : Nat → Nat} (h : Hid (∀ j, j < k → g j = f j)) : Hid (∀ j, j < k + 1 → upd g k (f k) j = f j) := Lib.hid fun j hj => by
  unfold upd
  split
  · rename_i e; rw [e]
  · exact h.out j (by omega)
theorem cells4_done {g : Nat → Nat} {x : Nat} (h : Hid (∀ j, j < 4 → g j = Nm.wd x j)) : cells4 g = numC x := cells4_congr h.out
theorem numC_mod (x : Nat) : numC (x % Nm.big) = numC x := cells4_congr fun _ hj => Nm.wd_mod x hj
end Go.Proofs.YtfnicmmebphpkaaDoor.NN
/-
  Two numbers are the same just if their words are.
-/
namespace Go.Proofs.YtfnicmmebphpkaaDoor.NN
open Go.RowKit

theorem all_range_int : ∀ (xs ys : List Int), xs.length = ys.length → ((List.range xs.length).all fun i => xs.getD i 0 == ys.getD i 0) = (xs == ys)
  | [], [], _ => rfl
  | x :: xs, y :: ys, h => by
    have ih := all_range_int xs ys (by simpa using h)
    rw [List.length_cons, List.range_succ_eq_map, List.all_cons, List.all_map]
    simp only [List.getD_cons_zero, Function.comp_def, List.getD_cons_succ, ih]
    simp [List.cons_beq_cons]
  | [], _ :: _, h => by simp at h
  | _ :: _, [], h => by simp at h
section
variable {P : Program} (w : World)
theorem run_equalIn_ints (d : Nat) (k : IntKind) (t e : TypeId) (n : Nat) (ht : P.underlying t = some (.array n e)) (he : P.underlying e = some (.int k)) (hsz : ∀ w, (sizeOf e).run P w = .ok 1 w)
    (xs ys : List Int) (hx : xs.length = n) (hy : ys.length = n) :
    (Op.equalIn (d + 2) t (.agg (xs.map (Value.int k)).toArray) (.agg (ys.map (Value.int k)).toArray)).run P w = .ok (xs == ys) w := by
  rw [← all_range_int xs ys (hx.trans hy.symm), hx, List.range_eq_range', Op.equalIn]
  simp only [Sem.run_bind, run_underlying ht, Result.andThen_ok, hsz, Std.Legacy.Range.forIn_eq_forIn_range', Std.Legacy.Range.size, Nat.sub_zero, Nat.add_sub_cancel, Nat.div_one]
  have hl : ∀ i ∈ List.range' 0 n 1, i < n := fun i hi => by simpa using (List.mem_range'_1.1 hi).2
  generalize List.range' 0 n 1 = l at hl ⊢
  induction l with
  | nil => simp
  | cons i l ih =>
    have hi : i < n := hl i (by simp)
    have px : (part e (xs.map (Value.int k)).toArray (i * 1)).run P w = .ok (Value.int k (xs.getD i 0)) w := by
      simp [part, isAgg, run_underlying he, List.getD, List.getElem?_eq_getElem (show i < xs.length by omega)]
    have py : (part e (ys.map (Value.int k)).toArray (i * 1)).run P w = .ok (Value.int k (ys.getD i 0)) w := by
      simp [part, isAgg, run_underlying he, List.getD, List.getElem?_eq_getElem (show i < ys.length by omega)]
    have pe : (Op.equalIn (d + 1) e (Value.int k (xs.getD i 0)) (Value.int k (ys.getD i 0))).run P w = .ok (xs.getD i 0 == ys.getD i 0) w :=
      run_equalIn_int w d e k k _ _ he
    simp only [List.forIn_cons, Sem.run_bind, px, py, pe, Result.andThen_ok, List.all_cons]
    cases hb : (xs.getD i 0 == ys.getD i 0)
    · simp
    · simp only [Bool.not_true, Bool.false_eq_true, if_false, Sem.run_pure, Result.andThen_ok, Bool.true_and]
      exact ih fun j hj => hl j (by simp [hj])
theorem run_eql_ints (k : IntKind) (t e : TypeId) (n : Nat) (ht : P.underlying t = some (.array n e)) (he : P.underlying e = some (.int k)) (hsz : ∀ w, (sizeOf e).run P w = .ok 1 w)
    (xs ys : List Int) (hx : xs.length = n) (hy : ys.length = n) :
    (binOp .eql t (.agg (xs.map (Value.int k)).toArray) (.agg (ys.map (Value.int k)).toArray)).run P w = .ok (.bool (xs == ys)) w := by
  rw [run_eql_struct, run_equalIn_ints w 9998 k t e n ht he hsz xs ys hx hy]
  rfl
theorem run_neq_ints (k : IntKind) (t e : TypeId) (n : Nat) (ht : P.underlying t = some (.array n e)) (he : P.underlying e = some (.int k)) (hsz : ∀ w, (sizeOf e).run P w = .ok 1 w)
    (xs ys : List Int) (hx : xs.length = n) (hy : ys.length = n) :
    (binOp .neq t (.agg (xs.map (Value.int k)).toArray) (.agg (ys.map (Value.int k)).toArray)).run P w = .ok (.bool (!(xs == ys))) w := by
  have h : (Op.equalIn Op.maxDepth t (.agg (xs.map (Value.int k)).toArray) (.agg (ys.map (Value.int k)).toArray)).run P w = .ok (xs == ys) w := run_equalIn_ints w 9998 k t e n ht he hsz xs ys hx hy
  simp only [binOp, Sem.run_bind, Op.equal, h, Result.andThen_ok, Sem.run_pure]
end
theorem wordSize (w : World) : (sizeOf 52).run Tryd.prog w = .ok 1 w := by kernel_rfl
def wds (x : Nat) : List Int := [(Nm.wd x 0 : Nat), (Nm.wd x 1 : Nat), (Nm.wd x 2 : Nat), (Nm.wd x 3 : Nat)]
theorem numC_wds (x : Nat) : numC x = ((wds x).map (Value.int .u64)).toArray := rfl
theorem wds_eq {x y : Nat} (hx : x < Nm.big) (hy : y < Nm.big) : (wds x == wds y) = decide (x = y) := by
  rw [Bool.eq_iff_iff, beq_iff_eq, decide_eq_true_iff]
  constructor
  · intro h
    simp only [wds, List.cons.injEq, and_true, Int.ofNat_inj] at h
    obtain ⟨h0, h1, h2, h3⟩ := h
    refine Nm.wd_inj hx hy fun i hi => ?_
    rcases Nm.four hi with rfl | rfl | rfl | rfl <;> assumption
  · intro h; rw [h]
theorem eql_num {x y : Nat} (hx : x < Nm.big) (hy : y < Nm.big) (w : World) : (binOp .eql 54 (.agg (numC x)) (.agg (numC y))).run Tryd.prog w = .ok (.bool (decide (x = y))) w := by
  rw [numC_wds, numC_wds, run_eql_ints w .u64 54 52 4 Tryd.underlying54 Tryd.underlying52 wordSize _ _ rfl rfl, wds_eq hx hy]
theorem neq_num {x y : Nat} (hx : x < Nm.big) (hy : y < Nm.big) (w : World) : (binOp .neq 54 (.agg (numC x)) (.agg (numC y))).run Tryd.prog w = .ok (.bool (!decide (x = y))) w := by
  rw [numC_wds, numC_wds, run_neq_ints w .u64 54 52 4 Tryd.underlying54 Tryd.underlying52 wordSize _ _ rfl rfl, wds_eq hx hy]
end Go.Proofs.YtfnicmmebphpkaaDoor.NN
namespace Go.Proofs.YtfnicmmebphpkaaDoor.NN
open Go.RowKit
theorem Acc.start1 (w : World) (x : Nat) (cs : Array Value) : Acc w (((w.alloc (.cells (numC x) 54)).alloc (.cells (numC 0) 54)).alloc (.cells cs 54)) w.heap.size w.heap.size (w.heap.size + 1) (w.heap.size + 1 + 1) x x cs :=
  ⟨(((Below.refl _ _).alloc (Nat.le_refl _) _).alloc (by simp) _).alloc (by simp; omega) _, ((Has.new _ _).alloc _).alloc _, ((Has.new _ _).alloc _).alloc _, (Has.new1 _ _ _).alloc _, Has.new2 _ _ _ _⟩
/-- two numbers that are read -/
structure Two (w wr : World) (A B x y : Nat) : Prop where
  below : Below w.heap.size w wr
  a : Has wr A (numC x) 54
  b : Has wr B (numC y) 54
theorem Two.on {w wr w' : World} {A B x y : Nat} (h : Two w wr A B x y) (hb : Below wr.heap.size wr w') : Two w w' A B x y :=
  ⟨h.below.trans (hb.mono h.below.size), h.a.on hb, h.b.on hb⟩
theorem Two.start (w : World) (x y : Nat) : Two w ((w.alloc (.cells (numC x) 54)).alloc (.cells (numC y) 54)) w.heap.size (w.heap.size + 1) x y :=
  ⟨((Below.refl _ _).alloc (Nat.le_refl _) _).alloc (by simp) _, (Has.new _ _).alloc _, Has.new1 _ _ _⟩
end Go.Proofs.YtfnicmmebphpkaaDoor.NN
namespace Go.Proofs.YtfnicmmebphpkaaDoor.NN
open Go.RowKit

theorem bitI (x i : Nat) : wrap64 ((((Nm.wd x (i / 64) : Nat) : Int) / 2 ^ (i % 64)).tmod 2) = (Nm.bit x i : Nat) := by
  have e : ((Nm.wd x (i / 64) : Nat) : Int) / 2 ^ (i % 64) = ((Nm.wd x (i / 64) / 2 ^ (i % 64) : Nat) : Int) := by simp
  rw [e, ← Nm.bit_wd]
  generalize Nm.wd x (i / 64) / 2 ^ (i % 64) = k
  rw [Int.tmod_eq_emod_of_nonneg (by omega)]
  unfold wrap64
  omega
set_option maxRecDepth 100000 in
set_option maxHeartbeats 400000 in
theorem ref_bit (x i : Nat) (hi : i < 256) (w : World) :
    Calls Tryd.prog 41 #[.agg (numC x), .int .i64 (i : Int)] w fun e w' => e = .returned (.int .i64 (Nm.bit x i : Nat)) ∧ Below w.heap.size w w' := by
  have hH : Has (w.alloc (.cells (numC x) 54)) w.heap.size (numC x) 54 := Has.new _ _
  have hc := hH.num (j := i / 64) (by omega)
  have HB := Lib.hid (bitI x i)
  go_enter Tryd.func41, Tryd.ntmps41
  go_wp2_with fail
  go_ret
  exact ⟨congrArg Ending.returned (by rw [HB.out]; rfl), (Below.refl _ _).alloc (Nat.le_refl _) _⟩

theorem wrap_pow (m : Nat) (hm : m < 64) : IntKind.u64.wrap (2 ^ m) = ((2 ^ m : Nat) : Int) := by
  have h : ((2 : Int) ^ m) = ((2 ^ m : Nat) : Int) := by simp
  have h2 : 2 ^ m < 2 ^ 64 := Nat.pow_lt_pow_right (by decide) hm
  rw [h, IntKind.wrap_u64]
  generalize 2 ^ m = k at h2
  omega
theorem or64 (x y : Nat) (hx : x < 18446744073709551616) (hy : y < 18446744073709551616) : bits .or .u64 (x : Int) (y : Int) = ((x ||| y : Nat) : Int) := by
  have h : x ||| y < 2 ^ 64 := Nat.or_lt_two_pow hx hy
  show IntKind.u64.wrap ((BitVec.ofInt 64 (x : Int) ||| BitVec.ofInt 64 (y : Int)).toNat : Int) = _
  rw [BitVec.ofInt_natCast, BitVec.ofInt_natCast, BitVec.toNat_or, BitVec.toNat_ofNat, BitVec.toNat_ofNat, Nat.mod_eq_of_lt hx, Nat.mod_eq_of_lt hy, IntKind.wrap_u64]
  omega
theorem numC_or (x i : Nat) (hi : i < 256) : (numC x).setIfInBounds (i / 64) (.int .u64 (bits .or .u64 ((Nm.wd x (i / 64) : Nat) : Int) (IntKind.u64.wrap (2 ^ (i % 64))))) = numC (x ||| 2 ^ i) := by
  have hm : i % 64 < 64 := Nat.mod_lt _ (by decide)
  have h2 : 2 ^ (i % 64) < 2 ^ 64 := Nat.pow_lt_pow_right (by decide) hm
  rw [wrap_pow _ hm, or64 _ _ (Nm.wd_lt _ _) (by simpa using h2)]
  unfold numC
  rw [cells4_set _ _ _ (by omega)]
  apply cells4_congr
  intro j hj
  rw [Nm.wd_or x i j]
  unfold upd
  split
  · rename_i h; rw [h]
  · rfl
end Go.Proofs.YtfnicmmebphpkaaDoor.NN
namespace Go.Proofs.YtfnicmmebphpkaaDoor.NN
open Go.RowKit

theorem most_cells : (#[.int .u64 18446744073709551615, .int .u64 18446744073709551615, .int .u64 18446744073709551615, .int .u64 18446744073709551615] : Array Value) = numC (Nm.big - 1) := by
  unfold numC cells4
  rw [show Nm.wd (Nm.big - 1) 0 = 18446744073709551615 by decide +kernel, show Nm.wd (Nm.big - 1) 1 = 18446744073709551615 by decide +kernel, show Nm.wd (Nm.big - 1) 2 = 18446744073709551615 by decide +kernel, show Nm.wd (Nm.big - 1) 3 = 18446744073709551615 by decide +kernel]
  rfl
theorem small_cells (n : Nat) (hn : n < 18446744073709551616) : (#[.int .u64 (n : Int), .int .u64 0, .int .u64 0, .int .u64 0] : Array Value) = numC n := by
  unfold numC cells4
  rw [Nm.wd0, Nm.wd1, Nm.wd2, Nm.wd3, Nat.mod_eq_of_lt hn, Nat.div_eq_of_lt hn, Nat.div_eq_of_lt (by omega), Nat.div_eq_of_lt (by omega)]
  rfl
theorem of (n : Nat) (hn : n < 18446744073709551616) (w : World) : Calls Tryd.prog 49 #[.int .u64 (n : Int)] w fun e w' => e = .returned (.agg (numC n)) ∧ Below w.heap.size w w' := by
  go_enter Tryd.func49, Tryd.ntmps49
  go_wp2_with fail
  rw [small_cells n hn]
  exact bodyPost_ret (v := .agg (numC n)) (num_results Tryd.results49 _ _ _ rfl (Has.new _ _)) rfl ⟨rfl, (Below.refl _ _).alloc (Nat.le_refl _) _⟩
end Go.Proofs.YtfnicmmebphpkaaDoor.NN
namespace Go.Proofs.YtfnicmmebphpkaaDoor.NN
open Go.RowKit

theorem quiet_eq {P : Program} {f : FuncId} {args : Array Value} {w : World} {n : Nat} {v : Value}
    (h : Calls P f args (w.drewN n) fun e w' => e = .returned v ∧ w.drewN n = w') : Calls P f args (w.drewN n) fun e w'' => e = .returned v ∧ ∃ m, w'' = w.drewN m :=
  h.mono fun _ _ ⟨he, hm⟩ => ⟨he, n, hm.symm⟩
theorem isNaN (x : Nat) (w : World) : Calls Tryd.prog 69 #[.int .u64 (x : Int)] w fun e w' => e = .returned (.bool false) ∧ w = w' := by
  go_enter Tryd.func69, Tryd.ntmps69
  go_wp2_with fail
  go_ret
  simp
set_option maxRecDepth 100000 in
theorem cmp64 (x y : Nat) (w : World) : Calls Tryd.prog 66 #[.int .u64 (x : Int), .int .u64 (y : Int)] w fun e w' => e = .returned (.int .i64 (Nm.cmp x y)) ∧ w = w' := by
  have h : (x < y ∧ Nm.cmp x y = -1) ∨ (¬ x < y ∧ y < x ∧ Nm.cmp x y = 1) ∨ (¬ x < y ∧ ¬ y < x ∧ Nm.cmp x y = 0) := by
    unfold Nm.cmp
    rcases Nat.lt_trichotomy x y with h | h | h
    · exact .inl ⟨h, by rw [if_pos h]⟩
    · subst h; exact .inr (.inr ⟨by omega, by omega, by rw [if_neg (by omega), if_neg (by omega)]⟩)
    · exact .inr (.inl ⟨by omega, h, by rw [if_neg (by omega), if_pos h]⟩)
  rcases h with ⟨h1, h2⟩ | ⟨h1, h2, h3⟩ | ⟨h1, h2, h3⟩
  all_goals
    first | rw [h2] | rw [h3]
    first | clear h3 | clear h2
    go_enter Tryd.func66, Tryd.ntmps66
    go_wp2_with (go_at_call 69; refine (isNaN _ _).mono ?_; rintro e w' ⟨rfl, rfl⟩)
    go_ret
    exact ⟨rfl, rfl⟩
set_option maxRecDepth 100000 in
set_option maxHeartbeats 400000 in
theorem compare (x y : Nat) (hx : x < Nm.big) (hy : y < Nm.big) (w : World) :
    Calls Tryd.prog 62 #[.agg (numC x), .agg (numC y)] w fun e w' => e = .returned (.int .i64 (Nm.cmp x y)) ∧ Below w.heap.size w w' := by
  go_enter Tryd.func62, Tryd.ntmps62
  go_wp2_with fail
  generalize hw1 : World.alloc _ _ = w1
  have h0 : Two w w1 w.heap.size (w.heap.size + 1) x y := by rw [← hw1]; exact Two.start w x y
  clear hw1
  generalize w.heap.size + 1 = B at *
  generalize hC : w.heap.size = A at *
  have HC := Lib.hid hC
  clear hC
  have hst : x / 2 ^ (64 * (3 + 1)) = y / 2 ^ (64 * (3 + 1)) := Nm.top_all hx hy
  have HST := Lib.hid hst
  clear hst
  go_loopw [5] (fun i wr => ∃ k : Nat, k ≤ 3 ∧ i = .int .i64 k ∧ Two w wr A B x y ∧ Hid (x / 2 ^ (64 * (k + 1)) = y / 2 ^ (64 * (k + 1)))) (fun i _ => (intOf i).toNat)
  case atStart => exact ⟨3, by omega, rfl, h0, HST⟩
  case round =>
    obtain ⟨k, hk, rfl, hs, HK⟩ := hrel
    by_cases hk0 : 0 < k
    · have ca := hs.a.num (j := k) (by omega)
      have cb := hs.b.num (j := k) (by omega)
      by_cases he : Nm.wd x k = Nm.wd y k
      · have hn := Nm.word_same HK.out he
        have HN := Lib.hid hn
        have hq : ((Nm.wd x k : Int) != (Nm.wd y k : Int)) = false := by rw [he]; simp
        clear hn he
        generalize Nm.wd x k = a at *
        generalize Nm.wd y k = b at *
        go_wp2_with fail
        go_quiet (fail)
        have hs2 := hs.on (below_drewN (Below.refl _ wr) nq)
        go_wp2_with fail
        go_roundw
        case rel => exact ⟨k - 1, by omega, congrArg (Value.int .i64) (by omega), hs2, by rw [show k - 1 + 1 = k by omega]; exact HN⟩
        case measure => simp [intOf]; omega
      · have hn := Nm.cmp_word HK.out he
        have HN := Lib.hid hn
        have hq : ((Nm.wd x k : Int) != (Nm.wd y k : Int)) = true := by simp; omega
        have hcmp := fun w => cmp64 (Nm.wd x k) (Nm.wd y k) w
        clear hn he
        generalize Nm.wd x k = a at *
        generalize Nm.wd y k = b at *
        have HCM := Lib.hid hcmp
        clear hcmp
        go_wp2_with fail
        go_quiet (fail)
        have hs2 := hs.on (below_drewN (Below.refl _ wr) nq)
        have ca2 := (below_drewN (Below.refl wr.heap.size wr) nq).cell (p := ⟨A, k, none⟩) hs.a.lt
        have cb2 := (below_drewN (Below.refl wr.heap.size wr) nq).cell (p := ⟨B, k, none⟩) hs.b.lt
        rw [ca] at ca2
        rw [cb] at cb2
        clear ca cb hs
        generalize wr.drewN nq = w2 at *
        go_wp2_with fail
        go_quiet ((go_at_call 66; exact quiet_eq (HCM.out _)))
        have hs3 := hs2.on (below_drewN (Below.refl _ w2) nq)
        go_wp2_with fail
        go_ret
        exact ⟨congrArg (fun n => Ending.returned (.int .i64 n)) HN.out, hs3.below⟩
    · obtain rfl : k = 0 := by omega
      have ca := hs.a.num (j := 0) (by omega)
      have cb := hs.b.num (j := 0) (by omega)
      have hn := Nm.cmp_zero HK.out
      have HN := Lib.hid hn
      have hcmp := fun w => cmp64 (Nm.wd x 0) (Nm.wd y 0) w
      clear hn
      generalize Nm.wd x 0 = a at *
      generalize Nm.wd y 0 = b at *
      have HCM := Lib.hid hcmp
      clear hcmp
      go_wp2_with (go_at_call 66; ((with_reducible refine (HCM.out _).mono ?_)); rintro e w' ⟨rfl, rfl⟩)
      go_ret
      exact ⟨congrArg (fun n => Ending.returned (.int .i64 n)) HN.out, hs.below⟩
theorem cmp_lt (x y : Nat) : decide (Nm.cmp x y < 0) = decide (x < y) := by
  unfold Nm.cmp
  apply decide_eq_decide.2
  split
  · simp [*]
  · split <;> simp [*]
set_option maxRecDepth 100000 in
theorem less (x y : Nat) (hx : x < Nm.big) (hy : y < Nm.big) (w : World) :
    Calls Tryd.prog 51 #[.agg (numC x), .agg (numC y)] w fun e w' => e = .returned (.bool (decide (x < y))) ∧ Below w.heap.size w w' := by
  have hq := cmp_lt x y
  have hc := fun w => compare x y hx hy w
  generalize Nm.cmp x y = c at *
  have HQ := Lib.hid hq
  have HC := Lib.hid hc
  clear hq hc
  go_enter Tryd.func51, Tryd.ntmps51
  go_upto_region 1 with fail
  generalize hw1 : World.alloc _ _ = w1
  have h0 : Two w w1 w.heap.size (w.heap.size + 1) x y := by rw [← hw1]; exact Two.start w x y
  clear hw1
  go_wp2_with (first | (with_reducible refine num_load rfl _ rfl _ rfl _ h0.a rfl ?_) | (with_reducible refine num_load rfl _ rfl _ rfl _ h0.b rfl ?_))
  refine (HC.out _).mono ?_
  rintro e w2 ⟨rfl, hb⟩
  have h2 := h0.on hb
  go_wp2_with fail
  go_ret
  exact ⟨congrArg (fun b => Ending.returned (.bool b)) HQ.out, h2.below⟩
end Go.Proofs.YtfnicmmebphpkaaDoor.NN
namespace Go.Proofs.YtfnicmmebphpkaaDoor.NN
open Go.RowKit

/-- 32 bytes as cells -/
def hashC (f : Nat → Nat) : Array Value := ((List.range 32).map fun i => Value.int .u8 (f i : Nat)).toArray
theorem hashC_get (f : Nat → Nat) {j : Nat} (h : j < 32) : (hashC f)[j]? = some (.int .u8 (f j : Nat)) := by simp [hashC, h]
theorem hashC_size (f : Nat → Nat) : (hashC f).size = 32 := by simp [hashC]
theorem hashC_one (f : Nat → Nat) : (hashC f).all (·.oneCell') = true := by
  rw [Array.all_eq_true_iff_forall_mem]
  intro v hv
  simp [hashC] at hv
  obtain ⟨i, _, rfl⟩ := hv
  rfl
theorem hashC_congr {f g : Nat → Nat} (h : ∀ j, j < 32 → f j = g j) : hashC f = hashC g := by
  unfold hashC
  congr 1
  exact List.map_congr_left fun i hi => by rw [h i (by simpa using hi)]
theorem hashC_set (f : Nat → Nat) (i x : Nat) : (hashC f).setIfInBounds i (.int .u8 (x : Nat)) = hashC (upd f i x) := by
  apply Array.ext_getElem?
  intro j
  rw [Array.getElem?_setIfInBounds]
  by_cases hj : j < 32
  · rw [hashC_get _ hj]
    by_cases hij : i = j
    · subst hij; simp [hj, upd, hashC]
    · rw [if_neg hij, hashC_get _ hj]
      have : j ≠ i := fun e => hij e.symm
      simp [upd, this]
  · have h1 : ∀ g, (hashC g)[j]? = none := fun g => by simp [hashC]; omega
    rw [h1, h1]
    by_cases hij : i = j
    · subst hij; simp [hashC_size, hj]
    · simp [hij]
theorem infoHash : (Tryd.prog.info? 23).map (·.size) = some 32 := by kernel_rfl
set_option maxRecDepth 100000 in
theorem idx_hash (f : Nat → Nat) {k : Nat} (hk : k < 32) (w : World) : (Instr.index 23 (.agg (hashC f)) (.int .i64 (k : Int))).run Tryd.prog w = .ok (.int .u8 (f k : Nat)) w := by
  obtain rfl | rfl | rfl | rfl | rfl | rfl | rfl | rfl | rfl | rfl | rfl | rfl | rfl | rfl | rfl | rfl | rfl | rfl | rfl | rfl | rfl | rfl | rfl | rfl | rfl | rfl | rfl | rfl | rfl | rfl | rfl | rfl : k = 0 ∨ k = 1 ∨ k = 2 ∨ k = 3 ∨ k = 4 ∨ k = 5 ∨ k = 6 ∨ k = 7 ∨ k = 8 ∨ k = 9 ∨ k = 10 ∨ k = 11 ∨ k = 12 ∨ k = 13 ∨ k = 14 ∨ k = 15 ∨ k = 16 ∨ k = 17 ∨ k = 18 ∨ k = 19 ∨ k = 20 ∨ k = 21 ∨ k = 22 ∨ k = 23 ∨ k = 24 ∨ k = 25 ∨ k = 26 ∨ k = 27 ∨ k = 28 ∨ k = 29 ∨ k = 30 ∨ k = 31 := by omega
  all_goals rfl
section
variable {w : World} {ops : Array Oper} {rest : List Oper} {o : Oper} {a : Act} {Q : Exit → Act → World → Prop}
theorem hash_load (hgd : o.guard = none) (x : Operand) (ho : o.op = .load 23 x) (g : Nat) (hx : a.eval x = .pointer (some ⟨g, 0, none⟩)) (f : Nat → Nat) (hg : Has w g (hashC f) 23)
    (h : wpList Tryd.prog ops Q rest (a.put o.dst (.agg (hashC f))) w) : wpList Tryd.prog ops Q (o :: rest) a w :=
  wpList_load_row hgd 23 x ho g hx 23 (hashC f) (0, 0) _ hg.out Tryd.underlying23 rfl (infoHash.trans (by rw [hashC_size])) h
theorem hash_store (hgd : o.guard = none) (x y : Operand) (ho : o.op = .store 23 x y) (g : Nat) (f : Nat → Nat) (hx : a.eval x = .pointer (some ⟨g, 0, none⟩)) (hy : a.eval y = .agg (hashC f)) (cs : Array Value) (hg : Has w g cs 23) (hs : cs.size = 32)
    (h : wpList Tryd.prog ops Q rest (a.put o.dst undef) (w.setRow g (hashC f))) : wpList Tryd.prog ops Q (o :: rest) a w :=
  wpList_store_row hgd 23 x y ho g (hashC f) hx hy 23 cs hg.out (infoHash.trans (by rw [hashC_size])) (by rw [hs, hashC_size]) (hashC_one f) h
end
theorem hash_results {w : World} {fn : Func} {p : Tmp} (h : fn.results = #[.cell p 23]) (tmps : Array Value) (g : Nat) (f : Nat → Nat) (hp : tmps.getD p undef = .pointer (some ⟨g, 0, none⟩)) (hg : Has w g (hashC f) 23) :
    (results fn tmps).run Tryd.prog w = .ok (.agg (hashC f)) w :=
  results_cell_row h tmps w g 23 (hashC f) (0, 0) _ hp hg.out Tryd.underlying23 rfl (infoHash.trans (by rw [hashC_size]))
theorem byteSize (w : World) : (sizeOf 5).run Tryd.prog w = .ok 1 w := by kernel_rfl
theorem eql_hash_same (f : Nat → Nat) (w : World) : (binOp .eql 23 (.agg (hashC f)) (.agg (hashC f))).run Tryd.prog w = .ok (.bool true) w := by
  have e : hashC f = ((((List.range 32).map fun i => (f i : Int))).map (Value.int .u8)).toArray := by unfold hashC; rw [List.map_map]; rfl
  rw [e, run_eql_ints w .u8 23 5 32 Tryd.underlying23 Tryd.underlying5 byteSize _ _ (by simp) (by simp)]; simp
/-- what stands while bytes are put into a number -/
structure Fh (w wr : World) (R O s : Nat) : Prop where
  below : Below w.heap.size w wr
  r : Has wr R (numC 0) 54
  o : Has wr O (numC s) 54
theorem Fh.put {w wr : World} {R O s : Nat} (h : Fh w wr R O s) (i s' : Nat) {v : Value} (hR : R ≠ O) (hO : w.heap.size ≤ O) (e : (numC s).setIfInBounds i v = numC s') : Fh w (wr.setCell ⟨O, i, none⟩ v) R O s' :=
  ⟨h.below.setCell hO _, h.r.other _ _ hR, by rw [← e]; exact h.o.set _⟩
theorem Fh.drew {w wr : World} {R O s : Nat} (h : Fh w wr R O s) : Fh w wr.drew R O s := ⟨h.below.drew, h.r, h.o⟩
theorem shl64 (v m : Nat) (hv : v < 256) (hm : m ≤ 56) : v <<< m < 18446744073709551616 := by
  rw [Nat.shiftLeft_eq]
  have h2 : 2 ^ m ≤ 2 ^ 56 := Nat.pow_le_pow_right (by decide) hm
  calc v * 2 ^ m ≤ 255 * 2 ^ 56 := Nat.mul_le_mul (by omega) h2
    _ < 18446744073709551616 := by decide
theorem orByte64 (u v m : Nat) (hu : u < 18446744073709551616) (hv : v < 256) (hm : m ≤ 56) : bits .or .u64 (u : Int) (IntKind.u64.wrap (IntKind.u64.wrap (v : Int) * 2 ^ m)) = ((u ||| v <<< m : Nat) : Int) := by
  have h := shl64 v m hv hm
  have e1 : IntKind.u64.wrap (v : Int) = (v : Int) := by rw [IntKind.wrap_u64]; omega
  have e2 : (v : Int) * 2 ^ m = ((v <<< m : Nat) : Int) := by rw [Nat.shiftLeft_eq]; simp
  have e3 : IntKind.u64.wrap ((v <<< m : Nat) : Int) = ((v <<< m : Nat) : Int) := by
    generalize v <<< m = n at h
    rw [IntKind.wrap_u64]; omega
  rw [e1, e2, e3, or64 _ _ hu h]
theorem numC_orByte (x i v : Nat) (hi : i < 32) (hv : v < 256) : (numC x).setIfInBounds (i / 8) (.int .u64 ((Nm.wd x (i / 8) ||| v <<< (8 * (i % 8)) : Nat) : Int)) = numC (x ||| v <<< (8 * i)) := by
  unfold numC
  rw [cells4_set _ _ _ (by omega)]
  apply cells4_congr
  intro j _
  rw [Nm.wd_orByte x v i j hv]
  unfold upd
  split
  · rename_i h; rw [h]
  · rfl
set_option maxRecDepth 100000 in
set_option maxHeartbeats 400000 in
theorem fromHash (f : Nat → Nat) (hf : ∀ i, f i < 256) (w : World) :
    Calls Tryd.prog 52 #[.agg (hashC f)] w fun e w' => e = .returned (.agg (numC (Nm.unbytes f 32))) ∧ Below w.heap.size w w' := by
  have HF := Lib.hid hf
  clear hf
  go_enter Tryd.func52, Tryd.ntmps52
  go_upto_region 2 with fail
  generalize hw1 : World.alloc _ _ = w1
  have hA : Has w1 w.heap.size (hashC f) 23 := by rw [← hw1]; exact ((Has.new _ _).alloc _).alloc _
  have h0 : Fh w w1 (w.heap.size + 1) (w.heap.size + 1 + 1) 0 := by
    rw [← hw1]; exact ⟨(((Below.refl _ _).alloc (Nat.le_refl _) _).alloc (by simp) _).alloc (by simp; omega) _, (Has.new1 _ (numC 0) _).alloc _, Has.new2 _ _ (numC 0) _⟩
  clear hw1
  generalize hB : w.heap.size + 1 + 1 = O at *
  generalize hC : w.heap.size + 1 = R at *
  have HO : Hid (w.heap.size ≤ O) := Lib.hid (by omega)
  have HR : Hid (w.heap.size ≤ R) := Lib.hid (by omega)
  have H3 : Hid (R ≠ O) := Lib.hid (by omega)
  clear hB hC
  go_wp2_with (with_reducible refine hash_load rfl _ rfl _ rfl f hA ?_)
  clear hA
  go_loopw [7] (fun i wr => ∃ k : Nat, k ≤ 32 ∧ i = .int .i64 k ∧ Fh w wr R O (Nm.unbytes f k)) (fun i _ => 32 - (intOf i).toNat)
  case atStart => exact ⟨0, by omega, rfl, h0⟩
  case round =>
    obtain ⟨k, hk, rfl, hs⟩ := hrel
    by_cases hlt : k < 32
    · have hidx := idx_hash f hlt
      have co := hs.o.num (j := k / 8) (by omega)
      have fo := hs.o.free (k / 8)
      go_wp2_with fail
      go_region
      rw [orByte64 _ _ _ (Nm.wd_lt _ _) (HF.out k) (by omega)]
      have hA2 := hs.put (k / 8) (Nm.unbytes f k ||| f k <<< (8 * k)) H3.out HO.out (numC_orByte (Nm.unbytes f k) k (f k) hlt (HF.out k))
      clear co fo hidx
      generalize World.setCell _ _ _ = w2 at *
      go_wp2_with fail
      go_roundw
      case rel => exact ⟨k + 1, by omega, by go_num, hA2.drew⟩
      case measure => simp [intOf]; omega
    · obtain rfl : k = 32 := by omega
      go_wp2_with (first
        | (with_reducible refine num_load rfl _ rfl _ rfl _ hs.o rfl ?_)
        | (with_reducible refine num_store rfl _ _ rfl _ _ rfl rfl _ hs.r rfl ?_))
      exact bodyPost_ret (v := .agg (numC (Nm.unbytes f 32))) (num_results Tryd.results52 _ _ _ rfl (hs.r.row _)) rfl ⟨rfl, below_setRow hs.below HR.out _⟩
theorem byte64 (x k : Nat) : ((Nm.wd x (k / 8) : Nat) : Int) / 2 ^ (8 * (k % 8)) % 256 = (Nm.byteAt x k : Nat) := by
  have e : ((Nm.wd x (k / 8) : Nat) : Int) / 2 ^ (8 * (k % 8)) = ((Nm.wd x (k / 8) / 2 ^ (8 * (k % 8)) : Nat) : Int) := by simp
  rw [e, ← Nm.byteAt_wd]
  generalize Nm.wd x (k / 8) / 2 ^ (8 * (k % 8)) = n
  omega
/-- what stands while a number's bytes are put -/
structure Hs (w wr : World) (A R O x : Nat) (g : Nat → Nat) : Prop where
  below : Below w.heap.size w wr
  a : Has wr A (numC x) 54
  r : ∃ cs, Has wr R cs 23 ∧ cs.size = 32
  o : Has wr O (hashC g) 23
theorem Hs.put {w wr : World} {A R O x : Nat} {g : Nat → Nat} (h : Hs w wr A R O x g) (i v : Nat) (hA : A ≠ O) (hR : R ≠ O) (hO : w.heap.size ≤ O) : Hs w (wr.setCell ⟨O, i, none⟩ (.int .u8 (v : Nat))) A R O x (upd g i v) :=
  ⟨h.below.setCell hO _, h.a.other _ _ hA, let ⟨cs, h1, h2⟩ := h.r; ⟨cs, h1.other _ _ hR, h2⟩, by rw [← hashC_set]; exact h.o.set _⟩
def hz32 : Array Value := hashC fun _ => 0
end Go.Proofs.YtfnicmmebphpkaaDoor.NN
namespace Go.Proofs.YtfnicmmebphpkaaDoor.NN
open Go.RowKit

set_option maxRecDepth 100000 in
set_option maxHeartbeats 400000 in
theorem ref_less (x y : Nat) (hx : x < Nm.big) (hy : y < Nm.big) (w : World) :
    Calls Tryd.prog 25 #[.agg (numC x), .agg (numC y)] w fun e w' => e = .returned (.bool (decide (x < y))) ∧ Below w.heap.size w w' := by
  go_enter Tryd.func25, Tryd.ntmps25
  go_wp2_with fail
  generalize hw1 : World.alloc _ _ = w1
  have h0 : Two w w1 w.heap.size (w.heap.size + 1) x y := by
    rw [← hw1]; exact Two.start w x y
  clear hw1
  generalize w.heap.size + 1 = B at *
  generalize hC : w.heap.size = A at *
  have HC := Lib.hid hC
  clear hC
  go_loopw [5] (fun i wr => Two w wr A B x y ∧ ((∃ k : Nat, k ≤ 255 ∧ i = .int .i64 k ∧ Hid (x / 2 ^ (k + 1) = y / 2 ^ (k + 1))) ∨ (i = .int .i64 (-1) ∧ Hid (x = y)))) (fun i _ => (intOf i + 1).toNat)
  case atStart => exact ⟨h0, .inl ⟨255, by omega, rfl, Lib.hid (Nm.top_all hx hy)⟩⟩
  case round =>
    obtain ⟨hs, ⟨k, hk, rfl, HK⟩ | ⟨rfl, HK⟩⟩ := hrel
    · have g1 := Nm.bit_lt x k
      have g2 := Nm.bit_lt y k
      have hk' : k < 256 := by omega
      go_wp2_with fail
      refine wp_region_quiet_below (by kernel_rfl) (by kernel_rfl) ?_
      repeat (first
        | (go_big_quiet_want; (with_reducible refine quiet_load_num _ rfl _ rfl _ hs.a.cls ?_); (simp only [Act.put, List.setIfInBounds_toArray, List.set_cons_zero, List.set_cons_succ]); go_big_quiet_on)
        | (go_big_quiet_want; (with_reducible refine quiet_load_num _ rfl _ rfl _ hs.b.cls ?_); (simp only [Act.put, List.setIfInBounds_toArray, List.set_cons_zero, List.set_cons_succ]); go_big_quiet_on)
        | go_big_quiet_step ((go_at_call 41; exact Calls.regrown_of (ref_bit _ _ (by omega) _))))
      refine wpQuiet_nil ?_
      intro _ hw'
      obtain ⟨p, hw''⟩ := hw'
      subst hw''
      have hs2 := hs.on (below_regrown wr p.d p.os)
      clear hs
      generalize Sort.grow (redrawn wr p.d) p.os = w2 at *
      clear p
      by_cases hb : Nm.bit x k = Nm.bit y k
      · have hq : ((Nm.bit x k : Int) != (Nm.bit y k : Int)) = false := by rw [hb]; simp
        have hn := Nm.top_same HK.out hb
        have HN := Lib.hid hn
        clear hb hn
        go_wp2_with fail
        go_roundw
        case rel =>
          by_cases hk0 : k = 0
          · subst hk0
            exact ⟨hs2, .inr ⟨rfl, Lib.hid (by have := HN.out; simpa using this)⟩⟩
          · exact ⟨hs2, .inl ⟨k - 1, by omega, congrArg (Value.int .i64) (by omega), by rw [show k - 1 + 1 = k by omega]; exact HN⟩⟩
        case measure => first | (simp [intOf]; done) | (simp [intOf]; omega)
      · have hq : ((Nm.bit x k : Int) != (Nm.bit y k : Int)) = true := by simp; omega
        have hn : decide (Nm.bit x k < Nm.bit y k) = decide (x < y) := decide_eq_decide.2 ⟨fun h => Nm.top_less HK.out h, fun h => by
          rcases Nat.lt_or_ge (Nm.bit y k) (Nm.bit x k) with h' | h'
          · exact absurd h (Nm.top_more HK.out h')
          · omega⟩
        have HN := Lib.hid hn
        clear hb hn
        go_wp2_with fail
        refine wp_region_quiet_below (by kernel_rfl) (by kernel_rfl) ?_
        repeat (first
          | (go_big_quiet_want; (with_reducible refine quiet_load_num _ rfl _ rfl _ hs2.a.cls ?_); (simp only [Act.put, List.setIfInBounds_toArray, List.set_cons_zero, List.set_cons_succ]); go_big_quiet_on)
          | (go_big_quiet_want; (with_reducible refine quiet_load_num _ rfl _ rfl _ hs2.b.cls ?_); (simp only [Act.put, List.setIfInBounds_toArray, List.set_cons_zero, List.set_cons_succ]); go_big_quiet_on)
          | go_big_quiet_step ((go_at_call 41; exact Calls.regrown_of (ref_bit _ _ (by omega) _))))
        refine wpQuiet_nil ?_
        intro _ hw'
        obtain ⟨p, hw''⟩ := hw'
        subst hw''
        have hs3 := hs2.on (below_regrown w2 p.d p.os)
        go_wp2_with fail
        go_ret
        exact ⟨congrArg (fun b => Ending.returned (.bool b)) HN.out, hs3.below⟩
    · go_wp2_with fail
      go_ret
      exact ⟨congrArg (fun b => Ending.returned (.bool b)) (by rw [HK.out]; simp), hs.below⟩
end Go.Proofs.YtfnicmmebphpkaaDoor.NN
