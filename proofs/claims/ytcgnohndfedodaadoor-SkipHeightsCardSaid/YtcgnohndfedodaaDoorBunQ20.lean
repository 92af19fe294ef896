/-
  Texts of this seat, one behind the other.
-/
import Derived.WalkKit
import Derived.WalkSpells
import Derived.WalkLawsBesides
import Derived.Lib.Hide
import Derived.Lib.LazyBuf
import Derived.Lib.BufferWrite
import Derived.Deep.RegionLaw
import Derived.Laws.CopyOwn
import Derived.Laws.Rows
import Derived.Laws.ResultCell
import Derived.Deep.MidRow
import Derived.BigQuiet
import Derived.Deep.QuietTactic
import Derived.BigRegion
import Derived.Deep.RegionHeld3
import Derived.Stop.BytesEq
import Derived.Deep.DeepCutAuto
import Derived.Lib.QuietBelow
import Derived.StillTailTactics
import Derived.Test.YtcgnohndfedodaaDoorBunQ19
import Derived.Test.YtcgnohndfedodaaDoorRows
/-
  Numbers as the program's values hold them: four words in a row; blocks that hold one.
-/
namespace Go.Proofs.YtcgnohndfedodaaDoor.NN
open Go.RowKit

/-- the words of a function of four as cells -/
def cells4 (f : Nat → Nat) : Array Value := #[.int .u64 (f 0 : Nat), .int .u64 (f 1 : Nat), .int .u64 (f 2 : Nat), .int .u64 (f 3 : Nat)]
def numC (x : Nat) : Array Value := cells4 (Nm.wd x)
/-- block b of w is a row of cells, none of them frozen -/
def Has (w : World) (b : Nat) (cs : Array Value) (t : TypeId) : Prop := w.heap[b]? = some (.cells cs t (0, 0))
variable {w w' : World}
theorem Has.out {b : Nat} {cs : Array Value} {t : TypeId} (h : Has w b cs t) : w.heap[b]? = some (.cells cs t (0, 0)) := h
theorem Has.cell {b : Nat} {cs : Array Value} {t : TypeId} (h : Has w b cs t) (j : Nat) : w.cell? ⟨b, j, none⟩ = cs[j]? := cell_of_row w b j cs t (0, 0) h
theorem cells4_get (f : Nat → Nat) {j : Nat} (h : j < 4) : (cells4 f)[j]? = some (.int .u64 (f j : Nat)) := by
  rcases Nm.four h with rfl | rfl | rfl | rfl <;> rfl
theorem Has.word {b : Nat} {f : Nat → Nat} {t : TypeId} (h : Has w b (cells4 f) t) {j : Nat} (hj : j < 4) : w.cell? ⟨b, j, none⟩ = some (.int .u64 (f j : Nat)) := (h.cell j).trans (cells4_get f hj)
theorem Has.free {b : Nat} {cs : Array Value} {t : TypeId} (h : Has w b cs t) (j : Nat) : w.frozen? ⟨b, j, none⟩ = false := frozen_of_row w b j cs t h
theorem Has.lt {b : Nat} {cs : Array Value} {t : TypeId} (h : Has w b cs t) : b < w.heap.size := by
  unfold Has at h
  by_cases hb : b < w.heap.size
  · exact hb
  · simp [Array.getElem?_eq_none (by omega : w.heap.size ≤ b)] at h
theorem Has.drew {b : Nat} {cs : Array Value} {t : TypeId} (h : Has w b cs t) : Has w.drew b cs t := h
theorem Has.drewN {b : Nat} {cs : Array Value} {t : TypeId} (h : Has w b cs t) (n : Nat) : Has (w.drewN n) b cs t := by
  unfold Has at *; simpa using h
theorem Has.alloc {b : Nat} {cs : Array Value} {t : TypeId} (h : Has w b cs t) (o : Obj) : Has (w.alloc o) b cs t := (heap_alloc_old w o h.lt).trans h
theorem Has.new (cs : Array Value) (t : TypeId) : Has (w.alloc (.cells cs t)) w.heap.size cs t := heap_alloc_new w _
theorem Has.set {b i : Nat} {cs : Array Value} {t : TypeId} (h : Has w b cs t) (v : Value) : Has (w.setCell ⟨b, i, none⟩ v) b (cs.setIfInBounds i v) t := heap_setCell_same w b i cs t v h
theorem Has.other {b : Nat} {cs : Array Value} {t : TypeId} (h : Has w b cs t) (a : Addr) (v : Value) (ha : b ≠ a.block) : Has (w.setCell a v) b cs t := (heap_setCell_other w a b v ha).trans h
theorem Has.row {b : Nat} {cs : Array Value} {t : TypeId} (h : Has w b cs t) (cs' : Array Value) : Has (w.setRow b cs') b cs' t := setRow_heap w b cs cs' t (0, 0) h
theorem Has.otherRow {b : Nat} {cs : Array Value} {t : TypeId} (h : Has w b cs t) (g : Nat) (cs' : Array Value) (ha : b ≠ g) : Has (w.setRow g cs') b cs t := (setRow_other w g b cs' ha).trans h
theorem Has.below {B : Nat} {b : Nat} {cs : Array Value} {t : TypeId} (h : Has w b cs t) (hb : Below B w w') (hB : b < B) : Has w' b cs t := (hb.block b hB).trans h
theorem Has.on {b : Nat} {cs : Array Value} {t : TypeId} (h : Has w b cs t) (hb : Below w.heap.size w w') : Has w' b cs t := h.below hb h.lt
def upd (f : Nat → Nat) (i : Nat) (x : Nat) : Nat → Nat := fun j => if j = i then x else f j
theorem cells4_set (f : Nat → Nat) (i x : Nat) (hi : i < 4) : (cells4 f).setIfInBounds i (.int .u64 (x : Nat)) = cells4 (upd f i x) := by
  rcases Nm.four hi with rfl | rfl | rfl | rfl <;> rfl
theorem cells4_congr {f g : Nat → Nat} (h : ∀ j, j < 4 → f j = g j) : cells4 f = cells4 g := by
  unfold cells4; rw [h 0 (by omega), h 1 (by omega), h 2 (by omega), h 3 (by omega)]
theorem cells4_size (f : Nat → Nat) : (cells4 f).size = 4 := rfl
theorem numC_size (x : Nat) : (numC x).size = 4 := rfl
theorem cells4_one (f : Nat → Nat) : (cells4 f).all (·.oneCell') = true := by simp [cells4, Value.oneCell']
theorem numC_one (x : Nat) : (numC x).all (·.oneCell') = true := cells4_one _
theorem numC_mk {f : Nat → Nat} (hf : ∀ i, i < 4 → f i < 18446744073709551616) : cells4 f = numC (Nm.mk f) := cells4_congr fun _ hj => (Nm.wd_mk hf hj).symm
theorem numC_get (x : Nat) {j : Nat} (h : j < 4) : (numC x)[j]? = some (.int .u64 (Nm.wd x j : Nat)) := cells4_get _ h
theorem Has.num {b : Nat} {x : Nat} {t : TypeId} (h : Has w b (numC x) t) {j : Nat} (hj : j < 4) : w.cell? ⟨b, j, none⟩ = some (.int .u64 (Nm.wd x j : Nat)) := (h.cell j).trans (numC_get x hj)
theorem Has.new1 (o : Obj) (cs : Array Value) (t : TypeId) : Has ((w.alloc o).alloc (.cells cs t)) (w.heap.size + 1) cs t := by
  have := Has.new (w := w.alloc o) cs t
  rwa [World.size_alloc] at this
theorem Has.new2 (o o' : Obj) (cs : Array Value) (t : TypeId) : Has (((w.alloc o).alloc o').alloc (.cells cs t)) (w.heap.size + 1 + 1) cs t := by
  have := Has.new (w := (w.alloc o).alloc o') cs t
  rwa [World.size_alloc, World.size_alloc] at this
theorem Has.new3 (o o' o'' : Obj) (cs : Array Value) (t : TypeId) : Has ((((w.alloc o).alloc o').alloc o'').alloc (.cells cs t)) (w.heap.size + 1 + 1 + 1) cs t := by
  have := Has.new (w := ((w.alloc o).alloc o').alloc o'') cs t
  rwa [World.size_alloc, World.size_alloc, World.size_alloc] at this
theorem zero4 : (#[.int .u64 0, .int .u64 0, .int .u64 0, .int .u64 0] : Array Value) = numC 0 := rfl
theorem Has.newz (t : TypeId) : Has (w.alloc (.cells #[.int .u64 0, .int .u64 0, .int .u64 0, .int .u64 0] t)) w.heap.size (numC 0) t := Has.new (numC 0) t
theorem infoNum : (Tryd.prog.info? 33).map (·.size) = some 4 := by kernel_rfl
section
variable {ops : Array Oper} {rest : List Oper} {o : Oper} {a : Act} {Q : Exit → Act → World → Prop}
/-- a number is loaded whole -/
theorem num_load (hgd : o.guard = none) (x : Operand) (ho : o.op = .load 33 x) (g : Nat) (hx : a.eval x = .pointer (some ⟨g, 0, none⟩)) (cs : Array Value) (hg : Has w g cs 33) (hs : cs.size = 4)
    (h : wpList Tryd.prog ops Q rest (a.put o.dst (.agg cs)) w) : wpList Tryd.prog ops Q (o :: rest) a w :=
  wpList_load_row hgd 33 x ho g hx 33 cs (0, 0) _ hg.out Tryd.underlying33 rfl (infoNum.trans (by rw [hs])) h
/-- a number is stored whole -/
theorem num_store (hgd : o.guard = none) (x y : Operand) (ho : o.op = .store 33 x y) (g : Nat) (z : Nat) (hx : a.eval x = .pointer (some ⟨g, 0, none⟩)) (hy : a.eval y = .agg (numC z)) (cs : Array Value) (hg : Has w g cs 33) (hs : cs.size = 4)
    (h : wpList Tryd.prog ops Q rest (a.put o.dst undef) (w.setRow g (numC z))) : wpList Tryd.prog ops Q (o :: rest) a w :=
  wpList_store_row hgd 33 x y ho g (numC z) hx hy 33 cs hg.out infoNum hs (numC_one z) h
end
/-- a result that lies in a block of its own -/
theorem num_results {fn : Func} {p : Tmp} (h : fn.results = #[.cell p 33]) (tmps : Array Value) (g x : Nat) (hp : tmps.getD p undef = .pointer (some ⟨g, 0, none⟩)) (hg : Has w g (numC x) 33) :
    (results fn tmps).run Tryd.prog w = .ok (.agg (numC x)) w :=
  results_cell_row h tmps w g 33 (numC x) (0, 0) _ hp hg.out Tryd.underlying33 rfl infoNum
/-- .. and a second result beside it -/
theorem num_results2 {fn : Func} {p u : Tmp} (h : fn.results = #[.cell p 33, .tmp u]) (tmps : Array Value) (g x : Nat) (v : Value) (hp : tmps.getD p undef = .pointer (some ⟨g, 0, none⟩)) (hv : tmps.getD u undef = v) (hg : Has w g (numC x) 33) :
    (results fn tmps).run Tryd.prog w = .ok (.tuple #[.agg (numC x), v]) w := by
  rw [results_cell_tmp h, hp, hv]
  have hl : (loadVar 33 ⟨g, 0, none⟩).run Tryd.prog w = .ok (.agg (numC x)) w := run_loadVar_row w g 33 33 (numC x) (0, 0) _ hg.out Tryd.underlying33 rfl infoNum
  simp [asAddr, hl, Result.andThen]
theorem run_load_num {b : Nat} {x : Nat} (h : Has w b (numC x) 33) : (Instr.loadAt 33 (.pointer (some ⟨b, 0, none⟩))).run Tryd.prog w = .ok (.agg (numC x)) w := by
  have hl : (loadVar 33 ⟨b, 0, none⟩).run Tryd.prog w = .ok (.agg (numC x)) w := run_loadVar_row w b 33 33 (numC x) (0, 0) _ h.out Tryd.underlying33 rfl infoNum
  simp [Instr.loadAt, Instr.sureAddr, hl]
theorem Has.regrown {b : Nat} {cs : Array Value} {t : TypeId} (h : Has w b cs t) (d : Nat) (os : Array Obj) : Has (Sort.grow (redrawn w d) os) b cs t := h.on (below_regrown w d os)
theorem sizeWord : (Tryd.prog.info? 31).map (·.size) = some 1 := by kernel_rfl
theorem Has.cls {b : Nat} {cs : Array Value} {t : TypeId} (h : Has w b cs t) : ∀ w', (∃ p : Regrown, w' = Sort.grow (redrawn w p.d) p.os) → Has w' b cs t := by
  rintro w' ⟨p, rfl⟩
  exact h.regrown _ _
/-- a number is loaded whole in a region that draws its order -/
theorem quiet_load_num {C : World → Prop} {a : Act} {o : Oper} {K : Act → Prop} (x : Operand) (ho : o.op = .load 33 x) (g : Nat) (hx : a.eval x = .pointer (some ⟨g, 0, none⟩)) (z : Nat) (hC : ∀ w', C w' → Has w' g (numC z) 33)
    (hk : K (a.put o.dst (.agg (numC z)))) : o.quiet Tryd.prog a C K :=
  ⟨_, fun w' hw' => by
    unfold Oper.quietAt
    have hl : (loadVar 33 ⟨g, 0, none⟩).run Tryd.prog w' = .ok (.agg (numC z)) w' := run_loadVar_row w' g 33 33 (numC z) (0, 0) _ (hC w' hw').out Tryd.underlying33 rfl infoNum
    have : (execOp a.eval o).run Tryd.prog w' = .ok (.value (.agg (numC z))) w' := by
      unfold execOp
      simp only [ho, hx, Instr.loadAt, Instr.sureAddr, Sem.run_bind, Sem.run_pure, Result.andThen_ok, hl]
    rw [this]
    exact ⟨rfl, rfl⟩, hk⟩
/-- two numbers that are read, a result's block, a number that grows -/
structure Acc (w wr : World) (A B R O x y : Nat) (cs : Array Value) : Prop where
  below : Below w.heap.size w wr
  a : Has wr A (numC x) 33
  b : Has wr B (numC y) 33
  r : Has wr R (numC 0) 33
  o : Has wr O cs 33
theorem Acc.on {w wr w' : World} {A B R O x y : Nat} {cs : Array Value} (h : Acc w wr A B R O x y cs) (hb : Below wr.heap.size wr w') : Acc w w' A B R O x y cs :=
  ⟨h.below.trans (hb.mono h.below.size), h.a.on hb, h.b.on hb, h.r.on hb, h.o.on hb⟩
theorem Acc.drew {w wr : World} {A B R O x y : Nat} {cs : Array Value} (h : Acc w wr A B R O x y cs) : Acc w wr.drew A B R O x y cs := h.on (Below.refl _ _).drew
theorem Acc.put {w wr : World} {A B R O x y : Nat} {cs : Array Value} (h : Acc w wr A B R O x y cs) (cs' : Array Value) (hA : A ≠ O) (hB : B ≠ O) (hR : R ≠ O) (hO : w.heap.size ≤ O) : Acc w (wr.setRow O cs') A B R O x y cs' :=
  ⟨below_setRow h.below hO _, h.a.otherRow _ _ hA, h.b.otherRow _ _ hB, h.r.otherRow _ _ hR, h.o.row _⟩
theorem Acc.set {w wr : World} {A B R O x y : Nat} {cs : Array Value} (h : Acc w wr A B R O x y cs) (i : Nat) (v : Value) (hA : A ≠ O) (hB : B ≠ O) (hR : R ≠ O) (hO : w.heap.size ≤ O) : Acc w (wr.setCell ⟨O, i, none⟩ v) A B R O x y (cs.setIfInBounds i v) :=
  ⟨h.below.setCell hO _, h.a.other _ _ hA, h.b.other _ _ hB, h.r.other _ _ hR, h.o.set _⟩
theorem Acc.start (w : World) (x y : Nat) (cs : Array Value) : Acc w ((((w.alloc (.cells (numC x) 33)).alloc (.cells (numC y) 33)).alloc (.cells (numC 0) 33)).alloc (.cells cs 33)) w.heap.size (w.heap.size + 1) (w.heap.size + 1 + 1) (w.heap.size + 1 + 1 + 1) x y cs :=
  ⟨((((Below.refl _ _).alloc (Nat.le_refl _) _).alloc (by simp) _).alloc (by simp; omega) _).alloc (by simp; omega) _, (((Has.new _ _).alloc _).alloc _).alloc _, ((Has.new1 _ _ _).alloc _).alloc _, (Has.new2 _ _ _ _).alloc _, Has.new3 _ _ _ _ _⟩
theorem Acc.setWord {w wr : World} {A B R O x y : Nat} {g : Nat → Nat} (h : Acc w wr A B R O x y (cells4 g)) (i v : Nat) (hi : i < 4) (hA : A ≠ O) (hB : B ≠ O) (hR : R ≠ O) (hO : w.heap.size ≤ O) : Acc w (wr.setCell ⟨O, i, none⟩ (.int .u64 (v : Nat))) A B R O x y (cells4 (upd g i v)) := by
  rw [← cells4_set g i v hi]; exact h.set i _ hA hB hR hO
theorem upd_next {g : Nat → Nat} {k : Nat} {f : Nat → Nat} (h : Hid (∀ j, j < k → g j = f j)) : Hid (∀ j, j < k + 1 → upd g k (f k) j = f j) := Lib.hid fun j hj => by
  unfold upd
  split
  · rename_i e; rw [e]
  · exact h.out j (by omega)
theorem cells4_done {g : Nat → Nat} {x : Nat} (h : Hid (∀ j, j < 4 → g j = Nm.wd x j)) : cells4 g = numC x := cells4_congr h.out
theorem numC_mod (x : Nat) : numC (x % Nm.big) = numC x := cells4_congr fun _ hj => Nm.wd_mod x hj
end Go.Proofs.YtcgnohndfedodaaDoor.NN
namespace Go.Proofs.YtcgnohndfedodaaDoor.NN
open Go.RowKit

theorem bitI (x i : Nat) : wrap64 ((((Nm.wd x (i / 64) : Nat) : Int) / 2 ^ (i % 64)).tmod 2) = (Nm.bit x i : Nat) := by
  have e : ((Nm.wd x (i / 64) : Nat) : Int) / 2 ^ (i % 64) = ((Nm.wd x (i / 64) / 2 ^ (i % 64) : Nat) : Int) := by simp
  rw [e, ← Nm.bit_wd]
  generalize Nm.wd x (i / 64) / 2 ^ (i % 64) = k
  rw [Int.tmod_eq_emod_of_nonneg (by omega)]
  unfold wrap64
  omega
theorem wrap_pow (m : Nat) (hm : m < 64) : IntKind.u64.wrap (2 ^ m) = ((2 ^ m : Nat) : Int) := by
  have h : ((2 : Int) ^ m) = ((2 ^ m : Nat) : Int) := by simp
  have h2 : 2 ^ m < 2 ^ 64 := Nat.pow_lt_pow_right (by decide) hm
  rw [h, IntKind.wrap_u64]
  generalize 2 ^ m = k at h2
  omega
theorem or64 (x y : Nat) (hx : x < 18446744073709551616) (hy : y < 18446744073709551616) : bits .or .u64 (x : Int) (y : Int) = ((x ||| y : Nat) : Int) := by
  have h : x ||| y < 2 ^ 64 := Nat.or_lt_two_pow hx hy
  show IntKind.u64.wrap ((BitVec.ofInt 64 (x : Int) ||| BitVec.ofInt 64 (y : Int)).toNat : Int) = _
  rw [BitVec.ofInt_natCast, BitVec.ofInt_natCast, BitVec.toNat_or, BitVec.toNat_ofNat, BitVec.toNat_ofNat, Nat.mod_eq_of_lt hx, Nat.mod_eq_of_lt hy, IntKind.wrap_u64]
  omega
theorem numC_or (x i : Nat) (hi : i < 256) : (numC x).setIfInBounds (i / 64) (.int .u64 (bits .or .u64 ((Nm.wd x (i / 64) : Nat) : Int) (IntKind.u64.wrap (2 ^ (i % 64))))) = numC (x ||| 2 ^ i) := by
  have hm : i % 64 < 64 := Nat.mod_lt _ (by decide)
  have h2 : 2 ^ (i % 64) < 2 ^ 64 := Nat.pow_lt_pow_right (by decide) hm
  rw [wrap_pow _ hm, or64 _ _ (Nm.wd_lt _ _) (by simpa using h2)]
  unfold numC
  rw [cells4_set _ _ _ (by omega)]
  apply cells4_congr
  intro j hj
  rw [Nm.wd_or x i j]
  unfold upd
  split
  · rename_i h; rw [h]
  · rfl
end Go.Proofs.YtcgnohndfedodaaDoor.NN
namespace Go.Proofs.YtcgnohndfedodaaDoor.NN
open Go.RowKit
theorem Acc.start1 (w : World) (x : Nat) (cs : Array Value) : Acc w (((w.alloc (.cells (numC x) 33)).alloc (.cells (numC 0) 33)).alloc (.cells cs 33)) w.heap.size w.heap.size (w.heap.size + 1) (w.heap.size + 1 + 1) x x cs :=
  ⟨(((Below.refl _ _).alloc (Nat.le_refl _) _).alloc (by simp) _).alloc (by simp; omega) _, ((Has.new _ _).alloc _).alloc _, ((Has.new _ _).alloc _).alloc _, (Has.new1 _ _ _).alloc _, Has.new2 _ _ _ _⟩
/-- two numbers that are read -/
structure Two (w wr : World) (A B x y : Nat) : Prop where
  below : Below w.heap.size w wr
  a : Has wr A (numC x) 33
  b : Has wr B (numC y) 33
theorem Two.on {w wr w' : World} {A B x y : Nat} (h : Two w wr A B x y) (hb : Below wr.heap.size wr w') : Two w w' A B x y :=
  ⟨h.below.trans (hb.mono h.below.size), h.a.on hb, h.b.on hb⟩
theorem Two.start (w : World) (x y : Nat) : Two w ((w.alloc (.cells (numC x) 33)).alloc (.cells (numC y) 33)) w.heap.size (w.heap.size + 1) x y :=
  ⟨((Below.refl _ _).alloc (Nat.le_refl _) _).alloc (by simp) _, (Has.new _ _).alloc _, Has.new1 _ _ _⟩
end Go.Proofs.YtcgnohndfedodaaDoor.NN
namespace Go.Proofs.YtcgnohndfedodaaDoor.NN
open Go.RowKit

theorem upW (a N : Nat) : IntKind.u64.wrap ((a : Int) * 2 ^ N) = ((a <<< N % 18446744073709551616 : Nat) : Int) := by
  have e : (a : Int) * 2 ^ N = ((a <<< N : Nat) : Int) := by rw [Nat.shiftLeft_eq]; simp
  rw [e, IntKind.wrap_u64]; omega
theorem upOr (u b M : Nat) (hu : u < 18446744073709551616) (hb : b < 18446744073709551616) : bits .or .u64 (u : Int) ((b : Int) / 2 ^ M) = ((u ||| b >>> M : Nat) : Int) := by
  have e : (b : Int) / 2 ^ M = ((b >>> M : Nat) : Int) := by rw [Nat.shiftRight_eq_div_pow]; simp
  rw [e, or64 u _ hu (by rw [Nat.shiftRight_eq_div_pow]; exact Nat.lt_of_le_of_lt (Nat.div_le_self _ _) hb)]
theorem upd2 (g : Nat → Nat) (k a b : Nat) : upd (upd g k a) k b = upd g k b := by
  funext j
  unfold upd
  split <;> rfl
/-- what holds of the words while they are filled from the highest on -/
def FromTop (x n k : Nat) (g : Nat → Nat) : Prop := (∀ j, k < j → j < 4 → g j = Nm.wd (Nm.up x n) j) ∧ ∀ j, j ≤ k → g j = 0
theorem FromTop.next {x n k : Nat} {g : Nat → Nat} (h : Hid (FromTop x n k g)) (hk : 0 < k) : Hid (FromTop x n (k - 1) (upd g k (Nm.wd (Nm.up x n) k))) := Lib.hid ⟨fun j h1 h2 => by
    unfold upd
    split
    · rename_i e; rw [e]
    · exact h.out.1 j (by omega) h2, fun j h1 => by
    unfold upd
    rw [if_neg (by omega)]; exact h.out.2 j (by omega)⟩
theorem FromTop.last {x n : Nat} {g : Nat → Nat} (h : Hid (FromTop x n 0 g)) : Hid (∀ j, j < 4 → upd g 0 (Nm.wd (Nm.up x n) 0) j = Nm.wd (Nm.up x n) j) := Lib.hid fun j h2 => by
    unfold upd
    split
    · rename_i e; rw [e]
    · exact h.out.1 j (by omega) h2
theorem FromTop.done {x n k : Nat} {g : Nat → Nat} (h : Hid (FromTop x n k g)) (hn : k < n / 64) : Hid (∀ j, j < 4 → g j = Nm.wd (Nm.up x n) j) := Lib.hid fun j h2 => by
    by_cases hj : k < j
    · exact h.out.1 j hj h2
    · rw [h.out.2 j (by omega), Nm.wd_up_none x n j h2 (by omega)]
set_option maxRecDepth 100000 in
set_option maxHeartbeats 1000000 in
theorem up_pos (x n : Nat) (hx : x < Nm.big) (hn : 0 < n) (hm : n ≤ 9223372036854775807) (w : World) :
    Calls Tryd.prog 59 #[.agg (numC x), .int .i64 (n : Int)] w fun e w' => e = .returned (.agg (numC (Nm.up x n))) ∧ Below w.heap.size w w' := by
  go_enter Tryd.func59, Tryd.ntmps59
  go_upto_region 1 with fail
  generalize hw1 : World.alloc _ _ = w1
  have hbel : Below w.heap.size w w1 := by rw [← hw1]; exact ((Below.refl _ _).alloc (Nat.le_refl _) _).alloc (by simp) _
  have hA : Has w1 w.heap.size (numC x) 33 := by rw [← hw1]; exact (Has.new _ _).alloc _
  have hR : Has w1 (w.heap.size + 1) (numC 0) 33 := by rw [← hw1]; exact Has.new1 _ (numC 0) _
  clear hw1
  go_wp2_with fail
  generalize hw2 : World.alloc _ _ = w2
  have h0 : Acc w w2 w.heap.size w.heap.size (w.heap.size + 1) w1.heap.size x x (cells4 fun _ => 0) := by
    rw [← hw2]; exact ⟨hbel.alloc hbel.size _, hA.alloc _, hA.alloc _, hR.alloc _, Has.new _ _⟩
  have hs := hbel.size
  have hsR := hR.lt
  clear hw2 hbel hA hR
  generalize hB : w1.heap.size = O at *
  generalize hC : w.heap.size + 1 = R at *
  generalize hD : w.heap.size = A at *
  have HO : Hid (w.heap.size ≤ O) := Lib.hid (by omega)
  have HR : Hid (w.heap.size ≤ R) := Lib.hid (by omega)
  have H1 : Hid (A ≠ O) := Lib.hid (by omega)
  have H3 : Hid (R ≠ O) := Lib.hid (by omega)
  clear hB hC hD hs hsR
  obtain ⟨F, hF⟩ : ∃ F, F = n / 64 := ⟨_, rfl⟩
  obtain ⟨N, hN⟩ : ∃ N, N = n % 64 := ⟨_, rfl⟩
  have eF : (n : Int) / 64 = (F : Int) := by omega
  have eN : (n : Int) % 64 = (N : Int) := by omega
  rw [eF, eN]
  have hNl : N < 64 := by omega
  have HF := Lib.hid hF
  have HN := Lib.hid hN
  have HX := Lib.hid hx
  clear hF hN eF eN hm hx
  go_loopw [8] (fun i wr => ∃ g : Nat → Nat, Acc w wr A A R O x x (cells4 g) ∧ ((∃ k : Nat, k ≤ 3 ∧ i = .int .i64 k ∧ Hid (FromTop x n k g)) ∨ (i = .int .i64 (-1) ∧ Hid (∀ j, j < 4 → g j = Nm.wd (Nm.up x n) j)))) (fun i _ => (intOf i + 1).toNat)
  case atStart => exact ⟨_, h0, .inl ⟨3, by omega, rfl, Lib.hid ⟨fun j h1 h2 => by omega, fun _ _ => rfl⟩⟩⟩
  case round =>
    obtain ⟨g, hs, ⟨k, hk, rfl, HG⟩ | ⟨rfl, HG⟩⟩ := hrel
    · by_cases hlt : F < k
      · have hv := Nm.wd_up x n k (by omega) (by rw [← HF.out]; exact hlt)
        rw [← HF.out, ← HN.out] at hv
        have c1 := hs.a.num (j := k - F) (by omega)
        have c2 := hs.a.num (j := k - F - 1) (by omega)
        have co := hs.o.word (j := k) (by omega)
        have fo := hs.o.free k
        have HV := Lib.hid hv
        have hset : ∀ v1 v2 : Nat, Acc w ((wr.setCell ⟨O, k, none⟩ (.int .u64 (v1 : Nat))).setCell ⟨O, k, none⟩ (.int .u64 (v2 : Nat))).drew A A R O x x (cells4 (upd g k v2)) := fun v1 v2 => by
          rw [← upd2 g k v1 v2]
          exact ((hs.setWord k v1 (by omega) H1.out H1.out H3.out HO.out).setWord k v2 (by omega) H1.out H1.out H3.out HO.out).drew
        have HSET := Lib.hid hset
        clear hv hset
        obtain ⟨rfl, rfl⟩ | ⟨rfl, rfl⟩ | ⟨rfl, rfl⟩ | ⟨rfl, rfl⟩ | ⟨rfl, rfl⟩ | ⟨rfl, rfl⟩ : (F = 0 ∧ k = 1) ∨ (F = 0 ∧ k = 2) ∨ (F = 0 ∧ k = 3) ∨ (F = 1 ∧ k = 2) ∨ (F = 1 ∧ k = 3) ∨ (F = 2 ∧ k = 3) := by omega
        all_goals
          go_wp2_with fail
          go_region
          have e := HV.out
          simp only [Nat.reduceSub] at e
          rw [upW, upOr _ _ _ (Nat.mod_lt _ (by decide)) (Nm.wd_lt _ _), ← e]
          clear e c1 c2 co fo
          go_wp2_with fail
          go_roundw
          case rel => exact ⟨_, HSET.out _ _, .inl ⟨_, by decide, rfl, FromTop.next HG (by decide)⟩⟩
          case measure => decide
      · by_cases heq : F = k
        · have hv := Nm.wd_up_low x n k (by omega) (by rw [← HF.out]; exact heq)
          rw [← HF.out, ← HN.out] at hv
          have c1 := hs.a.num (j := k - F) (by omega)
          have co := hs.o.word (j := k) (by omega)
          have fo := hs.o.free k
          have HV := Lib.hid hv
          have hset : ∀ v : Nat, Acc w (wr.setCell ⟨O, k, none⟩ (.int .u64 (v : Nat))) A A R O x x (cells4 (upd g k v)) := fun v => hs.setWord k v (by omega) H1.out H1.out H3.out HO.out
          have HSET := Lib.hid hset
          clear hv hset
          obtain ⟨rfl, rfl⟩ | ⟨rfl, rfl⟩ | ⟨rfl, rfl⟩ | ⟨rfl, rfl⟩ : (F = 0 ∧ k = 0) ∨ (F = 1 ∧ k = 1) ∨ (F = 2 ∧ k = 2) ∨ (F = 3 ∧ k = 3) := by omega
          all_goals
            go_wp2_with fail
            have e := HV.out
            simp only [Nat.reduceSub] at e
            rw [upW, ← e]
            first
              | exact ⟨⟨_, HSET.out _, .inl ⟨_, by decide, rfl, FromTop.next HG (by decide)⟩⟩, by decide⟩
              | exact ⟨⟨_, HSET.out _, .inr ⟨rfl, FromTop.last HG⟩⟩, by decide⟩
        · have hlt2 : k < F := by omega
          have HD := FromTop.done HG (by rw [← HF.out]; exact hlt2)
          have e := cells4_done HD
          rw [e] at hs
          clear e
          go_wp2_with (first
            | (with_reducible refine num_load rfl _ rfl _ rfl _ hs.o rfl ?_)
            | (with_reducible refine num_store rfl _ _ rfl _ _ rfl rfl _ hs.r rfl ?_))
          exact bodyPost_ret (v := .agg (numC (Nm.up x n))) (num_results Tryd.results59 _ _ _ rfl (hs.r.row _)) rfl ⟨rfl, below_setRow hs.below HR.out _⟩
    · have e := cells4_done HG
      rw [e] at hs
      clear e
      go_wp2_with (first
        | (with_reducible refine num_load rfl _ rfl _ rfl _ hs.o rfl ?_)
        | (with_reducible refine num_store rfl _ _ rfl _ _ rfl rfl _ hs.r rfl ?_))
      exact bodyPost_ret (v := .agg (numC (Nm.up x n))) (num_results Tryd.results59 _ _ _ rfl (hs.r.row _)) rfl ⟨rfl, below_setRow hs.below HR.out _⟩
end Go.Proofs.YtcgnohndfedodaaDoor.NN
namespace Go.Proofs.YtcgnohndfedodaaDoor.NN
open Go.RowKit

theorem downOr (a b N M : Nat) (ha : a < 18446744073709551616) : bits .or .u64 ((a : Int) / 2 ^ N) (IntKind.u64.wrap ((b : Int) * 2 ^ M)) = ((a >>> N ||| b <<< M % 18446744073709551616 : Nat) : Int) := by
  have e : (a : Int) / 2 ^ N = ((a >>> N : Nat) : Int) := by rw [Nat.shiftRight_eq_div_pow]; simp
  rw [e, upW, or64 _ _ (by rw [Nat.shiftRight_eq_div_pow]; exact Nat.lt_of_le_of_lt (Nat.div_le_self _ _) ha) (Nat.mod_lt _ (by decide))]
theorem downW (a N : Nat) : (a : Int) / 2 ^ N = ((a >>> N : Nat) : Int) := by rw [Nat.shiftRight_eq_div_pow]; simp
/-- what holds of the words while they are filled from the lowest on -/
def FromLow (x n k : Nat) (g : Nat → Nat) : Prop := (∀ j, j < k → g j = Nm.wd (Nm.down x n) j) ∧ ∀ j, k ≤ j → g j = 0
theorem FromLow.next {x n k : Nat} {g : Nat → Nat} (h : Hid (FromLow x n k g)) : Hid (FromLow x n (k + 1) (upd g k (Nm.wd (Nm.down x n) k))) := Lib.hid ⟨fun j h1 => by
    unfold upd
    split
    · rename_i e; rw [e]
    · exact h.out.1 j (by omega), fun j h1 => by
    unfold upd
    rw [if_neg (by omega)]; exact h.out.2 j (by omega)⟩
theorem FromLow.done {x n k : Nat} {g : Nat → Nat} (hx : x < Nm.big) (h : Hid (FromLow x n k g)) (hn : 4 ≤ k + n / 64) : Hid (∀ j, j < 4 → g j = Nm.wd (Nm.down x n) j) := Lib.hid fun j _ => by
    by_cases hj : j < k
    · exact h.out.1 j hj
    · rw [h.out.2 j (by omega), Nm.wd_down_none hx n j (by omega)]
set_option maxRecDepth 100000 in
set_option maxHeartbeats 1000000 in
theorem down_pos (x n : Nat) (hx : x < Nm.big) (hn : 0 < n) (hm : n ≤ 9223372036854775807) (w : World) :
    Calls Tryd.prog 58 #[.agg (numC x), .int .i64 (n : Int)] w fun e w' => e = .returned (.agg (numC (Nm.down x n))) ∧ Below w.heap.size w w' := by
  go_enter Tryd.func58, Tryd.ntmps58
  go_upto_region 1 with fail
  generalize hw1 : World.alloc _ _ = w1
  have hbel : Below w.heap.size w w1 := by rw [← hw1]; exact ((Below.refl _ _).alloc (Nat.le_refl _) _).alloc (by simp) _
  have hA : Has w1 w.heap.size (numC x) 33 := by rw [← hw1]; exact (Has.new _ _).alloc _
  have hR : Has w1 (w.heap.size + 1) (numC 0) 33 := by rw [← hw1]; exact Has.new1 _ (numC 0) _
  clear hw1
  go_wp2_with fail
  generalize hw2 : World.alloc _ _ = w2
  have h0 : Acc w w2 w.heap.size w.heap.size (w.heap.size + 1) w1.heap.size x x (cells4 fun _ => 0) := by
    rw [← hw2]; exact ⟨hbel.alloc hbel.size _, hA.alloc _, hA.alloc _, hR.alloc _, Has.new _ _⟩
  have hs := hbel.size
  have hsR := hR.lt
  clear hw2 hbel hA hR
  generalize hB : w1.heap.size = O at *
  generalize hC : w.heap.size + 1 = R at *
  generalize hD : w.heap.size = A at *
  have HO : Hid (w.heap.size ≤ O) := Lib.hid (by omega)
  have HR : Hid (w.heap.size ≤ R) := Lib.hid (by omega)
  have H1 : Hid (A ≠ O) := Lib.hid (by omega)
  have H3 : Hid (R ≠ O) := Lib.hid (by omega)
  clear hB hC hD hs hsR
  obtain ⟨F, hF⟩ : ∃ F, F = n / 64 := ⟨_, rfl⟩
  obtain ⟨N, hN⟩ : ∃ N, N = n % 64 := ⟨_, rfl⟩
  have eF : (n : Int) / 64 = (F : Int) := by omega
  have eN : (n : Int) % 64 = (N : Int) := by omega
  rw [eF, eN]
  have hNl : N < 64 := by omega
  have hFl : F ≤ 144115188075855872 := by omega
  have HF := Lib.hid hF
  have HN := Lib.hid hN
  have HX := Lib.hid hx
  clear hF hN eF eN hm hx
  go_loopw [8] (fun i wr => ∃ (k : Nat) (g : Nat → Nat), k ≤ 4 ∧ i = .int .i64 k ∧ Acc w wr A A R O x x (cells4 g) ∧ Hid (FromLow x n k g)) (fun i _ => 4 - (intOf i).toNat)
  case atStart => exact ⟨0, _, by omega, rfl, h0, Lib.hid ⟨fun j h1 => by omega, fun _ _ => rfl⟩⟩
  case round =>
    obtain ⟨k, g, hk, rfl, hs, HG⟩ := hrel
    by_cases hlt : k + F + 1 < 4
    · have hv := Nm.wd_down x n k
      rw [← HF.out, ← HN.out] at hv
      have c1 := hs.a.num (j := k + F) (by omega)
      have c2 := hs.a.num (j := k + F + 1) (by omega)
      have co := hs.o.word (j := k) (by omega)
      have fo := hs.o.free k
      have HV := Lib.hid hv
      have hset : ∀ v1 v2 : Nat, Acc w ((wr.setCell ⟨O, k, none⟩ (.int .u64 (v1 : Nat))).setCell ⟨O, k, none⟩ (.int .u64 (v2 : Nat))).drew A A R O x x (cells4 (upd g k v2)) := fun v1 v2 => by
        rw [← upd2 g k v1 v2]
        exact ((hs.setWord k v1 (by omega) H1.out H1.out H3.out HO.out).setWord k v2 (by omega) H1.out H1.out H3.out HO.out).drew
      have HSET := Lib.hid hset
      clear hv hset
      obtain ⟨rfl, rfl⟩ | ⟨rfl, rfl⟩ | ⟨rfl, rfl⟩ | ⟨rfl, rfl⟩ | ⟨rfl, rfl⟩ | ⟨rfl, rfl⟩ : (F = 0 ∧ k = 0) ∨ (F = 0 ∧ k = 1) ∨ (F = 0 ∧ k = 2) ∨ (F = 1 ∧ k = 0) ∨ (F = 1 ∧ k = 1) ∨ (F = 2 ∧ k = 0) := by omega
      all_goals
        go_wp2_with fail
        go_region
        have e := HV.out
        simp only [Nat.reduceAdd] at e
        rw [downOr _ _ _ _ (Nm.wd_lt _ _), downW, ← e]
        clear e c1 c2 co fo
        go_wp2_with fail
        go_roundw
        case rel => exact ⟨_, _, by decide, rfl, HSET.out _ _, FromLow.next HG⟩
        case measure => decide
    · by_cases heq : k + F = 3
      · have hv := Nm.wd_down_top HX.out n k (by rw [← HF.out]; exact heq)
        rw [← HF.out, ← HN.out] at hv
        have c1 := hs.a.num (j := k + F) (by omega)
        have co := hs.o.word (j := k) (by omega)
        have fo := hs.o.free k
        have HV := Lib.hid hv
        have hset : ∀ v : Nat, Acc w (wr.setCell ⟨O, k, none⟩ (.int .u64 (v : Nat))) A A R O x x (cells4 (upd g k v)) := fun v => hs.setWord k v (by omega) H1.out H1.out H3.out HO.out
        have HSET := Lib.hid hset
        clear hv hset
        obtain ⟨rfl, rfl⟩ | ⟨rfl, rfl⟩ | ⟨rfl, rfl⟩ | ⟨rfl, rfl⟩ : (F = 0 ∧ k = 3) ∨ (F = 1 ∧ k = 2) ∨ (F = 2 ∧ k = 1) ∨ (F = 3 ∧ k = 0) := by omega
        all_goals
          go_wp2_with fail
          have e := HV.out
          simp only [Nat.reduceAdd] at e
          rw [downW, ← e]
          exact ⟨⟨_, _, by decide, rfl, HSET.out _, FromLow.next HG⟩, by decide⟩
      · have hge : 4 ≤ k + F := by omega
        have HD := FromLow.done HX.out HG (by rw [← HF.out]; exact hge)
        have e := cells4_done HD
        rw [e] at hs
        clear e
        go_wp2_with (first
          | (with_reducible refine num_load rfl _ rfl _ rfl _ hs.o rfl ?_)
          | (with_reducible refine num_store rfl _ _ rfl _ _ rfl rfl _ hs.r rfl ?_))
        exact bodyPost_ret (v := .agg (numC (Nm.down x n))) (num_results Tryd.results58 _ _ _ rfl (hs.r.row _)) rfl ⟨rfl, below_setRow hs.below HR.out _⟩
set_option maxRecDepth 100000 in
theorem up_neg (x : Nat) (n : Int) (hn : n ≤ 0) (w : World) :
    Calls Tryd.prog 59 #[.agg (numC x), .int .i64 n] w fun e w' => e = .returned (.agg (numC x)) ∧ Below w.heap.size w w' := by
  go_enter Tryd.func59, Tryd.ntmps59
  go_upto_region 1 with fail
  generalize hw1 : World.alloc _ _ = w1
  have hbel : Below w.heap.size w w1 := by rw [← hw1]; exact ((Below.refl _ _).alloc (Nat.le_refl _) _).alloc (by simp) _
  have hA : Has w1 w.heap.size (numC x) 33 := by rw [← hw1]; exact (Has.new _ _).alloc _
  have hR : Has w1 (w.heap.size + 1) (numC 0) 33 := by rw [← hw1]; exact Has.new1 _ (numC 0) _
  clear hw1
  go_wp2_with (first
    | (with_reducible refine num_load rfl _ rfl _ rfl _ hA rfl ?_)
    | (with_reducible refine num_store rfl _ _ rfl _ _ rfl rfl _ hR rfl ?_))
  exact bodyPost_ret (v := .agg (numC x)) (num_results Tryd.results59 _ _ _ rfl (hR.row _)) rfl ⟨rfl, below_setRow hbel (by omega) _⟩
set_option maxRecDepth 100000 in
theorem down_neg (x : Nat) (n : Int) (hn : n ≤ 0) (w : World) :
    Calls Tryd.prog 58 #[.agg (numC x), .int .i64 n] w fun e w' => e = .returned (.agg (numC x)) ∧ Below w.heap.size w w' := by
  go_enter Tryd.func58, Tryd.ntmps58
  go_upto_region 1 with fail
  generalize hw1 : World.alloc _ _ = w1
  have hbel : Below w.heap.size w w1 := by rw [← hw1]; exact ((Below.refl _ _).alloc (Nat.le_refl _) _).alloc (by simp) _
  have hA : Has w1 w.heap.size (numC x) 33 := by rw [← hw1]; exact (Has.new _ _).alloc _
  have hR : Has w1 (w.heap.size + 1) (numC 0) 33 := by rw [← hw1]; exact Has.new1 _ (numC 0) _
  clear hw1
  go_wp2_with (first
    | (with_reducible refine num_load rfl _ rfl _ rfl _ hA rfl ?_)
    | (with_reducible refine num_store rfl _ _ rfl _ _ rfl rfl _ hR rfl ?_))
  exact bodyPost_ret (v := .agg (numC x)) (num_results Tryd.results58 _ _ _ rfl (hR.row _)) rfl ⟨rfl, below_setRow hbel (by omega) _⟩
end Go.Proofs.YtcgnohndfedodaaDoor.NN
/-
  Two numbers are the same just if their words are.
-/
namespace Go.Proofs.YtcgnohndfedodaaDoor.NN
open Go.RowKit

theorem all_range_int : ∀ (xs ys : List Int), xs.length = ys.length → ((List.range xs.length).all fun i => xs.getD i 0 == ys.getD i 0) = (xs == ys)
  | [], [], _ => rfl
  | x :: xs, y :: ys, h => by
    have ih := all_range_int xs ys (by simpa using h)
    rw [List.length_cons, List.range_succ_eq_map, List.all_cons, List.all_map]
    simp only [List.getD_cons_zero, Function.comp_def, List.getD_cons_succ, ih]
    simp [List.cons_beq_cons]
  | [], _ :: _, h => by simp at h
  | _ :: _, [], h => by simp at h
section
variable {P : Program} (w : World)
theorem run_equalIn_ints (d : Nat) (k : IntKind) (t e : TypeId) (n : Nat) (ht : P.underlying t = some (.array n e)) (he : P.underlying e = some (.int k)) (hsz : ∀ w, (sizeOf e).run P w = .ok 1 w)
    (xs ys : List Int) (hx : xs.length = n) (hy : ys.length = n) :
    (Op.equalIn (d + 2) t (.agg (xs.map (Value.int k)).toArray) (.agg (ys.map (Value.int k)).toArray)).run P w = .ok (xs == ys) w := by
  rw [← all_range_int xs ys (hx.trans hy.symm), hx, List.range_eq_range', Op.equalIn]
  simp only [Sem.run_bind, run_underlying ht, Result.andThen_ok, hsz, Std.Legacy.Range.forIn_eq_forIn_range', Std.Legacy.Range.size, Nat.sub_zero, Nat.add_sub_cancel, Nat.div_one]
  have hl : ∀ i ∈ List.range' 0 n 1, i < n := fun i hi => by simpa using (List.mem_range'_1.1 hi).2
  generalize List.range' 0 n 1 = l at hl ⊢
  induction l with
  | nil => simp
  | cons i l ih =>
    have hi : i < n := hl i (by simp)
    have px : (part e (xs.map (Value.int k)).toArray (i * 1)).run P w = .ok (Value.int k (xs.getD i 0)) w := by
      simp [part, isAgg, run_underlying he, List.getD, List.getElem?_eq_getElem (show i < xs.length by omega)]
    have py : (part e (ys.map (Value.int k)).toArray (i * 1)).run P w = .ok (Value.int k (ys.getD i 0)) w := by
      simp [part, isAgg, run_underlying he, List.getD, List.getElem?_eq_getElem (show i < ys.length by omega)]
    have pe : (Op.equalIn (d + 1) e (Value.int k (xs.getD i 0)) (Value.int k (ys.getD i 0))).run P w = .ok (xs.getD i 0 == ys.getD i 0) w :=
      run_equalIn_int w d e k k _ _ he
    simp only [List.forIn_cons, Sem.run_bind, px, py, pe, Result.andThen_ok, List.all_cons]
    cases hb : (xs.getD i 0 == ys.getD i 0)
    · simp
    · simp only [Bool.not_true, Bool.false_eq_true, if_false, Sem.run_pure, Result.andThen_ok, Bool.true_and]
      exact ih fun j hj => hl j (by simp [hj])
theorem run_eql_ints (k : IntKind) (t e : TypeId) (n : Nat) (ht : P.underlying t = some (.array n e)) (he : P.underlying e = some (.int k)) (hsz : ∀ w, (sizeOf e).run P w = .ok 1 w)
    (xs ys : List Int) (hx : xs.length = n) (hy : ys.length = n) :
    (binOp .eql t (.agg (xs.map (Value.int k)).toArray) (.agg (ys.map (Value.int k)).toArray)).run P w = .ok (.bool (xs == ys)) w := by
  rw [run_eql_struct, run_equalIn_ints w 9998 k t e n ht he hsz xs ys hx hy]
  rfl
theorem run_neq_ints (k : IntKind) (t e : TypeId) (n : Nat) (ht : P.underlying t = some (.array n e)) (he : P.underlying e = some (.int k)) (hsz : ∀ w, (sizeOf e).run P w = .ok 1 w)
    (xs ys : List Int) (hx : xs.length = n) (hy : ys.length = n) :
    (binOp .neq t (.agg (xs.map (Value.int k)).toArray) (.agg (ys.map (Value.int k)).toArray)).run P w = .ok (.bool (!(xs == ys))) w := by
  have h : (Op.equalIn Op.maxDepth t (.agg (xs.map (Value.int k)).toArray) (.agg (ys.map (Value.int k)).toArray)).run P w = .ok (xs == ys) w := run_equalIn_ints w 9998 k t e n ht he hsz xs ys hx hy
  simp only [binOp, Sem.run_bind, Op.equal, h, Result.andThen_ok, Sem.run_pure]
end
theorem wordSize (w : World) : (sizeOf 31).run Tryd.prog w = .ok 1 w := by kernel_rfl
def wds (x : Nat) : List Int := [(Nm.wd x 0 : Nat), (Nm.wd x 1 : Nat), (Nm.wd x 2 : Nat), (Nm.wd x 3 : Nat)]
theorem numC_wds (x : Nat) : numC x = ((wds x).map (Value.int .u64)).toArray := rfl
theorem wds_eq {x y : Nat} (hx : x < Nm.big) (hy : y < Nm.big) : (wds x == wds y) = decide (x = y) := by
  rw [Bool.eq_iff_iff, beq_iff_eq, decide_eq_true_iff]
  constructor
  · intro h
    simp only [wds, List.cons.injEq, and_true, Int.ofNat_inj] at h
    obtain ⟨h0, h1, h2, h3⟩ := h
    refine Nm.wd_inj hx hy fun i hi => ?_
    rcases Nm.four hi with rfl | rfl | rfl | rfl <;> assumption
  · intro h; rw [h]
theorem eql_num {x y : Nat} (hx : x < Nm.big) (hy : y < Nm.big) (w : World) : (binOp .eql 33 (.agg (numC x)) (.agg (numC y))).run Tryd.prog w = .ok (.bool (decide (x = y))) w := by
  rw [numC_wds, numC_wds, run_eql_ints w .u64 33 31 4 Tryd.underlying33 Tryd.underlying31 wordSize _ _ rfl rfl, wds_eq hx hy]
theorem neq_num {x y : Nat} (hx : x < Nm.big) (hy : y < Nm.big) (w : World) : (binOp .neq 33 (.agg (numC x)) (.agg (numC y))).run Tryd.prog w = .ok (.bool (!decide (x = y))) w := by
  rw [numC_wds, numC_wds, run_neq_ints w .u64 33 31 4 Tryd.underlying33 Tryd.underlying31 wordSize _ _ rfl rfl, wds_eq hx hy]
end Go.Proofs.YtcgnohndfedodaaDoor.NN
namespace Go.Proofs.YtcgnohndfedodaaDoor.NN
open Go.RowKit

theorem most_cells : (#[.int .u64 18446744073709551615, .int .u64 18446744073709551615, .int .u64 18446744073709551615, .int .u64 18446744073709551615] : Array Value) = numC (Nm.big - 1) := by
  unfold numC cells4
  rw [show Nm.wd (Nm.big - 1) 0 = 18446744073709551615 by decide +kernel, show Nm.wd (Nm.big - 1) 1 = 18446744073709551615 by decide +kernel, show Nm.wd (Nm.big - 1) 2 = 18446744073709551615 by decide +kernel, show Nm.wd (Nm.big - 1) 3 = 18446744073709551615 by decide +kernel]
  rfl
theorem small_cells (n : Nat) (hn : n < 18446744073709551616) : (#[.int .u64 (n : Int), .int .u64 0, .int .u64 0, .int .u64 0] : Array Value) = numC n := by
  unfold numC cells4
  rw [Nm.wd0, Nm.wd1, Nm.wd2, Nm.wd3, Nat.mod_eq_of_lt hn, Nat.div_eq_of_lt hn, Nat.div_eq_of_lt (by omega), Nat.div_eq_of_lt (by omega)]
  rfl
set_option maxRecDepth 100000 in
set_option maxHeartbeats 400000 in
theorem most (w : World) : Calls Tryd.prog 64 #[] w fun e w' => e = .returned (.agg (numC (Nm.big - 1))) ∧ Below w.heap.size w w' := by
  go_enter Tryd.func64, Tryd.ntmps64
  go_wp2_with fail
  rw [most_cells]
  exact bodyPost_ret (v := .agg (numC (Nm.big - 1))) (num_results Tryd.results64 _ _ _ rfl (Has.new _ _)) rfl ⟨rfl, (Below.refl _ _).alloc (Nat.le_refl _) _⟩
theorem of (n : Nat) (hn : n < 18446744073709551616) (w : World) : Calls Tryd.prog 46 #[.int .u64 (n : Int)] w fun e w' => e = .returned (.agg (numC n)) ∧ Below w.heap.size w w' := by
  go_enter Tryd.func46, Tryd.ntmps46
  go_wp2_with fail
  rw [small_cells n hn]
  exact bodyPost_ret (v := .agg (numC n)) (num_results Tryd.results46 _ _ _ rfl (Has.new _ _)) rfl ⟨rfl, (Below.refl _ _).alloc (Nat.le_refl _) _⟩
theorem zero (x : Nat) (hx : x < Nm.big) (w : World) : Calls Tryd.prog 36 #[.agg (numC x)] w fun e w' => e = .returned (.bool (decide (x = 0))) ∧ Below w.heap.size w w' := by
  have hq := eql_num hx (show 0 < Nm.big by decide)
  rw [← zero4] at hq
  go_enter Tryd.func36, Tryd.ntmps36
  go_wp2_with (with_reducible refine num_load rfl _ rfl _ rfl _ (Has.new _ _) rfl ?_)
  go_ret
  exact ⟨rfl, (Below.refl _ _).alloc (Nat.le_refl _) _⟩
end Go.Proofs.YtcgnohndfedodaaDoor.NN
namespace Go.Proofs.YtcgnohndfedodaaDoor.NN
open Go.RowKit

theorem num_store_eq {ops : Array Oper} {rest : List Oper} {o : Oper} {a : Act} {w : World} {Q : Exit → Act → World → Prop} (hgd : o.guard = none) (x y : Operand) (ho : o.op = .store 33 x y) (g : Nat) (z : Nat) (cz : Array Value) (hx : a.eval x = .pointer (some ⟨g, 0, none⟩)) (hy : a.eval y = .agg cz) (e : cz = numC z) (cs : Array Value) (hg : Has w g cs 33) (hs : cs.size = 4)
    (h : wpList Tryd.prog ops Q rest (a.put o.dst undef) (w.setRow g (numC z))) : wpList Tryd.prog ops Q (o :: rest) a w := by
  subst e; exact num_store hgd x y ho g z hx hy cs hg hs h
theorem up64_cells (y : Nat) : (#[.int .u64 0, .int .u64 (Nm.wd y 0 : Nat), .int .u64 (Nm.wd y 1 : Nat), .int .u64 (Nm.wd y 2 : Nat)] : Array Value) = numC (Nm.up y 64) := by
  obtain ⟨h0, h1, h2, h3⟩ := Nm.wd_up64 y
  unfold numC cells4
  rw [h0, h1, h2, h3]; rfl
theorem down64_cells {y : Nat} (hy : y < Nm.big) : (#[.int .u64 (Nm.wd y 1 : Nat), .int .u64 (Nm.wd y 2 : Nat), .int .u64 (Nm.wd y 3 : Nat), .int .u64 0] : Array Value) = numC (Nm.down y 64) := by
  obtain ⟨h0, h1, h2, h3⟩ := Nm.wd_down64 hy
  unfold numC cells4
  rw [h0, h1, h2, h3]; rfl
/-- a number that is moved, a result, a number that grows -/
structure Mv (w wr : World) (A R O y : Nat) (cs : Array Value) : Prop where
  below : Below w.heap.size w wr
  a : Has wr A (numC y) 33
  r : Has wr R (numC 0) 33
  o : Has wr O cs 33
theorem Mv.put {w wr : World} {A R O y : Nat} {cs : Array Value} (h : Mv w wr A R O y cs) (y' : Nat) (hR : R ≠ A) (hO : O ≠ A) (hA : w.heap.size ≤ A) : Mv w (wr.setRow A (numC y')) A R O y' cs :=
  ⟨below_setRow h.below hA _, h.a.row _, h.r.otherRow _ _ hR, h.o.otherRow _ _ hO⟩
theorem Mv.set {w wr : World} {A R O y : Nat} {g : Nat → Nat} (h : Mv w wr A R O y (cells4 g)) (i v : Nat) (hi : i < 4) (hA : A ≠ O) (hR : R ≠ O) (hO : w.heap.size ≤ O) : Mv w (wr.setCell ⟨O, i, none⟩ (.int .u64 (v : Nat))) A R O y (cells4 (upd g i v)) :=
  ⟨h.below.setCell hO _, h.a.other _ _ hA, h.r.other _ _ hR, by rw [← cells4_set g i v hi]; exact h.o.set _⟩
theorem Mv.drew {w wr : World} {A R O y : Nat} {cs : Array Value} (h : Mv w wr A R O y cs) : Mv w wr.drew A R O y cs := ⟨h.below.drew, h.a, h.r, h.o⟩
theorem Mv.start (w : World) (x : Nat) : Mv w (((w.alloc (.cells (numC x) 33)).alloc (.cells (numC 0) 33)).alloc (.cells (cells4 fun _ => 0) 33)) w.heap.size (w.heap.size + 1) (w.heap.size + 1 + 1) x (cells4 fun _ => 0) :=
  ⟨(((Below.refl _ _).alloc (Nat.le_refl _) _).alloc (by simp) _).alloc (by simp; omega) _, ((Has.new _ _).alloc _).alloc _, (Has.new1 _ _ _).alloc _, Has.new2 _ _ _ _⟩
theorem upSum (a b m : Nat) (hm : m ≤ 64) (hb : b < 18446744073709551616) : IntKind.u64.wrap (((a <<< m % 18446744073709551616 : Nat) : Int) + ((b >>> (64 - m) : Nat) : Int)) = ((a <<< m % 18446744073709551616 ||| b >>> (64 - m) : Nat) : Int) := by
  have h := Nm.add_up a b m hm hb
  have h2 := Nm.or_lt64 (a := a <<< m % 18446744073709551616) (b := b >>> (64 - m)) (Nat.mod_lt _ (by decide)) (by rw [Nat.shiftRight_eq_div_pow]; exact Nat.lt_of_le_of_lt (Nat.div_le_self _ _) hb)
  rw [← h] at h2 ⊢
  rw [IntKind.wrap_u64]; omega
theorem downSum (a b m : Nat) (hm : m ≤ 64) (ha : a < 18446744073709551616) : IntKind.u64.wrap (((a >>> m : Nat) : Int) + ((b <<< (64 - m) % 18446744073709551616 : Nat) : Int)) = ((a >>> m ||| b <<< (64 - m) % 18446744073709551616 : Nat) : Int) := by
  have h := Nm.add_down a b m hm ha
  have h2 := Nm.or_lt64 (a := a >>> m) (b := b <<< (64 - m) % 18446744073709551616) (by rw [Nat.shiftRight_eq_div_pow]; exact Nat.lt_of_le_of_lt (Nat.div_le_self _ _) ha) (Nat.mod_lt _ (by decide))
  rw [← h] at h2 ⊢
  rw [IntKind.wrap_u64]; omega
/-- words filled from the lowest on, of whatever number -/
def Filled (z k : Nat) (g : Nat → Nat) : Prop := ∀ j, j < k → g j = Nm.wd z j
theorem Filled.next {z k : Nat} {g : Nat → Nat} (h : Hid (Filled z k g)) : Hid (Filled z (k + 1) (upd g k (Nm.wd z k))) := Lib.hid fun j h1 => by
    unfold upd
    split
    · rename_i e; rw [e]
    · exact h.out j (by omega)
end Go.Proofs.YtcgnohndfedodaaDoor.NN
/-
  compact: tooGreat, moved, Good, Decode, at every number.
-/
namespace Go.Proofs.YtcgnohndfedodaaDoor.NN
open Go.RowKit
def ovr (s v : Nat) : Bool := decide (0 < v ∧ 34 < s ∨ 255 < v ∧ 33 < s ∨ 65535 < v ∧ 32 < s)
theorem ovr_dec (n : Nat) : Nm.decOver n = ovr (n / 16777216) (n % 8388608) := rfl
set_option maxRecDepth 100000 in
set_option maxHeartbeats 1000000 in
theorem tooGreat (s v : Nat) (hs : s < 256) (hv : v < 8388608) (w : World) :
    Calls Tryd.prog 47 #[.int .i64 (s : Int), .int .i64 (v : Int)] w fun e w' => e = .returned (.bool (ovr s v)) ∧ w = w' := by
  by_cases h0 : v = 0
  · subst h0
    have hr : ovr s 0 = false := by unfold ovr; exact decide_eq_false (by omega)
    rw [hr]
    go_enter Tryd.func47, Tryd.ntmps47
    go_wp2_with fail
    go_ret
    exact ⟨rfl, rfl⟩
  have b0 : ((v : Int) != 0) = true := by simp; omega
  obtain h | h | h | h | h | h : (34 < s) ∨ (s = 34 ∧ 255 < v) ∨ (s = 34 ∧ v ≤ 255) ∨ (s = 33 ∧ 65535 < v) ∨ (s = 33 ∧ v ≤ 65535) ∨ s ≤ 32 := by omega
  · have hr : ovr s v = true := by unfold ovr; exact decide_eq_true (by omega)
    have b1 : decide ((34 : Int) < (s : Int)) = true := decide_eq_true (by omega)
    rw [hr]
    clear h h0 hr
    go_enter Tryd.func47, Tryd.ntmps47
    go_wp2_with fail
    go_ret
    exact ⟨rfl, rfl⟩
  · have hr : ovr s v = true := by unfold ovr; exact decide_eq_true (by omega)
    have b1 : decide ((34 : Int) < (s : Int)) = false := decide_eq_false (by omega)
    have b2 : decide ((33 : Int) < (s : Int)) = true := decide_eq_true (by omega)
    have b3 : decide ((255 : Int) < (v : Int)) = true := decide_eq_true (by omega)
    rw [hr]
    clear h h0 hr
    go_enter Tryd.func47, Tryd.ntmps47
    go_wp2_with fail
    go_ret
    exact ⟨rfl, rfl⟩
  · have hr : ovr s v = false := by unfold ovr; exact decide_eq_false (by omega)
    have b1 : decide ((34 : Int) < (s : Int)) = false := decide_eq_false (by omega)
    have b2 : decide ((33 : Int) < (s : Int)) = true := decide_eq_true (by omega)
    have b3 : decide ((255 : Int) < (v : Int)) = false := decide_eq_false (by omega)
    have b4 : decide ((32 : Int) < (s : Int)) = true := decide_eq_true (by omega)
    have b5 : decide ((65535 : Int) < (v : Int)) = false := decide_eq_false (by omega)
    rw [hr]
    clear h h0 hr
    go_enter Tryd.func47, Tryd.ntmps47
    go_wp2_with fail
    go_ret
    exact ⟨rfl, rfl⟩
  · have hr : ovr s v = true := by unfold ovr; exact decide_eq_true (by omega)
    have b1 : decide ((34 : Int) < (s : Int)) = false := decide_eq_false (by omega)
    have b2 : decide ((33 : Int) < (s : Int)) = false := decide_eq_false (by omega)
    have b4 : decide ((32 : Int) < (s : Int)) = true := decide_eq_true (by omega)
    have b5 : decide ((65535 : Int) < (v : Int)) = true := decide_eq_true (by omega)
    rw [hr]
    clear h h0 hr
    go_enter Tryd.func47, Tryd.ntmps47
    go_wp2_with fail
    go_ret
    exact ⟨rfl, rfl⟩
  · have hr : ovr s v = false := by unfold ovr; exact decide_eq_false (by omega)
    have b1 : decide ((34 : Int) < (s : Int)) = false := decide_eq_false (by omega)
    have b2 : decide ((33 : Int) < (s : Int)) = false := decide_eq_false (by omega)
    have b4 : decide ((32 : Int) < (s : Int)) = true := decide_eq_true (by omega)
    have b5 : decide ((65535 : Int) < (v : Int)) = false := decide_eq_false (by omega)
    rw [hr]
    clear h h0 hr
    go_enter Tryd.func47, Tryd.ntmps47
    go_wp2_with fail
    go_ret
    exact ⟨rfl, rfl⟩
  · have hr : ovr s v = false := by unfold ovr; exact decide_eq_false (by omega)
    have b1 : decide ((34 : Int) < (s : Int)) = false := decide_eq_false (by omega)
    have b2 : decide ((33 : Int) < (s : Int)) = false := decide_eq_false (by omega)
    have b4 : decide ((32 : Int) < (s : Int)) = false := decide_eq_false (by omega)
    rw [hr]
    clear h h0 hr
    go_enter Tryd.func47, Tryd.ntmps47
    go_wp2_with fail
    go_ret
    exact ⟨rfl, rfl⟩
/-- a number that came in, and the result's block -/
structure Bx (w wr : World) (A x R : Nat) : Prop where
  below : Below w.heap.size w wr
  a : Has wr A (numC x) 33
  r : Has wr R (numC 0) 33
theorem Bx.on {w wr w' : World} {A x R : Nat} (h : Bx w wr A x R) (hb : Below wr.heap.size wr w') : Bx w w' A x R := ⟨h.below.trans (hb.mono h.below.size), h.a.on hb, h.r.on hb⟩
theorem Bx.start (w : World) (x : Nat) : Bx w ((w.alloc (.cells (numC x) 33)).alloc (.cells (numC 0) 33)) w.heap.size x (w.heap.size + 1) :=
  ⟨((Below.refl _ _).alloc (Nat.le_refl _) _).alloc (by simp) _, (Has.new _ _).alloc _, Has.new1 _ _ _⟩
theorem down_at (x k : Nat) (hx : x < Nm.big) (hk : 0 < k) (hm : k ≤ 300) (n : Int) (hn : n = ((8 * k : Nat) : Int)) (w : World) :
    Calls Tryd.prog 58 #[.agg (numC x), .int .i64 n] w fun e w' => e = .returned (.agg (numC (Nm.down x (8 * k)))) ∧ Below w.heap.size w w' := by
  subst hn; exact down_pos x (8 * k) hx (by omega) (by omega) w
theorem up_at (x k : Nat) (hx : x < Nm.big) (hm : k ≤ 300) (n : Int) (hn : n = ((8 * k : Nat) : Int)) (w : World) :
    Calls Tryd.prog 59 #[.agg (numC x), .int .i64 n] w fun e w' => e = .returned (.agg (numC (Nm.up x (8 * k)))) ∧ Below w.heap.size w w' := by
  subst hn
  by_cases h0 : k = 0
  · subst h0
    rw [Nm.up_zero hx]
    exact up_neg x _ (by omega) w
  · exact up_pos x (8 * k) hx (by omega) (by omega) w
set_option maxRecDepth 100000 in
set_option maxHeartbeats 1000000 in
theorem moved (x : Nat) (b : Int) (hx : x < Nm.big) (hl : -300 ≤ b) (hh : b ≤ 300) (w : World) :
    Calls Tryd.prog 45 #[.agg (numC x), .int .i64 b] w fun e w' => e = .returned (.agg (numC (Nm.mv x b))) ∧ Below w.heap.size w w' := by
  by_cases hb : b < 0
  · obtain ⟨k, rfl⟩ : ∃ k : Nat, b = -(k : Int) := ⟨(-b).toNat, by omega⟩
    have hr : Nm.mv x (-(k : Int)) = Nm.down x (8 * k) := by unfold Nm.mv; rw [if_pos hb, Int.neg_neg, Int.toNat_natCast]
    rw [hr]
    go_enter Tryd.func45, Tryd.ntmps45
    go_upto_region 1 with fail
    generalize hw1 : World.alloc _ _ = w1
    have h0 : Bx w w1 w.heap.size x (w.heap.size + 1) := by rw [← hw1]; exact Bx.start w x
    have hR : w.heap.size ≤ w.heap.size + 1 := by omega
    have HR := Lib.hid hR
    clear hw1 hR hr
    go_wp2_with (with_reducible refine num_load rfl _ rfl _ rfl _ h0.a rfl ?_)
    refine (down_at x k hx (by omega) (by omega) _ (by omega) _).mono ?_
    rintro e w2 ⟨rfl, hb2⟩
    have h2 := h0.on hb2
    go_wp2_with (with_reducible refine num_store rfl _ _ rfl _ _ rfl rfl _ h2.r rfl ?_)
    exact bodyPost_ret (v := .agg (numC (Nm.down x (8 * k)))) (num_results Tryd.results45 _ _ _ rfl (h2.r.row _)) rfl ⟨rfl, below_setRow h2.below HR.out _⟩
  · obtain ⟨k, rfl⟩ : ∃ k : Nat, b = (k : Int) := ⟨b.toNat, by omega⟩
    have hr : Nm.mv x (k : Int) = Nm.up x (8 * k) := by unfold Nm.mv; rw [if_neg hb, Int.toNat_natCast]
    rw [hr]
    go_enter Tryd.func45, Tryd.ntmps45
    go_upto_region 1 with fail
    generalize hw1 : World.alloc _ _ = w1
    have h0 : Bx w w1 w.heap.size x (w.heap.size + 1) := by rw [← hw1]; exact Bx.start w x
    have hR : w.heap.size ≤ w.heap.size + 1 := by omega
    have HR := Lib.hid hR
    clear hw1 hR hr hb
    go_wp2_with (with_reducible refine num_load rfl _ rfl _ rfl _ h0.a rfl ?_)
    refine (up_at x k hx (by omega) _ (by omega) _).mono ?_
    rintro e w2 ⟨rfl, hb2⟩
    have h2 := h0.on hb2
    go_wp2_with (with_reducible refine num_store rfl _ _ rfl _ _ rfl rfl _ h2.r rfl ?_)
    exact bodyPost_ret (v := .agg (numC (Nm.up x (8 * k)))) (num_results Tryd.results45 _ _ _ rfl (h2.r.row _)) rfl ⟨rfl, below_setRow h2.below HR.out _⟩
theorem results_cell_tmp2 {fn : Func} {p u v : Tmp} {ty : TypeId} (h : fn.results = #[.cell p ty, .tmp u, .tmp v]) (tmps : Array Value) (P : Program) (w : World) :
    (results fn tmps).run P w =
      ((asAddr (tmps.getD p undef)).run P w).andThen fun a w₁ => ((loadVar ty a).run P w₁).andThen fun x w₂ => .ok (.tuple #[x, tmps.getD u undef, tmps.getD v undef]) w₂ := by
  simp only [results, h]
  simp [Sem.run_bind, Result.andThen]
/-- a number's result with two more beside it -/
theorem num_results3 {w : World} {fn : Func} {p u v : Tmp} (h : fn.results = #[.cell p 33, .tmp u, .tmp v]) (tmps : Array Value) (g x : Nat) (y z : Value) (hp : tmps.getD p undef = .pointer (some ⟨g, 0, none⟩)) (hy : tmps.getD u undef = y) (hz : tmps.getD v undef = z) (hg : Has w g (numC x) 33) :
    (results fn tmps).run Tryd.prog w = .ok (.tuple #[.agg (numC x), y, z]) w := by
  rw [results_cell_tmp2 h, hp, hy, hz]
  have hl : (loadVar 33 ⟨g, 0, none⟩).run Tryd.prog w = .ok (.agg (numC x)) w := run_loadVar_row w g 33 33 (numC x) (0, 0) _ hg.out Tryd.underlying33 rfl infoNum
  simp [asAddr, hl, Result.andThen]
set_option maxRecDepth 100000 in
theorem good (b : Int) (w : World) :
    Calls Tryd.prog 44 #[.int .i64 b] w fun e w' => e = .returned (.bool (decide (0 ≤ b ∧ b ≤ 4294967295))) ∧ w = w' := by
  by_cases h0 : 0 ≤ b
  · have hr : decide (0 ≤ b ∧ b ≤ 4294967295) = decide (b ≤ 4294967295) := decide_eq_decide.2 (by omega)
    rw [hr]
    go_enter Tryd.func44, Tryd.ntmps44
    go_wp2_with fail
    go_ret
    exact ⟨rfl, rfl⟩
  · have hr : decide (0 ≤ b ∧ b ≤ 4294967295) = false := decide_eq_false (by omega)
    rw [hr]
    go_enter Tryd.func44, Tryd.ntmps44
    go_wp2_with fail
    go_ret
    exact ⟨rfl, rfl⟩
theorem good_no (b : Int) (h : ¬ (0 ≤ b ∧ b ≤ 4294967295)) (w : World) :
    Calls Tryd.prog 44 #[.int .i64 b] w fun e w' => e = .returned (.bool false) ∧ w = w' := by
  have := good b w; rwa [decide_eq_false h] at this
theorem good_yes (b : Int) (h : 0 ≤ b ∧ b ≤ 4294967295) (w : World) :
    Calls Tryd.prog 44 #[.int .i64 b] w fun e w' => e = .returned (.bool true) ∧ w = w' := by
  have := good b w; rwa [decide_eq_true h] at this
set_option maxRecDepth 100000 in
set_option maxHeartbeats 1000000 in
theorem decode_no (b : Int) (h : ¬ (0 ≤ b ∧ b ≤ 4294967295)) (w : World) :
    Calls Tryd.prog 35 #[.int .i64 b] w fun e w' => e = .returned (.tuple #[.agg (numC 0), .bool false, .bool false]) ∧ Below w.heap.size w w' := by
  have hg := Lib.hid (good_no b h)
  clear h
  go_enter Tryd.func35, Tryd.ntmps35
  go_upto_region 1 with fail
  generalize hw1 : World.alloc _ _ = w1
  have hN : Has w1 w.heap.size (numC 0) 33 := by rw [← hw1]; exact Has.newz _
  have hb : Below w.heap.size w w1 := by rw [← hw1]; exact (Below.refl _ _).alloc (Nat.le_refl _) _
  clear hw1
  go_wp2_with fail
  refine (hg.out _).mono ?_
  rintro e w2 ⟨rfl, rfl⟩
  go_wp2_with (with_reducible refine num_store_eq rfl _ _ rfl _ 0 _ rfl rfl zero4 _ hN rfl ?_)
  exact bodyPost_ret (v := .tuple #[.agg (numC 0), .bool false, .bool false]) (num_results3 Tryd.results35 _ _ _ _ _ rfl rfl rfl (hN.row _)) rfl ⟨rfl, below_setRow hb (Nat.le_refl _) _⟩
end Go.Proofs.YtcgnohndfedodaaDoor.NN
/-
  compact: Decode of a target in short.
-/
namespace Go.Proofs.YtcgnohndfedodaaDoor.NN
open Go.RowKit
theorem andI (a b : Nat) (ha : a < 9223372036854775808) (hb : b < 9223372036854775808) : bits .and .i64 (a : Int) (b : Int) = ((a &&& b : Nat) : Int) := by
  have h : a &&& b ≤ a := Nat.and_le_left
  show IntKind.i64.wrap ((BitVec.ofInt 64 (a : Int) &&& BitVec.ofInt 64 (b : Int)).toNat : Int) = _
  rw [BitVec.ofInt_natCast, BitVec.ofInt_natCast, BitVec.toNat_and, BitVec.toNat_ofNat, BitVec.toNat_ofNat, Nat.mod_eq_of_lt (by omega), Nat.mod_eq_of_lt (by omega), IntKind.wrap_i64]
  omega
theorem orI (a b : Nat) (ha : a < 9223372036854775808) (hb : b < 9223372036854775808) : bits .or .i64 (a : Int) (b : Int) = ((a ||| b : Nat) : Int) := by
  have h : a ||| b < 2 ^ 63 := Nat.or_lt_two_pow ha hb
  show IntKind.i64.wrap ((BitVec.ofInt 64 (a : Int) ||| BitVec.ofInt 64 (b : Int)).toNat : Int) = _
  rw [BitVec.ofInt_natCast, BitVec.ofInt_natCast, BitVec.toNat_or, BitVec.toNat_ofNat, BitVec.toNat_ofNat, Nat.mod_eq_of_lt (by omega), Nat.mod_eq_of_lt (by omega), IntKind.wrap_i64]
  omega
theorem and_two_pow' (n i : Nat) : n &&& 2 ^ i = n / 2 ^ i % 2 * 2 ^ i := by
  apply Nat.eq_of_testBit_eq
  intro j
  rw [Nat.testBit_and, Nat.testBit_two_pow, ← Nat.toNat_testBit]
  cases h : n.testBit i
  · by_cases hj : i = j
    · subst hj; simp [h]
    · simp [hj]
  · by_cases hj : i = j
    · subst hj; simp [h]
    · simp [hj]
theorem and_word (n : Nat) (hn : n < 4294967296) : bits .and .i64 (n : Int) 8388607 = ((n % 8388608 : Nat) : Int) := by
  have := andI n 8388607 (by omega) (by omega)
  rw [show n &&& 8388607 = n % 8388608 from Nat.and_two_pow_sub_one_eq_mod n 23] at this
  exact this
theorem and_sign (n : Nat) (hn : n < 4294967296) : bits .and .i64 (n : Int) 8388608 = ((n / 8388608 % 2 * 8388608 : Nat) : Int) := by
  have := andI n 8388608 (by omega) (by omega)
  rw [show n &&& 8388608 = n / 8388608 % 2 * 8388608 from and_two_pow' n 23] at this
  exact this
set_option maxRecDepth 100000 in
set_option maxHeartbeats 1000000 in
theorem decode_yes (n : Nat) (hn : n < 4294967296) (w : World) :
    Calls Tryd.prog 35 #[.int .i64 (n : Int)] w fun e w' => e = .returned (.tuple #[.agg (numC (Nm.decN n)), .bool (Nm.decLow n), .bool (Nm.decOver n)]) ∧ Below w.heap.size w w' := by
  have hg := Lib.hid (good_yes (n : Int) (by omega))
  obtain ⟨s, hs⟩ : ∃ s, s = n / 16777216 := ⟨_, rfl⟩
  obtain ⟨v, hv⟩ : ∃ v, v = n % 8388608 := ⟨_, rfl⟩
  have eA := and_word n hn
  have eS := and_sign n hn
  have eD : (n : Int) / 16777216 = (s : Nat) := by omega
  have hs2 : s < 256 := by omega
  have hv2 : v < 8388608 := by omega
  have hL : Nm.decLow n = (decide (0 < v) && decide (n / 8388608 % 2 = 1)) := by rw [hv]; rfl
  have hO : Nm.decOver n = ovr s v := by rw [hv, hs]; rfl
  have hM : Nm.decN n = Nm.mv v ((s : Nat) - 3) := by rw [hv, hs]; rfl
  rw [hL, hO, hM]
  rw [← hv] at eA
  have hq : n / 8388608 % 2 < 2 := by omega
  generalize n / 8388608 % 2 = q at *
  have hvb : v < Nm.big := by unfold Nm.big; omega
  have cT := Lib.hid (tooGreat s v hs2 hv2)
  have cM := Lib.hid (moved v ((s : Nat) - 3) hvb (by omega) (by omega))
  have cO := Lib.hid (of v (by omega))
  generalize Nm.mv v ((s : Nat) - 3) = z at *
  generalize ovr s v = ov at *
  clear hL hO hM hs hvb hv
  obtain rfl | ⟨h0, rfl⟩ | ⟨h0, rfl⟩ : v = 0 ∨ (v ≠ 0 ∧ q = 0) ∨ (v ≠ 0 ∧ q = 1) := by omega
  · rw [show (decide (0 < 0) && decide (q = 1)) = false from rfl]
    clear eS hq
    go_enter Tryd.func35, Tryd.ntmps35
    go_upto_region 1 with fail
    generalize hw1 : World.alloc _ _ = w1
    have hN : Has w1 w.heap.size (numC 0) 33 := by rw [← hw1]; exact Has.newz _
    have hb : Below w.heap.size w w1 := by rw [← hw1]; exact (Below.refl _ _).alloc (Nat.le_refl _) _
    clear hw1
    go_wp2_with fail
    refine (hg.out _).mono ?_
    rintro e w2 ⟨rfl, rfl⟩
    go_wp2_with fail
    refine (cO.out _).mono ?_
    rintro e w3 ⟨rfl, hb3⟩
    replace hN := hN.on hb3
    replace hb := hb.trans (hb3.mono hb.size)
    clear hb3
    go_wp2_with fail
    refine (cM.out _).mono ?_
    rintro e w4 ⟨rfl, hb4⟩
    replace hN := hN.on hb4
    replace hb := hb.trans (hb4.mono hb.size)
    clear hb4
    go_wp2_with fail
    refine (cT.out _).mono ?_
    rintro e w5 ⟨rfl, rfl⟩
    go_wp2_with (with_reducible refine num_store rfl _ _ rfl _ _ rfl rfl _ hN rfl ?_)
    exact bodyPost_ret (v := .tuple #[.agg (numC z), .bool false, .bool ov]) (num_results3 Tryd.results35 _ _ _ _ _ rfl rfl rfl (hN.row _)) rfl ⟨rfl, below_setRow hb (Nat.le_refl _) _⟩
  · rw [show (decide (0 < v) && decide (0 = 1)) = false by simp]
    have b0 : ((v : Int) != 0) = true := by simp; omega
    clear h0 hq
    go_enter Tryd.func35, Tryd.ntmps35
    go_upto_region 1 with fail
    generalize hw1 : World.alloc _ _ = w1
    have hN : Has w1 w.heap.size (numC 0) 33 := by rw [← hw1]; exact Has.newz _
    have hb : Below w.heap.size w w1 := by rw [← hw1]; exact (Below.refl _ _).alloc (Nat.le_refl _) _
    clear hw1
    go_wp2_with fail
    refine (hg.out _).mono ?_
    rintro e w2 ⟨rfl, rfl⟩
    go_wp2_with fail
    refine (cO.out _).mono ?_
    rintro e w3 ⟨rfl, hb3⟩
    replace hN := hN.on hb3
    replace hb := hb.trans (hb3.mono hb.size)
    clear hb3
    go_wp2_with fail
    refine (cM.out _).mono ?_
    rintro e w4 ⟨rfl, hb4⟩
    replace hN := hN.on hb4
    replace hb := hb.trans (hb4.mono hb.size)
    clear hb4
    go_wp2_with fail
    refine (cT.out _).mono ?_
    rintro e w5 ⟨rfl, rfl⟩
    go_wp2_with (with_reducible refine num_store rfl _ _ rfl _ _ rfl rfl _ hN rfl ?_)
    exact bodyPost_ret (v := .tuple #[.agg (numC z), .bool false, .bool ov]) (num_results3 Tryd.results35 _ _ _ _ _ rfl rfl rfl (hN.row _)) rfl ⟨rfl, below_setRow hb (Nat.le_refl _) _⟩
  · rw [show (decide (0 < v) && decide (1 = 1)) = true by simp; omega]
    have b0 : ((v : Int) != 0) = true := by simp; omega
    clear h0 hq
    go_enter Tryd.func35, Tryd.ntmps35
    go_upto_region 1 with fail
    generalize hw1 : World.alloc _ _ = w1
    have hN : Has w1 w.heap.size (numC 0) 33 := by rw [← hw1]; exact Has.newz _
    have hb : Below w.heap.size w w1 := by rw [← hw1]; exact (Below.refl _ _).alloc (Nat.le_refl _) _
    clear hw1
    go_wp2_with fail
    refine (hg.out _).mono ?_
    rintro e w2 ⟨rfl, rfl⟩
    go_wp2_with fail
    refine (cO.out _).mono ?_
    rintro e w3 ⟨rfl, hb3⟩
    replace hN := hN.on hb3
    replace hb := hb.trans (hb3.mono hb.size)
    clear hb3
    go_wp2_with fail
    refine (cM.out _).mono ?_
    rintro e w4 ⟨rfl, hb4⟩
    replace hN := hN.on hb4
    replace hb := hb.trans (hb4.mono hb.size)
    clear hb4
    go_wp2_with fail
    refine (cT.out _).mono ?_
    rintro e w5 ⟨rfl, rfl⟩
    go_wp2_with (with_reducible refine num_store rfl _ _ rfl _ _ rfl rfl _ hN rfl ?_)
    exact bodyPost_ret (v := .tuple #[.agg (numC z), .bool true, .bool ov]) (num_results3 Tryd.results35 _ _ _ _ _ rfl rfl rfl (hN.row _)) rfl ⟨rfl, below_setRow hb (Nat.le_refl _) _⟩
end Go.Proofs.YtcgnohndfedodaaDoor.NN
namespace Go.Proofs.YtcgnohndfedodaaDoor.NN
open Go.RowKit

end Go.Proofs.YtcgnohndfedodaaDoor.NN
/-
  The reference's Decode (layer 3), at every number.
-/
namespace Go.Proofs.YtcgnohndfedodaaDoor.NN
open Go.RowKit
end Go.Proofs.YtcgnohndfedodaaDoor.NN
/-
  Layer 3's laws: what the document tells, first.
-/
namespace Go.Proofs.YtcgnohndfedodaaDoor.NN
open Go.RowKit
theorem eql_same'' (z : Nat) (w : World) : (binOp .eql 33 (.agg (numC z)) (.agg (numC z))).run Tryd.prog w = .ok (.bool true) w := by
  rw [numC_wds, run_eql_ints w .u64 33 31 4 Tryd.underlying33 Tryd.underlying31 wordSize _ _ rfl rfl]; simp
theorem decode_alive (z : Nat) (hz : z = Nm.mv 65535 26) (w : World) :
    Calls Tryd.prog 35 #[.int .i64 486604799] w fun e w' => e = .returned (.tuple #[.agg (numC z), .bool false, .bool false]) ∧ Below w.heap.size w w' := by
  have h := decode_yes 486604799 (by omega) w
  have e1 : Nm.decN 486604799 = z := by rw [hz]; decide
  have e2 : Nm.decLow 486604799 = false := by decide
  have e3 : Nm.decOver 486604799 = false := by decide
  rw [e1, e2, e3] at h
  exact h
theorem good_one (w : World) : Calls Tryd.prog 44 #[.int .i64 1] w fun e w' => e = .returned (.bool true) ∧ Below w.heap.size w w' :=
  (good_yes 1 (by omega) w).mono fun _ _ ⟨he, hw⟩ => ⟨he, by rw [← hw]; exact Below.refl _ _⟩
end Go.Proofs.YtcgnohndfedodaaDoor.NN
namespace Go.Proofs.YtcgnohndfedodaaDoor.NN
open Go.RowKit

end Go.Proofs.YtcgnohndfedodaaDoor.NN
namespace Go.Proofs.YtcgnohndfedodaaDoor.NN
open Go.RowKit

/-- 32 bytes as cells -/
def hashC (f : Nat → Nat) : Array Value := ((List.range 32).map fun i => Value.int .u8 (f i : Nat)).toArray
theorem hashC_get (f : Nat → Nat) {j : Nat} (h : j < 32) : (hashC f)[j]? = some (.int .u8 (f j : Nat)) := by simp [hashC, h]
theorem hashC_size (f : Nat → Nat) : (hashC f).size = 32 := by simp [hashC]
theorem hashC_one (f : Nat → Nat) : (hashC f).all (·.oneCell') = true := by
  rw [Array.all_eq_true_iff_forall_mem]
  intro v hv
  simp [hashC] at hv
  obtain ⟨i, _, rfl⟩ := hv
  rfl
theorem hashC_congr {f g : Nat → Nat} (h : ∀ j, j < 32 → f j = g j) : hashC f = hashC g := by
  unfold hashC
  congr 1
  exact List.map_congr_left fun i hi => by rw [h i (by simpa using hi)]
theorem hashC_set (f : Nat → Nat) (i x : Nat) : (hashC f).setIfInBounds i (.int .u8 (x : Nat)) = hashC (upd f i x) := by
  apply Array.ext_getElem?
  intro j
  rw [Array.getElem?_setIfInBounds]
  by_cases hj : j < 32
  · rw [hashC_get _ hj]
    by_cases hij : i = j
    · subst hij; simp [hj, upd, hashC]
    · rw [if_neg hij, hashC_get _ hj]
      have : j ≠ i := fun e => hij e.symm
      simp [upd, this]
  · have h1 : ∀ g, (hashC g)[j]? = none := fun g => by simp [hashC]; omega
    rw [h1, h1]
    by_cases hij : i = j
    · subst hij; simp [hashC_size, hj]
    · simp [hij]
theorem infoHash : (Tryd.prog.info? 35).map (·.size) = some 32 := by kernel_rfl
set_option maxRecDepth 100000 in
theorem idx_hash (f : Nat → Nat) {k : Nat} (hk : k < 32) (w : World) : (Instr.index 35 (.agg (hashC f)) (.int .i64 (k : Int))).run Tryd.prog w = .ok (.int .u8 (f k : Nat)) w := by
  obtain rfl | rfl | rfl | rfl | rfl | rfl | rfl | rfl | rfl | rfl | rfl | rfl | rfl | rfl | rfl | rfl | rfl | rfl | rfl | rfl | rfl | rfl | rfl | rfl | rfl | rfl | rfl | rfl | rfl | rfl | rfl | rfl : k = 0 ∨ k = 1 ∨ k = 2 ∨ k = 3 ∨ k = 4 ∨ k = 5 ∨ k = 6 ∨ k = 7 ∨ k = 8 ∨ k = 9 ∨ k = 10 ∨ k = 11 ∨ k = 12 ∨ k = 13 ∨ k = 14 ∨ k = 15 ∨ k = 16 ∨ k = 17 ∨ k = 18 ∨ k = 19 ∨ k = 20 ∨ k = 21 ∨ k = 22 ∨ k = 23 ∨ k = 24 ∨ k = 25 ∨ k = 26 ∨ k = 27 ∨ k = 28 ∨ k = 29 ∨ k = 30 ∨ k = 31 := by omega
  all_goals rfl
section
variable {w : World} {ops : Array Oper} {rest : List Oper} {o : Oper} {a : Act} {Q : Exit → Act → World → Prop}
theorem hash_load (hgd : o.guard = none) (x : Operand) (ho : o.op = .load 35 x) (g : Nat) (hx : a.eval x = .pointer (some ⟨g, 0, none⟩)) (f : Nat → Nat) (hg : Has w g (hashC f) 35)
    (h : wpList Tryd.prog ops Q rest (a.put o.dst (.agg (hashC f))) w) : wpList Tryd.prog ops Q (o :: rest) a w :=
  wpList_load_row hgd 35 x ho g hx 35 (hashC f) (0, 0) _ hg.out Tryd.underlying35 rfl (infoHash.trans (by rw [hashC_size])) h
theorem hash_store (hgd : o.guard = none) (x y : Operand) (ho : o.op = .store 35 x y) (g : Nat) (f : Nat → Nat) (hx : a.eval x = .pointer (some ⟨g, 0, none⟩)) (hy : a.eval y = .agg (hashC f)) (cs : Array Value) (hg : Has w g cs 35) (hs : cs.size = 32)
    (h : wpList Tryd.prog ops Q rest (a.put o.dst undef) (w.setRow g (hashC f))) : wpList Tryd.prog ops Q (o :: rest) a w :=
  wpList_store_row hgd 35 x y ho g (hashC f) hx hy 35 cs hg.out (infoHash.trans (by rw [hashC_size])) (by rw [hs, hashC_size]) (hashC_one f) h
end
theorem hash_results {w : World} {fn : Func} {p : Tmp} (h : fn.results = #[.cell p 35]) (tmps : Array Value) (g : Nat) (f : Nat → Nat) (hp : tmps.getD p undef = .pointer (some ⟨g, 0, none⟩)) (hg : Has w g (hashC f) 35) :
    (results fn tmps).run Tryd.prog w = .ok (.agg (hashC f)) w :=
  results_cell_row h tmps w g 35 (hashC f) (0, 0) _ hp hg.out Tryd.underlying35 rfl (infoHash.trans (by rw [hashC_size]))
theorem byteSize (w : World) : (sizeOf 5).run Tryd.prog w = .ok 1 w := by kernel_rfl
theorem eql_hash_same (f : Nat → Nat) (w : World) : (binOp .eql 35 (.agg (hashC f)) (.agg (hashC f))).run Tryd.prog w = .ok (.bool true) w := by
  have e : hashC f = ((((List.range 32).map fun i => (f i : Int))).map (Value.int .u8)).toArray := by unfold hashC; rw [List.map_map]; rfl
  rw [e, run_eql_ints w .u8 35 5 32 Tryd.underlying35 Tryd.underlying5 byteSize _ _ (by simp) (by simp)]; simp
/-- what stands while bytes are put into a number -/
structure Fh (w wr : World) (R O s : Nat) : Prop where
  below : Below w.heap.size w wr
  r : Has wr R (numC 0) 33
  o : Has wr O (numC s) 33
theorem Fh.put {w wr : World} {R O s : Nat} (h : Fh w wr R O s) (i s' : Nat) {v : Value} (hR : R ≠ O) (hO : w.heap.size ≤ O) (e : (numC s).setIfInBounds i v = numC s') : Fh w (wr.setCell ⟨O, i, none⟩ v) R O s' :=
  ⟨h.below.setCell hO _, h.r.other _ _ hR, by rw [← e]; exact h.o.set _⟩
theorem Fh.drew {w wr : World} {R O s : Nat} (h : Fh w wr R O s) : Fh w wr.drew R O s := ⟨h.below.drew, h.r, h.o⟩
theorem shl64 (v m : Nat) (hv : v < 256) (hm : m ≤ 56) : v <<< m < 18446744073709551616 := by
  rw [Nat.shiftLeft_eq]
  have h2 : 2 ^ m ≤ 2 ^ 56 := Nat.pow_le_pow_right (by decide) hm
  calc v * 2 ^ m ≤ 255 * 2 ^ 56 := Nat.mul_le_mul (by omega) h2
    _ < 18446744073709551616 := by decide
theorem orByte64 (u v m : Nat) (hu : u < 18446744073709551616) (hv : v < 256) (hm : m ≤ 56) : bits .or .u64 (u : Int) (IntKind.u64.wrap (IntKind.u64.wrap (v : Int) * 2 ^ m)) = ((u ||| v <<< m : Nat) : Int) := by
  have h := shl64 v m hv hm
  have e1 : IntKind.u64.wrap (v : Int) = (v : Int) := by rw [IntKind.wrap_u64]; omega
  have e2 : (v : Int) * 2 ^ m = ((v <<< m : Nat) : Int) := by rw [Nat.shiftLeft_eq]; simp
  have e3 : IntKind.u64.wrap ((v <<< m : Nat) : Int) = ((v <<< m : Nat) : Int) := by
    generalize v <<< m = n at h
    rw [IntKind.wrap_u64]; omega
  rw [e1, e2, e3, or64 _ _ hu h]
theorem numC_orByte (x i v : Nat) (hi : i < 32) (hv : v < 256) : (numC x).setIfInBounds (i / 8) (.int .u64 ((Nm.wd x (i / 8) ||| v <<< (8 * (i % 8)) : Nat) : Int)) = numC (x ||| v <<< (8 * i)) := by
  unfold numC
  rw [cells4_set _ _ _ (by omega)]
  apply cells4_congr
  intro j _
  rw [Nm.wd_orByte x v i j hv]
  unfold upd
  split
  · rename_i h; rw [h]
  · rfl
theorem byte64 (x k : Nat) : ((Nm.wd x (k / 8) : Nat) : Int) / 2 ^ (8 * (k % 8)) % 256 = (Nm.byteAt x k : Nat) := by
  have e : ((Nm.wd x (k / 8) : Nat) : Int) / 2 ^ (8 * (k % 8)) = ((Nm.wd x (k / 8) / 2 ^ (8 * (k % 8)) : Nat) : Int) := by simp
  rw [e, ← Nm.byteAt_wd]
  generalize Nm.wd x (k / 8) / 2 ^ (8 * (k % 8)) = n
  omega
/-- what stands while a number's bytes are put -/
structure Hs (w wr : World) (A R O x : Nat) (g : Nat → Nat) : Prop where
  below : Below w.heap.size w wr
  a : Has wr A (numC x) 33
  r : ∃ cs, Has wr R cs 35 ∧ cs.size = 32
  o : Has wr O (hashC g) 35
theorem Hs.put {w wr : World} {A R O x : Nat} {g : Nat → Nat} (h : Hs w wr A R O x g) (i v : Nat) (hA : A ≠ O) (hR : R ≠ O) (hO : w.heap.size ≤ O) : Hs w (wr.setCell ⟨O, i, none⟩ (.int .u8 (v : Nat))) A R O x (upd g i v) :=
  ⟨h.below.setCell hO _, h.a.other _ _ hA, let ⟨cs, h1, h2⟩ := h.r; ⟨cs, h1.other _ _ hR, h2⟩, by rw [← hashC_set]; exact h.o.set _⟩
def hz32 : Array Value := hashC fun _ => 0
end Go.Proofs.YtcgnohndfedodaaDoor.NN
namespace Go.Proofs.YtcgnohndfedodaaDoor.NN
open Go.RowKit

theorem quiet_eq {P : Program} {f : FuncId} {args : Array Value} {w : World} {n : Nat} {v : Value}
    (h : Calls P f args (w.drewN n) fun e w' => e = .returned v ∧ w.drewN n = w') : Calls P f args (w.drewN n) fun e w'' => e = .returned v ∧ ∃ m, w'' = w.drewN m :=
  h.mono fun _ _ ⟨he, hm⟩ => ⟨he, n, hm.symm⟩
theorem isNaN (x : Nat) (w : World) : Calls Tryd.prog 72 #[.int .u64 (x : Int)] w fun e w' => e = .returned (.bool false) ∧ w = w' := by
  go_enter Tryd.func72, Tryd.ntmps72
  go_wp2_with fail
  go_ret
  simp
set_option maxRecDepth 100000 in
theorem cmp64 (x y : Nat) (w : World) : Calls Tryd.prog 65 #[.int .u64 (x : Int), .int .u64 (y : Int)] w fun e w' => e = .returned (.int .i64 (Nm.cmp x y)) ∧ w = w' := by
  have h : (x < y ∧ Nm.cmp x y = -1) ∨ (¬ x < y ∧ y < x ∧ Nm.cmp x y = 1) ∨ (¬ x < y ∧ ¬ y < x ∧ Nm.cmp x y = 0) := by
    unfold Nm.cmp
    rcases Nat.lt_trichotomy x y with h | h | h
    · exact .inl ⟨h, by rw [if_pos h]⟩
    · subst h; exact .inr (.inr ⟨by omega, by omega, by rw [if_neg (by omega), if_neg (by omega)]⟩)
    · exact .inr (.inl ⟨by omega, h, by rw [if_neg (by omega), if_pos h]⟩)
  rcases h with ⟨h1, h2⟩ | ⟨h1, h2, h3⟩ | ⟨h1, h2, h3⟩
  all_goals
    first | rw [h2] | rw [h3]
    first | clear h3 | clear h2
    go_enter Tryd.func65, Tryd.ntmps65
    go_wp2_with (go_at_call 72; refine (isNaN _ _).mono ?_; rintro e w' ⟨rfl, rfl⟩)
    go_ret
    exact ⟨rfl, rfl⟩
set_option maxRecDepth 100000 in
set_option maxHeartbeats 400000 in
theorem compare (x y : Nat) (hx : x < Nm.big) (hy : y < Nm.big) (w : World) :
    Calls Tryd.prog 52 #[.agg (numC x), .agg (numC y)] w fun e w' => e = .returned (.int .i64 (Nm.cmp x y)) ∧ Below w.heap.size w w' := by
  go_enter Tryd.func52, Tryd.ntmps52
  go_wp2_with fail
  generalize hw1 : World.alloc _ _ = w1
  have h0 : Two w w1 w.heap.size (w.heap.size + 1) x y := by rw [← hw1]; exact Two.start w x y
  clear hw1
  generalize w.heap.size + 1 = B at *
  generalize hC : w.heap.size = A at *
  have HC := Lib.hid hC
  clear hC
  have hst : x / 2 ^ (64 * (3 + 1)) = y / 2 ^ (64 * (3 + 1)) := Nm.top_all hx hy
  have HST := Lib.hid hst
  clear hst
  go_loopw [5] (fun i wr => ∃ k : Nat, k ≤ 3 ∧ i = .int .i64 k ∧ Two w wr A B x y ∧ Hid (x / 2 ^ (64 * (k + 1)) = y / 2 ^ (64 * (k + 1)))) (fun i _ => (intOf i).toNat)
  case atStart => exact ⟨3, by omega, rfl, h0, HST⟩
  case round =>
    obtain ⟨k, hk, rfl, hs, HK⟩ := hrel
    by_cases hk0 : 0 < k
    · have ca := hs.a.num (j := k) (by omega)
      have cb := hs.b.num (j := k) (by omega)
      by_cases he : Nm.wd x k = Nm.wd y k
      · have hn := Nm.word_same HK.out he
        have HN := Lib.hid hn
        have hq : ((Nm.wd x k : Int) != (Nm.wd y k : Int)) = false := by rw [he]; simp
        clear hn he
        generalize Nm.wd x k = a at *
        generalize Nm.wd y k = b at *
        go_wp2_with fail
        go_quiet (fail)
        have hs2 := hs.on (below_drewN (Below.refl _ wr) nq)
        go_wp2_with fail
        go_roundw
        case rel => exact ⟨k - 1, by omega, congrArg (Value.int .i64) (by omega), hs2, by rw [show k - 1 + 1 = k by omega]; exact HN⟩
        case measure => simp [intOf]; omega
      · have hn := Nm.cmp_word HK.out he
        have HN := Lib.hid hn
        have hq : ((Nm.wd x k : Int) != (Nm.wd y k : Int)) = true := by simp; omega
        have hcmp := fun w => cmp64 (Nm.wd x k) (Nm.wd y k) w
        clear hn he
        generalize Nm.wd x k = a at *
        generalize Nm.wd y k = b at *
        have HCM := Lib.hid hcmp
        clear hcmp
        go_wp2_with fail
        go_quiet (fail)
        have hs2 := hs.on (below_drewN (Below.refl _ wr) nq)
        have ca2 := (below_drewN (Below.refl wr.heap.size wr) nq).cell (p := ⟨A, k, none⟩) hs.a.lt
        have cb2 := (below_drewN (Below.refl wr.heap.size wr) nq).cell (p := ⟨B, k, none⟩) hs.b.lt
        rw [ca] at ca2
        rw [cb] at cb2
        clear ca cb hs
        generalize wr.drewN nq = w2 at *
        go_wp2_with fail
        go_quiet ((go_at_call 65; exact quiet_eq (HCM.out _)))
        have hs3 := hs2.on (below_drewN (Below.refl _ w2) nq)
        go_wp2_with fail
        go_ret
        exact ⟨congrArg (fun n => Ending.returned (.int .i64 n)) HN.out, hs3.below⟩
    · obtain rfl : k = 0 := by omega
      have ca := hs.a.num (j := 0) (by omega)
      have cb := hs.b.num (j := 0) (by omega)
      have hn := Nm.cmp_zero HK.out
      have HN := Lib.hid hn
      have hcmp := fun w => cmp64 (Nm.wd x 0) (Nm.wd y 0) w
      clear hn
      generalize Nm.wd x 0 = a at *
      generalize Nm.wd y 0 = b at *
      have HCM := Lib.hid hcmp
      clear hcmp
      go_wp2_with (go_at_call 65; ((with_reducible refine (HCM.out _).mono ?_)); rintro e w' ⟨rfl, rfl⟩)
      go_ret
      exact ⟨congrArg (fun n => Ending.returned (.int .i64 n)) HN.out, hs.below⟩
theorem cmp_lt (x y : Nat) : decide (Nm.cmp x y < 0) = decide (x < y) := by
  unfold Nm.cmp
  apply decide_eq_decide.2
  split
  · simp [*]
  · split <;> simp [*]
set_option maxRecDepth 100000 in
theorem less (x y : Nat) (hx : x < Nm.big) (hy : y < Nm.big) (w : World) :
    Calls Tryd.prog 40 #[.agg (numC x), .agg (numC y)] w fun e w' => e = .returned (.bool (decide (x < y))) ∧ Below w.heap.size w w' := by
  have hq := cmp_lt x y
  have hc := fun w => compare x y hx hy w
  generalize Nm.cmp x y = c at *
  have HQ := Lib.hid hq
  have HC := Lib.hid hc
  clear hq hc
  go_enter Tryd.func40, Tryd.ntmps40
  go_upto_region 1 with fail
  generalize hw1 : World.alloc _ _ = w1
  have h0 : Two w w1 w.heap.size (w.heap.size + 1) x y := by rw [← hw1]; exact Two.start w x y
  clear hw1
  go_wp2_with (first | (with_reducible refine num_load rfl _ rfl _ rfl _ h0.a rfl ?_) | (with_reducible refine num_load rfl _ rfl _ rfl _ h0.b rfl ?_))
  refine (HC.out _).mono ?_
  rintro e w2 ⟨rfl, hb⟩
  have h2 := h0.on hb
  go_wp2_with fail
  go_ret
  exact ⟨congrArg (fun b => Ending.returned (.bool b)) HQ.out, h2.below⟩
end Go.Proofs.YtcgnohndfedodaaDoor.NN
/-
  compact: Meets; the reference's Number.
-/
namespace Go.Proofs.YtcgnohndfedodaaDoor.NN
open Go.RowKit
theorem Nm.number_next (U j : Nat) : U / 2 ^ (8 * j) = U / 2 ^ (8 * (j + 1)) * 256 + U / 2 ^ (8 * j) % 256 := by
  rw [show 8 * (j + 1) = 8 * j + 8 by omega, Nat.pow_add, ← Nat.div_div_eq_div_mul]
  generalize U / 2 ^ (8 * j) = m
  omega
theorem Nm.up8 {U j : Nat} (hU : U < Nm.big) : Nm.up (U / 2 ^ (8 * (j + 1))) 8 = U / 2 ^ (8 * (j + 1)) * 256 := by
  rw [Nm.up_eq, Nat.mod_eq_of_lt]
  rw [show 8 * (j + 1) = 8 + 8 * j by omega, Nat.pow_add, ← Nat.div_div_eq_div_mul]
  have : U / 2 ^ 8 / 2 ^ (8 * j) ≤ U / 2 ^ 8 := Nat.div_le_self _ _
  generalize U / 2 ^ 8 / 2 ^ (8 * j) = m at *
  unfold Nm.big at *; omega
theorem numC_add0 (y b : Nat) (hb : b < 256) : (numC (y * 256)).setIfInBounds 0 (.int .u64 ((Nm.wd (y * 256) 0 + b : Nat) : Int)) = numC (y * 256 + b) := by
  unfold numC
  rw [cells4_set _ 0 _ (by omega)]
  apply cells4_congr
  intro j hj
  unfold upd
  rcases Nm.four hj with rfl | rfl | rfl | rfl
  · rw [if_pos rfl, Nm.wd0, Nm.wd0]; omega
  · rw [if_neg (by omega), Nm.wd1, Nm.wd1]; omega
  · rw [if_neg (by omega), Nm.wd2, Nm.wd2]; omega
  · rw [if_neg (by omega), Nm.wd3, Nm.wd3]; omega
structure Nb (w wr : World) (H R O : Nat) (f : Nat → Nat) (y : Nat) : Prop where
  below : Below w.heap.size w wr
  h : Has wr H (hashC f) 35
  r : Has wr R (numC 0) 33
  o : Has wr O (numC y) 33
theorem Nb.on {w wr w' : World} {H R O : Nat} {f : Nat → Nat} {y : Nat} (h : Nb w wr H R O f y) (hb : Below wr.heap.size wr w') : Nb w w' H R O f y :=
  ⟨h.below.trans (hb.mono h.below.size), h.h.on hb, h.r.on hb, h.o.on hb⟩
theorem Nb.row {w wr : World} {H R O : Nat} {f : Nat → Nat} {y : Nat} (h : Nb w wr H R O f y) (z : Nat) (hH : H ≠ O) (hR : R ≠ O) (hO : w.heap.size ≤ O) : Nb w (wr.setRow O (numC z)) H R O f z :=
  ⟨below_setRow h.below hO _, h.h.otherRow _ _ hH, h.r.otherRow _ _ hR, h.o.row _⟩
theorem Nb.add {w wr : World} {H R O : Nat} {f : Nat → Nat} {y b z : Nat} (h : Nb w wr H R O f (y * 256)) (hb : b < 256) (hz : z = y * 256 + b) (hH : H ≠ O) (hR : R ≠ O) (hO : w.heap.size ≤ O) : Nb w (wr.setCell ⟨O, 0, none⟩ (.int .u64 ((Nm.wd (y * 256) 0 + b : Nat) : Int))) H R O f z := by
  have e := h.o.set (i := 0) (.int .u64 ((Nm.wd (y * 256) 0 + b : Nat) : Int))
  rw [numC_add0 y b hb, ← hz] at e
  exact ⟨h.below.setCell hO _, h.h.other _ _ hH, h.r.other _ _ hR, e⟩
theorem Nb.drew {w wr : World} {H R O : Nat} {f : Nat → Nat} {y : Nat} (h : Nb w wr H R O f y) : Nb w wr.drew H R O f y := ⟨h.below.drew, h.h, h.r, h.o⟩
end Go.Proofs.YtcgnohndfedodaaDoor.NN
/-
  compact: Meets, inRange, Target; the reference's Target.
-/
namespace Go.Proofs.YtcgnohndfedodaaDoor.NN
open Go.RowKit
/-- a load in a place that is guarded -/
theorem num_load_g {ops : Array Oper} {rest : List Oper} {o : Oper} {a : Act} {w : World} {Q : Exit → Act → World → Prop} (hw : Region.wanted o (yielded ops a.tmps) = true) (x : Operand) (ho : o.op = .load 33 x) (g : Nat) (hx : a.eval x = .pointer (some ⟨g, 0, none⟩)) (cs : Array Value) (hg : Has w g cs 33) (hs : cs.size = 4)
    (h : wpList Tryd.prog ops Q rest (a.put o.dst (.agg cs)) w) : wpList Tryd.prog ops Q (o :: rest) a w :=
  BigFrame.wpList_want hw fun _ hK => wp_load_row 33 x ho g hx 33 cs (0, 0) _ hg.out Tryd.underlying33 rfl (infoNum.trans (by rw [hs])) (hK _ _ h)
theorem hash_load_g {ops : Array Oper} {rest : List Oper} {o : Oper} {a : Act} {w : World} {Q : Exit → Act → World → Prop} (hw : Region.wanted o (yielded ops a.tmps) = true) (x : Operand) (ho : o.op = .load 35 x) (g : Nat) (hx : a.eval x = .pointer (some ⟨g, 0, none⟩)) (f : Nat → Nat) (hg : Has w g (hashC f) 35)
    (h : wpList Tryd.prog ops Q rest (a.put o.dst (.agg (hashC f))) w) : wpList Tryd.prog ops Q (o :: rest) a w :=
  BigFrame.wpList_want hw fun _ hK => wp_load_row 35 x ho g hx 35 (hashC f) (0, 0) _ hg.out Tryd.underlying35 rfl (infoHash.trans (by rw [hashC_size])) (hK _ _ h)
/-- a name is loaded whole in a region that draws its order -/
theorem quiet_load_hash {C : World → Prop} {a : Act} {o : Oper} {K : Act → Prop} (x : Operand) (ho : o.op = .load 35 x) (g : Nat) (hx : a.eval x = .pointer (some ⟨g, 0, none⟩)) (f : Nat → Nat) (hC : ∀ w', C w' → Has w' g (hashC f) 35)
    (hk : K (a.put o.dst (.agg (hashC f)))) : o.quiet Tryd.prog a C K :=
  ⟨_, fun w' hw' => by
    unfold Oper.quietAt
    have hl : (loadVar 35 ⟨g, 0, none⟩).run Tryd.prog w' = .ok (.agg (hashC f)) w' := run_loadVar_row w' g 35 35 (hashC f) (0, 0) _ (hC w' hw').out Tryd.underlying35 rfl (infoHash.trans (by rw [hashC_size]))
    have : (execOp a.eval o).run Tryd.prog w' = .ok (.value (.agg (hashC f))) w' := by
      unfold execOp
      simp only [ho, hx, Instr.loadAt, Instr.sureAddr, Sem.run_bind, Sem.run_pure, Result.andThen_ok, hl]
    rw [this]
    exact ⟨rfl, rfl⟩, hk⟩
set_option maxRecDepth 100000 in
set_option maxHeartbeats 2000000 in
theorem inRange_of (b : Int) (z : Nat) (low over : Bool) (KD : Hid (∀ w, Calls Tryd.prog 35 #[.int .i64 b] w fun e w' => e = .returned (.tuple #[.agg (numC z), .bool low, .bool over]) ∧ Below w.heap.size w w')) (w : World) :
    Calls Tryd.prog 39 #[.int .i64 b] w fun e w' => e = .returned (.tuple #[.agg (numC z), .bool (!low && !over)]) ∧ Below w.heap.size w w' := by
  cases low
  all_goals
    go_enter Tryd.func39, Tryd.ntmps39
    go_upto_region 1 with fail
    generalize hw1 : World.alloc _ _ = w1
    have hN : Has w1 w.heap.size (numC 0) 33 := by rw [← hw1]; exact Has.newz _
    have hb : Below w.heap.size w w1 := by rw [← hw1]; exact (Below.refl _ _).alloc (Nat.le_refl _) _
    clear hw1
    go_wp2_with fail
    refine (KD.out _).mono ?_
    rintro e w3 ⟨rfl, hb3⟩
    replace hN := hN.on hb3
    replace hb := hb.trans (hb3.mono hb.size)
    clear hb3
    have hZ := Has.newz (w := w3) 33
    go_upto_region 2 with (with_reducible refine num_store rfl _ _ rfl _ _ rfl rfl _ hZ rfl ?_)
    generalize hw4 : World.setRow _ _ _ = w4
    have hb4 : Below w3.heap.size w3 w4 := by rw [← hw4]; exact below_setRow ((Below.refl _ _).alloc (Nat.le_refl _) _) (Nat.le_refl _) _
    have hD : Has w4 w3.heap.size (numC z) 33 := by rw [← hw4]; exact hZ.row _
    replace hN := hN.on hb4
    replace hb := hb.trans (hb4.mono hb.size)
    generalize w3.heap.size = D at *
    clear hw4 hb4 hZ
    go_wp2_with (first | (with_reducible refine num_load rfl _ rfl _ rfl _ hD rfl ?_) | (with_reducible refine num_store rfl _ _ rfl _ _ rfl rfl _ hN rfl ?_))
    exact bodyPost_ret (num_results2 Tryd.results39 _ _ _ _ rfl rfl (hN.row _)) rfl ⟨rfl, below_setRow hb (Nat.le_refl _) _⟩
end Go.Proofs.YtcgnohndfedodaaDoor.NN
namespace Go.Proofs.YtcgnohndfedodaaDoor.NN
open Go.RowKit

theorem wd_not {x k : Nat} (hx : x < Nm.big) (hk : k < 4) : Nm.wd (Nm.big - 1 - x) k = 18446744073709551615 - Nm.wd x k := by
  unfold Nm.big at *
  rcases Nm.four hk with rfl | rfl | rfl | rfl
  · rw [Nm.wd0, Nm.wd0]; omega
  · rw [Nm.wd1, Nm.wd1]; omega
  · rw [Nm.wd2, Nm.wd2]; omega
  · rw [Nm.wd3, Nm.wd3]; omega
theorem xor64 (v : Nat) (hv : v < 18446744073709551616) : bits .xor .u64 (if IntKind.u64.signed = true then -1 else IntKind.u64.max) (v : Int) = ((18446744073709551615 - v : Nat) : Int) := by
  show IntKind.u64.wrap ((BitVec.ofInt 64 (if IntKind.u64.signed = true then -1 else IntKind.u64.max) ^^^ BitVec.ofInt 64 (v : Int)).toNat : Int) = _
  rw [show BitVec.ofInt 64 (if IntKind.u64.signed = true then -1 else IntKind.u64.max) = BitVec.allOnes 64 by decide, BitVec.allOnes_xor, BitVec.ofInt_natCast, BitVec.toNat_not, BitVec.toNat_ofNat, Nat.mod_eq_of_lt hv, IntKind.wrap_u64]
  omega
set_option maxRecDepth 100000 in
theorem idx_num (x : Nat) {k : Nat} (hk : k < 4) (w : World) : (Instr.index 33 (.agg (numC x)) (.int .i64 (k : Int))).run Tryd.prog w = .ok (.int .u64 (Nm.wd x k : Nat)) w := by
  rcases Nm.four hk with rfl | rfl | rfl | rfl <;> rfl
set_option maxRecDepth 100000 in
set_option maxHeartbeats 400000 in
theorem not (x : Nat) (hx : x < Nm.big) (w : World) :
    Calls Tryd.prog 50 #[.agg (numC x)] w fun e w' => e = .returned (.agg (numC (Nm.big - 1 - x))) ∧ Below w.heap.size w w' := by
  go_enter Tryd.func50, Tryd.ntmps50
  go_upto_region 2 with fail
  generalize hw1 : World.alloc _ _ = w1
  have h0 : Acc w w1 w.heap.size w.heap.size (w.heap.size + 1) (w.heap.size + 1 + 1) x x (cells4 fun _ => 0) := by
    rw [← hw1]; exact Acc.start1 w x (cells4 fun _ => 0)
  clear hw1
  generalize hA : w.heap.size + 1 + 1 = O at *
  generalize hB : w.heap.size + 1 = R at *
  generalize hC : w.heap.size = A at *
  have hAO : A ≠ O := by omega
  have hRO : R ≠ O := by omega
  have hO : w.heap.size ≤ O := by omega
  have hR : w.heap.size ≤ R := by omega
  have HO := Lib.hid hO
  have HR := Lib.hid hR
  have H1 := Lib.hid hAO
  have H3 := Lib.hid hRO
  clear hA hB hC hO hR hAO hRO
  go_wp2_with (with_reducible refine num_load rfl _ rfl _ rfl _ h0.a rfl ?_)
  go_loopw [7] (fun i wr => ∃ (k : Nat) (g : Nat → Nat), k ≤ 4 ∧ i = .int .i64 k ∧ Acc w wr A A R O x x (cells4 g) ∧ Hid (∀ j, j < k → g j = Nm.wd (Nm.big - 1 - x) j)) (fun i _ => 4 - (intOf i).toNat)
  case atStart => exact ⟨0, fun _ => 0, by omega, rfl, h0, Lib.hid fun j hj => by omega⟩
  case round =>
    obtain ⟨k, g, hk, rfl, hs, HG⟩ := hrel
    by_cases hlt : k < 4
    · have hidx := idx_num x hlt
      have fo := hs.o.free k
      have co := hs.o.word hlt
      have hwl := Nm.wd_lt x k
      have hn := wd_not hx hlt
      generalize Nm.wd x k = v at *
      have HN := Lib.hid hn
      have HW := Lib.hid hwl
      clear hn hwl
      go_wp2_with fail
      rw [xor64 v HW.out, ← HN.out]
      exact ⟨⟨k + 1, _, by omega, by go_num, hs.setWord k (Nm.wd (Nm.big - 1 - x) k) hlt H1.out H1.out H3.out HO.out, upd_next HG⟩, by simp [intOf]; omega⟩
    · obtain rfl : k = 4 := by omega
      have e := cells4_done HG
      rw [e] at hs
      clear e
      go_wp2_with (first
        | (with_reducible refine num_load rfl _ rfl _ rfl _ hs.o rfl ?_)
        | (with_reducible refine num_store rfl _ _ rfl _ _ rfl rfl _ hs.r rfl ?_))
      exact bodyPost_ret (v := .agg (numC (Nm.big - 1 - x))) (num_results Tryd.results50 _ _ _ rfl (hs.r.row _)) rfl ⟨rfl, below_setRow hs.below HR.out _⟩
end Go.Proofs.YtcgnohndfedodaaDoor.NN
namespace Go.Proofs.YtcgnohndfedodaaDoor.NN
open Go.RowKit

end Go.Proofs.YtcgnohndfedodaaDoor.NN
namespace Go.Proofs.YtcgnohndfedodaaDoor.NN
open Go.RowKit

end Go.Proofs.YtcgnohndfedodaaDoor.NN
