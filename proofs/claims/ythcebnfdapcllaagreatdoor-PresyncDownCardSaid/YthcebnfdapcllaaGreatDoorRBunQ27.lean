import Derived.WalkKit
import Derived.WalkSpells
import Derived.WalkLawsBesides
import Derived.Lib.Hide
import Derived.Lib.LazyBuf
import Derived.Lib.BufferWrite
import Derived.Deep.RegionLaw
import Derived.Laws.CopyOwn
import Derived.Laws.Rows
import Derived.Laws.ResultCell
import Derived.Deep.MidRow
import Derived.BigQuiet
import Derived.Deep.QuietTactic
import Derived.BigRegion
import Derived.Deep.RegionHeld3
import Derived.Stop.BytesEq
import Derived.Deep.DeepCutAuto
import Derived.Lib.QuietBelow
import Derived.StillTailTactics
import Derived.Test.YthcebnfdapcllaaGreatDoorRBunQ26
import Derived.Test.YthcebnfdapcllaaGreatDoorRows
namespace Go.Proofs.YthcebnfdapcllaaGreatDoor.NN
open Go.RowKit
def cells4 (f : Nat → Nat) : Array Value := #[.int .u64 (f 0 : Nat), .int .u64 (f 1 : Nat), .int .u64 (f 2 : Nat), .int .u64 (f 3 : Nat)]
def numC (x : Nat) : Array Value := cells4 (Nm.wd x)
def Has (w : World) (b : Nat) (cs : Array Value) (t : TypeId) : Prop := w.heap[b]? = some (.cells cs t (0, 0))
variable {w w' : World}
theorem Has.out {b : Nat} {cs : Array Value} {t : TypeId} (h : Has w b cs t) : w.heap[b]? = some (.cells cs t (0, 0)) := h
theorem Has.cell {b : Nat} {cs : Array Value} {t : TypeId} (h : Has w b cs t) (j : Nat) : w.cell? ⟨b, j, none⟩ = cs[j]? := cell_of_row w b j cs t (0, 0) h
theorem cells4_get (f : Nat → Nat) {j : Nat} (h : j < 4) : (cells4 f)[j]? = some (.int .u64 (f j : Nat)) := by
  rcases Nm.four h with rfl | rfl | rfl | rfl <;> rfl
theorem Has.word {b : Nat} {f : Nat → Nat} {t : TypeId} (h : Has w b (cells4 f) t) {j : Nat} (hj : j < 4) : w.cell? ⟨b, j, none⟩ = some (.int .u64 (f j : Nat)) := (h.cell j).trans (cells4_get f hj)
theorem Has.free {b : Nat} {cs : Array Value} {t : TypeId} (h : Has w b cs t) (j : Nat) : w.frozen? ⟨b, j, none⟩ = false := frozen_of_row w b j cs t h
theorem Has.lt {b : Nat} {cs : Array Value} {t : TypeId} (h : Has w b cs t) : b < w.heap.size := by
  unfold Has at h
  by_cases hb : b < w.heap.size
  · exact hb
  · simp [Array.getElem?_eq_none (by omega : w.heap.size ≤ b)] at h
theorem Has.drew {b : Nat} {cs : Array Value} {t : TypeId} (h : Has w b cs t) : Has w.drew b cs t := h
theorem Has.alloc {b : Nat} {cs : Array Value} {t : TypeId} (h : Has w b cs t) (o : Obj) : Has (w.alloc o) b cs t := (heap_alloc_old w o h.lt).trans h
theorem Has.new (cs : Array Value) (t : TypeId) : Has (w.alloc (.cells cs t)) w.heap.size cs t := heap_alloc_new w _
theorem Has.set {b i : Nat} {cs : Array Value} {t : TypeId} (h : Has w b cs t) (v : Value) : Has (w.setCell ⟨b, i, none⟩ v) b (cs.setIfInBounds i v) t := heap_setCell_same w b i cs t v h
theorem Has.other {b : Nat} {cs : Array Value} {t : TypeId} (h : Has w b cs t) (a : Addr) (v : Value) (ha : b ≠ a.block) : Has (w.setCell a v) b cs t := (heap_setCell_other w a b v ha).trans h
theorem Has.row {b : Nat} {cs : Array Value} {t : TypeId} (h : Has w b cs t) (cs' : Array Value) : Has (w.setRow b cs') b cs' t := setRow_heap w b cs cs' t (0, 0) h
theorem Has.otherRow {b : Nat} {cs : Array Value} {t : TypeId} (h : Has w b cs t) (g : Nat) (cs' : Array Value) (ha : b ≠ g) : Has (w.setRow g cs') b cs t := (setRow_other w g b cs' ha).trans h
theorem Has.below {B : Nat} {b : Nat} {cs : Array Value} {t : TypeId} (h : Has w b cs t) (hb : Below B w w') (hB : b < B) : Has w' b cs t := (hb.block b hB).trans h
theorem Has.on {b : Nat} {cs : Array Value} {t : TypeId} (h : Has w b cs t) (hb : Below w.heap.size w w') : Has w' b cs t := h.below hb h.lt
def upd (f : Nat → Nat) (i : Nat) (x : Nat) : Nat → Nat := fun j => if j = i then x else f j
theorem cells4_set (f : Nat → Nat) (i x : Nat) (hi : i < 4) : (cells4 f).setIfInBounds i (.int .u64 (x : Nat)) = cells4 (upd f i x) := by
  rcases Nm.four hi with rfl | rfl | rfl | rfl <;> rfl
theorem cells4_congr {f g : Nat → Nat} (h : ∀ j, j < 4 → f j = g j) : cells4 f = cells4 g := by
  unfold cells4; rw [h 0 (by omega), h 1 (by omega), h 2 (by omega), h 3 (by omega)]
theorem numC_size (x : Nat) : (numC x).size = 4 := rfl
theorem cells4_one (f : Nat → Nat) : (cells4 f).all (·.oneCell') = true := by simp [cells4, Value.oneCell']
theorem numC_one (x : Nat) : (numC x).all (·.oneCell') = true := cells4_one _
theorem numC_get (x : Nat) {j : Nat} (h : j < 4) : (numC x)[j]? = some (.int .u64 (Nm.wd x j : Nat)) := cells4_get _ h
theorem Has.num {b : Nat} {x : Nat} {t : TypeId} (h : Has w b (numC x) t) {j : Nat} (hj : j < 4) : w.cell? ⟨b, j, none⟩ = some (.int .u64 (Nm.wd x j : Nat)) := (h.cell j).trans (numC_get x hj)
theorem Has.new1 (o : Obj) (cs : Array Value) (t : TypeId) : Has ((w.alloc o).alloc (.cells cs t)) (w.heap.size + 1) cs t := by
  have := Has.new (w := w.alloc o) cs t
  rwa [World.size_alloc] at this
theorem Has.new2 (o o' : Obj) (cs : Array Value) (t : TypeId) : Has (((w.alloc o).alloc o').alloc (.cells cs t)) (w.heap.size + 1 + 1) cs t := by
  have := Has.new (w := (w.alloc o).alloc o') cs t
  rwa [World.size_alloc, World.size_alloc] at this
theorem Has.new3 (o o' o'' : Obj) (cs : Array Value) (t : TypeId) : Has ((((w.alloc o).alloc o').alloc o'').alloc (.cells cs t)) (w.heap.size + 1 + 1 + 1) cs t := by
  have := Has.new (w := ((w.alloc o).alloc o').alloc o'') cs t
  rwa [World.size_alloc, World.size_alloc, World.size_alloc] at this
theorem zero4 : (#[.int .u64 0, .int .u64 0, .int .u64 0, .int .u64 0] : Array Value) = numC 0 := rfl
theorem Has.newz (t : TypeId) : Has (w.alloc (.cells #[.int .u64 0, .int .u64 0, .int .u64 0, .int .u64 0] t)) w.heap.size (numC 0) t := Has.new (numC 0) t
theorem infoNum : (Tryz.prog.info? 26).map (·.size) = some 4 := by kernel_rfl
section
variable {ops : Array Oper} {rest : List Oper} {o : Oper} {a : Act} {Q : Exit → Act → World → Prop}
theorem num_load (hgd : o.guard = none) (x : Operand) (ho : o.op = .load 26 x) (g : Nat) (hx : a.eval x = .pointer (some ⟨g, 0, none⟩)) (cs : Array Value) (hg : Has w g cs 26) (hs : cs.size = 4)
    (h : wpList Tryz.prog ops Q rest (a.put o.dst (.agg cs)) w) : wpList Tryz.prog ops Q (o :: rest) a w :=
  wpList_load_row hgd 26 x ho g hx 26 cs (0, 0) _ hg.out Tryz.underlying26 rfl (infoNum.trans (by rw [hs])) h
theorem num_store (hgd : o.guard = none) (x y : Operand) (ho : o.op = .store 26 x y) (g : Nat) (z : Nat) (hx : a.eval x = .pointer (some ⟨g, 0, none⟩)) (hy : a.eval y = .agg (numC z)) (cs : Array Value) (hg : Has w g cs 26) (hs : cs.size = 4)
    (h : wpList Tryz.prog ops Q rest (a.put o.dst undef) (w.setRow g (numC z))) : wpList Tryz.prog ops Q (o :: rest) a w :=
  wpList_store_row hgd 26 x y ho g (numC z) hx hy 26 cs hg.out infoNum hs (numC_one z) h
end
theorem num_results {fn : Func} {p : Tmp} (h : fn.results = #[.cell p 26]) (tmps : Array Value) (g x : Nat) (hp : tmps.getD p undef = .pointer (some ⟨g, 0, none⟩)) (hg : Has w g (numC x) 26) :
    (results fn tmps).run Tryz.prog w = .ok (.agg (numC x)) w :=
  results_cell_row h tmps w g 26 (numC x) (0, 0) _ hp hg.out Tryz.underlying26 rfl infoNum
theorem num_results2 {fn : Func} {p u : Tmp} (h : fn.results = #[.cell p 26, .tmp u]) (tmps : Array Value) (g x : Nat) (v : Value) (hp : tmps.getD p undef = .pointer (some ⟨g, 0, none⟩)) (hv : tmps.getD u undef = v) (hg : Has w g (numC x) 26) :
    (results fn tmps).run Tryz.prog w = .ok (.tuple #[.agg (numC x), v]) w := by
  rw [results_cell_tmp h, hp, hv]
  have hl : (loadVar 26 ⟨g, 0, none⟩).run Tryz.prog w = .ok (.agg (numC x)) w := run_loadVar_row w g 26 26 (numC x) (0, 0) _ hg.out Tryz.underlying26 rfl infoNum
  simp [asAddr, hl, Result.andThen]
theorem Has.regrown {b : Nat} {cs : Array Value} {t : TypeId} (h : Has w b cs t) (d : Nat) (os : Array Obj) : Has (Sort.grow (redrawn w d) os) b cs t := h.on (below_regrown w d os)
theorem Has.cls {b : Nat} {cs : Array Value} {t : TypeId} (h : Has w b cs t) : ∀ w', (∃ p : Regrown, w' = Sort.grow (redrawn w p.d) p.os) → Has w' b cs t := by
  rintro w' ⟨p, rfl⟩
  exact h.regrown _ _
theorem quiet_load_num {C : World → Prop} {a : Act} {o : Oper} {K : Act → Prop} (x : Operand) (ho : o.op = .load 26 x) (g : Nat) (hx : a.eval x = .pointer (some ⟨g, 0, none⟩)) (z : Nat) (hC : ∀ w', C w' → Has w' g (numC z) 26)
    (hk : K (a.put o.dst (.agg (numC z)))) : o.quiet Tryz.prog a C K :=
  ⟨_, fun w' hw' => by
    unfold Oper.quietAt
    have hl : (loadVar 26 ⟨g, 0, none⟩).run Tryz.prog w' = .ok (.agg (numC z)) w' := run_loadVar_row w' g 26 26 (numC z) (0, 0) _ (hC w' hw').out Tryz.underlying26 rfl infoNum
    have : (execOp a.eval o).run Tryz.prog w' = .ok (.value (.agg (numC z))) w' := by
      unfold execOp
      simp only [ho, hx, Instr.loadAt, Instr.sureAddr, Sem.run_bind, Sem.run_pure, Result.andThen_ok, hl]
    rw [this]
    exact ⟨rfl, rfl⟩, hk⟩
structure Acc (w wr : World) (A B R O x y : Nat) (cs : Array Value) : Prop where
  below : Below w.heap.size w wr
  a : Has wr A (numC x) 26
  b : Has wr B (numC y) 26
  r : Has wr R (numC 0) 26
  o : Has wr O cs 26
theorem Acc.on {w wr w' : World} {A B R O x y : Nat} {cs : Array Value} (h : Acc w wr A B R O x y cs) (hb : Below wr.heap.size wr w') : Acc w w' A B R O x y cs :=
  ⟨h.below.trans (hb.mono h.below.size), h.a.on hb, h.b.on hb, h.r.on hb, h.o.on hb⟩
theorem Acc.drew {w wr : World} {A B R O x y : Nat} {cs : Array Value} (h : Acc w wr A B R O x y cs) : Acc w wr.drew A B R O x y cs := h.on (Below.refl _ _).drew
theorem Acc.put {w wr : World} {A B R O x y : Nat} {cs : Array Value} (h : Acc w wr A B R O x y cs) (cs' : Array Value) (hA : A ≠ O) (hB : B ≠ O) (hR : R ≠ O) (hO : w.heap.size ≤ O) : Acc w (wr.setRow O cs') A B R O x y cs' :=
  ⟨below_setRow h.below hO _, h.a.otherRow _ _ hA, h.b.otherRow _ _ hB, h.r.otherRow _ _ hR, h.o.row _⟩
theorem Acc.set {w wr : World} {A B R O x y : Nat} {cs : Array Value} (h : Acc w wr A B R O x y cs) (i : Nat) (v : Value) (hA : A ≠ O) (hB : B ≠ O) (hR : R ≠ O) (hO : w.heap.size ≤ O) : Acc w (wr.setCell ⟨O, i, none⟩ v) A B R O x y (cs.setIfInBounds i v) :=
  ⟨h.below.setCell hO _, h.a.other _ _ hA, h.b.other _ _ hB, h.r.other _ _ hR, h.o.set _⟩
theorem Acc.start (w : World) (x y : Nat) (cs : Array Value) : Acc w ((((w.alloc (.cells (numC x) 26)).alloc (.cells (numC y) 26)).alloc (.cells (numC 0) 26)).alloc (.cells cs 26)) w.heap.size (w.heap.size + 1) (w.heap.size + 1 + 1) (w.heap.size + 1 + 1 + 1) x y cs :=
  ⟨((((Below.refl _ _).alloc (Nat.le_refl _) _).alloc (by simp) _).alloc (by simp; omega) _).alloc (by simp; omega) _, (((Has.new _ _).alloc _).alloc _).alloc _, ((Has.new1 _ _ _).alloc _).alloc _, (Has.new2 _ _ _ _).alloc _, Has.new3 _ _ _ _ _⟩
theorem Acc.setWord {w wr : World} {A B R O x y : Nat} {g : Nat → Nat} (h : Acc w wr A B R O x y (cells4 g)) (i v : Nat) (hi : i < 4) (hA : A ≠ O) (hB : B ≠ O) (hR : R ≠ O) (hO : w.heap.size ≤ O) : Acc w (wr.setCell ⟨O, i, none⟩ (.int .u64 (v : Nat))) A B R O x y (cells4 (upd g i v)) := by
  rw [← cells4_set g i v hi]; exact h.set i _ hA hB hR hO
theorem upd_next {g : Nat → Nat} {k : Nat} {f : Nat → Nat} (h : Hid (∀ j, j < k → g j = f j)) : Hid (∀ j, j < k + 1 → upd g k (f k) j = f j) := Lib.hid fun j hj => by
  unfold upd
  split
  · rename_i e; rw [e]
  · exact h.out j (by omega)
theorem cells4_done {g : Nat → Nat} {x : Nat} (h : Hid (∀ j, j < 4 → g j = Nm.wd x j)) : cells4 g = numC x := cells4_congr h.out
theorem numC_mod (x : Nat) : numC (x % Nm.big) = numC x := cells4_congr fun _ hj => Nm.wd_mod x hj
end Go.Proofs.YthcebnfdapcllaaGreatDoor.NN
namespace Go.Proofs.YthcebnfdapcllaaGreatDoor.NN
open Go.RowKit
theorem bitI (x i : Nat) : wrap64 ((((Nm.wd x (i / 64) : Nat) : Int) / 2 ^ (i % 64)).tmod 2) = (Nm.bit x i : Nat) := by
  have e : ((Nm.wd x (i / 64) : Nat) : Int) / 2 ^ (i % 64) = ((Nm.wd x (i / 64) / 2 ^ (i % 64) : Nat) : Int) := by simp
  rw [e, ← Nm.bit_wd]
  generalize Nm.wd x (i / 64) / 2 ^ (i % 64) = k
  rw [Int.tmod_eq_emod_of_nonneg (by omega)]
  unfold wrap64
  omega
set_option maxRecDepth 100000 in
set_option maxHeartbeats 400000 in
theorem ref_bit (x i : Nat) (hi : i < 256) (w : World) :
    Calls Tryz.prog 51 #[.agg (numC x), .int .i64 (i : Int)] w fun e w' => e = .returned (.int .i64 (Nm.bit x i : Nat)) ∧ Below w.heap.size w w' := by
  have hH : Has (w.alloc (.cells (numC x) 26)) w.heap.size (numC x) 26 := Has.new _ _
  have hc := hH.num (j := i / 64) (by omega)
  have HB := Lib.hid (bitI x i)
  go_enter Tryz.func51, Tryz.ntmps51
  go_wp2_with fail
  go_ret
  exact ⟨congrArg Ending.returned (by rw [HB.out]; rfl), (Below.refl _ _).alloc (Nat.le_refl _) _⟩
theorem wrap_pow (m : Nat) (hm : m < 64) : IntKind.u64.wrap (2 ^ m) = ((2 ^ m : Nat) : Int) := by
  have h : ((2 : Int) ^ m) = ((2 ^ m : Nat) : Int) := by simp
  have h2 : 2 ^ m < 2 ^ 64 := Nat.pow_lt_pow_right (by decide) hm
  rw [h, IntKind.wrap_u64]
  generalize 2 ^ m = k at h2
  omega
theorem or64 (x y : Nat) (hx : x < 18446744073709551616) (hy : y < 18446744073709551616) : bits .or .u64 (x : Int) (y : Int) = ((x ||| y : Nat) : Int) := by
  have h : x ||| y < 2 ^ 64 := Nat.or_lt_two_pow hx hy
  show IntKind.u64.wrap ((BitVec.ofInt 64 (x : Int) ||| BitVec.ofInt 64 (y : Int)).toNat : Int) = _
  rw [BitVec.ofInt_natCast, BitVec.ofInt_natCast, BitVec.toNat_or, BitVec.toNat_ofNat, BitVec.toNat_ofNat, Nat.mod_eq_of_lt hx, Nat.mod_eq_of_lt hy, IntKind.wrap_u64]
  omega
theorem numC_or (x i : Nat) (hi : i < 256) : (numC x).setIfInBounds (i / 64) (.int .u64 (bits .or .u64 ((Nm.wd x (i / 64) : Nat) : Int) (IntKind.u64.wrap (2 ^ (i % 64))))) = numC (x ||| 2 ^ i) := by
  have hm : i % 64 < 64 := Nat.mod_lt _ (by decide)
  have h2 : 2 ^ (i % 64) < 2 ^ 64 := Nat.pow_lt_pow_right (by decide) hm
  rw [wrap_pow _ hm, or64 _ _ (Nm.wd_lt _ _) (by simpa using h2)]
  unfold numC
  rw [cells4_set _ _ _ (by omega)]
  apply cells4_congr
  intro j hj
  rw [Nm.wd_or x i j]
  unfold upd
  split
  · rename_i h; rw [h]
  · rfl
set_option maxRecDepth 100000 in
set_option maxHeartbeats 400000 in
theorem ref_set (x i : Nat) (hi : i < 256) (w : World) :
    Calls Tryz.prog 52 #[.agg (numC x), .int .i64 (i : Int)] w fun e w' => e = .returned (.agg (numC (x ||| 2 ^ i))) ∧ Below w.heap.size w w' := by
  go_enter Tryz.func52, Tryz.ntmps52
  go_upto_region 1 with fail
  generalize hw1 : World.alloc _ _ = w1
  have hb : Below w.heap.size w w1 := by rw [← hw1]; exact ((Below.refl _ _).alloc (Nat.le_refl _) _).alloc (by simp) _
  have hA : Has w1 w.heap.size (numC x) 26 := by rw [← hw1]; exact (Has.new _ _).alloc _
  have hR : Has w1 (w.heap.size + 1) (numC 0) 26 := by rw [← hw1]; exact Has.new1 _ _ _
  clear hw1
  have c1 := hA.num (j := i / 64) (by omega)
  have f1 := hA.free (i / 64)
  have hA2 : Has (w1.setCell ⟨w.heap.size, i / 64, none⟩ (.int .u64 (bits .or .u64 ((Nm.wd x (i / 64) : Nat) : Int) (IntKind.u64.wrap (2 ^ (i % 64)))))) w.heap.size (numC (x ||| 2 ^ i)) 26 := by
    rw [← numC_or x i hi]; exact hA.set _
  have hR2 := hR.other ⟨w.heap.size, i / 64, none⟩ (.int .u64 (bits .or .u64 ((Nm.wd x (i / 64) : Nat) : Int) (IntKind.u64.wrap (2 ^ (i % 64))))) (by simp)
  go_wp2_with (first
    | (with_reducible refine num_load rfl _ rfl _ rfl _ hA2 rfl ?_)
    | (with_reducible refine num_store rfl _ _ rfl _ _ rfl rfl _ hR2 rfl ?_))
  exact bodyPost_ret (v := .agg (numC (x ||| 2 ^ i))) (num_results Tryz.results52 _ _ _ rfl (hR2.row _)) rfl ⟨rfl, below_setRow (hb.setCell (by simp) _) (by omega) _⟩
end Go.Proofs.YthcebnfdapcllaaGreatDoor.NN
namespace Go.Proofs.YthcebnfdapcllaaGreatDoor.NN
open Go.RowKit
theorem Acc.start1 (w : World) (x : Nat) (cs : Array Value) : Acc w (((w.alloc (.cells (numC x) 26)).alloc (.cells (numC 0) 26)).alloc (.cells cs 26)) w.heap.size w.heap.size (w.heap.size + 1) (w.heap.size + 1 + 1) x x cs :=
  ⟨(((Below.refl _ _).alloc (Nat.le_refl _) _).alloc (by simp) _).alloc (by simp; omega) _, ((Has.new _ _).alloc _).alloc _, ((Has.new _ _).alloc _).alloc _, (Has.new1 _ _ _).alloc _, Has.new2 _ _ _ _⟩
structure Two (w wr : World) (A B x y : Nat) : Prop where
  below : Below w.heap.size w wr
  a : Has wr A (numC x) 26
  b : Has wr B (numC y) 26
theorem Two.on {w wr w' : World} {A B x y : Nat} (h : Two w wr A B x y) (hb : Below wr.heap.size wr w') : Two w w' A B x y :=
  ⟨h.below.trans (hb.mono h.below.size), h.a.on hb, h.b.on hb⟩
theorem Two.start (w : World) (x y : Nat) : Two w ((w.alloc (.cells (numC x) 26)).alloc (.cells (numC y) 26)) w.heap.size (w.heap.size + 1) x y :=
  ⟨((Below.refl _ _).alloc (Nat.le_refl _) _).alloc (by simp) _, (Has.new _ _).alloc _, Has.new1 _ _ _⟩
end Go.Proofs.YthcebnfdapcllaaGreatDoor.NN
namespace Go.Proofs.YthcebnfdapcllaaGreatDoor.NN
open Go.RowKit
theorem upW (a N : Nat) : IntKind.u64.wrap ((a : Int) * 2 ^ N) = ((a <<< N % 18446744073709551616 : Nat) : Int) := by
  have e : (a : Int) * 2 ^ N = ((a <<< N : Nat) : Int) := by rw [Nat.shiftLeft_eq]; simp
  rw [e, IntKind.wrap_u64]; omega
theorem upOr (u b M : Nat) (hu : u < 18446744073709551616) (hb : b < 18446744073709551616) : bits .or .u64 (u : Int) ((b : Int) / 2 ^ M) = ((u ||| b >>> M : Nat) : Int) := by
  have e : (b : Int) / 2 ^ M = ((b >>> M : Nat) : Int) := by rw [Nat.shiftRight_eq_div_pow]; simp
  rw [e, or64 u _ hu (by rw [Nat.shiftRight_eq_div_pow]; exact Nat.lt_of_le_of_lt (Nat.div_le_self _ _) hb)]
theorem upd2 (g : Nat → Nat) (k a b : Nat) : upd (upd g k a) k b = upd g k b := by
  funext j
  unfold upd
  split <;> rfl
def FromTop (x n k : Nat) (g : Nat → Nat) : Prop := (∀ j, k < j → j < 4 → g j = Nm.wd (Nm.up x n) j) ∧ ∀ j, j ≤ k → g j = 0
theorem FromTop.next {x n k : Nat} {g : Nat → Nat} (h : Hid (FromTop x n k g)) (hk : 0 < k) : Hid (FromTop x n (k - 1) (upd g k (Nm.wd (Nm.up x n) k))) := Lib.hid ⟨fun j h1 h2 => by
    unfold upd
    split
    · rename_i e; rw [e]
    · exact h.out.1 j (by omega) h2, fun j h1 => by
    unfold upd
    rw [if_neg (by omega)]; exact h.out.2 j (by omega)⟩
theorem FromTop.last {x n : Nat} {g : Nat → Nat} (h : Hid (FromTop x n 0 g)) : Hid (∀ j, j < 4 → upd g 0 (Nm.wd (Nm.up x n) 0) j = Nm.wd (Nm.up x n) j) := Lib.hid fun j h2 => by
    unfold upd
    split
    · rename_i e; rw [e]
    · exact h.out.1 j (by omega) h2
theorem FromTop.done {x n k : Nat} {g : Nat → Nat} (h : Hid (FromTop x n k g)) (hn : k < n / 64) : Hid (∀ j, j < 4 → g j = Nm.wd (Nm.up x n) j) := Lib.hid fun j h2 => by
    by_cases hj : k < j
    · exact h.out.1 j hj h2
    · rw [h.out.2 j (by omega), Nm.wd_up_none x n j h2 (by omega)]
set_option maxRecDepth 100000 in
set_option maxHeartbeats 1000000 in
theorem up_pos (x n : Nat) (hx : x < Nm.big) (hn : 0 < n) (hm : n ≤ 9223372036854775807) (w : World) :
    Calls Tryz.prog 134 #[.agg (numC x), .int .i64 (n : Int)] w fun e w' => e = .returned (.agg (numC (Nm.up x n))) ∧ Below w.heap.size w w' := by
  go_enter Tryz.func134, Tryz.ntmps134
  go_upto_region 1 with fail
  generalize hw1 : World.alloc _ _ = w1
  have hbel : Below w.heap.size w w1 := by rw [← hw1]; exact ((Below.refl _ _).alloc (Nat.le_refl _) _).alloc (by simp) _
  have hA : Has w1 w.heap.size (numC x) 26 := by rw [← hw1]; exact (Has.new _ _).alloc _
  have hR : Has w1 (w.heap.size + 1) (numC 0) 26 := by rw [← hw1]; exact Has.new1 _ (numC 0) _
  clear hw1
  go_wp2_with fail
  generalize hw2 : World.alloc _ _ = w2
  have h0 : Acc w w2 w.heap.size w.heap.size (w.heap.size + 1) w1.heap.size x x (cells4 fun _ => 0) := by
    rw [← hw2]; exact ⟨hbel.alloc hbel.size _, hA.alloc _, hA.alloc _, hR.alloc _, Has.new _ _⟩
  have hs := hbel.size
  have hsR := hR.lt
  clear hw2 hbel hA hR
  generalize hB : w1.heap.size = O at *
  generalize hC : w.heap.size + 1 = R at *
  generalize hD : w.heap.size = A at *
  have HO : Hid (w.heap.size ≤ O) := Lib.hid (by omega)
  have HR : Hid (w.heap.size ≤ R) := Lib.hid (by omega)
  have H1 : Hid (A ≠ O) := Lib.hid (by omega)
  have H3 : Hid (R ≠ O) := Lib.hid (by omega)
  clear hB hC hD hs hsR
  obtain ⟨F, hF⟩ : ∃ F, F = n / 64 := ⟨_, rfl⟩
  obtain ⟨N, hN⟩ : ∃ N, N = n % 64 := ⟨_, rfl⟩
  have eF : (n : Int) / 64 = (F : Int) := by omega
  have eN : (n : Int) % 64 = (N : Int) := by omega
  rw [eF, eN]
  have hNl : N < 64 := by omega
  have HF := Lib.hid hF
  have HN := Lib.hid hN
  have HX := Lib.hid hx
  clear hF hN eF eN hm hx
  go_loopw [8] (fun i wr => ∃ g : Nat → Nat, Acc w wr A A R O x x (cells4 g) ∧ ((∃ k : Nat, k ≤ 3 ∧ i = .int .i64 k ∧ Hid (FromTop x n k g)) ∨ (i = .int .i64 (-1) ∧ Hid (∀ j, j < 4 → g j = Nm.wd (Nm.up x n) j)))) (fun i _ => (intOf i + 1).toNat)
  case atStart => exact ⟨_, h0, .inl ⟨3, by omega, rfl, Lib.hid ⟨fun j h1 h2 => by omega, fun _ _ => rfl⟩⟩⟩
  case round =>
    obtain ⟨g, hs, ⟨k, hk, rfl, HG⟩ | ⟨rfl, HG⟩⟩ := hrel
    · by_cases hlt : F < k
      · have hv := Nm.wd_up x n k (by omega) (by rw [← HF.out]; exact hlt)
        rw [← HF.out, ← HN.out] at hv
        have c1 := hs.a.num (j := k - F) (by omega)
        have c2 := hs.a.num (j := k - F - 1) (by omega)
        have co := hs.o.word (j := k) (by omega)
        have fo := hs.o.free k
        have HV := Lib.hid hv
        have hset : ∀ v1 v2 : Nat, Acc w ((wr.setCell ⟨O, k, none⟩ (.int .u64 (v1 : Nat))).setCell ⟨O, k, none⟩ (.int .u64 (v2 : Nat))).drew A A R O x x (cells4 (upd g k v2)) := fun v1 v2 => by
          rw [← upd2 g k v1 v2]
          exact ((hs.setWord k v1 (by omega) H1.out H1.out H3.out HO.out).setWord k v2 (by omega) H1.out H1.out H3.out HO.out).drew
        have HSET := Lib.hid hset
        clear hv hset
        obtain ⟨rfl, rfl⟩ | ⟨rfl, rfl⟩ | ⟨rfl, rfl⟩ | ⟨rfl, rfl⟩ | ⟨rfl, rfl⟩ | ⟨rfl, rfl⟩ : (F = 0 ∧ k = 1) ∨ (F = 0 ∧ k = 2) ∨ (F = 0 ∧ k = 3) ∨ (F = 1 ∧ k = 2) ∨ (F = 1 ∧ k = 3) ∨ (F = 2 ∧ k = 3) := by omega
        all_goals
          go_wp2_with fail
          go_region
          have e := HV.out
          simp only [Nat.reduceSub] at e
          rw [upW, upOr _ _ _ (Nat.mod_lt _ (by decide)) (Nm.wd_lt _ _), ← e]
          clear e c1 c2 co fo
          go_wp2_with fail
          go_roundw
          case rel => exact ⟨_, HSET.out _ _, .inl ⟨_, by decide, rfl, FromTop.next HG (by decide)⟩⟩
          case measure => decide
      · by_cases heq : F = k
        · have hv := Nm.wd_up_low x n k (by omega) (by rw [← HF.out]; exact heq)
          rw [← HF.out, ← HN.out] at hv
          have c1 := hs.a.num (j := k - F) (by omega)
          have co := hs.o.word (j := k) (by omega)
          have fo := hs.o.free k
          have HV := Lib.hid hv
          have hset : ∀ v : Nat, Acc w (wr.setCell ⟨O, k, none⟩ (.int .u64 (v : Nat))) A A R O x x (cells4 (upd g k v)) := fun v => hs.setWord k v (by omega) H1.out H1.out H3.out HO.out
          have HSET := Lib.hid hset
          clear hv hset
          obtain ⟨rfl, rfl⟩ | ⟨rfl, rfl⟩ | ⟨rfl, rfl⟩ | ⟨rfl, rfl⟩ : (F = 0 ∧ k = 0) ∨ (F = 1 ∧ k = 1) ∨ (F = 2 ∧ k = 2) ∨ (F = 3 ∧ k = 3) := by omega
          all_goals
            go_wp2_with fail
            have e := HV.out
            simp only [Nat.reduceSub] at e
            rw [upW, ← e]
            first
              | exact ⟨⟨_, HSET.out _, .inl ⟨_, by decide, rfl, FromTop.next HG (by decide)⟩⟩, by decide⟩
              | exact ⟨⟨_, HSET.out _, .inr ⟨rfl, FromTop.last HG⟩⟩, by decide⟩
        · have hlt2 : k < F := by omega
          have HD := FromTop.done HG (by rw [← HF.out]; exact hlt2)
          have e := cells4_done HD
          rw [e] at hs
          clear e
          go_wp2_with (first
            | (with_reducible refine num_load rfl _ rfl _ rfl _ hs.o rfl ?_)
            | (with_reducible refine num_store rfl _ _ rfl _ _ rfl rfl _ hs.r rfl ?_))
          exact bodyPost_ret (v := .agg (numC (Nm.up x n))) (num_results Tryz.results134 _ _ _ rfl (hs.r.row _)) rfl ⟨rfl, below_setRow hs.below HR.out _⟩
    · have e := cells4_done HG
      rw [e] at hs
      clear e
      go_wp2_with (first
        | (with_reducible refine num_load rfl _ rfl _ rfl _ hs.o rfl ?_)
        | (with_reducible refine num_store rfl _ _ rfl _ _ rfl rfl _ hs.r rfl ?_))
      exact bodyPost_ret (v := .agg (numC (Nm.up x n))) (num_results Tryz.results134 _ _ _ rfl (hs.r.row _)) rfl ⟨rfl, below_setRow hs.below HR.out _⟩
end Go.Proofs.YthcebnfdapcllaaGreatDoor.NN
namespace Go.Proofs.YthcebnfdapcllaaGreatDoor.NN
open Go.RowKit
theorem downOr (a b N M : Nat) (ha : a < 18446744073709551616) : bits .or .u64 ((a : Int) / 2 ^ N) (IntKind.u64.wrap ((b : Int) * 2 ^ M)) = ((a >>> N ||| b <<< M % 18446744073709551616 : Nat) : Int) := by
  have e : (a : Int) / 2 ^ N = ((a >>> N : Nat) : Int) := by rw [Nat.shiftRight_eq_div_pow]; simp
  rw [e, upW, or64 _ _ (by rw [Nat.shiftRight_eq_div_pow]; exact Nat.lt_of_le_of_lt (Nat.div_le_self _ _) ha) (Nat.mod_lt _ (by decide))]
theorem downW (a N : Nat) : (a : Int) / 2 ^ N = ((a >>> N : Nat) : Int) := by rw [Nat.shiftRight_eq_div_pow]; simp
def FromLow (x n k : Nat) (g : Nat → Nat) : Prop := (∀ j, j < k → g j = Nm.wd (Nm.down x n) j) ∧ ∀ j, k ≤ j → g j = 0
theorem FromLow.next {x n k : Nat} {g : Nat → Nat} (h : Hid (FromLow x n k g)) : Hid (FromLow x n (k + 1) (upd g k (Nm.wd (Nm.down x n) k))) := Lib.hid ⟨fun j h1 => by
    unfold upd
    split
    · rename_i e; rw [e]
    · exact h.out.1 j (by omega), fun j h1 => by
    unfold upd
    rw [if_neg (by omega)]; exact h.out.2 j (by omega)⟩
theorem FromLow.done {x n k : Nat} {g : Nat → Nat} (hx : x < Nm.big) (h : Hid (FromLow x n k g)) (hn : 4 ≤ k + n / 64) : Hid (∀ j, j < 4 → g j = Nm.wd (Nm.down x n) j) := Lib.hid fun j _ => by
    by_cases hj : j < k
    · exact h.out.1 j hj
    · rw [h.out.2 j (by omega), Nm.wd_down_none hx n j (by omega)]
set_option maxRecDepth 100000 in
set_option maxHeartbeats 1000000 in
theorem down_pos (x n : Nat) (hx : x < Nm.big) (hn : 0 < n) (hm : n ≤ 9223372036854775807) (w : World) :
    Calls Tryz.prog 133 #[.agg (numC x), .int .i64 (n : Int)] w fun e w' => e = .returned (.agg (numC (Nm.down x n))) ∧ Below w.heap.size w w' := by
  go_enter Tryz.func133, Tryz.ntmps133
  go_upto_region 1 with fail
  generalize hw1 : World.alloc _ _ = w1
  have hbel : Below w.heap.size w w1 := by rw [← hw1]; exact ((Below.refl _ _).alloc (Nat.le_refl _) _).alloc (by simp) _
  have hA : Has w1 w.heap.size (numC x) 26 := by rw [← hw1]; exact (Has.new _ _).alloc _
  have hR : Has w1 (w.heap.size + 1) (numC 0) 26 := by rw [← hw1]; exact Has.new1 _ (numC 0) _
  clear hw1
  go_wp2_with fail
  generalize hw2 : World.alloc _ _ = w2
  have h0 : Acc w w2 w.heap.size w.heap.size (w.heap.size + 1) w1.heap.size x x (cells4 fun _ => 0) := by
    rw [← hw2]; exact ⟨hbel.alloc hbel.size _, hA.alloc _, hA.alloc _, hR.alloc _, Has.new _ _⟩
  have hs := hbel.size
  have hsR := hR.lt
  clear hw2 hbel hA hR
  generalize hB : w1.heap.size = O at *
  generalize hC : w.heap.size + 1 = R at *
  generalize hD : w.heap.size = A at *
  have HO : Hid (w.heap.size ≤ O) := Lib.hid (by omega)
  have HR : Hid (w.heap.size ≤ R) := Lib.hid (by omega)
  have H1 : Hid (A ≠ O) := Lib.hid (by omega)
  have H3 : Hid (R ≠ O) := Lib.hid (by omega)
  clear hB hC hD hs hsR
  obtain ⟨F, hF⟩ : ∃ F, F = n / 64 := ⟨_, rfl⟩
  obtain ⟨N, hN⟩ : ∃ N, N = n % 64 := ⟨_, rfl⟩
  have eF : (n : Int) / 64 = (F : Int) := by omega
  have eN : (n : Int) % 64 = (N : Int) := by omega
  rw [eF, eN]
  have hNl : N < 64 := by omega
  have hFl : F ≤ 144115188075855872 := by omega
  have HF := Lib.hid hF
  have HN := Lib.hid hN
  have HX := Lib.hid hx
  clear hF hN eF eN hm hx
  go_loopw [8] (fun i wr => ∃ (k : Nat) (g : Nat → Nat), k ≤ 4 ∧ i = .int .i64 k ∧ Acc w wr A A R O x x (cells4 g) ∧ Hid (FromLow x n k g)) (fun i _ => 4 - (intOf i).toNat)
  case atStart => exact ⟨0, _, by omega, rfl, h0, Lib.hid ⟨fun j h1 => by omega, fun _ _ => rfl⟩⟩
  case round =>
    obtain ⟨k, g, hk, rfl, hs, HG⟩ := hrel
    by_cases hlt : k + F + 1 < 4
    · have hv := Nm.wd_down x n k
      rw [← HF.out, ← HN.out] at hv
      have c1 := hs.a.num (j := k + F) (by omega)
      have c2 := hs.a.num (j := k + F + 1) (by omega)
      have co := hs.o.word (j := k) (by omega)
      have fo := hs.o.free k
      have HV := Lib.hid hv
      have hset : ∀ v1 v2 : Nat, Acc w ((wr.setCell ⟨O, k, none⟩ (.int .u64 (v1 : Nat))).setCell ⟨O, k, none⟩ (.int .u64 (v2 : Nat))).drew A A R O x x (cells4 (upd g k v2)) := fun v1 v2 => by
        rw [← upd2 g k v1 v2]
        exact ((hs.setWord k v1 (by omega) H1.out H1.out H3.out HO.out).setWord k v2 (by omega) H1.out H1.out H3.out HO.out).drew
      have HSET := Lib.hid hset
      clear hv hset
      obtain ⟨rfl, rfl⟩ | ⟨rfl, rfl⟩ | ⟨rfl, rfl⟩ | ⟨rfl, rfl⟩ | ⟨rfl, rfl⟩ | ⟨rfl, rfl⟩ : (F = 0 ∧ k = 0) ∨ (F = 0 ∧ k = 1) ∨ (F = 0 ∧ k = 2) ∨ (F = 1 ∧ k = 0) ∨ (F = 1 ∧ k = 1) ∨ (F = 2 ∧ k = 0) := by omega
      all_goals
        go_wp2_with fail
        go_region
        have e := HV.out
        simp only [Nat.reduceAdd] at e
        rw [downOr _ _ _ _ (Nm.wd_lt _ _), downW, ← e]
        clear e c1 c2 co fo
        go_wp2_with fail
        go_roundw
        case rel => exact ⟨_, _, by decide, rfl, HSET.out _ _, FromLow.next HG⟩
        case measure => decide
    · by_cases heq : k + F = 3
      · have hv := Nm.wd_down_top HX.out n k (by rw [← HF.out]; exact heq)
        rw [← HF.out, ← HN.out] at hv
        have c1 := hs.a.num (j := k + F) (by omega)
        have co := hs.o.word (j := k) (by omega)
        have fo := hs.o.free k
        have HV := Lib.hid hv
        have hset : ∀ v : Nat, Acc w (wr.setCell ⟨O, k, none⟩ (.int .u64 (v : Nat))) A A R O x x (cells4 (upd g k v)) := fun v => hs.setWord k v (by omega) H1.out H1.out H3.out HO.out
        have HSET := Lib.hid hset
        clear hv hset
        obtain ⟨rfl, rfl⟩ | ⟨rfl, rfl⟩ | ⟨rfl, rfl⟩ | ⟨rfl, rfl⟩ : (F = 0 ∧ k = 3) ∨ (F = 1 ∧ k = 2) ∨ (F = 2 ∧ k = 1) ∨ (F = 3 ∧ k = 0) := by omega
        all_goals
          go_wp2_with fail
          have e := HV.out
          simp only [Nat.reduceAdd] at e
          rw [downW, ← e]
          exact ⟨⟨_, _, by decide, rfl, HSET.out _, FromLow.next HG⟩, by decide⟩
      · have hge : 4 ≤ k + F := by omega
        have HD := FromLow.done HX.out HG (by rw [← HF.out]; exact hge)
        have e := cells4_done HD
        rw [e] at hs
        clear e
        go_wp2_with (first
          | (with_reducible refine num_load rfl _ rfl _ rfl _ hs.o rfl ?_)
          | (with_reducible refine num_store rfl _ _ rfl _ _ rfl rfl _ hs.r rfl ?_))
        exact bodyPost_ret (v := .agg (numC (Nm.down x n))) (num_results Tryz.results133 _ _ _ rfl (hs.r.row _)) rfl ⟨rfl, below_setRow hs.below HR.out _⟩
set_option maxRecDepth 100000 in
theorem up_neg (x : Nat) (n : Int) (hn : n ≤ 0) (w : World) :
    Calls Tryz.prog 134 #[.agg (numC x), .int .i64 n] w fun e w' => e = .returned (.agg (numC x)) ∧ Below w.heap.size w w' := by
  go_enter Tryz.func134, Tryz.ntmps134
  go_upto_region 1 with fail
  generalize hw1 : World.alloc _ _ = w1
  have hbel : Below w.heap.size w w1 := by rw [← hw1]; exact ((Below.refl _ _).alloc (Nat.le_refl _) _).alloc (by simp) _
  have hA : Has w1 w.heap.size (numC x) 26 := by rw [← hw1]; exact (Has.new _ _).alloc _
  have hR : Has w1 (w.heap.size + 1) (numC 0) 26 := by rw [← hw1]; exact Has.new1 _ (numC 0) _
  clear hw1
  go_wp2_with (first
    | (with_reducible refine num_load rfl _ rfl _ rfl _ hA rfl ?_)
    | (with_reducible refine num_store rfl _ _ rfl _ _ rfl rfl _ hR rfl ?_))
  exact bodyPost_ret (v := .agg (numC x)) (num_results Tryz.results134 _ _ _ rfl (hR.row _)) rfl ⟨rfl, below_setRow hbel (by omega) _⟩
end Go.Proofs.YthcebnfdapcllaaGreatDoor.NN
namespace Go.Proofs.YthcebnfdapcllaaGreatDoor.NN
open Go.RowKit
theorem all_range_int : ∀ (xs ys : List Int), xs.length = ys.length → ((List.range xs.length).all fun i => xs.getD i 0 == ys.getD i 0) = (xs == ys)
  | [], [], _ => rfl
  | x :: xs, y :: ys, h => by
    have ih := all_range_int xs ys (by simpa using h)
    rw [List.length_cons, List.range_succ_eq_map, List.all_cons, List.all_map]
    simp only [List.getD_cons_zero, Function.comp_def, List.getD_cons_succ, ih]
    simp [List.cons_beq_cons]
  | [], _ :: _, h => by simp at h
  | _ :: _, [], h => by simp at h
section
variable {P : Program} (w : World)
theorem run_equalIn_ints (d : Nat) (k : IntKind) (t e : TypeId) (n : Nat) (ht : P.underlying t = some (.array n e)) (he : P.underlying e = some (.int k)) (hsz : ∀ w, (sizeOf e).run P w = .ok 1 w)
    (xs ys : List Int) (hx : xs.length = n) (hy : ys.length = n) :
    (Op.equalIn (d + 2) t (.agg (xs.map (Value.int k)).toArray) (.agg (ys.map (Value.int k)).toArray)).run P w = .ok (xs == ys) w := by
  rw [← all_range_int xs ys (hx.trans hy.symm), hx, List.range_eq_range', Op.equalIn]
  simp only [Sem.run_bind, run_underlying ht, Result.andThen_ok, hsz, Std.Legacy.Range.forIn_eq_forIn_range', Std.Legacy.Range.size, Nat.sub_zero, Nat.add_sub_cancel, Nat.div_one]
  have hl : ∀ i ∈ List.range' 0 n 1, i < n := fun i hi => by simpa using (List.mem_range'_1.1 hi).2
  generalize List.range' 0 n 1 = l at hl ⊢
  induction l with
  | nil => simp
  | cons i l ih =>
    have hi : i < n := hl i (by simp)
    have px : (part e (xs.map (Value.int k)).toArray (i * 1)).run P w = .ok (Value.int k (xs.getD i 0)) w := by
      simp [part, isAgg, run_underlying he, List.getD, List.getElem?_eq_getElem (show i < xs.length by omega)]
    have py : (part e (ys.map (Value.int k)).toArray (i * 1)).run P w = .ok (Value.int k (ys.getD i 0)) w := by
      simp [part, isAgg, run_underlying he, List.getD, List.getElem?_eq_getElem (show i < ys.length by omega)]
    have pe : (Op.equalIn (d + 1) e (Value.int k (xs.getD i 0)) (Value.int k (ys.getD i 0))).run P w = .ok (xs.getD i 0 == ys.getD i 0) w :=
      run_equalIn_int w d e k k _ _ he
    simp only [List.forIn_cons, Sem.run_bind, px, py, pe, Result.andThen_ok, List.all_cons]
    cases hb : (xs.getD i 0 == ys.getD i 0)
    · simp
    · simp only [Bool.not_true, Bool.false_eq_true, if_false, Sem.run_pure, Result.andThen_ok, Bool.true_and]
      exact ih fun j hj => hl j (by simp [hj])
theorem run_eql_ints (k : IntKind) (t e : TypeId) (n : Nat) (ht : P.underlying t = some (.array n e)) (he : P.underlying e = some (.int k)) (hsz : ∀ w, (sizeOf e).run P w = .ok 1 w)
    (xs ys : List Int) (hx : xs.length = n) (hy : ys.length = n) :
    (binOp .eql t (.agg (xs.map (Value.int k)).toArray) (.agg (ys.map (Value.int k)).toArray)).run P w = .ok (.bool (xs == ys)) w := by
  rw [run_eql_struct, run_equalIn_ints w 9998 k t e n ht he hsz xs ys hx hy]
  rfl
theorem run_neq_ints (k : IntKind) (t e : TypeId) (n : Nat) (ht : P.underlying t = some (.array n e)) (he : P.underlying e = some (.int k)) (hsz : ∀ w, (sizeOf e).run P w = .ok 1 w)
    (xs ys : List Int) (hx : xs.length = n) (hy : ys.length = n) :
    (binOp .neq t (.agg (xs.map (Value.int k)).toArray) (.agg (ys.map (Value.int k)).toArray)).run P w = .ok (.bool (!(xs == ys))) w := by
  have h : (Op.equalIn Op.maxDepth t (.agg (xs.map (Value.int k)).toArray) (.agg (ys.map (Value.int k)).toArray)).run P w = .ok (xs == ys) w := run_equalIn_ints w 9998 k t e n ht he hsz xs ys hx hy
  simp only [binOp, Sem.run_bind, Op.equal, h, Result.andThen_ok, Sem.run_pure]
end
theorem wordSize (w : World) : (sizeOf 24).run Tryz.prog w = .ok 1 w := by kernel_rfl
def wds (x : Nat) : List Int := [(Nm.wd x 0 : Nat), (Nm.wd x 1 : Nat), (Nm.wd x 2 : Nat), (Nm.wd x 3 : Nat)]
theorem numC_wds (x : Nat) : numC x = ((wds x).map (Value.int .u64)).toArray := rfl
theorem wds_eq {x y : Nat} (hx : x < Nm.big) (hy : y < Nm.big) : (wds x == wds y) = decide (x = y) := by
  rw [Bool.eq_iff_iff, beq_iff_eq, decide_eq_true_iff]
  constructor
  · intro h
    simp only [wds, List.cons.injEq, and_true, Int.ofNat_inj] at h
    obtain ⟨h0, h1, h2, h3⟩ := h
    refine Nm.wd_inj hx hy fun i hi => ?_
    rcases Nm.four hi with rfl | rfl | rfl | rfl <;> assumption
  · intro h; rw [h]
theorem eql_num {x y : Nat} (hx : x < Nm.big) (hy : y < Nm.big) (w : World) : (binOp .eql 26 (.agg (numC x)) (.agg (numC y))).run Tryz.prog w = .ok (.bool (decide (x = y))) w := by
  rw [numC_wds, numC_wds, run_eql_ints w .u64 26 24 4 Tryz.underlying26 Tryz.underlying24 wordSize _ _ rfl rfl, wds_eq hx hy]
theorem neq_num {x y : Nat} (hx : x < Nm.big) (hy : y < Nm.big) (w : World) : (binOp .neq 26 (.agg (numC x)) (.agg (numC y))).run Tryz.prog w = .ok (.bool (!decide (x = y))) w := by
  rw [numC_wds, numC_wds, run_neq_ints w .u64 26 24 4 Tryz.underlying26 Tryz.underlying24 wordSize _ _ rfl rfl, wds_eq hx hy]
end Go.Proofs.YthcebnfdapcllaaGreatDoor.NN
namespace Go.Proofs.YthcebnfdapcllaaGreatDoor.NN
open Go.RowKit
theorem most_cells : (#[.int .u64 18446744073709551615, .int .u64 18446744073709551615, .int .u64 18446744073709551615, .int .u64 18446744073709551615] : Array Value) = numC (Nm.big - 1) := by
  unfold numC cells4
  rw [show Nm.wd (Nm.big - 1) 0 = 18446744073709551615 by decide +kernel, show Nm.wd (Nm.big - 1) 1 = 18446744073709551615 by decide +kernel, show Nm.wd (Nm.big - 1) 2 = 18446744073709551615 by decide +kernel, show Nm.wd (Nm.big - 1) 3 = 18446744073709551615 by decide +kernel]
  rfl
theorem small_cells (n : Nat) (hn : n < 18446744073709551616) : (#[.int .u64 (n : Int), .int .u64 0, .int .u64 0, .int .u64 0] : Array Value) = numC n := by
  unfold numC cells4
  rw [Nm.wd0, Nm.wd1, Nm.wd2, Nm.wd3, Nat.mod_eq_of_lt hn, Nat.div_eq_of_lt hn, Nat.div_eq_of_lt (by omega), Nat.div_eq_of_lt (by omega)]
  rfl
set_option maxRecDepth 100000 in
set_option maxHeartbeats 400000 in
theorem most (w : World) : Calls Tryz.prog 101 #[] w fun e w' => e = .returned (.agg (numC (Nm.big - 1))) ∧ Below w.heap.size w w' := by
  go_enter Tryz.func101, Tryz.ntmps101
  go_wp2_with fail
  rw [most_cells]
  exact bodyPost_ret (v := .agg (numC (Nm.big - 1))) (num_results Tryz.results101 _ _ _ rfl (Has.new _ _)) rfl ⟨rfl, (Below.refl _ _).alloc (Nat.le_refl _) _⟩
theorem of (n : Nat) (hn : n < 18446744073709551616) (w : World) : Calls Tryz.prog 121 #[.int .u64 (n : Int)] w fun e w' => e = .returned (.agg (numC n)) ∧ Below w.heap.size w w' := by
  go_enter Tryz.func121, Tryz.ntmps121
  go_wp2_with fail
  rw [small_cells n hn]
  exact bodyPost_ret (v := .agg (numC n)) (num_results Tryz.results121 _ _ _ rfl (Has.new _ _)) rfl ⟨rfl, (Below.refl _ _).alloc (Nat.le_refl _) _⟩
theorem zero (x : Nat) (hx : x < Nm.big) (w : World) : Calls Tryz.prog 77 #[.agg (numC x)] w fun e w' => e = .returned (.bool (decide (x = 0))) ∧ Below w.heap.size w w' := by
  have hq := eql_num hx (show 0 < Nm.big by decide)
  rw [← zero4] at hq
  go_enter Tryz.func77, Tryz.ntmps77
  go_wp2_with (with_reducible refine num_load rfl _ rfl _ rfl _ (Has.new _ _) rfl ?_)
  go_ret
  exact ⟨rfl, (Below.refl _ _).alloc (Nat.le_refl _) _⟩
end Go.Proofs.YthcebnfdapcllaaGreatDoor.NN
namespace Go.Proofs.YthcebnfdapcllaaGreatDoor.NN
open Go.RowKit
theorem num_store_eq {ops : Array Oper} {rest : List Oper} {o : Oper} {a : Act} {w : World} {Q : Exit → Act → World → Prop} (hgd : o.guard = none) (x y : Operand) (ho : o.op = .store 26 x y) (g : Nat) (z : Nat) (cz : Array Value) (hx : a.eval x = .pointer (some ⟨g, 0, none⟩)) (hy : a.eval y = .agg cz) (e : cz = numC z) (cs : Array Value) (hg : Has w g cs 26) (hs : cs.size = 4)
    (h : wpList Tryz.prog ops Q rest (a.put o.dst undef) (w.setRow g (numC z))) : wpList Tryz.prog ops Q (o :: rest) a w := by
  subst e; exact num_store hgd x y ho g z hx hy cs hg hs h
theorem up64_cells (y : Nat) : (#[.int .u64 0, .int .u64 (Nm.wd y 0 : Nat), .int .u64 (Nm.wd y 1 : Nat), .int .u64 (Nm.wd y 2 : Nat)] : Array Value) = numC (Nm.up y 64) := by
  obtain ⟨h0, h1, h2, h3⟩ := Nm.wd_up64 y
  unfold numC cells4
  rw [h0, h1, h2, h3]; rfl
theorem down64_cells {y : Nat} (hy : y < Nm.big) : (#[.int .u64 (Nm.wd y 1 : Nat), .int .u64 (Nm.wd y 2 : Nat), .int .u64 (Nm.wd y 3 : Nat), .int .u64 0] : Array Value) = numC (Nm.down y 64) := by
  obtain ⟨h0, h1, h2, h3⟩ := Nm.wd_down64 hy
  unfold numC cells4
  rw [h0, h1, h2, h3]; rfl
structure Mv (w wr : World) (A R O y : Nat) (cs : Array Value) : Prop where
  below : Below w.heap.size w wr
  a : Has wr A (numC y) 26
  r : Has wr R (numC 0) 26
  o : Has wr O cs 26
theorem Mv.put {w wr : World} {A R O y : Nat} {cs : Array Value} (h : Mv w wr A R O y cs) (y' : Nat) (hR : R ≠ A) (hO : O ≠ A) (hA : w.heap.size ≤ A) : Mv w (wr.setRow A (numC y')) A R O y' cs :=
  ⟨below_setRow h.below hA _, h.a.row _, h.r.otherRow _ _ hR, h.o.otherRow _ _ hO⟩
theorem Mv.set {w wr : World} {A R O y : Nat} {g : Nat → Nat} (h : Mv w wr A R O y (cells4 g)) (i v : Nat) (hi : i < 4) (hA : A ≠ O) (hR : R ≠ O) (hO : w.heap.size ≤ O) : Mv w (wr.setCell ⟨O, i, none⟩ (.int .u64 (v : Nat))) A R O y (cells4 (upd g i v)) :=
  ⟨h.below.setCell hO _, h.a.other _ _ hA, h.r.other _ _ hR, by rw [← cells4_set g i v hi]; exact h.o.set _⟩
theorem Mv.drew {w wr : World} {A R O y : Nat} {cs : Array Value} (h : Mv w wr A R O y cs) : Mv w wr.drew A R O y cs := ⟨h.below.drew, h.a, h.r, h.o⟩
theorem Mv.start (w : World) (x : Nat) : Mv w (((w.alloc (.cells (numC x) 26)).alloc (.cells (numC 0) 26)).alloc (.cells (cells4 fun _ => 0) 26)) w.heap.size (w.heap.size + 1) (w.heap.size + 1 + 1) x (cells4 fun _ => 0) :=
  ⟨(((Below.refl _ _).alloc (Nat.le_refl _) _).alloc (by simp) _).alloc (by simp; omega) _, ((Has.new _ _).alloc _).alloc _, (Has.new1 _ _ _).alloc _, Has.new2 _ _ _ _⟩
theorem upSum (a b m : Nat) (hm : m ≤ 64) (hb : b < 18446744073709551616) : IntKind.u64.wrap (((a <<< m % 18446744073709551616 : Nat) : Int) + ((b >>> (64 - m) : Nat) : Int)) = ((a <<< m % 18446744073709551616 ||| b >>> (64 - m) : Nat) : Int) := by
  have h := Nm.add_up a b m hm hb
  have h2 := Nm.or_lt64 (a := a <<< m % 18446744073709551616) (b := b >>> (64 - m)) (Nat.mod_lt _ (by decide)) (by rw [Nat.shiftRight_eq_div_pow]; exact Nat.lt_of_le_of_lt (Nat.div_le_self _ _) hb)
  rw [← h] at h2 ⊢
  rw [IntKind.wrap_u64]; omega
theorem downSum (a b m : Nat) (hm : m ≤ 64) (ha : a < 18446744073709551616) : IntKind.u64.wrap (((a >>> m : Nat) : Int) + ((b <<< (64 - m) % 18446744073709551616 : Nat) : Int)) = ((a >>> m ||| b <<< (64 - m) % 18446744073709551616 : Nat) : Int) := by
  have h := Nm.add_down a b m hm ha
  have h2 := Nm.or_lt64 (a := a >>> m) (b := b <<< (64 - m) % 18446744073709551616) (by rw [Nat.shiftRight_eq_div_pow]; exact Nat.lt_of_le_of_lt (Nat.div_le_self _ _) ha) (Nat.mod_lt _ (by decide))
  rw [← h] at h2 ⊢
  rw [IntKind.wrap_u64]; omega
def Filled (z k : Nat) (g : Nat → Nat) : Prop := ∀ j, j < k → g j = Nm.wd z j
theorem Filled.next {z k : Nat} {g : Nat → Nat} (h : Hid (Filled z k g)) : Hid (Filled z (k + 1) (upd g k (Nm.wd z k))) := Lib.hid fun j h1 => by
    unfold upd
    split
    · rename_i e; rw [e]
    · exact h.out j (by omega)
set_option maxRecDepth 100000 in
set_option maxHeartbeats 1000000 in
theorem ref_move_up (x n : Nat) (hx : x < Nm.big) (hm : n ≤ 9223372036854775807) (w : World) :
    Calls Tryz.prog 46 #[.agg (numC x), .int .i64 (n : Int)] w fun e w' => e = .returned (.agg (numC (Nm.up x n))) ∧ Below w.heap.size w w' := by
  by_cases hbg : 256 ≤ n
  · have e := Nm.up_big x hbg
    rw [e]
    clear e
    go_enter Tryz.func46, Tryz.ntmps46
    go_upto_region 2 with fail
    generalize hw1 : World.alloc _ _ = w1
    have h0 : Mv w w1 w.heap.size (w.heap.size + 1) (w.heap.size + 1 + 1) x (cells4 fun _ => 0) := by rw [← hw1]; exact Mv.start w x
    clear hw1
    have ho : Has w1 (w.heap.size + 1 + 1) (numC 0) 26 := h0.o
    go_wp2_with (first
      | (with_reducible refine num_load rfl _ rfl _ rfl _ ho rfl ?_)
      | (with_reducible refine num_store rfl _ _ rfl _ _ rfl rfl _ h0.r rfl ?_))
    exact bodyPost_ret (v := .agg (numC 0)) (num_results Tryz.results46 _ _ _ rfl (h0.r.row _)) rfl ⟨rfl, below_setRow h0.below (by omega) _⟩
  · go_enter Tryz.func46, Tryz.ntmps46
    go_upto_region 2 with fail
    generalize hw1 : World.alloc _ _ = w1
    have h0 : Mv w w1 w.heap.size (w.heap.size + 1) (w.heap.size + 1 + 1) x (cells4 fun _ => 0) := by rw [← hw1]; exact Mv.start w x
    clear hw1
    generalize hB : w.heap.size + 1 + 1 = O at *
    generalize hC : w.heap.size + 1 = R at *
    generalize hD : w.heap.size = A at *
    have HA : Hid (w.heap.size ≤ A) := Lib.hid (by omega)
    have HO : Hid (w.heap.size ≤ O) := Lib.hid (by omega)
    have HR : Hid (w.heap.size ≤ R) := Lib.hid (by omega)
    have H1 : Hid (A ≠ O) := Lib.hid (by omega)
    have H3 : Hid (R ≠ O) := Lib.hid (by omega)
    have H4 : Hid (R ≠ A) := Lib.hid (by omega)
    have H5 : Hid (O ≠ A) := Lib.hid (by omega)
    have HX := Lib.hid hx
    clear hB hC hD hx hm
    go_wp2_with fail
    go_loopw [1] (fun s wr => ∃ (m y : Nat), m < 256 ∧ s = .int .i64 m ∧ Hid (Nm.up y m = Nm.up x n ∧ y < Nm.big) ∧ Mv w wr A R O y (cells4 fun _ => 0)) (fun s _ => (intOf s).toNat)
    case atStart => exact ⟨n, x, by omega, rfl, Lib.hid ⟨rfl, HX.out⟩, h0⟩
    case round =>
      obtain ⟨m, y, hm, rfl, HM, hs⟩ := hrel
      by_cases hge : 64 ≤ m
      · have c0 := hs.a.num (j := 0) (by omega)
        have c1 := hs.a.num (j := 1) (by omega)
        have c2 := hs.a.num (j := 2) (by omega)
        have HE := Lib.hid (up64_cells y)
        go_wp2_with (with_reducible refine num_store_eq rfl _ _ rfl _ (Nm.up y 64) _ rfl rfl HE.out _ hs.a rfl ?_)
        go_roundw
        case rel => exact ⟨m - 64, Nm.up y 64, by omega, congrArg (Value.int .i64) (by omega), Lib.hid ⟨by rw [Nm.up_add, show 64 + (m - 64) = m by omega]; exact HM.out.1, Nm.up_lt _ _⟩, hs.put _ H4.out H5.out HA.out⟩
        case measure => simp [intOf]; omega
      · have hlt : m < 64 := by omega
        clear hm hge
        go_wp2_with fail
        go_loopw [1] (fun s wr => s = .int .i64 (m : Nat) ∧ Mv w wr A R O y (cells4 fun _ => 0)) (fun _ _ => 0)
        case atStart => exact ⟨rfl, hs⟩
        case round =>
          obtain ⟨rfl, hs2⟩ := hrel
          by_cases hm0 : m = 0
          · subst hm0
            have e := HM.out.1
            rw [Nm.up_zero HM.out.2] at e
            subst e
            go_wp2_with (first
              | (with_reducible refine num_load rfl _ rfl _ rfl _ hs2.a rfl ?_)
              | (with_reducible refine num_store rfl _ _ rfl _ _ rfl rfl _ hs2.r rfl ?_))
            exact bodyPost_ret (v := .agg (numC (Nm.up x n))) (num_results Tryz.results46 _ _ _ rfl (hs2.r.row _)) rfl ⟨rfl, below_setRow hs2.below HR.out _⟩
          · have hmp : 0 < m := by omega
            clear hm0
            go_wp2_with fail
            go_loopw [6] (fun i wr => ∃ (k : Nat) (g : Nat → Nat), k ≤ 4 ∧ i = .int .i64 k ∧ Mv w wr A R O y (cells4 g) ∧ Hid (Filled (Nm.up y m) k g)) (fun i _ => 4 - (intOf i).toNat)
            case atStart => exact ⟨0, _, by omega, rfl, hs2, Lib.hid fun j hj => by omega⟩
            case round =>
              obtain ⟨k, g, hk, rfl, hs3, HG⟩ := hrel
              by_cases hk4 : k < 4
              · have c1 := hs3.a.num (j := k) (by omega)
                have c2 := hs3.a.num (j := k - 1) (by omega)
                have co := hs3.o.word (j := k) (by omega)
                have fo := hs3.o.free k
                have hset : ∀ v1 v2 : Nat, Mv w ((wr.setCell ⟨O, k, none⟩ (.int .u64 (v1 : Nat))).setCell ⟨O, k, none⟩ (.int .u64 (v2 : Nat))).drew A R O y (cells4 (upd g k v2)) := fun v1 v2 => by
                  rw [← upd2 g k v1 v2]
                  exact ((hs3.set k v1 (by omega) H1.out H3.out HO.out).set k v2 (by omega) H1.out H3.out HO.out).drew
                have hset1 : ∀ v : Nat, Mv w (wr.setCell ⟨O, k, none⟩ (.int .u64 (v : Nat))) A R O y (cells4 (upd g k v)) := fun v => hs3.set k v (by omega) H1.out H3.out HO.out
                have HSET := Lib.hid hset
                have HSET1 := Lib.hid hset1
                clear hset hset1
                by_cases hk0 : k = 0
                · subst hk0
                  have hv := Nm.wd_up_low y m 0 (by omega) (by omega)
                  rw [show m % 64 = m by omega, show 0 - m / 64 = 0 by omega] at hv
                  have HV := Lib.hid hv
                  clear hv
                  go_wp2_with fail
                  rw [upW, ← HV.out]
                  exact ⟨⟨_, _, by decide, rfl, HSET1.out _, Filled.next HG⟩, by decide⟩
                · have hv := Nm.wd_up y m k (by omega) (by omega)
                  rw [show m % 64 = m by omega, show k - m / 64 = k by omega] at hv
                  have HV := Lib.hid hv
                  clear hv
                  obtain rfl | rfl | rfl : k = 1 ∨ k = 2 ∨ k = 3 := by omega
                  all_goals
                    go_wp2_with fail
                    go_region
                    have e := HV.out
                    simp only [Nat.reduceSub] at e
                    rw [upW, downW, upSum _ _ _ (by omega) (Nm.wd_lt _ _), ← e]
                    clear e c1 c2 co fo
                    go_wp2_with fail
                    go_roundw
                    case rel => exact ⟨_, _, by decide, rfl, HSET.out _ _, Filled.next HG⟩
                    case measure => decide
              · obtain rfl : k = 4 := by omega
                have e := cells4_done HG
                rw [e, HM.out.1] at hs3
                clear e
                go_wp2_with (first
                  | (with_reducible refine num_load rfl _ rfl _ rfl _ hs3.o rfl ?_)
                  | (with_reducible refine num_store rfl _ _ rfl _ _ rfl rfl _ hs3.r rfl ?_))
                exact bodyPost_ret (v := .agg (numC (Nm.up x n))) (num_results Tryz.results46 _ _ _ rfl (hs3.r.row _)) rfl ⟨rfl, below_setRow hs3.below HR.out _⟩
end Go.Proofs.YthcebnfdapcllaaGreatDoor.NN
namespace Go.Proofs.YthcebnfdapcllaaGreatDoor.NN
open Go.RowKit
def ovr (s v : Nat) : Bool := decide (0 < v ∧ 34 < s ∨ 255 < v ∧ 33 < s ∨ 65535 < v ∧ 32 < s)
set_option maxRecDepth 100000 in
set_option maxHeartbeats 1000000 in
theorem tooGreat (s v : Nat) (hs : s < 256) (hv : v < 8388608) (w : World) :
    Calls Tryz.prog 122 #[.int .i64 (s : Int), .int .i64 (v : Int)] w fun e w' => e = .returned (.bool (ovr s v)) ∧ w = w' := by
  by_cases h0 : v = 0
  · subst h0
    have hr : ovr s 0 = false := by unfold ovr; exact decide_eq_false (by omega)
    rw [hr]
    go_enter Tryz.func122, Tryz.ntmps122
    go_wp2_with fail
    go_ret
    exact ⟨rfl, rfl⟩
  have b0 : ((v : Int) != 0) = true := by simp; omega
  obtain h | h | h | h | h | h : (34 < s) ∨ (s = 34 ∧ 255 < v) ∨ (s = 34 ∧ v ≤ 255) ∨ (s = 33 ∧ 65535 < v) ∨ (s = 33 ∧ v ≤ 65535) ∨ s ≤ 32 := by omega
  · have hr : ovr s v = true := by unfold ovr; exact decide_eq_true (by omega)
    have b1 : decide ((34 : Int) < (s : Int)) = true := decide_eq_true (by omega)
    rw [hr]
    clear h h0 hr
    go_enter Tryz.func122, Tryz.ntmps122
    go_wp2_with fail
    go_ret
    exact ⟨rfl, rfl⟩
  · have hr : ovr s v = true := by unfold ovr; exact decide_eq_true (by omega)
    have b1 : decide ((34 : Int) < (s : Int)) = false := decide_eq_false (by omega)
    have b2 : decide ((33 : Int) < (s : Int)) = true := decide_eq_true (by omega)
    have b3 : decide ((255 : Int) < (v : Int)) = true := decide_eq_true (by omega)
    rw [hr]
    clear h h0 hr
    go_enter Tryz.func122, Tryz.ntmps122
    go_wp2_with fail
    go_ret
    exact ⟨rfl, rfl⟩
  · have hr : ovr s v = false := by unfold ovr; exact decide_eq_false (by omega)
    have b1 : decide ((34 : Int) < (s : Int)) = false := decide_eq_false (by omega)
    have b2 : decide ((33 : Int) < (s : Int)) = true := decide_eq_true (by omega)
    have b3 : decide ((255 : Int) < (v : Int)) = false := decide_eq_false (by omega)
    have b4 : decide ((32 : Int) < (s : Int)) = true := decide_eq_true (by omega)
    have b5 : decide ((65535 : Int) < (v : Int)) = false := decide_eq_false (by omega)
    rw [hr]
    clear h h0 hr
    go_enter Tryz.func122, Tryz.ntmps122
    go_wp2_with fail
    go_ret
    exact ⟨rfl, rfl⟩
  · have hr : ovr s v = true := by unfold ovr; exact decide_eq_true (by omega)
    have b1 : decide ((34 : Int) < (s : Int)) = false := decide_eq_false (by omega)
    have b2 : decide ((33 : Int) < (s : Int)) = false := decide_eq_false (by omega)
    have b4 : decide ((32 : Int) < (s : Int)) = true := decide_eq_true (by omega)
    have b5 : decide ((65535 : Int) < (v : Int)) = true := decide_eq_true (by omega)
    rw [hr]
    clear h h0 hr
    go_enter Tryz.func122, Tryz.ntmps122
    go_wp2_with fail
    go_ret
    exact ⟨rfl, rfl⟩
  · have hr : ovr s v = false := by unfold ovr; exact decide_eq_false (by omega)
    have b1 : decide ((34 : Int) < (s : Int)) = false := decide_eq_false (by omega)
    have b2 : decide ((33 : Int) < (s : Int)) = false := decide_eq_false (by omega)
    have b4 : decide ((32 : Int) < (s : Int)) = true := decide_eq_true (by omega)
    have b5 : decide ((65535 : Int) < (v : Int)) = false := decide_eq_false (by omega)
    rw [hr]
    clear h h0 hr
    go_enter Tryz.func122, Tryz.ntmps122
    go_wp2_with fail
    go_ret
    exact ⟨rfl, rfl⟩
  · have hr : ovr s v = false := by unfold ovr; exact decide_eq_false (by omega)
    have b1 : decide ((34 : Int) < (s : Int)) = false := decide_eq_false (by omega)
    have b2 : decide ((33 : Int) < (s : Int)) = false := decide_eq_false (by omega)
    have b4 : decide ((32 : Int) < (s : Int)) = false := decide_eq_false (by omega)
    rw [hr]
    clear h h0 hr
    go_enter Tryz.func122, Tryz.ntmps122
    go_wp2_with fail
    go_ret
    exact ⟨rfl, rfl⟩
structure Bx (w wr : World) (A x R : Nat) : Prop where
  below : Below w.heap.size w wr
  a : Has wr A (numC x) 26
  r : Has wr R (numC 0) 26
theorem Bx.on {w wr w' : World} {A x R : Nat} (h : Bx w wr A x R) (hb : Below wr.heap.size wr w') : Bx w w' A x R := ⟨h.below.trans (hb.mono h.below.size), h.a.on hb, h.r.on hb⟩
theorem Bx.start (w : World) (x : Nat) : Bx w ((w.alloc (.cells (numC x) 26)).alloc (.cells (numC 0) 26)) w.heap.size x (w.heap.size + 1) :=
  ⟨((Below.refl _ _).alloc (Nat.le_refl _) _).alloc (by simp) _, (Has.new _ _).alloc _, Has.new1 _ _ _⟩
theorem down_at (x k : Nat) (hx : x < Nm.big) (hk : 0 < k) (hm : k ≤ 300) (n : Int) (hn : n = ((8 * k : Nat) : Int)) (w : World) :
    Calls Tryz.prog 133 #[.agg (numC x), .int .i64 n] w fun e w' => e = .returned (.agg (numC (Nm.down x (8 * k)))) ∧ Below w.heap.size w w' := by
  subst hn; exact down_pos x (8 * k) hx (by omega) (by omega) w
theorem up_at (x k : Nat) (hx : x < Nm.big) (hm : k ≤ 300) (n : Int) (hn : n = ((8 * k : Nat) : Int)) (w : World) :
    Calls Tryz.prog 134 #[.agg (numC x), .int .i64 n] w fun e w' => e = .returned (.agg (numC (Nm.up x (8 * k)))) ∧ Below w.heap.size w w' := by
  subst hn
  by_cases h0 : k = 0
  · subst h0
    rw [Nm.up_zero hx]
    exact up_neg x _ (by omega) w
  · exact up_pos x (8 * k) hx (by omega) (by omega) w
set_option maxRecDepth 100000 in
set_option maxHeartbeats 1000000 in
theorem moved (x : Nat) (b : Int) (hx : x < Nm.big) (hl : -300 ≤ b) (hh : b ≤ 300) (w : World) :
    Calls Tryz.prog 120 #[.agg (numC x), .int .i64 b] w fun e w' => e = .returned (.agg (numC (Nm.mv x b))) ∧ Below w.heap.size w w' := by
  by_cases hb : b < 0
  · obtain ⟨k, rfl⟩ : ∃ k : Nat, b = -(k : Int) := ⟨(-b).toNat, by omega⟩
    have hr : Nm.mv x (-(k : Int)) = Nm.down x (8 * k) := by unfold Nm.mv; rw [if_pos hb, Int.neg_neg, Int.toNat_natCast]
    rw [hr]
    go_enter Tryz.func120, Tryz.ntmps120
    go_upto_region 1 with fail
    generalize hw1 : World.alloc _ _ = w1
    have h0 : Bx w w1 w.heap.size x (w.heap.size + 1) := by rw [← hw1]; exact Bx.start w x
    have hR : w.heap.size ≤ w.heap.size + 1 := by omega
    have HR := Lib.hid hR
    clear hw1 hR hr
    go_wp2_with (with_reducible refine num_load rfl _ rfl _ rfl _ h0.a rfl ?_)
    refine (down_at x k hx (by omega) (by omega) _ (by omega) _).mono ?_
    rintro e w2 ⟨rfl, hb2⟩
    have h2 := h0.on hb2
    go_wp2_with (with_reducible refine num_store rfl _ _ rfl _ _ rfl rfl _ h2.r rfl ?_)
    exact bodyPost_ret (v := .agg (numC (Nm.down x (8 * k)))) (num_results Tryz.results120 _ _ _ rfl (h2.r.row _)) rfl ⟨rfl, below_setRow h2.below HR.out _⟩
  · obtain ⟨k, rfl⟩ : ∃ k : Nat, b = (k : Int) := ⟨b.toNat, by omega⟩
    have hr : Nm.mv x (k : Int) = Nm.up x (8 * k) := by unfold Nm.mv; rw [if_neg hb, Int.toNat_natCast]
    rw [hr]
    go_enter Tryz.func120, Tryz.ntmps120
    go_upto_region 1 with fail
    generalize hw1 : World.alloc _ _ = w1
    have h0 : Bx w w1 w.heap.size x (w.heap.size + 1) := by rw [← hw1]; exact Bx.start w x
    have hR : w.heap.size ≤ w.heap.size + 1 := by omega
    have HR := Lib.hid hR
    clear hw1 hR hr hb
    go_wp2_with (with_reducible refine num_load rfl _ rfl _ rfl _ h0.a rfl ?_)
    refine (up_at x k hx (by omega) _ (by omega) _).mono ?_
    rintro e w2 ⟨rfl, hb2⟩
    have h2 := h0.on hb2
    go_wp2_with (with_reducible refine num_store rfl _ _ rfl _ _ rfl rfl _ h2.r rfl ?_)
    exact bodyPost_ret (v := .agg (numC (Nm.up x (8 * k)))) (num_results Tryz.results120 _ _ _ rfl (h2.r.row _)) rfl ⟨rfl, below_setRow h2.below HR.out _⟩
theorem results_cell_tmp2 {fn : Func} {p u v : Tmp} {ty : TypeId} (h : fn.results = #[.cell p ty, .tmp u, .tmp v]) (tmps : Array Value) (P : Program) (w : World) :
    (results fn tmps).run P w =
      ((asAddr (tmps.getD p undef)).run P w).andThen fun a w₁ => ((loadVar ty a).run P w₁).andThen fun x w₂ => .ok (.tuple #[x, tmps.getD u undef, tmps.getD v undef]) w₂ := by
  simp only [results, h]
  simp [Sem.run_bind, Result.andThen]
theorem num_results3 {w : World} {fn : Func} {p u v : Tmp} (h : fn.results = #[.cell p 26, .tmp u, .tmp v]) (tmps : Array Value) (g x : Nat) (y z : Value) (hp : tmps.getD p undef = .pointer (some ⟨g, 0, none⟩)) (hy : tmps.getD u undef = y) (hz : tmps.getD v undef = z) (hg : Has w g (numC x) 26) :
    (results fn tmps).run Tryz.prog w = .ok (.tuple #[.agg (numC x), y, z]) w := by
  rw [results_cell_tmp2 h, hp, hy, hz]
  have hl : (loadVar 26 ⟨g, 0, none⟩).run Tryz.prog w = .ok (.agg (numC x)) w := run_loadVar_row w g 26 26 (numC x) (0, 0) _ hg.out Tryz.underlying26 rfl infoNum
  simp [asAddr, hl, Result.andThen]
set_option maxRecDepth 100000 in
theorem good (b : Int) (w : World) :
    Calls Tryz.prog 119 #[.int .i64 b] w fun e w' => e = .returned (.bool (decide (0 ≤ b ∧ b ≤ 4294967295))) ∧ w = w' := by
  by_cases h0 : 0 ≤ b
  · have hr : decide (0 ≤ b ∧ b ≤ 4294967295) = decide (b ≤ 4294967295) := decide_eq_decide.2 (by omega)
    rw [hr]
    go_enter Tryz.func119, Tryz.ntmps119
    go_wp2_with fail
    go_ret
    exact ⟨rfl, rfl⟩
  · have hr : decide (0 ≤ b ∧ b ≤ 4294967295) = false := decide_eq_false (by omega)
    rw [hr]
    go_enter Tryz.func119, Tryz.ntmps119
    go_wp2_with fail
    go_ret
    exact ⟨rfl, rfl⟩
theorem good_no (b : Int) (h : ¬ (0 ≤ b ∧ b ≤ 4294967295)) (w : World) :
    Calls Tryz.prog 119 #[.int .i64 b] w fun e w' => e = .returned (.bool false) ∧ w = w' := by
  have := good b w; rwa [decide_eq_false h] at this
theorem good_yes (b : Int) (h : 0 ≤ b ∧ b ≤ 4294967295) (w : World) :
    Calls Tryz.prog 119 #[.int .i64 b] w fun e w' => e = .returned (.bool true) ∧ w = w' := by
  have := good b w; rwa [decide_eq_true h] at this
set_option maxRecDepth 100000 in
set_option maxHeartbeats 1000000 in
theorem decode_no (b : Int) (h : ¬ (0 ≤ b ∧ b ≤ 4294967295)) (w : World) :
    Calls Tryz.prog 102 #[.int .i64 b] w fun e w' => e = .returned (.tuple #[.agg (numC 0), .bool false, .bool false]) ∧ Below w.heap.size w w' := by
  have hg := Lib.hid (good_no b h)
  clear h
  go_enter Tryz.func102, Tryz.ntmps102
  go_upto_region 1 with fail
  generalize hw1 : World.alloc _ _ = w1
  have hN : Has w1 w.heap.size (numC 0) 26 := by rw [← hw1]; exact Has.newz _
  have hb : Below w.heap.size w w1 := by rw [← hw1]; exact (Below.refl _ _).alloc (Nat.le_refl _) _
  clear hw1
  go_wp2_with fail
  refine (hg.out _).mono ?_
  rintro e w2 ⟨rfl, rfl⟩
  go_wp2_with (with_reducible refine num_store_eq rfl _ _ rfl _ 0 _ rfl rfl zero4 _ hN rfl ?_)
  exact bodyPost_ret (v := .tuple #[.agg (numC 0), .bool false, .bool false]) (num_results3 Tryz.results102 _ _ _ _ _ rfl rfl rfl (hN.row _)) rfl ⟨rfl, below_setRow hb (Nat.le_refl _) _⟩
end Go.Proofs.YthcebnfdapcllaaGreatDoor.NN
namespace Go.Proofs.YthcebnfdapcllaaGreatDoor.NN
open Go.RowKit
theorem andI (a b : Nat) (ha : a < 9223372036854775808) (hb : b < 9223372036854775808) : bits .and .i64 (a : Int) (b : Int) = ((a &&& b : Nat) : Int) := by
  have h : a &&& b ≤ a := Nat.and_le_left
  show IntKind.i64.wrap ((BitVec.ofInt 64 (a : Int) &&& BitVec.ofInt 64 (b : Int)).toNat : Int) = _
  rw [BitVec.ofInt_natCast, BitVec.ofInt_natCast, BitVec.toNat_and, BitVec.toNat_ofNat, BitVec.toNat_ofNat, Nat.mod_eq_of_lt (by omega), Nat.mod_eq_of_lt (by omega), IntKind.wrap_i64]
  omega
theorem orI (a b : Nat) (ha : a < 9223372036854775808) (hb : b < 9223372036854775808) : bits .or .i64 (a : Int) (b : Int) = ((a ||| b : Nat) : Int) := by
  have h : a ||| b < 2 ^ 63 := Nat.or_lt_two_pow ha hb
  show IntKind.i64.wrap ((BitVec.ofInt 64 (a : Int) ||| BitVec.ofInt 64 (b : Int)).toNat : Int) = _
  rw [BitVec.ofInt_natCast, BitVec.ofInt_natCast, BitVec.toNat_or, BitVec.toNat_ofNat, BitVec.toNat_ofNat, Nat.mod_eq_of_lt (by omega), Nat.mod_eq_of_lt (by omega), IntKind.wrap_i64]
  omega
theorem and_two_pow' (n i : Nat) : n &&& 2 ^ i = n / 2 ^ i % 2 * 2 ^ i := by
  apply Nat.eq_of_testBit_eq
  intro j
  rw [Nat.testBit_and, Nat.testBit_two_pow, ← Nat.toNat_testBit]
  cases h : n.testBit i
  · by_cases hj : i = j
    · subst hj; simp [h]
    · simp [hj]
  · by_cases hj : i = j
    · subst hj; simp [h]
    · simp [hj]
theorem and_word (n : Nat) (hn : n < 4294967296) : bits .and .i64 (n : Int) 8388607 = ((n % 8388608 : Nat) : Int) := by
  have := andI n 8388607 (by omega) (by omega)
  rw [show n &&& 8388607 = n % 8388608 from Nat.and_two_pow_sub_one_eq_mod n 23] at this
  exact this
theorem and_sign (n : Nat) (hn : n < 4294967296) : bits .and .i64 (n : Int) 8388608 = ((n / 8388608 % 2 * 8388608 : Nat) : Int) := by
  have := andI n 8388608 (by omega) (by omega)
  rw [show n &&& 8388608 = n / 8388608 % 2 * 8388608 from and_two_pow' n 23] at this
  exact this
set_option maxRecDepth 100000 in
set_option maxHeartbeats 1000000 in
theorem decode_yes (n : Nat) (hn : n < 4294967296) (w : World) :
    Calls Tryz.prog 102 #[.int .i64 (n : Int)] w fun e w' => e = .returned (.tuple #[.agg (numC (Nm.decN n)), .bool (Nm.decLow n), .bool (Nm.decOver n)]) ∧ Below w.heap.size w w' := by
  have hg := Lib.hid (good_yes (n : Int) (by omega))
  obtain ⟨s, hs⟩ : ∃ s, s = n / 16777216 := ⟨_, rfl⟩
  obtain ⟨v, hv⟩ : ∃ v, v = n % 8388608 := ⟨_, rfl⟩
  have eA := and_word n hn
  have eS := and_sign n hn
  have eD : (n : Int) / 16777216 = (s : Nat) := by omega
  have hs2 : s < 256 := by omega
  have hv2 : v < 8388608 := by omega
  have hL : Nm.decLow n = (decide (0 < v) && decide (n / 8388608 % 2 = 1)) := by rw [hv]; rfl
  have hO : Nm.decOver n = ovr s v := by rw [hv, hs]; rfl
  have hM : Nm.decN n = Nm.mv v ((s : Nat) - 3) := by rw [hv, hs]; rfl
  rw [hL, hO, hM]
  rw [← hv] at eA
  have hq : n / 8388608 % 2 < 2 := by omega
  generalize n / 8388608 % 2 = q at *
  have hvb : v < Nm.big := by unfold Nm.big; omega
  have cT := Lib.hid (tooGreat s v hs2 hv2)
  have cM := Lib.hid (moved v ((s : Nat) - 3) hvb (by omega) (by omega))
  have cO := Lib.hid (of v (by omega))
  generalize Nm.mv v ((s : Nat) - 3) = z at *
  generalize ovr s v = ov at *
  clear hL hO hM hs hvb hv
  obtain rfl | ⟨h0, rfl⟩ | ⟨h0, rfl⟩ : v = 0 ∨ (v ≠ 0 ∧ q = 0) ∨ (v ≠ 0 ∧ q = 1) := by omega
  · rw [show (decide (0 < 0) && decide (q = 1)) = false from rfl]
    clear eS hq
    go_enter Tryz.func102, Tryz.ntmps102
    go_upto_region 1 with fail
    generalize hw1 : World.alloc _ _ = w1
    have hN : Has w1 w.heap.size (numC 0) 26 := by rw [← hw1]; exact Has.newz _
    have hb : Below w.heap.size w w1 := by rw [← hw1]; exact (Below.refl _ _).alloc (Nat.le_refl _) _
    clear hw1
    go_wp2_with fail
    refine (hg.out _).mono ?_
    rintro e w2 ⟨rfl, rfl⟩
    go_wp2_with fail
    refine (cO.out _).mono ?_
    rintro e w3 ⟨rfl, hb3⟩
    replace hN := hN.on hb3
    replace hb := hb.trans (hb3.mono hb.size)
    clear hb3
    go_wp2_with fail
    refine (cM.out _).mono ?_
    rintro e w4 ⟨rfl, hb4⟩
    replace hN := hN.on hb4
    replace hb := hb.trans (hb4.mono hb.size)
    clear hb4
    go_wp2_with fail
    refine (cT.out _).mono ?_
    rintro e w5 ⟨rfl, rfl⟩
    go_wp2_with (with_reducible refine num_store rfl _ _ rfl _ _ rfl rfl _ hN rfl ?_)
    exact bodyPost_ret (v := .tuple #[.agg (numC z), .bool false, .bool ov]) (num_results3 Tryz.results102 _ _ _ _ _ rfl rfl rfl (hN.row _)) rfl ⟨rfl, below_setRow hb (Nat.le_refl _) _⟩
  · rw [show (decide (0 < v) && decide (0 = 1)) = false by simp]
    have b0 : ((v : Int) != 0) = true := by simp; omega
    clear h0 hq
    go_enter Tryz.func102, Tryz.ntmps102
    go_upto_region 1 with fail
    generalize hw1 : World.alloc _ _ = w1
    have hN : Has w1 w.heap.size (numC 0) 26 := by rw [← hw1]; exact Has.newz _
    have hb : Below w.heap.size w w1 := by rw [← hw1]; exact (Below.refl _ _).alloc (Nat.le_refl _) _
    clear hw1
    go_wp2_with fail
    refine (hg.out _).mono ?_
    rintro e w2 ⟨rfl, rfl⟩
    go_wp2_with fail
    refine (cO.out _).mono ?_
    rintro e w3 ⟨rfl, hb3⟩
    replace hN := hN.on hb3
    replace hb := hb.trans (hb3.mono hb.size)
    clear hb3
    go_wp2_with fail
    refine (cM.out _).mono ?_
    rintro e w4 ⟨rfl, hb4⟩
    replace hN := hN.on hb4
    replace hb := hb.trans (hb4.mono hb.size)
    clear hb4
    go_wp2_with fail
    refine (cT.out _).mono ?_
    rintro e w5 ⟨rfl, rfl⟩
    go_wp2_with (with_reducible refine num_store rfl _ _ rfl _ _ rfl rfl _ hN rfl ?_)
    exact bodyPost_ret (v := .tuple #[.agg (numC z), .bool false, .bool ov]) (num_results3 Tryz.results102 _ _ _ _ _ rfl rfl rfl (hN.row _)) rfl ⟨rfl, below_setRow hb (Nat.le_refl _) _⟩
  · rw [show (decide (0 < v) && decide (1 = 1)) = true by simp; omega]
    have b0 : ((v : Int) != 0) = true := by simp; omega
    clear h0 hq
    go_enter Tryz.func102, Tryz.ntmps102
    go_upto_region 1 with fail
    generalize hw1 : World.alloc _ _ = w1
    have hN : Has w1 w.heap.size (numC 0) 26 := by rw [← hw1]; exact Has.newz _
    have hb : Below w.heap.size w w1 := by rw [← hw1]; exact (Below.refl _ _).alloc (Nat.le_refl _) _
    clear hw1
    go_wp2_with fail
    refine (hg.out _).mono ?_
    rintro e w2 ⟨rfl, rfl⟩
    go_wp2_with fail
    refine (cO.out _).mono ?_
    rintro e w3 ⟨rfl, hb3⟩
    replace hN := hN.on hb3
    replace hb := hb.trans (hb3.mono hb.size)
    clear hb3
    go_wp2_with fail
    refine (cM.out _).mono ?_
    rintro e w4 ⟨rfl, hb4⟩
    replace hN := hN.on hb4
    replace hb := hb.trans (hb4.mono hb.size)
    clear hb4
    go_wp2_with fail
    refine (cT.out _).mono ?_
    rintro e w5 ⟨rfl, rfl⟩
    go_wp2_with (with_reducible refine num_store rfl _ _ rfl _ _ rfl rfl _ hN rfl ?_)
    exact bodyPost_ret (v := .tuple #[.agg (numC z), .bool true, .bool ov]) (num_results3 Tryz.results102 _ _ _ _ _ rfl rfl rfl (hN.row _)) rfl ⟨rfl, below_setRow hb (Nat.le_refl _) _⟩
end Go.Proofs.YthcebnfdapcllaaGreatDoor.NN
namespace Go.Proofs.YthcebnfdapcllaaGreatDoor.NN
open Go.RowKit
set_option maxRecDepth 100000 in
set_option maxHeartbeats 1000000 in
theorem ref_move_down (x n : Nat) (hx : x < Nm.big) (hn : 0 < n) (hm : n ≤ 9223372036854775807) (w : World) :
    Calls Tryz.prog 46 #[.agg (numC x), .int .i64 (-(n : Int))] w fun e w' => e = .returned (.agg (numC (Nm.down x n))) ∧ Below w.heap.size w w' := by
  by_cases hbg : 256 ≤ n
  · have e := Nm.down_big hx hbg
    rw [e]
    clear e
    go_enter Tryz.func46, Tryz.ntmps46
    go_upto_region 2 with fail
    generalize hw1 : World.alloc _ _ = w1
    have h0 : Mv w w1 w.heap.size (w.heap.size + 1) (w.heap.size + 1 + 1) x (cells4 fun _ => 0) := by rw [← hw1]; exact Mv.start w x
    clear hw1
    have ho : Has w1 (w.heap.size + 1 + 1) (numC 0) 26 := h0.o
    go_wp2_with (first
      | (with_reducible refine num_load rfl _ rfl _ rfl _ ho rfl ?_)
      | (with_reducible refine num_store rfl _ _ rfl _ _ rfl rfl _ h0.r rfl ?_))
    exact bodyPost_ret (v := .agg (numC 0)) (num_results Tryz.results46 _ _ _ rfl (h0.r.row _)) rfl ⟨rfl, below_setRow h0.below (by omega) _⟩
  · go_enter Tryz.func46, Tryz.ntmps46
    go_upto_region 2 with fail
    generalize hw1 : World.alloc _ _ = w1
    have h0 : Mv w w1 w.heap.size (w.heap.size + 1) (w.heap.size + 1 + 1) x (cells4 fun _ => 0) := by rw [← hw1]; exact Mv.start w x
    clear hw1
    generalize hB : w.heap.size + 1 + 1 = O at *
    generalize hC : w.heap.size + 1 = R at *
    generalize hD : w.heap.size = A at *
    have HA : Hid (w.heap.size ≤ A) := Lib.hid (by omega)
    have HO : Hid (w.heap.size ≤ O) := Lib.hid (by omega)
    have HR : Hid (w.heap.size ≤ R) := Lib.hid (by omega)
    have H1 : Hid (A ≠ O) := Lib.hid (by omega)
    have H3 : Hid (R ≠ O) := Lib.hid (by omega)
    have H4 : Hid (R ≠ A) := Lib.hid (by omega)
    have H5 : Hid (O ≠ A) := Lib.hid (by omega)
    have HX := Lib.hid hx
    clear hB hC hD hx hm
    go_wp2_with fail
    go_loopw [1] (fun s wr => s = .int .i64 (-(n : Int)) ∧ Mv w wr A R O x (cells4 fun _ => 0)) (fun _ _ => 0)
    case atStart => exact ⟨rfl, h0⟩
    case round =>
      obtain ⟨rfl, hs⟩ := hrel
      go_wp2_with fail
      go_loopw [1] (fun s wr => ∃ (m y : Nat), m < 256 ∧ s = .int .i64 (-(m : Int)) ∧ Hid (Nm.down y m = Nm.down x n ∧ y < Nm.big) ∧ Mv w wr A R O y (cells4 fun _ => 0)) (fun s _ => (-intOf s).toNat)
      case atStart => exact ⟨n, x, by omega, rfl, Lib.hid ⟨rfl, HX.out⟩, hs⟩
      case round =>
        obtain ⟨m, y, hm, rfl, HM, hs⟩ := hrel
        by_cases hge : 64 ≤ m
        · have c1 := hs.a.num (j := 1) (by omega)
          have c2 := hs.a.num (j := 2) (by omega)
          have c3 := hs.a.num (j := 3) (by omega)
          have HE := Lib.hid (down64_cells HM.out.2)
          go_wp2_with (with_reducible refine num_store_eq rfl _ _ rfl _ (Nm.down y 64) _ rfl rfl HE.out _ hs.a rfl ?_)
          go_roundw
          case rel => exact ⟨m - 64, Nm.down y 64, by omega, congrArg (Value.int .i64) (by omega), Lib.hid ⟨by rw [Nm.down_add, show 64 + (m - 64) = m by omega]; exact HM.out.1, Nm.down_lt HM.out.2 _⟩, hs.put _ H4.out H5.out HA.out⟩
          case measure => simp [intOf]; omega
        · have hlt : m < 64 := by omega
          clear hm hge
          by_cases hm0 : m = 0
          · subst hm0
            have e := HM.out.1
            rw [Nm.down_zero] at e
            subst e
            go_wp2_with (first
              | (with_reducible refine num_load rfl _ rfl _ rfl _ hs.a rfl ?_)
              | (with_reducible refine num_store rfl _ _ rfl _ _ rfl rfl _ hs.r rfl ?_))
            exact bodyPost_ret (v := .agg (numC (Nm.down x n))) (num_results Tryz.results46 _ _ _ rfl (hs.r.row _)) rfl ⟨rfl, below_setRow hs.below HR.out _⟩
          · have hmp : 0 < m := by omega
            clear hm0
            go_wp2_with fail
            go_loopw [6] (fun i wr => ∃ (k : Nat) (g : Nat → Nat), k ≤ 4 ∧ i = .int .i64 k ∧ Mv w wr A R O y (cells4 g) ∧ Hid (Filled (Nm.down y m) k g)) (fun i _ => 4 - (intOf i).toNat)
            case atStart => exact ⟨0, _, by omega, rfl, hs, Lib.hid fun j hj => by omega⟩
            case round =>
              obtain ⟨k, g, hk, rfl, hs3, HG⟩ := hrel
              by_cases hk4 : k < 4
              · have c1 := hs3.a.num (j := k) (by omega)
                have co := hs3.o.word (j := k) (by omega)
                have fo := hs3.o.free k
                have hset : ∀ v1 v2 : Nat, Mv w ((wr.setCell ⟨O, k, none⟩ (.int .u64 (v1 : Nat))).setCell ⟨O, k, none⟩ (.int .u64 (v2 : Nat))).drew A R O y (cells4 (upd g k v2)) := fun v1 v2 => by
                  rw [← upd2 g k v1 v2]
                  exact ((hs3.set k v1 (by omega) H1.out H3.out HO.out).set k v2 (by omega) H1.out H3.out HO.out).drew
                have hset1 : ∀ v : Nat, Mv w (wr.setCell ⟨O, k, none⟩ (.int .u64 (v : Nat))) A R O y (cells4 (upd g k v)) := fun v => hs3.set k v (by omega) H1.out H3.out HO.out
                have HSET := Lib.hid hset
                have HSET1 := Lib.hid hset1
                clear hset hset1
                by_cases hk0 : k = 3
                · subst hk0
                  have hv := Nm.wd_down_top HM.out.2 m 3 (by omega)
                  rw [show m % 64 = m by omega, show 3 + m / 64 = 3 by omega] at hv
                  have HV := Lib.hid hv
                  clear hv
                  go_wp2_with fail
                  rw [downW, ← HV.out]
                  exact ⟨⟨_, _, by decide, rfl, HSET1.out _, Filled.next HG⟩, by decide⟩
                · have hv := Nm.wd_down y m k
                  rw [show m % 64 = m by omega, show k + m / 64 = k by omega] at hv
                  have c2 := hs3.a.num (j := k + 1) (by omega)
                  have HV := Lib.hid hv
                  clear hv
                  obtain rfl | rfl | rfl : k = 0 ∨ k = 1 ∨ k = 2 := by omega
                  all_goals
                    go_wp2_with fail
                    go_region
                    have e := HV.out
                    simp only [Nat.reduceAdd] at e
                    rw [downW, upW, show (64 + -(m : Int)).toNat = 64 - m by omega, downSum _ _ _ (by omega) (Nm.wd_lt _ _), ← e]
                    clear e c1 c2 co fo
                    go_wp2_with fail
                    go_roundw
                    case rel => exact ⟨_, _, by decide, rfl, HSET.out _ _, Filled.next HG⟩
                    case measure => decide
              · obtain rfl : k = 4 := by omega
                have e := cells4_done HG
                rw [e, HM.out.1] at hs3
                clear e
                go_wp2_with (first
                  | (with_reducible refine num_load rfl _ rfl _ rfl _ hs3.o rfl ?_)
                  | (with_reducible refine num_store rfl _ _ rfl _ _ rfl rfl _ hs3.r rfl ?_))
                exact bodyPost_ret (v := .agg (numC (Nm.down x n))) (num_results Tryz.results46 _ _ _ rfl (hs3.r.row _)) rfl ⟨rfl, below_setRow hs3.below HR.out _⟩
end Go.Proofs.YthcebnfdapcllaaGreatDoor.NN
namespace Go.Proofs.YthcebnfdapcllaaGreatDoor.NN
open Go.RowKit
theorem ref_mv (x : Nat) (b : Int) (hx : x < Nm.big) (hl : -300 ≤ b) (hh : b ≤ 300) (m : Int) (hm : m = 8 * b) (w : World) :
    Calls Tryz.prog 46 #[.agg (numC x), .int .i64 m] w fun e w' => e = .returned (.agg (numC (Nm.mv x b))) ∧ Below w.heap.size w w' := by
  subst hm
  by_cases hb : b < 0
  · obtain ⟨k, rfl⟩ : ∃ k : Nat, b = -(k : Int) := ⟨(-b).toNat, by omega⟩
    have hr : Nm.mv x (-(k : Int)) = Nm.down x (8 * k) := by unfold Nm.mv; rw [if_pos hb, Int.neg_neg, Int.toNat_natCast]
    rw [hr, show (8 * -(k : Int)) = -((8 * k : Nat) : Int) by omega]
    exact ref_move_down x (8 * k) hx (by omega) (by omega) w
  · obtain ⟨k, rfl⟩ : ∃ k : Nat, b = (k : Int) := ⟨b.toNat, by omega⟩
    have hr : Nm.mv x (k : Int) = Nm.up x (8 * k) := by unfold Nm.mv; rw [if_neg hb, Int.toNat_natCast]
    rw [hr, show (8 * (k : Int)) = ((8 * k : Nat) : Int) by omega]
    exact ref_move_up x (8 * k) hx (by omega) w
theorem ref_mv_small (v : Nat) (b : Int) (hv : v < 18446744073709551616) (hl : -300 ≤ b) (hh : b ≤ 300) (m : Int) (hm : m = 8 * b) (w : World) :
    Calls Tryz.prog 46 #[.agg #[.int .u64 (v : Int), .int .u64 0, .int .u64 0, .int .u64 0], .int .i64 m] w fun e w' => e = .returned (.agg (numC (Nm.mv v b))) ∧ Below w.heap.size w w' := by
  rw [small_cells v hv]; exact ref_mv v b (by unfold Nm.big; omega) hl hh m hm w
set_option maxRecDepth 100000 in
set_option maxHeartbeats 1000000 in
theorem ref_decode_no (b : Int) (h : ¬ (0 ≤ b ∧ b ≤ 4294967295)) (w : World) :
    Calls Tryz.prog 32 #[.int .i64 b] w fun e w' => e = .returned (.tuple #[.agg (numC 0), .bool false, .bool false]) ∧ Below w.heap.size w w' := by
  obtain ⟨b0, b1⟩ | b0 : (decide (b < 0) = false ∧ decide (4294967295 < b) = true) ∨ decide (b < 0) = true := by
    simp; omega
  all_goals
    clear h
    go_enter Tryz.func32, Tryz.ntmps32
    go_upto_region 1 with fail
    generalize hw1 : World.alloc _ _ = w1
    have hN : Has w1 w.heap.size (numC 0) 26 := by rw [← hw1]; exact Has.newz _
    have hb : Below w.heap.size w w1 := by rw [← hw1]; exact (Below.refl _ _).alloc (Nat.le_refl _) _
    clear hw1
    go_wp2_with (with_reducible refine num_store_eq rfl _ _ rfl _ 0 _ rfl rfl zero4 _ hN rfl ?_)
    exact bodyPost_ret (v := .tuple #[.agg (numC 0), .bool false, .bool false]) (num_results3 Tryz.results32 _ _ _ _ _ rfl rfl rfl (hN.row _)) rfl ⟨rfl, below_setRow hb (Nat.le_refl _) _⟩
set_option maxRecDepth 100000 in
set_option maxHeartbeats 1000000 in
theorem ref_decode_yes (n : Nat) (hn : n < 4294967296) (w : World) :
    Calls Tryz.prog 32 #[.int .i64 (n : Int)] w fun e w' => e = .returned (.tuple #[.agg (numC (Nm.decN n)), .bool (Nm.decLow n), .bool (Nm.decOver n)]) ∧ Below w.heap.size w w' := by
  obtain ⟨s, hs⟩ : ∃ s, s = n / 16777216 := ⟨_, rfl⟩
  obtain ⟨v, hv⟩ : ∃ v, v = n % 8388608 := ⟨_, rfl⟩
  obtain ⟨qb, hqb⟩ : ∃ qb, qb = decide (n / 8388608 % 2 = 1) := ⟨_, rfl⟩
  have g0 : decide ((n : Int) < 0) = false := decide_eq_false (by omega)
  have g1 : decide ((4294967295 : Int) < (n : Int)) = false := decide_eq_false (by omega)
  have hs2 : s < 256 := by omega
  have hv2 : v < 8388608 := by omega
  have hL : Nm.decLow n = (decide (0 < v) && qb) := by rw [hv, hqb]; rfl
  have hO : Nm.decOver n = ovr s v := by rw [hv, hs]; rfl
  have hM : Nm.decN n = Nm.mv v ((s : Nat) - 3) := by rw [hv, hs]; rfl
  rw [hL, hO, hM]
  have cM := Lib.hid (ref_mv_small v ((s : Nat) - 3) (by omega) (by omega) (by omega) _ rfl)
  generalize Nm.mv v ((s : Nat) - 3) = z at *
  have eD : (n : Int) / 16777216 = (s : Nat) := by omega
  have eV : (n : Int) % 8388608 = (v : Nat) := by omega
  have eQ : ((n : Int) / 8388608 % 2 == 1) = qb := by
    rw [hqb, show (n : Int) / 8388608 % 2 = ((n / 8388608 % 2 : Nat) : Int) by omega]
    generalize n / 8388608 % 2 = k
    rw [Bool.eq_iff_iff]; simp; omega
  clear hL hO hM hs hv hqb
  obtain rfl | h | h | h | h | h | h : v = 0 ∨ (0 < v ∧ 34 < s) ∨ (0 < v ∧ v ≤ 255 ∧ s ≤ 34) ∨ (255 < v ∧ s = 34) ∨ (255 < v ∧ v ≤ 65535 ∧ s ≤ 33) ∨ (65535 < v ∧ s = 33) ∨ (65535 < v ∧ s ≤ 32) := by omega
  · have hr : ovr s 0 = false := by unfold ovr; exact decide_eq_false (by omega)
    have hl : (decide (0 < 0) && qb) = false := by simp
    rw [hr, hl]
    clear hr hl
    go_enter Tryz.func32, Tryz.ntmps32
    go_upto_region 1 with fail
    generalize hw1 : World.alloc _ _ = w1
    have hN : Has w1 w.heap.size (numC 0) 26 := by rw [← hw1]; exact Has.newz _
    have hb : Below w.heap.size w w1 := by rw [← hw1]; exact (Below.refl _ _).alloc (Nat.le_refl _) _
    clear hw1
    go_wp2_with fail
    refine (cM.out _).mono ?_
    rintro e w3 ⟨rfl, hb3⟩
    replace hN := hN.on hb3
    replace hb := hb.trans (hb3.mono hb.size)
    clear hb3
    have hZ := Has.newz (w := w3) 26
    go_upto_region 7 with (with_reducible refine num_store rfl _ _ rfl _ _ rfl rfl _ hZ rfl ?_)
    generalize hw4 : World.setRow _ _ _ = w4
    have hb4 : Below w3.heap.size w3 w4 := by rw [← hw4]; exact below_setRow ((Below.refl _ _).alloc (Nat.le_refl _) _) (Nat.le_refl _) _
    have hD : Has w4 w3.heap.size (numC z) 26 := by rw [← hw4]; exact hZ.row _
    replace hN := hN.on hb4
    replace hb := hb.trans (hb4.mono hb.size)
    generalize w3.heap.size = D at *
    clear hw4 hb4 hZ
    go_wp2_with (first | (with_reducible refine num_load rfl _ rfl _ rfl _ hD rfl ?_) | (with_reducible refine num_store rfl _ _ rfl _ _ rfl rfl _ hN rfl ?_))
    exact bodyPost_ret (v := .tuple #[.agg (numC z), .bool false, .bool false]) (num_results3 Tryz.results32 _ _ _ _ _ rfl rfl rfl (hN.row _)) rfl ⟨rfl, below_setRow hb (Nat.le_refl _) _⟩
  · have hr : ovr s v = true := by unfold ovr; exact decide_eq_true (by omega)
    have hl : (decide (0 < v) && qb) = qb := by rw [decide_eq_true (show 0 < v by omega), Bool.true_and]
    have b0 : 0 < v := by omega
    have b1 : decide ((34 : Int) < (s : Int)) = true := decide_eq_true (by omega)
    rw [hr, hl]
    clear h hr hl
    go_enter Tryz.func32, Tryz.ntmps32
    go_upto_region 1 with fail
    generalize hw1 : World.alloc _ _ = w1
    have hN : Has w1 w.heap.size (numC 0) 26 := by rw [← hw1]; exact Has.newz _
    have hb : Below w.heap.size w w1 := by rw [← hw1]; exact (Below.refl _ _).alloc (Nat.le_refl _) _
    clear hw1
    go_wp2_with fail
    refine (cM.out _).mono ?_
    rintro e w3 ⟨rfl, hb3⟩
    replace hN := hN.on hb3
    replace hb := hb.trans (hb3.mono hb.size)
    clear hb3
    have hZ := Has.newz (w := w3) 26
    go_upto_region 7 with (with_reducible refine num_store rfl _ _ rfl _ _ rfl rfl _ hZ rfl ?_)
    generalize hw4 : World.setRow _ _ _ = w4
    have hb4 : Below w3.heap.size w3 w4 := by rw [← hw4]; exact below_setRow ((Below.refl _ _).alloc (Nat.le_refl _) _) (Nat.le_refl _) _
    have hD : Has w4 w3.heap.size (numC z) 26 := by rw [← hw4]; exact hZ.row _
    replace hN := hN.on hb4
    replace hb := hb.trans (hb4.mono hb.size)
    generalize w3.heap.size = D at *
    clear hw4 hb4 hZ
    go_wp2_with (first | (with_reducible refine num_load rfl _ rfl _ rfl _ hD rfl ?_) | (with_reducible refine num_store rfl _ _ rfl _ _ rfl rfl _ hN rfl ?_))
    exact bodyPost_ret (v := .tuple #[.agg (numC z), .bool qb, .bool true]) (num_results3 Tryz.results32 _ _ _ _ _ rfl rfl rfl (hN.row _)) rfl ⟨rfl, below_setRow hb (Nat.le_refl _) _⟩
  · have hr : ovr s v = false := by unfold ovr; exact decide_eq_false (by omega)
    have hl : (decide (0 < v) && qb) = qb := by rw [decide_eq_true (show 0 < v by omega), Bool.true_and]
    have b0 : 0 < v := by omega
    have b1 : decide ((34 : Int) < (s : Int)) = false := decide_eq_false (by omega)
    have b2 : decide ((255 : Int) < (v : Int)) = false := decide_eq_false (by omega)
    have b3 : decide ((65535 : Int) < (v : Int)) = false := decide_eq_false (by omega)
    rw [hr, hl]
    clear h hr hl
    go_enter Tryz.func32, Tryz.ntmps32
    go_upto_region 1 with fail
    generalize hw1 : World.alloc _ _ = w1
    have hN : Has w1 w.heap.size (numC 0) 26 := by rw [← hw1]; exact Has.newz _
    have hb : Below w.heap.size w w1 := by rw [← hw1]; exact (Below.refl _ _).alloc (Nat.le_refl _) _
    clear hw1
    go_wp2_with fail
    refine (cM.out _).mono ?_
    rintro e w3 ⟨rfl, hb3⟩
    replace hN := hN.on hb3
    replace hb := hb.trans (hb3.mono hb.size)
    clear hb3
    have hZ := Has.newz (w := w3) 26
    go_upto_region 7 with (with_reducible refine num_store rfl _ _ rfl _ _ rfl rfl _ hZ rfl ?_)
    generalize hw4 : World.setRow _ _ _ = w4
    have hb4 : Below w3.heap.size w3 w4 := by rw [← hw4]; exact below_setRow ((Below.refl _ _).alloc (Nat.le_refl _) _) (Nat.le_refl _) _
    have hD : Has w4 w3.heap.size (numC z) 26 := by rw [← hw4]; exact hZ.row _
    replace hN := hN.on hb4
    replace hb := hb.trans (hb4.mono hb.size)
    generalize w3.heap.size = D at *
    clear hw4 hb4 hZ
    go_wp2_with (first | (with_reducible refine num_load rfl _ rfl _ rfl _ hD rfl ?_) | (with_reducible refine num_store rfl _ _ rfl _ _ rfl rfl _ hN rfl ?_))
    exact bodyPost_ret (v := .tuple #[.agg (numC z), .bool qb, .bool false]) (num_results3 Tryz.results32 _ _ _ _ _ rfl rfl rfl (hN.row _)) rfl ⟨rfl, below_setRow hb (Nat.le_refl _) _⟩
  · have hr : ovr s v = true := by unfold ovr; exact decide_eq_true (by omega)
    have hl : (decide (0 < v) && qb) = qb := by rw [decide_eq_true (show 0 < v by omega), Bool.true_and]
    have b0 : 0 < v := by omega
    have b1 : decide ((34 : Int) < (s : Int)) = false := decide_eq_false (by omega)
    have b2 : decide ((255 : Int) < (v : Int)) = true := decide_eq_true (by omega)
    have b3 : decide ((33 : Int) < (s : Int)) = true := decide_eq_true (by omega)
    rw [hr, hl]
    clear h hr hl
    go_enter Tryz.func32, Tryz.ntmps32
    go_upto_region 1 with fail
    generalize hw1 : World.alloc _ _ = w1
    have hN : Has w1 w.heap.size (numC 0) 26 := by rw [← hw1]; exact Has.newz _
    have hb : Below w.heap.size w w1 := by rw [← hw1]; exact (Below.refl _ _).alloc (Nat.le_refl _) _
    clear hw1
    go_wp2_with fail
    refine (cM.out _).mono ?_
    rintro e w3 ⟨rfl, hb3⟩
    replace hN := hN.on hb3
    replace hb := hb.trans (hb3.mono hb.size)
    clear hb3
    have hZ := Has.newz (w := w3) 26
    go_upto_region 7 with (with_reducible refine num_store rfl _ _ rfl _ _ rfl rfl _ hZ rfl ?_)
    generalize hw4 : World.setRow _ _ _ = w4
    have hb4 : Below w3.heap.size w3 w4 := by rw [← hw4]; exact below_setRow ((Below.refl _ _).alloc (Nat.le_refl _) _) (Nat.le_refl _) _
    have hD : Has w4 w3.heap.size (numC z) 26 := by rw [← hw4]; exact hZ.row _
    replace hN := hN.on hb4
    replace hb := hb.trans (hb4.mono hb.size)
    generalize w3.heap.size = D at *
    clear hw4 hb4 hZ
    go_wp2_with (first | (with_reducible refine num_load rfl _ rfl _ rfl _ hD rfl ?_) | (with_reducible refine num_store rfl _ _ rfl _ _ rfl rfl _ hN rfl ?_))
    exact bodyPost_ret (v := .tuple #[.agg (numC z), .bool qb, .bool true]) (num_results3 Tryz.results32 _ _ _ _ _ rfl rfl rfl (hN.row _)) rfl ⟨rfl, below_setRow hb (Nat.le_refl _) _⟩
  · have hr : ovr s v = false := by unfold ovr; exact decide_eq_false (by omega)
    have hl : (decide (0 < v) && qb) = qb := by rw [decide_eq_true (show 0 < v by omega), Bool.true_and]
    have b0 : 0 < v := by omega
    have b1 : decide ((34 : Int) < (s : Int)) = false := decide_eq_false (by omega)
    have b2 : decide ((255 : Int) < (v : Int)) = true := decide_eq_true (by omega)
    have b3 : decide ((33 : Int) < (s : Int)) = false := decide_eq_false (by omega)
    have b4 : decide ((65535 : Int) < (v : Int)) = false := decide_eq_false (by omega)
    rw [hr, hl]
    clear h hr hl
    go_enter Tryz.func32, Tryz.ntmps32
    go_upto_region 1 with fail
    generalize hw1 : World.alloc _ _ = w1
    have hN : Has w1 w.heap.size (numC 0) 26 := by rw [← hw1]; exact Has.newz _
    have hb : Below w.heap.size w w1 := by rw [← hw1]; exact (Below.refl _ _).alloc (Nat.le_refl _) _
    clear hw1
    go_wp2_with fail
    refine (cM.out _).mono ?_
    rintro e w3 ⟨rfl, hb3⟩
    replace hN := hN.on hb3
    replace hb := hb.trans (hb3.mono hb.size)
    clear hb3
    have hZ := Has.newz (w := w3) 26
    go_upto_region 7 with (with_reducible refine num_store rfl _ _ rfl _ _ rfl rfl _ hZ rfl ?_)
    generalize hw4 : World.setRow _ _ _ = w4
    have hb4 : Below w3.heap.size w3 w4 := by rw [← hw4]; exact below_setRow ((Below.refl _ _).alloc (Nat.le_refl _) _) (Nat.le_refl _) _
    have hD : Has w4 w3.heap.size (numC z) 26 := by rw [← hw4]; exact hZ.row _
    replace hN := hN.on hb4
    replace hb := hb.trans (hb4.mono hb.size)
    generalize w3.heap.size = D at *
    clear hw4 hb4 hZ
    go_wp2_with (first | (with_reducible refine num_load rfl _ rfl _ rfl _ hD rfl ?_) | (with_reducible refine num_store rfl _ _ rfl _ _ rfl rfl _ hN rfl ?_))
    exact bodyPost_ret (v := .tuple #[.agg (numC z), .bool qb, .bool false]) (num_results3 Tryz.results32 _ _ _ _ _ rfl rfl rfl (hN.row _)) rfl ⟨rfl, below_setRow hb (Nat.le_refl _) _⟩
  · have hr : ovr s v = true := by unfold ovr; exact decide_eq_true (by omega)
    have hl : (decide (0 < v) && qb) = qb := by rw [decide_eq_true (show 0 < v by omega), Bool.true_and]
    have b0 : 0 < v := by omega
    have b1 : decide ((34 : Int) < (s : Int)) = false := decide_eq_false (by omega)
    have b2 : decide ((255 : Int) < (v : Int)) = true := decide_eq_true (by omega)
    have b3 : decide ((33 : Int) < (s : Int)) = false := decide_eq_false (by omega)
    have b4 : decide ((65535 : Int) < (v : Int)) = true := decide_eq_true (by omega)
    have b5 : decide ((32 : Int) < (s : Int)) = true := decide_eq_true (by omega)
    rw [hr, hl]
    clear h hr hl
    go_enter Tryz.func32, Tryz.ntmps32
    go_upto_region 1 with fail
    generalize hw1 : World.alloc _ _ = w1
    have hN : Has w1 w.heap.size (numC 0) 26 := by rw [← hw1]; exact Has.newz _
    have hb : Below w.heap.size w w1 := by rw [← hw1]; exact (Below.refl _ _).alloc (Nat.le_refl _) _
    clear hw1
    go_wp2_with fail
    refine (cM.out _).mono ?_
    rintro e w3 ⟨rfl, hb3⟩
    replace hN := hN.on hb3
    replace hb := hb.trans (hb3.mono hb.size)
    clear hb3
    have hZ := Has.newz (w := w3) 26
    go_upto_region 7 with (with_reducible refine num_store rfl _ _ rfl _ _ rfl rfl _ hZ rfl ?_)
    generalize hw4 : World.setRow _ _ _ = w4
    have hb4 : Below w3.heap.size w3 w4 := by rw [← hw4]; exact below_setRow ((Below.refl _ _).alloc (Nat.le_refl _) _) (Nat.le_refl _) _
    have hD : Has w4 w3.heap.size (numC z) 26 := by rw [← hw4]; exact hZ.row _
    replace hN := hN.on hb4
    replace hb := hb.trans (hb4.mono hb.size)
    generalize w3.heap.size = D at *
    clear hw4 hb4 hZ
    go_wp2_with (first | (with_reducible refine num_load rfl _ rfl _ rfl _ hD rfl ?_) | (with_reducible refine num_store rfl _ _ rfl _ _ rfl rfl _ hN rfl ?_))
    exact bodyPost_ret (v := .tuple #[.agg (numC z), .bool qb, .bool true]) (num_results3 Tryz.results32 _ _ _ _ _ rfl rfl rfl (hN.row _)) rfl ⟨rfl, below_setRow hb (Nat.le_refl _) _⟩
  · have hr : ovr s v = false := by unfold ovr; exact decide_eq_false (by omega)
    have hl : (decide (0 < v) && qb) = qb := by rw [decide_eq_true (show 0 < v by omega), Bool.true_and]
    have b0 : 0 < v := by omega
    have b1 : decide ((34 : Int) < (s : Int)) = false := decide_eq_false (by omega)
    have b2 : decide ((255 : Int) < (v : Int)) = true := decide_eq_true (by omega)
    have b3 : decide ((33 : Int) < (s : Int)) = false := decide_eq_false (by omega)
    have b4 : decide ((65535 : Int) < (v : Int)) = true := decide_eq_true (by omega)
    have b5 : decide ((32 : Int) < (s : Int)) = false := decide_eq_false (by omega)
    rw [hr, hl]
    clear h hr hl
    go_enter Tryz.func32, Tryz.ntmps32
    go_upto_region 1 with fail
    generalize hw1 : World.alloc _ _ = w1
    have hN : Has w1 w.heap.size (numC 0) 26 := by rw [← hw1]; exact Has.newz _
    have hb : Below w.heap.size w w1 := by rw [← hw1]; exact (Below.refl _ _).alloc (Nat.le_refl _) _
    clear hw1
    go_wp2_with fail
    refine (cM.out _).mono ?_
    rintro e w3 ⟨rfl, hb3⟩
    replace hN := hN.on hb3
    replace hb := hb.trans (hb3.mono hb.size)
    clear hb3
    have hZ := Has.newz (w := w3) 26
    go_upto_region 7 with (with_reducible refine num_store rfl _ _ rfl _ _ rfl rfl _ hZ rfl ?_)
    generalize hw4 : World.setRow _ _ _ = w4
    have hb4 : Below w3.heap.size w3 w4 := by rw [← hw4]; exact below_setRow ((Below.refl _ _).alloc (Nat.le_refl _) _) (Nat.le_refl _) _
    have hD : Has w4 w3.heap.size (numC z) 26 := by rw [← hw4]; exact hZ.row _
    replace hN := hN.on hb4
    replace hb := hb.trans (hb4.mono hb.size)
    generalize w3.heap.size = D at *
    clear hw4 hb4 hZ
    go_wp2_with (first | (with_reducible refine num_load rfl _ rfl _ rfl _ hD rfl ?_) | (with_reducible refine num_store rfl _ _ rfl _ _ rfl rfl _ hN rfl ?_))
    exact bodyPost_ret (v := .tuple #[.agg (numC z), .bool qb, .bool false]) (num_results3 Tryz.results32 _ _ _ _ _ rfl rfl rfl (hN.row _)) rfl ⟨rfl, below_setRow hb (Nat.le_refl _) _⟩
end Go.Proofs.YthcebnfdapcllaaGreatDoor.NN
namespace Go.Proofs.YthcebnfdapcllaaGreatDoor.NN
open Go.RowKit
end Go.Proofs.YthcebnfdapcllaaGreatDoor.NN
namespace Go.Proofs.YthcebnfdapcllaaGreatDoor.NN
open Go.RowKit
set_option maxRecDepth 100000 in
set_option maxHeartbeats 400000 in
theorem ref_less (x y : Nat) (hx : x < Nm.big) (hy : y < Nm.big) (w : World) :
    Calls Tryz.prog 48 #[.agg (numC x), .agg (numC y)] w fun e w' => e = .returned (.bool (decide (x < y))) ∧ Below w.heap.size w w' := by
  go_enter Tryz.func48, Tryz.ntmps48
  go_wp2_with fail
  generalize hw1 : World.alloc _ _ = w1
  have h0 : Two w w1 w.heap.size (w.heap.size + 1) x y := by
    rw [← hw1]; exact Two.start w x y
  clear hw1
  generalize w.heap.size + 1 = B at *
  generalize hC : w.heap.size = A at *
  have HC := Lib.hid hC
  clear hC
  go_loopw [5] (fun i wr => Two w wr A B x y ∧ ((∃ k : Nat, k ≤ 255 ∧ i = .int .i64 k ∧ Hid (x / 2 ^ (k + 1) = y / 2 ^ (k + 1))) ∨ (i = .int .i64 (-1) ∧ Hid (x = y)))) (fun i _ => (intOf i + 1).toNat)
  case atStart => exact ⟨h0, .inl ⟨255, by omega, rfl, Lib.hid (Nm.top_all hx hy)⟩⟩
  case round =>
    obtain ⟨hs, ⟨k, hk, rfl, HK⟩ | ⟨rfl, HK⟩⟩ := hrel
    · have g1 := Nm.bit_lt x k
      have g2 := Nm.bit_lt y k
      have hk' : k < 256 := by omega
      go_wp2_with fail
      refine wp_region_quiet_below (by kernel_rfl) (by kernel_rfl) ?_
      repeat (first
        | (go_big_quiet_want; (with_reducible refine quiet_load_num _ rfl _ rfl _ hs.a.cls ?_); (simp only [Act.put, List.setIfInBounds_toArray, List.set_cons_zero, List.set_cons_succ]); go_big_quiet_on)
        | (go_big_quiet_want; (with_reducible refine quiet_load_num _ rfl _ rfl _ hs.b.cls ?_); (simp only [Act.put, List.setIfInBounds_toArray, List.set_cons_zero, List.set_cons_succ]); go_big_quiet_on)
        | go_big_quiet_step ((go_at_call 51; exact Calls.regrown_of (ref_bit _ _ (by omega) _))))
      refine wpQuiet_nil ?_
      intro _ hw'
      obtain ⟨p, hw''⟩ := hw'
      subst hw''
      have hs2 := hs.on (below_regrown wr p.d p.os)
      clear hs
      generalize Sort.grow (redrawn wr p.d) p.os = w2 at *
      clear p
      by_cases hb : Nm.bit x k = Nm.bit y k
      · have hq : ((Nm.bit x k : Int) != (Nm.bit y k : Int)) = false := by rw [hb]; simp
        have hn := Nm.top_same HK.out hb
        have HN := Lib.hid hn
        clear hb hn
        go_wp2_with fail
        go_roundw
        case rel =>
          by_cases hk0 : k = 0
          · subst hk0
            exact ⟨hs2, .inr ⟨rfl, Lib.hid (by have := HN.out; simpa using this)⟩⟩
          · exact ⟨hs2, .inl ⟨k - 1, by omega, congrArg (Value.int .i64) (by omega), by rw [show k - 1 + 1 = k by omega]; exact HN⟩⟩
        case measure => first | (simp [intOf]; done) | (simp [intOf]; omega)
      · have hq : ((Nm.bit x k : Int) != (Nm.bit y k : Int)) = true := by simp; omega
        have hn : decide (Nm.bit x k < Nm.bit y k) = decide (x < y) := decide_eq_decide.2 ⟨fun h => Nm.top_less HK.out h, fun h => by
          rcases Nat.lt_or_ge (Nm.bit y k) (Nm.bit x k) with h' | h'
          · exact absurd h (Nm.top_more HK.out h')
          · omega⟩
        have HN := Lib.hid hn
        clear hb hn
        go_wp2_with fail
        refine wp_region_quiet_below (by kernel_rfl) (by kernel_rfl) ?_
        repeat (first
          | (go_big_quiet_want; (with_reducible refine quiet_load_num _ rfl _ rfl _ hs2.a.cls ?_); (simp only [Act.put, List.setIfInBounds_toArray, List.set_cons_zero, List.set_cons_succ]); go_big_quiet_on)
          | (go_big_quiet_want; (with_reducible refine quiet_load_num _ rfl _ rfl _ hs2.b.cls ?_); (simp only [Act.put, List.setIfInBounds_toArray, List.set_cons_zero, List.set_cons_succ]); go_big_quiet_on)
          | go_big_quiet_step ((go_at_call 51; exact Calls.regrown_of (ref_bit _ _ (by omega) _))))
        refine wpQuiet_nil ?_
        intro _ hw'
        obtain ⟨p, hw''⟩ := hw'
        subst hw''
        have hs3 := hs2.on (below_regrown w2 p.d p.os)
        go_wp2_with fail
        go_ret
        exact ⟨congrArg (fun b => Ending.returned (.bool b)) HN.out, hs3.below⟩
    · go_wp2_with fail
      go_ret
      exact ⟨congrArg (fun b => Ending.returned (.bool b)) (by rw [HK.out]; simp), hs.below⟩
end Go.Proofs.YthcebnfdapcllaaGreatDoor.NN
namespace Go.Proofs.YthcebnfdapcllaaGreatDoor.NN
open Go.RowKit
def hashC (f : Nat → Nat) : Array Value := ((List.range 32).map fun i => Value.int .u8 (f i : Nat)).toArray
theorem hashC_size (f : Nat → Nat) : (hashC f).size = 32 := by simp [hashC]
theorem infoHash : (Tryz.prog.info? 28).map (·.size) = some 32 := by kernel_rfl
set_option maxRecDepth 100000 in
theorem idx_hash (f : Nat → Nat) {k : Nat} (hk : k < 32) (w : World) : (Instr.index 28 (.agg (hashC f)) (.int .i64 (k : Int))).run Tryz.prog w = .ok (.int .u8 (f k : Nat)) w := by
  obtain rfl | rfl | rfl | rfl | rfl | rfl | rfl | rfl | rfl | rfl | rfl | rfl | rfl | rfl | rfl | rfl | rfl | rfl | rfl | rfl | rfl | rfl | rfl | rfl | rfl | rfl | rfl | rfl | rfl | rfl | rfl | rfl : k = 0 ∨ k = 1 ∨ k = 2 ∨ k = 3 ∨ k = 4 ∨ k = 5 ∨ k = 6 ∨ k = 7 ∨ k = 8 ∨ k = 9 ∨ k = 10 ∨ k = 11 ∨ k = 12 ∨ k = 13 ∨ k = 14 ∨ k = 15 ∨ k = 16 ∨ k = 17 ∨ k = 18 ∨ k = 19 ∨ k = 20 ∨ k = 21 ∨ k = 22 ∨ k = 23 ∨ k = 24 ∨ k = 25 ∨ k = 26 ∨ k = 27 ∨ k = 28 ∨ k = 29 ∨ k = 30 ∨ k = 31 := by omega
  all_goals rfl
section
variable {w : World} {ops : Array Oper} {rest : List Oper} {o : Oper} {a : Act} {Q : Exit → Act → World → Prop}
theorem hash_load (hgd : o.guard = none) (x : Operand) (ho : o.op = .load 28 x) (g : Nat) (hx : a.eval x = .pointer (some ⟨g, 0, none⟩)) (f : Nat → Nat) (hg : Has w g (hashC f) 28)
    (h : wpList Tryz.prog ops Q rest (a.put o.dst (.agg (hashC f))) w) : wpList Tryz.prog ops Q (o :: rest) a w :=
  wpList_load_row hgd 28 x ho g hx 28 (hashC f) (0, 0) _ hg.out Tryz.underlying28 rfl (infoHash.trans (by rw [hashC_size])) h
end
structure Fh (w wr : World) (R O s : Nat) : Prop where
  below : Below w.heap.size w wr
  r : Has wr R (numC 0) 26
  o : Has wr O (numC s) 26
theorem Fh.put {w wr : World} {R O s : Nat} (h : Fh w wr R O s) (i s' : Nat) {v : Value} (hR : R ≠ O) (hO : w.heap.size ≤ O) (e : (numC s).setIfInBounds i v = numC s') : Fh w (wr.setCell ⟨O, i, none⟩ v) R O s' :=
  ⟨h.below.setCell hO _, h.r.other _ _ hR, by rw [← e]; exact h.o.set _⟩
theorem Fh.drew {w wr : World} {R O s : Nat} (h : Fh w wr R O s) : Fh w wr.drew R O s := ⟨h.below.drew, h.r, h.o⟩
theorem shl64 (v m : Nat) (hv : v < 256) (hm : m ≤ 56) : v <<< m < 18446744073709551616 := by
  rw [Nat.shiftLeft_eq]
  have h2 : 2 ^ m ≤ 2 ^ 56 := Nat.pow_le_pow_right (by decide) hm
  calc v * 2 ^ m ≤ 255 * 2 ^ 56 := Nat.mul_le_mul (by omega) h2
    _ < 18446744073709551616 := by decide
theorem orByte64 (u v m : Nat) (hu : u < 18446744073709551616) (hv : v < 256) (hm : m ≤ 56) : bits .or .u64 (u : Int) (IntKind.u64.wrap (IntKind.u64.wrap (v : Int) * 2 ^ m)) = ((u ||| v <<< m : Nat) : Int) := by
  have h := shl64 v m hv hm
  have e1 : IntKind.u64.wrap (v : Int) = (v : Int) := by rw [IntKind.wrap_u64]; omega
  have e2 : (v : Int) * 2 ^ m = ((v <<< m : Nat) : Int) := by rw [Nat.shiftLeft_eq]; simp
  have e3 : IntKind.u64.wrap ((v <<< m : Nat) : Int) = ((v <<< m : Nat) : Int) := by
    generalize v <<< m = n at h
    rw [IntKind.wrap_u64]; omega
  rw [e1, e2, e3, or64 _ _ hu h]
theorem numC_orByte (x i v : Nat) (hi : i < 32) (hv : v < 256) : (numC x).setIfInBounds (i / 8) (.int .u64 ((Nm.wd x (i / 8) ||| v <<< (8 * (i % 8)) : Nat) : Int)) = numC (x ||| v <<< (8 * i)) := by
  unfold numC
  rw [cells4_set _ _ _ (by omega)]
  apply cells4_congr
  intro j _
  rw [Nm.wd_orByte x v i j hv]
  unfold upd
  split
  · rename_i h; rw [h]
  · rfl
set_option maxRecDepth 100000 in
set_option maxHeartbeats 400000 in
theorem fromHash (f : Nat → Nat) (hf : ∀ i, f i < 256) (w : World) :
    Calls Tryz.prog 131 #[.agg (hashC f)] w fun e w' => e = .returned (.agg (numC (Nm.unbytes f 32))) ∧ Below w.heap.size w w' := by
  have HF := Lib.hid hf
  clear hf
  go_enter Tryz.func131, Tryz.ntmps131
  go_upto_region 2 with fail
  generalize hw1 : World.alloc _ _ = w1
  have hA : Has w1 w.heap.size (hashC f) 28 := by rw [← hw1]; exact ((Has.new _ _).alloc _).alloc _
  have h0 : Fh w w1 (w.heap.size + 1) (w.heap.size + 1 + 1) 0 := by
    rw [← hw1]; exact ⟨(((Below.refl _ _).alloc (Nat.le_refl _) _).alloc (by simp) _).alloc (by simp; omega) _, (Has.new1 _ (numC 0) _).alloc _, Has.new2 _ _ (numC 0) _⟩
  clear hw1
  generalize hB : w.heap.size + 1 + 1 = O at *
  generalize hC : w.heap.size + 1 = R at *
  have HO : Hid (w.heap.size ≤ O) := Lib.hid (by omega)
  have HR : Hid (w.heap.size ≤ R) := Lib.hid (by omega)
  have H3 : Hid (R ≠ O) := Lib.hid (by omega)
  clear hB hC
  go_wp2_with (with_reducible refine hash_load rfl _ rfl _ rfl f hA ?_)
  clear hA
  go_loopw [7] (fun i wr => ∃ k : Nat, k ≤ 32 ∧ i = .int .i64 k ∧ Fh w wr R O (Nm.unbytes f k)) (fun i _ => 32 - (intOf i).toNat)
  case atStart => exact ⟨0, by omega, rfl, h0⟩
  case round =>
    obtain ⟨k, hk, rfl, hs⟩ := hrel
    by_cases hlt : k < 32
    · have hidx := idx_hash f hlt
      have co := hs.o.num (j := k / 8) (by omega)
      have fo := hs.o.free (k / 8)
      go_wp2_with fail
      go_region
      rw [orByte64 _ _ _ (Nm.wd_lt _ _) (HF.out k) (by omega)]
      have hA2 := hs.put (k / 8) (Nm.unbytes f k ||| f k <<< (8 * k)) H3.out HO.out (numC_orByte (Nm.unbytes f k) k (f k) hlt (HF.out k))
      clear co fo hidx
      generalize World.setCell _ _ _ = w2 at *
      go_wp2_with fail
      go_roundw
      case rel => exact ⟨k + 1, by omega, by go_num, hA2.drew⟩
      case measure => simp [intOf]; omega
    · obtain rfl : k = 32 := by omega
      go_wp2_with (first
        | (with_reducible refine num_load rfl _ rfl _ rfl _ hs.o rfl ?_)
        | (with_reducible refine num_store rfl _ _ rfl _ _ rfl rfl _ hs.r rfl ?_))
      exact bodyPost_ret (v := .agg (numC (Nm.unbytes f 32))) (num_results Tryz.results131 _ _ _ rfl (hs.r.row _)) rfl ⟨rfl, below_setRow hs.below HR.out _⟩
end Go.Proofs.YthcebnfdapcllaaGreatDoor.NN
namespace Go.Proofs.YthcebnfdapcllaaGreatDoor.NN
open Go.RowKit
theorem quiet_eq {P : Program} {f : FuncId} {args : Array Value} {w : World} {n : Nat} {v : Value}
    (h : Calls P f args (w.drewN n) fun e w' => e = .returned v ∧ w.drewN n = w') : Calls P f args (w.drewN n) fun e w'' => e = .returned v ∧ ∃ m, w'' = w.drewN m :=
  h.mono fun _ _ ⟨he, hm⟩ => ⟨he, n, hm.symm⟩
theorem isNaN (x : Nat) (w : World) : Calls Tryz.prog 137 #[.int .u64 (x : Int)] w fun e w' => e = .returned (.bool false) ∧ w = w' := by
  go_enter Tryz.func137, Tryz.ntmps137
  go_wp2_with fail
  go_ret
  simp
set_option maxRecDepth 100000 in
theorem cmp64 (x y : Nat) (w : World) : Calls Tryz.prog 125 #[.int .u64 (x : Int), .int .u64 (y : Int)] w fun e w' => e = .returned (.int .i64 (Nm.cmp x y)) ∧ w = w' := by
  have h : (x < y ∧ Nm.cmp x y = -1) ∨ (¬ x < y ∧ y < x ∧ Nm.cmp x y = 1) ∨ (¬ x < y ∧ ¬ y < x ∧ Nm.cmp x y = 0) := by
    unfold Nm.cmp
    rcases Nat.lt_trichotomy x y with h | h | h
    · exact .inl ⟨h, by rw [if_pos h]⟩
    · subst h; exact .inr (.inr ⟨by omega, by omega, by rw [if_neg (by omega), if_neg (by omega)]⟩)
    · exact .inr (.inl ⟨by omega, h, by rw [if_neg (by omega), if_pos h]⟩)
  rcases h with ⟨h1, h2⟩ | ⟨h1, h2, h3⟩ | ⟨h1, h2, h3⟩
  all_goals
    first | rw [h2] | rw [h3]
    first | clear h3 | clear h2
    go_enter Tryz.func125, Tryz.ntmps125
    go_wp2_with (go_at_call 137; refine (isNaN _ _).mono ?_; rintro e w' ⟨rfl, rfl⟩)
    go_ret
    exact ⟨rfl, rfl⟩
set_option maxRecDepth 100000 in
set_option maxHeartbeats 400000 in
theorem compare (x y : Nat) (hx : x < Nm.big) (hy : y < Nm.big) (w : World) :
    Calls Tryz.prog 105 #[.agg (numC x), .agg (numC y)] w fun e w' => e = .returned (.int .i64 (Nm.cmp x y)) ∧ Below w.heap.size w w' := by
  go_enter Tryz.func105, Tryz.ntmps105
  go_wp2_with fail
  generalize hw1 : World.alloc _ _ = w1
  have h0 : Two w w1 w.heap.size (w.heap.size + 1) x y := by rw [← hw1]; exact Two.start w x y
  clear hw1
  generalize w.heap.size + 1 = B at *
  generalize hC : w.heap.size = A at *
  have HC := Lib.hid hC
  clear hC
  have hst : x / 2 ^ (64 * (3 + 1)) = y / 2 ^ (64 * (3 + 1)) := Nm.top_all hx hy
  have HST := Lib.hid hst
  clear hst
  go_loopw [5] (fun i wr => ∃ k : Nat, k ≤ 3 ∧ i = .int .i64 k ∧ Two w wr A B x y ∧ Hid (x / 2 ^ (64 * (k + 1)) = y / 2 ^ (64 * (k + 1)))) (fun i _ => (intOf i).toNat)
  case atStart => exact ⟨3, by omega, rfl, h0, HST⟩
  case round =>
    obtain ⟨k, hk, rfl, hs, HK⟩ := hrel
    by_cases hk0 : 0 < k
    · have ca := hs.a.num (j := k) (by omega)
      have cb := hs.b.num (j := k) (by omega)
      by_cases he : Nm.wd x k = Nm.wd y k
      · have hn := Nm.word_same HK.out he
        have HN := Lib.hid hn
        have hq : ((Nm.wd x k : Int) != (Nm.wd y k : Int)) = false := by rw [he]; simp
        clear hn he
        generalize Nm.wd x k = a at *
        generalize Nm.wd y k = b at *
        go_wp2_with fail
        go_quiet (fail)
        have hs2 := hs.on (below_drewN (Below.refl _ wr) nq)
        go_wp2_with fail
        go_roundw
        case rel => exact ⟨k - 1, by omega, congrArg (Value.int .i64) (by omega), hs2, by rw [show k - 1 + 1 = k by omega]; exact HN⟩
        case measure => simp [intOf]; omega
      · have hn := Nm.cmp_word HK.out he
        have HN := Lib.hid hn
        have hq : ((Nm.wd x k : Int) != (Nm.wd y k : Int)) = true := by simp; omega
        have hcmp := fun w => cmp64 (Nm.wd x k) (Nm.wd y k) w
        clear hn he
        generalize Nm.wd x k = a at *
        generalize Nm.wd y k = b at *
        have HCM := Lib.hid hcmp
        clear hcmp
        go_wp2_with fail
        go_quiet (fail)
        have hs2 := hs.on (below_drewN (Below.refl _ wr) nq)
        have ca2 := (below_drewN (Below.refl wr.heap.size wr) nq).cell (p := ⟨A, k, none⟩) hs.a.lt
        have cb2 := (below_drewN (Below.refl wr.heap.size wr) nq).cell (p := ⟨B, k, none⟩) hs.b.lt
        rw [ca] at ca2
        rw [cb] at cb2
        clear ca cb hs
        generalize wr.drewN nq = w2 at *
        go_wp2_with fail
        go_quiet ((go_at_call 125; exact quiet_eq (HCM.out _)))
        have hs3 := hs2.on (below_drewN (Below.refl _ w2) nq)
        go_wp2_with fail
        go_ret
        exact ⟨congrArg (fun n => Ending.returned (.int .i64 n)) HN.out, hs3.below⟩
    · obtain rfl : k = 0 := by omega
      have ca := hs.a.num (j := 0) (by omega)
      have cb := hs.b.num (j := 0) (by omega)
      have hn := Nm.cmp_zero HK.out
      have HN := Lib.hid hn
      have hcmp := fun w => cmp64 (Nm.wd x 0) (Nm.wd y 0) w
      clear hn
      generalize Nm.wd x 0 = a at *
      generalize Nm.wd y 0 = b at *
      have HCM := Lib.hid hcmp
      clear hcmp
      go_wp2_with (go_at_call 125; ((with_reducible refine (HCM.out _).mono ?_)); rintro e w' ⟨rfl, rfl⟩)
      go_ret
      exact ⟨congrArg (fun n => Ending.returned (.int .i64 n)) HN.out, hs.below⟩
theorem cmp_lt (x y : Nat) : decide (Nm.cmp x y < 0) = decide (x < y) := by
  unfold Nm.cmp
  apply decide_eq_decide.2
  split
  · simp [*]
  · split <;> simp [*]
set_option maxRecDepth 100000 in
theorem less (x y : Nat) (hx : x < Nm.big) (hy : y < Nm.big) (w : World) :
    Calls Tryz.prog 73 #[.agg (numC x), .agg (numC y)] w fun e w' => e = .returned (.bool (decide (x < y))) ∧ Below w.heap.size w w' := by
  have hq := cmp_lt x y
  have hc := fun w => compare x y hx hy w
  generalize Nm.cmp x y = c at *
  have HQ := Lib.hid hq
  have HC := Lib.hid hc
  clear hq hc
  go_enter Tryz.func73, Tryz.ntmps73
  go_upto_region 1 with fail
  generalize hw1 : World.alloc _ _ = w1
  have h0 : Two w w1 w.heap.size (w.heap.size + 1) x y := by rw [← hw1]; exact Two.start w x y
  clear hw1
  go_wp2_with (first | (with_reducible refine num_load rfl _ rfl _ rfl _ h0.a rfl ?_) | (with_reducible refine num_load rfl _ rfl _ rfl _ h0.b rfl ?_))
  refine (HC.out _).mono ?_
  rintro e w2 ⟨rfl, hb⟩
  have h2 := h0.on hb
  go_wp2_with fail
  go_ret
  exact ⟨congrArg (fun b => Ending.returned (.bool b)) HQ.out, h2.below⟩
end Go.Proofs.YthcebnfdapcllaaGreatDoor.NN
namespace Go.Proofs.YthcebnfdapcllaaGreatDoor.NN
open Go.RowKit
end Go.Proofs.YthcebnfdapcllaaGreatDoor.NN
namespace Go.Proofs.YthcebnfdapcllaaGreatDoor.NN
open Go.RowKit
theorem num_load_g {ops : Array Oper} {rest : List Oper} {o : Oper} {a : Act} {w : World} {Q : Exit → Act → World → Prop} (hw : Region.wanted o (yielded ops a.tmps) = true) (x : Operand) (ho : o.op = .load 26 x) (g : Nat) (hx : a.eval x = .pointer (some ⟨g, 0, none⟩)) (cs : Array Value) (hg : Has w g cs 26) (hs : cs.size = 4)
    (h : wpList Tryz.prog ops Q rest (a.put o.dst (.agg cs)) w) : wpList Tryz.prog ops Q (o :: rest) a w :=
  BigFrame.wpList_want hw fun _ hK => wp_load_row 26 x ho g hx 26 cs (0, 0) _ hg.out Tryz.underlying26 rfl (infoNum.trans (by rw [hs])) (hK _ _ h)
theorem quiet_load_hash {C : World → Prop} {a : Act} {o : Oper} {K : Act → Prop} (x : Operand) (ho : o.op = .load 28 x) (g : Nat) (hx : a.eval x = .pointer (some ⟨g, 0, none⟩)) (f : Nat → Nat) (hC : ∀ w', C w' → Has w' g (hashC f) 28)
    (hk : K (a.put o.dst (.agg (hashC f)))) : o.quiet Tryz.prog a C K :=
  ⟨_, fun w' hw' => by
    unfold Oper.quietAt
    have hl : (loadVar 28 ⟨g, 0, none⟩).run Tryz.prog w' = .ok (.agg (hashC f)) w' := run_loadVar_row w' g 28 28 (hashC f) (0, 0) _ (hC w' hw').out Tryz.underlying28 rfl (infoHash.trans (by rw [hashC_size]))
    have : (execOp a.eval o).run Tryz.prog w' = .ok (.value (.agg (hashC f))) w' := by
      unfold execOp
      simp only [ho, hx, Instr.loadAt, Instr.sureAddr, Sem.run_bind, Sem.run_pure, Result.andThen_ok, hl]
    rw [this]
    exact ⟨rfl, rfl⟩, hk⟩
set_option maxRecDepth 100000 in
set_option maxHeartbeats 2000000 in
theorem meets (f : Nat → Nat) (a : Nat) (hf : ∀ i, f i < 256) (ha : a < Nm.big) (w : World) :
    Calls Tryz.prog 117 #[.agg (hashC f), .agg (numC a)] w fun e w' => e = .returned (.bool !decide (a < Nm.unbytes f 32)) ∧ Below w.heap.size w w' := by
  have KF := Lib.hid (fromHash f hf)
  have hU : Nm.unbytes f 32 < Nm.big := Nm.unbytes_lt f hf 32
  have KL := Lib.hid (less a _ ha hU)
  generalize Nm.unbytes f 32 = U at *
  clear hf ha hU
  go_enter Tryz.func117, Tryz.ntmps117
  go_upto_region 1 with fail
  generalize hw1 : World.alloc _ _ = w1
  have hB : Below w.heap.size w w1 := by rw [← hw1]; exact ((Below.refl _ _).alloc (Nat.le_refl _) _).alloc (by simp) _
  have h1 : Has w1 w.heap.size (hashC f) 28 := by rw [← hw1]; exact (Has.new _ _).alloc _
  have h2 : Has w1 (w.heap.size + 1) (numC a) 26 := by rw [← hw1]; exact Has.new1 _ _ _
  clear hw1
  refine wp_region_quiet_below (by kernel_rfl) (by kernel_rfl) ?_
  repeat (first
    | (go_big_quiet_want; (with_reducible refine quiet_load_num _ rfl _ rfl _ h2.cls ?_); (simp only [Act.put, List.setIfInBounds_toArray, List.set_cons_zero, List.set_cons_succ]); go_big_quiet_on)
    | (go_big_quiet_want; (with_reducible refine quiet_load_hash _ rfl _ rfl _ h1.cls ?_); (simp only [Act.put, List.setIfInBounds_toArray, List.set_cons_zero, List.set_cons_succ]); go_big_quiet_on)
    | go_big_quiet_step (first | (go_at_call 131; exact Calls.regrown_of (KF.out _)) | (go_at_call 73; exact Calls.regrown_of (KL.out _))))
  refine wpQuiet_nil ?_
  intro _ hw'
  obtain ⟨p, hw''⟩ := hw'
  subst hw''
  have hB2 := hB.trans ((below_regrown w1 p.d p.os).mono hB.size)
  go_wp2_with fail
  go_ret
  exact ⟨rfl, hB2⟩
set_option maxRecDepth 100000 in
set_option maxHeartbeats 2000000 in
theorem inRange_of (b : Int) (z : Nat) (low over : Bool) (KD : Hid (∀ w, Calls Tryz.prog 102 #[.int .i64 b] w fun e w' => e = .returned (.tuple #[.agg (numC z), .bool low, .bool over]) ∧ Below w.heap.size w w')) (w : World) :
    Calls Tryz.prog 76 #[.int .i64 b] w fun e w' => e = .returned (.tuple #[.agg (numC z), .bool (!low && !over)]) ∧ Below w.heap.size w w' := by
  cases low
  all_goals
    go_enter Tryz.func76, Tryz.ntmps76
    go_upto_region 1 with fail
    generalize hw1 : World.alloc _ _ = w1
    have hN : Has w1 w.heap.size (numC 0) 26 := by rw [← hw1]; exact Has.newz _
    have hb : Below w.heap.size w w1 := by rw [← hw1]; exact (Below.refl _ _).alloc (Nat.le_refl _) _
    clear hw1
    go_wp2_with fail
    refine (KD.out _).mono ?_
    rintro e w3 ⟨rfl, hb3⟩
    replace hN := hN.on hb3
    replace hb := hb.trans (hb3.mono hb.size)
    clear hb3
    have hZ := Has.newz (w := w3) 26
    go_upto_region 2 with (with_reducible refine num_store rfl _ _ rfl _ _ rfl rfl _ hZ rfl ?_)
    generalize hw4 : World.setRow _ _ _ = w4
    have hb4 : Below w3.heap.size w3 w4 := by rw [← hw4]; exact below_setRow ((Below.refl _ _).alloc (Nat.le_refl _) _) (Nat.le_refl _) _
    have hD : Has w4 w3.heap.size (numC z) 26 := by rw [← hw4]; exact hZ.row _
    replace hN := hN.on hb4
    replace hb := hb.trans (hb4.mono hb.size)
    generalize w3.heap.size = D at *
    clear hw4 hb4 hZ
    go_wp2_with (first | (with_reducible refine num_load rfl _ rfl _ rfl _ hD rfl ?_) | (with_reducible refine num_store rfl _ _ rfl _ _ rfl rfl _ hN rfl ?_))
    exact bodyPost_ret (num_results2 Tryz.results76 _ _ _ _ rfl rfl (hN.row _)) rfl ⟨rfl, below_setRow hb (Nat.le_refl _) _⟩
end Go.Proofs.YthcebnfdapcllaaGreatDoor.NN
namespace Go.Proofs.YthcebnfdapcllaaGreatDoor.NN
open Go.RowKit
theorem wd_not {x k : Nat} (hx : x < Nm.big) (hk : k < 4) : Nm.wd (Nm.big - 1 - x) k = 18446744073709551615 - Nm.wd x k := by
  unfold Nm.big at *
  rcases Nm.four hk with rfl | rfl | rfl | rfl
  · rw [Nm.wd0, Nm.wd0]; omega
  · rw [Nm.wd1, Nm.wd1]; omega
  · rw [Nm.wd2, Nm.wd2]; omega
  · rw [Nm.wd3, Nm.wd3]; omega
theorem xor64 (v : Nat) (hv : v < 18446744073709551616) : bits .xor .u64 (if IntKind.u64.signed = true then -1 else IntKind.u64.max) (v : Int) = ((18446744073709551615 - v : Nat) : Int) := by
  show IntKind.u64.wrap ((BitVec.ofInt 64 (if IntKind.u64.signed = true then -1 else IntKind.u64.max) ^^^ BitVec.ofInt 64 (v : Int)).toNat : Int) = _
  rw [show BitVec.ofInt 64 (if IntKind.u64.signed = true then -1 else IntKind.u64.max) = BitVec.allOnes 64 by decide, BitVec.allOnes_xor, BitVec.ofInt_natCast, BitVec.toNat_not, BitVec.toNat_ofNat, Nat.mod_eq_of_lt hv, IntKind.wrap_u64]
  omega
set_option maxRecDepth 100000 in
theorem idx_num (x : Nat) {k : Nat} (hk : k < 4) (w : World) : (Instr.index 26 (.agg (numC x)) (.int .i64 (k : Int))).run Tryz.prog w = .ok (.int .u64 (Nm.wd x k : Nat)) w := by
  rcases Nm.four hk with rfl | rfl | rfl | rfl <;> rfl
set_option maxRecDepth 100000 in
set_option maxHeartbeats 400000 in
theorem not (x : Nat) (hx : x < Nm.big) (w : World) :
    Calls Tryz.prog 124 #[.agg (numC x)] w fun e w' => e = .returned (.agg (numC (Nm.big - 1 - x))) ∧ Below w.heap.size w w' := by
  go_enter Tryz.func124, Tryz.ntmps124
  go_upto_region 2 with fail
  generalize hw1 : World.alloc _ _ = w1
  have h0 : Acc w w1 w.heap.size w.heap.size (w.heap.size + 1) (w.heap.size + 1 + 1) x x (cells4 fun _ => 0) := by
    rw [← hw1]; exact Acc.start1 w x (cells4 fun _ => 0)
  clear hw1
  generalize hA : w.heap.size + 1 + 1 = O at *
  generalize hB : w.heap.size + 1 = R at *
  generalize hC : w.heap.size = A at *
  have hAO : A ≠ O := by omega
  have hRO : R ≠ O := by omega
  have hO : w.heap.size ≤ O := by omega
  have hR : w.heap.size ≤ R := by omega
  have HO := Lib.hid hO
  have HR := Lib.hid hR
  have H1 := Lib.hid hAO
  have H3 := Lib.hid hRO
  clear hA hB hC hO hR hAO hRO
  go_wp2_with (with_reducible refine num_load rfl _ rfl _ rfl _ h0.a rfl ?_)
  go_loopw [7] (fun i wr => ∃ (k : Nat) (g : Nat → Nat), k ≤ 4 ∧ i = .int .i64 k ∧ Acc w wr A A R O x x (cells4 g) ∧ Hid (∀ j, j < k → g j = Nm.wd (Nm.big - 1 - x) j)) (fun i _ => 4 - (intOf i).toNat)
  case atStart => exact ⟨0, fun _ => 0, by omega, rfl, h0, Lib.hid fun j hj => by omega⟩
  case round =>
    obtain ⟨k, g, hk, rfl, hs, HG⟩ := hrel
    by_cases hlt : k < 4
    · have hidx := idx_num x hlt
      have fo := hs.o.free k
      have co := hs.o.word hlt
      have hwl := Nm.wd_lt x k
      have hn := wd_not hx hlt
      generalize Nm.wd x k = v at *
      have HN := Lib.hid hn
      have HW := Lib.hid hwl
      clear hn hwl
      go_wp2_with fail
      rw [xor64 v HW.out, ← HN.out]
      exact ⟨⟨k + 1, _, by omega, by go_num, hs.setWord k (Nm.wd (Nm.big - 1 - x) k) hlt H1.out H1.out H3.out HO.out, upd_next HG⟩, by simp [intOf]; omega⟩
    · obtain rfl : k = 4 := by omega
      have e := cells4_done HG
      rw [e] at hs
      clear e
      go_wp2_with (first
        | (with_reducible refine num_load rfl _ rfl _ rfl _ hs.o rfl ?_)
        | (with_reducible refine num_store rfl _ _ rfl _ _ rfl rfl _ hs.r rfl ?_))
      exact bodyPost_ret (v := .agg (numC (Nm.big - 1 - x))) (num_results Tryz.results124 _ _ _ rfl (hs.r.row _)) rfl ⟨rfl, below_setRow hs.below HR.out _⟩
end Go.Proofs.YthcebnfdapcllaaGreatDoor.NN
namespace Go.Proofs.YthcebnfdapcllaaGreatDoor.NN
open Go.RowKit
set_option maxRecDepth 100000 in
set_option maxHeartbeats 400000 in
theorem ref_add (x y : Nat) (hx : x < Nm.big) (hy : y < Nm.big) (w : World) :
    Calls Tryz.prog 36 #[.agg (numC x), .agg (numC y)] w fun e w' => e = .returned (.tuple #[.agg (numC ((x + y) % Nm.big)), .bool (decide (Nm.big ≤ x + y))]) ∧ Below w.heap.size w w' := by
  go_enter Tryz.func36, Tryz.ntmps36
  go_wp2_with fail
  generalize hw1 : World.alloc _ _ = w1
  have h0 : Acc w w1 w.heap.size (w.heap.size + 1) (w.heap.size + 1 + 1) (w.heap.size + 1 + 1 + 1) x y (numC 0) := by
    rw [← hw1]; exact Acc.start w x y (numC 0)
  clear hw1
  generalize hA : w.heap.size + 1 + 1 + 1 = O at *
  generalize hB : w.heap.size + 1 + 1 = R at *
  generalize hC : w.heap.size + 1 = B at *
  generalize hD : w.heap.size = A at *
  have h1 : A < B := by omega
  have h2 : B < R := by omega
  have h3 : R < O := by omega
  have hAO : A ≠ O := by omega
  have hBO : B ≠ O := by omega
  have hRO : R ≠ O := by omega
  have hO : w.heap.size ≤ O := by omega
  have HO := Lib.hid hO
  have hR : w.heap.size ≤ R := by omega
  have HR := Lib.hid hR
  have H1 := Lib.hid hAO
  have H2 := Lib.hid hBO
  have H3 := Lib.hid hRO
  clear hA hB hC hO hD hR h1 h2 h3 hAO hBO hRO
  go_loopw [7, 8] (fun c i wr => ∃ k : Nat, k ≤ 256 ∧ i = .int .i64 k ∧ c = .int .i64 (Nm.bcarry x y k : Nat) ∧ Acc w wr A B R O x y (numC (Nm.bsum x y k))) (fun _ i _ => 256 - (intOf i).toNat)
  case atStart => exact ⟨0, by omega, rfl, by rw [(Nm.bzero x y).1]; rfl, by rw [(Nm.bzero x y).2]; exact h0⟩
  case round =>
    obtain ⟨k, hk, rfl, rfl, hs⟩ := hrel
    by_cases hlt : k < 256
    · have g1 := Nm.bit_lt x k
      have g2 := Nm.bit_lt y k
      have g3 := Nm.bcarry_le x y k
      go_wp2_with fail
      refine wp_region_quiet_below (by kernel_rfl) (by kernel_rfl) ?_
      repeat (first
        | (go_big_quiet_want; (with_reducible refine quiet_load_num _ rfl _ rfl _ hs.a.cls ?_); (simp only [Act.put, List.setIfInBounds_toArray, List.set_cons_zero, List.set_cons_succ]); go_big_quiet_on)
        | (go_big_quiet_want; (with_reducible refine quiet_load_num _ rfl _ rfl _ hs.b.cls ?_); (simp only [Act.put, List.setIfInBounds_toArray, List.set_cons_zero, List.set_cons_succ]); go_big_quiet_on)
        | go_big_quiet_step ((go_at_call 51; exact Calls.regrown_of (ref_bit _ _ (by omega) _))))
      refine wpQuiet_nil ?_
      intro _ hw'
      obtain ⟨p, hw''⟩ := hw'
      subst hw''
      have hs2 := hs.on (below_regrown wr p.d p.os)
      clear hs
      generalize Sort.grow (redrawn wr p.d) p.os = w2 at *
      clear p
      by_cases hn : ((Nm.bit x k : Int) + (Nm.bit y k : Int) + (Nm.bcarry x y k : Int)) % 2 = 1
      · have e1 := Nm.bsum_one (x := x) (y := y) (i := k) (by omega)
        have E1 := Lib.hid e1
        have e2 := Nm.bcarry_next x y k
        have E2 := Lib.hid e2
        clear e1 e2
        go_wp2_with (first
          | (with_reducible refine num_load rfl _ rfl _ rfl _ hs2.o rfl ?_)
          | (go_at_call 52; refine (ref_set _ _ (by omega) _).mono ?_; rintro e w3 ⟨rfl, hb3⟩)
          | (with_reducible refine num_store rfl _ _ rfl _ _ rfl rfl _ (hs2.on hb3).o rfl ?_))
        go_roundw
        case rel => exact ⟨k + 1, by omega, by go_num, congrArg (Value.int .i64) (by rw [E2.out]; omega), by rw [E1.out]; exact (hs2.on hb3).put _ H1.out H2.out H3.out HO.out⟩
        case measure => simp [intOf]; omega
      · have e1 := Nm.bsum_none (x := x) (y := y) (i := k) (by omega)
        have E1 := Lib.hid e1
        have e2 := Nm.bcarry_next x y k
        have E2 := Lib.hid e2
        clear e1 e2
        go_wp2_with fail
        go_roundw
        case rel => exact ⟨k + 1, by omega, by go_num, congrArg (Value.int .i64) (by rw [E2.out]; omega), by rw [← E1.out]; exact hs2⟩
        case measure => simp [intOf]; omega
    · obtain rfl : k = 256 := by omega
      go_wp2_with (first
        | (with_reducible refine num_load rfl _ rfl _ rfl _ hs.o rfl ?_)
        | (with_reducible refine num_store rfl _ _ rfl _ _ rfl rfl _ hs.r rfl ?_))
      refine bodyPost_ret (v := .tuple #[.agg (numC (Nm.bsum x y 256)), .bool (decide ((Nm.bcarry x y 256 : Int) = 1))]) (num_results2 Tryz.results36 _ _ _ _ rfl rfl (hs.r.row _)) rfl ⟨?_, below_setRow hs.below HR.out _⟩
      rw [Nm.bsum_all hx hy, Nm.bcarry_all hx hy]
      exact congrArg (fun b => Ending.returned (.tuple #[.agg (numC ((x + y) % Nm.big)), .bool b])) (decide_eq_decide.2 (by unfold Nm.big at *; omega))
end Go.Proofs.YthcebnfdapcllaaGreatDoor.NN
namespace Go.Proofs.YthcebnfdapcllaaGreatDoor.NN
open Go.RowKit
set_option maxRecDepth 100000 in
set_option maxHeartbeats 400000 in
theorem ref_not (x : Nat) (hx : x < Nm.big) (w : World) :
    Calls Tryz.prog 53 #[.agg (numC x)] w fun e w' => e = .returned (.agg (numC (Nm.big - 1 - x))) ∧ Below w.heap.size w w' := by
  go_enter Tryz.func53, Tryz.ntmps53
  go_wp2_with fail
  generalize hw1 : World.alloc _ _ = w1
  have h0 : Acc w w1 w.heap.size w.heap.size (w.heap.size + 1) (w.heap.size + 1 + 1) x x (numC 0) := by
    rw [← hw1]; exact Acc.start1 w x (numC 0)
  clear hw1
  generalize hA : w.heap.size + 1 + 1 = O at *
  generalize hB : w.heap.size + 1 = R at *
  generalize hC : w.heap.size = A at *
  have hAO : A ≠ O := by omega
  have hRO : R ≠ O := by omega
  have hO : w.heap.size ≤ O := by omega
  have hR : w.heap.size ≤ R := by omega
  have HO := Lib.hid hO
  have HR := Lib.hid hR
  have H1 := Lib.hid hAO
  have H3 := Lib.hid hRO
  clear hA hB hC hO hR hAO hRO
  go_loopw [4] (fun i wr => ∃ k : Nat, k ≤ 256 ∧ i = .int .i64 k ∧ Acc w wr A A R O x x (numC (Nm.bnot x k))) (fun i _ => 256 - (intOf i).toNat)
  case atStart => exact ⟨0, by omega, rfl, by rw [Nm.bnot_zero]; exact h0⟩
  case round =>
    obtain ⟨k, hk, rfl, hs⟩ := hrel
    by_cases hlt : k < 256
    · have g1 := Nm.bit_lt x k
      by_cases hn : Nm.bit x k = 0
      · have e1 := Nm.bnot_none hn
        have E1 := Lib.hid e1
        have hc := fun w => ref_bit x k hlt w
        rw [hn] at hc
        have HC := Lib.hid hc
        clear e1 hn hc g1
        go_wp2_with (with_reducible refine num_load rfl _ rfl _ rfl _ hs.a rfl ?_)
        refine (HC.out _).mono ?_
        rintro e w2 ⟨rfl, hb2⟩
        have hs2 := hs.on hb2
        go_wp2_with (with_reducible refine num_load rfl _ rfl _ rfl _ hs2.o rfl ?_)
        refine (ref_set _ _ (by omega) _).mono ?_
        rintro e w3 ⟨rfl, hb3⟩
        have hs3 := hs2.on hb3
        go_wp2_with (with_reducible refine num_store rfl _ _ rfl _ _ rfl rfl _ hs3.o rfl ?_)
        go_roundw
        case rel => exact ⟨k + 1, by omega, by go_num, by rw [E1.out]; exact hs3.put _ H1.out H1.out H3.out HO.out⟩
        case measure => simp [intOf]; omega
      · have e1 := Nm.bnot_one hn
        have E1 := Lib.hid e1
        have hc := fun w => ref_bit x k hlt w
        rw [show Nm.bit x k = 1 by omega] at hc
        have HC := Lib.hid hc
        clear e1 hn hc g1
        go_wp2_with (with_reducible refine num_load rfl _ rfl _ rfl _ hs.a rfl ?_)
        refine (HC.out _).mono ?_
        rintro e w2 ⟨rfl, hb2⟩
        have hs2 := hs.on hb2
        go_wp2_with fail
        go_roundw
        case rel => exact ⟨k + 1, by omega, by go_num, by rw [← E1.out]; exact hs2⟩
        case measure => simp [intOf]; omega
    · obtain rfl : k = 256 := by omega
      go_wp2_with (first
        | (with_reducible refine num_load rfl _ rfl _ rfl _ hs.o rfl ?_)
        | (with_reducible refine num_store rfl _ _ rfl _ _ rfl rfl _ hs.r rfl ?_))
      refine bodyPost_ret (v := .agg (numC (Nm.bnot x 256))) (num_results Tryz.results53 _ _ _ rfl (hs.r.row _)) rfl ⟨?_, below_setRow hs.below HR.out _⟩
      rw [Nm.bnot_all hx]
end Go.Proofs.YthcebnfdapcllaaGreatDoor.NN
