/-
  A message is made; regions of plain loads and stores that draw their order.
-/
import Derived.Test.YtmpllagaeoolaaaDoorZSpMem
import Derived.Test.YtmpllagaeoolaaaDoorZRegionInv2
import Derived.Laws.Tables
import Derived.Test.YtmpllagaeoolaaaDoorZHdRead
namespace Go.Proofs.YtmpllagaeoolaaaDoor
open Go.RowKit Mem Sc Rg2
theorem frame_back (a : Act) (n : Nat) (u : Nat → Value) (hs : a.tmps.size = n) (hd : a.defers = []) (hu : ∀ t, u t = a.eval (.tmp t)) : a = ⟨((List.range n).map u).toArray, []⟩ := by
  obtain ⟨tm, df⟩ := a
  obtain rfl : df = [] := hd
  congr 1
  apply Array.ext
  · simpa using hs
  · intro i h1 h2
    simp only [List.getElem_toArray, List.getElem_map, List.getElem_range, hu]
    simp [Act.eval, Array.getD_eq_getD_getElem?, h1]
theorem built_mm (k : Int) : Tryd.prog.built 27 [(0, .int .i64 k)] = some (mmA (mmZ k)) := by kernel_rfl
theorem ex_alloc_mm {ρ : Operand → Value} {o : Oper} {w : World} (ho : o.op = .alloc 27) : (execOp ρ o).run Tryd.prog w = .ok (.value (.pointer (some ⟨w.heap.size, 0, none⟩))) (w.alloc (.cells (mmA (mmZ 0)) 27)) := by
  unfold execOp
  simp only [ho]
  kernel_rfl
section
variable {w : World} {ops : Array Oper} {rest : List Oper} {o o2 o3 : Oper} {a : Act} {Q : Exit → Act → World → Prop}
theorem mm_build (hgd : o.guard = none) (x : Operand) (ho : o.op = .build 27 #[(0, x)]) (k : Int) (hx : a.eval x = .int .i64 k)
    (hk : wpList Tryd.prog ops Q rest (a.put o.dst (.agg (mmA (mmZ k)))) w) : wpList Tryd.prog ops Q (o :: rest) a w :=
  wpList_plain hgd fun _ hK => by
    unfold Oper.wp execOp
    simp only [ho, Sem.run_bind]
    rw [show (#[(0, x)] : Array (Nat × Operand)).map (fun (i, x) => (i, a.eval x)) = #[(0, .int .i64 k)] by simp [hx], run_build w 27 _ _ (built_mm k)]
    exact hK _ _ hk
theorem mm_alloc (hgd : o.guard = none) (ho : o.op = .alloc 27)
    (hk : wpList Tryd.prog ops Q rest (a.put o.dst (.pointer (some ⟨w.heap.size, 0, none⟩))) (w.alloc (.cells (mmA (mmZ 0)) 27))) : wpList Tryd.prog ops Q (o :: rest) a w :=
  wpList_plain hgd fun _ hK => by
    unfold Oper.wp
    rw [ex_alloc_mm ho]
    exact hK _ _ hk
/-- a message with its kind alone is made in a box of its own -/
theorem mm_make (h1 : o.guard = none) (x : Operand) (b1 : o.op = .build 27 #[(0, x)]) (k : Int) (hx : a.eval x = .int .i64 k) (h2 : o2.guard = none) (b2 : o2.op = .alloc 27) (h3 : o3.guard = none) (y z : Operand) (b3 : o3.op = .store 27 y z)
    (X : Nat) (hX : w.heap.size = X)
    (hy : ((a.put o.dst (.agg (mmA (mmZ k)))).put o2.dst (.pointer (some ⟨X, 0, none⟩))).eval y = .pointer (some ⟨X, 0, none⟩)) (hz : ((a.put o.dst (.agg (mmA (mmZ k)))).put o2.dst (.pointer (some ⟨X, 0, none⟩))).eval z = .agg (mmA (mmZ k)))
    (hk : ∀ w', MmAt w' X (mmZ k) → Below w.heap.size w w' → w'.heap.size = X + 1 → wpList Tryd.prog ops Q rest (((a.put o.dst (.agg (mmA (mmZ k)))).put o2.dst (.pointer (some ⟨X, 0, none⟩))).put o3.dst undef) w') : wpList Tryd.prog ops Q (o :: o2 :: o3 :: rest) a w := by
  subst hX
  refine mm_build h1 x b1 k hx (mm_alloc h2 b2 ?_)
  have hn := mm_new w (mmZ 0)
  exact mm_store h3 y z b3 w.heap.size _ (mmZ k) hy hz rfl rfl hn rfl (hk _ (Has.row hn _) (below_setRow ((Below.refl _ _).alloc (Nat.le_refl _) _) (Nat.le_refl _) _) (by rw [setRow_size, World.size_alloc]))
end
/-! ### a region that draws its order, whose operations take addresses, load cells of old blocks and store into one block -/
section
variable {ρ : Operand → Value} {o : Oper} {w : World} {m : Mm}
theorem ex_field {x : Operand} {i off : Nat} {g : Nat} (ho : o.op = .fieldAddr 27 x i) (hx : ρ x = .pointer (some ⟨g, 0, none⟩)) (hf : (Instr.fieldAt 27 (.pointer (some ⟨g, 0, none⟩)) i).run Tryd.prog w = .ok (.pointer (some ⟨g, off, none⟩)) w) :
    (execOp ρ o).run Tryd.prog w = .ok (.value (.pointer (some ⟨g, off, none⟩))) w := by
  unfold execOp
  simp only [ho, hx, Sem.run_bind, hf, Result.andThen_ok]
  rfl
end
theorem field0 (w : World) (g : Nat) : (Instr.fieldAt 27 (.pointer (some ⟨g, 0, none⟩)) 0).run Tryd.prog w = .ok (.pointer (some ⟨g, 0, none⟩)) w := by kernel_rfl
theorem field1 (w : World) (g : Nat) : (Instr.fieldAt 27 (.pointer (some ⟨g, 0, none⟩)) 1).run Tryd.prog w = .ok (.pointer (some ⟨g, 1, none⟩)) w := by kernel_rfl
theorem field5 (w : World) (g : Nat) : (Instr.fieldAt 27 (.pointer (some ⟨g, 0, none⟩)) 5).run Tryd.prog w = .ok (.pointer (some ⟨g, 5, none⟩)) w := by kernel_rfl
theorem field6 (w : World) (g : Nat) : (Instr.fieldAt 27 (.pointer (some ⟨g, 0, none⟩)) 6).run Tryd.prog w = .ok (.pointer (some ⟨g, 6, none⟩)) w := by kernel_rfl
def bVal (m : Mm) (P X : Nat) : Nat → Value → Prop
  | 0, v => v = .pointer (some ⟨P, 1, none⟩)
  | 1, v => v = .int .i64 m.ver
  | 2, v => v = .pointer (some ⟨P, 5, none⟩)
  | 3, v => v = .slice m.ns.a m.ns.n m.ns.c
  | 4, v => v = .pointer (some ⟨P, 6, none⟩)
  | 5, v => v = .agg (bytesV m.stop)
  | 6, v => v = .pointer (some ⟨X, 1, none⟩)
  | 8, v => v = .pointer (some ⟨X, 5, none⟩)
  | 10, v => v = .pointer (some ⟨X, 6, none⟩)
  | _, _ => True
/-- what the new message holds when so much has come up -/
def Bs (m : Mm) (l : Array Bool) : Mm := ⟨m.kind, if l.getD 7 false then m.ver else 0, 0, 0, 0, if l.getD 9 false then m.ns else slZ, if l.getD 11 false then m.stop else z32, slZ⟩
theorem Bs_ok (m : Mm) (ho : m.ok) (l : Array Bool) : (Bs m l).ok := by
  unfold Bs Mm.ok
  simp only
  split
  · exact ho
  · rfl
theorem getD_put (l : Array Bool) (i j : Nat) (h : i ≠ j) : (l.setIfInBounds i true).getD j false = l.getD j false := by
  simp only [Array.getD_eq_getD_getElem?, Array.getElem?_setIfInBounds, if_neg h]
theorem getD_now (l : Array Bool) (i : Nat) (h : i < l.size) : (l.setIfInBounds i true).getD i false = true := by
  simp only [Array.getD_eq_getD_getElem?, Array.getElem?_setIfInBounds, if_pos, h, Option.getD_some]
theorem Bs_none (m : Mm) (l : Array Bool) (h : ∀ i, l.getD i false = false) : Bs m l = mmZ m.kind := by
  unfold Bs
  rw [h 7, h 9, h 11]
  rfl
theorem Bs_other (m : Mm) (l : Array Bool) (i : Nat) (h7 : i ≠ 7) (h9 : i ≠ 9) (h11 : i ≠ 11) : Bs m (l.setIfInBounds i true) = Bs m l := by
  unfold Bs
  rw [getD_put l i 7 h7, getD_put l i 9 h9, getD_put l i 11 h11]
theorem Bs_7 (m : Mm) (l : Array Bool) (h : l.size = 12) : Bs m (l.setIfInBounds 7 true) = { Bs m l with ver := m.ver } := by
  unfold Bs
  rw [getD_now l 7 (by omega), getD_put l 7 9 (by decide), getD_put l 7 11 (by decide)]
  rfl
theorem Bs_9 (m : Mm) (l : Array Bool) (h : l.size = 12) : Bs m (l.setIfInBounds 9 true) = { Bs m l with ns := ⟨m.ns.a, m.ns.n, m.ns.c⟩ } := by
  unfold Bs
  rw [getD_put l 9 7 (by decide), getD_now l 9 (by omega), getD_put l 9 11 (by decide)]
  rfl
theorem Bs_11 (m : Mm) (l : Array Bool) (h : l.size = 12) : Bs m (l.setIfInBounds 11 true) = { Bs m l with stop := m.stop } := by
  unfold Bs
  rw [getD_put l 11 7 (by decide), getD_put l 11 9 (by decide), getD_now l 11 (by omega)]
  rfl
theorem Bs_all (m : Mm) (l : Array Bool) (h : ∀ i, i < 12 → l.getD i false = true) : Bs m l = ⟨m.kind, m.ver, 0, 0, 0, m.ns, m.stop, slZ⟩ := by
  unfold Bs
  rw [h 7 (by omega), h 9 (by omega), h 11 (by omega)]
  rfl
theorem below_setCells {B : Nat} {a b : World} (h : Below B a b) (g o : Nat) (vs : List Value) (hg : B ≤ g) : Below B a (b.setCells g o vs) := by
  obtain ⟨h1, h2, h3, h4⟩ := setCells_rest g vs o b
  exact ⟨h1.trans h.os, h2.trans h.tape, h3.trans h.output, by rw [h4]; exact h.size, fun k hk => (setCells_other g k (by omega) vs o b).trans (h.block k hk)⟩
theorem load_names {w : World} {p : Addr} {a : Option Addr} {n c : Nat} (h : w.cell? p = some (.slice a n c)) : (loadVar 22 p).run Tryd.prog w = .ok (.slice a n c) w := by
  go_simp
theorem load_hash {w : World} {g off : Nat} {l : List UInt8} (h : w.rangeAt g off (Lib.byteCells l)) (hs : (Lib.byteCells l).length = 32) : (loadVar 24 ⟨g, off, none⟩).run Tryd.prog w = .ok (.agg (bytesV l)) w := by
  have := run_loadAt_mid w g off 24 (Lib.byteCells l) _ h Tryd.underlying24 rfl (hinfo.trans (by rw [hs]))
  simp only [Instr.loadAt, Instr.sureAddr, Sem.run_bind, Sem.run_pure, Result.andThen_ok] at this
  exact this
theorem store_int {w : World} {p : Addr} {z : Int} {u : Value} (hf : w.frozen? p = false) (hc : w.cell? p = some u) : (storeVar 3 p (.int .i64 z)).run Tryd.prog w = .ok () (w.setCell p (.int .i64 z)) := by
  go_simp
theorem store_names {w : World} {p : Addr} {a : Option Addr} {n c : Nat} {u : Value} (hf : w.frozen? p = false) (hc : w.cell? p = some u) : (storeVar 22 p (.slice a n c)).run Tryd.prog w = .ok () (w.setCell p (.slice a n c)) := by
  go_simp
theorem ex_store_cell {ρ : Operand → Value} {o : Oper} {w w' : World} {t : TypeId} {x y : Operand} {p : Addr} {v : Value} (ho : o.op = .store t x y) (hx : ρ x = .pointer (some p)) (hy : ρ y = v) (hs : (storeVar t p v).run Tryd.prog w = .ok () w') : (execOp ρ o).run Tryd.prog w = .ok .skip w' := by
  unfold execOp
  simp only [ho, hx, hy, Instr.storeAt, Instr.sureAddr, Sem.run_bind, Sem.run_pure, Result.andThen_ok, hs]
theorem ex_store_hash {ρ : Operand → Value} {o : Oper} {w : World} {x y : Operand} {g off : Nat} {l : List UInt8} (ho : o.op = .store 24 x y) (hx : ρ x = .pointer (some ⟨g, off, none⟩)) (hy : ρ y = .agg (bytesV l)) (hl : l.length = 32) (ht : w.there g off 32) :
    (execOp ρ o).run Tryd.prog w = .ok .skip (w.setCells g off (Lib.byteCells l)) := by
  have := run_storeVar_mid (P := Tryd.prog) w g off 24 (bytesV l) (by rw [hv_size hl]; exact ht) (hinfo.trans (by rw [hv_size hl])) (bytesV_one l)
  rw [bytesV_list] at this
  exact ex_store_cell ho hx hy this
theorem ex_load_cell {ρ : Operand → Value} {o : Oper} {w : World} {t : TypeId} {x : Operand} {p : Addr} {v : Value} (ho : o.op = .load t x) (hx : ρ x = .pointer (some p)) (hv : (loadVar t p).run Tryd.prog w = .ok v w) : (execOp ρ o).run Tryd.prog w = .ok (.value v) w := by
  unfold execOp
  simp only [ho, hx, Instr.loadAt, Instr.sureAddr, Sem.run_bind, Sem.run_pure, Result.andThen_ok, hv]
theorem load_int {w : World} {p : Addr} {z : Int} (h : w.cell? p = some (.int .i64 z)) : (loadVar 3 p).run Tryd.prog w = .ok (.int .i64 z) w := by
  go_simp
section
variable {w : World} {ops : Array Oper} {rest : List Oper} {o o2 : Oper} {a : Act} {Q : Exit → Act → World → Prop} {m : Mm}
theorem mm_kind (h1 : o.guard = none) (x : Operand) (b1 : o.op = .fieldAddr 27 x 0) (g : Nat) (hx : a.eval x = .pointer (some ⟨g, 0, none⟩)) (h2 : o2.guard = none) (y : Operand) (b2 : o2.op = .load 3 y)
    (hy : (a.put o.dst (.pointer (some ⟨g, 0, none⟩))).eval y = .pointer (some ⟨g, 0, none⟩)) (hg : MmAt w g m)
    (hk : wpList Tryd.prog ops Q rest ((a.put o.dst (.pointer (some ⟨g, 0, none⟩))).put o2.dst (.int .i64 m.kind)) w) : wpList Tryd.prog ops Q (o :: o2 :: rest) a w := by
  refine wpList_plain h1 fun _ hK => ?_
  unfold Oper.wp
  rw [ex_field b1 hx (field0 w g)]
  refine hK _ _ (wpList_plain h2 fun _ hK2 => ?_)
  unfold Oper.wp
  rw [ex_load_cell b2 hy (load_int hg.kind)]
  exact hK2 _ _ hk
end
end Go.Proofs.YtmpllagaeoolaaaDoor
