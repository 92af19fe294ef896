/-
  Texts of this seat, one behind the other.
-/
import Derived.Test.YteblphnpealefaaZSpMem
import Derived.Test.YteblphnpealefaaBunQ12
import Derived.Laws.Tables
import Derived.Test.YteblphnpealefaaBunQ10
import Derived.BigRegion
/-
  A message is made; regions of plain loads and stores that draw their order.
-/
namespace Go.Proofs.Yteblphnpealefaa
open Go.RowKit Mem Sc Rg2
theorem frame_back (a : Act) (n : Nat) (u : Nat → Value) (hs : a.tmps.size = n) (hd : a.defers = []) (hu : ∀ t, u t = a.eval (.tmp t)) : a = ⟨((List.range n).map u).toArray, []⟩ := by
  obtain ⟨tm, df⟩ := a
  obtain rfl : df = [] := hd
  congr 1
  apply Array.ext
  · simpa using hs
  · intro i h1 h2
    simp only [List.getElem_toArray, List.getElem_map, List.getElem_range, hu]
    simp [Act.eval, Array.getD_eq_getD_getElem?, h1]
theorem built_mm (k : Int) : Try.prog.built 39 [(0, .int .i64 k)] = some (mmA (mmZ k)) := by kernel_rfl
theorem ex_alloc_mm {ρ : Operand → Value} {o : Oper} {w : World} (ho : o.op = .alloc 39) : (execOp ρ o).run Try.prog w = .ok (.value (.pointer (some ⟨w.heap.size, 0, none⟩))) (w.alloc (.cells (mmA (mmZ 0)) 39)) := by
  unfold execOp
  simp only [ho]
  kernel_rfl
section
variable {w : World} {ops : Array Oper} {rest : List Oper} {o o2 o3 : Oper} {a : Act} {Q : Exit → Act → World → Prop}
theorem mm_build (hgd : o.guard = none) (x : Operand) (ho : o.op = .build 39 #[(0, x)]) (k : Int) (hx : a.eval x = .int .i64 k)
    (hk : wpList Try.prog ops Q rest (a.put o.dst (.agg (mmA (mmZ k)))) w) : wpList Try.prog ops Q (o :: rest) a w :=
  wpList_plain hgd fun _ hK => by
    unfold Oper.wp execOp
    simp only [ho, Sem.run_bind]
    rw [show (#[(0, x)] : Array (Nat × Operand)).map (fun (i, x) => (i, a.eval x)) = #[(0, .int .i64 k)] by simp [hx], run_build w 39 _ _ (built_mm k)]
    exact hK _ _ hk
theorem mm_alloc (hgd : o.guard = none) (ho : o.op = .alloc 39)
    (hk : wpList Try.prog ops Q rest (a.put o.dst (.pointer (some ⟨w.heap.size, 0, none⟩))) (w.alloc (.cells (mmA (mmZ 0)) 39))) : wpList Try.prog ops Q (o :: rest) a w :=
  wpList_plain hgd fun _ hK => by
    unfold Oper.wp
    rw [ex_alloc_mm ho]
    exact hK _ _ hk
/-- a message with its kind alone is made in a box of its own -/
theorem mm_make (h1 : o.guard = none) (x : Operand) (b1 : o.op = .build 39 #[(0, x)]) (k : Int) (hx : a.eval x = .int .i64 k) (h2 : o2.guard = none) (b2 : o2.op = .alloc 39) (h3 : o3.guard = none) (y z : Operand) (b3 : o3.op = .store 39 y z)
    (X : Nat) (hX : w.heap.size = X)
    (hy : ((a.put o.dst (.agg (mmA (mmZ k)))).put o2.dst (.pointer (some ⟨X, 0, none⟩))).eval y = .pointer (some ⟨X, 0, none⟩)) (hz : ((a.put o.dst (.agg (mmA (mmZ k)))).put o2.dst (.pointer (some ⟨X, 0, none⟩))).eval z = .agg (mmA (mmZ k)))
    (hk : ∀ w', MmAt w' X (mmZ k) → Below w.heap.size w w' → w'.heap.size = X + 1 → wpList Try.prog ops Q rest (((a.put o.dst (.agg (mmA (mmZ k)))).put o2.dst (.pointer (some ⟨X, 0, none⟩))).put o3.dst undef) w') : wpList Try.prog ops Q (o :: o2 :: o3 :: rest) a w := by
  subst hX
  refine mm_build h1 x b1 k hx (mm_alloc h2 b2 ?_)
  have hn := mm_new w (mmZ 0)
  exact mm_store h3 y z b3 w.heap.size _ (mmZ k) hy hz rfl rfl hn rfl (hk _ (Has.row hn _) (below_setRow ((Below.refl _ _).alloc (Nat.le_refl _) _) (Nat.le_refl _) _) (by rw [setRow_size, World.size_alloc]))
end
/-! ### a region that draws its order, whose operations take addresses, load cells of old blocks and store into one block -/
section
variable {ρ : Operand → Value} {o : Oper} {w : World} {m : Mm}
theorem ex_field {x : Operand} {i off : Nat} {g : Nat} (ho : o.op = .fieldAddr 39 x i) (hx : ρ x = .pointer (some ⟨g, 0, none⟩)) (hf : (Instr.fieldAt 39 (.pointer (some ⟨g, 0, none⟩)) i).run Try.prog w = .ok (.pointer (some ⟨g, off, none⟩)) w) :
    (execOp ρ o).run Try.prog w = .ok (.value (.pointer (some ⟨g, off, none⟩))) w := by
  unfold execOp
  simp only [ho, hx, Sem.run_bind, hf, Result.andThen_ok]
  rfl
end
theorem field0 (w : World) (g : Nat) : (Instr.fieldAt 39 (.pointer (some ⟨g, 0, none⟩)) 0).run Try.prog w = .ok (.pointer (some ⟨g, 0, none⟩)) w := by kernel_rfl
theorem field1 (w : World) (g : Nat) : (Instr.fieldAt 39 (.pointer (some ⟨g, 0, none⟩)) 1).run Try.prog w = .ok (.pointer (some ⟨g, 1, none⟩)) w := by kernel_rfl
theorem field5 (w : World) (g : Nat) : (Instr.fieldAt 39 (.pointer (some ⟨g, 0, none⟩)) 5).run Try.prog w = .ok (.pointer (some ⟨g, 5, none⟩)) w := by kernel_rfl
theorem field6 (w : World) (g : Nat) : (Instr.fieldAt 39 (.pointer (some ⟨g, 0, none⟩)) 6).run Try.prog w = .ok (.pointer (some ⟨g, 6, none⟩)) w := by kernel_rfl
def bVal (m : Mm) (P X : Nat) : Nat → Value → Prop
  | 0, v => v = .pointer (some ⟨P, 1, none⟩)
  | 1, v => v = .int .i64 m.ver
  | 2, v => v = .pointer (some ⟨P, 5, none⟩)
  | 3, v => v = .slice m.ns.a m.ns.n m.ns.c
  | 4, v => v = .pointer (some ⟨P, 6, none⟩)
  | 5, v => v = .agg (bytesV m.stop)
  | 6, v => v = .pointer (some ⟨X, 1, none⟩)
  | 8, v => v = .pointer (some ⟨X, 5, none⟩)
  | 10, v => v = .pointer (some ⟨X, 6, none⟩)
  | _, _ => True
/-- what the new message holds when so much has come up -/
def Bs (m : Mm) (l : Array Bool) : Mm := ⟨m.kind, if l.getD 7 false then m.ver else 0, 0, 0, 0, if l.getD 9 false then m.ns else slZ, if l.getD 11 false then m.stop else z32, slZ⟩
theorem Bs_ok (m : Mm) (ho : m.ok) (l : Array Bool) : (Bs m l).ok := by
  unfold Bs Mm.ok
  simp only
  split
  · exact ho
  · rfl
theorem getD_put (l : Array Bool) (i j : Nat) (h : i ≠ j) : (l.setIfInBounds i true).getD j false = l.getD j false := by
  simp only [Array.getD_eq_getD_getElem?, Array.getElem?_setIfInBounds, if_neg h]
theorem getD_now (l : Array Bool) (i : Nat) (h : i < l.size) : (l.setIfInBounds i true).getD i false = true := by
  simp only [Array.getD_eq_getD_getElem?, Array.getElem?_setIfInBounds, if_pos, h, Option.getD_some]
theorem Bs_none (m : Mm) (l : Array Bool) (h : ∀ i, l.getD i false = false) : Bs m l = mmZ m.kind := by
  unfold Bs
  rw [h 7, h 9, h 11]
  rfl
theorem Bs_other (m : Mm) (l : Array Bool) (i : Nat) (h7 : i ≠ 7) (h9 : i ≠ 9) (h11 : i ≠ 11) : Bs m (l.setIfInBounds i true) = Bs m l := by
  unfold Bs
  rw [getD_put l i 7 h7, getD_put l i 9 h9, getD_put l i 11 h11]
theorem Bs_7 (m : Mm) (l : Array Bool) (h : l.size = 12) : Bs m (l.setIfInBounds 7 true) = { Bs m l with ver := m.ver } := by
  unfold Bs
  rw [getD_now l 7 (by omega), getD_put l 7 9 (by decide), getD_put l 7 11 (by decide)]
  rfl
theorem Bs_9 (m : Mm) (l : Array Bool) (h : l.size = 12) : Bs m (l.setIfInBounds 9 true) = { Bs m l with ns := ⟨m.ns.a, m.ns.n, m.ns.c⟩ } := by
  unfold Bs
  rw [getD_put l 9 7 (by decide), getD_now l 9 (by omega), getD_put l 9 11 (by decide)]
  rfl
theorem Bs_11 (m : Mm) (l : Array Bool) (h : l.size = 12) : Bs m (l.setIfInBounds 11 true) = { Bs m l with stop := m.stop } := by
  unfold Bs
  rw [getD_put l 11 7 (by decide), getD_put l 11 9 (by decide), getD_now l 11 (by omega)]
  rfl
theorem Bs_all (m : Mm) (l : Array Bool) (h : ∀ i, i < 12 → l.getD i false = true) : Bs m l = ⟨m.kind, m.ver, 0, 0, 0, m.ns, m.stop, slZ⟩ := by
  unfold Bs
  rw [h 7 (by omega), h 9 (by omega), h 11 (by omega)]
  rfl
theorem below_setCells {B : Nat} {a b : World} (h : Below B a b) (g o : Nat) (vs : List Value) (hg : B ≤ g) : Below B a (b.setCells g o vs) := by
  obtain ⟨h1, h2, h3, h4⟩ := setCells_rest g vs o b
  exact ⟨h1.trans h.os, h2.trans h.tape, h3.trans h.output, by rw [h4]; exact h.size, fun k hk => (setCells_other g k (by omega) vs o b).trans (h.block k hk)⟩
theorem load_names {w : World} {p : Addr} {a : Option Addr} {n c : Nat} (h : w.cell? p = some (.slice a n c)) : (loadVar 34 p).run Try.prog w = .ok (.slice a n c) w := by
  go_simp
theorem load_hash {w : World} {g off : Nat} {l : List UInt8} (h : w.rangeAt g off (Lib.byteCells l)) (hs : (Lib.byteCells l).length = 32) : (loadVar 36 ⟨g, off, none⟩).run Try.prog w = .ok (.agg (bytesV l)) w := by
  have := run_loadAt_mid w g off 36 (Lib.byteCells l) _ h Try.underlying36 rfl (hinfo.trans (by rw [hs]))
  simp only [Instr.loadAt, Instr.sureAddr, Sem.run_bind, Sem.run_pure, Result.andThen_ok] at this
  exact this
theorem store_int {w : World} {p : Addr} {z : Int} {u : Value} (hf : w.frozen? p = false) (hc : w.cell? p = some u) : (storeVar 3 p (.int .i64 z)).run Try.prog w = .ok () (w.setCell p (.int .i64 z)) := by
  go_simp
theorem store_names {w : World} {p : Addr} {a : Option Addr} {n c : Nat} {u : Value} (hf : w.frozen? p = false) (hc : w.cell? p = some u) : (storeVar 34 p (.slice a n c)).run Try.prog w = .ok () (w.setCell p (.slice a n c)) := by
  go_simp
theorem ex_store_cell {ρ : Operand → Value} {o : Oper} {w w' : World} {t : TypeId} {x y : Operand} {p : Addr} {v : Value} (ho : o.op = .store t x y) (hx : ρ x = .pointer (some p)) (hy : ρ y = v) (hs : (storeVar t p v).run Try.prog w = .ok () w') : (execOp ρ o).run Try.prog w = .ok .skip w' := by
  unfold execOp
  simp only [ho, hx, hy, Instr.storeAt, Instr.sureAddr, Sem.run_bind, Sem.run_pure, Result.andThen_ok, hs]
theorem ex_store_hash {ρ : Operand → Value} {o : Oper} {w : World} {x y : Operand} {g off : Nat} {l : List UInt8} (ho : o.op = .store 36 x y) (hx : ρ x = .pointer (some ⟨g, off, none⟩)) (hy : ρ y = .agg (bytesV l)) (hl : l.length = 32) (ht : w.there g off 32) :
    (execOp ρ o).run Try.prog w = .ok .skip (w.setCells g off (Lib.byteCells l)) := by
  have := run_storeVar_mid (P := Try.prog) w g off 36 (bytesV l) (by rw [hv_size hl]; exact ht) (hinfo.trans (by rw [hv_size hl])) (bytesV_one l)
  rw [bytesV_list] at this
  exact ex_store_cell ho hx hy this
theorem ex_load_cell {ρ : Operand → Value} {o : Oper} {w : World} {t : TypeId} {x : Operand} {p : Addr} {v : Value} (ho : o.op = .load t x) (hx : ρ x = .pointer (some p)) (hv : (loadVar t p).run Try.prog w = .ok v w) : (execOp ρ o).run Try.prog w = .ok (.value v) w := by
  unfold execOp
  simp only [ho, hx, Instr.loadAt, Instr.sureAddr, Sem.run_bind, Sem.run_pure, Result.andThen_ok, hv]
theorem load_int {w : World} {p : Addr} {z : Int} (h : w.cell? p = some (.int .i64 z)) : (loadVar 3 p).run Try.prog w = .ok (.int .i64 z) w := by
  go_simp
section
variable {w : World} {ops : Array Oper} {rest : List Oper} {o o2 : Oper} {a : Act} {Q : Exit → Act → World → Prop} {m : Mm}
theorem mm_kind (h1 : o.guard = none) (x : Operand) (b1 : o.op = .fieldAddr 39 x 0) (g : Nat) (hx : a.eval x = .pointer (some ⟨g, 0, none⟩)) (h2 : o2.guard = none) (y : Operand) (b2 : o2.op = .load 3 y)
    (hy : (a.put o.dst (.pointer (some ⟨g, 0, none⟩))).eval y = .pointer (some ⟨g, 0, none⟩)) (hg : MmAt w g m)
    (hk : wpList Try.prog ops Q rest ((a.put o.dst (.pointer (some ⟨g, 0, none⟩))).put o2.dst (.int .i64 m.kind)) w) : wpList Try.prog ops Q (o :: o2 :: rest) a w := by
  refine wpList_plain h1 fun _ hK => ?_
  unfold Oper.wp
  rw [ex_field b1 hx (field0 w g)]
  refine hK _ _ (wpList_plain h2 fun _ hK2 => ?_)
  unfold Oper.wp
  rw [ex_load_cell b2 hy (load_int hg.kind)]
  exact hK2 _ _ hk
end
end Go.Proofs.Yteblphnpealefaa
/-
  speech: bare.
-/
namespace Go.Proofs.Yteblphnpealefaa
open Go.RowKit Mem Sc Rg2
set_option maxRecDepth 100000 in
set_option maxHeartbeats 2000000 in
theorem bare_1 (m : Mm) (hk : m.kind = 1) (w : World) :
    Calls Try.prog 28 #[.agg (mmA m)] w fun e w' => e = .returned (.agg (mmA ⟨m.kind, m.ver, m.serv, m.height, m.nb, slZ, z32, slZ⟩)) ∧ Below w.heap.size w w' := by
  have t1 : (m.kind == 1) = true := by rw [hk]; rfl
  clear hk
  have hH := mm_new w m
  have hB : Below w.heap.size w (w.alloc (.cells (mmA m) 39)) := (Below.refl _ _).alloc (Nat.le_refl _) _
  go_enter Try.func28, Try.ntmps28
  go_upto_region 1 with fail
  have hR := mm_newz1 w (.cells (mmA m) 39)
  have hP : MmAt ((w.alloc (.cells (mmA m) 39)).alloc (.cells (mmA (mmZ 0)) 39)) w.heap.size m := hH.on ((Below.refl _ _).alloc (Nat.le_refl _) _)
  have hB1 : Below w.heap.size w ((w.alloc (.cells (mmA m) 39)).alloc (.cells (mmA (mmZ 0)) 39)) := hB.alloc hB.size _
  rw [mmZ_lit 0] at hP hB1
  generalize hw1 : World.alloc (World.alloc _ _) _ = w1 at *
  have hX1 : w1.heap.size = w.heap.size + 2 := by rw [← hw1]; simp only [World.size_alloc]
  clear hw1 hH hB
  obtain ⟨P, hPe⟩ : ∃ P, P = w.heap.size := ⟨_, rfl⟩
  obtain ⟨R, hRe⟩ : ∃ R, R = w.heap.size + 1 := ⟨_, rfl⟩
  rw [← hRe] at hR ⊢
  rw [← hPe] at hP ⊢
  obtain ⟨X, hXe⟩ : ∃ X, X = w1.heap.size := ⟨_, rfl⟩
  have c0 := hP.kind
  have hPX : P ≠ X := by omega
  have hRX : R ≠ X := by omega
  have hRw : w.heap.size ≤ R := by omega
  have hXw : w.heap.size ≤ X := by omega
  have HX := Lib.hid hXe.symm
  clear hXe hPe hRe hX1
  refine wp_region_lit ?_
  refine mm_kind rfl _ rfl P rfl rfl _ rfl rfl hP ?_
  refine mm_make rfl _ rfl m.kind rfl rfl rfl rfl _ _ rfl X HX.out rfl rfl ?_
  intro w2 hX hb _
  simp only [Act.put, List.setIfInBounds_toArray, List.set_cons_zero, List.set_cons_succ]
  replace hP := hP.on hb
  replace hR := hR.on hb
  have hB := hB1.trans (hb.mono hB1.size)
  clear hb HX hB1 c0
  have c0 := hP.kind
  have hz0 : (mmA (mmZ 0)).size = 39 := rfl
  have c1 := hP.ver
  have c2 := hP.serv
  have c3 := hP.height
  have c4 := hP.nb
  have f1 := hX.free 1
  have f2 := hX.free 2
  have f3 := hX.free 3
  have f4 := hX.free 4
  have x1 := hX.ver
  have x2 := hX.serv
  have x3 := hX.height
  have x4 := hX.nb
  have hX2 := (((hX.setVer m.ver).setHeight m.height).setServ m.serv).setNb m.nb
  go_wp2_with fail
  go_region
  have hR2 : MmAt (w2.setCell ⟨X, 1, none⟩ (.int .i64 m.ver)) R (mmZ 0) := Has.other hR _ _ hRX
  have hR3 : MmAt ((w2.setCell ⟨X, 1, none⟩ (.int .i64 m.ver)).setCell ⟨X, 3, none⟩ (.int .i64 m.height)) R (mmZ 0) := Has.other hR2 _ _ hRX
  have hR4 : MmAt (((w2.setCell ⟨X, 1, none⟩ (.int .i64 m.ver)).setCell ⟨X, 3, none⟩ (.int .i64 m.height)).setCell ⟨X, 2, none⟩ (.int .i64 m.serv)) R (mmZ 0) := Has.other hR3 _ _ hRX
  have hR5 : MmAt ((((w2.setCell ⟨X, 1, none⟩ (.int .i64 m.ver)).setCell ⟨X, 3, none⟩ (.int .i64 m.height)).setCell ⟨X, 2, none⟩ (.int .i64 m.serv)).setCell ⟨X, 4, none⟩ (.int .i64 m.nb)).drew R (mmZ 0) := Has.other hR4 _ _ hRX
  have hX5 : MmAt ((((w2.setCell ⟨X, 1, none⟩ (.int .i64 m.ver)).setCell ⟨X, 3, none⟩ (.int .i64 m.height)).setCell ⟨X, 2, none⟩ (.int .i64 m.serv)).setCell ⟨X, 4, none⟩ (.int .i64 m.nb)).drew X ⟨m.kind, m.ver, m.serv, m.height, m.nb, slZ, z32, slZ⟩ := hX2
  have hB5 : Below w.heap.size w ((((w2.setCell ⟨X, 1, none⟩ (.int .i64 m.ver)).setCell ⟨X, 3, none⟩ (.int .i64 m.height)).setCell ⟨X, 2, none⟩ (.int .i64 m.serv)).setCell ⟨X, 4, none⟩ (.int .i64 m.nb)).drew := ((((hB.setCell hXw _).setCell hXw _).setCell hXw _).setCell hXw _).drew
  clear hR hR2 hR3 hR4 hX hX2 hB hP c0 c1 c2 c3 c4 f1 f2 f3 f4 x1 x2 x3 x4
  have hR := hR5
  have hX := hX5
  have hB := hB5
  clear hR5 hX5 hB5
  generalize World.drew _ = w3 at *
  generalize hM : (⟨m.kind, m.ver, m.serv, m.height, m.nb, slZ, z32, slZ⟩ : Mm) = M at *
  have hz : (mmA M).size = 39 := mmA_size (by rw [← hM]; first | exact ho | rfl)
  have HM := Lib.hid hM
  clear hM
  go_wp2_with (first
    | (with_reducible refine mm_load rfl _ rfl X rfl hX hz ?_)
    | (with_reducible refine mm_store rfl _ _ rfl R _ _ rfl rfl rfl hz hR hz0 ?_))
  refine bodyPost_ret (v := .agg (mmA M)) (mm_results Try.results28 _ R rfl (Has.row hR _) hz) rfl ⟨by rw [HM.out], below_setRow hB hRw _⟩
set_option maxRecDepth 100000 in
set_option maxHeartbeats 2000000 in
theorem bare_3 (m : Mm) (ho : m.ok) (hk : m.kind = 3) (w : World) :
    Calls Try.prog 28 #[.agg (mmA m)] w fun e w' => e = .returned (.agg (mmA ⟨m.kind, m.ver, 0, 0, 0, m.ns, m.stop, slZ⟩)) ∧ Below w.heap.size w w' := by
  have t1 : (m.kind == 1) = false := by rw [hk]; rfl
  have t3 : (m.kind == 3) = true := by rw [hk]; rfl
  clear hk
  have hH := mm_new w m
  have hB : Below w.heap.size w (w.alloc (.cells (mmA m) 39)) := (Below.refl _ _).alloc (Nat.le_refl _) _
  go_enter Try.func28, Try.ntmps28
  go_upto_region 1 with fail
  have hR := mm_newz1 w (.cells (mmA m) 39)
  have hP : MmAt ((w.alloc (.cells (mmA m) 39)).alloc (.cells (mmA (mmZ 0)) 39)) w.heap.size m := hH.on ((Below.refl _ _).alloc (Nat.le_refl _) _)
  have hB1 : Below w.heap.size w ((w.alloc (.cells (mmA m) 39)).alloc (.cells (mmA (mmZ 0)) 39)) := hB.alloc hB.size _
  rw [mmZ_lit 0] at hP hB1
  generalize hw1 : World.alloc (World.alloc _ _) _ = w1 at *
  have hX1 : w1.heap.size = w.heap.size + 2 := by rw [← hw1]; simp only [World.size_alloc]
  clear hw1 hH hB
  obtain ⟨P, hPe⟩ : ∃ P, P = w.heap.size := ⟨_, rfl⟩
  obtain ⟨R, hRe⟩ : ∃ R, R = w.heap.size + 1 := ⟨_, rfl⟩
  rw [← hRe] at hR ⊢
  rw [← hPe] at hP ⊢
  obtain ⟨X, hXe⟩ : ∃ X, X = w1.heap.size := ⟨_, rfl⟩
  have c0 := hP.kind
  have hPX : P ≠ X := by omega
  have hRX : R ≠ X := by omega
  have hRw : w.heap.size ≤ R := by omega
  have hXw : w.heap.size ≤ X := by omega
  have HX := Lib.hid hXe.symm
  clear hXe hPe hRe hX1
  refine wp_region_lit ?_
  refine mm_kind rfl _ rfl P rfl rfl _ rfl rfl hP ?_
  refine mm_make rfl _ rfl m.kind rfl rfl rfl rfl _ _ rfl X HX.out rfl rfl ?_
  intro w2 hX hb _
  simp only [Act.put, List.setIfInBounds_toArray, List.set_cons_zero, List.set_cons_succ]
  replace hP := hP.on hb
  replace hR := hR.on hb
  have hB := hB1.trans (hb.mono hB1.size)
  clear hb HX hB1 c0
  have c0 := hP.kind
  have hz0 : (mmA (mmZ 0)).size = 39 := rfl
  have c1 := hP.ver
  have c5 := hP.ns
  have r6 := hP.stop
  have s6 := byteCells_32 ho
  go_wp2_with fail
  refine Rg2.wp_region_inv (by kernel_rfl) (fun w' => MmAt w' P m ∧ MmAt w' R (mmZ 0) ∧ Below w.heap.size w w') (fun i v _ => bVal m P X i v) (fun l _ w' => MmAt w' X (Bs m l)) (fun _ _ => True) (fun _ _ => trivial) (fun _ _ _ _ _ _ h => h) (by kernel_rfl) ⟨Has.drew hP, Has.drew hR, hB.drew⟩ ?_ ?_ ?_
  · intro l hl
    rw [Bs_none m l hl]
    exact Has.drew hX
  · intro i o listed a wx ho' hn hdep hinv
    obtain ⟨hP', hR', hB'⟩ := hinv.c
    have hC := hinv.c
    have hI := hinv.i
    have hls := hinv.size
    have hi : i < 12 := (Array.getElem?_eq_some_iff.1 ho').1
    obtain rfl | rfl | rfl | rfl | rfl | rfl | rfl | rfl | rfl | rfl | rfl | rfl : i = 0 ∨ i = 1 ∨ i = 2 ∨ i = 3 ∨ i = 4 ∨ i = 5 ∨ i = 6 ∨ i = 7 ∨ i = 8 ∨ i = 9 ∨ i = 10 ∨ i = 11 := by omega
    all_goals obtain rfl := Option.some.inj ho'
    · refine duty_value (C := fun w' => MmAt w' P m ∧ MmAt w' R (mmZ 0) ∧ Below w.heap.size w w') (S := fun _ _ => True) (R := fun v _ => bVal m P X 0 v) (J := fun _ w' => MmAt w' X (Bs m (listed.setIfInBounds 0 true))) (fun _ _ => trivial) hC (wanted_free rfl) (ex_field rfl (hinv.old' 1 (by kernel_rfl)) (field1 _ _)) ?_ ?_
      · exact rfl
      · show MmAt _ X (Bs m _)
        rw [Bs_other m listed 0 (by decide) (by decide) (by decide)]
        exact hI
    · refine duty_value (C := fun w' => MmAt w' P m ∧ MmAt w' R (mmZ 0) ∧ Below w.heap.size w w') (S := fun _ _ => True) (R := fun v _ => bVal m P X 1 v) (J := fun _ w' => MmAt w' X (Bs m (listed.setIfInBounds 1 true))) (fun _ _ => trivial) hC (wanted_free rfl) (ex_load_cell rfl (hinv.got 0 _ 25 rfl (hdep ⟨0, .data⟩ (by simp) rfl) rfl) (load_int hP'.ver)) ?_ ?_
      · exact rfl
      · show MmAt _ X (Bs m _)
        rw [Bs_other m listed 1 (by decide) (by decide) (by decide)]
        exact hI
    · refine duty_value (C := fun w' => MmAt w' P m ∧ MmAt w' R (mmZ 0) ∧ Below w.heap.size w w') (S := fun _ _ => True) (R := fun v _ => bVal m P X 2 v) (J := fun _ w' => MmAt w' X (Bs m (listed.setIfInBounds 2 true))) (fun _ _ => trivial) hC (wanted_free rfl) (ex_field rfl (hinv.old' 1 (by kernel_rfl)) (field5 _ _)) ?_ ?_
      · exact rfl
      · show MmAt _ X (Bs m _)
        rw [Bs_other m listed 2 (by decide) (by decide) (by decide)]
        exact hI
    · refine duty_value (C := fun w' => MmAt w' P m ∧ MmAt w' R (mmZ 0) ∧ Below w.heap.size w w') (S := fun _ _ => True) (R := fun v _ => bVal m P X 3 v) (J := fun _ w' => MmAt w' X (Bs m (listed.setIfInBounds 3 true))) (fun _ _ => trivial) hC (wanted_free rfl) (ex_load_cell rfl (hinv.got 2 _ 27 rfl (hdep ⟨2, .data⟩ (by simp) rfl) rfl) (load_names hP'.ns)) ?_ ?_
      · exact rfl
      · show MmAt _ X (Bs m _)
        rw [Bs_other m listed 3 (by decide) (by decide) (by decide)]
        exact hI
    · refine duty_value (C := fun w' => MmAt w' P m ∧ MmAt w' R (mmZ 0) ∧ Below w.heap.size w w') (S := fun _ _ => True) (R := fun v _ => bVal m P X 4 v) (J := fun _ w' => MmAt w' X (Bs m (listed.setIfInBounds 4 true))) (fun _ _ => trivial) hC (wanted_free rfl) (ex_field rfl (hinv.old' 1 (by kernel_rfl)) (field6 _ _)) ?_ ?_
      · exact rfl
      · show MmAt _ X (Bs m _)
        rw [Bs_other m listed 4 (by decide) (by decide) (by decide)]
        exact hI
    · refine duty_value (C := fun w' => MmAt w' P m ∧ MmAt w' R (mmZ 0) ∧ Below w.heap.size w w') (S := fun _ _ => True) (R := fun v _ => bVal m P X 5 v) (J := fun _ w' => MmAt w' X (Bs m (listed.setIfInBounds 5 true))) (fun _ _ => trivial) hC (wanted_free rfl) (ex_load_cell rfl (hinv.got 4 _ 29 rfl (hdep ⟨4, .data⟩ (by simp) rfl) rfl) (load_hash hP'.stop s6)) ?_ ?_
      · exact rfl
      · show MmAt _ X (Bs m _)
        rw [Bs_other m listed 5 (by decide) (by decide) (by decide)]
        exact hI
    · refine duty_value (C := fun w' => MmAt w' P m ∧ MmAt w' R (mmZ 0) ∧ Below w.heap.size w w') (S := fun _ _ => True) (R := fun v _ => bVal m P X 6 v) (J := fun _ w' => MmAt w' X (Bs m (listed.setIfInBounds 6 true))) (fun _ _ => trivial) hC (wanted_free rfl) (ex_field rfl (hinv.old' 3 (by kernel_rfl)) (field1 _ _)) ?_ ?_
      · exact rfl
      · show MmAt _ X (Bs m _)
        rw [Bs_other m listed 6 (by decide) (by decide) (by decide)]
        exact hI
    · refine duty_store (C := fun w' => MmAt w' P m ∧ MmAt w' R (mmZ 0) ∧ Below w.heap.size w w') (S := fun _ _ => True) (R := fun v _ => bVal m P X 7 v) (J := fun _ w' => MmAt w' X (Bs m (listed.setIfInBounds 7 true))) (wanted_free rfl) (ex_store_cell rfl (hinv.got 6 _ 31 rfl (hdep ⟨6, .data⟩ (by simp) rfl) rfl) (hinv.got 1 _ 26 rfl (hdep ⟨1, .data⟩ (by simp) rfl) rfl) (store_int (hI.free _) hI.ver)) ⟨Has.other hP' _ _ hPX, Has.other hR' _ _ hRX, hB'.setCell hXw _⟩ trivial trivial ?_
      show MmAt _ X (Bs m _)
      rw [Bs_7 m listed hls]
      exact hI.setVer m.ver
    · refine duty_value (C := fun w' => MmAt w' P m ∧ MmAt w' R (mmZ 0) ∧ Below w.heap.size w w') (S := fun _ _ => True) (R := fun v _ => bVal m P X 8 v) (J := fun _ w' => MmAt w' X (Bs m (listed.setIfInBounds 8 true))) (fun _ _ => trivial) hC (wanted_free rfl) (ex_field rfl (hinv.old' 3 (by kernel_rfl)) (field5 _ _)) ?_ ?_
      · exact rfl
      · show MmAt _ X (Bs m _)
        rw [Bs_other m listed 8 (by decide) (by decide) (by decide)]
        exact hI
    · refine duty_store (C := fun w' => MmAt w' P m ∧ MmAt w' R (mmZ 0) ∧ Below w.heap.size w w') (S := fun _ _ => True) (R := fun v _ => bVal m P X 9 v) (J := fun _ w' => MmAt w' X (Bs m (listed.setIfInBounds 9 true))) (wanted_free rfl) (ex_store_cell rfl (hinv.got 8 _ 32 rfl (hdep ⟨8, .data⟩ (by simp) rfl) rfl) (hinv.got 3 _ 28 rfl (hdep ⟨3, .data⟩ (by simp) rfl) rfl) (store_names (hI.free _) hI.ns)) ⟨Has.other hP' _ _ hPX, Has.other hR' _ _ hRX, hB'.setCell hXw _⟩ trivial trivial ?_
      show MmAt _ X (Bs m _)
      rw [Bs_9 m listed hls]
      exact hI.setNs m.ns.a m.ns.n m.ns.c
    · refine duty_value (C := fun w' => MmAt w' P m ∧ MmAt w' R (mmZ 0) ∧ Below w.heap.size w w') (S := fun _ _ => True) (R := fun v _ => bVal m P X 10 v) (J := fun _ w' => MmAt w' X (Bs m (listed.setIfInBounds 10 true))) (fun _ _ => trivial) hC (wanted_free rfl) (ex_field rfl (hinv.old' 3 (by kernel_rfl)) (field6 _ _)) ?_ ?_
      · exact rfl
      · show MmAt _ X (Bs m _)
        rw [Bs_other m listed 10 (by decide) (by decide) (by decide)]
        exact hI
    · refine duty_store (C := fun w' => MmAt w' P m ∧ MmAt w' R (mmZ 0) ∧ Below w.heap.size w w') (S := fun _ _ => True) (R := fun v _ => bVal m P X 11 v) (J := fun _ w' => MmAt w' X (Bs m (listed.setIfInBounds 11 true))) (wanted_free rfl) (ex_store_hash rfl (hinv.got 10 _ 33 rfl (hdep ⟨10, .data⟩ (by simp) rfl) rfl) (hinv.got 5 _ 30 rfl (hdep ⟨5, .data⟩ (by simp) rfl) rfl) ho (hI.there (Bs_ok m ho listed) 6 32 (by omega))) ⟨setCells_has hP' hPX, setCells_has hR' hRX, below_setCells hB' _ _ _ hXw⟩ trivial trivial ?_
      show MmAt _ X (Bs m _)
      rw [Bs_11 m listed hls]
      exact hI.setStop (Bs_ok m ho listed) ho
  · intro listed a wx hall hinv
    obtain ⟨_, hR', hB'⟩ := hinv.c
    have hI := hinv.i
    rw [Bs_all m listed hall] at hI
    clear hR hX hB hP c0 c1 c5 r6 s6
    have hR := hR'
    have hX := hI
    have hB := hB'
    clear hR' hI hB'
    obtain ⟨u, hu⟩ : ∃ u : Nat → Value, ∀ t, u t = a.eval (.tmp t) := ⟨_, fun _ => rfl⟩
    rw [frame_back a 51 u hinv.tsize hinv.defers hu]
    have f0 := hinv.old' 0 (by kernel_rfl)
    have f1 := hinv.old' 1 (by kernel_rfl)
    have f2 := hinv.old' 2 (by kernel_rfl)
    have f3 := hinv.old' 3 (by kernel_rfl)
    have f4 := hinv.old' 4 (by kernel_rfl)
    have f5 := hinv.old' 5 (by kernel_rfl)
    have f6 := hinv.old' 6 (by kernel_rfl)
    have f7 := hinv.old' 7 (by kernel_rfl)
    have f8 := hinv.old' 8 (by kernel_rfl)
    have f9 := hinv.old' 9 (by kernel_rfl)
    have f10 := hinv.old' 10 (by kernel_rfl)
    have f11 := hinv.old' 11 (by kernel_rfl)
    have f12 := hinv.old' 12 (by kernel_rfl)
    have f13 := hinv.old' 13 (by kernel_rfl)
    have f14 := hinv.old' 14 (by kernel_rfl)
    have f15 := hinv.old' 15 (by kernel_rfl)
    have f16 := hinv.old' 16 (by kernel_rfl)
    have f17 := hinv.old' 17 (by kernel_rfl)
    have f18 := hinv.old' 18 (by kernel_rfl)
    have f19 := hinv.old' 19 (by kernel_rfl)
    have f20 := hinv.old' 20 (by kernel_rfl)
    have f21 := hinv.old' 21 (by kernel_rfl)
    have f22 := hinv.old' 22 (by kernel_rfl)
    have f23 := hinv.old' 23 (by kernel_rfl)
    have f24 := hinv.old' 24 (by kernel_rfl)
    have f34 := hinv.old' 34 (by kernel_rfl)
    have f35 := hinv.old' 35 (by kernel_rfl)
    have f36 := hinv.old' 36 (by kernel_rfl)
    have f37 := hinv.old' 37 (by kernel_rfl)
    have f38 := hinv.old' 38 (by kernel_rfl)
    have f39 := hinv.old' 39 (by kernel_rfl)
    have f40 := hinv.old' 40 (by kernel_rfl)
    have f41 := hinv.old' 41 (by kernel_rfl)
    have f42 := hinv.old' 42 (by kernel_rfl)
    have f43 := hinv.old' 43 (by kernel_rfl)
    have f44 := hinv.old' 44 (by kernel_rfl)
    have f45 := hinv.old' 45 (by kernel_rfl)
    have f46 := hinv.old' 46 (by kernel_rfl)
    have f47 := hinv.old' 47 (by kernel_rfl)
    have f48 := hinv.old' 48 (by kernel_rfl)
    have f49 := hinv.old' 49 (by kernel_rfl)
    have f50 := hinv.old' 50 (by kernel_rfl)
    simp only [← hu] at f0 f1 f2 f3 f4 f5 f6 f7 f8 f9 f10 f11 f12 f13 f14 f15 f16 f17 f18 f19 f20 f21 f22 f23 f24 f34 f35 f36 f37 f38 f39 f40 f41 f42 f43 f44 f45 f46 f47 f48 f49 f50
    simp [Act.eval] at f0 f1 f2 f3 f4 f5 f6 f7 f8 f9 f10 f11 f12 f13 f14 f15 f16 f17 f18 f19 f20 f21 f22 f23 f24 f34 f35 f36 f37 f38 f39 f40 f41 f42 f43 f44 f45 f46 f47 f48 f49 f50
    clear hu hinv hall
    show Exit.inBlock 0 (Exit.then _ _) _ (⟨#[u 0, u 1, u 2, u 3, u 4, u 5, u 6, u 7, u 8, u 9, u 10, u 11, u 12, u 13, u 14, u 15, u 16, u 17, u 18, u 19, u 20, u 21, u 22, u 23, u 24, u 25, u 26, u 27, u 28, u 29, u 30, u 31, u 32, u 33, u 34, u 35, u 36, u 37, u 38, u 39, u 40, u 41, u 42, u 43, u 44, u 45, u 46, u 47, u 48, u 49, u 50], []⟩ : Act) _
    rw [f0, f1, f2, f3, f4, f5, f6, f7, f8, f9, f10, f11, f12, f13, f14, f15, f16, f17, f18, f19, f20, f21, f22, f23, f24, f34, f35, f36, f37, f38, f39, f40, f41, f42, f43, f44, f45, f46, f47, f48, f49, f50]
    clear f0 f1 f2 f3 f4 f5 f6 f7 f8 f9 f10 f11 f12 f13 f14 f15 f16 f17 f18 f19 f20 f21 f22 f23 f24 f34 f35 f36 f37 f38 f39 f40 f41 f42 f43 f44 f45 f46 f47 f48 f49 f50
    generalize hM : (⟨m.kind, m.ver, 0, 0, 0, m.ns, m.stop, slZ⟩ : Mm) = M at *
    have hz : (mmA M).size = 39 := mmA_size (by rw [← hM]; first | exact ho | rfl)
    have HM := Lib.hid hM
    clear hM
    go_wp2_with (first
      | (with_reducible refine mm_load rfl _ rfl X rfl hX hz ?_)
      | (with_reducible refine mm_store rfl _ _ rfl R _ _ rfl rfl rfl hz hR hz0 ?_))
    refine bodyPost_ret (v := .agg (mmA M)) (mm_results Try.results28 _ R rfl (Has.row hR _) hz) rfl ⟨by rw [HM.out], below_setRow hB hRw _⟩
set_option maxRecDepth 100000 in
set_option maxHeartbeats 2000000 in
theorem bare_4 (m : Mm) (ho : m.ok) (hk : m.kind = 4) (w : World) :
    Calls Try.prog 28 #[.agg (mmA m)] w fun e w' => e = .returned (.agg (mmA ⟨m.kind, 0, 0, 0, 0, slZ, z32, m.hs⟩)) ∧ Below w.heap.size w w' := by
  have t1 : (m.kind == 1) = false := by rw [hk]; rfl
  have t3 : (m.kind == 3) = false := by rw [hk]; rfl
  have t4 : (m.kind == 4) = true := by rw [hk]; rfl
  clear hk
  have hH := mm_new w m
  have hB : Below w.heap.size w (w.alloc (.cells (mmA m) 39)) := (Below.refl _ _).alloc (Nat.le_refl _) _
  go_enter Try.func28, Try.ntmps28
  go_upto_region 1 with fail
  have hR := mm_newz1 w (.cells (mmA m) 39)
  have hP : MmAt ((w.alloc (.cells (mmA m) 39)).alloc (.cells (mmA (mmZ 0)) 39)) w.heap.size m := hH.on ((Below.refl _ _).alloc (Nat.le_refl _) _)
  have hB1 : Below w.heap.size w ((w.alloc (.cells (mmA m) 39)).alloc (.cells (mmA (mmZ 0)) 39)) := hB.alloc hB.size _
  rw [mmZ_lit 0] at hP hB1
  generalize hw1 : World.alloc (World.alloc _ _) _ = w1 at *
  have hX1 : w1.heap.size = w.heap.size + 2 := by rw [← hw1]; simp only [World.size_alloc]
  clear hw1 hH hB
  obtain ⟨P, hPe⟩ : ∃ P, P = w.heap.size := ⟨_, rfl⟩
  obtain ⟨R, hRe⟩ : ∃ R, R = w.heap.size + 1 := ⟨_, rfl⟩
  rw [← hRe] at hR ⊢
  rw [← hPe] at hP ⊢
  obtain ⟨X, hXe⟩ : ∃ X, X = w1.heap.size := ⟨_, rfl⟩
  have c0 := hP.kind
  have hPX : P ≠ X := by omega
  have hRX : R ≠ X := by omega
  have hRw : w.heap.size ≤ R := by omega
  have hXw : w.heap.size ≤ X := by omega
  have HX := Lib.hid hXe.symm
  clear hXe hPe hRe hX1
  refine wp_region_lit ?_
  refine mm_kind rfl _ rfl P rfl rfl _ rfl rfl hP ?_
  refine mm_make rfl _ rfl m.kind rfl rfl rfl rfl _ _ rfl X HX.out rfl rfl ?_
  intro w2 hX hb _
  simp only [Act.put, List.setIfInBounds_toArray, List.set_cons_zero, List.set_cons_succ]
  replace hP := hP.on hb
  replace hR := hR.on hb
  have hB := hB1.trans (hb.mono hB1.size)
  clear hb HX hB1 c0
  have c0 := hP.kind
  have hz0 : (mmA (mmZ 0)).size = 39 := rfl
  have c1 := hP.hs ho
  have f1 := hX.free 38
  have cx := hX.hs (mmZ_ok _)
  have hX2 : MmAt _ X ⟨m.kind, 0, 0, 0, 0, slZ, z32, m.hs⟩ := hX.setHs (mmZ_ok _) m.hs.a m.hs.n m.hs.c
  have hR2 : MmAt (w2.setCell ⟨X, 38, none⟩ (.slice m.hs.a m.hs.n m.hs.c)) R (mmZ 0) := Has.other hR _ _ hRX
  replace hB : Below w.heap.size w (w2.setCell ⟨X, 38, none⟩ (.slice m.hs.a m.hs.n m.hs.c)) := hB.setCell hXw _
  clear hX
  go_upto_region 14 with fail
  clear hR c0 c1 f1 cx
  have hX := hX2
  have hR := hR2
  clear hX2 hR2 hP
  generalize World.setCell _ _ _ = w3 at *
  generalize hM : (⟨m.kind, 0, 0, 0, 0, slZ, z32, m.hs⟩ : Mm) = M at *
  have hz : (mmA M).size = 39 := mmA_size (by rw [← hM]; first | exact ho | rfl)
  have HM := Lib.hid hM
  clear hM
  go_wp2_with (first
    | (with_reducible refine mm_load rfl _ rfl X rfl hX hz ?_)
    | (with_reducible refine mm_store rfl _ _ rfl R _ _ rfl rfl rfl hz hR hz0 ?_))
  refine bodyPost_ret (v := .agg (mmA M)) (mm_results Try.results28 _ R rfl (Has.row hR _) hz) rfl ⟨by rw [HM.out], below_setRow hB hRw _⟩
set_option maxRecDepth 100000 in
set_option maxHeartbeats 2000000 in
theorem bare_5 (m : Mm) (hk : m.kind = 5) (w : World) :
    Calls Try.prog 28 #[.agg (mmA m)] w fun e w' => e = .returned (.agg (mmA ⟨m.kind, 0, 0, 0, 0, m.ns, z32, slZ⟩)) ∧ Below w.heap.size w w' := by
  have t1 : (m.kind == 1) = false := by rw [hk]; rfl
  have t3 : (m.kind == 3) = false := by rw [hk]; rfl
  have t4 : (m.kind == 4) = false := by rw [hk]; rfl
  have t5 : (m.kind == 5) = true := by rw [hk]; rfl
  clear hk
  have hH := mm_new w m
  have hB : Below w.heap.size w (w.alloc (.cells (mmA m) 39)) := (Below.refl _ _).alloc (Nat.le_refl _) _
  go_enter Try.func28, Try.ntmps28
  go_upto_region 1 with fail
  have hR := mm_newz1 w (.cells (mmA m) 39)
  have hP : MmAt ((w.alloc (.cells (mmA m) 39)).alloc (.cells (mmA (mmZ 0)) 39)) w.heap.size m := hH.on ((Below.refl _ _).alloc (Nat.le_refl _) _)
  have hB1 : Below w.heap.size w ((w.alloc (.cells (mmA m) 39)).alloc (.cells (mmA (mmZ 0)) 39)) := hB.alloc hB.size _
  rw [mmZ_lit 0] at hP hB1
  generalize hw1 : World.alloc (World.alloc _ _) _ = w1 at *
  have hX1 : w1.heap.size = w.heap.size + 2 := by rw [← hw1]; simp only [World.size_alloc]
  clear hw1 hH hB
  obtain ⟨P, hPe⟩ : ∃ P, P = w.heap.size := ⟨_, rfl⟩
  obtain ⟨R, hRe⟩ : ∃ R, R = w.heap.size + 1 := ⟨_, rfl⟩
  rw [← hRe] at hR ⊢
  rw [← hPe] at hP ⊢
  obtain ⟨X, hXe⟩ : ∃ X, X = w1.heap.size := ⟨_, rfl⟩
  have c0 := hP.kind
  have hPX : P ≠ X := by omega
  have hRX : R ≠ X := by omega
  have hRw : w.heap.size ≤ R := by omega
  have hXw : w.heap.size ≤ X := by omega
  have HX := Lib.hid hXe.symm
  clear hXe hPe hRe hX1
  refine wp_region_lit ?_
  refine mm_kind rfl _ rfl P rfl rfl _ rfl rfl hP ?_
  refine mm_make rfl _ rfl m.kind rfl rfl rfl rfl _ _ rfl X HX.out rfl rfl ?_
  intro w2 hX hb _
  simp only [Act.put, List.setIfInBounds_toArray, List.set_cons_zero, List.set_cons_succ]
  replace hP := hP.on hb
  replace hR := hR.on hb
  have hB := hB1.trans (hb.mono hB1.size)
  clear hb HX hB1 c0
  have c0 := hP.kind
  have hz0 : (mmA (mmZ 0)).size = 39 := rfl
  have c1 := hP.ns
  have f1 := hX.free 5
  have cx := hX.ns
  have hX2 : MmAt _ X ⟨m.kind, 0, 0, 0, 0, m.ns, z32, slZ⟩ := hX.setNs m.ns.a m.ns.n m.ns.c
  have hR2 : MmAt (w2.setCell ⟨X, 5, none⟩ (.slice m.ns.a m.ns.n m.ns.c)) R (mmZ 0) := Has.other hR _ _ hRX
  replace hB : Below w.heap.size w (w2.setCell ⟨X, 5, none⟩ (.slice m.ns.a m.ns.n m.ns.c)) := hB.setCell hXw _
  clear hX
  go_upto_region 14 with fail
  clear hR c0 c1 f1 cx
  have hX := hX2
  have hR := hR2
  clear hX2 hR2 hP
  generalize World.setCell _ _ _ = w3 at *
  generalize hM : (⟨m.kind, 0, 0, 0, 0, m.ns, z32, slZ⟩ : Mm) = M at *
  have hz : (mmA M).size = 39 := mmA_size (by rw [← hM]; first | exact ho | rfl)
  have HM := Lib.hid hM
  clear hM
  go_wp2_with (first
    | (with_reducible refine mm_load rfl _ rfl X rfl hX hz ?_)
    | (with_reducible refine mm_store rfl _ _ rfl R _ _ rfl rfl rfl hz hR hz0 ?_))
  refine bodyPost_ret (v := .agg (mmA M)) (mm_results Try.results28 _ R rfl (Has.row hR _) hz) rfl ⟨by rw [HM.out], below_setRow hB hRw _⟩
set_option maxRecDepth 100000 in
set_option maxHeartbeats 2000000 in
theorem bare_6 (m : Mm) (hk : m.kind = 6) (w : World) :
    Calls Try.prog 28 #[.agg (mmA m)] w fun e w' => e = .returned (.agg (mmA ⟨m.kind, 0, 0, 0, m.nb, slZ, z32, slZ⟩)) ∧ Below w.heap.size w w' := by
  have t1 : (m.kind == 1) = false := by rw [hk]; rfl
  have t3 : (m.kind == 3) = false := by rw [hk]; rfl
  have t4 : (m.kind == 4) = false := by rw [hk]; rfl
  have t5 : (m.kind == 5) = false := by rw [hk]; rfl
  have t6 : (m.kind == 6) = true := by rw [hk]; rfl
  clear hk
  have hH := mm_new w m
  have hB : Below w.heap.size w (w.alloc (.cells (mmA m) 39)) := (Below.refl _ _).alloc (Nat.le_refl _) _
  go_enter Try.func28, Try.ntmps28
  go_upto_region 1 with fail
  have hR := mm_newz1 w (.cells (mmA m) 39)
  have hP : MmAt ((w.alloc (.cells (mmA m) 39)).alloc (.cells (mmA (mmZ 0)) 39)) w.heap.size m := hH.on ((Below.refl _ _).alloc (Nat.le_refl _) _)
  have hB1 : Below w.heap.size w ((w.alloc (.cells (mmA m) 39)).alloc (.cells (mmA (mmZ 0)) 39)) := hB.alloc hB.size _
  rw [mmZ_lit 0] at hP hB1
  generalize hw1 : World.alloc (World.alloc _ _) _ = w1 at *
  have hX1 : w1.heap.size = w.heap.size + 2 := by rw [← hw1]; simp only [World.size_alloc]
  clear hw1 hH hB
  obtain ⟨P, hPe⟩ : ∃ P, P = w.heap.size := ⟨_, rfl⟩
  obtain ⟨R, hRe⟩ : ∃ R, R = w.heap.size + 1 := ⟨_, rfl⟩
  rw [← hRe] at hR ⊢
  rw [← hPe] at hP ⊢
  obtain ⟨X, hXe⟩ : ∃ X, X = w1.heap.size := ⟨_, rfl⟩
  have c0 := hP.kind
  have hPX : P ≠ X := by omega
  have hRX : R ≠ X := by omega
  have hRw : w.heap.size ≤ R := by omega
  have hXw : w.heap.size ≤ X := by omega
  have HX := Lib.hid hXe.symm
  clear hXe hPe hRe hX1
  refine wp_region_lit ?_
  refine mm_kind rfl _ rfl P rfl rfl _ rfl rfl hP ?_
  refine mm_make rfl _ rfl m.kind rfl rfl rfl rfl _ _ rfl X HX.out rfl rfl ?_
  intro w2 hX hb _
  simp only [Act.put, List.setIfInBounds_toArray, List.set_cons_zero, List.set_cons_succ]
  replace hP := hP.on hb
  replace hR := hR.on hb
  have hB := hB1.trans (hb.mono hB1.size)
  clear hb HX hB1 c0
  have c0 := hP.kind
  have hz0 : (mmA (mmZ 0)).size = 39 := rfl
  have c1 := hP.nb
  have f1 := hX.free 4
  have cx := hX.nb
  have hX2 : MmAt _ X ⟨m.kind, 0, 0, 0, m.nb, slZ, z32, slZ⟩ := hX.setNb m.nb
  have hR2 : MmAt (w2.setCell ⟨X, 4, none⟩ (.int .i64 m.nb)) R (mmZ 0) := Has.other hR _ _ hRX
  replace hB : Below w.heap.size w (w2.setCell ⟨X, 4, none⟩ (.int .i64 m.nb)) := hB.setCell hXw _
  clear hX
  go_upto_region 14 with fail
  clear hR c0 c1 f1 cx
  have hX := hX2
  have hR := hR2
  clear hX2 hR2 hP
  generalize World.setCell _ _ _ = w3 at *
  generalize hM : (⟨m.kind, 0, 0, 0, m.nb, slZ, z32, slZ⟩ : Mm) = M at *
  have hz : (mmA M).size = 39 := mmA_size (by rw [← hM]; first | exact ho | rfl)
  have HM := Lib.hid hM
  clear hM
  go_wp2_with (first
    | (with_reducible refine mm_load rfl _ rfl X rfl hX hz ?_)
    | (with_reducible refine mm_store rfl _ _ rfl R _ _ rfl rfl rfl hz hR hz0 ?_))
  refine bodyPost_ret (v := .agg (mmA M)) (mm_results Try.results28 _ R rfl (Has.row hR _) hz) rfl ⟨by rw [HM.out], below_setRow hB hRw _⟩
set_option maxRecDepth 100000 in
set_option maxHeartbeats 2000000 in
theorem bare_7 (m : Mm) (hk : m.kind = 7) (w : World) :
    Calls Try.prog 28 #[.agg (mmA m)] w fun e w' => e = .returned (.agg (mmA ⟨m.kind, 0, 0, 0, m.nb, slZ, z32, slZ⟩)) ∧ Below w.heap.size w w' := by
  have t1 : (m.kind == 1) = false := by rw [hk]; rfl
  have t3 : (m.kind == 3) = false := by rw [hk]; rfl
  have t4 : (m.kind == 4) = false := by rw [hk]; rfl
  have t5 : (m.kind == 5) = false := by rw [hk]; rfl
  have t6 : (m.kind == 6) = false := by rw [hk]; rfl
  have t7 : (m.kind == 7) = true := by rw [hk]; rfl
  clear hk
  have hH := mm_new w m
  have hB : Below w.heap.size w (w.alloc (.cells (mmA m) 39)) := (Below.refl _ _).alloc (Nat.le_refl _) _
  go_enter Try.func28, Try.ntmps28
  go_upto_region 1 with fail
  have hR := mm_newz1 w (.cells (mmA m) 39)
  have hP : MmAt ((w.alloc (.cells (mmA m) 39)).alloc (.cells (mmA (mmZ 0)) 39)) w.heap.size m := hH.on ((Below.refl _ _).alloc (Nat.le_refl _) _)
  have hB1 : Below w.heap.size w ((w.alloc (.cells (mmA m) 39)).alloc (.cells (mmA (mmZ 0)) 39)) := hB.alloc hB.size _
  rw [mmZ_lit 0] at hP hB1
  generalize hw1 : World.alloc (World.alloc _ _) _ = w1 at *
  have hX1 : w1.heap.size = w.heap.size + 2 := by rw [← hw1]; simp only [World.size_alloc]
  clear hw1 hH hB
  obtain ⟨P, hPe⟩ : ∃ P, P = w.heap.size := ⟨_, rfl⟩
  obtain ⟨R, hRe⟩ : ∃ R, R = w.heap.size + 1 := ⟨_, rfl⟩
  rw [← hRe] at hR ⊢
  rw [← hPe] at hP ⊢
  obtain ⟨X, hXe⟩ : ∃ X, X = w1.heap.size := ⟨_, rfl⟩
  have c0 := hP.kind
  have hPX : P ≠ X := by omega
  have hRX : R ≠ X := by omega
  have hRw : w.heap.size ≤ R := by omega
  have hXw : w.heap.size ≤ X := by omega
  have HX := Lib.hid hXe.symm
  clear hXe hPe hRe hX1
  refine wp_region_lit ?_
  refine mm_kind rfl _ rfl P rfl rfl _ rfl rfl hP ?_
  refine mm_make rfl _ rfl m.kind rfl rfl rfl rfl _ _ rfl X HX.out rfl rfl ?_
  intro w2 hX hb _
  simp only [Act.put, List.setIfInBounds_toArray, List.set_cons_zero, List.set_cons_succ]
  replace hP := hP.on hb
  replace hR := hR.on hb
  have hB := hB1.trans (hb.mono hB1.size)
  clear hb HX hB1 c0
  have c0 := hP.kind
  have hz0 : (mmA (mmZ 0)).size = 39 := rfl
  have c1 := hP.nb
  have f1 := hX.free 4
  have cx := hX.nb
  have hX2 : MmAt _ X ⟨m.kind, 0, 0, 0, m.nb, slZ, z32, slZ⟩ := hX.setNb m.nb
  have hR2 : MmAt (w2.setCell ⟨X, 4, none⟩ (.int .i64 m.nb)) R (mmZ 0) := Has.other hR _ _ hRX
  replace hB : Below w.heap.size w (w2.setCell ⟨X, 4, none⟩ (.int .i64 m.nb)) := hB.setCell hXw _
  clear hX
  go_upto_region 14 with fail
  clear hR c0 c1 f1 cx
  have hX := hX2
  have hR := hR2
  clear hX2 hR2 hP
  generalize World.setCell _ _ _ = w3 at *
  generalize hM : (⟨m.kind, 0, 0, 0, m.nb, slZ, z32, slZ⟩ : Mm) = M at *
  have hz : (mmA M).size = 39 := mmA_size (by rw [← hM]; first | exact ho | rfl)
  have HM := Lib.hid hM
  clear hM
  go_wp2_with (first
    | (with_reducible refine mm_load rfl _ rfl X rfl hX hz ?_)
    | (with_reducible refine mm_store rfl _ _ rfl R _ _ rfl rfl rfl hz hR hz0 ?_))
  refine bodyPost_ret (v := .agg (mmA M)) (mm_results Try.results28 _ R rfl (Has.row hR _) hz) rfl ⟨by rw [HM.out], below_setRow hB hRw _⟩
set_option maxRecDepth 100000 in
set_option maxHeartbeats 2000000 in
theorem bare_0 (m : Mm) (h1 : m.kind ≠ 1) (h3 : m.kind ≠ 3) (h4 : m.kind ≠ 4) (h5 : m.kind ≠ 5) (h6 : m.kind ≠ 6) (h7 : m.kind ≠ 7) (w : World) :
    Calls Try.prog 28 #[.agg (mmA m)] w fun e w' => e = .returned (.agg (mmA ⟨m.kind, 0, 0, 0, 0, slZ, z32, slZ⟩)) ∧ Below w.heap.size w w' := by
  have t1 : (m.kind == 1) = false := beq_eq_false_iff_ne.2 h1
  have t3 : (m.kind == 3) = false := beq_eq_false_iff_ne.2 h3
  have t4 : (m.kind == 4) = false := beq_eq_false_iff_ne.2 h4
  have t5 : (m.kind == 5) = false := beq_eq_false_iff_ne.2 h5
  have t6 : (m.kind == 6) = false := beq_eq_false_iff_ne.2 h6
  have t7 : (m.kind == 7) = false := beq_eq_false_iff_ne.2 h7
  clear h1 h3 h4 h5 h6 h7
  have hH := mm_new w m
  have hB : Below w.heap.size w (w.alloc (.cells (mmA m) 39)) := (Below.refl _ _).alloc (Nat.le_refl _) _
  go_enter Try.func28, Try.ntmps28
  go_upto_region 1 with fail
  have hR := mm_newz1 w (.cells (mmA m) 39)
  have hP : MmAt ((w.alloc (.cells (mmA m) 39)).alloc (.cells (mmA (mmZ 0)) 39)) w.heap.size m := hH.on ((Below.refl _ _).alloc (Nat.le_refl _) _)
  have hB1 : Below w.heap.size w ((w.alloc (.cells (mmA m) 39)).alloc (.cells (mmA (mmZ 0)) 39)) := hB.alloc hB.size _
  rw [mmZ_lit 0] at hP hB1
  generalize hw1 : World.alloc (World.alloc _ _) _ = w1 at *
  have hX1 : w1.heap.size = w.heap.size + 2 := by rw [← hw1]; simp only [World.size_alloc]
  clear hw1 hH hB
  obtain ⟨P, hPe⟩ : ∃ P, P = w.heap.size := ⟨_, rfl⟩
  obtain ⟨R, hRe⟩ : ∃ R, R = w.heap.size + 1 := ⟨_, rfl⟩
  rw [← hRe] at hR ⊢
  rw [← hPe] at hP ⊢
  obtain ⟨X, hXe⟩ : ∃ X, X = w1.heap.size := ⟨_, rfl⟩
  have c0 := hP.kind
  have hPX : P ≠ X := by omega
  have hRX : R ≠ X := by omega
  have hRw : w.heap.size ≤ R := by omega
  have hXw : w.heap.size ≤ X := by omega
  have HX := Lib.hid hXe.symm
  clear hXe hPe hRe hX1
  refine wp_region_lit ?_
  refine mm_kind rfl _ rfl P rfl rfl _ rfl rfl hP ?_
  refine mm_make rfl _ rfl m.kind rfl rfl rfl rfl _ _ rfl X HX.out rfl rfl ?_
  intro w2 hX hb _
  simp only [Act.put, List.setIfInBounds_toArray, List.set_cons_zero, List.set_cons_succ]
  replace hP := hP.on hb
  replace hR := hR.on hb
  have hB := hB1.trans (hb.mono hB1.size)
  clear hb HX hB1 c0
  have c0 := hP.kind
  have hz0 : (mmA (mmZ 0)).size = 39 := rfl
  go_upto_region 14 with fail
  clear c0 hP
  have hX : MmAt w2 X ⟨m.kind, 0, 0, 0, 0, slZ, z32, slZ⟩ := hX
  generalize hM : (⟨m.kind, 0, 0, 0, 0, slZ, z32, slZ⟩ : Mm) = M at *
  have hz : (mmA M).size = 39 := mmA_size (by rw [← hM]; first | exact ho | rfl)
  have HM := Lib.hid hM
  clear hM
  go_wp2_with (first
    | (with_reducible refine mm_load rfl _ rfl X rfl hX hz ?_)
    | (with_reducible refine mm_store rfl _ _ rfl R _ _ rfl rfl rfl hz hR hz0 ?_))
  refine bodyPost_ret (v := .agg (mmA M)) (mm_results Try.results28 _ R rfl (Has.row hR _) hz) rfl ⟨by rw [HM.out], below_setRow hB hRw _⟩
theorem bare_at (m : Mm) (ho : m.ok) (w : World) : Calls Try.prog 28 #[.agg (mmA m)] w fun e w' => e = .returned (.agg (mmA m.bare)) ∧ Below w.heap.size w w' := by
  unfold Mm.bare
  by_cases h1 : m.kind = 1
  · simp only [if_pos h1]; exact bare_1 m h1 w
  by_cases h3 : m.kind = 3
  · simp only [if_neg h1, if_pos h3]; exact bare_3 m ho h3 w
  by_cases h4 : m.kind = 4
  · simp only [if_neg h1, if_neg h3, if_pos h4]; exact bare_4 m ho h4 w
  by_cases h5 : m.kind = 5
  · simp only [if_neg h1, if_neg h3, if_neg h4, if_pos h5]; exact bare_5 m h5 w
  by_cases h6 : m.kind = 6
  · simp only [if_neg h1, if_neg h3, if_neg h4, if_neg h5, if_pos (show m.kind = 6 ∨ m.kind = 7 from .inl h6)]; exact bare_6 m h6 w
  by_cases h7 : m.kind = 7
  · simp only [if_neg h1, if_neg h3, if_neg h4, if_neg h5, if_pos (show m.kind = 6 ∨ m.kind = 7 from .inr h7)]; exact bare_7 m h7 w
  simp only [if_neg h1, if_neg h3, if_neg h4, if_neg h5, if_neg (show ¬ (m.kind = 6 ∨ m.kind = 7) from fun h => h.elim h6 h7)]
  exact bare_0 m h1 h3 h4 h5 h6 h7 w
end Go.Proofs.Yteblphnpealefaa
