import Derived.Test.YthcebnfdapcllaaGreatDoorRHdList
import Derived.Test.YthcebnfdapcllaaGreatDoorRBunQ34
import Derived.Test.YthcebnfdapcllaaGreatDoorRBunQ36
import Derived.Test.YthcebnfdapcllaaGreatDoorRHdSeekM
import Derived.Test.YthcebnfdapcllaaGreatDoorRBunQ27
import Derived.Maps.AppendAt
namespace Go.Proofs.YthcebnfdapcllaaGreatDoor
open Go.RowKit Mem Sc
structure Sp where
  x : NN.Pt
  prev : List UInt8
  a : Option Addr
  n : Nat
  c : Nat
def Sp.ok (s : Sp) : Prop := s.prev.length = 32
def spC (s : Sp) : List Value := .int .i64 s.x.h :: .int .i64 s.x.b :: .int .i64 s.x.t :: .int .i64 s.x.f :: .int .i64 s.x.r :: (Lib.byteCells s.prev ++ [.slice s.a s.n s.c])
def spA (s : Sp) : Array Value := (spC s).toArray
def spZ : Sp := ⟨⟨0, 0, 0, 0, 0⟩, z32, none, 0, 0⟩
theorem spC_length {s : Sp} (h : s.ok) : (spC s).length = 38 := by simp [spC, Lib.byteCells_length, show s.prev.length = 32 from h]
theorem spA_size {s : Sp} (h : s.ok) : (spA s).size = 38 := by show (spC s).toArray.size = 38; rw [List.size_toArray]; exact spC_length h
theorem spC_one (s : Sp) : ∀ v ∈ spC s, v.oneCell' = true := by
  intro v hv
  simp only [spC, List.mem_cons, List.mem_append] at hv
  rcases hv with rfl | rfl | rfl | rfl | rfl | hv | hv
  · rfl
  · rfl
  · rfl
  · rfl
  · rfl
  · exact Lib.byteCells_one _ v hv
  · simp at hv; subst hv; rfl
theorem spA_one (s : Sp) : (spA s).all (·.oneCell') = true := all_oneCell_toArray (spC_one s)
theorem spinfo : (Tryz.prog.info? 60).map (·.size) = some 38 := by kernel_rfl
theorem spZ_ok : spZ.ok := rfl
def SpAt (w : World) (k : Nat) (s : Sp) : Prop := Has w k (spA s) 60
section
variable {w w' : World} {k : Nat} {s : Sp}
theorem SpAt.lt (h : SpAt w k s) : k < w.heap.size := Has.lt h
theorem SpAt.on (h : SpAt w k s) (hb : Below w.heap.size w w') : SpAt w' k s := below_has hb h h.lt
theorem SpAt.below {B : Nat} (h : SpAt w k s) (hb : Below B w w') (hk : k < B) : SpAt w' k s := below_has hb h hk
theorem SpAt.free (h : SpAt w k s) (j : Nat) : w.frozen? ⟨k, j, none⟩ = false := Has.free h j
theorem spA_at (s : Sp) (j : Nat) : (spA s)[j]? = (spC s)[j]? := by unfold spA; rw [List.getElem?_toArray]
theorem SpAt.c0 (h : SpAt w k s) {z : Int} (e : Hid (s.x.h = z)) : w.cell? ⟨k, 0, none⟩ = some (.int .i64 z) := (Has.cell h 0).trans (by rw [← e.out, spA_at]; rfl)
theorem SpAt.c1 (h : SpAt w k s) {z : Int} (e : Hid (s.x.b = z)) : w.cell? ⟨k, 1, none⟩ = some (.int .i64 z) := (Has.cell h 1).trans (by rw [← e.out, spA_at]; rfl)
theorem SpAt.c2 (h : SpAt w k s) {z : Int} (e : Hid (s.x.t = z)) : w.cell? ⟨k, 2, none⟩ = some (.int .i64 z) := (Has.cell h 2).trans (by rw [← e.out, spA_at]; rfl)
theorem SpAt.c3 (h : SpAt w k s) {z : Int} (e : Hid (s.x.f = z)) : w.cell? ⟨k, 3, none⟩ = some (.int .i64 z) := (Has.cell h 3).trans (by rw [← e.out, spA_at]; rfl)
theorem SpAt.c4 (h : SpAt w k s) {z : Int} (e : Hid (s.x.r = z)) : w.cell? ⟨k, 4, none⟩ = some (.int .i64 z) := (Has.cell h 4).trans (by rw [← e.out, spA_at]; rfl)
theorem spC_prev (j : Nat) (u : Value) (hu : (Lib.byteCells s.prev)[j]? = some u) : (spC s)[5 + j]? = some u := by
  rw [show 5 + j = j + 1 + 1 + 1 + 1 + 1 by omega]
  show (Lib.byteCells s.prev ++ _)[j]? = some u
  rw [List.getElem?_append_left (List.getElem?_eq_some_iff.1 hu).1]
  exact hu
theorem spC_last (h : s.ok) : (spC s)[37]? = some (.slice s.a s.n s.c) := by
  show (Lib.byteCells s.prev ++ [Value.slice s.a s.n s.c])[32]? = _
  have h32 : (Lib.byteCells s.prev).length = 32 := byteCells_32 h
  rw [List.getElem?_append_right (by omega), h32]
  rfl
theorem SpAt.prev (h : SpAt w k s) : w.rangeAt k 5 (Lib.byteCells s.prev) := fun j u hu => by
  rw [Has.cell h (5 + j), spA_at]
  exact spC_prev j u hu
theorem SpAt.sl (h : SpAt w k s) (ho : s.ok) : w.cell? ⟨k, 37, none⟩ = some (.slice s.a s.n s.c) := by
  rw [Has.cell h 37, spA_at]
  exact spC_last ho
theorem SpAt.pt (h : SpAt w k s) : w.rangeAt k 0 (NN.ptA s.x).toList := fun j u hu => by
  rw [Nat.zero_add, Has.cell h j, spA_at]
  have hj : j < 5 := (List.getElem?_eq_some_iff.1 hu).1
  rw [← hu]
  match j, hj with
  | 0, _ => rfl
  | 1, _ => rfl
  | 2, _ => rfl
  | 3, _ => rfl
  | 4, _ => rfl
theorem spA_setH (z : Int) : (spA s).setIfInBounds 0 (.int .i64 z) = spA { s with x := { s.x with h := z } } := by simp [spA, spC]
theorem spA_setB (z : Int) : (spA s).setIfInBounds 1 (.int .i64 z) = spA { s with x := { s.x with b := z } } := by simp [spA, spC]
theorem spA_setT (z : Int) : (spA s).setIfInBounds 2 (.int .i64 z) = spA { s with x := { s.x with t := z } } := by simp [spA, spC]
theorem spA_setF (z : Int) : (spA s).setIfInBounds 3 (.int .i64 z) = spA { s with x := { s.x with f := z } } := by simp [spA, spC]
theorem spA_setR (z : Int) : (spA s).setIfInBounds 4 (.int .i64 z) = spA { s with x := { s.x with r := z } } := by simp [spA, spC]
theorem spA_setS (ho : s.ok) (a : Option Addr) (n c : Nat) : (spA s).setIfInBounds 37 (.slice a n c) = spA { s with a := a, n := n, c := c } := by
  unfold spA
  rw [List.setIfInBounds_toArray]
  congr 1
  have h32 : (Lib.byteCells s.prev).length = 32 := byteCells_32 ho
  have e : (Lib.byteCells s.prev ++ [Value.slice s.a s.n s.c]).set 32 (.slice a n c) = Lib.byteCells s.prev ++ [Value.slice a n c] := by
    rw [List.set_append_right _ _ (by omega), h32]; rfl
  show _ :: _ :: _ :: _ :: _ :: (Lib.byteCells s.prev ++ [Value.slice s.a s.n s.c]).set 32 (.slice a n c) = _
  rw [e]
  rfl
theorem SpAt.setH (h : SpAt w k s) (z : Int) : SpAt (w.setCell ⟨k, 0, none⟩ (.int .i64 z)) k { s with x := { s.x with h := z } } := by unfold SpAt; rw [← spA_setH]; exact Has.set h _
theorem SpAt.setB (h : SpAt w k s) (z : Int) : SpAt (w.setCell ⟨k, 1, none⟩ (.int .i64 z)) k { s with x := { s.x with b := z } } := by unfold SpAt; rw [← spA_setB]; exact Has.set h _
theorem SpAt.setT (h : SpAt w k s) (z : Int) : SpAt (w.setCell ⟨k, 2, none⟩ (.int .i64 z)) k { s with x := { s.x with t := z } } := by unfold SpAt; rw [← spA_setT]; exact Has.set h _
theorem SpAt.setF (h : SpAt w k s) (z : Int) : SpAt (w.setCell ⟨k, 3, none⟩ (.int .i64 z)) k { s with x := { s.x with f := z } } := by unfold SpAt; rw [← spA_setF]; exact Has.set h _
theorem SpAt.setR (h : SpAt w k s) (z : Int) : SpAt (w.setCell ⟨k, 4, none⟩ (.int .i64 z)) k { s with x := { s.x with r := z } } := by unfold SpAt; rw [← spA_setR]; exact Has.set h _
theorem SpAt.setS (h : SpAt w k s) (ho : s.ok) (a : Option Addr) (n c : Nat) : SpAt (w.setCell ⟨k, 37, none⟩ (.slice a n c)) k { s with a := a, n := n, c := c } := by unfold SpAt; rw [← spA_setS ho]; exact Has.set h _
theorem SpAt.other (h : SpAt w k s) (p : Addr) (u : Value) (hn : k ≠ p.block) : SpAt (w.setCell p u) k s := Has.other h p u hn
theorem sp_new (w : World) (s : Sp) : SpAt (w.alloc (.cells (spA s) 60)) w.heap.size s := Has.new _ _
theorem sp_newz (w : World) : SpAt (w.alloc (.cells #[.int .i64 0, .int .i64 0, .int .i64 0, .int .i64 0, .int .i64 0, .int .u8 0, .int .u8 0, .int .u8 0, .int .u8 0, .int .u8 0, .int .u8 0, .int .u8 0, .int .u8 0, .int .u8 0, .int .u8 0, .int .u8 0, .int .u8 0, .int .u8 0, .int .u8 0, .int .u8 0, .int .u8 0, .int .u8 0, .int .u8 0, .int .u8 0, .int .u8 0, .int .u8 0, .int .u8 0, .int .u8 0, .int .u8 0, .int .u8 0, .int .u8 0, .int .u8 0, .int .u8 0, .int .u8 0, .int .u8 0, .int .u8 0, .int .u8 0, .slice none 0 0] 60)) w.heap.size spZ := sp_new w spZ
theorem SpAt.cls (h : SpAt w k s) : ∀ w', (∃ r : Regrown, w' = Sort.grow (redrawn w r.d) r.os) → SpAt w' k s := fun w' ⟨r, e⟩ => by rw [e]; exact h.on (below_regrown w r.d r.os)
end
section
variable {w : World} {k : Nat} {s : Sp} {ops : Array Oper} {rest : List Oper} {o : Oper} {a : Act} {Q : Exit → Act → World → Prop}
theorem sp_load (hgd : o.guard = none) (x : Operand) (ho : o.op = .load 60 x) (g : Nat) (hx : a.eval x = .pointer (some ⟨g, 0, none⟩)) (hg : SpAt w g s) (hs : (spA s).size = 38)
    (hk : wpList Tryz.prog ops Q rest (a.put o.dst (.agg (spA s))) w) : wpList Tryz.prog ops Q (o :: rest) a w :=
  wpList_load_row hgd 60 x ho g hx 60 (spA s) (0, 0) _ (Has.out hg) Tryz.underlying60 rfl (spinfo.trans (by rw [hs])) hk
theorem sp_store (hgd : o.guard = none) (x y : Operand) (ho : o.op = .store 60 x y) (g : Nat) (cz : Array Value) (s' : Sp) (hx : a.eval x = .pointer (some ⟨g, 0, none⟩)) (hy : a.eval y = .agg cz) (e : cz = spA s') (hs' : (spA s').size = 38) (hg : SpAt w g s) (hs : (spA s).size = 38)
    (hk : wpList Tryz.prog ops Q rest (a.put o.dst undef) (w.setRow g (spA s'))) : wpList Tryz.prog ops Q (o :: rest) a w := by
  subst e
  exact wpList_store_row hgd 60 x y ho g (spA s') hx hy 60 (spA s) (Has.out hg) (spinfo.trans (by rw [hs'])) (by rw [hs, hs']) (spA_one s') hk
theorem run_pt (w : World) (g : Nat) (x : NN.Pt) (h : w.rangeAt g 0 (NN.ptA x).toList) : (Instr.loadAt 57 (.pointer (some ⟨g, 0, none⟩))).run Tryz.prog w = .ok (.agg (NN.ptA x)) w :=
  run_loadAt_mid w g 0 57 (NN.ptA x).toList _ h Tryz.underlying57 rfl NN.ptinfo
theorem quiet_pt {C : World → Prop} {K : Act → Prop} (y : Operand) (ho : o.op = .load 57 y) (g : Nat) (hx : a.eval y = .pointer (some ⟨g, 0, none⟩)) (x : NN.Pt) (hC : ∀ w', C w' → w'.rangeAt g 0 (NN.ptA x).toList)
    (hk : K (a.put o.dst (.agg (NN.ptA x)))) : o.quiet Tryz.prog a C K :=
  ⟨_, fun w' hw' => by
    unfold Oper.quietAt
    have this : (execOp a.eval o).run Tryz.prog w' = .ok (.value (.agg (NN.ptA x))) w' := by
      unfold execOp
      simp only [ho, hx, Sem.run_bind, run_pt w' g x (hC w' hw'), Result.andThen_ok]
      rfl
    rw [this]
    exact ⟨rfl, rfl⟩, hk⟩
end
theorem sp_results {w : World} {s : Sp} {fn : Func} {p : Tmp} (hf : fn.results = #[.cell p 60]) (tmps : Array Value) (g : Nat) (hp : tmps.getD p undef = .pointer (some ⟨g, 0, none⟩)) (hg : SpAt w g s) (hs : (spA s).size = 38) :
    (results fn tmps).run Tryz.prog w = .ok (.agg (spA s)) w :=
  results_cell_row hf tmps w g 60 (spA s) (0, 0) _ hp (Has.out hg) Tryz.underlying60 rfl (spinfo.trans (by rw [hs]))
structure Gt where
  h : Int
  v : Int
structure Ck where
  h : Int
  id : List UInt8
def gtC (g : Gt) : List Value := [.int .i64 g.h, .int .i64 g.v]
def ckC (c : Ck) : List Value := .int .i64 c.h :: Lib.byteCells c.id
def gtA (g : Gt) : Array Value := (gtC g).toArray
def ckA (c : Ck) : Array Value := (ckC c).toArray
def gtZ : Gt := ⟨0, 0⟩
def ckZ : Ck := ⟨0, z32⟩
def GatesAt (w : World) (a : Option Addr) (gs : List Gt) : Prop :=
  0 < gs.length → ∃ ab ao, a = some ⟨ab, ao, none⟩ ∧ ab < w.heap.size ∧ ∀ i (hi : i < gs.length), w.rangeAt ab (ao + i * 2) (gtC gs[i])
def ChecksAt (w : World) (a : Option Addr) (cs : List Ck) : Prop :=
  0 < cs.length → ∃ ab ao, a = some ⟨ab, ao, none⟩ ∧ ab < w.heap.size ∧ ∀ i (hi : i < cs.length), cs[i].id.length = 32 ∧ w.rangeAt ab (ao + i * 33) (ckC cs[i])
theorem gtC_pos (g : Gt) : 0 < (gtC g).length := by simp [gtC]
theorem ckC_pos (c : Ck) : 0 < (ckC c).length := by simp [ckC]
theorem ckC_length {c : Ck} (h : c.id.length = 32) : (ckC c).length = 33 := by simp [ckC, Lib.byteCells_length, h]
theorem ckA_size {c : Ck} (h : c.id.length = 32) : (ckA c).size = 33 := by show (ckC c).toArray.size = 33; rw [List.size_toArray]; exact ckC_length h
theorem ckA_one (c : Ck) : (ckA c).all (·.oneCell') = true := all_oneCell_toArray (by
  intro v hv
  simp only [ckC, List.mem_cons] at hv
  rcases hv with rfl | hv
  · rfl
  · exact Lib.byteCells_one _ v hv)
theorem gtA_one (g : Gt) : (gtA g).all (·.oneCell') = true := all_oneCell_toArray (by
  intro v hv
  simp only [gtC, List.mem_cons, List.not_mem_nil, or_false] at hv
  rcases hv with rfl | rfl <;> rfl)
section
variable {w w' : World} {a : Option Addr} {gs : List Gt} {cs : List Ck}
theorem GatesAt.below (h : GatesAt w a gs) (hb : Below w.heap.size w w') : GatesAt w' a gs := fun h0 => by
  obtain ⟨ab, ao, ha, hlt, hc⟩ := h h0
  exact ⟨ab, ao, ha, Nat.lt_of_lt_of_le hlt hb.size, fun i hi => range_below (hc i hi) hb (gtC_pos _)⟩
theorem ChecksAt.below (h : ChecksAt w a cs) (hb : Below w.heap.size w w') : ChecksAt w' a cs := fun h0 => by
  obtain ⟨ab, ao, ha, hlt, hc⟩ := h h0
  exact ⟨ab, ao, ha, Nat.lt_of_lt_of_le hlt hb.size, fun i hi => ⟨(hc i hi).1, range_below (hc i hi).2 hb (ckC_pos _)⟩⟩
end
theorem gtinfo : (Tryz.prog.info? 82).map (·.size) = some 2 := by kernel_rfl
theorem ckinfo : (Tryz.prog.info? 85).map (·.size) = some 33 := by kernel_rfl
def GtAt (w : World) (k : Nat) (g : Gt) : Prop := Has w k (gtA g) 82
def CkAt (w : World) (k : Nat) (c : Ck) : Prop := Has w k (ckA c) 85
section
variable {w : World} {k : Nat} {g : Gt} {c : Ck}
theorem GtAt.c0 (h : GtAt w k g) : w.cell? ⟨k, 0, none⟩ = some (.int .i64 g.h) := Has.cell h 0
theorem GtAt.c1 (h : GtAt w k g) : w.cell? ⟨k, 1, none⟩ = some (.int .i64 g.v) := Has.cell h 1
theorem CkAt.c0 (h : CkAt w k c) : w.cell? ⟨k, 0, none⟩ = some (.int .i64 c.h) := Has.cell h 0
theorem CkAt.id (h : CkAt w k c) : w.rangeAt k 1 (Lib.byteCells c.id) := fun j u hu => by
  rw [Has.cell h (1 + j)]
  show (ckC c).toArray[1 + j]? = some u
  rw [List.getElem?_toArray, Nat.add_comm]
  exact hu
theorem gt_newz (w : World) : GtAt (w.alloc (.cells #[.int .i64 0, .int .i64 0] 82)) w.heap.size gtZ := Has.new _ _
theorem ck_newz (w : World) : CkAt (w.alloc (.cells #[.int .i64 0, .int .u8 0, .int .u8 0, .int .u8 0, .int .u8 0, .int .u8 0, .int .u8 0, .int .u8 0, .int .u8 0, .int .u8 0, .int .u8 0, .int .u8 0, .int .u8 0, .int .u8 0, .int .u8 0, .int .u8 0, .int .u8 0, .int .u8 0, .int .u8 0, .int .u8 0, .int .u8 0, .int .u8 0, .int .u8 0, .int .u8 0, .int .u8 0, .int .u8 0, .int .u8 0, .int .u8 0, .int .u8 0, .int .u8 0, .int .u8 0, .int .u8 0, .int .u8 0] 85)) w.heap.size ckZ := Has.new (ckA ckZ) _
variable {ops : Array Oper} {rest : List Oper} {o : Oper} {a : Act} {Q : Exit → Act → World → Prop}
theorem gt_load_mid (hgd : o.guard = none) (x : Operand) (ho : o.op = .load 82 x) (b off : Nat) (hx : a.eval x = .pointer (some ⟨b, off, none⟩)) (g : Gt) (hg : w.rangeAt b off (gtC g))
    (hk : wpList Tryz.prog ops Q rest (a.put o.dst (.agg (gtA g))) w) : wpList Tryz.prog ops Q (o :: rest) a w :=
  wpList_load_mid hgd 82 x ho b off hx (gtC g) _ hg Tryz.underlying82 rfl gtinfo hk
theorem ck_load_mid (hgd : o.guard = none) (x : Operand) (ho : o.op = .load 85 x) (b off : Nat) (hx : a.eval x = .pointer (some ⟨b, off, none⟩)) (c : Ck) (hg : w.rangeAt b off (ckC c)) (hs : (ckC c).length = 33)
    (hk : wpList Tryz.prog ops Q rest (a.put o.dst (.agg (ckA c))) w) : wpList Tryz.prog ops Q (o :: rest) a w :=
  wpList_load_mid hgd 85 x ho b off hx (ckC c) _ hg Tryz.underlying85 rfl (ckinfo.trans (by rw [hs])) hk
theorem gt_store (hgd : o.guard = none) (x y : Operand) (ho : o.op = .store 82 x y) (b : Nat) (g' : Gt) (hx : a.eval x = .pointer (some ⟨b, 0, none⟩)) (hy : a.eval y = .agg (gtA g')) (hg : GtAt w b g)
    (hk : wpList Tryz.prog ops Q rest (a.put o.dst undef) (w.setRow b (gtA g'))) : wpList Tryz.prog ops Q (o :: rest) a w :=
  wpList_store_row hgd 82 x y ho b (gtA g') hx hy 82 (gtA g) (Has.out hg) gtinfo rfl (gtA_one g') hk
theorem ck_store (hgd : o.guard = none) (x y : Operand) (ho : o.op = .store 85 x y) (b : Nat) (c' : Ck) (hx : a.eval x = .pointer (some ⟨b, 0, none⟩)) (hy : a.eval y = .agg (ckA c')) (hs' : (ckA c').size = 33) (hg : CkAt w b c) (hs : (ckA c).size = 33)
    (hk : wpList Tryz.prog ops Q rest (a.put o.dst undef) (w.setRow b (ckA c'))) : wpList Tryz.prog ops Q (o :: rest) a w :=
  wpList_store_row hgd 85 x y ho b (ckA c') hx hy 85 (ckA c) (Has.out hg) (ckinfo.trans (by rw [hs'])) (by rw [hs, hs']) (ckA_one c') hk
end
end Go.Proofs.YthcebnfdapcllaaGreatDoor
namespace Go.Proofs.YthcebnfdapcllaaGreatDoor
open Go.RowKit Mem Sc
section
variable {w : World} {ops : Array Oper} {rest : List Oper} {o : Oper} {a : Act} {Q : Exit → Act → World → Prop}
theorem hl_load_mid_g (hw : Region.wanted o (yielded ops a.tmps) = true) (x : Operand) (ho : o.op = .load 28 x) (g off : Nat) (hx : a.eval x = .pointer (some ⟨g, off, none⟩)) (l : List UInt8) (hg : w.rangeAt g off (Lib.byteCells l)) (hs : (Lib.byteCells l).length = 32)
    (h : wpList Tryz.prog ops Q rest (a.put o.dst (.agg (bytesV l))) w) : wpList Tryz.prog ops Q (o :: rest) a w :=
  BigFrame.wpList_want hw fun _ hK => by
    unfold Oper.wp execOp
    simp only [ho, hx, Sem.run_bind, run_loadAt_mid w g off 28 (Lib.byteCells l) _ hg Tryz.underlying28 rfl (hinfo.trans (by rw [hs])), Result.andThen_ok]
    rw [← bytesV_list] at *
    exact hK _ _ h
theorem hl_load_g (hw : Region.wanted o (yielded ops a.tmps) = true) (x : Operand) (ho : o.op = .load 28 x) (g : Nat) (hx : a.eval x = .pointer (some ⟨g, 0, none⟩)) (l : List UInt8) (hg : Has w g (bytesV l) 28) (hs : l.length = 32)
    (h : wpList Tryz.prog ops Q rest (a.put o.dst (.agg (bytesV l))) w) : wpList Tryz.prog ops Q (o :: rest) a w :=
  BigFrame.wpList_want hw fun _ hK => wp_load_row 28 x ho g hx 28 (bytesV l) (0, 0) _ (Has.out hg) Tryz.underlying28 rfl (hinfo.trans (by rw [hv_size hs])) (hK _ _ h)
end
def vers (x : Int) (gs : List Gt) : Int := gs.foldl (fun m g => if g.h ≤ x then max m g.v else m) (-2147483648)
theorem vers_next (x : Int) (gs : List Gt) (k : Nat) (hk : k < gs.length) : vers x (gs.take (k + 1)) = if (gs.getD k gtZ).h ≤ x then max (vers x (gs.take k)) (gs.getD k gtZ).v else vers x (gs.take k) := by
  have e : gs.take (k + 1) = gs.take k ++ [gs.getD k gtZ] := by
    rw [List.take_add_one, List.getElem?_eq_getElem hk, List.getD_eq_getElem?_getD, List.getElem?_eq_getElem hk]; rfl
  rw [e]
  unfold vers
  rw [List.foldl_append]
  rfl
set_option maxRecDepth 100000 in
set_option maxHeartbeats 2000000 in
theorem version_at (x : Int) (a : Option Addr) (gs : List Gt) (n c : Nat) (hn : n = gs.length) (hl : n ≤ 4611686018427387904) (w : World) (hA : GatesAt w a gs) (v : Int) (hv : vers x gs = v) :
    Calls Tryz.prog 98 #[.int .i64 x, .slice a n c] w fun r w' => r = .returned (.int .i64 v) ∧ Below w.heap.size w w' := by
  have HN := Lib.hid hn
  have HV := Lib.hid hv
  have HA := Lib.hid hA
  clear hn hv hA
  go_enter Tryz.func98, Tryz.ntmps98
  go_wp2_with fail
  go_loopw [5, 10] (fun m i wr => ∃ k : Nat, k ≤ n ∧ i = .int .i64 (k : Int) ∧ ∃ z : Int, m = .int .i64 z ∧ Hid (vers x (gs.take k) = z) ∧ Below w.heap.size w wr) (fun _ i _ => n - (intOf i).toNat)
  case atStart => exact ⟨0, by omega, rfl, _, rfl, Lib.hid rfl, Below.refl _ _⟩
  case round =>
    obtain ⟨k, hk, rfl, z, rfl, HZ, hB⟩ := hrel
    by_cases hlt : k < n
    · obtain ⟨ab, ao, rfl, habl, hc⟩ := (HA.out.below hB) (by rw [← HN.out]; omega)
      have q : wr.rangeAt ab (ao + k * 2) (gtC (gs.getD k gtZ)) := by
        have := hc k (by rw [← HN.out]; omega)
        rwa [show gs.getD k gtZ = gs[k]'(by rw [← HN.out]; omega) by rw [List.getD_eq_getElem?_getD, List.getElem?_eq_getElem (by rw [← HN.out]; omega)]; rfl]
      have hnx := vers_next x gs k (by rw [← HN.out]; omega)
      rw [HZ.out] at hnx
      generalize gs.getD k gtZ = y at *
      have HX := Lib.hid hnx
      have hnew := gt_newz wr
      have hG : GtAt ((wr.alloc (.cells #[.int .i64 0, .int .i64 0] 82)).setRow wr.heap.size (gtA y)) wr.heap.size y := Has.row hnew _
      have hB2 : Below w.heap.size w ((wr.alloc (.cells #[.int .i64 0, .int .i64 0] 82)).setRow wr.heap.size (gtA y)) := below_setRow (hB.alloc hB.size _) hB.size _
      have c0 := hG.c0
      have c1 := hG.c1
      clear hnx hc hG
      by_cases hh : y.h ≤ x
      · obtain ⟨z2, hz2⟩ : ∃ z2, z2 = max z y.v := ⟨_, rfl⟩
        have hmax := NN.max_is (P := Tryz.prog) z y.v z2 hz2
        have HZ2 : Hid (vers x (gs.take (k + 1)) = z2) := Lib.hid (by rw [HX.out, if_pos hh, hz2])
        have t1 : decide (y.h ≤ x) = true := decide_eq_true hh
        clear hz2 HX HZ hh
        go_wp2_with (first | (with_reducible refine gt_load_mid rfl _ rfl ab (ao + k * 2) rfl y q ?_) | (with_reducible refine gt_store rfl _ _ rfl _ y rfl rfl hnew ?_))
        go_roundw
        case rel => exact ⟨k + 1, by omega, by go_num, z2, rfl, HZ2, hB2⟩
        case measure => simp [intOf]; omega
      · have HZ2 : Hid (vers x (gs.take (k + 1)) = z) := Lib.hid (by rw [HX.out, if_neg hh])
        have t1 : decide (y.h ≤ x) = false := decide_eq_false hh
        clear HX HZ hh
        go_wp2_with (first | (with_reducible refine gt_load_mid rfl _ rfl ab (ao + k * 2) rfl y q ?_) | (with_reducible refine gt_store rfl _ _ rfl _ y rfl rfl hnew ?_))
        go_roundw
        case rel => exact ⟨k + 1, by omega, by go_num, z, rfl, HZ2, hB2⟩
        case measure => simp [intOf]; omega
    · obtain rfl : k = n := by omega
      have e : z = v := by
        have := HZ.out
        rw [HN.out, List.take_length, HV.out] at this
        exact this.symm
      subst e
      go_wp2_with fail
      go_ret
      exact ⟨rfl, hB⟩
def trk (x : Int) (id : List UInt8) (cs : List Ck) : Bool := cs.all fun c => !(c.h == x && !(c.id == id))
theorem trk_next (x : Int) (id : List UInt8) (cs : List Ck) (k : Nat) (hk : k < cs.length) : trk x id (cs.take (k + 1)) = (trk x id (cs.take k) && !((cs.getD k ckZ).h == x && !((cs.getD k ckZ).id == id))) := by
  have e : cs.take (k + 1) = cs.take k ++ [cs.getD k ckZ] := by
    rw [List.take_add_one, List.getElem?_eq_getElem hk, List.getD_eq_getElem?_getD, List.getElem?_eq_getElem hk]; rfl
  rw [e]
  unfold trk
  rw [List.all_append]
  simp
theorem trk_no (x : Int) (id : List UInt8) (cs : List Ck) (k : Nat) (h : trk x id (cs.take k) = false) : trk x id cs = false := by
  have e : cs = cs.take k ++ cs.drop k := (List.take_append_drop k cs).symm
  rw [e]
  unfold trk at *
  rw [List.all_append, h]
  rfl
set_option maxRecDepth 100000 in
set_option maxHeartbeats 2000000 in
theorem tracked_at (x : Int) (id : List UInt8) (hid : id.length = 32) (a : Option Addr) (cs : List Ck) (n c : Nat) (hn : n = cs.length) (hl : n ≤ 4611686018427387904) (w : World) (hA : ChecksAt w a cs) (g : Bool) (hg : trk x id cs = g) :
    Calls Tryz.prog 99 #[.int .i64 x, .agg (bytesV id), .slice a n c] w fun r w' => r = .returned (.bool g) ∧ Below w.heap.size w w' := by
  have HN := Lib.hid hn
  have HG := Lib.hid hg
  have HA := Lib.hid hA
  clear hn hg hA
  go_enter Tryz.func99, Tryz.ntmps99
  go_upto_region 1 with fail
  generalize hw0 : World.alloc _ _ = v0
  have hB0 : Below w.heap.size w v0 := by rw [← hw0]; exact (Below.refl _ _).alloc (Nat.le_refl _) _
  have hD0 : Has v0 w.heap.size (bytesV id) 28 := by rw [← hw0]; exact Has.new _ _
  clear hw0
  generalize hb : w.heap.size = bd at hD0 ⊢
  have hbd : bd < v0.heap.size := hD0.lt
  rw [hb] at hB0
  go_wp2_with fail
  go_loopw [11] (fun i wr => ∃ k : Nat, k ≤ n ∧ i = .int .i64 (k : Int) ∧ Hid (trk x id (cs.take k) = true) ∧ Below v0.heap.size v0 wr) (fun i _ => n - (intOf i).toNat)
  case atStart => exact ⟨0, by omega, rfl, Lib.hid rfl, Below.refl _ _⟩
  case round =>
    obtain ⟨k, hk, rfl, HZ, hB⟩ := hrel
    by_cases hlt : k < n
    · have hA1 := (HA.out.below (by rw [hb]; exact hB0)).below hB
      obtain ⟨ab, ao, rfl, habl, hc⟩ := hA1 (by rw [← HN.out]; omega)
      have q0 : (cs.getD k ckZ).id.length = 32 ∧ wr.rangeAt ab (ao + k * 33) (ckC (cs.getD k ckZ)) := by
        have := hc k (by rw [← HN.out]; omega)
        rwa [show cs.getD k ckZ = cs[k]'(by rw [← HN.out]; omega) by rw [List.getD_eq_getElem?_getD, List.getElem?_eq_getElem (by rw [← HN.out]; omega)]; rfl]
      have hnx := trk_next x id cs k (by rw [← HN.out]; omega)
      rw [HZ.out, Bool.true_and] at hnx
      generalize cs.getD k ckZ = y at *
      obtain ⟨y32, q⟩ := q0
      have HX := Lib.hid hnx
      have z1 := ckC_length y32
      have z2 := ckA_size y32
      have z3 : (ckA ckZ).size = 33 := rfl
      have hnew := ck_newz wr
      have hG : CkAt ((wr.alloc (.cells #[.int .i64 0, .int .u8 0, .int .u8 0, .int .u8 0, .int .u8 0, .int .u8 0, .int .u8 0, .int .u8 0, .int .u8 0, .int .u8 0, .int .u8 0, .int .u8 0, .int .u8 0, .int .u8 0, .int .u8 0, .int .u8 0, .int .u8 0, .int .u8 0, .int .u8 0, .int .u8 0, .int .u8 0, .int .u8 0, .int .u8 0, .int .u8 0, .int .u8 0, .int .u8 0, .int .u8 0, .int .u8 0, .int .u8 0, .int .u8 0, .int .u8 0, .int .u8 0, .int .u8 0] 85)).setRow wr.heap.size (ckA y)) wr.heap.size y := Has.row hnew _
      have hB1 : Below v0.heap.size v0 ((wr.alloc (.cells #[.int .i64 0, .int .u8 0, .int .u8 0, .int .u8 0, .int .u8 0, .int .u8 0, .int .u8 0, .int .u8 0, .int .u8 0, .int .u8 0, .int .u8 0, .int .u8 0, .int .u8 0, .int .u8 0, .int .u8 0, .int .u8 0, .int .u8 0, .int .u8 0, .int .u8 0, .int .u8 0, .int .u8 0, .int .u8 0, .int .u8 0, .int .u8 0, .int .u8 0, .int .u8 0, .int .u8 0, .int .u8 0, .int .u8 0, .int .u8 0, .int .u8 0, .int .u8 0, .int .u8 0] 85)).setRow wr.heap.size (ckA y)) := below_setRow (hB.alloc hB.size _) hB.size _
      have hD : Has ((wr.alloc (.cells #[.int .i64 0, .int .u8 0, .int .u8 0, .int .u8 0, .int .u8 0, .int .u8 0, .int .u8 0, .int .u8 0, .int .u8 0, .int .u8 0, .int .u8 0, .int .u8 0, .int .u8 0, .int .u8 0, .int .u8 0, .int .u8 0, .int .u8 0, .int .u8 0, .int .u8 0, .int .u8 0, .int .u8 0, .int .u8 0, .int .u8 0, .int .u8 0, .int .u8 0, .int .u8 0, .int .u8 0, .int .u8 0, .int .u8 0, .int .u8 0, .int .u8 0, .int .u8 0, .int .u8 0] 85)).setRow wr.heap.size (ckA y)) bd (bytesV id) 28 := below_has hB1 hD0 hbd
      have c0 := hG.c0
      have c1 := hG.id
      have s1 := byteCells_32 y32
      clear hnx hc hA1
      cases hh : (y.h == x)
      · have HZ2 : Hid (trk x id (cs.take (k + 1)) = true) := Lib.hid (by rw [HX.out, hh]; rfl)
        clear HX HZ
        go_wp2_with (first | (with_reducible refine ck_load_mid rfl _ rfl ab (ao + k * 33) rfl y q z1 ?_) | (with_reducible refine ck_store rfl _ _ rfl _ y rfl rfl z2 hnew z3 ?_))
        go_roundw
        case rel => exact ⟨k + 1, by omega, by go_num, HZ2, hB1⟩
        case measure => simp [intOf]; omega
      · cases he : (y.id == id)
        · have qn := hn_neq y.id id y32 hid true (by rw [he]; rfl)
          have hgf : g = false := by
            rw [← HG.out]
            exact trk_no x id cs (k + 1) (by rw [HX.out, hh, he]; rfl)
          subst hgf
          clear HX HZ he
          go_wp2_with (first | (with_reducible refine ck_load_mid rfl _ rfl ab (ao + k * 33) rfl y q z1 ?_) | (with_reducible refine ck_store rfl _ _ rfl _ y rfl rfl z2 hnew z3 ?_) | (with_reducible refine hl_load_mid_g (by with_unfolding_all rfl) _ rfl _ 1 rfl y.id c1 s1 ?_) | (with_reducible refine hl_load_g (by with_unfolding_all rfl) _ rfl bd rfl id hD hid ?_) | (with_reducible refine hneq_g (by with_unfolding_all rfl) _ _ _ rfl _ _ _ rfl rfl qn ?_))
          go_ret
          exact ⟨rfl, by first | exact hB0.trans (hB1.mono hB0.size) | exact hB0.trans (hB1.mono (by rw [← hb]; exact hB0.size)) | (rw [hb]; exact hB0.trans (hB1.mono (by rw [← hb]; exact hB0.size)))⟩
        · have qn := hn_neq y.id id y32 hid false (by rw [he]; rfl)
          have HZ2 : Hid (trk x id (cs.take (k + 1)) = true) := Lib.hid (by rw [HX.out, hh, he]; rfl)
          clear HX HZ he
          go_wp2_with (first | (with_reducible refine ck_load_mid rfl _ rfl ab (ao + k * 33) rfl y q z1 ?_) | (with_reducible refine ck_store rfl _ _ rfl _ y rfl rfl z2 hnew z3 ?_) | (with_reducible refine hl_load_mid_g (by with_unfolding_all rfl) _ rfl _ 1 rfl y.id c1 s1 ?_) | (with_reducible refine hl_load_g (by with_unfolding_all rfl) _ rfl bd rfl id hD hid ?_) | (with_reducible refine hneq_g (by with_unfolding_all rfl) _ _ _ rfl _ _ _ rfl rfl qn ?_))
          go_roundw
          case rel => exact ⟨k + 1, by omega, by go_num, HZ2, hB1⟩
          case measure => simp [intOf]; omega
    · obtain rfl : k = n := by omega
      have hfin : g = true := by
        rw [← HG.out]
        have := HZ.out
        rwa [HN.out, List.take_length] at this
      subst hfin
      go_wp2_with fail
      go_ret
      exact ⟨rfl, by first | exact hB0.trans (hB.mono hB0.size) | exact hB0.trans (hB.mono (by rw [← hb]; exact hB0.size)) | (rw [hb]; exact hB0.trans (hB.mono (by rw [← hb]; exact hB0.size)))⟩
theorem nnc (l : List UInt8) (hl : l.length = 32) : NN.hashC (byteF l) = bytesV l := by
  unfold NN.hashC bytesV
  congr 1
  apply List.ext_getElem?
  intro i
  by_cases hi : i < 32
  · simp [byteF, hi, hl]
  · simp [hi, hl]
theorem meets_at (l : List UInt8) (hl : l.length = 32) (t : Nat) (ht : t < NN.Nm.big) (g : Bool) (hg : (!decide (t < numOf l)) = g) (w : World) :
    Calls Tryz.prog 117 #[.agg (bytesV l), .agg (NN.numC t)] w fun e w' => e = .returned (.bool g) ∧ Below w.heap.size w w' := by
  rw [← nnc l hl, ← hg]; exact NN.meets (byteF l) t (byteF_lt l) ht w
def wkd (lim : Int) (h : Hd) : Bool := NN.tok h.bits lim && !decide (NN.tg h.bits lim < numOf h.id)
set_option maxRecDepth 100000 in
set_option maxHeartbeats 2000000 in
theorem worked_no (p : NN.Pr) (h : Hd) (ho : h.ok) (lim b : Int) (e0 : Hid (p.lim = lim)) (eb : Hid (h.bits = b)) (t : Nat)
    (KT : Hid (∀ w, Calls Tryz.prog 60 #[.int .i64 b, .int .i64 lim] w fun e w' => e = .returned (.tuple #[.agg (NN.numC t), .bool false]) ∧ Below w.heap.size w w'))  (w : World) (hT : Tab w) :
    Calls Tryz.prog 95 #[.agg (NN.prA p), .agg (hdA h)] w fun e w' => e = .returned (.bool false) ∧ Below w.heap.size w w' := by
  have za := hdA_size ho
  go_enter Tryz.func95, Tryz.ntmps95
  go_upto_region 1 with fail
  generalize hw0 : World.alloc _ _ = v0
  have hB : Below w.heap.size w v0 := by rw [← hw0]; exact ((Below.refl _ _).alloc (Nat.le_refl _) _).alloc (by simp) _
  have hP : NN.PrAt v0 w.heap.size p := by rw [← hw0]; exact (NN.Has.new _ _).alloc _
  have hH : HdAt v0 (w.heap.size + 1) h := by rw [← hw0]; exact hd_new1 w _ h
  clear hw0
  have c0 := hP.c0 e0
  have c1 : v0.cell? ⟨w.heap.size + 1, 66, none⟩ = some (.int .i64 b) := by rw [← eb.out]; exact hH.bits ho
  go_wp2_with fail
  refine (KT.out _).mono ?_
  rintro e v1 ⟨rfl, hb1⟩
  replace hH := hH.on hb1
  replace hB := hB.trans (hb1.mono hB.size)
  clear hb1 c0 c1 hP
  have hZ := NN.Has.newz (w := v1) 26
  go_upto_region 2 with (with_reducible refine NN.num_store rfl _ _ rfl _ _ rfl rfl _ hZ rfl ?_)
  generalize hw2 : World.setRow _ _ _ = v2
  have hb2 : Below v1.heap.size v1 v2 := by rw [← hw2]; exact below_setRow ((Below.refl _ _).alloc (Nat.le_refl _) _) (Nat.le_refl _) _
  have hN : NN.Has v2 v1.heap.size (NN.numC t) 26 := by rw [← hw2]; exact NN.Has.row hZ _
  replace hH := hH.on hb2
  replace hB := hB.trans (hb2.mono hB.size)
  clear hw2 hb2 hZ
  generalize v1.heap.size = bN at hN ⊢
  have hT2 := hT.below hB
  have hTr : ∀ d os, Tab (Sort.grow (redrawn v2 d) os) := fun d os => hT2.below (below_regrown v2 d os)
  go_wp2_with fail
  refine wp_region_quiet_below (by kernel_rfl) (by kernel_rfl) ?_
  repeat (first
    | go_big_quiet_step (fail))
  refine wpQuiet_nil ?_
  intro _ hw'
  obtain ⟨q, hw''⟩ := hw'
  subst hw''
  have hB2 := hB.trans ((below_regrown v2 q.d q.os).mono hB.size)
  go_wp2_with fail
  go_ret
  exact ⟨rfl, hB2⟩
set_option maxRecDepth 100000 in
set_option maxHeartbeats 2000000 in
theorem worked_yes (p : NN.Pr) (h : Hd) (ho : h.ok) (lim b : Int) (e0 : Hid (p.lim = lim)) (eb : Hid (h.bits = b)) (t : Nat)
    (KT : Hid (∀ w, Calls Tryz.prog 60 #[.int .i64 b, .int .i64 lim] w fun e w' => e = .returned (.tuple #[.agg (NN.numC t), .bool true]) ∧ Below w.heap.size w w')) (id : List UInt8) (m : Bool) (KI : Hid (∀ w, Tab w → Calls Tryz.prog 34 #[.agg (hdA h)] w fun e w' => e = .returned (.agg (bytesV id)) ∧ Below w.heap.size w w')) (KM : Hid (∀ w, Calls Tryz.prog 117 #[.agg (bytesV id), .agg (NN.numC t)] w fun e w' => e = .returned (.bool m) ∧ Below w.heap.size w w')) (w : World) (hT : Tab w) :
    Calls Tryz.prog 95 #[.agg (NN.prA p), .agg (hdA h)] w fun e w' => e = .returned (.bool m) ∧ Below w.heap.size w w' := by
  have za := hdA_size ho
  go_enter Tryz.func95, Tryz.ntmps95
  go_upto_region 1 with fail
  generalize hw0 : World.alloc _ _ = v0
  have hB : Below w.heap.size w v0 := by rw [← hw0]; exact ((Below.refl _ _).alloc (Nat.le_refl _) _).alloc (by simp) _
  have hP : NN.PrAt v0 w.heap.size p := by rw [← hw0]; exact (NN.Has.new _ _).alloc _
  have hH : HdAt v0 (w.heap.size + 1) h := by rw [← hw0]; exact hd_new1 w _ h
  clear hw0
  have c0 := hP.c0 e0
  have c1 : v0.cell? ⟨w.heap.size + 1, 66, none⟩ = some (.int .i64 b) := by rw [← eb.out]; exact hH.bits ho
  go_wp2_with fail
  refine (KT.out _).mono ?_
  rintro e v1 ⟨rfl, hb1⟩
  replace hH := hH.on hb1
  replace hB := hB.trans (hb1.mono hB.size)
  clear hb1 c0 c1 hP
  have hZ := NN.Has.newz (w := v1) 26
  go_upto_region 2 with (with_reducible refine NN.num_store rfl _ _ rfl _ _ rfl rfl _ hZ rfl ?_)
  generalize hw2 : World.setRow _ _ _ = v2
  have hb2 : Below v1.heap.size v1 v2 := by rw [← hw2]; exact below_setRow ((Below.refl _ _).alloc (Nat.le_refl _) _) (Nat.le_refl _) _
  have hN : NN.Has v2 v1.heap.size (NN.numC t) 26 := by rw [← hw2]; exact NN.Has.row hZ _
  replace hH := hH.on hb2
  replace hB := hB.trans (hb2.mono hB.size)
  clear hw2 hb2 hZ
  generalize v1.heap.size = bN at hN ⊢
  have hT2 := hT.below hB
  have hTr : ∀ d os, Tab (Sort.grow (redrawn v2 d) os) := fun d os => hT2.below (below_regrown v2 d os)
  have q1 := range_cls hH.range (hdC_pos h)
  have s1 := hdC_length ho
  go_wp2_with fail
  refine wp_region_quiet_below (by kernel_rfl) (by kernel_rfl) ?_
  repeat (first
    | (go_big_quiet_want; (with_reducible refine quiet_hd_mid _ rfl (w.heap.size + 1) 0 rfl h s1 q1 ?_); (simp only [Act.put, List.setIfInBounds_toArray, List.set_cons_zero, List.set_cons_succ]); go_big_quiet_on)
    | (go_big_quiet_want; (with_reducible refine NN.quiet_load_num _ rfl _ rfl _ hN.cls ?_); (simp only [Act.put, List.setIfInBounds_toArray, List.set_cons_zero, List.set_cons_succ]); go_big_quiet_on)
    | go_big_quiet_step (first | (go_at_call 34; exact Calls.regrown_of (KI.out _ (hTr _ _))) | (go_at_call 117; exact Calls.regrown_of (KM.out _))))
  refine wpQuiet_nil ?_
  intro _ hw'
  obtain ⟨q, hw''⟩ := hw'
  subst hw''
  have hB2 := hB.trans ((below_regrown v2 q.d q.os).mono hB.size)
  go_wp2_with fail
  go_ret
  exact ⟨rfl, hB2⟩
theorem worked_at (p : NN.Pr) (h : Hd) (ho : h.ok) (g : Bool) (hg : wkd p.lim h = g) (w : World) (hT : Tab w) :
    Calls Tryz.prog 95 #[.agg (NN.prA p), .agg (hdA h)] w fun e w' => e = .returned (.bool g) ∧ Below w.heap.size w w' := by
  unfold wkd at hg
  have KT := NN.tgt_at h.bits p.lim
  cases hk : NN.tok h.bits p.lim
  · rw [hk] at KT hg
    rw [← hg]
    exact worked_no p h ho _ _ (Lib.hid rfl) (Lib.hid rfl) _ (Lib.hid KT) w hT
  · rw [hk, Bool.true_and] at hg
    rw [hk] at KT
    exact worked_yes p h ho _ _ (Lib.hid rfl) (Lib.hid rfl) _ (Lib.hid KT) h.id g (Lib.hid (fun w hT => id_at h ho w hT)) (Lib.hid (meets_at h.id (id_length h) _ (NN.tg_lt _ _) g hg)) w hT
end Go.Proofs.YthcebnfdapcllaaGreatDoor
namespace Go.Proofs.YthcebnfdapcllaaGreatDoor
open Go.RowKit Mem Sc
namespace An
theorem fill_step {place : Nat → Option (Nat × Nat)} {i off n : Nat} {v : Value} {rest : List (Nat × Value)} (A B C X : List Value) (hp : place i = some (off, n)) (hA : A.length = off) (hB : B.length = n) (hv : v.cells = X.toArray) (hX : X.length = n) :
    Instr.fill place (A ++ (B ++ C)).toArray ((i, v) :: rest) = Instr.fill place (A ++ (X ++ C)).toArray rest := by
  have hs : v.cells.size = n := by rw [hv]; simpa using hX
  have e : (v.cells.zipIdx.foldl (fun (cs : Array Value) (x : Value × Nat) => match x with | (c, j) => cs.setIfInBounds (off + j) c) (A ++ (B ++ C)).toArray) = (A ++ (X ++ C)).toArray := by
    rw [hv, ← Array.foldl_toList, Array.toList_zipIdx]
    show List.foldl _ _ (X.zipIdx 0) = _
    have gen : ∀ (X' B' A' : List Value) (k : Nat), A'.length = off + k → B'.length = X'.length →
        List.foldl (fun (cs : Array Value) (x : Value × Nat) => match x with | (c, j) => cs.setIfInBounds (off + j) c) (A' ++ (B' ++ C)).toArray (X'.zipIdx k) = (A' ++ (X' ++ C)).toArray := by
      intro X'
      induction X' with
      | nil =>
        intro B' A' k _ hb
        obtain rfl : B' = [] := List.eq_nil_of_length_eq_zero hb
        rfl
      | cons x X' ih =>
        intro B' A' k ha hb
        obtain ⟨b, B'', rfl⟩ : ∃ b B'', B' = b :: B'' := by
          cases B' with
          | nil => simp at hb
          | cons b B'' => exact ⟨b, B'', rfl⟩
        rw [List.zipIdx_cons, List.foldl_cons]
        show List.foldl _ ((A' ++ (b :: B'' ++ C)).toArray.setIfInBounds (off + k) x) (X'.zipIdx (k + 1)) = _
        rw [List.setIfInBounds_toArray, List.set_append_right _ _ (by omega), show off + k - A'.length = 0 by omega]
        have := ih B'' (A' ++ [x]) (k + 1) (by simp; omega) (by simpa using hb)
        simpa using this
    have := gen X B A 0 (by omega) (by omega)
    exact this
  rw [Instr.fill]
  simp only [hp]
  rw [if_neg (by simp [hs]; omega)]
  congr 1
theorem fill_nil {place : Nat → Option (Nat × Nat)} {cs : Array Value} : Instr.fill place cs [] = some cs := rfl
structure Kp (F : Nat → Prop) (w w' : World) : Prop where
  os : w'.os = w.os
  tape : w'.tape = w.tape
  output : w'.output = w.output
  size : w.heap.size ≤ w'.heap.size
  block : ∀ k, k < w.heap.size → ¬ F k → w'.heap[k]? = w.heap[k]?
theorem Kp.refl (F : Nat → Prop) (w : World) : Kp F w w := ⟨rfl, rfl, rfl, Nat.le_refl _, fun _ _ _ => rfl⟩
theorem Kp.trans {F G : Nat → Prop} {a b c : World} (h : Kp F a b) (k : Kp G b c) (hG : ∀ i, G i → i < a.heap.size → F i) : Kp F a c :=
  ⟨k.os.trans h.os, k.tape.trans h.tape, k.output.trans h.output, Nat.le_trans h.size k.size, fun i hi hn => (k.block i (Nat.lt_of_lt_of_le hi h.size) (fun hg => hn (hG i hg hi))).trans (h.block i hi hn)⟩
theorem Kp.of {F : Nat → Prop} {w w' : World} (h : Below w.heap.size w w') : Kp F w w' := ⟨h.os, h.tape, h.output, h.size, fun k hk _ => h.block k hk⟩
theorem Kp.gb {F : Nat → Prop} {w w' : World} {r : Option Nat} (h : w.grownBy w' r) (hr : ∀ k, r = some k → F k) : Kp F w w' := ⟨h.os, h.tape, h.output, h.size, fun k hk hn => h.block k hk (fun e => hn (hr k e.symm))⟩
theorem Kp.mono {F G : Nat → Prop} {w w' : World} (h : Kp F w w') (hF : ∀ i, F i → i < w.heap.size → G i) : Kp G w w' := ⟨h.os, h.tape, h.output, h.size, fun k hk hn => h.block k hk (fun hf => hn (hF k hf hk))⟩
theorem Kp.below {F : Nat → Prop} {B : Nat} {w w' : World} (h : Kp F w w') (hF : ∀ i, F i → B ≤ i) (hB : B ≤ w.heap.size) : Below B w w' := ⟨h.os, h.tape, h.output, h.size, fun k hk => h.block k (Nat.lt_of_lt_of_le hk hB) (fun hf => absurd (hF k hf) (by omega))⟩
theorem Kp.has {F : Nat → Prop} {w w' : World} {k : Nat} {cs : Array Value} {t : TypeId} (h : Kp F w w') (hh : Has w k cs t) (hn : ¬ F k) : Has w' k cs t := (h.block k hh.lt hn).trans hh
theorem Kp.nhas {F : Nat → Prop} {w w' : World} {k : Nat} {cs : Array Value} {t : TypeId} (h : Kp F w w') (hh : NN.Has w k cs t) (hn : ¬ F k) : NN.Has w' k cs t := (h.block k hh.lt hn).trans hh
def Nxt (F : Nat → Prop) (w w' : World) : Nat → Prop := fun i => F i ∨ (w.heap.size ≤ i ∧ i < w'.heap.size)
theorem ex_mid {P : Program} {ρ : Operand → Value} {o : Oper} {w : World} (T : TypeId) {x : Operand} (ho : o.op = .load T x) {g off : Nat} (hx : ρ x = .pointer (some ⟨g, off, none⟩)) {cs : List Value} {d : TypeDesc} (hu : P.underlying T = some d) (hd : d.isRow = true) (hi : (P.info? T).map (·.size) = some cs.length) (hg : w.rangeAt g off cs) :
    (execOp ρ o).run P w = .ok (.value (.agg cs.toArray)) w := by
  unfold execOp
  simp only [ho, hx, Sem.run_bind, run_loadAt_mid w g off T cs d hg hu hd hi, Result.andThen_ok]
  rfl
theorem range_of {w : World} {b o : Nat} {A cs C : List Value} {t : TypeId} (h : Has w b (A ++ (cs ++ C)).toArray t) (hA : A.length = o) : w.rangeAt b o cs := fun j u hu => by
  rw [Has.cell h (o + j), List.getElem?_toArray, List.getElem?_append_right (by omega), show o + j - A.length = j by omega, List.getElem?_append_left (List.getElem?_eq_some_iff.1 hu).1]
  exact hu
end An
end Go.Proofs.YthcebnfdapcllaaGreatDoor
namespace Go.Proofs.YthcebnfdapcllaaGreatDoor.An
open Go.RowKit Mem Sc
theorem flat_length {α : Type} (f : α → List Value) (k : Nat) (L : List α) (h : ∀ x ∈ L, (f x).length = k) : (L.flatMap f).length = L.length * k := by
  induction L with
  | nil => simp
  | cons x L ih =>
    rw [List.flatMap_cons, List.length_append, ih (fun y hy => h y (by simp [hy])), h x (by simp), List.length_cons, Nat.add_mul, Nat.one_mul]
    omega
theorem flat_get {α : Type} (f : α → List Value) (k : Nat) (L : List α) (h : ∀ x ∈ L, (f x).length = k) (i j : Nat) (x : α) (hi : L[i]? = some x) (hj : j < k) : (L.flatMap f)[i * k + j]? = (f x)[j]? := by
  induction L generalizing i with
  | nil => simp at hi
  | cons y L ih =>
    have hl := h y (by simp)
    rw [List.flatMap_cons]
    cases i with
    | zero =>
      obtain rfl : y = x := by simpa using hi
      rw [List.getElem?_append_left (by omega)]; simp
    | succ i =>
      rw [List.getElem?_append_right (by rw [hl, Nat.add_mul]; omega), hl, show (i + 1) * k + j - k = i * k + j by rw [Nat.add_mul]; omega]
      exact ih (fun z hz => h z (by simp [hz])) i (by simpa using hi)
theorem flat_own {α : Type} (f : α → List Value) (k : Nat) (L : List α) (h : ∀ x ∈ L, (f x).length = k) {w : World} {base : Nat} {T : TypeId} {v : Value} {n : Nat} (ho : w.ownsRow base T k v n (L.flatMap f)) (hn : n = L.length) :
    ∃ a c, v = .slice a n c ∧ n ≤ c ∧ (0 < n → ∃ g, a = some ⟨g, 0, none⟩ ∧ base ≤ g ∧ g < w.heap.size ∧ ∀ i x, L[i]? = some x → w.rangeAt g (i * k) (f x)) := by
  rcases ho.2 with ⟨rfl, rfl⟩ | ⟨g, c, cur, rfl, h1, h2, h3, h4, h5, h6⟩
  · exact ⟨none, 0, rfl, Nat.le_refl _, fun h0 => absurd h0 (by omega)⟩
  · refine ⟨_, c, rfl, h3, fun _ => ⟨g, rfl, h1, (Array.getElem?_eq_some_iff.1 h2).1, fun i x hi j u hu => ?_⟩⟩
    have hj : j < k := by
      have := (List.getElem?_eq_some_iff.1 hu).1
      rwa [h x (List.mem_of_getElem? hi)] at this
    have hlt := (List.getElem?_eq_some_iff.1 hi).1
    rw [← flat_get f k L h i j x hi hj, ← h6] at hu
    have hH : Has w g cur T := h2
    have hb : i * k + j < n * k := by
      have : (i + 1) * k ≤ n * k := Nat.mul_le_mul_right _ (by omega)
      rw [Nat.add_mul] at this
      omega
    rw [hH.cell, ← hu, List.getElem?_take_of_lt hb, Array.getElem?_toList]
theorem flat_cells {α : Type} (f : α → List Value) (k : Nat) (hk : 0 < k) (L : List α) (h : ∀ x ∈ L, (f x).length = k) {w : World} {b o : Nat} (hr : ∀ i x, L[i]? = some x → w.rangeAt b (o + i * k) (f x)) (j : Nat) (u : Value) (hj : (L.flatMap f)[j]? = some u) : w.cell? ⟨b, o + j, none⟩ = some u := by
  have hl := (List.getElem?_eq_some_iff.1 hj).1
  rw [flat_length f k L h] at hl
  have hd : j / k < L.length := by rw [Nat.div_lt_iff_lt_mul hk]; exact hl
  have e : j / k * k + j % k = j := by rw [Nat.mul_comm]; exact Nat.div_add_mod j k
  have hm := Nat.mod_lt j hk
  have hx : L[j / k]? = some L[j / k] := List.getElem?_eq_getElem hd
  rw [← e, flat_get f k L h (j / k) (j % k) _ hx hm] at hj
  have := hr _ _ hx (j % k) u hj
  rwa [Nat.add_assoc, e] at this
theorem flat_one {α : Type} (f : α → List Value) (L : List α) (h : ∀ x ∈ L, ∀ v ∈ f x, v.oneCell' = true) : ∀ v ∈ L.flatMap f, v.oneCell' = true := fun v hv => by
  obtain ⟨x, hx, hv⟩ := List.mem_flatMap.1 hv
  exact h x hx v hv
theorem info_of {P : Program} {T : TypeId} {k b : Nat} (h1 : (P.info? T).map (·.size) = some k) (h2 : ((P.info? T).bind (·.zero)).map (·.cells.size) = some k) (h3 : (P.info? T).map (·.bytes) = some b) : ∃ i z, P.info? T = some i ∧ i.zero = some z ∧ i.size = k ∧ i.bytes = b ∧ z.cells.size = k := by
  cases hi : P.info? T with
  | none => rw [hi] at h1; cases h1
  | some i =>
    rw [hi] at h1 h2 h3
    simp only [Option.map_some, Option.some.injEq, Option.bind_some] at h1 h2 h3
    cases hz : i.zero with
    | none => rw [hz] at h2; cases h2
    | some z =>
      rw [hz] at h2
      simp only [Option.map_some, Option.some.injEq] at h2
      exact ⟨i, z, rfl, hz, h1, h3, h2⟩
end Go.Proofs.YthcebnfdapcllaaGreatDoor.An
namespace Go.Proofs.YthcebnfdapcllaaGreatDoor.An
open Go.RowKit Mem Sc
theorem gates_one : ∀ x : Gt, ∀ v ∈ gtC x, v.oneCell' = true := fun x v hv => by
  have h := gtA_one x
  rw [Array.all_eq_true_iff_forall_mem] at h
  exact h v (by unfold gtA; simpa using hv)
theorem gates_eql (w : World) (a : Option Addr) (n c n' c' : Nat) : (binOp .eql 22 (.slice a n c) (.slice none n' c')).run Tryz.prog w = .ok (.bool a.isNone) w := Lib.run_eql_slice_nil w _ _ a n c n' c' Tryz.underlying22
set_option maxHeartbeats 2000000 in
set_option maxRecDepth 100000 in
theorem clone_gates_some (ad : Addr) (n c : Nat) (L : List Gt) (hn : n = L.length) (hl : n ≤ 1000) (w : World) (hc : ∀ j u, (L.flatMap gtC)[j]? = some u → w.cell? (ad.add j) = some u) :
    Calls Tryz.prog 27 #[.slice (some ad) n c] w fun e w' => ∃ v', e = .returned v' ∧ w'.ownsRow w.heap.size 82 2 v' n (L.flatMap gtC) ∧ Below w.heap.size w w' := by
  have q22 := gates_eql
  have hlen : ∀ x ∈ L, (gtC x).length = 2 := fun _ _ => rfl
  obtain ⟨i0, z0, hi, hz0, hz1, hz2, hz3⟩ := info_of (P := Tryz.prog) (T := 82) (k := 2) (b := 16) (by kernel_rfl) (by kernel_rfl) (by kernel_rfl)
  have A := Lib.hid hc
  have HL := Lib.hid (flat_length gtC 2 L hlen)
  have HO := Lib.hid (flat_one gtC L (fun x _ => gates_one x))
  generalize L.flatMap gtC = X at *
  clear hc hlen
  have HN := Lib.hid hn
  clear hn
  go_enter Tryz.func27, Tryz.ntmps27
  go_wp2_with (at_builtin; refine wpList_append_own _ rfl _ _ 22 rfl w.heap.size 82 i0 z0 2 16 Tryz.underlying22 hi hz0 hz1 hz2 hz3 (by decide) _ 0 _ rfl (World.ownsRow_made w #[] 0 (Nat.le_refl _) (Nat.zero_le _) rfl) ad n c X rfl ?qc1 ?qc2 ?qc3 ?qc4 ?qc5 ?qc6 ?_)
  case qc1 => rw [HL.out, HN.out]
  case qc2 =>
    intro j u hj
    exact Lib.cell?_alloc_some _ (A.out j u hj)
  case qc3 => exact HO.out
  case qc4 => unfold maxLen; omega
  case qc5 => omega
  case qc6 => simp
  intro v' w1 hown hgrow hnil
  go_wp2
  go_ret
  exact ⟨v', rfl, by simpa using hown, ((Below.refl _ w).alloc (Nat.le_refl _) _).grown hgrow (by simp) (by intro k hk; simp [Value.ownBlock] at hk; omega)⟩
set_option maxHeartbeats 1000000 in
theorem clone_gates_nil (n c : Nat) (w : World) : Calls Tryz.prog 27 #[.slice none n c] w fun e w' => e = .returned (.slice none 0 0) ∧ w' = w := by
  have q22 := gates_eql
  go_enter Tryz.func27, Tryz.ntmps27
  go_wp2
  go_ret
  exact ⟨rfl, rfl⟩
theorem checks_one : ∀ x : Ck, ∀ v ∈ ckC x, v.oneCell' = true := fun x v hv => by
  have h := ckA_one x
  rw [Array.all_eq_true_iff_forall_mem] at h
  exact h v (by unfold ckA; simpa using hv)
theorem checks_eql (w : World) (a : Option Addr) (n c n' c' : Nat) : (binOp .eql 23 (.slice a n c) (.slice none n' c')).run Tryz.prog w = .ok (.bool a.isNone) w := Lib.run_eql_slice_nil w _ _ a n c n' c' Tryz.underlying23
set_option maxHeartbeats 2000000 in
set_option maxRecDepth 100000 in
theorem clone_checks_some (ad : Addr) (n c : Nat) (L : List Ck) (h32 : ∀ x ∈ L, x.id.length = 32) (hn : n = L.length) (hl : n ≤ 1000) (w : World) (hc : ∀ j u, (L.flatMap ckC)[j]? = some u → w.cell? (ad.add j) = some u) :
    Calls Tryz.prog 28 #[.slice (some ad) n c] w fun e w' => ∃ v', e = .returned v' ∧ w'.ownsRow w.heap.size 85 33 v' n (L.flatMap ckC) ∧ Below w.heap.size w w' := by
  have q22 := checks_eql
  have hlen : ∀ x ∈ L, (ckC x).length = 33 := fun x hx => ckC_length (h32 x hx)
  obtain ⟨i0, z0, hi, hz0, hz1, hz2, hz3⟩ := info_of (P := Tryz.prog) (T := 85) (k := 33) (b := 40) (by kernel_rfl) (by kernel_rfl) (by kernel_rfl)
  have A := Lib.hid hc
  have HL := Lib.hid (flat_length ckC 33 L hlen)
  have HO := Lib.hid (flat_one ckC L (fun x _ => checks_one x))
  generalize L.flatMap ckC = X at *
  clear hc hlen
  have HN := Lib.hid hn
  clear hn
  go_enter Tryz.func28, Tryz.ntmps28
  go_wp2_with (at_builtin; refine wpList_append_own _ rfl _ _ 23 rfl w.heap.size 85 i0 z0 33 40 Tryz.underlying23 hi hz0 hz1 hz2 hz3 (by decide) _ 0 _ rfl (World.ownsRow_made w #[] 0 (Nat.le_refl _) (Nat.zero_le _) rfl) ad n c X rfl ?qc1 ?qc2 ?qc3 ?qc4 ?qc5 ?qc6 ?_)
  case qc1 => rw [HL.out, HN.out]
  case qc2 =>
    intro j u hj
    exact Lib.cell?_alloc_some _ (A.out j u hj)
  case qc3 => exact HO.out
  case qc4 => unfold maxLen; omega
  case qc5 => omega
  case qc6 => simp
  intro v' w1 hown hgrow hnil
  go_wp2
  go_ret
  exact ⟨v', rfl, by simpa using hown, ((Below.refl _ w).alloc (Nat.le_refl _) _).grown hgrow (by simp) (by intro k hk; simp [Value.ownBlock] at hk; omega)⟩
set_option maxHeartbeats 1000000 in
theorem clone_checks_nil (n c : Nat) (w : World) : Calls Tryz.prog 28 #[.slice none n c] w fun e w' => e = .returned (.slice none 0 0) ∧ w' = w := by
  have q22 := checks_eql
  go_enter Tryz.func28, Tryz.ntmps28
  go_wp2
  go_ret
  exact ⟨rfl, rfl⟩
end Go.Proofs.YthcebnfdapcllaaGreatDoor.An
