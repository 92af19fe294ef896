/-
  Messages in memory: cells, blocks, loads and stores.
-/
import Derived.Test.YteblphnpealefaaBunQ10
import Derived.Laws.Rows
import Derived.Test.YteblphnpealefaaBunQ9
namespace Go.Proofs.Yteblphnpealefaa
open Go.RowKit Mem Sc
/-- a slice -/
structure Sl where
  a : Option Addr
  n : Nat
  c : Nat
def Sl.v (s : Sl) : Value := .slice s.a s.n s.c
def slZ : Sl := ⟨none, 0, 0⟩
/-- a message as its cells have it -/
structure Mm where
  kind : Int
  ver : Int
  serv : Int
  height : Int
  nb : Int
  ns : Sl
  stop : List UInt8
  hs : Sl
def Mm.ok (m : Mm) : Prop := m.stop.length = 32
def mmC (m : Mm) : List Value := .int .i64 m.kind :: .int .i64 m.ver :: .int .i64 m.serv :: .int .i64 m.height :: .int .i64 m.nb :: .slice m.ns.a m.ns.n m.ns.c :: (Lib.byteCells m.stop ++ [.slice m.hs.a m.hs.n m.hs.c])
def mmA (m : Mm) : Array Value := (mmC m).toArray
def mmZ (k : Int) : Mm := ⟨k, 0, 0, 0, 0, slZ, z32, slZ⟩
def Mm.bare (m : Mm) : Mm :=
  if m.kind = 1 then ⟨m.kind, m.ver, m.serv, m.height, m.nb, slZ, z32, slZ⟩
  else if m.kind = 3 then ⟨m.kind, m.ver, 0, 0, 0, m.ns, m.stop, slZ⟩
  else if m.kind = 4 then ⟨m.kind, 0, 0, 0, 0, slZ, z32, m.hs⟩
  else if m.kind = 5 then ⟨m.kind, 0, 0, 0, 0, m.ns, z32, slZ⟩
  else if m.kind = 6 ∨ m.kind = 7 then ⟨m.kind, 0, 0, 0, m.nb, slZ, z32, slZ⟩
  else ⟨m.kind, 0, 0, 0, 0, slZ, z32, slZ⟩
theorem mmZ_ok (k : Int) : (mmZ k).ok := rfl
theorem mbare_ok {m : Mm} (h : m.ok) : m.bare.ok := by
  unfold Mm.bare
  repeat' split
  all_goals first | exact h | rfl
theorem mmC_length {m : Mm} (ho : m.ok) : (mmC m).length = 39 := by
  have : m.stop.length = 32 := ho
  simp [mmC, Lib.byteCells_length, this]
theorem mmA_size {m : Mm} (ho : m.ok) : (mmA m).size = 39 := by show (mmC m).toArray.size = 39; rw [List.size_toArray]; exact mmC_length ho
theorem mmC_one (m : Mm) : ∀ v ∈ mmC m, v.oneCell' = true := by
  intro v hv
  simp only [mmC, List.mem_cons, List.mem_append] at hv
  rcases hv with rfl | rfl | rfl | rfl | rfl | rfl | hv | rfl | hv
  · rfl
  · rfl
  · rfl
  · rfl
  · rfl
  · rfl
  · exact Lib.byteCells_one _ v hv
  · rfl
  · cases hv
theorem mmA_one (m : Mm) : (mmA m).all (·.oneCell') = true := all_oneCell_toArray (mmC_one m)
theorem mminfo : (Try.prog.info? 39).map (·.size) = some 39 := by kernel_rfl
/-- a block that holds a message -/
def MmAt (w : World) (k : Nat) (m : Mm) : Prop := Has w k (mmA m) 39
variable {w w' : World} {k : Nat} {m : Mm}
theorem MmAt.lt (hh : MmAt w k m) : k < w.heap.size := Has.lt hh
theorem MmAt.on (hh : MmAt w k m) (hb : Below w.heap.size w w') : MmAt w' k m := below_has hb hh hh.lt
theorem MmAt.grown {r : Option Nat} (hh : MmAt w k m) (hg : w.grownBy w' r) (hn : some k ≠ r) : MmAt w' k m := gb_has hg hh hn
theorem MmAt.pen {b : Nat} {v v' : Value} (hh : MmAt w k m) (hs : PenStep w w' b v v') (hb : k ≠ b) (hv : v.ownBlock ≠ some k) : MmAt w' k m := hs.has hh hb hv
theorem MmAt.free (hh : MmAt w k m) (j : Nat) : w.frozen? ⟨k, j, none⟩ = false := Has.free hh j
theorem MmAt.kind (hh : MmAt w k m) : w.cell? ⟨k, 0, none⟩ = some (.int .i64 m.kind) := Has.cell hh 0
theorem MmAt.ver (hh : MmAt w k m) : w.cell? ⟨k, 1, none⟩ = some (.int .i64 m.ver) := Has.cell hh 1
theorem MmAt.serv (hh : MmAt w k m) : w.cell? ⟨k, 2, none⟩ = some (.int .i64 m.serv) := Has.cell hh 2
theorem MmAt.height (hh : MmAt w k m) : w.cell? ⟨k, 3, none⟩ = some (.int .i64 m.height) := Has.cell hh 3
theorem MmAt.nb (hh : MmAt w k m) : w.cell? ⟨k, 4, none⟩ = some (.int .i64 m.nb) := Has.cell hh 4
theorem MmAt.ns (hh : MmAt w k m) : w.cell? ⟨k, 5, none⟩ = some (.slice m.ns.a m.ns.n m.ns.c) := Has.cell hh 5
theorem mmC_stop (m : Mm) (j : Nat) (u : Value) (hu : (Lib.byteCells m.stop)[j]? = some u) : (mmC m)[6 + j]? = some u := by
  rw [Nat.add_comm]
  show (Lib.byteCells m.stop ++ _)[j]? = some u
  rw [List.getElem?_append_left (List.getElem?_eq_some_iff.1 hu).1]
  exact hu
theorem MmAt.stop (hh : MmAt w k m) : w.rangeAt k 6 (Lib.byteCells m.stop) := fun j u hu => by
  rw [Has.cell hh (6 + j)]
  show (mmC m).toArray[6 + j]? = some u
  rw [List.getElem?_toArray]
  exact mmC_stop m j u hu
theorem mmC_hs (ho : m.ok) : (mmC m)[38]? = some (.slice m.hs.a m.hs.n m.hs.c) := by
  show (Lib.byteCells m.stop ++ _)[32]? = _
  rw [List.getElem?_append_right (by rw [byteCells_32 ho]; omega), byteCells_32 ho]
  rfl
theorem MmAt.hs (hh : MmAt w k m) (ho : m.ok) : w.cell? ⟨k, 38, none⟩ = some (.slice m.hs.a m.hs.n m.hs.c) := by
  rw [Has.cell hh 38]
  show (mmC m).toArray[38]? = _
  rw [List.getElem?_toArray]
  exact mmC_hs ho
/-! ### one part is stored -/
theorem MmAt.setVer (hh : MmAt w k m) (x : Int) : MmAt (w.setCell ⟨k, 1, none⟩ (.int .i64 x)) k { m with ver := x } := by
  have := Has.set (i := 1) hh (.int .i64 x)
  rwa [show (mmA m).setIfInBounds 1 (.int .i64 x) = mmA { m with ver := x } by simp [mmA, mmC]] at this
theorem MmAt.setServ (hh : MmAt w k m) (x : Int) : MmAt (w.setCell ⟨k, 2, none⟩ (.int .i64 x)) k { m with serv := x } := by
  have := Has.set (i := 2) hh (.int .i64 x)
  rwa [show (mmA m).setIfInBounds 2 (.int .i64 x) = mmA { m with serv := x } by simp [mmA, mmC]] at this
theorem MmAt.setHeight (hh : MmAt w k m) (x : Int) : MmAt (w.setCell ⟨k, 3, none⟩ (.int .i64 x)) k { m with height := x } := by
  have := Has.set (i := 3) hh (.int .i64 x)
  rwa [show (mmA m).setIfInBounds 3 (.int .i64 x) = mmA { m with height := x } by simp [mmA, mmC]] at this
theorem MmAt.setNb (hh : MmAt w k m) (x : Int) : MmAt (w.setCell ⟨k, 4, none⟩ (.int .i64 x)) k { m with nb := x } := by
  have := Has.set (i := 4) hh (.int .i64 x)
  rwa [show (mmA m).setIfInBounds 4 (.int .i64 x) = mmA { m with nb := x } by simp [mmA, mmC]] at this
theorem MmAt.setNs (hh : MmAt w k m) (a : Option Addr) (n c : Nat) : MmAt (w.setCell ⟨k, 5, none⟩ (.slice a n c)) k { m with ns := ⟨a, n, c⟩ } := by
  have := Has.set (i := 5) hh (.slice a n c)
  rwa [show (mmA m).setIfInBounds 5 (.slice a n c) = mmA { m with ns := ⟨a, n, c⟩ } by simp [mmA, mmC]] at this
theorem MmAt.setHs (hh : MmAt w k m) (ho : m.ok) (a : Option Addr) (n c : Nat) : MmAt (w.setCell ⟨k, 38, none⟩ (.slice a n c)) k { m with hs := ⟨a, n, c⟩ } := by
  have := Has.set (i := 38) hh (.slice a n c)
  have e : (mmA m).setIfInBounds 38 (.slice a n c) = mmA { m with hs := ⟨a, n, c⟩ } := by
    unfold mmA
    rw [List.setIfInBounds_toArray]
    congr 1
    show (_ :: _ :: _ :: _ :: _ :: _ :: (Lib.byteCells m.stop ++ [_])).set (32 + 6) _ = _
    simp only [List.set_cons_succ]
    rw [List.set_append_right _ _ (by rw [byteCells_32 ho]; omega), byteCells_32 ho]
    rfl
  rwa [e] at this
theorem MmAt.setStop (hh : MmAt w k m) (ho : m.ok) {p : List UInt8} (hp : p.length = 32) : MmAt (w.setCells k 6 (Lib.byteCells p)) k { m with stop := p } := by
  have hh' : Has w k ([Value.int .i64 m.kind, .int .i64 m.ver, .int .i64 m.serv, .int .i64 m.height, .int .i64 m.nb, .slice m.ns.a m.ns.n m.ns.c] ++ (Lib.byteCells m.stop ++ [Value.slice m.hs.a m.hs.n m.hs.c])).toArray 39 := hh
  exact has_setCells k 39 (Lib.byteCells p) 6 w _ _ _ hh' rfl (by rw [byteCells_32 ho, byteCells_32 hp])
theorem MmAt.there (hh : MmAt w k m) (ho : m.ok) (o n : Nat) (hn : o + n ≤ 39) : w.there k o n := fun j hj => ⟨by
  rw [Has.cell hh (o + j)]
  have hz := mmA_size ho
  rw [Array.getElem?_eq_getElem (by omega)]
  rfl, hh.free _⟩
section
variable {ops : Array Oper} {rest : List Oper} {o : Oper} {a : Act} {Q : Exit → Act → World → Prop}
theorem mm_load (hgd : o.guard = none) (x : Operand) (ho : o.op = .load 39 x) (g : Nat) (hx : a.eval x = .pointer (some ⟨g, 0, none⟩)) (hg : MmAt w g m) (hs : (mmA m).size = 39)
    (hk : wpList Try.prog ops Q rest (a.put o.dst (.agg (mmA m))) w) : wpList Try.prog ops Q (o :: rest) a w :=
  wpList_load_row hgd 39 x ho g hx 39 (mmA m) (0, 0) _ (Has.out hg) Try.underlying39 rfl (mminfo.trans (by rw [hs])) hk
theorem mm_load_g (hw : Region.wanted o (yielded ops a.tmps) = true) (x : Operand) (ho : o.op = .load 39 x) (g : Nat) (hx : a.eval x = .pointer (some ⟨g, 0, none⟩)) (hg : MmAt w g m) (hs : (mmA m).size = 39)
    (hk : wpList Try.prog ops Q rest (a.put o.dst (.agg (mmA m))) w) : wpList Try.prog ops Q (o :: rest) a w :=
  BigFrame.wpList_want hw fun _ hK => wp_load_row 39 x ho g hx 39 (mmA m) (0, 0) _ (Has.out hg) Try.underlying39 rfl (mminfo.trans (by rw [hs])) (hK _ _ hk)
theorem mm_store (hgd : o.guard = none) (x y : Operand) (ho : o.op = .store 39 x y) (g : Nat) (cz : Array Value) (m' : Mm) (hx : a.eval x = .pointer (some ⟨g, 0, none⟩)) (hy : a.eval y = .agg cz) (e : cz = mmA m') (hs' : (mmA m').size = 39) (hg : MmAt w g m) (hs : (mmA m).size = 39)
    (hk : wpList Try.prog ops Q rest (a.put o.dst undef) (w.setRow g (mmA m'))) : wpList Try.prog ops Q (o :: rest) a w := by
  subst e
  exact wpList_store_row hgd 39 x y ho g (mmA m') hx hy 39 (mmA m) (Has.out hg) (mminfo.trans (by rw [hs'])) (by rw [hs, hs']) (mmA_one m') hk
end
theorem mm_results {fn : Func} {p : Tmp} (hf : fn.results = #[.cell p 39]) (tmps : Array Value) (g : Nat) (hp : tmps.getD p undef = .pointer (some ⟨g, 0, none⟩)) (hg : MmAt w g m) (hs : (mmA m).size = 39) :
    (results fn tmps).run Try.prog w = .ok (.agg (mmA m)) w :=
  results_cell_row hf tmps w g 39 (mmA m) (0, 0) _ hp (Has.out hg) Try.underlying39 rfl (mminfo.trans (by rw [hs]))
theorem mm_results2 {fn : Func} {p q : Tmp} (hf : fn.results = #[.cell p 39, .tmp q]) (tmps : Array Value) (g : Nat) (b : Value) (hp : tmps.getD p undef = .pointer (some ⟨g, 0, none⟩)) (hb : tmps.getD q undef = b) (hg : MmAt w g m) (hs : (mmA m).size = 39) :
    (results fn tmps).run Try.prog w = .ok (.tuple #[.agg (mmA m), b]) w := by
  have hl : (loadVar 39 ⟨g, 0, none⟩).run Try.prog w = .ok (.agg (mmA m)) w := run_loadVar_row w g 39 39 (mmA m) (0, 0) _ (Has.out hg) Try.underlying39 rfl (mminfo.trans (by rw [hs]))
  rw [results_cell_tmp hf, hp, hb]
  simp [asAddr, hl, Result.andThen]
theorem mm_new (w : World) (m : Mm) : MmAt (w.alloc (.cells (mmA m) 39)) w.heap.size m := Has.new _ _
theorem mm_new1 (w : World) (ob : Obj) (m : Mm) : MmAt ((w.alloc ob).alloc (.cells (mmA m) 39)) (w.heap.size + 1) m := Has.new1 ob _ _
theorem mmZ_lit (k : Int) : mmA (mmZ k) = #[.int .i64 k, .int .i64 0, .int .i64 0, .int .i64 0, .int .i64 0, .slice none 0 0, .int .u8 0, .int .u8 0, .int .u8 0, .int .u8 0, .int .u8 0, .int .u8 0, .int .u8 0, .int .u8 0, .int .u8 0, .int .u8 0, .int .u8 0, .int .u8 0, .int .u8 0, .int .u8 0, .int .u8 0, .int .u8 0, .int .u8 0, .int .u8 0, .int .u8 0, .int .u8 0, .int .u8 0, .int .u8 0, .int .u8 0, .int .u8 0, .int .u8 0, .int .u8 0, .int .u8 0, .int .u8 0, .int .u8 0, .int .u8 0, .int .u8 0, .int .u8 0, .slice none 0 0] := rfl
theorem mm_newz (w : World) : MmAt (w.alloc (.cells #[.int .i64 0, .int .i64 0, .int .i64 0, .int .i64 0, .int .i64 0, .slice none 0 0, .int .u8 0, .int .u8 0, .int .u8 0, .int .u8 0, .int .u8 0, .int .u8 0, .int .u8 0, .int .u8 0, .int .u8 0, .int .u8 0, .int .u8 0, .int .u8 0, .int .u8 0, .int .u8 0, .int .u8 0, .int .u8 0, .int .u8 0, .int .u8 0, .int .u8 0, .int .u8 0, .int .u8 0, .int .u8 0, .int .u8 0, .int .u8 0, .int .u8 0, .int .u8 0, .int .u8 0, .int .u8 0, .int .u8 0, .int .u8 0, .int .u8 0, .int .u8 0, .slice none 0 0] 39)) w.heap.size (mmZ 0) := mm_new w (mmZ 0)
theorem mm_newz1 (w : World) (ob : Obj) : MmAt ((w.alloc ob).alloc (.cells #[.int .i64 0, .int .i64 0, .int .i64 0, .int .i64 0, .int .i64 0, .slice none 0 0, .int .u8 0, .int .u8 0, .int .u8 0, .int .u8 0, .int .u8 0, .int .u8 0, .int .u8 0, .int .u8 0, .int .u8 0, .int .u8 0, .int .u8 0, .int .u8 0, .int .u8 0, .int .u8 0, .int .u8 0, .int .u8 0, .int .u8 0, .int .u8 0, .int .u8 0, .int .u8 0, .int .u8 0, .int .u8 0, .int .u8 0, .int .u8 0, .int .u8 0, .int .u8 0, .int .u8 0, .int .u8 0, .int .u8 0, .int .u8 0, .int .u8 0, .int .u8 0, .slice none 0 0] 39)) (w.heap.size + 1) (mmZ 0) := mm_new1 w ob (mmZ 0)
/-- a message is loaded whole in a region that draws its order -/
theorem quiet_mm {C : World → Prop} {a : Act} {o : Oper} {K : Act → Prop} (x : Operand) (ho : o.op = .load 39 x) (g : Nat) (hx : a.eval x = .pointer (some ⟨g, 0, none⟩)) (m : Mm) (hs : (mmA m).size = 39) (hC : ∀ w', C w' → MmAt w' g m)
    (hk : K (a.put o.dst (.agg (mmA m)))) : o.quiet Try.prog a C K :=
  ⟨_, fun w' hw' => by
    unfold Oper.quietAt
    have this : (execOp a.eval o).run Try.prog w' = .ok (.value (.agg (mmA m))) w' := by
      unfold execOp
      simp only [ho, hx, Instr.loadAt, Instr.sureAddr, Sem.run_bind, Sem.run_pure, Result.andThen_ok, run_loadVar_row w' g 39 39 (mmA m) (0, 0) _ (Has.out (hC w' hw')) Try.underlying39 rfl (mminfo.trans (by rw [hs]))]
    rw [this]
    exact ⟨rfl, rfl⟩, hk⟩
end Go.Proofs.Yteblphnpealefaa
