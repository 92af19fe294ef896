/-
  Names in memory: blocks that hold one; loaded and stored whole; a result that is one; copy from a string into one; two are compared.
-/
import Derived.Test.YteblphnpealefaaRows
import Derived.Test.YteblphnpealefaaZMem
import Derived.Deep.RegionHeld3
import Derived.Lib.QuietBelow
import Derived.Laws.ResultCell
import Derived.Stop.BytesEq
import Derived.Deep.MidRow
namespace Go.Proofs.Yteblphnpealefaa
open Go.RowKit Mem
theorem hinfo : (Try.prog.info? 36).map (·.size) = some 32 := by kernel_rfl
theorem hinfo8 : (Try.prog.info? 5).map (·.size) = some 1 := by kernel_rfl
def h0 : Array Value := bytesV (List.replicate 32 0)
theorem h0_lit : (#[.int .u8 0, .int .u8 0, .int .u8 0, .int .u8 0, .int .u8 0, .int .u8 0, .int .u8 0, .int .u8 0, .int .u8 0, .int .u8 0, .int .u8 0, .int .u8 0, .int .u8 0, .int .u8 0, .int .u8 0, .int .u8 0, .int .u8 0, .int .u8 0, .int .u8 0, .int .u8 0, .int .u8 0, .int .u8 0, .int .u8 0, .int .u8 0, .int .u8 0, .int .u8 0, .int .u8 0, .int .u8 0, .int .u8 0, .int .u8 0, .int .u8 0, .int .u8 0] : Array Value) = h0 := rfl
theorem h0_new (w : World) (t : TypeId) : Has (w.alloc (.cells #[.int .u8 0, .int .u8 0, .int .u8 0, .int .u8 0, .int .u8 0, .int .u8 0, .int .u8 0, .int .u8 0, .int .u8 0, .int .u8 0, .int .u8 0, .int .u8 0, .int .u8 0, .int .u8 0, .int .u8 0, .int .u8 0, .int .u8 0, .int .u8 0, .int .u8 0, .int .u8 0, .int .u8 0, .int .u8 0, .int .u8 0, .int .u8 0, .int .u8 0, .int .u8 0, .int .u8 0, .int .u8 0, .int .u8 0, .int .u8 0, .int .u8 0, .int .u8 0] t)) w.heap.size h0 t := Has.new h0 t
section
variable {w : World} {ops : Array Oper} {rest : List Oper} {o : Oper} {a : Act} {Q : Exit → Act → World → Prop}
theorem hl_load (hgd : o.guard = none) (x : Operand) (ho : o.op = .load 36 x) (g : Nat) (hx : a.eval x = .pointer (some ⟨g, 0, none⟩)) (cs : Array Value) (hg : Has w g cs 36) (hs : cs.size = 32)
    (h : wpList Try.prog ops Q rest (a.put o.dst (.agg cs)) w) : wpList Try.prog ops Q (o :: rest) a w :=
  wpList_load_row hgd 36 x ho g hx 36 cs (0, 0) _ hg.out Try.underlying36 rfl (hinfo.trans (by rw [hs])) h
theorem hl_load_mid (hgd : o.guard = none) (x : Operand) (ho : o.op = .load 36 x) (g off : Nat) (hx : a.eval x = .pointer (some ⟨g, off, none⟩)) (l : List UInt8) (hg : w.rangeAt g off (Lib.byteCells l)) (hs : (Lib.byteCells l).length = 32)
    (h : wpList Try.prog ops Q rest (a.put o.dst (.agg (bytesV l))) w) : wpList Try.prog ops Q (o :: rest) a w :=
  wpList_load_mid hgd 36 x ho g off hx (Lib.byteCells l) _ hg Try.underlying36 rfl (hinfo.trans (by rw [hs])) h
theorem hl_store (hgd : o.guard = none) (x y : Operand) (ho : o.op = .store 36 x y) (g : Nat) (cz cs' : Array Value) (hx : a.eval x = .pointer (some ⟨g, 0, none⟩)) (hy : a.eval y = .agg cz) (e : cz = cs') (hs' : cs'.size = 32) (h1 : cs'.all (·.oneCell') = true) (cs : Array Value) (hg : Has w g cs 36) (hs : cs.size = 32)
    (h : wpList Try.prog ops Q rest (a.put o.dst undef) (w.setRow g cs')) : wpList Try.prog ops Q (o :: rest) a w := by
  subst e
  exact wpList_store_row hgd 36 x y ho g cz hx hy 36 cs hg.out (hinfo.trans (by rw [hs'])) (by rw [hs, hs']) h1 h
end
theorem hl_results {w : World} {fn : Func} {p : Tmp} (h : fn.results = #[.cell p 36]) (tmps : Array Value) (g : Nat) (cs : Array Value) (hp : tmps.getD p undef = .pointer (some ⟨g, 0, none⟩)) (hg : Has w g cs 36) (hs : cs.size = 32) :
    (results fn tmps).run Try.prog w = .ok (.agg cs) w :=
  results_cell_row h tmps w g 36 cs (0, 0) _ hp hg.out Try.underlying36 rfl (hinfo.trans (by rw [hs]))
theorem Mem.Has.new1 {w : World} (o : Obj) (cs : Array Value) (t : TypeId) : Mem.Has ((w.alloc o).alloc (.cells cs t)) (w.heap.size + 1) cs t := by
  have := Mem.Has.new (w := w.alloc o) cs t
  rwa [World.size_alloc] at this
theorem Mem.Has.new2 {w : World} (o o' : Obj) (cs : Array Value) (t : TypeId) : Mem.Has (((w.alloc o).alloc o').alloc (.cells cs t)) (w.heap.size + 1 + 1) cs t := by
  have := Mem.Has.new (w := (w.alloc o).alloc o') cs t
  rwa [World.size_alloc, World.size_alloc] at this
theorem gb_setRowNew {a b : World} {r : Option Nat} (h : a.grownBy b r) (g : Nat) (hg : a.heap.size ≤ g) (cs : Array Value) : a.grownBy (b.setRow g cs) r :=
  ⟨h.os, h.tape, h.output, by simpa [World.setRow] using h.size, fun k hk hn => (setRow_other b g k cs (by omega)).trans (h.block k hk hn)⟩
/-- something is made, and appended to a row that is new -/
theorem gb_own {a c d : World} {r row : Option Nat} (h : a.grownBy c r) (o : Obj) (hd : (c.alloc o).grownBy d row) (hrow : ∀ k, row = some k → a.heap.size ≤ k) : a.grownBy d r :=
  ⟨hd.os.trans h.os, hd.tape.trans h.tape, hd.output.trans h.output, by have h1 := hd.size; have h2 := h.size; simp only [World.size_alloc] at h1; omega,
    fun k hk hn => (hd.block k (by have := h.size; simp only [World.size_alloc]; omega) (fun e => by have := hrow k e.symm; omega)).trans ((heap_alloc_old c o (by have := h.size; omega)).trans (h.block k hk hn))⟩
theorem gb_none_below {a b : World} (h : a.grownBy b none) : Below a.heap.size a b := ⟨h.os, h.tape, h.output, h.size, fun k hk => h.block k hk (by simp)⟩
theorem hv_size {l : List UInt8} (h : l.length = 32) : (bytesV l).size = 32 := by rw [bytesV_size, h]
theorem wp_copy_min {P : Program} {o : Oper} {a : Act} {w : World} {K : Act → World → Prop} {Q : Exit → Act → World → Prop}
    (d x : Operand) (dT sT : TypeId) (hop : o.op = Op.call { callee := Callee.builtin Builtin.copy, args := #[d, x], argTypes := #[dT, sT] })
    (elem : TypeId) (hu : P.underlying dT = some (.slice elem)) (hz : (P.info? elem).map (·.size) = some 1)
    (b off dLen dCap n : Nat) (hd : a.eval d = .slice (some ⟨b, off, none⟩) dLen dCap) (t : ByteArray) (hx : a.eval x = .string t) (cur : Array Value) (ty : TypeId) (hh : w.heap[b]? = some (.cells cur ty (0, 0)))
    (hn : n = Nat.min t.size dLen) (hfit : off + n ≤ cur.size)
    (hK : K (a.put o.dst (goInt n)) (w.setRow b (cur.toList.take off ++ (Lib.byteCells (t.data.toList.take n) ++ cur.toList.drop (off + n))).toArray)) : o.wp P a w K Q := by
  have hrun := run_copy_min (P := P) w dT sT o.type elem b off dLen dCap n t cur ty hu hz hh hn hfit
  unfold Oper.wp execOp
  simp only [hop, resolve, invoke, builtin, Sem.run_bind, Sem.run_pure, Result.andThen_ok, List.map_toArray, List.map_cons, List.map_nil, hd, hx, hrun]
  exact hK
theorem name_splice (x : List UInt8) (hx : x.length = 32 ∨ x = []) (n : Nat) (hn : n = Nat.min x.length 32) :
    (h0.toList.take 0 ++ (Lib.byteCells (x.take n) ++ h0.toList.drop (0 + n))).toArray = bytesV (if x.length = 32 then x else List.replicate 32 0) := by
  have h0l : h0.toList = Lib.byteCells (List.replicate 32 0) := bytesV_list _
  rcases hx with hx | rfl
  · obtain rfl : n = 32 := by rw [hn, hx]; rfl
    rw [if_pos hx, List.take_of_length_le (l := x) (by omega), h0l, List.take_zero, List.nil_append, List.drop_eq_nil_of_le (by rw [Lib.byteCells_length]; simp), List.append_nil]
    rfl
  · obtain rfl : n = 0 := by rw [hn]; rfl
    rw [if_neg (by simp), h0l]
    rfl
end Go.Proofs.Yteblphnpealefaa
