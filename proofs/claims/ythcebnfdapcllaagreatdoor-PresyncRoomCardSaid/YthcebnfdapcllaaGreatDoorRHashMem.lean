import Derived.Test.YthcebnfdapcllaaGreatDoorRows
import Derived.Test.YthcebnfdapcllaaGreatDoorRMem
import Derived.Deep.RegionHeld3
import Derived.Lib.QuietBelow
import Derived.Laws.ResultCell
import Derived.Stop.BytesEq
import Derived.Deep.MidRow
namespace Go.Proofs.YthcebnfdapcllaaGreatDoor
open Go.RowKit Mem
theorem hinfo : (Tryz.prog.info? 28).map (·.size) = some 32 := by kernel_rfl
theorem hinfo8 : (Tryz.prog.info? 5).map (·.size) = some 1 := by kernel_rfl
def h0 : Array Value := bytesV (List.replicate 32 0)
theorem h0_new (w : World) (t : TypeId) : Has (w.alloc (.cells #[.int .u8 0, .int .u8 0, .int .u8 0, .int .u8 0, .int .u8 0, .int .u8 0, .int .u8 0, .int .u8 0, .int .u8 0, .int .u8 0, .int .u8 0, .int .u8 0, .int .u8 0, .int .u8 0, .int .u8 0, .int .u8 0, .int .u8 0, .int .u8 0, .int .u8 0, .int .u8 0, .int .u8 0, .int .u8 0, .int .u8 0, .int .u8 0, .int .u8 0, .int .u8 0, .int .u8 0, .int .u8 0, .int .u8 0, .int .u8 0, .int .u8 0, .int .u8 0] t)) w.heap.size h0 t := Has.new h0 t
section
variable {w : World} {ops : Array Oper} {rest : List Oper} {o : Oper} {a : Act} {Q : Exit → Act → World → Prop}
theorem hl_load (hgd : o.guard = none) (x : Operand) (ho : o.op = .load 28 x) (g : Nat) (hx : a.eval x = .pointer (some ⟨g, 0, none⟩)) (cs : Array Value) (hg : Has w g cs 28) (hs : cs.size = 32)
    (h : wpList Tryz.prog ops Q rest (a.put o.dst (.agg cs)) w) : wpList Tryz.prog ops Q (o :: rest) a w :=
  wpList_load_row hgd 28 x ho g hx 28 cs (0, 0) _ hg.out Tryz.underlying28 rfl (hinfo.trans (by rw [hs])) h
theorem hl_load_mid (hgd : o.guard = none) (x : Operand) (ho : o.op = .load 28 x) (g off : Nat) (hx : a.eval x = .pointer (some ⟨g, off, none⟩)) (l : List UInt8) (hg : w.rangeAt g off (Lib.byteCells l)) (hs : (Lib.byteCells l).length = 32)
    (h : wpList Tryz.prog ops Q rest (a.put o.dst (.agg (bytesV l))) w) : wpList Tryz.prog ops Q (o :: rest) a w :=
  wpList_load_mid hgd 28 x ho g off hx (Lib.byteCells l) _ hg Tryz.underlying28 rfl (hinfo.trans (by rw [hs])) h
theorem hl_store (hgd : o.guard = none) (x y : Operand) (ho : o.op = .store 28 x y) (g : Nat) (cz cs' : Array Value) (hx : a.eval x = .pointer (some ⟨g, 0, none⟩)) (hy : a.eval y = .agg cz) (e : cz = cs') (hs' : cs'.size = 32) (h1 : cs'.all (·.oneCell') = true) (cs : Array Value) (hg : Has w g cs 28) (hs : cs.size = 32)
    (h : wpList Tryz.prog ops Q rest (a.put o.dst undef) (w.setRow g cs')) : wpList Tryz.prog ops Q (o :: rest) a w := by
  subst e
  exact wpList_store_row hgd 28 x y ho g cz hx hy 28 cs hg.out (hinfo.trans (by rw [hs'])) (by rw [hs, hs']) h1 h
end
theorem hl_results {w : World} {fn : Func} {p : Tmp} (h : fn.results = #[.cell p 28]) (tmps : Array Value) (g : Nat) (cs : Array Value) (hp : tmps.getD p undef = .pointer (some ⟨g, 0, none⟩)) (hg : Has w g cs 28) (hs : cs.size = 32) :
    (results fn tmps).run Tryz.prog w = .ok (.agg cs) w :=
  results_cell_row h tmps w g 28 cs (0, 0) _ hp hg.out Tryz.underlying28 rfl (hinfo.trans (by rw [hs]))
theorem Mem.Has.new1 {w : World} (o : Obj) (cs : Array Value) (t : TypeId) : Mem.Has ((w.alloc o).alloc (.cells cs t)) (w.heap.size + 1) cs t := by
  have := Mem.Has.new (w := w.alloc o) cs t
  rwa [World.size_alloc] at this
theorem Mem.Has.new2 {w : World} (o o' : Obj) (cs : Array Value) (t : TypeId) : Mem.Has (((w.alloc o).alloc o').alloc (.cells cs t)) (w.heap.size + 1 + 1) cs t := by
  have := Mem.Has.new (w := (w.alloc o).alloc o') cs t
  rwa [World.size_alloc, World.size_alloc] at this
theorem gb_none_below {a b : World} (h : a.grownBy b none) : Below a.heap.size a b := ⟨h.os, h.tape, h.output, h.size, fun k hk => h.block k hk (by simp)⟩
theorem hv_size {l : List UInt8} (h : l.length = 32) : (bytesV l).size = 32 := by rw [bytesV_size, h]
end Go.Proofs.YthcebnfdapcllaaGreatDoor
