import Derived.Test.YtkclahiiijfllaaGreatDoorTBunQ10
import Derived.Laws.StructEq
namespace Go.Proofs.YtkclahiiijfllaaGreatDoor
open Go.RowKit Mem Sc
theorem part_cell (cs : Array Value) (o : Nat) (v : Value) (h : cs[o]? = some v) (w : World) : (part 3 cs o).run Tryz.prog w = .ok v w := by
  simp [part, h]
theorem part_name (cs : Array Value) (o : Nat) (l : List UInt8) (h : cs.extract o (o + 32) = bytesV l) (w : World) : (part 28 cs o).run Tryz.prog w = .ok (.agg (bytesV l)) w := by
  simp [part, h]
theorem hd_prev (h : Hd) (ho : h.ok) : (hdA h).extract 1 33 = bytesV h.prev := by
  apply Array.toList_inj.1
  rw [bytesV_list, Array.toList_extract]
  show ((hdC h).drop 1).take (33 - 1) = _
  show (Lib.byteCells h.prev ++ _).take 32 = _
  exact List.take_left' (byteCells_32 ho.1)
theorem hd_root (h : Hd) (ho : h.ok) : (hdA h).extract 33 65 = bytesV h.root := by
  apply Array.toList_inj.1
  rw [bytesV_list, Array.toList_extract]
  show ((hdC h).drop 33).take (65 - 33) = _
  have e : (hdC h).drop 33 = Lib.byteCells h.root ++ [.int .i64 h.time, .int .i64 h.bits, .int .i64 h.nonce] := by
    show (Lib.byteCells h.prev ++ _).drop 32 = _
    exact List.drop_left' (byteCells_32 ho.1)
  rw [e]
  exact List.take_left' (byteCells_32 ho.2)
theorem hd_cell (h : Hd) (ho : h.ok) (j : Nat) : (hdA h)[65 + j]? = [Value.int .i64 h.time, .int .i64 h.bits, .int .i64 h.nonce][j]? := by
  show (hdC h).toArray[65 + j]? = _
  rw [List.getElem?_toArray]
  exact hdC_tail ho j
theorem eq_name (x y : List UInt8) (hx : x.length = 32) (hy : y.length = 32) (d : Nat) (w : World) : (Op.equalIn (d + 2) 28 (.agg (bytesV x)) (.agg (bytesV y))).run Tryz.prog w = .ok (x == y) w :=
  run_equalIn_bytes (P := Tryz.prog) w d 28 5 32 Tryz.underlying28 Tryz.underlying5 hsize1 x y hx hy
theorem eq_int (a b : Int) (d : Nat) (w : World) : (Op.equalIn (d + 1) 3 (.int .i64 a) (.int .i64 b)).run Tryz.prog w = .ok (a == b) w :=
  run_equalIn_int w d 3 .i64 .i64 a b Tryz.underlying3
theorem hd_ext (a b : Hd) : (a = b) ↔ (a.v = b.v ∧ a.prev = b.prev ∧ a.root = b.root ∧ a.time = b.time ∧ a.bits = b.bits ∧ a.nonce = b.nonce) := by
  obtain ⟨a1, a2, a3, a4, a5, a6⟩ := a
  obtain ⟨b1, b2, b3, b4, b5, b6⟩ := b
  simp
instance (a b : Hd) : Decidable (a = b) := decidable_of_iff _ (hd_ext a b).symm
theorem hn_neq (x y : List UInt8) (hx : x.length = 32) (hy : y.length = 32) (g : Bool) (hg : (!(x == y)) = g) (w : World) : (binOp .neq 28 (.agg (bytesV x)) (.agg (bytesV y))).run Tryz.prog w = .ok (.bool g) w := by
  rw [run_neq_struct, show (10000 : Nat) = 9998 + 2 from rfl, eq_name x y hx hy, ← hg]; rfl
end Go.Proofs.YtkclahiiijfllaaGreatDoor
