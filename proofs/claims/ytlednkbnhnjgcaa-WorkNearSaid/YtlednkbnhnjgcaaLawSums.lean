import Derived.Test.YtlednkbnhnjgcaaWAlive
import Derived.Test.YtlednkbnhnjgcaaWNot
import Derived.Test.YtlednkbnhnjgcaaWSum
import Derived.Test.YtlednkbnhnjgcaaWSub
import Derived.Test.YtlednkbnhnjgcaaRefSub
namespace Go.Proofs.Ytlednkbnhnjgcaa
open Go.RowKit
theorem build3 (x y z : Nat) (w : World) : (Instr.buildSlice 48 3 #[(0, .agg (numC x)), (1, .agg (numC y)), (2, .agg (numC z))]).run Try.prog w = .ok (.slice (some ⟨w.heap.size, 0, none⟩) 3 3) (w.alloc (.cells (numRow [x, y, z]) 24)) := by kernel_rfl
theorem build_num3 {ops : Array Oper} {rest : List Oper} {o : Oper} {a : Act} {w : World} {Q : Exit → Act → World → Prop} (hgd : o.guard = none) (p0 p1 p2 : Operand) (ho : o.op = .buildSlice 48 3 #[(0, p0), (1, p1), (2, p2)]) (x y z : Nat) (h0 : a.eval p0 = .agg (numC x)) (h1 : a.eval p1 = .agg (numC y)) (h2 : a.eval p2 = .agg (numC z))
    (h : wpList Try.prog ops Q rest (a.put o.dst (.slice (some ⟨w.heap.size, 0, none⟩) 3 3)) (w.alloc (.cells (numRow [x, y, z]) 24))) : wpList Try.prog ops Q (o :: rest) a w :=
  wpList_plain hgd fun _ hK => by
    have := build3 x y z w
    have he : (execOp a.eval o).run Try.prog w = .ok (.value (.slice (some ⟨w.heap.size, 0, none⟩) 3 3)) (w.alloc (.cells (numRow [x, y, z]) 24)) := by
      unfold execOp
      simp only [ho, Sem.run_bind]
      rw [show (#[(0, p0), (1, p1), (2, p2)] : Array (Nat × Operand)).map (fun (i, x) => (i, a.eval x)) = #[(0, .agg (numC x)), (1, .agg (numC y)), (2, .agg (numC z))] by simp [h0, h1, h2]]
      rw [this]; rfl
    unfold Oper.wp
    rw [he]
    exact hK _ _ h
theorem sum3 (x y z : Nat) (hx : x < Nm.big) : sumTo [x, y, z] 3 = ((x + y) % Nm.big + z) % Nm.big := by
  simp [sumTo, item, Nat.mod_eq_of_lt hx]
theorem over3 (x y z : Nat) (hx : x < Nm.big) : overTo [x, y, z] 3 = (decide (Nm.big ≤ x + y) || decide (Nm.big ≤ (x + y) % Nm.big + z)) := by
  have h : ¬ Nm.big ≤ x := by omega
  simp [overTo, sumTo, item, Nat.mod_eq_of_lt hx, h]
theorem eql_same (z : Nat) (w : World) : (binOp .eql 24 (.agg (numC z)) (.agg (numC z))).run Try.prog w = .ok (.bool true) w := by
  rw [numC_wds, run_eql_ints w .u64 24 22 4 Try.underlying24 Try.underlying22 wordSize _ _ rfl rfl]; simp
theorem back_sum {x y : Nat} (hx : x < Nm.big) (hy : y < Nm.big) : ((x + y) % Nm.big + Nm.big - y) % Nm.big = x := by
  rcases Nat.lt_or_ge (x + y) Nm.big with h | h
  · rw [Nat.mod_eq_of_lt h, show x + y + Nm.big - y = x + Nm.big by omega, Nat.add_mod_right, Nat.mod_eq_of_lt hx]
  · have e : (x + y) % Nm.big = x + y - Nm.big := by rw [Nat.mod_eq_sub_mod h, Nat.mod_eq_of_lt (by omega)]
    rw [e, show x + y - Nm.big + Nm.big - y = x by omega, Nat.mod_eq_of_lt hx]
end Go.Proofs.Ytlednkbnhnjgcaa
