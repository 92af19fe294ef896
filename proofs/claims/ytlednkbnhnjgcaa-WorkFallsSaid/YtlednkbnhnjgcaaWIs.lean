import Derived.Test.YtlednkbnhnjgcaaWQuo
import Derived.Test.YtlednkbnhnjgcaaWSum
import Derived.Test.YtlednkbnhnjgcaaWNot
import Derived.Test.YtlednkbnhnjgcaaWCompare
import Derived.Test.YtlednkbnhnjgcaaRefLess
import Derived.Test.YtlednkbnhnjgcaaRefAdd
import Derived.Test.YtlednkbnhnjgcaaLawSums
namespace Go.Proofs.Ytlednkbnhnjgcaa
open Go.RowKit Rg2
theorem less_is (x y : Nat) (hx : x < Nm.big) (hy : y < Nm.big) (g : Bool) (hg : decide (x < y) = g) (w : World) : Calls Try.prog 15 #[.agg (numC x), .agg (numC y)] w fun e w' => e = .returned (.bool g) ∧ Below w.heap.size w w' := by
  rw [← hg]; exact less x y hx hy w
theorem zero_is (x : Nat) (hx : x < Nm.big) (g : Bool) (hg : decide (x = 0) = g) (w : World) : Calls Try.prog 21 #[.agg (numC x)] w fun e w' => e = .returned (.bool g) ∧ Below w.heap.size w w' := by
  rw [← hg]; exact zero x hx w
theorem ref_less_is (x y : Nat) (hx : x < Nm.big) (hy : y < Nm.big) (g : Bool) (hg : decide (x < y) = g) (w : World) : Calls Try.prog 8 #[.agg (numC x), .agg (numC y)] w fun e w' => e = .returned (.bool g) ∧ Below w.heap.size w w' := by
  rw [← hg]; exact ref_less x y hx hy w
theorem add_is (x y : Nat) (hx : x < Nm.big) (hy : y < Nm.big) (s : Nat) (g : Bool) (hs : (x + y) % Nm.big = s) (hg : decide (Nm.big ≤ x + y) = g) (w : World) : Calls Try.prog 14 #[.agg (numC x), .agg (numC y)] w fun e w' => e = .returned (.tuple #[.agg (numC s), .bool g]) ∧ Below w.heap.size w w' := by
  rw [← hg, ← hs]; exact add x y hx hy w
theorem ref_add_is (x y : Nat) (hx : x < Nm.big) (hy : y < Nm.big) (s : Nat) (g : Bool) (hs : (x + y) % Nm.big = s) (hg : decide (Nm.big ≤ x + y) = g) (w : World) : Calls Try.prog 6 #[.agg (numC x), .agg (numC y)] w fun e w' => e = .returned (.tuple #[.agg (numC s), .bool g]) ∧ Below w.heap.size w w' := by
  rw [← hg, ← hs]; exact ref_add x y hx hy w
theorem one_is (w : World) : Calls Try.prog 16 #[.int .u64 1] w fun e w' => e = .returned (.agg (numC 1)) ∧ Below w.heap.size w w' := of 1 (by decide) w
theorem build2 (x y : Nat) (w : World) : (Instr.buildSlice 48 2 #[(0, .agg (numC x)), (1, .agg (numC y))]).run Try.prog w = .ok (.slice (some ⟨w.heap.size, 0, none⟩) 2 2) (w.alloc (.cells (numRow [x, y]) 24)) := by kernel_rfl
theorem ex_build2 {ρ : Operand → Value} {o : Oper} {w : World} {p0 p1 : Operand} (ho : o.op = .buildSlice 48 2 #[(0, p0), (1, p1)]) {x y : Nat} (h0 : ρ p0 = .agg (numC x)) (h1 : ρ p1 = .agg (numC y)) :
    (execOp ρ o).run Try.prog w = .ok (.value (.slice (some ⟨w.heap.size, 0, none⟩) 2 2)) (w.alloc (.cells (numRow [x, y]) 24)) := by
  unfold execOp
  simp only [ho, Sem.run_bind]
  rw [show (#[(0, p0), (1, p1)] : Array (Nat × Operand)).map (fun (i, x) => (i, ρ x)) = #[(0, .agg (numC x)), (1, .agg (numC y))] by simp [h0, h1]]
  rw [build2 x y w]; rfl
theorem build_num2 {ops : Array Oper} {rest : List Oper} {o : Oper} {a : Act} {w : World} {Q : Exit → Act → World → Prop} (hgd : o.guard = none) (p0 p1 : Operand) (ho : o.op = .buildSlice 48 2 #[(0, p0), (1, p1)]) (x y : Nat) (h0 : a.eval p0 = .agg (numC x)) (h1 : a.eval p1 = .agg (numC y))
    (h : wpList Try.prog ops Q rest (a.put o.dst (.slice (some ⟨w.heap.size, 0, none⟩) 2 2)) (w.alloc (.cells (numRow [x, y]) 24))) : wpList Try.prog ops Q (o :: rest) a w :=
  wpList_plain hgd fun _ hK => by
    unfold Oper.wp
    rw [ex_build2 ho h0 h1]
    exact hK _ _ h
theorem eql_zero (z : Nat) (hz : z < Nm.big) (g : Bool) (hg : decide (z = 0) = g) (w : World) : (binOp .eql 24 (.agg (numC z)) (.agg #[.int .u64 0, .int .u64 0, .int .u64 0, .int .u64 0])).run Try.prog w = .ok (.bool g) w := by
  rw [← hg]; exact eql_num hz (show 0 < Nm.big by decide) w
theorem neq_zero (z : Nat) (hz : z < Nm.big) (g : Bool) (hg : (!decide (z = 0)) = g) (w : World) : (binOp .neq 24 (.agg (numC z)) (.agg #[.int .u64 0, .int .u64 0, .int .u64 0, .int .u64 0])).run Try.prog w = .ok (.bool g) w := by
  rw [← hg]; exact neq_num hz (show 0 < Nm.big by decide) w
theorem eql_bool_same (b : Bool) (w : World) : (binOp .eql 4 (.bool b) (.bool b)).run Try.prog w = .ok (.bool true) w := by
  cases b <;> kernel_rfl
end Go.Proofs.Ytlednkbnhnjgcaa
