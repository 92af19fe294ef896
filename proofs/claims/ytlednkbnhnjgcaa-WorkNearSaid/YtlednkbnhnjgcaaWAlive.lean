import Derived.Test.YtlednkbnhnjgcaaWAdd
import Derived.Test.YtlednkbnhnjgcaaWSmall
import Derived.Test.YtlednkbnhnjgcaaWLen
namespace Go.Proofs.Ytlednkbnhnjgcaa
open Go.RowKit

theorem of_one (w : World) : Calls Try.prog 16 #[.int .u64 1] w fun e w' => e = .returned (.agg (numC 1)) ∧ Below w.heap.size w w' := of 1 (by decide) w
theorem add_alive (w : World) : Calls Try.prog 14 #[.agg (numC (Nm.big - 1)), .agg (numC 1)] w fun e w' => e = .returned (.tuple #[.agg (numC 0), .bool true]) ∧ Below w.heap.size w w' :=
  (add (Nm.big - 1) 1 (by decide) (by decide) w).mono fun _ _ ⟨he, hb⟩ => ⟨by rw [he, show (Nm.big - 1 + 1) % Nm.big = 0 by decide, show decide (Nm.big ≤ Nm.big - 1 + 1) = true by decide], hb⟩
theorem len_most (w : World) : Calls Try.prog 24 #[.agg (numC (Nm.big - 1))] w fun e w' => e = .returned (.int .i64 256) ∧ Below w.heap.size w w' :=
  (len (Nm.big - 1) (by decide) w).mono fun _ _ ⟨he, hb⟩ => ⟨by
    rw [he, ← Nm.len_of (x := Nm.big - 1) (n := 256) ⟨by decide, fun _ => by decide⟩]; rfl, hb⟩
end Go.Proofs.Ytlednkbnhnjgcaa
