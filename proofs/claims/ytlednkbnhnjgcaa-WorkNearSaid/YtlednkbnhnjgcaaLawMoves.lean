import Derived.Test.YtlednkbnhnjgcaaWAlive
import Derived.Test.YtlednkbnhnjgcaaRefMoveD
import Derived.OpenShut
namespace Go.Proofs.Ytlednkbnhnjgcaa
open Go.RowKit
theorem eql_same'' (z : Nat) (w : World) : (binOp .eql 24 (.agg (numC z)) (.agg (numC z))).run Try.prog w = .ok (.bool true) w := by
  rw [numC_wds, run_eql_ints w .u64 24 22 4 Try.underlying24 Try.underlying22 wordSize _ _ rfl rfl]; simp
structure OneN (w wr : World) (A x : Nat) : Prop where
  below : Below w.heap.size w wr
  a : Has wr A (numC x) 24
theorem OneN.on {w wr w' : World} {A x : Nat} (h : OneN w wr A x) (hb : Below wr.heap.size wr w') : OneN w w' A x := ⟨h.below.trans (hb.mono h.below.size), h.a.on hb⟩
end Go.Proofs.Ytlednkbnhnjgcaa
