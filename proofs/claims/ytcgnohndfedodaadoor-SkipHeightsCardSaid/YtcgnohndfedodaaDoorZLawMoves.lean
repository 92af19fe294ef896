import Derived.Test.YtcgnohndfedodaaDoorBunQ27
import Derived.Test.YtcgnohndfedodaaDoorBunQ20
import Derived.OpenShut
namespace Go.Proofs.YtcgnohndfedodaaDoor.NN
open Go.RowKit
theorem eql_sameW (z : Nat) (w : World) : (binOp .eql 33 (.agg (numC z)) (.agg (numC z))).run Tryd.prog w = .ok (.bool true) w := by
  rw [numC_wds, run_eql_ints w .u64 33 31 4 Tryd.underlying33 Tryd.underlying31 wordSize _ _ rfl rfl]; simp
structure OneN (w wr : World) (A x : Nat) : Prop where
  below : Below w.heap.size w wr
  a : Has wr A (numC x) 33
theorem OneN.on {w wr w' : World} {A x : Nat} (h : OneN w wr A x) (hb : Below wr.heap.size wr w') : OneN w w' A x := ⟨h.below.trans (hb.mono h.below.size), h.a.on hb⟩
end Go.Proofs.YtcgnohndfedodaaDoor.NN
