import Derived.Test.YthcebnfdapcllaaGreatDoorRBunQ12
import Derived.Laws.StructEq
namespace Go.Proofs.YthcebnfdapcllaaGreatDoor
open Go.RowKit Mem Sc
theorem eq_name (x y : List UInt8) (hx : x.length = 32) (hy : y.length = 32) (d : Nat) (w : World) : (Op.equalIn (d + 2) 28 (.agg (bytesV x)) (.agg (bytesV y))).run Tryz.prog w = .ok (x == y) w :=
  run_equalIn_bytes (P := Tryz.prog) w d 28 5 32 Tryz.underlying28 Tryz.underlying5 hsize1 x y hx hy
theorem hd_ext (a b : Hd) : (a = b) ↔ (a.v = b.v ∧ a.prev = b.prev ∧ a.root = b.root ∧ a.time = b.time ∧ a.bits = b.bits ∧ a.nonce = b.nonce) := by
  obtain ⟨a1, a2, a3, a4, a5, a6⟩ := a
  obtain ⟨b1, b2, b3, b4, b5, b6⟩ := b
  simp
instance (a b : Hd) : Decidable (a = b) := decidable_of_iff _ (hd_ext a b).symm
theorem hn_neq (x y : List UInt8) (hx : x.length = 32) (hy : y.length = 32) (g : Bool) (hg : (!(x == y)) = g) (w : World) : (binOp .neq 28 (.agg (bytesV x)) (.agg (bytesV y))).run Tryz.prog w = .ok (.bool g) w := by
  rw [run_neq_struct, show (10000 : Nat) = 9998 + 2 from rfl, eq_name x y hx hy, ← hg]; rfl
end Go.Proofs.YthcebnfdapcllaaGreatDoor
