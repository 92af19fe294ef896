import Derived.WalkKit
import Derived.Lib.Hide
namespace Go.Proofs.YtkbjaadjnbgfbaaGreatDoor
open Go.RowKit
abbrev Bl (a b : World) : Prop := Below a.heap.size a b
abbrev pp_ (b : Nat) : Value := .pointer (some ⟨b, 0, none⟩)
theorem br_ {n : Nat} {w : World} : Below n w w := Below.refl _ _
theorem ba_ {w : World} {o : Obj} : Below w.heap.size w (w.alloc o) := (Below.refl _ _).alloc (Nat.le_refl _) _
abbrev sp_ (b : Nat) : Option Addr := some ⟨b, 0, none⟩
abbrev HB_ (w : World) (P : World → Prop) : Prop := Hid (∀ w', Below w.heap.size w w' → P w')
abbrev iu_ (z : Int) : Value := .int .u64 z
abbrev u0_ : Value := .int .u8 0
abbrev i_ (z : Int) : Value := .int .i64 z
end Go.Proofs.YtkbjaadjnbgfbaaGreatDoor
