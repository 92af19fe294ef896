import Derived.WalkKit
import Derived.Laws.CopyOwn
import Derived.Laws.Rows
import Derived.Lib.Hide
import Derived.Test.YtkbjaadjnbgfbaaGreatDoorRows
namespace Go.Proofs.YtkbjaadjnbgfbaaGreatDoor
open Go.RowKit
abbrev aV(w : World)(f : FuncId)(a : Array Value)(v : Value):Prop:= Hid (∀w', Below w.heap.size w w' → Calls Tryz.prog f a w' fun e w'' => e=.returned v ∧ Below w'.heap.size w' w'')
abbrev x9(f : FuncId)(a : Array Value)(v : Value):Prop:= Hid (∀w', Calls Tryz.prog f a w' fun e w'' => e=.returned v ∧ Below w'.heap.size w' w'')
theorem af{a b c : World}(h : Below a.heap.size a b)(k : Below b.heap.size b c):Below a.heap.size a c:= h.trans (k.mono h.size)
theorem h_{P : Prop}(h : P):Hid P:= Lib.hid h
