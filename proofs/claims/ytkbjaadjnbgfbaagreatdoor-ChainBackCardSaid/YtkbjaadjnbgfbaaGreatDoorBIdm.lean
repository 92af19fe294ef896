import Derived.WalkKit
import Derived.Laws.CopyOwn
import Derived.Laws.Rows
import Derived.Test.YtkbjaadjnbgfbaaGreatDoorRows
namespace Go.Proofs.YtkbjaadjnbgfbaaGreatDoor
open Go.RowKit
abbrev aG(f : FuncId)(a : Array Value)(w : World)(Q : Ending → World → Prop):Prop:= Calls Tryz.prog f a w Q
abbrev ak(f : FuncId)(a : Array Value)(w : World)(v : Value):Prop:= Calls Tryz.prog f a w fun e w' => e=.returned v ∧ Below w.heap.size w w'
abbrev b_(f : FuncId)(a : Array Value)(v : Value):Prop:= ∀w, ak f a w v
theorem cU{w v : World}{o : Obj}{r : Array Value}(h : (w.alloc o).setRow w.heap.size r=v):Below w.heap.size w v:= by rw[← h]; exact below_setRow ((Below.refl _ _).alloc (Nat.le_refl _) _) (Nat.le_refl _) _
theorem dd{w v : World}{o : Obj}(h : w.alloc o=v):Below w.heap.size w v:= by rw[← h]; exact(Below.refl _ _).alloc (Nat.le_refl _) _
