import Derived.WalkKit
import Derived.Lib.Hide
namespace Go.Proofs.YtkbjaadjnbgfbaaGreatDoor
open Go.RowKit
abbrev Bl(a b : World):Prop:= Below a.heap.size a b
abbrev ah(b : Nat):Value:= .pointer (some ⟨b, 0, none⟩)
theorem au{P : Program}{f : FuncId}{a : Array Value}{w : World}{v : Value}{J : World → Prop}{Q : Ending → World → Prop}(h : Calls P f a w fun e w' => e=.returned v ∧ J w')(k : ∀w', J w' → Q (.returned v) w'):Calls P f a w Q:= h.mono fun e w' hh => by
  obtain⟨rfl, hj⟩ := hh
  exact k w' hj
theorem a_{n : Nat}{w : World}:Below n w w:= Below.refl _ _
theorem aY{w : World}{o : Obj}:Below w.heap.size w (w.alloc o):= (Below.refl _ _).alloc (Nat.le_refl _) _
abbrev aW(b : Nat):Option Addr:= some ⟨b, 0, none⟩
abbrev lJ(w : World)(P : World → Prop):Prop:= Hid (∀w', Below w.heap.size w w' → P w')
abbrev ay(z : Int):Value:= .int .u64 z
abbrev aK:Value:= .int .u8 0
abbrev i_(z : Int):Value:= .int .i64 z
