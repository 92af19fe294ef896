import Derived.Test.YtmemppkkchfphaaNumMem
namespace Go.Proofs.Ytmemppkkchfphaa
open Go.RowKit
theorem Acc.start1 (w : World) (x : Nat) (cs : Array Value) : Acc w (((w.alloc (.cells (numC x) 26)).alloc (.cells (numC 0) 26)).alloc (.cells cs 26)) w.heap.size w.heap.size (w.heap.size + 1) (w.heap.size + 1 + 1) x x cs :=
  ⟨(((Below.refl _ _).alloc (Nat.le_refl _) _).alloc (by simp) _).alloc (by simp; omega) _, ((Has.new _ _).alloc _).alloc _, ((Has.new _ _).alloc _).alloc _, (Has.new1 _ _ _).alloc _, Has.new2 _ _ _ _⟩
/-- two numbers that are read -/
structure Two (w wr : World) (A B x y : Nat) : Prop where
  below : Below w.heap.size w wr
  a : Has wr A (numC x) 26
  b : Has wr B (numC y) 26
theorem Two.on {w wr w' : World} {A B x y : Nat} (h : Two w wr A B x y) (hb : Below wr.heap.size wr w') : Two w w' A B x y :=
  ⟨h.below.trans (hb.mono h.below.size), h.a.on hb, h.b.on hb⟩
theorem Two.start (w : World) (x y : Nat) : Two w ((w.alloc (.cells (numC x) 26)).alloc (.cells (numC y) 26)) w.heap.size (w.heap.size + 1) x y :=
  ⟨((Below.refl _ _).alloc (Nat.le_refl _) _).alloc (by simp) _, (Has.new _ _).alloc _, Has.new1 _ _ _⟩
end Go.Proofs.Ytmemppkkchfphaa
