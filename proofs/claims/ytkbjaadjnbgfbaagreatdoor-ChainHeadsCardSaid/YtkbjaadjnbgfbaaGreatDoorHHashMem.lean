import Derived.Test.YtkbjaadjnbgfbaaGreatDoorRows
import Derived.Test.YtkbjaadjnbgfbaaGreatDoorHMem
import Derived.Deep.RegionHeld3
import Derived.Lib.QuietBelow
import Derived.Stop.BytesEq
set_option maxRecDepth 100000
set_option maxHeartbeats 4000000
namespace Go.Proofs.YtkbjaadjnbgfbaaGreatDoor
open Go.RowKit Mem
theorem lR:(Tryz.prog.info? 28).map (·.size)=some 32:=by kernel_rfl
theorem Fx:(Tryz.prog.info? 5).map (·.size)=some 1:=by kernel_rfl
def h0:Array Value:=ae (List.replicate 32 0)
theorem er(w:World)(t:TypeId):Has (w.alloc (.cells #[bf,bf,bf,bf,bf,bf,bf,bf,bf,bf,bf,bf,bf,bf,bf,bf,bf,bf,bf,bf,bf,bf,bf,bf,bf,bf,bf,bf,bf,bf,bf,bf] t)) w.heap.size h0 t:=Has.new h0 t
section
variable{w:World}{ops:Array Oper}{rest:List Oper}{o:Oper}{a:Act}{Q:Exit->Act->World->Prop}
theorem oM(hgd:o.guard=none)(x:Operand)(ho:o.op=.load 28 x)(g:Nat)(hx:a.eval x=af g)(cs:Array Value)(hg:Has w g cs 28)(hs:cs.size=32)(h:wpList Tryz.prog ops Q rest (a.put o.dst (.agg cs)) w):wpList Tryz.prog ops Q (o::rest) a w:=
 iQ hgd 28 x ho g hx 28 cs (0,0) _ hg.out Tryz.underlying28 rfl (lR.trans (by rw[hs])) h
theorem jL(hgd:o.guard=none)(x:Operand)(ho:o.op=.load 28 x)(g off:Nat)(hx:a.eval x=.pointer (some ⟨g,off,none⟩))(l:List UInt8)(hg:w.rangeAt g off (Lib.byteCells l))(hs:(Lib.byteCells l).length=32)(h:wpList Tryz.prog ops Q rest (a.put o.dst (.agg (ae l))) w):wpList Tryz.prog ops Q (o::rest) a w:=
 wpList_load_mid hgd 28 x ho g off hx (Lib.byteCells l) _ hg Tryz.underlying28 rfl (lR.trans (by rw[hs])) h
theorem nt(hgd:o.guard=none)(x y:Operand)(ho:o.op=.store 28 x y)(g:Nat)(cz cs':Array Value)(hx:a.eval x=af g)(hy:a.eval y=.agg cz)(e:cz=cs')(hs':cs'.size=32)(h1:cs'.all (·.oneCell')=true)(cs:Array Value)(hg:Has w g cs 28)(hs:cs.size=32)(h:wpList Tryz.prog ops Q rest (a.put o.dst undef) (w.setRow g cs')):wpList Tryz.prog ops Q (o::rest) a w:=by subst e;exact eI hgd 28 x y ho g cz hx hy 28 cs hg.out (lR.trans (by rw[hs'])) (by rw[hs,hs']) h1 h
end
variable{w:World}
theorem zY{fn:Func}{p:Tmp}(h:fn.results=#[.cell p 28])(tmps:Array Value)(g:Nat)(cs:Array Value)(hp:tmps.getD p undef=af g)(hg:Has w g cs 28)(hs:cs.size=32):(results fn tmps).run Tryz.prog w=.ok (.agg cs) w:=
 results_cell_row h tmps w g 28 cs (0,0) _ hp hg.out Tryz.underlying28 rfl (lR.trans (by rw[hs]))
theorem Mem.Has.Vt(o:Obj)(cs:Array Value)(t:TypeId):Mem.Has ((w.alloc o).alloc (.cells cs t)) (w.heap.size+1) cs t:=by have:=Mem.Has.new (w:=w.alloc o) cs t;rwa[eZ]at this
theorem Mem.Has.VT(o o':Obj)(cs:Array Value)(t:TypeId):Mem.Has (((w.alloc o).alloc o').alloc (.cells cs t)) (w.heap.size+1+1) cs t:=by have:=Mem.Has.new (w:=(w.alloc o).alloc o') cs t;rwa[eZ,eZ]at this
theorem uh{l:List UInt8}(h:l.length=32):(ae l).size=32:=by rw[nF,h]
