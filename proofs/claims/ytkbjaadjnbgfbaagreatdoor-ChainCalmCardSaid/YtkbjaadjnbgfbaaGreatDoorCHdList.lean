import Derived.Test.YtkbjaadjnbgfbaaGreatDoorCBunQ16
import Derived.Test.YtkbjaadjnbgfbaaGreatDoorCHdEq
set_option maxRecDepth 100000
set_option maxHeartbeats 4000000
namespace Go.Proofs.YtkbjaadjnbgfbaaGreatDoor
open Go.RowKit Mem Sc
variable{hs:List Hd}
theorem qT{k:Nat}(h:k<hs.length):hs.getD k dh=hs[k]:=by rw[List.getD_eq_getElem?_getD,List.getElem?_eq_getElem h];rfl
def aM(w:World)(a:Option Addr)(hs:List Hd):Prop:=
 0<hs.length->∃ab ao,a=some ⟨ab,ao,none⟩/\ab<w.heap.size/\∀i (hi:i<hs.length),hs[i].ok/\w.rangeAt ab (ao+i*68) (bp hs[i])
theorem jM(h:Hd):0<(bp h).length:=by simp[bp]
variable{w:World}
theorem aM.below{w':World}{a:Option Addr}(h:aM w a hs)(hb:Bl w w'):aM w' a hs:=fun h0=>by
 obtain⟨ab,ao,ha,hlt,hc⟩:=h h0;exact⟨ab,ao,ha,Nat.lt_of_lt_of_le hlt hb.size,fun i hi=>⟨(hc i hi).1,ix (hc i hi).2 hb (jM _)⟩⟩
theorem wE{g o:Nat}{h:Hd}(hr:w.rangeAt g o (bp h)):w.rangeAt g (o+1) (Lib.byteCells h.prev):=fun j u hu=>by
 have:=hr (1+j) u (F9 j u hu);rwa[show o+(1+j)=o+1+j by omega]at this
def iC(hs:List Hd):List Value:=hs.flatMap bp
theorem Qi(hs:List Hd)(h:∀x∈hs,x.ok)(i j:Nat)(hi:i<hs.length)(hj:j<68):(iC hs)[i*68+j]?=(bp hs[i])[j]?:=by
 induction hs generalizing i with
 | nil=>simp at hi
 | cons x hs ih=>
  have hx:(bp x).length=68:=eR (h x (by simp));show(bp x++iC hs)[i*68+j]?=_;cases i with
  | zero=>rw[List.getElem?_append_left (by omega)];simp
  | succ i=>
   rw[List.getElem?_append_right (by omega),hx,show(i+1)*68+j-68=i*68+j by omega,ih (fun y hy=>h y (by simp[hy])) i (by simpa using hi)];rfl
theorem Ht{base:Nat}{v:Value}{n:Nat}(h:w.ownsRow base 30 68 v n (iC hs))(hn:n=hs.length)(hok:∀x∈hs,x.ok):∃a c,v=.slice a n c/\aM w a hs:=by
 rcases h.2 with⟨rfl,rfl⟩|⟨g,cap,cur,rfl,hb,hg,hc,hm,hcs,ht⟩
 exact⟨none,0,rfl,fun h0=>by omega⟩
 ·refine⟨_,_,rfl,fun h0=>⟨g,0,rfl,Has.lt hg,fun i hi=>⟨hok _ (List.getElem_mem hi),fun j u hu=>?_⟩⟩⟩
  have hj:j<68:=by
   have:=(List.getElem?_eq_some_iff.1 hu).1;rwa[eR (hok _ (List.getElem_mem hi))]at this
  rw[<-Qi hs hok i j hi hj]at hu;have hH:Has w g cur 30:=hg;rw[Nat.zero_add,hH.cell,<-hu,<-ht,List.getElem?_take_of_lt (by omega),Array.getElem?_toList]
theorem tY:((Tryz.prog.info? 30).bind (·.zero)).map (·.cells.size)=some 68:=by kernel_rfl
theorem Jo:(Tryz.prog.info? 30).map (·.bytes)=some 96:=by kernel_rfl
theorem Co:∃i z,Tryz.prog.info? 30=some i/\i.zero=some z/\i.size=68/\i.bytes=96/\z.cells.size=68:=by
 have h1:=fY;have h2:=tY;have h3:=Jo;cases hi:Tryz.prog.info? 30 with
 | none=>rw[hi]at h1;cases h1
 | some i=>
  rw[hi]at h1 h2 h3;simp only[Option.map_some,Option.some.injEq,Option.bind_some]at h1 h2 h3;cases hz:i.zero with
  | none=>rw[hz]at h2;cases h2
  | some z=>
   rw[hz]at h2;simp only[Option.map_some,Option.some.injEq]at h2;exact⟨i,z,rfl,hz,h1,h3,h2⟩
theorem AI(cs:Array Value)(h:cs.size=68)(w:World):(Instr.buildSlice 68 1 #[(0,.agg cs)]).run Tryz.prog w=.ok (.slice (some ⟨w.heap.size,0,none⟩) 1 1) (w.alloc (.cells cs 30)):=by obtain⟨i,z,hi,hz,h1,h2,h3⟩:=Co;refine run_buildSlice w 68 30 1 _ cs i z Tryz.underlying68 hi hz (by rw[h1];decide) (by rw[h1];decide) ?_;rw[h1];exact sK 68 _ cs (by simp) h
theorem IN{ops:Array Oper}{rest:List Oper}{o:Oper}{a:Act}{Q:Exit->Act->World->Prop}(hgd:o.guard=none)(p:Operand)(ho:o.op=.buildSlice 68 1 #[(0,p)])(cs:Array Value)(hp:a.eval p=.agg cs)(hs:cs.size=68)(h:wpList Tryz.prog ops Q rest (a.put o.dst (.slice (some ⟨w.heap.size,0,none⟩) 1 1)) (w.alloc (.cells cs 30))):wpList Tryz.prog ops Q (o::rest) a w:=
 wpList_plain hgd fun _ hK=>by
  unfold Oper.wp execOp;simp only[ho,Sem.run_bind];rw[show(#[(0,p)]:Array (Nat×Operand)).map (fun(i,x)=>(i,a.eval x))=#[(0,.agg cs)] by simp[hp]];rw[AI cs hs w];exact hK _ _ h
