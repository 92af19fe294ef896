import Derived.Test.YtkbjaadjnbgfbaaGreatDoorBHdList
import Derived.Test.YtkbjaadjnbgfbaaGreatDoorBBunQ28
import Derived.Test.YtkbjaadjnbgfbaaGreatDoorBBunQ30
import Derived.Test.YtkbjaadjnbgfbaaGreatDoorBHdSeekM
set_option maxRecDepth 100000
set_option maxHeartbeats 4000000
namespace Go.Proofs.YtkbjaadjnbgfbaaGreatDoor
open Go.RowKit
section
open Mem Sc
structure Sp where
 x:NN.Pt
 prev:List UInt8
 a:Option Addr
 n:Nat
 c:Nat
def Sp.ok(s:Sp):Prop:=s.prev.length=32
def gJ(s:Sp):List Value:=i_ s.x.h::i_ s.x.b::i_ s.x.t::i_ s.x.f::i_ s.x.r::(Lib.byteCells s.prev++[.slice s.a s.n s.c])
def br(s:Sp):Array Value:=(gJ s).toArray
def mn:Sp:=⟨⟨0,0,0,0,0⟩,kL,none,0,0⟩
variable{s:Sp}
theorem mE(h:s.ok):(gJ s).length=38:=by simp[gJ,Lib.byteCells_length,show s.prev.length=32 from h]
theorem iW(h:s.ok):(br s).size=38:=by show(gJ s).toArray.size=38;rw[List.size_toArray];exact mE h
theorem yJ(s:Sp):∀v∈gJ s,v.oneCell'=true:=by
 intro v hv;simp only[gJ,List.mem_cons,List.mem_append]at hv;rcases hv with rfl|rfl|rfl|rfl|rfl|hv|hv
 rfl;rfl;rfl;rfl;rfl;exact Lib.byteCells_one _ v hv;simp at hv;subst hv;rfl
theorem xY(s:Sp):(br s).all (·.oneCell')=true:=all_oneCell_toArray (yJ s)
theorem ie:(Tryz.prog.info? 141).map (·.size)=some 38:=by kernel_rfl
theorem ji:mn.ok:=rfl
def aI(w:World)(k:Nat)(s:Sp):Prop:=Has w k (br s) 141
section
variable{w w':World}{k:Nat}{s:Sp}
theorem aI.lt(h:aI w k s):k<w.heap.size:=Has.lt h
theorem aI.on(h:aI w k s)(hb:Bl w w'):aI w' k s:=cg hb h h.lt
theorem aI.below{B:Nat}(h:aI w k s)(hb:Below B w w')(hk:k<B):aI w' k s:=cg hb h hk
theorem aI.free(h:aI w k s)(j:Nat):w.frozen? ⟨k,j,none⟩=false:=Has.free h j
theorem f'(s:Sp)(j:Nat):(br s)[j]?=(gJ s)[j]?:=by unfold br;rw[List.getElem?_toArray]
theorem aI.c0(h:aI w k s){z:Int}(e:Hid (s.x.h=z)):w.cell? ⟨k,0,none⟩=some (i_ z):=(Has.cell h 0).trans (by rw[<-e.out,f'];rfl)
theorem aI.c1(h:aI w k s){z:Int}(e:Hid (s.x.b=z)):w.cell? ⟨k,1,none⟩=some (i_ z):=(Has.cell h 1).trans (by rw[<-e.out,f'];rfl)
theorem aI.c2(h:aI w k s){z:Int}(e:Hid (s.x.t=z)):w.cell? ⟨k,2,none⟩=some (i_ z):=(Has.cell h 2).trans (by rw[<-e.out,f'];rfl)
theorem aI.c3(h:aI w k s){z:Int}(e:Hid (s.x.f=z)):w.cell? ⟨k,3,none⟩=some (i_ z):=(Has.cell h 3).trans (by rw[<-e.out,f'];rfl)
theorem aI.c4(h:aI w k s){z:Int}(e:Hid (s.x.r=z)):w.cell? ⟨k,4,none⟩=some (i_ z):=(Has.cell h 4).trans (by rw[<-e.out,f'];rfl)
theorem If(j:Nat)(u:Value)(hu:(Lib.byteCells s.prev)[j]?=some u):(gJ s)[5+j]?=some u:=by rw[show 5+j=j+1+1+1+1+1 by omega];show(Lib.byteCells s.prev++_)[j]?=some u;rw[List.getElem?_append_left (List.getElem?_eq_some_iff.1 hu).1];exact hu
theorem EE(h:s.ok):(gJ s)[37]?=some (.slice s.a s.n s.c):=by show(Lib.byteCells s.prev++[Value.slice s.a s.n s.c])[32]?=_;have h32:(Lib.byteCells s.prev).length=32:=il h;rw[List.getElem?_append_right (by omega),h32];rfl
theorem aI.prev(h:aI w k s):w.rangeAt k 5 (Lib.byteCells s.prev):=fun j u hu=>by
 rw[Has.cell h (5+j),f'];exact If j u hu
theorem aI.sl(h:aI w k s)(ho:s.ok):w.cell? ⟨k,37,none⟩=some (.slice s.a s.n s.c):=by rw[Has.cell h 37,f'];exact EE ho
theorem aI.pt(h:aI w k s):w.rangeAt k 0 (NN.ju s.x).toList:=fun j u hu=>by
 rw[Nat.zero_add,Has.cell h j,f'];have hj:j<5:=(List.getElem?_eq_some_iff.1 hu).1;rw[<-hu];match j,hj with
 | 0,_=>rfl
 | 1,_=>rfl
 | 2,_=>rfl
 | 3,_=>rfl
 | 4,_=>rfl
theorem FW(z:Int):(br s).setIfInBounds 0 (i_ z)=br { s with x:={ s.x with h:=z } }:=by simp[br,gJ]
theorem MB(z:Int):(br s).setIfInBounds 1 (i_ z)=br { s with x:={ s.x with b:=z } }:=by simp[br,gJ]
theorem Kg(z:Int):(br s).setIfInBounds 2 (i_ z)=br { s with x:={ s.x with t:=z } }:=by simp[br,gJ]
theorem Ej(z:Int):(br s).setIfInBounds 3 (i_ z)=br { s with x:={ s.x with f:=z } }:=by simp[br,gJ]
theorem Lb(z:Int):(br s).setIfInBounds 4 (i_ z)=br { s with x:={ s.x with r:=z } }:=by simp[br,gJ]
theorem D8(ho:s.ok)(a:Option Addr)(n c:Nat):(br s).setIfInBounds 37 (.slice a n c)=br { s with a:=a,n:=n,c:=c }:=by
 unfold br;rw[List.setIfInBounds_toArray];congr 1;have h32:(Lib.byteCells s.prev).length=32:=il ho
 have e:(Lib.byteCells s.prev++[Value.slice s.a s.n s.c]).set 32 (.slice a n c)=Lib.byteCells s.prev++[Value.slice a n c]:=by
  rw[List.set_append_right _ _ (by omega),h32];rfl
 show _::_::_::_::_::(Lib.byteCells s.prev++[Value.slice s.a s.n s.c]).set 32 (.slice a n c)=_;rw[e];rfl
theorem aI.setH(h:aI w k s)(z:Int):aI (w.setCell ⟨k,0,none⟩ (i_ z)) k { s with x:={ s.x with h:=z } }:=by unfold aI;rw[<-FW];exact Has.set h _
theorem aI.Zd(h:aI w k s)(z:Int):aI (w.setCell ⟨k,1,none⟩ (i_ z)) k { s with x:={ s.x with b:=z } }:=by unfold aI;rw[<-MB];exact Has.set h _
theorem aI.Ze(h:aI w k s)(z:Int):aI (w.setCell ⟨k,2,none⟩ (i_ z)) k { s with x:={ s.x with t:=z } }:=by unfold aI;rw[<-Kg];exact Has.set h _
theorem aI.Zf(h:aI w k s)(z:Int):aI (w.setCell ⟨k,3,none⟩ (i_ z)) k { s with x:={ s.x with f:=z } }:=by unfold aI;rw[<-Ej];exact Has.set h _
theorem aI.VY(h:aI w k s)(z:Int):aI (w.setCell ⟨k,4,none⟩ (i_ z)) k { s with x:={ s.x with r:=z } }:=by unfold aI;rw[<-Lb];exact Has.set h _
theorem aI.Zg(h:aI w k s)(ho:s.ok)(a:Option Addr)(n c:Nat):aI (w.setCell ⟨k,37,none⟩ (.slice a n c)) k { s with a:=a,n:=n,c:=c }:=by unfold aI;rw[<-D8 ho];exact Has.set h _
theorem aI.other(h:aI w k s)(p:Addr)(u:Value)(hn:k≠p.block):aI (w.setCell p u) k s:=Has.other h p u hn
theorem Co(w:World)(s:Sp):aI (w.alloc (.cells (br s) 141)) w.heap.size s:=Has.new _ _
theorem np(w:World):aI (w.alloc (.cells #[i_ 0,i_ 0,i_ 0,i_ 0,i_ 0,aN,aN,aN,aN,aN,aN,aN,aN,aN,aN,aN,aN,aN,aN,aN,aN,aN,aN,aN,aN,aN,aN,aN,aN,aN,aN,aN,aN,aN,aN,aN,aN,.slice none 0 0] 141)) w.heap.size mn:=Co w mn
theorem aI.cls(h:aI w k s):∀w',(∃r:Regrown,w'=Sort.grow (redrawn w r.d) r.os)->aI w' k s:=fun w' ⟨r,e⟩=>by rw[e];exact h.on (below_regrown w r.d r.os)
end
section
variable{w:World}{k:Nat}{s:Sp}{ops:Array Oper}{rest:List Oper}{o:Oper}{a:Act}{Q:Exit->Act->World->Prop}
theorem wQ(hgd:o.guard=none)(x:Operand)(ho:o.op=.load 141 x)(g:Nat)(hx:a.eval x=af g)(hg:aI w g s)(hs:(br s).size=38)(hk:wpList Tryz.prog ops Q rest (a.put o.dst (.agg (br s))) w):wpList Tryz.prog ops Q (o::rest) a w:=
 wpList_load_row hgd 141 x ho g hx 141 (br s) (0,0) _ (Has.out hg) Tryz.underlying141 rfl (ie.trans (by rw[hs])) hk
theorem sB(hgd:o.guard=none)(x y:Operand)(ho:o.op=.store 141 x y)(g:Nat)(cz:Array Value)(s':Sp)(hx:a.eval x=af g)(hy:a.eval y=.agg cz)(e:cz=br s')(hs':(br s').size=38)(hg:aI w g s)(hs:(br s).size=38)(hk:wpList Tryz.prog ops Q rest (a.put o.dst undef) (w.setRow g (br s'))):wpList Tryz.prog ops Q (o::rest) a w:=by subst e;exact wpList_store_row hgd 141 x y ho g (br s') hx hy 141 (br s) (Has.out hg) (ie.trans (by rw[hs'])) (by rw[hs,hs']) (xY s') hk
variable{C:World->Prop}{K:Act->Prop}
theorem CU(x:Operand)(ho:o.op=.load 141 x)(g:Nat)(hx:a.eval x=af g)(hs:(br s).size=38)(hC:∀w',C w'->aI w' g s)(hk:K (a.put o.dst (.agg (br s)))):o.quiet Tryz.prog a C K:=
 ⟨_,fun w' hw'=>by
  unfold Oper.quietAt
  have this:(execOp a.eval o).run Tryz.prog w'=.ok (.value (.agg (br s))) w':=by
   have hl:(loadVar 141 ⟨g,0,none⟩).run Tryz.prog w'=.ok (.agg (br s)) w':=run_loadVar_row w' g 141 141 (br s) (0,0) _ (Has.out (hC w' hw')) Tryz.underlying141 rfl (ie.trans (by rw[hs]));unfold execOp;simp only[ho,hx,Instr.loadAt,Instr.sureAddr,Sem.run_bind,Sem.run_pure,Result.andThen_ok,hl]
  rw[this];exact⟨rfl,rfl⟩,hk⟩
theorem sm(w:World)(g:Nat)(x:NN.Pt)(h:w.rangeAt g 0 (NN.ju x).toList):(Instr.loadAt 139 (af g)).run Tryz.prog w=.ok (.agg (NN.ju x)) w:=
 run_loadAt_mid w g 0 139 (NN.ju x).toList _ h Tryz.underlying139 rfl NN.sD
theorem MN(y:Operand)(ho:o.op=.load 139 y)(g:Nat)(hx:a.eval y=af g)(x:NN.Pt)(hC:∀w',C w'->w'.rangeAt g 0 (NN.ju x).toList)(hk:K (a.put o.dst (.agg (NN.ju x)))):o.quiet Tryz.prog a C K:=
 ⟨_,fun w' hw'=>by
  unfold Oper.quietAt
  have this:(execOp a.eval o).run Tryz.prog w'=.ok (.value (.agg (NN.ju x))) w':=by
   unfold execOp;simp only[ho,hx,Sem.run_bind,sm w' g x (hC w' hw'),Result.andThen_ok];rfl
  rw[this];exact⟨rfl,rfl⟩,hk⟩
end
theorem Mu{w:World}{s:Sp}{fn:Func}{p:Tmp}(hf:fn.results=#[.cell p 141])(tmps:Array Value)(g:Nat)(hp:tmps.getD p undef=af g)(hg:aI w g s)(hs:(br s).size=38):(results fn tmps).run Tryz.prog w=.ok (.agg (br s)) w:=
 results_cell_row hf tmps w g 141 (br s) (0,0) _ hp (Has.out hg) Tryz.underlying141 rfl (ie.trans (by rw[hs]))
structure Gt where
 h:Int
 v:Int
structure Ck where
 h:Int
 id:List UInt8
def j8(g:Gt):List Value:=[i_ g.h,i_ g.v]
def jd(c:Ck):List Value:=i_ c.h::Lib.byteCells c.id
def mD(g:Gt):Array Value:=(j8 g).toArray
def mw(c:Ck):Array Value:=(jd c).toArray
def kJ:Gt:=⟨0,0⟩
def jG:Ck:=⟨0,kL⟩
def aJ(w:World)(a:Option Addr)(gs:List Gt):Prop:=
 0<gs.length->∃ab ao,a=some ⟨ab,ao,none⟩/\ab<w.heap.size/\∀i (hi:i<gs.length),w.rangeAt ab (ao+i*2) (j8 gs[i])
def az(w:World)(a:Option Addr)(cs:List Ck):Prop:=
 0<cs.length->∃ab ao,a=some ⟨ab,ao,none⟩/\ab<w.heap.size/\∀i (hi:i<cs.length),cs[i].id.length=32/\w.rangeAt ab (ao+i*33) (jd cs[i])
theorem yp(g:Gt):0<(j8 g).length:=by simp[j8]
theorem xT(c:Ck):0<(jd c).length:=by simp[jd]
variable{c:Ck}
theorem nJ(h:c.id.length=32):(jd c).length=33:=by simp[jd,Lib.byteCells_length,h]
theorem rD(h:c.id.length=32):(mw c).size=33:=by show(jd c).toArray.size=33;rw[List.size_toArray];exact nJ h
theorem yX(c:Ck):(mw c).all (·.oneCell')=true:=all_oneCell_toArray (by
 intro v hv;simp only[jd,List.mem_cons]at hv;rcases hv with rfl|hv
 rfl;exact Lib.byteCells_one _ v hv)
theorem yF(g:Gt):(mD g).all (·.oneCell')=true:=all_oneCell_toArray (by
 intro v hv;simp only[j8,List.mem_cons,List.not_mem_nil,or_false]at hv;rcases hv with rfl|rfl<;>rfl)
section
variable{w w':World}{a:Option Addr}{gs:List Gt}{cs:List Ck}
theorem aJ.below(h:aJ w a gs)(hb:Bl w w'):aJ w' a gs:=fun h0=>by
 obtain⟨ab,ao,ha,hlt,hc⟩:=h h0;exact⟨ab,ao,ha,Nat.lt_of_lt_of_le hlt hb.size,fun i hi=>iE (hc i hi) hb (yp _)⟩
theorem az.below(h:az w a cs)(hb:Bl w w'):az w' a cs:=fun h0=>by
 obtain⟨ab,ao,ha,hlt,hc⟩:=h h0;exact⟨ab,ao,ha,Nat.lt_of_lt_of_le hlt hb.size,fun i hi=>⟨(hc i hi).1,iE (hc i hi).2 hb (xT _)⟩⟩
end
theorem qD:(Tryz.prog.info? 108).map (·.size)=some 2:=by kernel_rfl
theorem rY:(Tryz.prog.info? 110).map (·.size)=some 33:=by kernel_rfl
def kr(w:World)(k:Nat)(g:Gt):Prop:=Has w k (mD g) 108
def nO(w:World)(k:Nat)(c:Ck):Prop:=Has w k (mw c) 110
section
variable{w:World}{k:Nat}{g:Gt}{c:Ck}
theorem kr.c0(h:kr w k g):w.cell? ⟨k,0,none⟩=some (i_ g.h):=Has.cell h 0
theorem kr.c1(h:kr w k g):w.cell? ⟨k,1,none⟩=some (i_ g.v):=Has.cell h 1
theorem nO.c0(h:nO w k c):w.cell? ⟨k,0,none⟩=some (i_ c.h):=Has.cell h 0
theorem nO.id(h:nO w k c):w.rangeAt k 1 (Lib.byteCells c.id):=fun j u hu=>by
 rw[Has.cell h (1+j)];show(jd c).toArray[1+j]?=some u;rw[List.getElem?_toArray,Nat.add_comm];exact hu
theorem xN(w:World):kr (w.alloc (.cells #[i_ 0,i_ 0] 108)) w.heap.size kJ:=Has.new _ _
theorem qQ(w:World):nO (w.alloc (.cells #[i_ 0,aN,aN,aN,aN,aN,aN,aN,aN,aN,aN,aN,aN,aN,aN,aN,aN,aN,aN,aN,aN,aN,aN,aN,aN,aN,aN,aN,aN,aN,aN,aN,aN] 110)) w.heap.size jG:=Has.new (mw jG) _
theorem tj(w:World)(y:Ck):nO ((w.alloc (.cells #[i_ 0,aN,aN,aN,aN,aN,aN,aN,aN,aN,aN,aN,aN,aN,aN,aN,aN,aN,aN,aN,aN,aN,aN,aN,aN,aN,aN,aN,aN,aN,aN,aN,aN] 110)).setRow w.heap.size (mw y)) w.heap.size y:=Has.row (qQ w) _
theorem vR{v w:World}(h:Bl v w)(y:Ck):Bl v ((w.alloc (.cells #[i_ 0,aN,aN,aN,aN,aN,aN,aN,aN,aN,aN,aN,aN,aN,aN,aN,aN,aN,aN,aN,aN,aN,aN,aN,aN,aN,aN,aN,aN,aN,aN,aN,aN] 110)).setRow w.heap.size (mw y)):=below_setRow (h.alloc h.size _) h.size _
variable{ops:Array Oper}{rest:List Oper}{o:Oper}{a:Act}{Q:Exit->Act->World->Prop}
theorem lu(hgd:o.guard=none)(x:Operand)(ho:o.op=.load 108 x)(b off:Nat)(hx:a.eval x=.pointer (some ⟨b,off,none⟩))(g:Gt)(hg:w.rangeAt b off (j8 g))(hk:wpList Tryz.prog ops Q rest (a.put o.dst (.agg (mD g))) w):wpList Tryz.prog ops Q (o::rest) a w:=
 wpList_load_mid hgd 108 x ho b off hx (j8 g) _ hg Tryz.underlying108 rfl qD hk
theorem mB(hgd:o.guard=none)(x:Operand)(ho:o.op=.load 110 x)(b off:Nat)(hx:a.eval x=.pointer (some ⟨b,off,none⟩))(c:Ck)(hg:w.rangeAt b off (jd c))(hs:(jd c).length=33)(hk:wpList Tryz.prog ops Q rest (a.put o.dst (.agg (mw c))) w):wpList Tryz.prog ops Q (o::rest) a w:=
 wpList_load_mid hgd 110 x ho b off hx (jd c) _ hg Tryz.underlying110 rfl (rY.trans (by rw[hs])) hk
theorem kU(hgd:o.guard=none)(x y:Operand)(ho:o.op=.store 108 x y)(b:Nat)(g':Gt)(hx:a.eval x=af b)(hy:a.eval y=.agg (mD g'))(hg:kr w b g)(hk:wpList Tryz.prog ops Q rest (a.put o.dst undef) (w.setRow b (mD g'))):wpList Tryz.prog ops Q (o::rest) a w:=
 wpList_store_row hgd 108 x y ho b (mD g') hx hy 108 (mD g) (Has.out hg) qD rfl (yF g') hk
theorem mF(hgd:o.guard=none)(x y:Operand)(ho:o.op=.store 110 x y)(b:Nat)(c':Ck)(hx:a.eval x=af b)(hy:a.eval y=.agg (mw c'))(hs':(mw c').size=33)(hg:nO w b c)(hs:(mw c).size=33)(hk:wpList Tryz.prog ops Q rest (a.put o.dst undef) (w.setRow b (mw c'))):wpList Tryz.prog ops Q (o::rest) a w:=
 wpList_store_row hgd 110 x y ho b (mw c') hx hy 110 (mw c) (Has.out hg) (rY.trans (by rw[hs'])) (by rw[hs,hs']) (yX c') hk
end
namespace An
variable{place:Nat->Option (Nat×Nat)}
theorem gG{i off n:Nat}{v:Value}{rest:List (Nat×Value)}(A B C X:List Value)(hp:place i=some (off,n))(hA:A.length=off)(hB:B.length=n)(hv:v.cells=X.toArray)(hX:X.length=n):Instr.fill place (A++(B++C)).toArray ((i,v)::rest)=Instr.fill place (A++(X++C)).toArray rest:=by
 have hs:v.cells.size=n:=by rw[hv];simpa using hX
 have e:(v.cells.zipIdx.foldl (fun(cs:Array Value)(x:Value×Nat)=>match x with|(c,j)=>cs.setIfInBounds (off+j) c) (A++(B++C)).toArray)=(A++(X++C)).toArray:=by
  rw[hv,<-Array.foldl_toList,Array.toList_zipIdx];show List.foldl _ _ (X.zipIdx 0)=_
  have gen:∀(X' B' A':List Value)(k:Nat),A'.length=off+k->B'.length=X'.length->
    List.foldl (fun(cs:Array Value)(x:Value×Nat)=>match x with|(c,j)=>cs.setIfInBounds (off+j) c) (A'++(B'++C)).toArray (X'.zipIdx k)=(A'++(X'++C)).toArray:=by
   intro X';induction X' with
   | nil=>
    intro B' A' k _ hb;obtain rfl:B'=[]:=List.eq_nil_of_length_eq_zero hb;rfl
   | cons x X' ih=>
    intro B' A' k ha hb
    obtain⟨b,B'',rfl⟩:∃b B'',B'=b::B'':=by
     cases B' with
     | nil=>simp at hb
     | cons b B''=>exact⟨b,B'',rfl⟩
    rw[List.zipIdx_cons,List.foldl_cons];show List.foldl _ ((A'++(b::B''++C)).toArray.setIfInBounds (off+k) x) (X'.zipIdx (k+1))=_;rw[List.setIfInBounds_toArray,List.set_append_right _ _ (by omega),show off+k-A'.length=0 by omega];have:=ih B'' (A'++[x]) (k+1) (by simp;omega) (by simpa using hb);simpa using this
  have:=gen X B A 0 (by omega) (by omega);exact this
 rw[Instr.fill];simp only[hp];rw[if_neg (by simp[hs];omega)];congr 1
variable{cs:Array Value}
theorem uo:Instr.fill place cs []=some cs:=rfl
structure Kp (F:Nat->Prop) (w w':World):Prop where
 os:w'.os=w.os
 tape:w'.tape=w.tape
 output:w'.output=w.output
 size:w.heap.size<=w'.heap.size
 block:∀k,k<w.heap.size->¬F k->w'.heap[k]?=w.heap[k]?
theorem Kp.refl(F:Nat->Prop)(w:World):Kp F w w:=⟨rfl,rfl,rfl,Nat.le_refl _,fun _ _ _=>rfl⟩
variable{F G:Nat->Prop}
theorem Kp.trans{a b c:World}(h:Kp F a b)(k:Kp G b c)(hG:∀i,G i->i<a.heap.size->F i):Kp F a c:=⟨k.os.trans h.os,k.tape.trans h.tape,k.output.trans h.output,Nat.le_trans h.size k.size,fun i hi hn=>(k.block i (Nat.lt_of_lt_of_le hi h.size) (fun hg=>hn (hG i hg hi))).trans (h.block i hi hn)⟩
variable{w w':World}
theorem Kp.of(h:Bl w w'):Kp F w w':=⟨h.os,h.tape,h.output,h.size,fun k hk _=>h.block k hk⟩
theorem Kp.gb{r:Option Nat}(h:w.grownBy w' r)(hr:∀k,r=some k->F k):Kp F w w':=⟨h.os,h.tape,h.output,h.size,fun k hk hn=>h.block k hk (fun e=>hn (hr k e.symm))⟩
theorem Kp.mono(h:Kp F w w')(hF:∀i,F i->i<w.heap.size->G i):Kp G w w':=⟨h.os,h.tape,h.output,h.size,fun k hk hn=>h.block k hk (fun hf=>hn (hF k hf hk))⟩
theorem Kp.below{B:Nat}(h:Kp F w w')(hF:∀i,F i->B<=i)(hB:B<=w.heap.size):Below B w w':=⟨h.os,h.tape,h.output,h.size,fun k hk=>h.block k (Nat.lt_of_lt_of_le hk hB) (fun hf=>absurd (hF k hf) (by omega))⟩
variable{k b:Nat}{t:TypeId}
theorem Kp.has(h:Kp F w w')(hh:Has w k cs t)(hn:¬F k):Has w' k cs t:=(h.block k hh.lt hn).trans hh
theorem Kp.Zh(h:Kp F w w')(hh:NN.Has w k cs t)(hn:¬F k):NN.Has w' k cs t:=(h.block k hh.lt hn).trans hh
def iQ(F:Nat->Prop)(w w':World):Nat->Prop:=fun i=>F i\/(w.heap.size<=i/\i<w'.heap.size)
variable{P:Program}{o:Oper}
theorem Df{C:World->Prop}{a:Act}{K:Act->Prop}(T:TypeId)(x:Operand)(ho:o.op=.load T x)(g off:Nat)(hx:a.eval x=.pointer (some ⟨g,off,none⟩))(cs:List Value)(d:TypeDesc)(hu:P.underlying T=some d)(hd:d.isRow=true)(hi:(P.info? T).map (·.size)=some cs.length)(hC:∀w',C w'->w'.rangeAt g off cs)(hk:K (a.put o.dst (.agg cs.toArray))):o.quiet P a C K:=
 ⟨_,fun w' hw'=>by
  unfold Oper.quietAt
  have this:(execOp a.eval o).run P w'=.ok (.value (.agg cs.toArray)) w':=by
   unfold execOp;simp only[ho,hx,Sem.run_bind,run_loadAt_mid w' g off T cs d (hC w' hw') hu hd hi,Result.andThen_ok];rfl
  rw[this];exact⟨rfl,rfl⟩,hk⟩
theorem ic{ρ:Operand->Value}(T:TypeId){x:Operand}(ho:o.op=.load T x){g off:Nat}(hx:ρ x=.pointer (some ⟨g,off,none⟩)){cs:List Value}{d:TypeDesc}(hu:P.underlying T=some d)(hd:d.isRow=true)(hi:(P.info? T).map (·.size)=some cs.length)(hg:w.rangeAt g off cs):(execOp ρ o).run P w=.ok (.value (.agg cs.toArray)) w:=by unfold execOp;simp only[ho,hx,Sem.run_bind,run_loadAt_mid w g off T cs d hg hu hd hi,Result.andThen_ok];rfl
variable{A C:List Value}
theorem gd{o:Nat}{cs:List Value}(h:Has w b (A++(cs++C)).toArray t)(hA:A.length=o):w.rangeAt b o cs:=fun j u hu=>by
 rw[Has.cell h (o+j),List.getElem?_toArray,List.getElem?_append_right (by omega),show o+j-A.length=j by omega,List.getElem?_append_left (List.getElem?_eq_some_iff.1 hu).1];exact hu
theorem Ba{o:Nat}{cs:List Value}(h:w.rangeAt b o (A++(cs++C)))(hA:A.length=k):w.rangeAt b (o+k) cs:=fun j u hu=>by
 have:=h (k+j) u (by rw[List.getElem?_append_right (by omega),show k+j-A.length=j by omega,List.getElem?_append_left (List.getElem?_eq_some_iff.1 hu).1];exact hu);rwa[Nat.add_assoc]
end An
section
variable{w:World}{ops:Array Oper}{rest:List Oper}{o:Oper}{a:Act}{Q:Exit->Act->World->Prop}
theorem Lu(hw:Region.wanted o (yielded ops a.tmps)=true)(x:Operand)(ho:o.op=.load 28 x)(g off:Nat)(hx:a.eval x=.pointer (some ⟨g,off,none⟩))(l:List UInt8)(hg:w.rangeAt g off (Lib.byteCells l))(hs:(Lib.byteCells l).length=32)(h:wpList Tryz.prog ops Q rest (a.put o.dst (.agg (ae l))) w):wpList Tryz.prog ops Q (o::rest) a w:=
 BigFrame.wpList_want hw fun _ hK=>by
  unfold Oper.wp execOp;simp only[ho,hx,Sem.run_bind,run_loadAt_mid w g off 28 (Lib.byteCells l) _ hg Tryz.underlying28 rfl (iy.trans (by rw[hs])),Result.andThen_ok];rw[<-iD]at*;exact hK _ _ h
theorem Gk(hw:Region.wanted o (yielded ops a.tmps)=true)(x:Operand)(ho:o.op=.load 28 x)(g:Nat)(hx:a.eval x=af g)(l:List UInt8)(hg:Has w g (ae l) 28)(hs:l.length=32)(h:wpList Tryz.prog ops Q rest (a.put o.dst (.agg (ae l))) w):wpList Tryz.prog ops Q (o::rest) a w:=
 BigFrame.wpList_want hw fun _ hK=>wp_load_row 28 x ho g hx 28 (ae l) (0,0) _ (Has.out hg) Tryz.underlying28 rfl (iy.trans (by rw[oV hs])) (hK _ _ h)
end
def iU(x:Int)(gs:List Gt):Int:=gs.foldl (fun m g=>if g.h<=x then max m g.v else m) (-2147483648)
theorem Hz(x:Int)(gs:List Gt)(k:Nat)(hk:k<gs.length):iU x (gs.take (k+1))=if(gs.getD k kJ).h<=x then max (iU x (gs.take k)) (gs.getD k kJ).v else iU x (gs.take k):=by
 have e:gs.take (k+1)=gs.take k++[gs.getD k kJ]:=by
  rw[List.take_add_one,List.getElem?_eq_getElem hk,List.getD_eq_getElem?_getD,List.getElem?_eq_getElem hk];rfl
 rw[e];unfold iU;rw[List.foldl_append];rfl
theorem Qp(x:Int)(a:Option Addr)(gs:List Gt)(n c:Nat)(hn:n=gs.length)(hl:n<=4611686018427387904)(w:World)(hA:aJ w a gs)(v:Int)(hv:iU x gs=v):ak 158 #[i_ x,.slice a n c] w (i_ v):=by
 have HN:=h_ hn;have HV:=h_ hv;have HA:=h_ hA;clear hn hv hA;go_enter Tryz.func158,Tryz.ntmps158;go_wp2_with fail
 go_loopw [5,10] (fun m i wr=>∃k:Nat,k<=n/\i=i_ k/\∃z:Int,m=i_ z/\Hid (iU x (gs.take k)=z)/\Bl w wr) (fun _ i _=>n-(intOf i).toNat)
 case atStart=>exact⟨0,by omega,rfl,_,rfl,h_ rfl,bf⟩
 case round=>
  obtain⟨k,hk,rfl,z,rfl,HZ,hB⟩:=hrel;by_cases hlt:k<n
  ·obtain⟨ab,ao,rfl,Sv,hc⟩:=(HA.out.below hB) (by rw[<-HN.out];omega)
   have q:wr.rangeAt ab (ao+k*2) (j8 (gs.getD k kJ)):=by
    have:=hc k (by rw[<-HN.out];omega);rwa[show gs.getD k kJ=gs[k]'(by rw[<-HN.out];omega) by rw[List.getD_eq_getElem?_getD,List.getElem?_eq_getElem (by rw[<-HN.out];omega)];rfl]
   have hnx:=Hz x gs k (by rw[<-HN.out];omega);rw[HZ.out]at hnx;generalize gs.getD k kJ=y at*;have HX:=h_ hnx;have hnew:=xN wr;have hG:kr ((wr.alloc (.cells #[i_ 0,i_ 0] 108)).setRow wr.heap.size (mD y)) wr.heap.size y:=Has.row hnew _;have hB2:Bl w ((wr.alloc (.cells #[i_ 0,i_ 0] 108)).setRow wr.heap.size (mD y)):=below_setRow (hB.alloc hB.size _) hB.size _;have c0:=hG.c0;have c1:=hG.c1;clear hnx hc hG;by_cases hh:y.h<=x
   ·obtain⟨z2,hz2⟩:∃z2,z2=max z y.v:=⟨_,rfl⟩;have hmax:=NN.k6 (P:=Tryz.prog) z y.v z2 hz2;have HZ2:Hid (iU x (gs.take (k+1))=z2):=h_ (by rw[HX.out,if_pos hh,hz2]);have t1:decide (y.h<=x)=true:=decide_eq_true hh;clear hz2 HX HZ hh;(go_wp2_with (with_reducible first|refine lu rfl _ rfl ab (ao+k*2) rfl y q ?_|refine kU rfl _ _ rfl _ y rfl rfl hnew ?_));go_roundw
    case rel=>exact⟨k+1,by omega,by go_num,z2,rfl,HZ2,hB2⟩
    case measure=>simp[intOf];omega
   ·have HZ2:Hid (iU x (gs.take (k+1))=z):=h_ (by rw[HX.out,if_neg hh]);have t1:decide (y.h<=x)=false:=decide_eq_false hh;clear HX HZ hh;(go_wp2_with (with_reducible first|refine lu rfl _ rfl ab (ao+k*2) rfl y q ?_|refine kU rfl _ _ rfl _ y rfl rfl hnew ?_));go_roundw
    case rel=>exact⟨k+1,by omega,by go_num,z,rfl,HZ2,hB2⟩
    case measure=>simp[intOf];omega
  ·obtain rfl:k=n:=by omega
   have e:z=v:=by
    have:=HZ.out;rw[HN.out,List.take_length,HV.out]at this;exact this.symm
   subst e;go_wp2_with fail
   go_ret;exact⟨rfl,hB⟩
def k9(x:Int)(id:List UInt8)(cs:List Ck):Bool:=cs.all fun c=>!(c.h==x&&!(c.id==id))
theorem LS(x:Int)(id:List UInt8)(cs:List Ck)(k:Nat)(hk:k<cs.length):k9 x id (cs.take (k+1))=(k9 x id (cs.take k)&&!((cs.getD k jG).h==x&&!((cs.getD k jG).id==id))):=by
 have e:cs.take (k+1)=cs.take k++[cs.getD k jG]:=by
  rw[List.take_add_one,List.getElem?_eq_getElem hk,List.getD_eq_getElem?_getD,List.getElem?_eq_getElem hk];rfl
 rw[e];unfold k9;rw[List.all_append];simp
theorem sz(x:Int)(id:List UInt8)(cs:List Ck)(k:Nat)(h:k9 x id (cs.take k)=false):k9 x id cs=false:=by have e:cs=cs.take k++cs.drop k:=(List.take_append_drop k cs).symm;rw[e];unfold k9 at*;rw[List.all_append,h];rfl
theorem QA(x:Int)(id:List UInt8)(hid:id.length=32)(a:Option Addr)(cs:List Ck)(n c:Nat)(hn:n=cs.length)(hl:n<=4611686018427387904)(w:World)(hA:az w a cs)(g:Bool)(hg:k9 x id cs=g):ak 159 #[i_ x,.agg (ae id),.slice a n c] w (.bool g):=by
 have HN:=h_ hn;have HG:=h_ hg;have HA:=h_ hA;clear hn hg hA;go_enter Tryz.func159,Tryz.ntmps159;go_upto_region 1 with fail
 generalize hw0:World.alloc _ _=v0;have hB0:Below w.heap.size w v0:=dd hw0;have hD0:Has v0 w.heap.size (ae id) 28:=by rw[<-hw0];exact Has.new _ _
 clear hw0;generalize hb:w.heap.size=bd at hD0|-;have hbd:bd<v0.heap.size:=hD0.lt;rw[hb]at hB0;go_wp2_with fail
 go_loopw [11] (fun i wr=>∃k:Nat,k<=n/\i=i_ k/\Hid (k9 x id (cs.take k)=true)/\Below v0.heap.size v0 wr) (fun i _=>n-(intOf i).toNat)
 case atStart=>exact⟨0,by omega,rfl,h_ rfl,bf⟩
 case round=>
  obtain⟨k,hk,rfl,HZ,hB⟩:=hrel;by_cases hlt:k<n
  ·have hA1:=(HA.out.below (by unfold Bl;rw[hb];exact hB0)).below hB;obtain⟨ab,ao,rfl,Sv,hc⟩:=hA1 (by rw[<-HN.out];omega)
   have q0:(cs.getD k jG).id.length=32/\wr.rangeAt ab (ao+k*33) (jd (cs.getD k jG)):=by
    have:=hc k (by rw[<-HN.out];omega);rwa[show cs.getD k jG=cs[k]'(by rw[<-HN.out];omega) by rw[List.getD_eq_getElem?_getD,List.getElem?_eq_getElem (by rw[<-HN.out];omega)];rfl]
   have hnx:=LS x id cs k (by rw[<-HN.out];omega);rw[HZ.out,Bool.true_and]at hnx;generalize cs.getD k jG=y at*;obtain⟨y32,q⟩:=q0;have HX:=h_ hnx;have z1:=nJ y32;have z2:=rD y32;have z3:(mw jG).size=33:=rfl;have hnew:=qQ wr;have hG:=tj wr y;have hB1:=vR hB y;have hD:=cg hB1 hD0 hbd;have c0:=hG.c0;have c1:=hG.id;have s1:=il y32;clear hnx hc hA1;cases hh:(y.h==x)
   ·have HZ2:Hid (k9 x id (cs.take (k+1))=true):=h_ (by rw[HX.out,hh];rfl);clear HX HZ;(go_wp2_with (with_reducible first|refine mB rfl _ rfl ab (ao+k*33) rfl y q z1 ?_|refine mF rfl _ _ rfl _ y rfl rfl z2 hnew z3 ?_));go_roundw
    case rel=>exact⟨k+1,by omega,by go_num,HZ2,hB1⟩
    case measure=>simp[intOf];omega
   ·cases he:(y.id==id)
    ·have qn:=jg y.id id y32 hid true (by rw[he];rfl)
     have hgf:g=false:=by
      rw[<-HG.out];exact sz x id cs (k+1) (by rw[HX.out,hh,he];rfl)
     subst hgf;clear HX HZ he;(go_wp2_with (with_reducible first|refine mB rfl _ rfl ab (ao+k*33) rfl y q z1 ?_|refine mF rfl _ _ rfl _ y rfl rfl z2 hnew z3 ?_|refine Lu (by with_unfolding_all rfl) _ rfl _ 1 rfl y.id c1 s1 ?_|refine Gk (by with_unfolding_all rfl) _ rfl bd rfl id hD hid ?_|refine kO (by with_unfolding_all rfl) _ _ _ rfl _ _ _ rfl rfl qn ?_));go_ret;exact⟨rfl,by first|exact ah hB0 hB1|exact hB0.trans (hB1.mono (by rw[<-hb];exact hB0.size))|(rw[hb];exact hB0.trans (hB1.mono (by rw[<-hb];exact hB0.size)))⟩
    ·have qn:=jg y.id id y32 hid false (by rw[he];rfl);have HZ2:Hid (k9 x id (cs.take (k+1))=true):=h_ (by rw[HX.out,hh,he];rfl);clear HX HZ he;(go_wp2_with (with_reducible first|refine mB rfl _ rfl ab (ao+k*33) rfl y q z1 ?_|refine mF rfl _ _ rfl _ y rfl rfl z2 hnew z3 ?_|refine Lu (by with_unfolding_all rfl) _ rfl _ 1 rfl y.id c1 s1 ?_|refine Gk (by with_unfolding_all rfl) _ rfl bd rfl id hD hid ?_|refine kO (by with_unfolding_all rfl) _ _ _ rfl _ _ _ rfl rfl qn ?_));go_roundw
     case rel=>exact⟨k+1,by omega,by go_num,HZ2,hB1⟩
     case measure=>simp[intOf];omega
  ·obtain rfl:k=n:=by omega
   have hfin:g=true:=by
    rw[<-HG.out];have:=HZ.out;rwa[HN.out,List.take_length]at this
   subst hfin;go_wp2_with fail
   go_ret;exact⟨rfl,by first|exact ah hB0 hB|exact hB0.trans (hB.mono (by rw[<-hb];exact hB0.size))|(rw[hb];exact hB0.trans (hB.mono (by rw[<-hb];exact hB0.size)))⟩
theorem RG(l:List UInt8)(hl:l.length=32):NN.cQ (kz l)=ae l:=by unfold NN.cQ ae;congr 1;apply List.ext_getElem?;intro i;by_cases hi:i<32;simp[kz,hi,hl];simp[hi,hl]
theorem EL(l:List UInt8)(hl:l.length=32)(t:Nat)(ht:t<NN.Nm.ai)(g:Bool)(hg:(!decide (t<numOf l))=g)(w:World):ak 182 #[.agg (ae l),.agg (NN.aa t)] w (.bool g):=by rw[<-RG l hl,<-hg];exact NN.meets (kz l) t (A3 l) ht w
def nR(lim:Int)(h:Hd):Bool:=NN.tok h.bits lim&&!decide (NN.tg h.bits lim<numOf h.id)
theorem EI(p:NN.Pr)(h:Hd)(ho:h.ok)(lim b:Int)(e0:Hid (p.lim=lim))(eb:Hid (h.bits=b))(t:Nat)(KT:Hid (b_ 181 #[i_ b,i_ lim] (.tuple #[.agg (NN.aa t),.bool false])))(w:World)(hT:dQ w):ak 155 #[.agg (NN.aE p),.agg (aD h)] w (.bool false):=by
 have za:=fX ho;go_enter Tryz.func155,Tryz.ntmps155;go_upto_region 1 with fail
 generalize hw0:World.alloc _ _=v0;have hB:Below w.heap.size w v0:=by rw[<-hw0];exact aY.alloc (by simp) _
 have hP:NN.aA v0 w.heap.size p:=by rw[<-hw0];exact(NN.Has.new _ _).alloc _
 have hH:aH v0 (w.heap.size+1) h:=by rw[<-hw0];exact qj w _ h
 clear hw0;have c0:=hP.c0 e0;have c1:v0.cell? ⟨w.heap.size+1,66,none⟩=some (i_ b):=by rw[<-eb.out];exact hH.bits ho
 go_wp2_with fail
 refine au (KT.out _) fun v1 hb1=>?_;replace hH:=hH.on hb1;replace hB:=ah hB hb1;clear hb1 c0 c1 hP;have hZ:=NN.Has.R2 (w:=v1) 26;go_upto_region 2 with(with_reducible refine NN.bg rfl _ _ rfl _ _ rfl rfl _ hZ rfl ?_)
 generalize hw2:World.setRow _ _ _=v2;have hb2:Below v1.heap.size v1 v2:=cU hw2;have hN:NN.Has v2 v1.heap.size (NN.aa t) 26:=by rw[<-hw2];exact NN.Has.row hZ _
 replace hH:=hH.on hb2;replace hB:=ah hB hb2;clear hw2 hb2 hZ;generalize v1.heap.size=bN at hN|-;have Td:=hT.below hB;have hTr:∀d os,dQ (Sort.grow (redrawn v2 d) os):=fun d os=>Td.below (below_regrown v2 d os)
 go_wp2_with fail
 refine wp_region_quiet_below (by kernel_rfl) (by kernel_rfl) ?_
 repeat(first
  | go_big_quiet_step (fail))
 refine wpQuiet_nil ?_;intro _ hw';obtain⟨q,hw''⟩:=hw';subst hw'';have hB2:=hB.trans ((below_regrown v2 q.d q.os).mono hB.size);go_wp2_with fail
 go_ret;exact⟨rfl,hB2⟩
theorem Qt(p:NN.Pr)(h:Hd)(ho:h.ok)(lim b:Int)(e0:Hid (p.lim=lim))(eb:Hid (h.bits=b))(t:Nat)(KT:Hid (b_ 181 #[i_ b,i_ lim] (.tuple #[.agg (NN.aa t),.bool true])))(id:List UInt8)(m:Bool)(KI:Hid (∀w,dQ w->ak 119 #[.agg (aD h)] w (.agg (ae id))))(KM:Hid (b_ 182 #[.agg (ae id),.agg (NN.aa t)] (.bool m)))(w:World)(hT:dQ w):ak 155 #[.agg (NN.aE p),.agg (aD h)] w (.bool m):=by
 have za:=fX ho;go_enter Tryz.func155,Tryz.ntmps155;go_upto_region 1 with fail
 generalize hw0:World.alloc _ _=v0;have hB:Below w.heap.size w v0:=by rw[<-hw0];exact aY.alloc (by simp) _
 have hP:NN.aA v0 w.heap.size p:=by rw[<-hw0];exact(NN.Has.new _ _).alloc _
 have hH:aH v0 (w.heap.size+1) h:=by rw[<-hw0];exact qj w _ h
 clear hw0;have c0:=hP.c0 e0;have c1:v0.cell? ⟨w.heap.size+1,66,none⟩=some (i_ b):=by rw[<-eb.out];exact hH.bits ho
 go_wp2_with fail
 refine au (KT.out _) fun v1 hb1=>?_;replace hH:=hH.on hb1;replace hB:=ah hB hb1;clear hb1 c0 c1 hP;have hZ:=NN.Has.R2 (w:=v1) 26;go_upto_region 2 with(with_reducible refine NN.bg rfl _ _ rfl _ _ rfl rfl _ hZ rfl ?_)
 generalize hw2:World.setRow _ _ _=v2;have hb2:Below v1.heap.size v1 v2:=cU hw2;have hN:NN.Has v2 v1.heap.size (NN.aa t) 26:=by rw[<-hw2];exact NN.Has.row hZ _
 replace hH:=hH.on hb2;replace hB:=ah hB hb2;clear hw2 hb2 hZ;generalize v1.heap.size=bN at hN|-;have Td:=hT.below hB;have hTr:∀d os,dQ (Sort.grow (redrawn v2 d) os):=fun d os=>Td.below (below_regrown v2 d os)
 have q1:=gv hH.range (j3 h);have s1:=er ho;go_wp2_with fail
 refine wp_region_quiet_below (by kernel_rfl) (by kernel_rfl) ?_
 repeat(first
  | (go_big_quiet_want;(with_reducible first|refine kt _ rfl (w.heap.size+1) 0 rfl h s1 q1 ?_|refine NN.og _ rfl _ rfl _ hN.cls ?_);(simp only[Act.put,List.setIfInBounds_toArray,List.set_cons_zero,List.set_cons_succ]);go_big_quiet_on)
  | go_big_quiet_step (first|(go_at_call 119;exact Calls.regrown_of (KI.out _ (hTr _ _)))|(go_at_call 182;exact Calls.regrown_of (KM.out _))))
 refine wpQuiet_nil ?_;intro _ hw';obtain⟨q,hw''⟩:=hw';subst hw'';have hB2:=hB.trans ((below_regrown v2 q.d q.os).mono hB.size);go_wp2_with fail
 go_ret;exact⟨rfl,hB2⟩
theorem L3(p:NN.Pr)(h:Hd)(ho:h.ok)(g:Bool)(hg:nR p.lim h=g)(w:World)(hT:dQ w):ak 155 #[.agg (NN.aE p),.agg (aD h)] w (.bool g):=by unfold nR at hg;have KT:=NN.lJ h.bits p.lim;cases hk:NN.tok h.bits p.lim;rw[hk]at KT hg;rw[<-hg];exact EI p h ho _ _ (h_ rfl) (h_ rfl) _ (h_ KT) w hT;rw[hk,Bool.true_and]at hg;rw[hk]at KT;exact Qt p h ho _ _ (h_ rfl) (h_ rfl) _ (h_ KT) h.id g (h_ (fun w hT=>mK h ho w hT)) (h_ (EL h.id (iv h) _ (NN.kM _ _) g hg)) w hT
end
namespace An
open Mem Sc
variable{α:Type}
theorem tU(f:α->List Value)(k:Nat)(L:List α)(h:∀x∈L,(f x).length=k):(L.flatMap f).length=L.length*k:=by
 induction L with
 | nil=>simp
 | cons x L ih=>
  rw[List.flatMap_cons,List.length_append,ih (fun y hy=>h y (by simp[hy])),h x (by simp),List.length_cons,Nat.add_mul,Nat.one_mul];omega
theorem JO(f:α->List Value)(k:Nat)(L:List α)(h:∀x∈L,(f x).length=k)(i j:Nat)(x:α)(hi:L[i]?=some x)(hj:j<k):(L.flatMap f)[i*k+j]?=(f x)[j]?:=by
 induction L generalizing i with
 | nil=>simp at hi
 | cons y L ih=>
  have hl:=h y (by simp);rw[List.flatMap_cons];cases i with
  | zero=>
   obtain rfl:y=x:=by simpa using hi
   rw[List.getElem?_append_left (by omega)];simp
  | succ i=>
   rw[List.getElem?_append_right (by rw[hl,Nat.add_mul];omega),hl,show(i+1)*k+j-k=i*k+j by rw[Nat.add_mul];omega];exact ih (fun z hz=>h z (by simp[hz])) i (by simpa using hi)
theorem wX(f:α->List Value)(k:Nat)(L:List α)(h:∀x∈L,(f x).length=k){w:World}{base:Nat}{T:TypeId}{v:Value}{n:Nat}(ho:w.ownsRow base T k v n (L.flatMap f))(hn:n=L.length):∃a c,v=.slice a n c/\n<=c/\(0<n->∃g,a=some ⟨g,0,none⟩/\base<=g/\g<w.heap.size/\∀i x,L[i]?=some x->w.rangeAt g (i*k) (f x)):=by
 rcases ho.2 with⟨rfl,rfl⟩|⟨g,c,cur,rfl,h1,h2,h3,h4,h5,h6⟩
 exact⟨none,0,rfl,Nat.le_refl _,fun h0=>absurd h0 (by omega)⟩
 ·refine⟨_,c,rfl,h3,fun _=>⟨g,rfl,h1,(Array.getElem?_eq_some_iff.1 h2).1,fun i x hi j u hu=>?_⟩⟩
  have hj:j<k:=by
   have:=(List.getElem?_eq_some_iff.1 hu).1;rwa[h x (List.mem_of_getElem? hi)]at this
  have hlt:=(List.getElem?_eq_some_iff.1 hi).1;rw[<-JO f k L h i j x hi hj,<-h6]at hu;have hH:Has w g cur T:=h2
  have hb:i*k+j<n*k:=by
   have:(i+1)*k<=n*k:=Nat.mul_le_mul_right _ (by omega);rw[Nat.add_mul]at this;omega
  rw[hH.cell,<-hu,List.getElem?_take_of_lt hb,Array.getElem?_toList]
theorem A6(f:α->List Value)(k:Nat)(hk:0<k)(L:List α)(h:∀x∈L,(f x).length=k){w:World}{b o:Nat}(hr:∀i x,L[i]?=some x->w.rangeAt b (o+i*k) (f x))(j:Nat)(u:Value)(hj:(L.flatMap f)[j]?=some u):w.cell? ⟨b,o+j,none⟩=some u:=by
 have hl:=(List.getElem?_eq_some_iff.1 hj).1;rw[tU f k L h]at hl;have hd:j/k<L.length:=by rw[Nat.div_lt_iff_lt_mul hk];exact hl
 have e:j/k*k+j%k=j:=by rw[Nat.mul_comm];exact Nat.div_add_mod j k
 have hm:=Nat.mod_lt j hk;have hx:L[j/k]?=some L[j/k]:=List.getElem?_eq_getElem hd;rw[<-e,JO f k L h (j/k) (j%k) _ hx hm]at hj;have:=hr _ _ hx (j%k) u hj;rwa[Nat.add_assoc,e]at this
theorem lV(f:α->List Value)(L:List α)(h:∀x∈L,∀v∈f x,v.oneCell'=true):∀v∈L.flatMap f,v.oneCell'=true:=fun v hv=>by
 obtain⟨x,hx,hv⟩:=List.mem_flatMap.1 hv;exact h x hx v hv
theorem sJ{P:Program}{T:TypeId}{k b:Nat}(h1:(P.info? T).map (·.size)=some k)(h2:((P.info? T).bind (·.zero)).map (·.cells.size)=some k)(h3:(P.info? T).map (·.bytes)=some b):∃i z,P.info? T=some i/\i.zero=some z/\i.size=k/\i.bytes=b/\z.cells.size=k:=by
 cases hi:P.info? T with
 | none=>rw[hi]at h1;cases h1
 | some i=>
  rw[hi]at h1 h2 h3;simp only[Option.map_some,Option.some.injEq,Option.bind_some]at h1 h2 h3;cases hz:i.zero with
  | none=>rw[hz]at h2;cases h2
  | some z=>
   rw[hz]at h2;simp only[Option.map_some,Option.some.injEq]at h2;exact⟨i,z,rfl,hz,h1,h3,h2⟩
theorem Gb:∀x:Gt,∀v∈j8 x,v.oneCell'=true:=fun x v hv=>by
 have h:=yF x;rw[Array.all_eq_true_iff_forall_mem]at h;exact h v (by unfold mD;simpa using hv)
theorem Jw(w:World)(a:Option Addr)(n c n' c':Nat):(binOp .eql 22 (.slice a n c) (.slice none n' c')).run Tryz.prog w=.ok (.bool a.isNone) w:=Lib.run_eql_slice_nil w _ _ a n c n' c' Tryz.underlying22
theorem FG(ad:Addr)(n c:Nat)(L:List Gt)(hn:n=L.length)(hl:n<=1000)(w:World)(hc:∀j u,(L.flatMap j8)[j]?=some u->w.cell? (ad.add j)=some u):aG 171 #[.slice (some ad) n c] w fun e w'=>∃v',e=.returned v'/\w'.ownsRow w.heap.size 108 2 v' n (L.flatMap j8)/\Bl w w':=by
 have q22:=Jw;have hlen:∀x∈L,(j8 x).length=2:=fun _ _=>rfl
 obtain⟨i0,z0,hi,hz0,hz1,hz2,hz3⟩:=sJ (P:=Tryz.prog) (T:=108) (k:=2) (b:=16) (by kernel_rfl) (by kernel_rfl) (by kernel_rfl);have A:=h_ hc;have HL:=h_ (tU j8 2 L hlen);have HO:=h_ (lV j8 L (fun x _=>Gb x));generalize L.flatMap j8=X at*;clear hc hlen;have HN:=h_ hn;clear hn;go_enter Tryz.func171,Tryz.ntmps171;go_wp2_with (at_builtin;refine wpList_append_own _ rfl _ _ 22 rfl w.heap.size 108 i0 z0 2 16 Tryz.underlying22 hi hz0 hz1 hz2 hz3 (by decide) _ 0 _ rfl (World.ownsRow_made w #[] 0 (Nat.le_refl _) (Nat.zero_le _) rfl) ad n c X rfl ?qc1 ?qc2 ?qc3 ?qc4 ?qc5 ?qc6 ?_)
 case qc1=>rw[HL.out,HN.out]
 case qc2=>
  intro j u hj;exact Lib.cell?_alloc_some _ (A.out j u hj)
 case qc3=>exact HO.out
 case qc4=>unfold maxLen;omega
 case qc5=>omega
 case qc6=>simp
 intro v' w1 hown hgrow hnil;go_wp2
 go_ret;exact⟨v',rfl,by simpa using hown,((Below.refl _ w).alloc (Nat.le_refl _) _).grown hgrow (by simp) (by intro k hk;simp[Value.ownBlock]at hk;omega)⟩
theorem N0(n c:Nat)(w:World):aG 171 #[.slice none n c] w fun e w'=>e=.returned (.slice none 0 0)/\w'=w:=by
 have q22:=Jw;go_enter Tryz.func171,Tryz.ntmps171;go_wp2
 go_ret;exact⟨rfl,rfl⟩
theorem QV:∀x:Ck,∀v∈jd x,v.oneCell'=true:=fun x v hv=>by
 have h:=yX x;rw[Array.all_eq_true_iff_forall_mem]at h;exact h v (by unfold mw;simpa using hv)
theorem Ke(w:World)(a:Option Addr)(n c n' c':Nat):(binOp .eql 23 (.slice a n c) (.slice none n' c')).run Tryz.prog w=.ok (.bool a.isNone) w:=Lib.run_eql_slice_nil w _ _ a n c n' c' Tryz.underlying23
theorem D0(ad:Addr)(n c:Nat)(L:List Ck)(h32:∀x∈L,x.id.length=32)(hn:n=L.length)(hl:n<=1000)(w:World)(hc:∀j u,(L.flatMap jd)[j]?=some u->w.cell? (ad.add j)=some u):aG 172 #[.slice (some ad) n c] w fun e w'=>∃v',e=.returned v'/\w'.ownsRow w.heap.size 110 33 v' n (L.flatMap jd)/\Bl w w':=by
 have q22:=Ke;have hlen:∀x∈L,(jd x).length=33:=fun x hx=>nJ (h32 x hx)
 obtain⟨i0,z0,hi,hz0,hz1,hz2,hz3⟩:=sJ (P:=Tryz.prog) (T:=110) (k:=33) (b:=40) (by kernel_rfl) (by kernel_rfl) (by kernel_rfl);have A:=h_ hc;have HL:=h_ (tU jd 33 L hlen);have HO:=h_ (lV jd L (fun x _=>QV x));generalize L.flatMap jd=X at*;clear hc hlen;have HN:=h_ hn;clear hn;go_enter Tryz.func172,Tryz.ntmps172;go_wp2_with (at_builtin;refine wpList_append_own _ rfl _ _ 23 rfl w.heap.size 110 i0 z0 33 40 Tryz.underlying23 hi hz0 hz1 hz2 hz3 (by decide) _ 0 _ rfl (World.ownsRow_made w #[] 0 (Nat.le_refl _) (Nat.zero_le _) rfl) ad n c X rfl ?qc1 ?qc2 ?qc3 ?qc4 ?qc5 ?qc6 ?_)
 case qc1=>rw[HL.out,HN.out]
 case qc2=>
  intro j u hj;exact Lib.cell?_alloc_some _ (A.out j u hj)
 case qc3=>exact HO.out
 case qc4=>unfold maxLen;omega
 case qc5=>omega
 case qc6=>simp
 intro v' w1 hown hgrow hnil;go_wp2
 go_ret;exact⟨v',rfl,by simpa using hown,((Below.refl _ w).alloc (Nat.le_refl _) _).grown hgrow (by simp) (by intro k hk;simp[Value.ownBlock]at hk;omega)⟩
theorem Oa(n c:Nat)(w:World):aG 172 #[.slice none n c] w fun e w'=>e=.returned (.slice none 0 0)/\w'=w:=by
 have q22:=Ke;go_enter Tryz.func172,Tryz.ntmps172;go_wp2
 go_ret;exact⟨rfl,rfl⟩
