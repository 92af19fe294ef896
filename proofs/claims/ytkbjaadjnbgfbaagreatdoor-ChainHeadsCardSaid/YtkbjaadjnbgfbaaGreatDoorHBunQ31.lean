import Derived.Test.YtkbjaadjnbgfbaaGreatDoorHHdList
import Derived.Test.YtkbjaadjnbgfbaaGreatDoorHBunQ28
import Derived.Test.YtkbjaadjnbgfbaaGreatDoorHBunQ30
import Derived.Test.YtkbjaadjnbgfbaaGreatDoorHHdSeekM
set_option maxRecDepth 100000
set_option maxHeartbeats 4000000
namespace Go.Proofs.YtkbjaadjnbgfbaaGreatDoor
open Go.RowKit
section
open Mem Sc
structure Sp where
 x:NN.Pt
 prev:List UInt8
 a:Option Addr
 n:Nat
 c:Nat
def Sp.ok(s:Sp):Prop:=s.prev.length=32
def kt(s:Sp):List Value:=i_ s.x.h::i_ s.x.b::i_ s.x.t::i_ s.x.f::i_ s.x.r::(Lib.byteCells s.prev++[.slice s.a s.n s.c])
def cU(s:Sp):Array Value:=(kt s).toArray
def qJ:Sp:=⟨⟨0,0,0,0,0⟩,oX,none,0,0⟩
variable{s:Sp}
theorem rq(h:s.ok):(kt s).length=38:=by simp[kt,Lib.byteCells_length,show s.prev.length=32 from h]
theorem mJ(h:s.ok):(cU s).size=38:=by show(kt s).toArray.size=38;rw[iR];exact rq h
theorem Cs(s:Sp):∀v∈kt s,v.oneCell'=true:=by
 intro v hv;simp only[kt,cJ,dL]at hv;rcases hv with rfl|rfl|rfl|rfl|rfl|hv|hv
 rfl;rfl;rfl;rfl;rfl;exact Lib.byteCells_one _ v hv;simp at hv;subst hv;rfl
theorem CI(s:Sp):(cU s).all (·.oneCell')=true:=all_oneCell_toArray (Cs s)
theorem kY:(Tryz.prog.info? 141).map (·.size)=some 38:=by kernel_rfl
theorem mS:qJ.ok:=rfl
def aY(w:World)(k:Nat)(s:Sp):Prop:=Has w k (cU s) 141
section
variable{w w':World}{k:Nat}{s:Sp}
theorem aY.lt(h:aY w k s):k<w.heap.size:=Has.lt h
theorem aY.on(h:aY w k s)(hb:Bl w w'):aY w' k s:=dz hb h h.lt
theorem aY.below{B:Nat}(h:aY w k s)(hb:Below B w w')(hk:k<B):aY w' k s:=dz hb h hk
theorem aY.free(h:aY w k s)(j:Nat):w.frozen? ⟨k,j,none⟩=false:=Has.free h j
theorem jO(s:Sp)(j:Nat):(cU s)[j]?=(kt s)[j]?:=by unfold cU;rw[dg]
theorem aY.c0(h:aY w k s){z:Int}(e:Hid (s.x.h=z)):w.cell? ⟨k,0,none⟩=some (i_ z):=(Has.cell h 0).trans (by rw[<-e.out,jO];rfl)
theorem aY.c1(h:aY w k s){z:Int}(e:Hid (s.x.b=z)):w.cell? ⟨k,1,none⟩=some (i_ z):=(Has.cell h 1).trans (by rw[<-e.out,jO];rfl)
theorem aY.c2(h:aY w k s){z:Int}(e:Hid (s.x.t=z)):w.cell? ⟨k,2,none⟩=some (i_ z):=(Has.cell h 2).trans (by rw[<-e.out,jO];rfl)
theorem aY.c3(h:aY w k s){z:Int}(e:Hid (s.x.f=z)):w.cell? ⟨k,3,none⟩=some (i_ z):=(Has.cell h 3).trans (by rw[<-e.out,jO];rfl)
theorem aY.c4(h:aY w k s){z:Int}(e:Hid (s.x.r=z)):w.cell? ⟨k,4,none⟩=some (i_ z):=(Has.cell h 4).trans (by rw[<-e.out,jO];rfl)
theorem OJ(j:Nat)(u:Value)(hu:(Lib.byteCells s.prev)[j]?=some u):(kt s)[5+j]?=some u:=by rw[show 5+j=j+1+1+1+1+1 by omega];show(Lib.byteCells s.prev++_)[j]?=some u;rw[dm (bk.1 hu).1];exact hu
theorem N'(h:s.ok):(kt s)[37]?=some (.slice s.a s.n s.c):=by show(Lib.byteCells s.prev++[Value.slice s.a s.n s.c])[32]?=_;have h32:(Lib.byteCells s.prev).length=32:=lj h;rw[dE (by omega),h32];rfl
theorem aY.prev(h:aY w k s):w.rangeAt k 5 (Lib.byteCells s.prev):=fun j u hu=>by
 rw[Has.cell h (5+j),jO];exact OJ j u hu
theorem aY.sl(h:aY w k s)(ho:s.ok):w.cell? ⟨k,37,none⟩=some (.slice s.a s.n s.c):=by rw[Has.cell h 37,jO];exact N' ho
theorem aY.pt(h:aY w k s):w.rangeAt k 0 (NN.nB s.x).toList:=fun j u hu=>by
 rw[cy,Has.cell h j,jO];have hj:j<5:=(bk.1 hu).1;rw[<-hu];match j,hj with
 | 0,_=>rfl
 | 1,_=>rfl
 | 2,_=>rfl
 | 3,_=>rfl
 | 4,_=>rfl
theorem Nj(z:Int):(cU s).setIfInBounds 0 (i_ z)=cU { s with x:={ s.x with h:=z } }:=by simp[cU,kt]
theorem P_(z:Int):(cU s).setIfInBounds 1 (i_ z)=cU { s with x:={ s.x with b:=z } }:=by simp[cU,kt]
theorem IM(z:Int):(cU s).setIfInBounds 2 (i_ z)=cU { s with x:={ s.x with t:=z } }:=by simp[cU,kt]
theorem K8(z:Int):(cU s).setIfInBounds 3 (i_ z)=cU { s with x:={ s.x with f:=z } }:=by simp[cU,kt]
theorem IQ(z:Int):(cU s).setIfInBounds 4 (i_ z)=cU { s with x:={ s.x with r:=z } }:=by simp[cU,kt]
theorem KJ(ho:s.ok)(a:Option Addr)(n c:Nat):(cU s).setIfInBounds 37 (.slice a n c)=cU { s with a:=a,n:=n,c:=c }:=by
 unfold cU;rw[da];congr 1;have h32:(Lib.byteCells s.prev).length=32:=lj ho
 have e:(Lib.byteCells s.prev++[Value.slice s.a s.n s.c]).set 32 (.slice a n c)=Lib.byteCells s.prev++[Value.slice a n c]:=by
  rw[jM _ _ (by omega),h32];rfl
 show _::_::_::_::_::(Lib.byteCells s.prev++[Value.slice s.a s.n s.c]).set 32 (.slice a n c)=_;rw[e];rfl
theorem aY.setH(h:aY w k s)(z:Int):aY (w.setCell ⟨k,0,none⟩ (i_ z)) k { s with x:={ s.x with h:=z } }:=by unfold aY;rw[<-Nj];exact Has.set h _
theorem aY.ah3(h:aY w k s)(z:Int):aY (w.setCell ⟨k,1,none⟩ (i_ z)) k { s with x:={ s.x with b:=z } }:=by unfold aY;rw[<-P_];exact Has.set h _
theorem aY.ah4(h:aY w k s)(z:Int):aY (w.setCell ⟨k,2,none⟩ (i_ z)) k { s with x:={ s.x with t:=z } }:=by unfold aY;rw[<-IM];exact Has.set h _
theorem aY.ah5(h:aY w k s)(z:Int):aY (w.setCell ⟨k,3,none⟩ (i_ z)) k { s with x:={ s.x with f:=z } }:=by unfold aY;rw[<-K8];exact Has.set h _
theorem aY.Zk(h:aY w k s)(z:Int):aY (w.setCell ⟨k,4,none⟩ (i_ z)) k { s with x:={ s.x with r:=z } }:=by unfold aY;rw[<-IQ];exact Has.set h _
theorem aY.ah6(h:aY w k s)(ho:s.ok)(a:Option Addr)(n c:Nat):aY (w.setCell ⟨k,37,none⟩ (.slice a n c)) k { s with a:=a,n:=n,c:=c }:=by unfold aY;rw[<-KJ ho];exact Has.set h _
theorem aY.other(h:aY w k s)(p:Addr)(u:Value)(hn:k≠p.block):aY (w.setCell p u) k s:=Has.other h p u hn
theorem D9(w:World)(s:Sp):aY (w.alloc (.cells (cU s) 141)) w.heap.size s:=Has.new _ _
theorem sQ(w:World):aY (w.alloc (.cells #[i_ 0,i_ 0,i_ 0,i_ 0,i_ 0,bf,bf,bf,bf,bf,bf,bf,bf,bf,bf,bf,bf,bf,bf,bf,bf,bf,bf,bf,bf,bf,bf,bf,bf,bf,bf,bf,bf,bf,bf,bf,bf,.slice none 0 0] 141)) w.heap.size qJ:=D9 w qJ
theorem aY.cls(h:aY w k s):∀w',(∃r:Regrown,w'=Sort.grow (redrawn w r.d) r.os)->aY w' k s:=fun w' ⟨r,e⟩=>by rw[e];exact h.on (below_regrown w r.d r.os)
end
section
variable{w:World}{k:Nat}{s:Sp}{ops:Array Oper}{rest:List Oper}{o:Oper}{a:Act}{Q:Exit->Act->World->Prop}
theorem AF(hgd:o.guard=none)(x:Operand)(ho:o.op=.load 141 x)(g:Nat)(hx:a.eval x=af g)(hg:aY w g s)(hs:(cU s).size=38)(hk:wpList Tryz.prog ops Q rest (a.put o.dst (.agg (cU s))) w):wpList Tryz.prog ops Q (o::rest) a w:=
 iQ hgd 141 x ho g hx 141 (cU s) (0,0) _ (Has.out hg) Tryz.underlying141 rfl (kY.trans (by rw[hs])) hk
theorem wW(hgd:o.guard=none)(x y:Operand)(ho:o.op=.store 141 x y)(g:Nat)(cz:Array Value)(s':Sp)(hx:a.eval x=af g)(hy:a.eval y=.agg cz)(e:cz=cU s')(hs':(cU s').size=38)(hg:aY w g s)(hs:(cU s).size=38)(hk:wpList Tryz.prog ops Q rest (a.put o.dst undef) (w.setRow g (cU s'))):wpList Tryz.prog ops Q (o::rest) a w:=by subst e;exact eI hgd 141 x y ho g (cU s') hx hy 141 (cU s) (Has.out hg) (kY.trans (by rw[hs'])) (by rw[hs,hs']) (CI s') hk
variable{C:World->Prop}{K:Act->Prop}
theorem El(x:Operand)(ho:o.op=.load 141 x)(g:Nat)(hx:a.eval x=af g)(hs:(cU s).size=38)(hC:∀w',C w'->aY w' g s)(hk:K (a.put o.dst (.agg (cU s)))):o.quiet Tryz.prog a C K:=
 ⟨_,fun w' hw'=>by
  unfold Oper.quietAt
  have this:(execOp a.eval o).run Tryz.prog w'=.ok (.value (.agg (cU s))) w':=by
   have hl:(loadVar 141 ⟨g,0,none⟩).run Tryz.prog w'=.ok (.agg (cU s)) w':=gM w' g 141 141 (cU s) (0,0) _ (Has.out (hC w' hw')) Tryz.underlying141 rfl (kY.trans (by rw[hs]));unfold execOp;simp only[ho,hx,Instr.loadAt,Instr.sureAddr,aB,cr,aM,hl]
  rw[this];exact⟨rfl,rfl⟩,hk⟩
theorem wX(w:World)(g:Nat)(x:NN.Pt)(h:w.rangeAt g 0 (NN.nB x).toList):(Instr.loadAt 139 (af g)).run Tryz.prog w=.ok (.agg (NN.nB x)) w:=
 run_loadAt_mid w g 0 139 (NN.nB x).toList _ h Tryz.underlying139 rfl NN.wc
theorem Jw(y:Operand)(ho:o.op=.load 139 y)(g:Nat)(hx:a.eval y=af g)(x:NN.Pt)(hC:∀w',C w'->w'.rangeAt g 0 (NN.nB x).toList)(hk:K (a.put o.dst (.agg (NN.nB x)))):o.quiet Tryz.prog a C K:=
 ⟨_,fun w' hw'=>by
  unfold Oper.quietAt
  have this:(execOp a.eval o).run Tryz.prog w'=.ok (.value (.agg (NN.nB x))) w':=by
   unfold execOp;simp only[ho,hx,aB,wX w' g x (hC w' hw'),aM];rfl
  rw[this];exact⟨rfl,rfl⟩,hk⟩
end
theorem ON{w:World}{s:Sp}{fn:Func}{p:Tmp}(hf:fn.results=#[.cell p 141])(tmps:Array Value)(g:Nat)(hp:tmps.getD p undef=af g)(hg:aY w g s)(hs:(cU s).size=38):(results fn tmps).run Tryz.prog w=.ok (.agg (cU s)) w:=
 results_cell_row hf tmps w g 141 (cU s) (0,0) _ hp (Has.out hg) Tryz.underlying141 rfl (kY.trans (by rw[hs]))
structure Gt where
 h:Int
 v:Int
structure Ck where
 h:Int
 id:List UInt8
def oB(g:Gt):List Value:=[i_ g.h,i_ g.v]
def mI(c:Ck):List Value:=i_ c.h::Lib.byteCells c.id
def qQ(g:Gt):Array Value:=(oB g).toArray
def qM(c:Ck):Array Value:=(mI c).toArray
def oZ:Gt:=⟨0,0⟩
def nD:Ck:=⟨0,oX⟩
def bc(w:World)(a:Option Addr)(gs:List Gt):Prop:=
 0<gs.length->∃ab ao,a=some ⟨ab,ao,none⟩/\ab<w.heap.size/\∀i (hi:i<gs.length),w.rangeAt ab (ao+i*2) (oB gs[i])
def aI(w:World)(a:Option Addr)(cs:List Ck):Prop:=
 0<cs.length->∃ab ao,a=some ⟨ab,ao,none⟩/\ab<w.heap.size/\∀i (hi:i<cs.length),cs[i].id.length=32/\w.rangeAt ab (ao+i*33) (mI cs[i])
theorem BZ(g:Gt):0<(oB g).length:=by simp[oB]
theorem Dc(c:Ck):0<(mI c).length:=by simp[mI]
variable{c:Ck}
theorem sF(h:c.id.length=32):(mI c).length=33:=by simp[mI,Lib.byteCells_length,h]
theorem wD(h:c.id.length=32):(qM c).size=33:=by show(mI c).toArray.size=33;rw[iR];exact sF h
theorem BI(c:Ck):(qM c).all (·.oneCell')=true:=all_oneCell_toArray (by
 intro v hv;simp only[mI,cJ]at hv;rcases hv with rfl|hv
 rfl;exact Lib.byteCells_one _ v hv)
theorem BX(g:Gt):(qQ g).all (·.oneCell')=true:=all_oneCell_toArray (by
 intro v hv;simp only[oB,cJ,List.not_mem_nil,or_false]at hv;rcases hv with rfl|rfl<;>rfl)
section
variable{w w':World}{a:Option Addr}{gs:List Gt}{cs:List Ck}
theorem bc.below(h:bc w a gs)(hb:Bl w w'):bc w' a gs:=fun h0=>by
 obtain⟨ab,ao,ha,hlt,hc⟩:=h h0;exact⟨ab,ao,ha,b_ hlt hb.size,fun i hi=>lL (hc i hi) hb (BZ _)⟩
theorem aI.below(h:aI w a cs)(hb:Bl w w'):aI w' a cs:=fun h0=>by
 obtain⟨ab,ao,ha,hlt,hc⟩:=h h0;exact⟨ab,ao,ha,b_ hlt hb.size,fun i hi=>⟨(hc i hi).1,lL (hc i hi).2 hb (Dc _)⟩⟩
end
theorem w_:(Tryz.prog.info? 108).map (·.size)=some 2:=by kernel_rfl
theorem uI:(Tryz.prog.info? 110).map (·.size)=some 33:=by kernel_rfl
def oV(w:World)(k:Nat)(g:Gt):Prop:=Has w k (qQ g) 108
def sR(w:World)(k:Nat)(c:Ck):Prop:=Has w k (qM c) 110
section
variable{w:World}{k:Nat}{g:Gt}{c:Ck}
theorem oV.c0(h:oV w k g):w.cell? ⟨k,0,none⟩=some (i_ g.h):=Has.cell h 0
theorem oV.c1(h:oV w k g):w.cell? ⟨k,1,none⟩=some (i_ g.v):=Has.cell h 1
theorem sR.c0(h:sR w k c):w.cell? ⟨k,0,none⟩=some (i_ c.h):=Has.cell h 0
theorem sR.id(h:sR w k c):w.rangeAt k 1 (Lib.byteCells c.id):=fun j u hu=>by
 rw[Has.cell h (1+j)];show(mI c).toArray[1+j]?=some u;rw[dg,gx];exact hu
theorem yz(w:World):oV (w.alloc (.cells #[i_ 0,i_ 0] 108)) w.heap.size oZ:=Has.new _ _
theorem we(w:World):sR (w.alloc (.cells #[i_ 0,bf,bf,bf,bf,bf,bf,bf,bf,bf,bf,bf,bf,bf,bf,bf,bf,bf,bf,bf,bf,bf,bf,bf,bf,bf,bf,bf,bf,bf,bf,bf,bf] 110)) w.heap.size nD:=Has.new (qM nD) _
theorem xF(w:World)(y:Ck):sR ((w.alloc (.cells #[i_ 0,bf,bf,bf,bf,bf,bf,bf,bf,bf,bf,bf,bf,bf,bf,bf,bf,bf,bf,bf,bf,bf,bf,bf,bf,bf,bf,bf,bf,bf,bf,bf,bf] 110)).setRow w.heap.size (qM y)) w.heap.size y:=Has.row (we w) _
theorem Bc{v w:World}(h:Bl v w)(y:Ck):Bl v ((w.alloc (.cells #[i_ 0,bf,bf,bf,bf,bf,bf,bf,bf,bf,bf,bf,bf,bf,bf,bf,bf,bf,bf,bf,bf,bf,bf,bf,bf,bf,bf,bf,bf,bf,bf,bf,bf] 110)).setRow w.heap.size (qM y)):=below_setRow (h.alloc h.size _) h.size _
variable{ops:Array Oper}{rest:List Oper}{o:Oper}{a:Act}{Q:Exit->Act->World->Prop}
theorem qa(hgd:o.guard=none)(x:Operand)(ho:o.op=.load 108 x)(b off:Nat)(hx:a.eval x=.pointer (some ⟨b,off,none⟩))(g:Gt)(hg:w.rangeAt b off (oB g))(hk:wpList Tryz.prog ops Q rest (a.put o.dst (.agg (qQ g))) w):wpList Tryz.prog ops Q (o::rest) a w:=
 wpList_load_mid hgd 108 x ho b off hx (oB g) _ hg Tryz.underlying108 rfl w_ hk
theorem rF(hgd:o.guard=none)(x:Operand)(ho:o.op=.load 110 x)(b off:Nat)(hx:a.eval x=.pointer (some ⟨b,off,none⟩))(c:Ck)(hg:w.rangeAt b off (mI c))(hs:(mI c).length=33)(hk:wpList Tryz.prog ops Q rest (a.put o.dst (.agg (qM c))) w):wpList Tryz.prog ops Q (o::rest) a w:=
 wpList_load_mid hgd 110 x ho b off hx (mI c) _ hg Tryz.underlying110 rfl (uI.trans (by rw[hs])) hk
theorem pA(hgd:o.guard=none)(x y:Operand)(ho:o.op=.store 108 x y)(b:Nat)(g':Gt)(hx:a.eval x=af b)(hy:a.eval y=.agg (qQ g'))(hg:oV w b g)(hk:wpList Tryz.prog ops Q rest (a.put o.dst undef) (w.setRow b (qQ g'))):wpList Tryz.prog ops Q (o::rest) a w:=
 eI hgd 108 x y ho b (qQ g') hx hy 108 (qQ g) (Has.out hg) w_ rfl (BX g') hk
theorem qZ(hgd:o.guard=none)(x y:Operand)(ho:o.op=.store 110 x y)(b:Nat)(c':Ck)(hx:a.eval x=af b)(hy:a.eval y=.agg (qM c'))(hs':(qM c').size=33)(hg:sR w b c)(hs:(qM c).size=33)(hk:wpList Tryz.prog ops Q rest (a.put o.dst undef) (w.setRow b (qM c'))):wpList Tryz.prog ops Q (o::rest) a w:=
 eI hgd 110 x y ho b (qM c') hx hy 110 (qM c) (Has.out hg) (uI.trans (by rw[hs'])) (by rw[hs,hs']) (BI c') hk
end
namespace An
variable{place:Nat->Option (Nat×Nat)}
theorem kq{i off n:Nat}{v:Value}{rest:List (Nat×Value)}(A B C X:List Value)(hp:place i=some (off,n))(hA:A.length=off)(hB:B.length=n)(hv:v.cells=X.toArray)(hX:X.length=n):Instr.fill place (A++(B++C)).toArray ((i,v)::rest)=Instr.fill place (A++(X++C)).toArray rest:=by
 have hs:v.cells.size=n:=by rw[hv];simpa using hX
 have e:(v.cells.zipIdx.foldl (fun(cs:Array Value)(x:Value×Nat)=>match x with|(c,j)=>cs.setIfInBounds (off+j) c) (A++(B++C)).toArray)=(A++(X++C)).toArray:=by
  rw[hv,<-Array.foldl_toList,Array.toList_zipIdx];show List.foldl _ _ (X.zipIdx 0)=_
  have gen:∀(X' B' A':List Value)(k:Nat),A'.length=off+k->B'.length=X'.length->
    List.foldl (fun(cs:Array Value)(x:Value×Nat)=>match x with|(c,j)=>cs.setIfInBounds (off+j) c) (A'++(B'++C)).toArray (X'.zipIdx k)=(A'++(X'++C)).toArray:=by
   intro X';induction X' with
   | nil=>
    intro B' A' k _ hb;obtain rfl:B'=[]:=gE hb;rfl
   | cons x X' ih=>
    intro B' A' k ha hb
    obtain⟨b,B'',rfl⟩:∃b B'',B'=b::B'':=by
     cases B' with
     | nil=>simp at hb
     | cons b B''=>exact⟨b,B'',rfl⟩
    rw[List.zipIdx_cons,jZ];show List.foldl _ ((A'++(b::B''++C)).toArray.setIfInBounds (off+k) x) (X'.zipIdx (k+1))=_;rw[da,jM _ _ (by omega),show off+k-A'.length=0 by omega];have:=ih B'' (A'++[x]) (k+1) (by simp;omega) (by simpa using hb);simpa using this
  have:=gen X B A 0 (by omega) (by omega);exact this
 rw[Instr.fill];simp only[hp];rw[ah (by simp[hs];omega)];congr 1
variable{cs:Array Value}
theorem zQ:Instr.fill place cs []=some cs:=rfl
structure Kp (F:Nat->Prop) (w w':World):Prop where
 os:w'.os=w.os
 tape:w'.tape=w.tape
 output:w'.output=w.output
 size:w.heap.size<=w'.heap.size
 block:∀k,k<w.heap.size->¬F k->w'.heap[k]?=w.heap[k]?
theorem Kp.refl(F:Nat->Prop)(w:World):Kp F w w:=⟨rfl,rfl,rfl,au _,fun _ _ _=>rfl⟩
variable{F G:Nat->Prop}
theorem Kp.trans{a b c:World}(h:Kp F a b)(k:Kp G b c)(hG:∀i,G i->i<a.heap.size->F i):Kp F a c:=⟨k.os.trans h.os,k.tape.trans h.tape,k.output.trans h.output,ax h.size k.size,fun i hi hn=>(k.block i (b_ hi h.size) (fun hg=>hn (hG i hg hi))).trans (h.block i hi hn)⟩
variable{w w':World}
theorem Kp.of(h:Bl w w'):Kp F w w':=⟨h.os,h.tape,h.output,h.size,fun k hk _=>h.block k hk⟩
theorem Kp.gb{r:Option Nat}(h:w.grownBy w' r)(hr:∀k,r=some k->F k):Kp F w w':=⟨h.os,h.tape,h.output,h.size,fun k hk hn=>h.block k hk (fun e=>hn (hr k e.symm))⟩
theorem Kp.mono(h:Kp F w w')(hF:∀i,F i->i<w.heap.size->G i):Kp G w w':=⟨h.os,h.tape,h.output,h.size,fun k hk hn=>h.block k hk (fun hf=>hn (hF k hf hk))⟩
theorem Kp.below{B:Nat}(h:Kp F w w')(hF:∀i,F i->B<=i)(hB:B<=w.heap.size):Below B w w':=⟨h.os,h.tape,h.output,h.size,fun k hk=>h.block k (b_ hk hB) (fun hf=>absurd (hF k hf) (by omega))⟩
variable{k b:Nat}{t:TypeId}
theorem Kp.has(h:Kp F w w')(hh:Has w k cs t)(hn:¬F k):Has w' k cs t:=(h.block k hh.lt hn).trans hh
theorem Kp.ah7(h:Kp F w w')(hh:NN.Has w k cs t)(hn:¬F k):NN.Has w' k cs t:=(h.block k hh.lt hn).trans hh
def mD(F:Nat->Prop)(w w':World):Nat->Prop:=fun i=>F i\/(w.heap.size<=i/\i<w'.heap.size)
variable{P:Program}{o:Oper}
theorem DL{C:World->Prop}{a:Act}{K:Act->Prop}(T:TypeId)(x:Operand)(ho:o.op=.load T x)(g off:Nat)(hx:a.eval x=.pointer (some ⟨g,off,none⟩))(cs:List Value)(d:TypeDesc)(hu:P.underlying T=some d)(hd:d.isRow=true)(hi:(P.info? T).map (·.size)=some cs.length)(hC:∀w',C w'->w'.rangeAt g off cs)(hk:K (a.put o.dst (.agg cs.toArray))):o.quiet P a C K:=
 ⟨_,fun w' hw'=>by
  unfold Oper.quietAt
  have this:(execOp a.eval o).run P w'=.ok (.value (.agg cs.toArray)) w':=by
   unfold execOp;simp only[ho,hx,aB,run_loadAt_mid w' g off T cs d (hC w' hw') hu hd hi,aM];rfl
  rw[this];exact⟨rfl,rfl⟩,hk⟩
theorem lq{ρ:Operand->Value}(T:TypeId){x:Operand}(ho:o.op=.load T x){g off:Nat}(hx:ρ x=.pointer (some ⟨g,off,none⟩)){cs:List Value}{d:TypeDesc}(hu:P.underlying T=some d)(hd:d.isRow=true)(hi:(P.info? T).map (·.size)=some cs.length)(hg:w.rangeAt g off cs):(execOp ρ o).run P w=.ok (.value (.agg cs.toArray)) w:=by unfold execOp;simp only[ho,hx,aB,run_loadAt_mid w g off T cs d hg hu hd hi,aM];rfl
variable{A C:List Value}
theorem j4{o:Nat}{cs:List Value}(h:Has w b (A++(cs++C)).toArray t)(hA:A.length=o):w.rangeAt b o cs:=fun j u hu=>by
 rw[Has.cell h (o+j),dg,dE (by omega),show o+j-A.length=j by omega,dm (bk.1 hu).1];exact hu
theorem GG{o:Nat}{cs:List Value}(h:w.rangeAt b o (A++(cs++C)))(hA:A.length=k):w.rangeAt b (o+k) cs:=fun j u hu=>by
 have:=h (k+j) u (by rw[dE (by omega),show k+j-A.length=j by omega,dm (bk.1 hu).1];exact hu);rwa[Nat.add_assoc]
end An
section
variable{w:World}{ops:Array Oper}{rest:List Oper}{o:Oper}{a:Act}{Q:Exit->Act->World->Prop}
theorem OE(hw:Region.wanted o (yielded ops a.tmps)=true)(x:Operand)(ho:o.op=.load 28 x)(g off:Nat)(hx:a.eval x=.pointer (some ⟨g,off,none⟩))(l:List UInt8)(hg:w.rangeAt g off (Lib.byteCells l))(hs:(Lib.byteCells l).length=32)(h:wpList Tryz.prog ops Q rest (a.put o.dst (.agg (ae l))) w):wpList Tryz.prog ops Q (o::rest) a w:=
 mf hw fun _ hK=>by
  unfold Oper.wp execOp;simp only[ho,hx,aB,run_loadAt_mid w g off 28 (Lib.byteCells l) _ hg Tryz.underlying28 rfl (lR.trans (by rw[hs])),aM];rw[<-lP]at*;exact hK _ _ h
theorem OL(hw:Region.wanted o (yielded ops a.tmps)=true)(x:Operand)(ho:o.op=.load 28 x)(g:Nat)(hx:a.eval x=af g)(l:List UInt8)(hg:Has w g (ae l) 28)(hs:l.length=32)(h:wpList Tryz.prog ops Q rest (a.put o.dst (.agg (ae l))) w):wpList Tryz.prog ops Q (o::rest) a w:=
 mf hw fun _ hK=>wp_load_row 28 x ho g hx 28 (ae l) (0,0) _ (Has.out hg) Tryz.underlying28 rfl (lR.trans (by rw[uh hs])) (hK _ _ h)
end
def mj(x:Int)(gs:List Gt):Int:=gs.foldl (fun m g=>if g.h<=x then max m g.v else m) (-2147483648)
theorem PK(x:Int)(gs:List Gt)(k:Nat)(hk:k<gs.length):mj x (gs.take (k+1))=if(gs.getD k oZ).h<=x then max (mj x (gs.take k)) (gs.getD k oZ).v else mj x (gs.take k):=by
 have e:gs.take (k+1)=gs.take k++[gs.getD k oZ]:=by
  rw[iJ,aQ hk,dC,aQ hk];rfl
 rw[e];unfold mj;rw[qk];rfl
theorem RB(x:Int)(a:Option Addr)(gs:List Gt)(n c:Nat)(hn:n=gs.length)(hl:n<=4611686018427387904)(w:World)(hA:bc w a gs)(v:Int)(hv:mj x gs=v):ar 158 #[i_ x,.slice a n c] w (i_ v):=by
 have HN:=h_ hn;have HV:=h_ hv;have HA:=h_ hA;clear hn hv hA;go_enter Tryz.func158,Tryz.ntmps158;go_wp2_with fail
 go_loopw [5,10] (fun m i wr=>∃k:Nat,k<=n/\i=i_ k/\∃z:Int,m=i_ z/\Hid (mj x (gs.take k)=z)/\Bl w wr) (fun _ i _=>n-(intOf i).toNat)
 case atStart=>exact⟨0,by omega,rfl,_,rfl,h_ rfl,cg⟩
 case round=>
  obtain⟨k,hk,rfl,z,rfl,HZ,hB⟩:=hrel;by_cases hlt:k<n
  ·obtain⟨ab,ao,rfl,VR,hc⟩:=(HA.out.below hB) (by rw[<-HN.out];omega)
   have q:wr.rangeAt ab (ao+k*2) (oB (gs.getD k oZ)):=by
    have:=hc k (by rw[<-HN.out];omega);rwa[show gs.getD k oZ=gs[k]'(by rw[<-HN.out];omega) by rw[dC,aQ (by rw[<-HN.out];omega)];rfl]
   have hnx:=PK x gs k (by rw[<-HN.out];omega);rw[HZ.out]at hnx;generalize gs.getD k oZ=y at*;have HX:=h_ hnx;have hnew:=yz wr;have hG:oV ((wr.alloc (.cells #[i_ 0,i_ 0] 108)).setRow wr.heap.size (qQ y)) wr.heap.size y:=Has.row hnew _;have hB2:Bl w ((wr.alloc (.cells #[i_ 0,i_ 0] 108)).setRow wr.heap.size (qQ y)):=below_setRow (hB.alloc hB.size _) hB.size _;have c0:=hG.c0;have c1:=hG.c1;clear hnx hc hG;by_cases hh:y.h<=x
   ·obtain⟨z2,hz2⟩:∃z2,z2=max z y.v:=⟨_,rfl⟩;have hmax:=NN.p7 (P:=Tryz.prog) z y.v z2 hz2;have HZ2:Hid (mj x (gs.take (k+1))=z2):=h_ (by rw[HX.out,aj hh,hz2]);have t1:decide (y.h<=x)=true:=aG hh;clear hz2 HX HZ hh;(go_wp2_with (with_reducible first|refine qa rfl _ rfl ab (ao+k*2) rfl y q ?_|refine pA rfl _ _ rfl _ y rfl rfl hnew ?_));go_roundw
    case rel=>exact⟨k+1,by omega,by go_num,z2,rfl,HZ2,hB2⟩
    case measure=>simp[intOf];omega
   ·have HZ2:Hid (mj x (gs.take (k+1))=z):=h_ (by rw[HX.out,ah hh]);have t1:decide (y.h<=x)=false:=aE hh;clear HX HZ hh;(go_wp2_with (with_reducible first|refine qa rfl _ rfl ab (ao+k*2) rfl y q ?_|refine pA rfl _ _ rfl _ y rfl rfl hnew ?_));go_roundw
    case rel=>exact⟨k+1,by omega,by go_num,z,rfl,HZ2,hB2⟩
    case measure=>simp[intOf];omega
  ·obtain rfl:k=n:=by omega
   have e:z=v:=by
    have:=HZ.out;rw[HN.out,iY,HV.out]at this;exact this.symm
   subst e;go_wp2_with fail
   go_ret;exact⟨rfl,hB⟩
def p_(x:Int)(id:List UInt8)(cs:List Ck):Bool:=cs.all fun c=>!(c.h==x&&!(c.id==id))
theorem Ll(x:Int)(id:List UInt8)(cs:List Ck)(k:Nat)(hk:k<cs.length):p_ x id (cs.take (k+1))=(p_ x id (cs.take k)&&!((cs.getD k nD).h==x&&!((cs.getD k nD).id==id))):=by
 have e:cs.take (k+1)=cs.take k++[cs.getD k nD]:=by
  rw[iJ,aQ hk,dC,aQ hk];rfl
 rw[e];unfold p_;rw[List.all_append];simp
theorem vo(x:Int)(id:List UInt8)(cs:List Ck)(k:Nat)(h:p_ x id (cs.take k)=false):p_ x id cs=false:=by have e:cs=cs.take k++cs.drop k:=(iN k cs).symm;rw[e];unfold p_ at*;rw[List.all_append,h];rfl
theorem Rj(x:Int)(id:List UInt8)(hid:id.length=32)(a:Option Addr)(cs:List Ck)(n c:Nat)(hn:n=cs.length)(hl:n<=4611686018427387904)(w:World)(hA:aI w a cs)(g:Bool)(hg:p_ x id cs=g):ar 159 #[i_ x,.agg (ae id),.slice a n c] w (.bool g):=by
 have HN:=h_ hn;have HG:=h_ hg;have HA:=h_ hA;clear hn hg hA;go_enter Tryz.func159,Tryz.ntmps159;go_upto_region 1 with fail
 generalize hw0:World.alloc _ _=v0;have hB0:Below w.heap.size w v0:=eT hw0;have hD0:Has v0 w.heap.size (ae id) 28:=by rw[<-hw0];exact Has.new _ _
 clear hw0;generalize hb:w.heap.size=bd at hD0|-;have hbd:bd<v0.heap.size:=hD0.lt;rw[hb]at hB0;go_wp2_with fail
 go_loopw [11] (fun i wr=>∃k:Nat,k<=n/\i=i_ k/\Hid (p_ x id (cs.take k)=true)/\Below v0.heap.size v0 wr) (fun i _=>n-(intOf i).toNat)
 case atStart=>exact⟨0,by omega,rfl,h_ rfl,cg⟩
 case round=>
  obtain⟨k,hk,rfl,HZ,hB⟩:=hrel;by_cases hlt:k<n
  ·have hA1:=(HA.out.below (by unfold Bl;rw[hb];exact hB0)).below hB;obtain⟨ab,ao,rfl,VR,hc⟩:=hA1 (by rw[<-HN.out];omega)
   have q0:(cs.getD k nD).id.length=32/\wr.rangeAt ab (ao+k*33) (mI (cs.getD k nD)):=by
    have:=hc k (by rw[<-HN.out];omega);rwa[show cs.getD k nD=cs[k]'(by rw[<-HN.out];omega) by rw[dC,aQ (by rw[<-HN.out];omega)];rfl]
   have hnx:=Ll x id cs k (by rw[<-HN.out];omega);rw[HZ.out,dG]at hnx;generalize cs.getD k nD=y at*;obtain⟨y32,q⟩:=q0;have HX:=h_ hnx;have z1:=sF y32;have z2:=wD y32;have z3:(qM nD).size=33:=rfl;have hnew:=we wr;have hG:=xF wr y;have hB1:=Bc hB y;have hD:=dz hB1 hD0 hbd;have c0:=hG.c0;have c1:=hG.id;have s1:=lj y32;clear hnx hc hA1;cases hh:(y.h==x)
   ·have HZ2:Hid (p_ x id (cs.take (k+1))=true):=h_ (by rw[HX.out,hh];rfl);clear HX HZ;(go_wp2_with (with_reducible first|refine rF rfl _ rfl ab (ao+k*33) rfl y q z1 ?_|refine qZ rfl _ _ rfl _ y rfl rfl z2 hnew z3 ?_));go_roundw
    case rel=>exact⟨k+1,by omega,by go_num,HZ2,hB1⟩
    case measure=>simp[intOf];omega
   ·cases he:(y.id==id)
    ·have qn:=my y.id id y32 hid true (by rw[he];rfl)
     have hgf:g=false:=by
      rw[<-HG.out];exact vo x id cs (k+1) (by rw[HX.out,hh,he];rfl)
     subst hgf;clear HX HZ he;(go_wp2_with (with_reducible first|refine rF rfl _ rfl ab (ao+k*33) rfl y q z1 ?_|refine qZ rfl _ _ rfl _ y rfl rfl z2 hnew z3 ?_|refine OE (by with_unfolding_all rfl) _ rfl _ 1 rfl y.id c1 s1 ?_|refine OL (by with_unfolding_all rfl) _ rfl bd rfl id hD hid ?_|refine pY (by with_unfolding_all rfl) _ _ _ rfl _ _ _ rfl rfl qn ?_));go_ret;exact⟨rfl,by first|exact ai hB0 hB1|exact hB0.trans (hB1.mono (by rw[<-hb];exact hB0.size))|(rw[hb];exact hB0.trans (hB1.mono (by rw[<-hb];exact hB0.size)))⟩
    ·have qn:=my y.id id y32 hid false (by rw[he];rfl);have HZ2:Hid (p_ x id (cs.take (k+1))=true):=h_ (by rw[HX.out,hh,he];rfl);clear HX HZ he;(go_wp2_with (with_reducible first|refine rF rfl _ rfl ab (ao+k*33) rfl y q z1 ?_|refine qZ rfl _ _ rfl _ y rfl rfl z2 hnew z3 ?_|refine OE (by with_unfolding_all rfl) _ rfl _ 1 rfl y.id c1 s1 ?_|refine OL (by with_unfolding_all rfl) _ rfl bd rfl id hD hid ?_|refine pY (by with_unfolding_all rfl) _ _ _ rfl _ _ _ rfl rfl qn ?_));go_roundw
     case rel=>exact⟨k+1,by omega,by go_num,HZ2,hB1⟩
     case measure=>simp[intOf];omega
  ·obtain rfl:k=n:=by omega
   have hfin:g=true:=by
    rw[<-HG.out];have:=HZ.out;rwa[HN.out,iY]at this
   subst hfin;go_wp2_with fail
   go_ret;exact⟨rfl,by first|exact ai hB0 hB|exact hB0.trans (hB.mono (by rw[<-hb];exact hB0.size))|(rw[hb];exact hB0.trans (hB.mono (by rw[<-hb];exact hB0.size)))⟩
theorem U1(l:List UInt8)(hl:l.length=32):NN.dY (pc l)=ae l:=by unfold NN.dY ae;congr 1;apply List.ext_getElem?;intro i;by_cases hi:i<32;simp[pc,hi,hl];simp[hi,hl]
theorem LV(l:List UInt8)(hl:l.length=32)(t:Nat)(ht:t<NN.Nm.ak)(g:Bool)(hg:(!decide (t<numOf l))=g)(w:World):ar 182 #[.agg (ae l),.agg (NN.aa t)] w (.bool g):=by rw[<-U1 l hl,<-hg];exact NN.meets (pc l) t (F5 l) ht w
def sr(lim:Int)(h:Hd):Bool:=NN.tok h.bits lim&&!decide (NN.tg h.bits lim<numOf h.id)
theorem L_(p:NN.Pr)(h:Hd)(ho:h.ok)(lim b:Int)(e0:Hid (p.lim=lim))(eb:Hid (h.bits=b))(t:Nat)(KT:Hid (dx 181 #[i_ b,i_ lim] (.tuple #[.agg (NN.aa t),.bool false])))(w:World)(hT:gj w):ar 155 #[.agg (NN.aV p),.agg (aS h)] w (.bool false):=by
 have za:=jI ho;go_enter Tryz.func155,Tryz.ntmps155;go_upto_region 1 with fail
 generalize hw0:World.alloc _ _=v0;have hB:Below w.heap.size w v0:=by rw[<-hw0];exact cu.alloc (by simp) _
 have hP:NN.aK v0 w.heap.size p:=by rw[<-hw0];exact(NN.Has.new _ _).alloc _
 have hH:aX v0 (w.heap.size+1) h:=by rw[<-hw0];exact uF w _ h
 clear hw0;have c0:=hP.c0 e0;have c1:v0.cell? ⟨w.heap.size+1,66,none⟩=some (i_ b):=by rw[<-eb.out];exact hH.bits ho
 go_wp2_with fail
 refine az (KT.out _) fun v1 hb1=>?_;replace hH:=hH.on hb1;replace hB:=ai hB hb1;clear hb1 c0 c1 hP;have hZ:=NN.Has.Vp (w:=v1) 26;go_upto_region 2 with(with_reducible refine NN.cB rfl _ _ rfl _ _ rfl rfl _ hZ rfl ?_)
 generalize hw2:World.setRow _ _ _=v2;have hb2:Below v1.heap.size v1 v2:=dZ hw2;have hN:NN.Has v2 v1.heap.size (NN.aa t) 26:=by rw[<-hw2];exact NN.Has.row hZ _
 replace hH:=hH.on hb2;replace hB:=ai hB hb2;clear hw2 hb2 hZ;generalize v1.heap.size=bN at hN|-;have Wu:=hT.below hB;have hTr:∀d os,gj (Sort.grow (redrawn v2 d) os):=fun d os=>Wu.below (below_regrown v2 d os)
 go_wp2_with fail
 refine wp_region_quiet_below (by kernel_rfl) (by kernel_rfl) ?_
 repeat(first
  | go_big_quiet_step (fail))
 refine wpQuiet_nil ?_;intro _ hw';obtain⟨q,hw''⟩:=hw';subst hw'';have hB2:=hB.trans ((below_regrown v2 q.d q.os).mono hB.size);go_wp2_with fail
 go_ret;exact⟨rfl,hB2⟩
theorem UR(p:NN.Pr)(h:Hd)(ho:h.ok)(lim b:Int)(e0:Hid (p.lim=lim))(eb:Hid (h.bits=b))(t:Nat)(KT:Hid (dx 181 #[i_ b,i_ lim] (.tuple #[.agg (NN.aa t),.bool true])))(id:List UInt8)(m:Bool)(KI:Hid (∀w,gj w->ar 119 #[.agg (aS h)] w (.agg (ae id))))(KM:Hid (dx 182 #[.agg (ae id),.agg (NN.aa t)] (.bool m)))(w:World)(hT:gj w):ar 155 #[.agg (NN.aV p),.agg (aS h)] w (.bool m):=by
 have za:=jI ho;go_enter Tryz.func155,Tryz.ntmps155;go_upto_region 1 with fail
 generalize hw0:World.alloc _ _=v0;have hB:Below w.heap.size w v0:=by rw[<-hw0];exact cu.alloc (by simp) _
 have hP:NN.aK v0 w.heap.size p:=by rw[<-hw0];exact(NN.Has.new _ _).alloc _
 have hH:aX v0 (w.heap.size+1) h:=by rw[<-hw0];exact uF w _ h
 clear hw0;have c0:=hP.c0 e0;have c1:v0.cell? ⟨w.heap.size+1,66,none⟩=some (i_ b):=by rw[<-eb.out];exact hH.bits ho
 go_wp2_with fail
 refine az (KT.out _) fun v1 hb1=>?_;replace hH:=hH.on hb1;replace hB:=ai hB hb1;clear hb1 c0 c1 hP;have hZ:=NN.Has.Vp (w:=v1) 26;go_upto_region 2 with(with_reducible refine NN.cB rfl _ _ rfl _ _ rfl rfl _ hZ rfl ?_)
 generalize hw2:World.setRow _ _ _=v2;have hb2:Below v1.heap.size v1 v2:=dZ hw2;have hN:NN.Has v2 v1.heap.size (NN.aa t) 26:=by rw[<-hw2];exact NN.Has.row hZ _
 replace hH:=hH.on hb2;replace hB:=ai hB hb2;clear hw2 hb2 hZ;generalize v1.heap.size=bN at hN|-;have Wu:=hT.below hB;have hTr:∀d os,gj (Sort.grow (redrawn v2 d) os):=fun d os=>Wu.below (below_regrown v2 d os)
 have q1:=jW hH.range (ou h);have s1:=gQ ho;go_wp2_with fail
 refine wp_region_quiet_below (by kernel_rfl) (by kernel_rfl) ?_
 repeat(first
  | (go_big_quiet_want;(with_reducible first|refine oS _ rfl (w.heap.size+1) 0 rfl h s1 q1 ?_|refine NN.s_ _ rfl _ rfl _ hN.cls ?_);(simp only[Act.put,da,aZ,bg]);go_big_quiet_on)
  | go_big_quiet_step (first|(go_at_call 119;exact Calls.regrown_of (KI.out _ (hTr _ _)))|(go_at_call 182;exact Calls.regrown_of (KM.out _))))
 refine wpQuiet_nil ?_;intro _ hw';obtain⟨q,hw''⟩:=hw';subst hw'';have hB2:=hB.trans ((below_regrown v2 q.d q.os).mono hB.size);go_wp2_with fail
 go_ret;exact⟨rfl,hB2⟩
theorem GW(p:NN.Pr)(h:Hd)(ho:h.ok)(g:Bool)(hg:sr p.lim h=g)(w:World)(hT:gj w):ar 155 #[.agg (NN.aV p),.agg (aS h)] w (.bool g):=by unfold sr at hg;have KT:=NN.pM h.bits p.lim;cases hk:NN.tok h.bits p.lim;rw[hk]at KT hg;rw[<-hg];exact L_ p h ho _ _ (h_ rfl) (h_ rfl) _ (h_ KT) w hT;rw[hk,dG]at hg;rw[hk]at KT;exact UR p h ho _ _ (h_ rfl) (h_ rfl) _ (h_ KT) h.id g (h_ (fun w hT=>qL h ho w hT)) (h_ (LV h.id (lJ h) _ (NN.o_ _ _) g hg)) w hT
end
namespace An
open Mem Sc
variable{α:Type}
theorem zV(f:α->List Value)(k:Nat)(L:List α)(h:∀x∈L,(f x).length=k):(L.flatMap f).length=L.length*k:=by
 induction L with
 | nil=>simp
 | cons x L ih=>
  rw[List.flatMap_cons,aT,ih (fun y hy=>h y (by simp[hy])),h x (by simp),fP,fN,Nat.one_mul];omega
theorem JB(f:α->List Value)(k:Nat)(L:List α)(h:∀x∈L,(f x).length=k)(i j:Nat)(x:α)(hi:L[i]?=some x)(hj:j<k):(L.flatMap f)[i*k+j]?=(f x)[j]?:=by
 induction L generalizing i with
 | nil=>simp at hi
 | cons y L ih=>
  have hl:=h y (by simp);rw[List.flatMap_cons];cases i with
  | zero=>
   obtain rfl:y=x:=by simpa using hi
   rw[dm (by omega)];simp
  | succ i=>
   rw[dE (by rw[hl,fN];omega),hl,show(i+1)*k+j-k=i*k+j by rw[fN];omega];exact ih (fun z hz=>h z (by simp[hz])) i (by simpa using hi)
theorem xV(f:α->List Value)(k:Nat)(L:List α)(h:∀x∈L,(f x).length=k){w:World}{base:Nat}{T:TypeId}{v:Value}{n:Nat}(ho:w.ownsRow base T k v n (L.flatMap f))(hn:n=L.length):∃a c,v=.slice a n c/\n<=c/\(0<n->∃g,a=some ⟨g,0,none⟩/\base<=g/\g<w.heap.size/\∀i x,L[i]?=some x->w.rangeAt g (i*k) (f x)):=by
 rcases ho.2 with⟨rfl,rfl⟩|⟨g,c,cur,rfl,h1,h2,h3,h4,h5,h6⟩
 exact⟨none,0,rfl,au _,fun h0=>absurd h0 (by omega)⟩
 ·refine⟨_,c,rfl,h3,fun _=>⟨g,rfl,h1,(dA.1 h2).1,fun i x hi j u hu=>?_⟩⟩
  have hj:j<k:=by
   have:=(bk.1 hu).1;rwa[h x (ee hi)]at this
  have hlt:=(bk.1 hi).1;rw[<-JB f k L h i j x hi hj,<-h6]at hu;have hH:Has w g cur T:=h2
  have hb:i*k+j<n*k:=by
   have:(i+1)*k<=n*k:=jN _ (by omega);rw[fN]at this;omega
  rw[hH.cell,<-hu,mQ hb,oW]
theorem E9(f:α->List Value)(k:Nat)(hk:0<k)(L:List α)(h:∀x∈L,(f x).length=k){w:World}{b o:Nat}(hr:∀i x,L[i]?=some x->w.rangeAt b (o+i*k) (f x))(j:Nat)(u:Value)(hj:(L.flatMap f)[j]?=some u):w.cell? ⟨b,o+j,none⟩=some u:=by
 have hl:=(bk.1 hj).1;rw[zV f k L h]at hl;have hd:j/k<L.length:=by rw[ie hk];exact hl
 have e:j/k*k+j%k=j:=by rw[gd];exact jv j k
 have hm:=bq j hk;have hx:L[j/k]?=some L[j/k]:=aQ hd;rw[<-e,JB f k L h (j/k) (j%k) _ hx hm]at hj;have:=hr _ _ hx (j%k) u hj;rwa[Nat.add_assoc,e]at this
theorem qE(f:α->List Value)(L:List α)(h:∀x∈L,∀v∈f x,v.oneCell'=true):∀v∈L.flatMap f,v.oneCell'=true:=fun v hv=>by
 obtain⟨x,hx,hv⟩:=List.mem_flatMap.1 hv;exact h x hx v hv
theorem vU{P:Program}{T:TypeId}{k b:Nat}(h1:(P.info? T).map (·.size)=some k)(h2:((P.info? T).bind (·.zero)).map (·.cells.size)=some k)(h3:(P.info? T).map (·.bytes)=some b):∃i z,P.info? T=some i/\i.zero=some z/\i.size=k/\i.bytes=b/\z.cells.size=k:=by
 cases hi:P.info? T with
 | none=>rw[hi]at h1;cases h1
 | some i=>
  rw[hi]at h1 h2 h3;simp only[gi,Option.some.injEq,oo]at h1 h2 h3;cases hz:i.zero with
  | none=>rw[hz]at h2;cases h2
  | some z=>
   rw[hz]at h2;simp only[gi,Option.some.injEq]at h2;exact⟨i,z,rfl,hz,h1,h3,h2⟩
theorem MO:∀x:Gt,∀v∈oB x,v.oneCell'=true:=fun x v hv=>by
 have h:=BX x;rw[kE]at h;exact h v (by unfold qQ;simpa using hv)
theorem Qo(w:World)(a:Option Addr)(n c n' c':Nat):(binOp .eql 22 (.slice a n c) (.slice none n' c')).run Tryz.prog w=.ok (.bool a.isNone) w:=Lib.run_eql_slice_nil w _ _ a n c n' c' Tryz.underlying22
theorem Qc(ad:Addr)(n c:Nat)(L:List Gt)(hn:n=L.length)(hl:n<=1000)(w:World)(hc:∀j u,(L.flatMap oB)[j]?=some u->w.cell? (ad.add j)=some u):aU 171 #[.slice (some ad) n c] w fun e w'=>∃v',e=.returned v'/\w'.ownsRow w.heap.size 108 2 v' n (L.flatMap oB)/\Bl w w':=by
 have q22:=Qo;have hlen:∀x∈L,(oB x).length=2:=fun _ _=>rfl
 obtain⟨i0,z0,hi,hz0,hz1,hz2,hz3⟩:=vU (P:=Tryz.prog) (T:=108) (k:=2) (b:=16) (by kernel_rfl) (by kernel_rfl) (by kernel_rfl);have A:=h_ hc;have HL:=h_ (zV oB 2 L hlen);have HO:=h_ (qE oB L (fun x _=>MO x));generalize L.flatMap oB=X at*;clear hc hlen;have HN:=h_ hn;clear hn;go_enter Tryz.func171,Tryz.ntmps171;go_wp2_with (at_builtin;refine wpList_append_own _ rfl _ _ 22 rfl w.heap.size 108 i0 z0 2 16 Tryz.underlying22 hi hz0 hz1 hz2 hz3 (by decide) _ 0 _ rfl (World.ownsRow_made w #[] 0 (au _) (bB _) rfl) ad n c X rfl ?qc1 ?qc2 ?qc3 ?qc4 ?qc5 ?qc6 ?_)
 case qc1=>rw[HL.out,HN.out]
 case qc2=>
  intro j u hj;exact Lib.cell?_alloc_some _ (A.out j u hj)
 case qc3=>exact HO.out
 case qc4=>unfold maxLen;omega
 case qc5=>omega
 case qc6=>simp
 intro v' w1 hown hgrow hnil;go_wp2
 go_ret;exact⟨v',rfl,by simpa using hown,((aA _ w).alloc (au _) _).grown hgrow (by simp) (by intro k hk;simp[Value.ownBlock]at hk;omega)⟩
theorem T8(n c:Nat)(w:World):aU 171 #[.slice none n c] w fun e w'=>e=.returned (.slice none 0 0)/\w'=w:=by
 have q22:=Qo;go_enter Tryz.func171,Tryz.ntmps171;go_wp2
 go_ret;exact⟨rfl,rfl⟩
theorem RK:∀x:Ck,∀v∈mI x,v.oneCell'=true:=fun x v hv=>by
 have h:=BI x;rw[kE]at h;exact h v (by unfold qM;simpa using hv)
theorem Ng(w:World)(a:Option Addr)(n c n' c':Nat):(binOp .eql 23 (.slice a n c) (.slice none n' c')).run Tryz.prog w=.ok (.bool a.isNone) w:=Lib.run_eql_slice_nil w _ _ a n c n' c' Tryz.underlying23
theorem Ky(ad:Addr)(n c:Nat)(L:List Ck)(h32:∀x∈L,x.id.length=32)(hn:n=L.length)(hl:n<=1000)(w:World)(hc:∀j u,(L.flatMap mI)[j]?=some u->w.cell? (ad.add j)=some u):aU 172 #[.slice (some ad) n c] w fun e w'=>∃v',e=.returned v'/\w'.ownsRow w.heap.size 110 33 v' n (L.flatMap mI)/\Bl w w':=by
 have q22:=Ng;have hlen:∀x∈L,(mI x).length=33:=fun x hx=>sF (h32 x hx)
 obtain⟨i0,z0,hi,hz0,hz1,hz2,hz3⟩:=vU (P:=Tryz.prog) (T:=110) (k:=33) (b:=40) (by kernel_rfl) (by kernel_rfl) (by kernel_rfl);have A:=h_ hc;have HL:=h_ (zV mI 33 L hlen);have HO:=h_ (qE mI L (fun x _=>RK x));generalize L.flatMap mI=X at*;clear hc hlen;have HN:=h_ hn;clear hn;go_enter Tryz.func172,Tryz.ntmps172;go_wp2_with (at_builtin;refine wpList_append_own _ rfl _ _ 23 rfl w.heap.size 110 i0 z0 33 40 Tryz.underlying23 hi hz0 hz1 hz2 hz3 (by decide) _ 0 _ rfl (World.ownsRow_made w #[] 0 (au _) (bB _) rfl) ad n c X rfl ?qc1 ?qc2 ?qc3 ?qc4 ?qc5 ?qc6 ?_)
 case qc1=>rw[HL.out,HN.out]
 case qc2=>
  intro j u hj;exact Lib.cell?_alloc_some _ (A.out j u hj)
 case qc3=>exact HO.out
 case qc4=>unfold maxLen;omega
 case qc5=>omega
 case qc6=>simp
 intro v' w1 hown hgrow hnil;go_wp2
 go_ret;exact⟨v',rfl,by simpa using hown,((aA _ w).alloc (au _) _).grown hgrow (by simp) (by intro k hk;simp[Value.ownBlock]at hk;omega)⟩
theorem To(n c:Nat)(w:World):aU 172 #[.slice none n c] w fun e w'=>e=.returned (.slice none 0 0)/\w'=w:=by
 have q22:=Ng;go_enter Tryz.func172,Tryz.ntmps172;go_wp2
 go_ret;exact⟨rfl,rfl⟩
