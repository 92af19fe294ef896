import Derived.Test.YtkbjaadjnbgfbaaGreatDoorCBunQ21
import Derived.Test.YtkbjaadjnbgfbaaGreatDoorCBunQ23
set_option maxRecDepth 100000
set_option maxHeartbeats 8000000
namespace Go.Proofs.YtkbjaadjnbgfbaaGreatDoor
open Go.RowKit
namespace NN
structure Pr where
 lim:Int
 Rj:Int
 Rx:Int
 Rp:Int
 Rt:Bool
 tl:List Value
def Pr.ok(p:Pr):Prop:=p.tl.length=78
def Pr.one(p:Pr):Prop:=∀v∈p.tl,v.oneCell'=true
def dK(p:Pr):List Value:=i_ p.lim::i_ p.Rj::i_ p.Rx::i_ p.Rp :: .bool p.Rt::p.tl
def aE(p:Pr):Array Value:=(dK p).toArray
variable{p:Pr}
theorem ef(h:p.ok):(aE p).size=83:=by show(dK p).toArray.size=83;rw[List.size_toArray];simp[dK,show p.tl.length=78 from h]
theorem vn(h:p.one):∀v∈dK p,v.oneCell'=true:=by
 intro v hv;simp only[dK,List.mem_cons]at hv;rcases hv with rfl|rfl|rfl|rfl|rfl|hv
 rfl;rfl;rfl;rfl;rfl;exact h v hv
theorem fh:(Tryz.prog.info? 32).map (·.size)=some 83:=by kernel_rfl
def aA(w:World)(k:Nat)(p:Pr):Prop:=Has w k (aE p) 32
variable{w w':World}{k:Nat}{p:Pr}
theorem aA.lt(h:aA w k p):k<w.heap.size:=Has.lt h
theorem aA.on(h:aA w k p)(hb:Bl w w'):aA w' k p:=Has.on h hb
theorem aA.c0(h:aA w k p){x:Int}(e:Hid (p.lim=x)):w.cell? ⟨k,0,none⟩=some (i_ x):=(Has.cell h 0).trans (by rw[<-e.out];simp[aE,dK])
theorem aA.c1(h:aA w k p){x:Int}(e:Hid (p.Rj=x)):w.cell? ⟨k,1,none⟩=some (i_ x):=(Has.cell h 1).trans (by rw[<-e.out];simp[aE,dK])
theorem aA.c2(h:aA w k p){x:Int}(e:Hid (p.Rx=x)):w.cell? ⟨k,2,none⟩=some (i_ x):=(Has.cell h 2).trans (by rw[<-e.out];simp[aE,dK])
theorem aA.c3(h:aA w k p){x:Int}(e:Hid (p.Rp=x)):w.cell? ⟨k,3,none⟩=some (i_ x):=(Has.cell h 3).trans (by rw[<-e.out];simp[aE,dK])
theorem aA.c4(h:aA w k p){x:Bool}(e:Hid (p.Rt=x)):w.cell? ⟨k,4,none⟩=some (.bool x):=(Has.cell h 4).trans (by rw[<-e.out];simp[aE,dK])
theorem aA.free(h:aA w k p)(j:Nat):w.frozen? ⟨k,j,none⟩=false:=Has.free h j
theorem lg(w:World)(p:Pr):aA (w.alloc (.cells (aE p) 32)) w.heap.size p:=Has.new _ _
theorem aA.cls(h:aA w k p):∀w',(∃r:Regrown,w'=Sort.grow (redrawn w r.d) r.os)->aA w' k p:=Has.cls h
section
variable{ops:Array Oper}{rest:List Oper}{o:Oper}{a:Act}{Q:Exit->Act->World->Prop}
theorem dA(hgd:o.guard=none)(x:Operand)(ho:o.op=.load 32 x)(g:Nat)(hx:a.eval x=ah g)(hg:aA w g p)(hs:(aE p).size=83)(hk:wpList Tryz.prog ops Q rest (a.put o.dst (.agg (aE p))) w):wpList Tryz.prog ops Q (o::rest) a w:=
 wpList_load_row hgd 32 x ho g hx 32 (aE p) (0,0) _ (Has.out hg) Tryz.underlying32 rfl (fh.trans (by rw[hs])) hk
theorem fL(hw:Region.wanted o (yielded ops a.tmps)=true)(x:Operand)(ho:o.op=.load 32 x)(g:Nat)(hx:a.eval x=ah g)(hg:aA w g p)(hs:(aE p).size=83)(hk:wpList Tryz.prog ops Q rest (a.put o.dst (.agg (aE p))) w):wpList Tryz.prog ops Q (o::rest) a w:=
 BigFrame.wpList_want hw fun _ hK=>wp_load_row 32 x ho g hx 32 (aE p) (0,0) _ (Has.out hg) Tryz.underlying32 rfl (fh.trans (by rw[hs])) (hK _ _ hk)
variable{ρ:Operand->Value}{x y:Operand}
theorem Cx{g:Nat}(ho:o.op=.load 32 x)(hx:ρ x=ah g)(hg:aA w g p)(hs:(aE p).size=83):(execOp ρ o).run Tryz.prog w=.ok (.value (.agg (aE p))) w:=by have hl:(loadVar 32 ⟨g,0,none⟩).run Tryz.prog w=.ok (.agg (aE p)) w:=run_loadVar_row w g 32 32 (aE p) (0,0) _ (Has.out hg) Tryz.underlying32 rfl (fh.trans (by rw[hs]));unfold execOp;simp only[ho,hx,Instr.loadAt,Instr.sureAddr,Sem.run_bind,Sem.run_pure,Result.andThen_ok,hl]
theorem Dz{C:World->Prop}{K:Act->Prop}(x:Operand)(ho:o.op=.load 32 x)(g:Nat)(hx:a.eval x=ah g)(hs:(aE p).size=83)(hC:∀w',C w'->aA w' g p)(hk:K (a.put o.dst (.agg (aE p)))):o.quiet Tryz.prog a C K:=
 ⟨_,fun w' hw'=>by
  unfold Oper.quietAt;rw[Cx ho hx (hC w' hw') hs];exact⟨rfl,rfl⟩,hk⟩
variable{z:Int}
theorem Gs{p:Addr}(hc:w.cell? p=some (i_ z)):(loadVar 3 p).run Tryz.prog w=.ok (i_ z) w:=by go_simp
theorem kU{p:Addr}(ho:o.op=.load 3 x)(hx:ρ x=.pointer (some p))(hc:w.cell? p=some (i_ z)):(execOp ρ o).run Tryz.prog w=.ok (.value (i_ z)) w:=by unfold execOp;simp only[ho,hx,Instr.loadAt,Instr.sureAddr,Sem.run_bind,Sem.run_pure,Result.andThen_ok,Gs hc]
theorem K7{a b:Int}(ho:o.op=.binOp .mul 24 x y 24)(hx:ρ x=ay a)(hy:ρ y=ay b)(m:Int)(hm:IntKind.u64.wrap (a*b)=m):(execOp ρ o).run Tryz.prog w=.ok (.value (ay m)) w:=by refine Rz.pB ho (by decide) (by decide) ?_;rw[hx,hy];subst hm;go_simp
theorem DD{a b:Nat}(ho:o.op=.binOp .quo 24 x y 24)(hx:ρ x=ay (a:Int))(hy:ρ y=ay (b:Int))(hb:(b:Int)≠0)(m:Int)(hm:IntKind.u64.wrap ((a:Int)/(b:Int))=m):(execOp ρ o).run Tryz.prog w=.ok (.value (ay m)) w:=by
 refine Rz.pB ho (by decide) (by decide) ?_;have hb':¬b=0:=by omega
 rw[hx,hy];go_simp
end
variable{P:Program}
theorem kQ(x y m:Int)(h:m=max x y)(ts:Array TypeId)(t:TypeId)(w:World):(Builtin.max_ ts t #[i_ x,i_ y]).run P w=.ok (i_ m) w:=by rw[run_max_int2,show(if y > x then y else x)=m by split<;>omega]
theorem gL(x y m:Int)(h:m=min x y)(ts:Array TypeId)(t:TypeId)(w:World):(Builtin.min_ ts t #[i_ x,i_ y]).run P w=.ok (i_ m) w:=by rw[run_min_int2,show(if y<x then y else x)=m by split<;>omega]
end NN
namespace NN
def Pr.bK(p:Pr):Bool:=tok p.lim p.lim&&decide (2<=p.Rj)&&decide (p.Rj<=64)&&decide (1<=p.Rx)&&decide (p.Rx<=10000)&&decide (0<=p.Rp)&&decide (p.Rp<4294967296)
theorem uZ(p:Pr)(z:Nat)(lim Rj Rx Rp:Int)(o g1 g2 g3 g4 g5 g6:Bool)(e0:Hid (p.lim=lim))(e1:Hid (p.Rj=Rj))(e2:Hid (p.Rx=Rx))(e3:Hid (p.Rp=Rp))(t1:decide ((2:Int)<=Rj)=g1)(t2:decide (Rj<=(64:Int))=g2)(t3:decide ((1:Int)<=Rx)=g3)(t4:decide (Rx<=(10000:Int))=g4)(t5:decide ((0:Int)<=Rp)=g5)(t6:decide (Rp<(4294967296:Int))=g6)(KT:Hid (bU 181 #[i_ lim,i_ lim] (.tuple #[.agg (aa z),.bool o])))(w:World):an 168 #[.agg (aE p)] w (.bool (o&&g1&&g2&&g3&&g4&&g5&&g6)):=by
 have hP:=lg w p;have bj:Below w.heap.size w (w.alloc (.cells (aE p) 32)):=aY;have c0:=hP.c0 e0;go_enter Tryz.func168,Tryz.ntmps168;go_upto_region 1 with fail
 generalize World.alloc _ _=v0 at*;generalize w.heap.size=X4 at hP c0|-;go_wp2_with fail
 refine au (KT.out _) fun v1 hb1=>?_;replace hP:=hP.on hb1;replace bj:=af bj hb1;clear c0 hb1;go_upto_region 2 with(with_reducible refine aZ rfl _ _ rfl _ _ rfl rfl _ (Has.Rb _) rfl ?_)
 generalize hw2:World.setRow _ _ _=v2;have hb2:Below v1.heap.size v1 v2:=cG hw2;replace hP:=hP.on hb2;replace bj:=af bj hb2;clear hw2 hb2;have c1:=hP.c1 e1;have c2:=hP.c2 e2;have c3:=hP.c3 e3;cases o
 case' true=>
  cases g1
  case' true=>
   cases g2
   case' true=>
    cases g3
    case' true=>
     cases g4
     case' true=>
      cases g5
      case' true=>
       cases g6
 all_goals
  go_wp2_with fail
  go_ret;exact⟨rfl,bj⟩
theorem EF(p:Pr)(w:World):an 168 #[.agg (aE p)] w (.bool p.bK):=
 uZ p _ _ _ _ _ _ _ _ _ _ _ _ (h_ rfl) (h_ rfl) (h_ rfl) (h_ rfl) rfl rfl rfl rfl rfl rfl (h_ fun w=>kO p.lim p.lim w) w
theorem B9(p:Pr)(z:Nat)(lim Rj Rx Rp:Int)(o g1 g2 g3 g4 g5 g6:Bool)(e0:Hid (p.lim=lim))(e1:Hid (p.Rj=Rj))(e2:Hid (p.Rx=Rx))(e3:Hid (p.Rp=Rp))(t1:decide ((2:Int)<=Rj)=g1)(t2:decide (Rj<=(64:Int))=g2)(t3:decide ((1:Int)<=Rx)=g3)(t4:decide (Rx<=(10000:Int))=g4)(t5:decide ((0:Int)<=Rp)=g5)(t6:decide (Rp<(4294967296:Int))=g6)(KT:Hid (bU 106 #[i_ lim,i_ lim] (.tuple #[.agg (aa z),.bool o])))(w:World):an 72 #[.agg (aE p)] w (.bool (o&&g1&&g2&&g3&&g4&&g5&&g6)):=by
 have hP:=lg w p;have bj:Below w.heap.size w (w.alloc (.cells (aE p) 32)):=aY;have c0:=hP.c0 e0;go_enter Tryz.func72,Tryz.ntmps72;go_upto_region 1 with fail
 generalize World.alloc _ _=v0 at*;generalize w.heap.size=X4 at hP c0|-;go_wp2_with fail
 refine au (KT.out _) fun v1 hb1=>?_;replace hP:=hP.on hb1;replace bj:=af bj hb1;clear c0 hb1;go_upto_region 2 with(with_reducible refine aZ rfl _ _ rfl _ _ rfl rfl _ (Has.Rb _) rfl ?_)
 generalize hw2:World.setRow _ _ _=v2;have hb2:Below v1.heap.size v1 v2:=cG hw2;replace hP:=hP.on hb2;replace bj:=af bj hb2;clear hw2 hb2;have c1:=hP.c1 e1;have c2:=hP.c2 e2;have c3:=hP.c3 e3;cases o
 case' true=>
  cases g1
  case' true=>
   cases g2
   case' true=>
    cases g3
    case' true=>
     cases g4
     case' true=>
      cases g5
      case' true=>
       cases g6
 all_goals
  go_wp2_with fail
  go_ret;exact⟨rfl,bj⟩
theorem lQ(p:Pr)(w:World):an 72 #[.agg (aE p)] w (.bool p.bK):=
 B9 p _ _ _ _ _ _ _ _ _ _ _ _ (h_ rfl) (h_ rfl) (h_ rfl) (h_ rfl) rfl rfl rfl rfl rfl rfl (h_ fun w=>sF p.lim p.lim w) w
open Rz
def iq(f:Nat->Nat):Array Value:=((List.range 10).map fun i=>Value.int .i64 ((f i:Nat):Int)).toArray
theorem Aj(f:Nat->Nat){j:Nat}(h:j<10):(iq f)[j]?=some (i_ ((f j:Nat):Int)):=by simp[iq,h]
theorem I0(f:Nat->Nat)(i x:Nat):(iq f).setIfInBounds i (i_ ((x:Nat):Int))=iq (fun j=>if j=i then x else f j):=by
 apply Array.ext_getElem?;intro j;rw[Array.getElem?_setIfInBounds];by_cases hj:j<10;rw[Aj _ hj];by_cases hij:i=j;subst hij;simp[iq,hj];rw[if_neg hij,Aj _ hj,if_neg (fun e=>hij e.symm)]
 ·have h1:∀g,(iq g)[j]?=none:=fun g=>by simp[iq];omega
  rw[h1,h1];by_cases hij:i=j;subst hij;simp[iq,hj];simp[hij]
theorem Dq(w:World):Has (w.alloc (.cells #[i_ 0,i_ 0,i_ 0,i_ 0,i_ 0,i_ 0,i_ 0,i_ 0,i_ 0,i_ 0] 227)) w.heap.size (iq fun _=>0) 227:=Has.new _ _
variable{w wr:World}{f g:Nat->Nat}
theorem Has.ten{b:Nat}(h:Has w b (iq f) 227){j:Nat}(hj:j<10):w.cell? ⟨b,j,none⟩=some (i_ ((f j:Nat):Int)):=(Has.cell h j).trans (Aj f hj)
structure Hr (w wr:World) (bN bR bD n:Nat) (f:Nat->Nat):Prop where
 be:Bl w wr
 n:Has wr bN (aa n) 26
 r:Has wr bR (aa 0) 26
 d:Has wr bD (iq f) 227
variable{bR bD n bQ bO:Nat}
theorem Hr.put{bN:Nat}(h:Hr w wr bN bR bD n f)(i x:Nat)(h1:bN≠bD)(h2:bR≠bD)(h3:w.heap.size<=bD):Hr w (wr.setCell ⟨bD,i,none⟩ (i_ ((x:Nat):Int))) bN bR bD n (fun j=>if j=i then x else f j):=⟨h.be.setCell h3 _,Has.other h.n _ _ h1,Has.other h.r _ _ h2,by have:=Has.set (i:=i) h.d (i_ ((x:Nat):Int));rwa[I0]at this⟩
structure Ii (w wr:World) (bR bD bQ:Nat) (f g:Nat->Nat):Prop where
 be:Bl w wr
 r:Has wr bR (aa 0) 26
 d:Has wr bD (iq f) 227
 q:Has wr bQ (iq g) 227
theorem Ii.put(h:Ii w wr bR bD bQ f g)(i x:Nat)(h1:bR≠bQ)(h2:bD≠bQ)(h3:w.heap.size<=bQ):Ii w (wr.setCell ⟨bQ,i,none⟩ (i_ ((x:Nat):Int))) bR bD bQ f (fun j=>if j=i then x else g j):=⟨h.be.setCell h3 _,Has.other h.r _ _ h1,Has.other h.d _ _ h2,by have:=Has.set (i:=i) h.q (i_ ((x:Nat):Int));rwa[I0]at this⟩
structure yI (w wr:World) (bR bQ bO:Nat) (g:Nat->Nat) (z:Nat):Prop where
 be:Bl w wr
 r:Has wr bR (aa 0) 26
 q:Has wr bQ (iq g) 227
 o:Has wr bO (aa z) 26
theorem yI.drew{z:Nat}(h:yI w wr bR bQ bO g z):yI w wr.drew bR bQ bO g z:=⟨h.be.drew,h.r,h.q,h.o⟩
theorem Em(y z m v:Nat)(hm:m<4)(hv:v=Nm.wd z m)(ho:∀j,j<4->j≠m->Nm.wd z j=Nm.wd y j):(aa y).setIfInBounds m (ay ((v:Nat):Int))=aa z:=by unfold aa;rw[nc _ _ _ hm];apply oM;intro j hj;unfold b_;by_cases e:j=m;rw[if_pos e,hv,e];rw[if_neg e,ho j hj e]
theorem yI.put{y:Nat}(h:yI w wr bR bQ bO g y)(z m v:Nat)(hm:m<4)(hv:v=Nm.wd z m)(ho:∀j,j<4->j≠m->Nm.wd z j=Nm.wd y j)(h1:bR≠bO)(h2:bQ≠bO)(h3:w.heap.size<=bO):yI w (wr.setCell ⟨bO,m,none⟩ (ay ((v:Nat):Int))) bR bQ bO g z:=⟨h.be.setCell h3 _,Has.other h.r _ _ h1,Has.other h.q _ _ h2,by have:=Has.set (i:=m) h.o (ay ((v:Nat):Int));rwa[Em y z m v hm hv ho]at this⟩
theorem iL(l:Array Bool)(i j:Nat)(hi:i<l.size)(h:i≠j):(l.setIfInBounds i true).getD j false=l.getD j false:=by rw[gi _ _ _ hi,if_neg h]
theorem zN(l:Array Bool)(i:Nat)(hi:i<l.size):(l.setIfInBounds i true).getD i false=true:=by rw[gi _ _ _ hi,if_pos rfl]
def Mb(bQ z y8 y9:Nat)(b8 b9:Bool):Nat->Value->Prop
 | 0,v=>v=.agg (aa z)
 | 1,v=>v=.pointer (some ⟨bQ,8,none⟩)
 | 2,v=>v=i_ y8
 | 3,v=>v=.bool b8
 | 4,v=>v=.bool b8
 | 5,v=>b8=true->v=.pointer (some ⟨bQ,9,none⟩)
 | 6,v=>b8=true->v=i_ y9
 | 7,v=>b8=true->v=.bool b9
 | 8,v=>v=.bool (b8&&b9)
 | 10,v=>v=.bool (b8&&b9)
 | _,_=>True
variable{ρ:Operand->Value}{o:Oper}{x y:Operand}
theorem DL{g:Nat}(k:Nat)(ho:o.op=.indexAddr 227 x y)(hx:ρ x=ah g)(hy:ρ y=i_ k)(hk:k<10):(execOp ρ o).run Tryz.prog w=.ok (.value (.pointer (some ⟨g,k,none⟩))) w:=by
 unfold execOp;simp only[ho,hx,hy];obtain rfl|rfl|rfl|rfl|rfl|rfl|rfl|rfl|rfl|rfl:k=0\/k=1\/k=2\/k=3\/k=4\/k=5\/k=6\/k=7\/k=8\/k=9:=by omega
 all_goals kernel_rfl
theorem pR{z:Int}(ho:o.op=.binOp .eql 3 x y 3)(hx:ρ x=i_ z)(hy:ρ y=i_ 0):(execOp ρ o).run Tryz.prog w=.ok (.value (.bool (z==0))) w:=by unfold execOp;simp only[ho,hx,hy];kernel_rfl
theorem AZ{ops:Array Oper}{a:Act}{Q:Exit->Act->World->Prop}{C:World->Prop}{S:World->World->Prop}{R:Value->World->Prop}{J:Act->World->Prop}{j:Nat}{c:Bool}(hg:o.guard=some (j,true))(hy:yielded ops a.tmps j=some c)(ht:c=true->Region.wanted o (yielded ops a.tmps)=true->if Region.wanted o (yielded ops a.tmps)=true then o.wp Tryz.prog a w (fun a' w'=>C w'/\S w w'/\∃v,a'=a.put o.dst v/\R v w'/\J a' w') Q else R undef w/\J (a.put o.dst undef) w)(hf:c=false->R undef w/\J (a.put o.dst undef) w):if Region.wanted o (yielded ops a.tmps)=true then o.wp Tryz.prog a w (fun a' w'=>C w'/\S w w'/\∃v,a'=a.put o.dst v/\R v w'/\J a' w') Q else R undef w/\J (a.put o.dst undef) w:=by
 cases c
 ·have hw:Region.wanted o (yielded ops a.tmps)=false:=by
   unfold Region.wanted;rw[hg];simp[hy]
  rw[if_neg (by rw[hw];decide)];exact hf rfl
 exact ht rfl (Ln hg hy)
theorem uM{k:Nat}(hn:n<Nm.ai)(hk:8<=k):Nm.hw n k=0:=by
 unfold Nm.hw
 have h:Nm.ai<=4294967296^k:=by
  rw[Nm.bJ,show(2:Nat)^256=4294967296^8 by decide];exact Nat.pow_le_pow_right (by decide) hk
 rw[Nat.div_eq_of_lt (by omega)]
theorem wD(n a o:Nat)(hn:n<Nm.ai)(ha:a<=4194304)(ho:0<o)(ho2:o<=4194304)(w:World):an 192 #[.agg (aa n),i_ a,i_ o] w (.tuple #[.agg (aa (n*a/o%Nm.ai)),.bool (decide (n*a/o<Nm.ai))]):=by
 obtain⟨M,hM⟩:∃M,M=n*a:=⟨_,rfl⟩;have HM:=h_ hM;have ZG:=h_ hn;rw[<-hM];clear hM hn;go_enter Tryz.func192,Tryz.ntmps192;go_upto_region 2 with fail
 generalize hw0:World.alloc _ _=v0
 have hs:Hr w v0 w.heap.size (w.heap.size+1) (w.heap.size+1+1) n (fun _=>0):=by
  rw[<-hw0];exact⟨(aY.alloc (by simp) _).alloc (by simp;omega) _,((Has.new _ _).alloc _).alloc _,(Has.Rg _ _ _).alloc _,Has.RI _ _ _ _⟩
 clear hw0;obtain⟨bN,hbN⟩:∃b,b=w.heap.size:=⟨_,rfl⟩;obtain⟨bR,hbR⟩:∃b,b=w.heap.size+1:=⟨_,rfl⟩;obtain⟨bD,hbD⟩:∃b,b=w.heap.size+1+1:=⟨_,rfl⟩;rw[<-hbD,<-hbR,<-hbN]at hs|-;have n1:bN≠bD:=by omega
 have n2:bR≠bD:=by omega
 have n3:bN≠bR:=by omega
 have HD:Hid (w.heap.size<=bD):=h_ (by omega);have HR:Hid (w.heap.size<=bR):=h_ (by omega);clear hbN hbR hbD;go_wp2_with fail
 go_loopw [9,10] (fun c i wr=>∃k:Nat,k<=10/\i=i_ k/\∃c0:Nat,c=i_ c0/\Hid (c0=Nm.hc n a k)/\∃f:Nat->Nat,Hid (∀j,j<10->f j=if j<k then Nm.hw M j else 0)/\Hr w wr bN bR bD n f) (fun _ i _=>10-(intOf i).toNat)
 case atStart=>exact⟨0,by omega,rfl,0,rfl,h_ (Nm.wQ n a).symm,_,h_ (fun j _=>(if_neg (by omega)).symm),hs⟩
 case round=>
  clear hs;obtain⟨k,hk,rfl,c0,rfl,HC,f,HF,hs⟩:=hrel;by_cases hlt:k<10
  ·by_cases h8:k<8
   ·obtain⟨m,hm⟩:∃m,m=k/2:=⟨_,rfl⟩;have f1:(k:Int).tdiv 2=(m:Int):=(by rw[Int.tdiv_eq_ediv_of_nonneg (by omega)];omega);have f2:(k:Int)/2=(m:Int):=(by omega);have UA:m<4:=(by omega);have cN:=hs.n.num (j:=m) UA;obtain⟨x,hx⟩:∃x,x=Nm.wd n m:=⟨_,rfl⟩;rw[<-hx]at cN;have hxl:x<18446744073709551616:=(by rw[hx];exact Nm.dj _ _);rcases(by omega:k%2=0\/k%2=1)with hr|hr
    ·have f3:(k:Int).tmod 2=0:=(by rw[Int.tmod_eq_emod_of_nonneg (by omega)];omega);have f4:(k:Int)%2=0:=(by omega);obtain⟨y,hy⟩:∃y,y=Nm.hw n k:=⟨_,rfl⟩
     have g1:(x:Int)%4294967296=(y:Int):=by
      have:=Nm.tu n m;rw[<-hx,show 2*m=k by omega,<-hy]at this;omega
     clear hx hm hr hxl;have hyl:y<4294967296:=(by rw[hy];exact Nm.ji _ _);have hcl:c0<=a:=(by rw[HC.out];exact Nm.pQ _ _ _);have hpl:y*a<=4294967295*4194304:=Nat.mul_le_mul (by omega) ha;obtain⟨q,hq⟩:∃q,q=y*a:=⟨_,rfl⟩;rw[<-hq]at hpl
     have w1:IntKind.i64.wrap ((y:Int)*(a:Int))=(q:Int):=by
      have e:(y:Int)*(a:Int)=(q:Int):=(by rw[hq,Int.natCast_mul]);rw[e,IntKind.wrap_i64];omega
     obtain⟨v,hv⟩:∃v,v=q+c0:=⟨_,rfl⟩;have w2:IntKind.i64.wrap ((q:Int)+(c0:Int))=(v:Int):=(by rw[IntKind.wrap_i64];omega);obtain⟨d,hd⟩:∃d,d=v%4294967296:=⟨_,rfl⟩;obtain⟨c1,hc1⟩:∃c1,c1=v/4294967296:=⟨_,rfl⟩;have e1:(v:Int).tmod 4294967296=(d:Int):=(by rw[Int.tmod_eq_emod_of_nonneg (by omega)];omega);have e2:(v:Int)%4294967296=(d:Int):=(by omega);have e3:(v:Int).tdiv 4294967296=(c1:Int):=(by rw[Int.tdiv_eq_ediv_of_nonneg (by omega)];omega);have e4:(v:Int)/4294967296=(c1:Int):=(by omega);have e5:wrap64 (c1:Int)=(c1:Int):=(by unfold wrap64;omega);have hv2:v=Nm.hw n k*a+Nm.hc n a k:=(by rw[hv,hq,hy,HC.out]);have HD1:Hid (d=Nm.hw M k):=h_ (by rw[hd,hv2,Nm.Bv,HM.out]);have Uf:Hid (c1=Nm.hc n a (k+1)):=h_ (by rw[hc1,hv2,Nm.zO]);have cD:=hs.d.ten hlt;have fD:=Has.free hs.d k;have hs2:=hs.put k d n1 n2 HD.out
     have S6:Hid (∀j,j<10->(if j=k then d else f j)=if j<k+1 then Nm.hw M j else 0):=h_ (fun j hj=>by
      by_cases e:j=k;rw[if_pos e,if_pos (by omega),HD1.out,e];rw[if_neg e,HF.out j hj];by_cases e2:j<k;rw[if_pos e2,if_pos (by omega)];rw[if_neg e2,if_neg (by omega)])
     clear hy hq hv hyl hpl hd hc1 hcl HC HF HD1 hv2;(go_wp2_with fail);go_roundw
     case rel=>exact⟨k+1,by omega,by go_num,c1,by first|rfl|rw[e5],Uf,_,S6,hs2⟩
     case measure=>simp[intOf];omega
    ·have f3:(k:Int).tmod 2=1:=(by rw[Int.tmod_eq_emod_of_nonneg (by omega)];omega);have f4:(k:Int)%2=1:=(by omega);obtain⟨y,hy⟩:∃y,y=Nm.hw n k:=⟨_,rfl⟩;obtain⟨z,hz⟩:∃z,z=x/4294967296:=⟨_,rfl⟩;have g0:(x:Int)/4294967296=(z:Int):=by omega
     have g1:(z:Int)%4294967296=(y:Int):=by
      have:=Nm.Jn n m;rw[<-hx,<-hz,show 2*m+1=k by omega,<-hy]at this;omega
     clear hx hm hr hxl hz;have hyl:y<4294967296:=(by rw[hy];exact Nm.ji _ _);have hcl:c0<=a:=(by rw[HC.out];exact Nm.pQ _ _ _);have hpl:y*a<=4294967295*4194304:=Nat.mul_le_mul (by omega) ha;obtain⟨q,hq⟩:∃q,q=y*a:=⟨_,rfl⟩;rw[<-hq]at hpl
     have w1:IntKind.i64.wrap ((y:Int)*(a:Int))=(q:Int):=by
      have e:(y:Int)*(a:Int)=(q:Int):=(by rw[hq,Int.natCast_mul]);rw[e,IntKind.wrap_i64];omega
     obtain⟨v,hv⟩:∃v,v=q+c0:=⟨_,rfl⟩;have w2:IntKind.i64.wrap ((q:Int)+(c0:Int))=(v:Int):=(by rw[IntKind.wrap_i64];omega);obtain⟨d,hd⟩:∃d,d=v%4294967296:=⟨_,rfl⟩;obtain⟨c1,hc1⟩:∃c1,c1=v/4294967296:=⟨_,rfl⟩;have e1:(v:Int).tmod 4294967296=(d:Int):=(by rw[Int.tmod_eq_emod_of_nonneg (by omega)];omega);have e2:(v:Int)%4294967296=(d:Int):=(by omega);have e3:(v:Int).tdiv 4294967296=(c1:Int):=(by rw[Int.tdiv_eq_ediv_of_nonneg (by omega)];omega);have e4:(v:Int)/4294967296=(c1:Int):=(by omega);have e5:wrap64 (c1:Int)=(c1:Int):=(by unfold wrap64;omega);have hv2:v=Nm.hw n k*a+Nm.hc n a k:=(by rw[hv,hq,hy,HC.out]);have HD1:Hid (d=Nm.hw M k):=h_ (by rw[hd,hv2,Nm.Bv,HM.out]);have Uf:Hid (c1=Nm.hc n a (k+1)):=h_ (by rw[hc1,hv2,Nm.zO]);have cD:=hs.d.ten hlt;have fD:=Has.free hs.d k;have hs2:=hs.put k d n1 n2 HD.out
     have S6:Hid (∀j,j<10->(if j=k then d else f j)=if j<k+1 then Nm.hw M j else 0):=h_ (fun j hj=>by
      by_cases e:j=k;rw[if_pos e,if_pos (by omega),HD1.out,e];rw[if_neg e,HF.out j hj];by_cases e2:j<k;rw[if_pos e2,if_pos (by omega)];rw[if_neg e2,if_neg (by omega)])
     clear hy hq hv hyl hpl hd hc1 hcl HC HF HD1 hv2;(go_wp2_with fail);go_roundw
     case rel=>exact⟨k+1,by omega,by go_num,c1,by first|rfl|rw[e5],Uf,_,S6,hs2⟩
     case measure=>simp[intOf];omega
   ·have d8:decide ((k:Int)<8)=false:=decide_eq_false (by omega);have hcl:c0<=a:=(by rw[HC.out];exact Nm.pQ _ _ _);obtain⟨v,hv⟩:∃v,v=c0:=⟨_,rfl⟩;have w2:IntKind.i64.wrap (c0:Int)=(v:Int):=(by rw[IntKind.wrap_i64];omega);rw[<-hv]at hcl;obtain⟨d,hd⟩:∃d,d=v%4294967296:=⟨_,rfl⟩;obtain⟨c1,hc1⟩:∃c1,c1=v/4294967296:=⟨_,rfl⟩;have e1:(v:Int).tmod 4294967296=(d:Int):=(by rw[Int.tmod_eq_emod_of_nonneg (by omega)];omega);have e2:(v:Int)%4294967296=(d:Int):=(by omega);have e3:(v:Int).tdiv 4294967296=(c1:Int):=(by rw[Int.tdiv_eq_ediv_of_nonneg (by omega)];omega);have e4:(v:Int)/4294967296=(c1:Int):=(by omega);have e5:wrap64 (c1:Int)=(c1:Int):=(by unfold wrap64;omega);have hv2:v=Nm.hw n k*a+Nm.hc n a k:=(by rw[hv,uM ZG.out (by omega:8<=k),Nat.zero_mul,Nat.zero_add,HC.out]);have HD1:Hid (d=Nm.hw M k):=h_ (by rw[hd,hv2,Nm.Bv,HM.out]);have Uf:Hid (c1=Nm.hc n a (k+1)):=h_ (by rw[hc1,hv2,Nm.zO]);have cD:=hs.d.ten hlt;have fD:=Has.free hs.d k;have hs2:=hs.put k d n1 n2 HD.out
    have S6:Hid (∀j,j<10->(if j=k then d else f j)=if j<k+1 then Nm.hw M j else 0):=h_ (fun j hj=>by
     by_cases e:j=k;rw[if_pos e,if_pos (by omega),HD1.out,e];rw[if_neg e,HF.out j hj];by_cases e2:j<k;rw[if_pos e2,if_pos (by omega)];rw[if_neg e2,if_neg (by omega)])
    subst hv;clear hd hc1 hcl HC HF HD1 hv2;(go_wp2_with fail);go_roundw
    case rel=>exact⟨k+1,by omega,by go_num,c1,by first|rfl|rw[e5],Uf,_,S6,hs2⟩
    case measure=>simp[intOf];omega
  ·obtain rfl:k=10:=by omega
   have S6:Hid (∀j,j<10->f j=Nm.hw M j):=h_ (fun j hj=>by rw[HF.out j hj,if_pos hj]);have hdl:=hs.d.lt;have hrl:=hs.r.lt;clear hlt hk HC HF;go_upto_region 14 with fail
   generalize hw1:World.alloc _ _=v1
   have ht:Ii w v1 bR bD wr.heap.size f (fun _=>0):=by
    rw[<-hw1];exact⟨hs.be.alloc hs.be.size _,hs.r.alloc _,hs.d.alloc _,Dq wr⟩
   clear hw1;obtain⟨bQ,X5⟩:∃b,b=wr.heap.size:=⟨_,rfl⟩;have HQ:Hid (w.heap.size<=bQ):=h_ (by rw[X5];exact hs.be.size);rw[<-X5]at ht|-;have m1:bR≠bQ:=by omega
   have m2:bD≠bQ:=by omega
   clear X5 hdl hrl hs n1 n2 n3
   have We:Hid (M<4294967296^10):=h_ (by
    have h1:M<=n*4194304:=(by rw[HM.out];exact Nat.mul_le_mul_left _ ha);have h2:=ZG.out;have h3:Nm.ai*4194304<4294967296^10:=(by decide);have h4:n*4194304<Nm.ai*4194304:=Nat.mul_lt_mul_of_pos_right h2 (by decide);omega)
   go_wp2_with fail
   go_loopw [13,15] (fun t i wr=>∃j:Nat,j<=10/\∃e:Int,i=i_ e/\Hid (e=(j:Int)-1)/\∃r0:Nat,t=i_ r0/\Hid (r0=Nm.hr M o j)/\∃g:Nat->Nat,Hid (∀l,l<10->g l=if j<=l then Nm.hw (M/o) l else 0)/\Ii w wr bR bD bQ f g) (fun _ i _=>(intOf i+1).toNat)
   case atStart=>exact⟨10,by omega,9,rfl,h_ (by omega),0,rfl,h_ (by unfold Nm.hr;rw[Nat.div_eq_of_lt We.out,Nat.zero_mod]),_,h_ (fun l hl=>(if_neg (by omega)).symm),ht⟩
   case round=>
    clear ht;obtain⟨j,hj,e,rfl,HE,r0,rfl,Xn,g,HG,ht⟩:=hrel;by_cases h0:0<j
    ·obtain⟨k,hk⟩:∃k,k=j-1:=⟨_,rfl⟩;obtain rfl:e=(k:Int):=(by rw[HE.out];omega);have hk10:k<10:=(by omega);have hjk:j=k+1:=(by omega);have cd:=ht.d.ten hk10;rw[S6.out k hk10]at cd;have hq:=Nm.xi M k o ho;obtain⟨y,hy⟩:∃y,y=Nm.hw M k:=⟨_,rfl⟩;have hyl:y<4294967296:=(by rw[hy];exact Nm.ji _ _);have hrl:r0<o:=(by rw[Xn.out];exact Nm.Iw _ _ ho);rw[<-hy]at cd hq;rw[<-hjk,<-Xn.out]at hq;obtain⟨u,hu⟩:∃u,u=r0*4294967296:=⟨_,rfl⟩;have w1:IntKind.i64.wrap ((r0:Int)*4294967296)=(u:Int):=(by rw[IntKind.wrap_i64];omega);obtain⟨v,hv⟩:∃v,v=u+y:=⟨_,rfl⟩;have w2:IntKind.i64.wrap ((u:Int)+(y:Int))=(v:Int):=(by rw[IntKind.wrap_i64];omega);rw[<-hu,<-hv]at hq;obtain⟨z,hz⟩:∃z,z=v/o:=⟨_,rfl⟩;obtain⟨r1,hr1⟩:∃r1,r1=v%o:=⟨_,rfl⟩;have qV:v<=4194304*4294967296:=(by omega);have hzl:z<=v:=(by rw[hz];exact Nat.div_le_self _ _);have e1:(v:Int).tdiv (o:Int)=(z:Int):=(by rw[hz,Int.tdiv_eq_ediv_of_nonneg (by omega)];exact(Int.natCast_ediv v o).symm);have e2:(v:Int)/(o:Int)=(z:Int):=(by rw[hz];exact(Int.natCast_ediv v o).symm);have e3:(v:Int).tmod (o:Int)=(r1:Int):=(by rw[hr1,Int.tmod_eq_emod_of_nonneg (by omega)];exact(Int.natCast_emod v o).symm);have e4:(v:Int)%(o:Int)=(r1:Int):=(by rw[hr1];exact(Int.natCast_emod v o).symm);have X6:r1<o:=(by rw[hr1];exact Nat.mod_lt _ ho);have e5:wrap64 (z:Int)=(z:Int):=(by unfold wrap64;omega);have e6:wrap64 (r1:Int)=(r1:Int):=(by unfold wrap64;omega);have HZ:Hid (z=Nm.hw (M/o) k):=h_ (by rw[hz];exact hq.1);have HR1:Hid (r1=Nm.hr M o k):=h_ (by rw[hr1];exact hq.2);have o0:¬(o:Int)=0:=(by omega);have o1:((o:Int)==0)=false:=(by simp;omega);have cq:=ht.q.ten hk10;have fq:=Has.free ht.q k;have ht2:=ht.put k z m1 m2 HQ.out
     have HG2:Hid (∀l,l<10->(if l=k then z else g l)=if k<=l then Nm.hw (M/o) l else 0):=h_ (fun l hl=>by
      by_cases el:l=k;rw[if_pos el,if_pos (by omega),HZ.out,el];rw[if_neg el,HG.out l hl];by_cases e2:j<=l;rw[if_pos e2,if_pos (by omega)];rw[if_neg e2,if_neg (by omega)])
     have wk:IntKind.i64.wrap ((k:Int)-1)=(k:Int)-1:=(by rw[IntKind.wrap_i64];omega);obtain⟨ke,hke⟩:∃ke:Int,ke=(k:Int)-1:=⟨_,rfl⟩;rw[<-hke]at wk;have HKE:=h_ hke;have Wg:k<=10:=(by omega);clear hq hy hu hv hz hr1 qV hzl hyl hrl Xn HG HZ HE hke hk hjk X6 h0 hj;(go_wp2_with fail);go_roundw
     case rel=>exact⟨k,by omega,_,rfl,h_ rfl,r1,rfl,HR1,_,HG2,ht2⟩
     case measure=>first|(simp[intOf];done)|(simp[intOf];omega)
    ·obtain rfl:j=0:=(by omega);obtain rfl:e = -1:=(by rw[HE.out];rfl);have HG2:Hid (∀l,l<10->g l=Nm.hw (M/o) l):=h_ (fun l hl=>by rw[HG.out l hl,if_pos (Nat.zero_le _)]);have hql:=ht.q.lt;have hrl:=ht.r.lt;obtain⟨Q,hQ⟩:∃Q,Q=M/o:=⟨_,rfl⟩;rw[<-hQ]at HG2;have HQQ:=h_ hQ;have X7:Hid (Q<4294967296^10):=h_ (by rw[hQ];exact Nat.lt_of_le_of_lt (Nat.div_le_self _ _) We.out);clear HG HE Xn h0 hj hQ;have hnw:=Has.Rb (w:=wr) 26;(go_upto_region 21 with(with_reducible refine lX rfl _ _ rfl _ 0 _ rfl rfl fF _ hnw rfl ?_));generalize hw2:World.setRow _ _ _=v2;have hb2:Bl wr v2:=cG hw2
     have hO:yI w v2 bR bQ wr.heap.size g 0:=by
      refine⟨af ht.be hb2,Has.on ht.r hb2,Has.on ht.q hb2,?_⟩;rw[<-hw2];exact Has.row hnw _
     obtain⟨bO,VD⟩:∃b,b=wr.heap.size:=⟨_,rfl⟩;have HO:Hid (w.heap.size<=bO):=h_ (by rw[VD];exact ht.be.size);rw[<-VD]at hO|-;have k1:bR≠bO:=(by omega);have k2:bQ≠bO:=(by omega);have m1q:=m1;clear hw2 hb2 VD hnw ht hql hrl m1 m2;(go_wp2_with fail);go_loopw [18] (fun i wr=>∃k:Nat,k<=8/\i=i_ k/\∃z:Nat,Hid (z=Q%4294967296^k)/\yI w wr bR bQ bO g z) (fun i _=>8-(intOf i).toNat)
     case atStart=>exact⟨0,by omega,rfl,0,h_ (by rw[Nat.pow_zero,Nat.mod_one]),hO⟩
     case round=>
      clear hO;obtain⟨k,hk,rfl,z,HZ,hO⟩:=hrel;by_cases hlt:k<8
      ·obtain⟨m,hm⟩:∃m,m=k/2:=⟨_,rfl⟩;have f1:(k:Int).tdiv 2=(m:Int):=(by rw[Int.tdiv_eq_ediv_of_nonneg (by omega)];omega);have f2:(k:Int)/2=(m:Int):=(by omega);have UA:m<4:=(by omega);have hk10:k<10:=(by omega);have co:=hO.o.num (j:=m) UA;have fo:=Has.free hO.o m;have cq:=hO.q.ten hk10;rw[HG2.out k hk10]at cq;obtain⟨y,hy⟩:∃y,y=Nm.hw Q k:=⟨_,rfl⟩;obtain⟨x,hx⟩:∃x,x=Nm.wd z m:=⟨_,rfl⟩;rw[<-hy]at cq;rw[<-hx]at co;have hyl:y<4294967296:=(by rw[hy];exact Nm.ji _ _);have w0:IntKind.u64.wrap (y:Int)=(y:Int):=(by rw[IntKind.wrap_u64];omega);have Xo:Hid (∀j,j<4->j≠m->Nm.wd (Q%4294967296^(k+1)) j=Nm.wd z j):=h_ (fun j _ hjm=>by rw[HZ.out];exact Nm.uf Q k j (by omega));rcases(by omega:k%2=0\/k%2=1)with hr|hr
       ·have f3:(k:Int).tmod 2=0:=(by rw[Int.tmod_eq_emod_of_nonneg (by omega)];omega);have f4:(k:Int)%2=0:=(by omega);have hx0:x=0:=(by rw[hx,HZ.out,show k=2*m by omega];exact(Nm.qU Q m).1);have HV:Hid (y=Nm.wd (Q%4294967296^(k+1)) m):=h_ (by rw[hy,show k=2*m by omega];exact(Nm.qU Q m).2.symm);have hp:=hO.put _ m y UA HV.out Xo.out k1 k2 HO.out;subst hx0;clear hx hy hm hr HZ Xo HV hyl;(go_wp2_with fail);go_region
        (go_wp2_with fail);go_roundw
        case rel=>exact⟨k+1,by omega,by go_num,_,h_ rfl,hp.drew⟩
        case measure=>simp[intOf];omega
       ·have f3:(k:Int).tmod 2=1:=(by rw[Int.tmod_eq_emod_of_nonneg (by omega)];omega);have f4:(k:Int)%2=1:=(by omega);have hxe:x=Nm.hw Q (2*m):=(by rw[hx,HZ.out,show k=2*m+1 by omega];exact(Nm.qU Q m).2);have hxl:x<4294967296:=(by rw[hxe];exact Nm.ji _ _);obtain⟨s,hs⟩:∃s,s=y*4294967296:=⟨_,rfl⟩;obtain⟨v,hv⟩:∃v,v=x+s:=⟨_,rfl⟩;have w1:IntKind.u64.wrap ((y:Int)*4294967296)=(s:Int):=(by rw[IntKind.wrap_u64];omega);have w2:IntKind.u64.wrap ((x:Int)+(s:Int))=(v:Int):=(by rw[IntKind.wrap_u64];omega);have HV:Hid (v=Nm.wd (Q%4294967296^(k+1)) m):=h_ (by rw[hv,hs,hxe,hy,show k=2*m+1 by omega];exact(Nm.CY Q m).symm);have hp:=hO.put _ m v UA HV.out Xo.out k1 k2 HO.out;clear hx hy hm hr HZ Xo HV hyl hxe hxl hs hv;(go_wp2_with fail);go_region
        (go_wp2_with fail);go_roundw
        case rel=>exact⟨k+1,by omega,by go_num,_,h_ rfl,hp.drew⟩
        case measure=>simp[intOf];omega
      ·obtain rfl:k=8:=(by omega);have HX:Hid (z=Q%Nm.ai):=h_ (by rw[HZ.out,Nm.Fe]);have c8:=hO.q.ten (j:=8) (by omega);have c9:=hO.q.ten (j:=9) (by omega);rw[HG2.out 8 (by omega)]at c8;rw[HG2.out 9 (by omega)]at c9;have hfit:=Nm.C7 X7.out;obtain⟨y8,hy8⟩:∃y,y=Nm.hw Q 8:=⟨_,rfl⟩;obtain⟨y9,hy9⟩:∃y,y=Nm.hw Q 9:=⟨_,rfl⟩;rw[<-hy8]at c8 hfit;rw[<-hy9]at c9 hfit;obtain⟨b8,SO⟩:∃b:Bool,b=((y8:Int)==0):=⟨_,rfl⟩;obtain⟨b9,RM⟩:∃b:Bool,b=((y9:Int)==0):=⟨_,rfl⟩
       have HB:Hid ((b8&&b9)=decide (Q<Nm.ai)):=h_ (by
        rw[SO,RM];by_cases hq:Q<Nm.ai;obtain⟨a1,a2⟩:=hfit.2 hq;rw[a1,a2,decide_eq_true hq];rfl;rw[decide_eq_false hq];cases h8:((y8:Int)==0);rfl;cases h9:((y9:Int)==0);rfl;exact absurd (hfit.1 ⟨by simpa using h8,by simpa using h9⟩) hq)
       have hrO:bR≠bO:=k1;have ZH:bQ≠bR:=Ne.symm m1q;(go_wp2_with fail);refine Rz.ig (by kernel_rfl) (fun w'=>Bl w w'/\Has w' bO (aa z) 26/\w'.cell? ⟨bQ,8,none⟩=some (i_ y8)/\w'.cell? ⟨bQ,9,none⟩=some (i_ y9)) (fun i v' _=>Mb bQ z y8 y9 b8 b9 i v') (fun l _ w'=>Has w' bR (aa (if l.getD 9 false=true then z else 0)) 26) (fun _ _=>True) (fun _ _=>trivial) (fun _ _ _ _ _ _ h=>h) (by kernel_rfl) ⟨hO.be.drew,hO.o,c8,c9⟩ ?_ ?_ ?_;intro l hl;rw[hl 9];exact hO.r
       ·intro i op lz act wx ho' hn dq Z;obtain⟨hC1,hC2,ZI,ZJ⟩:=Z.c;have hC:=Z.c;have hI:=Z.i;have hi:i<11:=(Array.getElem?_eq_some_iff.1 ho').1;obtain rfl|rfl|rfl|rfl|rfl|rfl|rfl|rfl|rfl|rfl|rfl:i=0\/i=1\/i=2\/i=3\/i=4\/i=5\/i=6\/i=7\/i=8\/i=9\/i=10:=(by omega);all_goals obtain rfl:=Option.some.inj ho'
        exact aP 0 Z (ak rfl) (fV rfl (Z.old' 17) hC2) rfl (by rw[iL _ _ _ (by rw[Z.size];decide) (by decide)];exact hI);exact aP 1 Z (ak rfl) (DL 8 rfl (Z.old' 14) rfl (by omega)) rfl (by rw[iL _ _ _ (by rw[Z.size];decide) (by decide)];exact hI);exact aP 2 Z (ak rfl) (kU rfl (ar Z dq 1 88) ZI) rfl (by rw[iL _ _ _ (by rw[Z.size];decide) (by decide)];exact hI);exact aP 3 Z (ak rfl) (pR rfl (ar Z dq 2 89) rfl) (by show Value.bool _=Value.bool b8;rw[SO]) (by rw[iL _ _ _ (by rw[Z.size];decide) (by decide)];exact hI);exact aP 4 Z (ak rfl) (dk rfl) (ar Z dq 3 90) (by rw[iL _ _ _ (by rw[Z.size];decide) (by decide)];exact hI);refine AZ (C:=fun w'=>Bl w w'/\Has w' bO (aa z) 26/\w'.cell? ⟨bQ,8,none⟩=some (i_ y8)/\w'.cell? ⟨bQ,9,none⟩=some (i_ y9)) (S:=fun _ _=>True) (R:=fun v' _=>Mb bQ z y8 y9 b8 b9 5 v') (J:=fun _ w'=>Has w' bR (aa (if(lz.setIfInBounds 5 true).getD 9 false=true then z else 0)) 26) (c:=b8) (j:=4) rfl (wN (o:=_) (d:=91) rfl rfl (Z.got 4 _ 91 rfl (dq ⟨4,.guard⟩ (by simp) rfl) rfl)) (fun hc hwt=>?_) (fun hc=>⟨fun h=>(by rw[hc]at h;cases h),(by rw[iL _ _ _ (by rw[Z.size];decide) (by decide)];exact hI)⟩);exact aP 5 Z hwt (DL 9 rfl (Z.old' 14) rfl (by omega)) (fun _=>rfl) (by rw[iL _ _ _ (by rw[Z.size];decide) (by decide)];exact hI);refine AZ (C:=fun w'=>Bl w w'/\Has w' bO (aa z) 26/\w'.cell? ⟨bQ,8,none⟩=some (i_ y8)/\w'.cell? ⟨bQ,9,none⟩=some (i_ y9)) (S:=fun _ _=>True) (R:=fun v' _=>Mb bQ z y8 y9 b8 b9 6 v') (J:=fun _ w'=>Has w' bR (aa (if(lz.setIfInBounds 6 true).getD 9 false=true then z else 0)) 26) (c:=b8) (j:=4) rfl (wN (o:=_) (d:=91) rfl rfl (Z.got 4 _ 91 rfl (dq ⟨4,.guard⟩ (by simp) rfl) rfl)) (fun hc hwt=>?_) (fun hc=>⟨fun h=>(by rw[hc]at h;cases h),(by rw[iL _ _ _ (by rw[Z.size];decide) (by decide)];exact hI)⟩);exact aP 6 Z hwt (kU rfl ((ar Z dq 5 92) hc) ZJ) (fun _=>rfl) (by rw[iL _ _ _ (by rw[Z.size];decide) (by decide)];exact hI);refine AZ (C:=fun w'=>Bl w w'/\Has w' bO (aa z) 26/\w'.cell? ⟨bQ,8,none⟩=some (i_ y8)/\w'.cell? ⟨bQ,9,none⟩=some (i_ y9)) (S:=fun _ _=>True) (R:=fun v' _=>Mb bQ z y8 y9 b8 b9 7 v') (J:=fun _ w'=>Has w' bR (aa (if(lz.setIfInBounds 7 true).getD 9 false=true then z else 0)) 26) (c:=b8) (j:=4) rfl (wN (o:=_) (d:=91) rfl rfl (Z.got 4 _ 91 rfl (dq ⟨4,.guard⟩ (by simp) rfl) rfl)) (fun hc hwt=>?_) (fun hc=>⟨fun h=>(by rw[hc]at h;cases h),(by rw[iL _ _ _ (by rw[Z.size];decide) (by decide)];exact hI)⟩);exact aP 7 Z hwt (pR rfl ((ar Z dq 6 93) hc) rfl) (fun _=>by show Value.bool _=Value.bool b9;rw[RM]) (by rw[iL _ _ _ (by rw[Z.size];decide) (by decide)];exact hI);have e1:act.eval (.tmp 91)=.bool b8:=(ar Z dq 4 91);have e2:b8=true->act.eval (.tmp 94)=.bool b9:=(ar Z dq 7 94);refine aP 8 Z (ak rfl) (zp rfl e1) ?_ (by rw[iL _ _ _ (by rw[Z.size];decide) (by decide)];exact hI);show(if b8=true then act.eval (.tmp 94)else .bool false)=.bool (b8&&b9);cases hb:b8;rfl;rw[if_pos rfl,e2 hb,Bool.true_and];have l9:lz.getD 9 false=false:=hn;rw[l9,if_neg (by decide)]at hI;refine o8 9 Z (ak rfl) (js rfl (Z.old' 6) (ar Z dq 0 87) hI rfl) ⟨below_setRow hC1 HR.out _,hC2.Ra _ _ (Ne.symm hrO),(World.cell?_of_block (w:=wx) (a:=⟨bQ,8,none⟩) (setRow_other wx bR bQ _ ZH)).trans ZI,(World.cell?_of_block (w:=wx) (a:=⟨bQ,9,none⟩) (setRow_other wx bR bQ _ ZH)).trans ZJ⟩ trivial ?_;rw[zN _ _ (by rw[Z.size];decide),if_pos rfl];exact hI.row _;exact aP 10 Z (ak rfl) (eT rfl) (ar Z dq 8 95) (by rw[iL _ _ _ (by rw[Z.size];decide) (by decide)];exact hI)
       ·intro lz act wx hall Z;have hr:=Z.i;rw[hall 9 (by decide),if_pos rfl]at hr;have e6:act.eval (.tmp 6)=ah bR:=Z.old' 6;have e7:act.eval (.tmp 7)=.bool (b8&&b9):=Z.got 10 _ 7 rfl (hall 10 (by decide)) rfl;have bj:=Z.c.1;have hdf:=Z.defers;obtain⟨tm,df⟩:=act;obtain rfl:df=[]:=hdf;clear Z hall;(go_wp2_with fail);refine bodyPost_ret (v:=.tuple #[.agg (aa z),.bool (b8&&b9)]) (iN Tryz.results192 _ _ _ _ e6 e7 hr) rfl ⟨?_,bj⟩;rw[HX.out,HB.out,HQQ.out]
