import Derived.Test.YtkbjaadjnbgfbaaGreatDoorHBunQ21
import Derived.Test.YtkbjaadjnbgfbaaGreatDoorHBunQ23
set_option maxRecDepth 100000
set_option maxHeartbeats 8000000
namespace Go.Proofs.YtkbjaadjnbgfbaaGreatDoor
open Go.RowKit
namespace NN
structure Pr where
 lim:Int
 Vv:Int
 VG:Int
 Vz:Int
 VD:Bool
 tl:List Value
def Pr.ok(p:Pr):Prop:=p.tl.length=78
def Pr.one(p:Pr):Prop:=∀v∈p.tl,v.oneCell'=true
def f_(p:Pr):List Value:=i_ p.lim::i_ p.Vv::i_ p.VG::i_ p.Vz :: .bool p.VD::p.tl
def aV(p:Pr):Array Value:=(f_ p).toArray
variable{p:Pr}
theorem gT(h:p.ok):(aV p).size=83:=by show(f_ p).toArray.size=83;rw[iR];simp[f_,show p.tl.length=78 from h]
theorem AG(h:p.one):∀v∈f_ p,v.oneCell'=true:=by
 intro v hv;simp only[f_,cJ]at hv;rcases hv with rfl|rfl|rfl|rfl|rfl|hv
 rfl;rfl;rfl;rfl;rfl;exact h v hv
theorem jg:(Tryz.prog.info? 32).map (·.size)=some 83:=by kernel_rfl
def aK(w:World)(k:Nat)(p:Pr):Prop:=Has w k (aV p) 32
variable{w w':World}{k:Nat}{p:Pr}
theorem aK.lt(h:aK w k p):k<w.heap.size:=Has.lt h
theorem aK.on(h:aK w k p)(hb:Bl w w'):aK w' k p:=Has.on h hb
theorem aK.c0(h:aK w k p){x:Int}(e:Hid (p.lim=x)):w.cell? ⟨k,0,none⟩=some (i_ x):=(Has.cell h 0).trans (by rw[<-e.out];simp[aV,f_])
theorem aK.c1(h:aK w k p){x:Int}(e:Hid (p.Vv=x)):w.cell? ⟨k,1,none⟩=some (i_ x):=(Has.cell h 1).trans (by rw[<-e.out];simp[aV,f_])
theorem aK.c2(h:aK w k p){x:Int}(e:Hid (p.VG=x)):w.cell? ⟨k,2,none⟩=some (i_ x):=(Has.cell h 2).trans (by rw[<-e.out];simp[aV,f_])
theorem aK.c3(h:aK w k p){x:Int}(e:Hid (p.Vz=x)):w.cell? ⟨k,3,none⟩=some (i_ x):=(Has.cell h 3).trans (by rw[<-e.out];simp[aV,f_])
theorem aK.c4(h:aK w k p){x:Bool}(e:Hid (p.VD=x)):w.cell? ⟨k,4,none⟩=some (.bool x):=(Has.cell h 4).trans (by rw[<-e.out];simp[aV,f_])
theorem aK.free(h:aK w k p)(j:Nat):w.frozen? ⟨k,j,none⟩=false:=Has.free h j
theorem qo(w:World)(p:Pr):aK (w.alloc (.cells (aV p) 32)) w.heap.size p:=Has.new _ _
theorem aK.cls(h:aK w k p):∀w',(∃r:Regrown,w'=Sort.grow (redrawn w r.d) r.os)->aK w' k p:=Has.cls h
section
variable{ops:Array Oper}{rest:List Oper}{o:Oper}{a:Act}{Q:Exit->Act->World->Prop}
theorem fK(hgd:o.guard=none)(x:Operand)(ho:o.op=.load 32 x)(g:Nat)(hx:a.eval x=af g)(hg:aK w g p)(hs:(aV p).size=83)(hk:wpList Tryz.prog ops Q rest (a.put o.dst (.agg (aV p))) w):wpList Tryz.prog ops Q (o::rest) a w:=
 iQ hgd 32 x ho g hx 32 (aV p) (0,0) _ (Has.out hg) Tryz.underlying32 rfl (jg.trans (by rw[hs])) hk
theorem jF(hw:Region.wanted o (yielded ops a.tmps)=true)(x:Operand)(ho:o.op=.load 32 x)(g:Nat)(hx:a.eval x=af g)(hg:aK w g p)(hs:(aV p).size=83)(hk:wpList Tryz.prog ops Q rest (a.put o.dst (.agg (aV p))) w):wpList Tryz.prog ops Q (o::rest) a w:=
 mf hw fun _ hK=>wp_load_row 32 x ho g hx 32 (aV p) (0,0) _ (Has.out hg) Tryz.underlying32 rfl (jg.trans (by rw[hs])) (hK _ _ hk)
variable{ρ:Operand->Value}{x y:Operand}
theorem Ep{g:Nat}(ho:o.op=.load 32 x)(hx:ρ x=af g)(hg:aK w g p)(hs:(aV p).size=83):(execOp ρ o).run Tryz.prog w=.ok (.value (.agg (aV p))) w:=by have hl:(loadVar 32 ⟨g,0,none⟩).run Tryz.prog w=.ok (.agg (aV p)) w:=gM w g 32 32 (aV p) (0,0) _ (Has.out hg) Tryz.underlying32 rfl (jg.trans (by rw[hs]));unfold execOp;simp only[ho,hx,Instr.loadAt,Instr.sureAddr,aB,cr,aM,hl]
theorem Ha{C:World->Prop}{K:Act->Prop}(x:Operand)(ho:o.op=.load 32 x)(g:Nat)(hx:a.eval x=af g)(hs:(aV p).size=83)(hC:∀w',C w'->aK w' g p)(hk:K (a.put o.dst (.agg (aV p)))):o.quiet Tryz.prog a C K:=
 ⟨_,fun w' hw'=>by
  unfold Oper.quietAt;rw[Ep ho hx (hC w' hw') hs];exact⟨rfl,rfl⟩,hk⟩
variable{z:Int}
theorem Mo{p:Addr}(hc:w.cell? p=some (i_ z)):(loadVar 3 p).run Tryz.prog w=.ok (i_ z) w:=by go_simp
theorem pg{p:Addr}(ho:o.op=.load 3 x)(hx:ρ x=.pointer (some p))(hc:w.cell? p=some (i_ z)):(execOp ρ o).run Tryz.prog w=.ok (.value (i_ z)) w:=by unfold execOp;simp only[ho,hx,Instr.loadAt,Instr.sureAddr,aB,cr,aM,Mo hc]
theorem Qa{a b:Int}(ho:o.op=.binOp .mul 24 x y 24)(hx:ρ x=aH a)(hy:ρ y=aH b)(m:Int)(hm:IntKind.u64.wrap (a*b)=m):(execOp ρ o).run Tryz.prog w=.ok (.value (aH m)) w:=by refine VI.wo ho (by decide) (by decide) ?_;rw[hx,hy];subst hm;go_simp
theorem I_{a b:Nat}(ho:o.op=.binOp .quo 24 x y 24)(hx:ρ x=aH (a:Int))(hy:ρ y=aH (b:Int))(hb:(b:Int)≠0)(m:Int)(hm:IntKind.u64.wrap ((a:Int)/(b:Int))=m):(execOp ρ o).run Tryz.prog w=.ok (.value (aH m)) w:=by
 refine VI.wo ho (by decide) (by decide) ?_;have hb':¬b=0:=by omega
 rw[hx,hy];go_simp
end
variable{P:Program}
theorem p7(x y m:Int)(h:m=max x y)(ts:Array TypeId)(t:TypeId)(w:World):(Builtin.max_ ts t #[i_ x,i_ y]).run P w=.ok (i_ m) w:=by rw[run_max_int2,show(if y > x then y else x)=m by split<;>omega]
theorem ln(x y m:Int)(h:m=min x y)(ts:Array TypeId)(t:TypeId)(w:World):(Builtin.min_ ts t #[i_ x,i_ y]).run P w=.ok (i_ m) w:=by rw[run_min_int2,show(if y<x then y else x)=m by split<;>omega]
end NN
namespace NN
def Pr.du(p:Pr):Bool:=tok p.lim p.lim&&decide (2<=p.Vv)&&decide (p.Vv<=64)&&decide (1<=p.VG)&&decide (p.VG<=10000)&&decide (0<=p.Vz)&&decide (p.Vz<4294967296)
theorem xD(p:Pr)(z:Nat)(lim Vv VG Vz:Int)(o g1 g2 g3 g4 g5 g6:Bool)(e0:Hid (p.lim=lim))(e1:Hid (p.Vv=Vv))(e2:Hid (p.VG=VG))(e3:Hid (p.Vz=Vz))(t1:decide ((2:Int)<=Vv)=g1)(t2:decide (Vv<=(64:Int))=g2)(t3:decide ((1:Int)<=VG)=g3)(t4:decide (VG<=(10000:Int))=g4)(t5:decide ((0:Int)<=Vz)=g5)(t6:decide (Vz<(4294967296:Int))=g6)(KT:Hid (dx 181 #[i_ lim,i_ lim] (.tuple #[.agg (aa z),.bool o])))(w:World):ar 168 #[.agg (aV p)] w (.bool (o&&g1&&g2&&g3&&g4&&g5&&g6)):=by
 have hP:=qo w p;have bj:Below w.heap.size w (w.alloc (.cells (aV p) 32)):=cu;have c0:=hP.c0 e0;go_enter Tryz.func168,Tryz.ntmps168;go_upto_region 1 with fail
 generalize World.alloc _ _=v0 at*;generalize w.heap.size=ag5 at hP c0|-;go_wp2_with fail
 refine az (KT.out _) fun v1 hb1=>?_;replace hP:=hP.on hb1;replace bj:=ai bj hb1;clear c0 hb1;go_upto_region 2 with(with_reducible refine cB rfl _ _ rfl _ _ rfl rfl _ (Has.Vp _) rfl ?_)
 generalize hw2:World.setRow _ _ _=v2;have hb2:Below v1.heap.size v1 v2:=dZ hw2;replace hP:=hP.on hb2;replace bj:=ai bj hb2;clear hw2 hb2;have c1:=hP.c1 e1;have c2:=hP.c2 e2;have c3:=hP.c3 e3;cases o
 case' true=>
  cases g1
  case' true=>
   cases g2
   case' true=>
    cases g3
    case' true=>
     cases g4
     case' true=>
      cases g5
      case' true=>
       cases g6
 all_goals
  go_wp2_with fail
  go_ret;exact⟨rfl,bj⟩
theorem NX(p:Pr)(w:World):ar 168 #[.agg (aV p)] w (.bool p.du):=
 xD p _ _ _ _ _ _ _ _ _ _ _ _ (h_ rfl) (h_ rfl) (h_ rfl) (h_ rfl) rfl rfl rfl rfl rfl rfl (h_ fun w=>pM p.lim p.lim w) w
theorem Dr(p:Pr)(z:Nat)(lim Vv VG Vz:Int)(o g1 g2 g3 g4 g5 g6:Bool)(e0:Hid (p.lim=lim))(e1:Hid (p.Vv=Vv))(e2:Hid (p.VG=VG))(e3:Hid (p.Vz=Vz))(t1:decide ((2:Int)<=Vv)=g1)(t2:decide (Vv<=(64:Int))=g2)(t3:decide ((1:Int)<=VG)=g3)(t4:decide (VG<=(10000:Int))=g4)(t5:decide ((0:Int)<=Vz)=g5)(t6:decide (Vz<(4294967296:Int))=g6)(KT:Hid (dx 106 #[i_ lim,i_ lim] (.tuple #[.agg (aa z),.bool o])))(w:World):ar 72 #[.agg (aV p)] w (.bool (o&&g1&&g2&&g3&&g4&&g5&&g6)):=by
 have hP:=qo w p;have bj:Below w.heap.size w (w.alloc (.cells (aV p) 32)):=cu;have c0:=hP.c0 e0;go_enter Tryz.func72,Tryz.ntmps72;go_upto_region 1 with fail
 generalize World.alloc _ _=v0 at*;generalize w.heap.size=ag5 at hP c0|-;go_wp2_with fail
 refine az (KT.out _) fun v1 hb1=>?_;replace hP:=hP.on hb1;replace bj:=ai bj hb1;clear c0 hb1;go_upto_region 2 with(with_reducible refine cB rfl _ _ rfl _ _ rfl rfl _ (Has.Vp _) rfl ?_)
 generalize hw2:World.setRow _ _ _=v2;have hb2:Below v1.heap.size v1 v2:=dZ hw2;replace hP:=hP.on hb2;replace bj:=ai bj hb2;clear hw2 hb2;have c1:=hP.c1 e1;have c2:=hP.c2 e2;have c3:=hP.c3 e3;cases o
 case' true=>
  cases g1
  case' true=>
   cases g2
   case' true=>
    cases g3
    case' true=>
     cases g4
     case' true=>
      cases g5
      case' true=>
       cases g6
 all_goals
  go_wp2_with fail
  go_ret;exact⟨rfl,bj⟩
theorem qD(p:Pr)(w:World):ar 72 #[.agg (aV p)] w (.bool p.du):=
 Dr p _ _ _ _ _ _ _ _ _ _ _ _ (h_ rfl) (h_ rfl) (h_ rfl) (h_ rfl) rfl rfl rfl rfl rfl rfl (h_ fun w=>zg p.lim p.lim w) w
open VI
def lX(f:Nat->Nat):Array Value:=((List.range 10).map fun i=>Value.int .i64 ((f i:Nat):Int)).toArray
theorem Ga(f:Nat->Nat){j:Nat}(h:j<10):(lX f)[j]?=some (i_ ((f j:Nat):Int)):=by simp[lX,h]
theorem PC(f:Nat->Nat)(i x:Nat):(lX f).setIfInBounds i (i_ ((x:Nat):Int))=lX (fun j=>if j=i then x else f j):=by
 apply j8;intro j;rw[ia];by_cases hj:j<10;rw[Ga _ hj];by_cases hij:i=j;subst hij;simp[lX,hj];rw[ah hij,Ga _ hj,ah (fun e=>hij e.symm)]
 ·have h1:∀g,(lX g)[j]?=none:=fun g=>by simp[lX];omega
  rw[h1,h1];by_cases hij:i=j;subst hij;simp[lX,hj];simp[hij]
theorem Pw(w:World):Has (w.alloc (.cells #[i_ 0,i_ 0,i_ 0,i_ 0,i_ 0,i_ 0,i_ 0,i_ 0,i_ 0,i_ 0] 227)) w.heap.size (lX fun _=>0) 227:=Has.new _ _
variable{w wr:World}{f g:Nat->Nat}
theorem Has.ten{b:Nat}(h:Has w b (lX f) 227){j:Nat}(hj:j<10):w.cell? ⟨b,j,none⟩=some (i_ ((f j:Nat):Int)):=(Has.cell h j).trans (Ga f hj)
structure Ml (w wr:World) (bN bR bD n:Nat) (f:Nat->Nat):Prop where
 be:Bl w wr
 n:Has wr bN (aa n) 26
 r:Has wr bR (aa 0) 26
 d:Has wr bD (lX f) 227
variable{bR bD n bQ bO:Nat}
theorem Ml.put{bN:Nat}(h:Ml w wr bN bR bD n f)(i x:Nat)(h1:bN≠bD)(h2:bR≠bD)(h3:w.heap.size<=bD):Ml w (wr.setCell ⟨bD,i,none⟩ (i_ ((x:Nat):Int))) bN bR bD n (fun j=>if j=i then x else f j):=⟨h.be.setCell h3 _,Has.other h.n _ _ h1,Has.other h.r _ _ h2,by have:=Has.set (i:=i) h.d (i_ ((x:Nat):Int));rwa[PC]at this⟩
structure Jy (w wr:World) (bR bD bQ:Nat) (f g:Nat->Nat):Prop where
 be:Bl w wr
 r:Has wr bR (aa 0) 26
 d:Has wr bD (lX f) 227
 q:Has wr bQ (lX g) 227
theorem Jy.put(h:Jy w wr bR bD bQ f g)(i x:Nat)(h1:bR≠bQ)(h2:bD≠bQ)(h3:w.heap.size<=bQ):Jy w (wr.setCell ⟨bQ,i,none⟩ (i_ ((x:Nat):Int))) bR bD bQ f (fun j=>if j=i then x else g j):=⟨h.be.setCell h3 _,Has.other h.r _ _ h1,Has.other h.d _ _ h2,by have:=Has.set (i:=i) h.q (i_ ((x:Nat):Int));rwa[PC]at this⟩
structure Cj (w wr:World) (bR bQ bO:Nat) (g:Nat->Nat) (z:Nat):Prop where
 be:Bl w wr
 r:Has wr bR (aa 0) 26
 q:Has wr bQ (lX g) 227
 o:Has wr bO (aa z) 26
theorem Cj.drew{z:Nat}(h:Cj w wr bR bQ bO g z):Cj w wr.drew bR bQ bO g z:=⟨h.be.drew,h.r,h.q,h.o⟩
theorem Mh(y z m v:Nat)(hm:m<4)(hv:v=Nm.wd z m)(ho:∀j,j<4->j≠m->Nm.wd z j=Nm.wd y j):(aa y).setIfInBounds m (aH ((v:Nat):Int))=aa z:=by unfold aa;rw[sG _ _ _ hm];apply tS;intro j hj;unfold dk;by_cases e:j=m;rw[aj e,hv,e];rw[ah e,ho j hj e]
theorem Cj.put{y:Nat}(h:Cj w wr bR bQ bO g y)(z m v:Nat)(hm:m<4)(hv:v=Nm.wd z m)(ho:∀j,j<4->j≠m->Nm.wd z j=Nm.wd y j)(h1:bR≠bO)(h2:bQ≠bO)(h3:w.heap.size<=bO):Cj w (wr.setCell ⟨bO,m,none⟩ (aH ((v:Nat):Int))) bR bQ bO g z:=⟨h.be.setCell h3 _,Has.other h.r _ _ h1,Has.other h.q _ _ h2,by have:=Has.set (i:=m) h.o (aH ((v:Nat):Int));rwa[Mh y z m v hm hv ho]at this⟩
theorem mP(l:Array Bool)(i j:Nat)(hi:i<l.size)(h:i≠j):(l.setIfInBounds i true).getD j false=l.getD j false:=by rw[ko _ _ _ hi,ah h]
theorem FZ(l:Array Bool)(i:Nat)(hi:i<l.size):(l.setIfInBounds i true).getD i false=true:=by rw[ko _ _ _ hi,aj rfl]
def QL(bQ z y8 y9:Nat)(b8 b9:Bool):Nat->Value->Prop
 | 0,v=>v=.agg (aa z)
 | 1,v=>v=.pointer (some ⟨bQ,8,none⟩)
 | 2,v=>v=i_ y8
 | 3,v=>v=.bool b8
 | 4,v=>v=.bool b8
 | 5,v=>b8=true->v=.pointer (some ⟨bQ,9,none⟩)
 | 6,v=>b8=true->v=i_ y9
 | 7,v=>b8=true->v=.bool b9
 | 8,v=>v=.bool (b8&&b9)
 | 10,v=>v=.bool (b8&&b9)
 | _,_=>True
variable{ρ:Operand->Value}{o:Oper}{x y:Operand}
theorem Qm{g:Nat}(k:Nat)(ho:o.op=.indexAddr 227 x y)(hx:ρ x=af g)(hy:ρ y=i_ k)(hk:k<10):(execOp ρ o).run Tryz.prog w=.ok (.value (.pointer (some ⟨g,k,none⟩))) w:=by
 unfold execOp;simp only[ho,hx,hy];obtain rfl|rfl|rfl|rfl|rfl|rfl|rfl|rfl|rfl|rfl:k=0\/k=1\/k=2\/k=3\/k=4\/k=5\/k=6\/k=7\/k=8\/k=9:=by omega
 all_goals kernel_rfl
theorem vS{z:Int}(ho:o.op=.binOp .eql 3 x y 3)(hx:ρ x=i_ z)(hy:ρ y=i_ 0):(execOp ρ o).run Tryz.prog w=.ok (.value (.bool (z==0))) w:=by unfold execOp;simp only[ho,hx,hy];kernel_rfl
theorem DB{ops:Array Oper}{a:Act}{Q:Exit->Act->World->Prop}{C:World->Prop}{S:World->World->Prop}{R:Value->World->Prop}{J:Act->World->Prop}{j:Nat}{c:Bool}(hg:o.guard=some (j,true))(hy:yielded ops a.tmps j=some c)(ht:c=true->Region.wanted o (yielded ops a.tmps)=true->if Region.wanted o (yielded ops a.tmps)=true then o.wp Tryz.prog a w (fun a' w'=>C w'/\S w w'/\∃v,a'=a.put o.dst v/\R v w'/\J a' w') Q else R undef w/\J (a.put o.dst undef) w)(hf:c=false->R undef w/\J (a.put o.dst undef) w):if Region.wanted o (yielded ops a.tmps)=true then o.wp Tryz.prog a w (fun a' w'=>C w'/\S w w'/\∃v,a'=a.put o.dst v/\R v w'/\J a' w') Q else R undef w/\J (a.put o.dst undef) w:=by
 cases c
 ·have hw:Region.wanted o (yielded ops a.tmps)=false:=by
   unfold Region.wanted;rw[hg];simp[hy]
  rw[ah (by rw[hw];decide)];exact hf rfl
 exact ht rfl (G8 hg hy)
theorem AJ{k:Nat}(hn:n<Nm.ak)(hk:8<=k):Nm.hw n k=0:=by
 unfold Nm.hw
 have h:Nm.ak<=4294967296^k:=by
  rw[Nm.dj,show(2:Nat)^256=4294967296^8 by decide];exact iW (by decide) hk
 rw[eY (by omega)]
theorem yL(n a o:Nat)(hn:n<Nm.ak)(ha:a<=4194304)(ho:0<o)(ho2:o<=4194304)(w:World):ar 192 #[.agg (aa n),i_ a,i_ o] w (.tuple #[.agg (aa (n*a/o%Nm.ak)),.bool (decide (n*a/o<Nm.ak))]):=by
 obtain⟨M,hM⟩:∃M,M=n*a:=⟨_,rfl⟩;have HM:=h_ hM;have HNB:=h_ hn;rw[<-hM];clear hM hn;go_enter Tryz.func192,Tryz.ntmps192;go_upto_region 2 with fail
 generalize hw0:World.alloc _ _=v0
 have hs:Ml w v0 w.heap.size (w.heap.size+1) (w.heap.size+1+1) n (fun _=>0):=by
  rw[<-hw0];exact⟨(cu.alloc (by simp) _).alloc (by simp;omega) _,((Has.new _ _).alloc _).alloc _,(Has.Vt _ _ _).alloc _,Has.VT _ _ _ _⟩
 clear hw0;obtain⟨bN,hbN⟩:∃b,b=w.heap.size:=⟨_,rfl⟩;obtain⟨bR,hbR⟩:∃b,b=w.heap.size+1:=⟨_,rfl⟩;obtain⟨bD,hbD⟩:∃b,b=w.heap.size+1+1:=⟨_,rfl⟩;rw[<-hbD,<-hbR,<-hbN]at hs|-;have n1:bN≠bD:=by omega
 have n2:bR≠bD:=by omega
 have n3:bN≠bR:=by omega
 have HD:Hid (w.heap.size<=bD):=h_ (by omega);have HR:Hid (w.heap.size<=bR):=h_ (by omega);clear hbN hbR hbD;go_wp2_with fail
 go_loopw [9,10] (fun c i wr=>∃k:Nat,k<=10/\i=i_ k/\∃c0:Nat,c=i_ c0/\Hid (c0=Nm.hc n a k)/\∃f:Nat->Nat,Hid (∀j,j<10->f j=if j<k then Nm.hw M j else 0)/\Ml w wr bN bR bD n f) (fun _ i _=>10-(intOf i).toNat)
 case atStart=>exact⟨0,by omega,rfl,0,rfl,h_ (Nm.AR n a).symm,_,h_ (fun j _=>(ah (by omega)).symm),hs⟩
 case round=>
  clear hs;obtain⟨k,hk,rfl,c0,rfl,HC,f,HF,hs⟩:=hrel;by_cases hlt:k<10
  ·by_cases h8:k<8
   ·obtain⟨m,hm⟩:∃m,m=k/2:=⟨_,rfl⟩;have f1:(k:Int).tdiv 2=(m:Int):=(by rw[kP (by omega)];omega);have f2:(k:Int)/2=(m:Int):=(by omega);have YR:m<4:=(by omega);have cN:=hs.n.num (j:=m) YR;obtain⟨x,hx⟩:∃x,x=Nm.wd n m:=⟨_,rfl⟩;rw[<-hx]at cN;have hxl:x<18446744073709551616:=(by rw[hx];exact Nm.ft _ _);rcases(by omega:k%2=0\/k%2=1)with hr|hr
    ·have f3:(k:Int).tmod 2=0:=(by rw[iV (by omega)];omega);have f4:(k:Int)%2=0:=(by omega);obtain⟨y,hy⟩:∃y,y=Nm.hw n k:=⟨_,rfl⟩
     have g1:(x:Int)%4294967296=(y:Int):=by
      have:=Nm.Bp n m;rw[<-hx,show 2*m=k by omega,<-hy]at this;omega
     clear hx hm hr hxl;have hyl:y<4294967296:=(by rw[hy];exact Nm.mU _ _);have hcl:c0<=a:=(by rw[HC.out];exact Nm.uY _ _ _);have hpl:y*a<=4294967295*4194304:=kU (by omega) ha;obtain⟨q,hq⟩:∃q,q=y*a:=⟨_,rfl⟩;rw[<-hq]at hpl
     have w1:IntKind.i64.wrap ((y:Int)*(a:Int))=(q:Int):=by
      have e:(y:Int)*(a:Int)=(q:Int):=(by rw[hq,Int.natCast_mul]);rw[e,IntKind.wrap_i64];omega
     obtain⟨v,hv⟩:∃v,v=q+c0:=⟨_,rfl⟩;have w2:IntKind.i64.wrap ((q:Int)+(c0:Int))=(v:Int):=(by rw[IntKind.wrap_i64];omega);obtain⟨d,hd⟩:∃d,d=v%4294967296:=⟨_,rfl⟩;obtain⟨c1,hc1⟩:∃c1,c1=v/4294967296:=⟨_,rfl⟩;have e1:(v:Int).tmod 4294967296=(d:Int):=(by rw[iV (by omega)];omega);have e2:(v:Int)%4294967296=(d:Int):=(by omega);have e3:(v:Int).tdiv 4294967296=(c1:Int):=(by rw[kP (by omega)];omega);have e4:(v:Int)/4294967296=(c1:Int):=(by omega);have e5:wrap64 (c1:Int)=(c1:Int):=(by unfold wrap64;omega);have hv2:v=Nm.hw n k*a+Nm.hc n a k:=(by rw[hv,hq,hy,HC.out]);have HD1:Hid (d=Nm.hw M k):=h_ (by rw[hd,hv2,Nm.DO,HM.out]);have Yw:Hid (c1=Nm.hc n a (k+1)):=h_ (by rw[hc1,hv2,Nm.FA]);have cD:=hs.d.ten hlt;have fD:=Has.free hs.d k;have hs2:=hs.put k d n1 n2 HD.out
     have Xk:Hid (∀j,j<10->(if j=k then d else f j)=if j<k+1 then Nm.hw M j else 0):=h_ (fun j hj=>by
      by_cases e:j=k;rw[aj e,aj (by omega),HD1.out,e];rw[ah e,HF.out j hj];by_cases e2:j<k;rw[aj e2,aj (by omega)];rw[ah e2,ah (by omega)])
     clear hy hq hv hyl hpl hd hc1 hcl HC HF HD1 hv2;(go_wp2_with fail);go_roundw
     case rel=>exact⟨k+1,by omega,by go_num,c1,by first|rfl|rw[e5],Yw,_,Xk,hs2⟩
     case measure=>simp[intOf];omega
    ·have f3:(k:Int).tmod 2=1:=(by rw[iV (by omega)];omega);have f4:(k:Int)%2=1:=(by omega);obtain⟨y,hy⟩:∃y,y=Nm.hw n k:=⟨_,rfl⟩;obtain⟨z,hz⟩:∃z,z=x/4294967296:=⟨_,rfl⟩;have g0:(x:Int)/4294967296=(z:Int):=by omega
     have g1:(z:Int)%4294967296=(y:Int):=by
      have:=Nm.Oc n m;rw[<-hx,<-hz,show 2*m+1=k by omega,<-hy]at this;omega
     clear hx hm hr hxl hz;have hyl:y<4294967296:=(by rw[hy];exact Nm.mU _ _);have hcl:c0<=a:=(by rw[HC.out];exact Nm.uY _ _ _);have hpl:y*a<=4294967295*4194304:=kU (by omega) ha;obtain⟨q,hq⟩:∃q,q=y*a:=⟨_,rfl⟩;rw[<-hq]at hpl
     have w1:IntKind.i64.wrap ((y:Int)*(a:Int))=(q:Int):=by
      have e:(y:Int)*(a:Int)=(q:Int):=(by rw[hq,Int.natCast_mul]);rw[e,IntKind.wrap_i64];omega
     obtain⟨v,hv⟩:∃v,v=q+c0:=⟨_,rfl⟩;have w2:IntKind.i64.wrap ((q:Int)+(c0:Int))=(v:Int):=(by rw[IntKind.wrap_i64];omega);obtain⟨d,hd⟩:∃d,d=v%4294967296:=⟨_,rfl⟩;obtain⟨c1,hc1⟩:∃c1,c1=v/4294967296:=⟨_,rfl⟩;have e1:(v:Int).tmod 4294967296=(d:Int):=(by rw[iV (by omega)];omega);have e2:(v:Int)%4294967296=(d:Int):=(by omega);have e3:(v:Int).tdiv 4294967296=(c1:Int):=(by rw[kP (by omega)];omega);have e4:(v:Int)/4294967296=(c1:Int):=(by omega);have e5:wrap64 (c1:Int)=(c1:Int):=(by unfold wrap64;omega);have hv2:v=Nm.hw n k*a+Nm.hc n a k:=(by rw[hv,hq,hy,HC.out]);have HD1:Hid (d=Nm.hw M k):=h_ (by rw[hd,hv2,Nm.DO,HM.out]);have Yw:Hid (c1=Nm.hc n a (k+1)):=h_ (by rw[hc1,hv2,Nm.FA]);have cD:=hs.d.ten hlt;have fD:=Has.free hs.d k;have hs2:=hs.put k d n1 n2 HD.out
     have Xk:Hid (∀j,j<10->(if j=k then d else f j)=if j<k+1 then Nm.hw M j else 0):=h_ (fun j hj=>by
      by_cases e:j=k;rw[aj e,aj (by omega),HD1.out,e];rw[ah e,HF.out j hj];by_cases e2:j<k;rw[aj e2,aj (by omega)];rw[ah e2,ah (by omega)])
     clear hy hq hv hyl hpl hd hc1 hcl HC HF HD1 hv2;(go_wp2_with fail);go_roundw
     case rel=>exact⟨k+1,by omega,by go_num,c1,by first|rfl|rw[e5],Yw,_,Xk,hs2⟩
     case measure=>simp[intOf];omega
   ·have d8:decide ((k:Int)<8)=false:=aE (by omega);have hcl:c0<=a:=(by rw[HC.out];exact Nm.uY _ _ _);obtain⟨v,hv⟩:∃v,v=c0:=⟨_,rfl⟩;have w2:IntKind.i64.wrap (c0:Int)=(v:Int):=(by rw[IntKind.wrap_i64];omega);rw[<-hv]at hcl;obtain⟨d,hd⟩:∃d,d=v%4294967296:=⟨_,rfl⟩;obtain⟨c1,hc1⟩:∃c1,c1=v/4294967296:=⟨_,rfl⟩;have e1:(v:Int).tmod 4294967296=(d:Int):=(by rw[iV (by omega)];omega);have e2:(v:Int)%4294967296=(d:Int):=(by omega);have e3:(v:Int).tdiv 4294967296=(c1:Int):=(by rw[kP (by omega)];omega);have e4:(v:Int)/4294967296=(c1:Int):=(by omega);have e5:wrap64 (c1:Int)=(c1:Int):=(by unfold wrap64;omega);have hv2:v=Nm.hw n k*a+Nm.hc n a k:=(by rw[hv,AJ HNB.out (by omega:8<=k),Nat.zero_mul,cy,HC.out]);have HD1:Hid (d=Nm.hw M k):=h_ (by rw[hd,hv2,Nm.DO,HM.out]);have Yw:Hid (c1=Nm.hc n a (k+1)):=h_ (by rw[hc1,hv2,Nm.FA]);have cD:=hs.d.ten hlt;have fD:=Has.free hs.d k;have hs2:=hs.put k d n1 n2 HD.out
    have Xk:Hid (∀j,j<10->(if j=k then d else f j)=if j<k+1 then Nm.hw M j else 0):=h_ (fun j hj=>by
     by_cases e:j=k;rw[aj e,aj (by omega),HD1.out,e];rw[ah e,HF.out j hj];by_cases e2:j<k;rw[aj e2,aj (by omega)];rw[ah e2,ah (by omega)])
    subst hv;clear hd hc1 hcl HC HF HD1 hv2;(go_wp2_with fail);go_roundw
    case rel=>exact⟨k+1,by omega,by go_num,c1,by first|rfl|rw[e5],Yw,_,Xk,hs2⟩
    case measure=>simp[intOf];omega
  ·obtain rfl:k=10:=by omega
   have Xk:Hid (∀j,j<10->f j=Nm.hw M j):=h_ (fun j hj=>by rw[HF.out j hj,aj hj]);have hdl:=hs.d.lt;have hrl:=hs.r.lt;clear hlt hk HC HF;go_upto_region 14 with fail
   generalize hw1:World.alloc _ _=v1
   have ht:Jy w v1 bR bD wr.heap.size f (fun _=>0):=by
    rw[<-hw1];exact⟨hs.be.alloc hs.be.size _,hs.r.alloc _,hs.d.alloc _,Pw wr⟩
   clear hw1;obtain⟨bQ,hbQ⟩:∃b,b=wr.heap.size:=⟨_,rfl⟩;have HQ:Hid (w.heap.size<=bQ):=h_ (by rw[hbQ];exact hs.be.size);rw[<-hbQ]at ht|-;have m1:bR≠bQ:=by omega
   have m2:bD≠bQ:=by omega
   clear hbQ hdl hrl hs n1 n2 n3
   have ab7:Hid (M<4294967296^10):=h_ (by
    have h1:M<=n*4194304:=(by rw[HM.out];exact nU _ ha);have h2:=HNB.out;have h3:Nm.ak*4194304<4294967296^10:=(by decide);have h4:n*4194304<Nm.ak*4194304:=nQ h2 (by decide);omega)
   go_wp2_with fail
   go_loopw [13,15] (fun t i wr=>∃j:Nat,j<=10/\∃e:Int,i=i_ e/\Hid (e=(j:Int)-1)/\∃r0:Nat,t=i_ r0/\Hid (r0=Nm.hr M o j)/\∃g:Nat->Nat,Hid (∀l,l<10->g l=if j<=l then Nm.hw (M/o) l else 0)/\Jy w wr bR bD bQ f g) (fun _ i _=>(intOf i+1).toNat)
   case atStart=>exact⟨10,by omega,9,rfl,h_ (by omega),0,rfl,h_ (by unfold Nm.hr;rw[eY ab7.out,Nat.zero_mod]),_,h_ (fun l hl=>(ah (by omega)).symm),ht⟩
   case round=>
    clear ht;obtain⟨j,hj,e,rfl,HE,r0,rfl,HR0,g,HG,ht⟩:=hrel;by_cases h0:0<j
    ·obtain⟨k,hk⟩:∃k,k=j-1:=⟨_,rfl⟩;obtain rfl:e=(k:Int):=(by rw[HE.out];omega);have hk10:k<10:=(by omega);have hjk:j=k+1:=(by omega);have cd:=ht.d.ten hk10;rw[Xk.out k hk10]at cd;have hq:=Nm.xw M k o ho;obtain⟨y,hy⟩:∃y,y=Nm.hw M k:=⟨_,rfl⟩;have hyl:y<4294967296:=(by rw[hy];exact Nm.mU _ _);have hrl:r0<o:=(by rw[HR0.out];exact Nm.Hj _ _ ho);rw[<-hy]at cd hq;rw[<-hjk,<-HR0.out]at hq;obtain⟨u,hu⟩:∃u,u=r0*4294967296:=⟨_,rfl⟩;have w1:IntKind.i64.wrap ((r0:Int)*4294967296)=(u:Int):=(by rw[IntKind.wrap_i64];omega);obtain⟨v,hv⟩:∃v,v=u+y:=⟨_,rfl⟩;have w2:IntKind.i64.wrap ((u:Int)+(y:Int))=(v:Int):=(by rw[IntKind.wrap_i64];omega);rw[<-hu,<-hv]at hq;obtain⟨z,hz⟩:∃z,z=v/o:=⟨_,rfl⟩;obtain⟨r1,hr1⟩:∃r1,r1=v%o:=⟨_,rfl⟩;have w8:v<=4194304*4294967296:=(by omega);have hzl:z<=v:=(by rw[hz];exact f' _ _);have e1:(v:Int).tdiv (o:Int)=(z:Int):=(by rw[hz,kP (by omega)];exact(Int.natCast_ediv v o).symm);have e2:(v:Int)/(o:Int)=(z:Int):=(by rw[hz];exact(Int.natCast_ediv v o).symm);have e3:(v:Int).tmod (o:Int)=(r1:Int):=(by rw[hr1,iV (by omega)];exact(Int.natCast_emod v o).symm);have e4:(v:Int)%(o:Int)=(r1:Int):=(by rw[hr1];exact(Int.natCast_emod v o).symm);have ag6:r1<o:=(by rw[hr1];exact bq _ ho);have e5:wrap64 (z:Int)=(z:Int):=(by unfold wrap64;omega);have e6:wrap64 (r1:Int)=(r1:Int):=(by unfold wrap64;omega);have HZ:Hid (z=Nm.hw (M/o) k):=h_ (by rw[hz];exact hq.1);have HR1:Hid (r1=Nm.hr M o k):=h_ (by rw[hr1];exact hq.2);have o0:¬(o:Int)=0:=(by omega);have o1:((o:Int)==0)=false:=(by simp;omega);have cq:=ht.q.ten hk10;have fq:=Has.free ht.q k;have ht2:=ht.put k z m1 m2 HQ.out
     have HG2:Hid (∀l,l<10->(if l=k then z else g l)=if k<=l then Nm.hw (M/o) l else 0):=h_ (fun l hl=>by
      by_cases el:l=k;rw[aj el,aj (by omega),HZ.out,el];rw[ah el,HG.out l hl];by_cases e2:j<=l;rw[aj e2,aj (by omega)];rw[ah e2,ah (by omega)])
     have wk:IntKind.i64.wrap ((k:Int)-1)=(k:Int)-1:=(by rw[IntKind.wrap_i64];omega);obtain⟨ke,hke⟩:∃ke:Int,ke=(k:Int)-1:=⟨_,rfl⟩;rw[<-hke]at wk;have HKE:=h_ hke;have hk9:k<=10:=(by omega);clear hq hy hu hv hz hr1 w8 hzl hyl hrl HR0 HG HZ HE hke hk hjk ag6 h0 hj;(go_wp2_with fail);go_roundw
     case rel=>exact⟨k,by omega,_,rfl,h_ rfl,r1,rfl,HR1,_,HG2,ht2⟩
     case measure=>first|(simp[intOf];done)|(simp[intOf];omega)
    ·obtain rfl:j=0:=(by omega);obtain rfl:e = -1:=(by rw[HE.out];rfl);have HG2:Hid (∀l,l<10->g l=Nm.hw (M/o) l):=h_ (fun l hl=>by rw[HG.out l hl,aj (bB _)]);have hql:=ht.q.lt;have hrl:=ht.r.lt;obtain⟨Q,hQ⟩:∃Q,Q=M/o:=⟨_,rfl⟩;rw[<-hQ]at HG2;have HQQ:=h_ hQ;have ag7:Hid (Q<4294967296^10):=h_ (by rw[hQ];exact eH (f' _ _) ab7.out);clear HG HE HR0 h0 hj hQ;have hnw:=Has.Vp (w:=wr) 26;(go_upto_region 21 with(with_reducible refine qY rfl _ _ rfl _ 0 _ rfl rfl jt _ hnw rfl ?_));generalize hw2:World.setRow _ _ _=v2;have hb2:Bl wr v2:=dZ hw2
     have hO:Cj w v2 bR bQ wr.heap.size g 0:=by
      refine⟨ai ht.be hb2,Has.on ht.r hb2,Has.on ht.q hb2,?_⟩;rw[<-hw2];exact Has.row hnw _
     obtain⟨bO,ZS⟩:∃b,b=wr.heap.size:=⟨_,rfl⟩;have HO:Hid (w.heap.size<=bO):=h_ (by rw[ZS];exact ht.be.size);rw[<-ZS]at hO|-;have k1:bR≠bO:=(by omega);have k2:bQ≠bO:=(by omega);have m1q:=m1;clear hw2 hb2 ZS hnw ht hql hrl m1 m2;(go_wp2_with fail);go_loopw [18] (fun i wr=>∃k:Nat,k<=8/\i=i_ k/\∃z:Nat,Hid (z=Q%4294967296^k)/\Cj w wr bR bQ bO g z) (fun i _=>8-(intOf i).toNat)
     case atStart=>exact⟨0,by omega,rfl,0,h_ (by rw[Nat.pow_zero,Nat.mod_one]),hO⟩
     case round=>
      clear hO;obtain⟨k,hk,rfl,z,HZ,hO⟩:=hrel;by_cases hlt:k<8
      ·obtain⟨m,hm⟩:∃m,m=k/2:=⟨_,rfl⟩;have f1:(k:Int).tdiv 2=(m:Int):=(by rw[kP (by omega)];omega);have f2:(k:Int)/2=(m:Int):=(by omega);have YR:m<4:=(by omega);have hk10:k<10:=(by omega);have co:=hO.o.num (j:=m) YR;have fo:=Has.free hO.o m;have cq:=hO.q.ten hk10;rw[HG2.out k hk10]at cq;obtain⟨y,hy⟩:∃y,y=Nm.hw Q k:=⟨_,rfl⟩;obtain⟨x,hx⟩:∃x,x=Nm.wd z m:=⟨_,rfl⟩;rw[<-hy]at cq;rw[<-hx]at co;have hyl:y<4294967296:=(by rw[hy];exact Nm.mU _ _);have w0:IntKind.u64.wrap (y:Int)=(y:Int):=(by rw[IntKind.wrap_u64];omega);have HZO:Hid (∀j,j<4->j≠m->Nm.wd (Q%4294967296^(k+1)) j=Nm.wd z j):=h_ (fun j _ hjm=>by rw[HZ.out];exact Nm.x6 Q k j (by omega));rcases(by omega:k%2=0\/k%2=1)with hr|hr
       ·have f3:(k:Int).tmod 2=0:=(by rw[iV (by omega)];omega);have f4:(k:Int)%2=0:=(by omega);have hx0:x=0:=(by rw[hx,HZ.out,show k=2*m by omega];exact(Nm.uU Q m).1);have HV:Hid (y=Nm.wd (Q%4294967296^(k+1)) m):=h_ (by rw[hy,show k=2*m by omega];exact(Nm.uU Q m).2.symm);have hp:=hO.put _ m y YR HV.out HZO.out k1 k2 HO.out;subst hx0;clear hx hy hm hr HZ HZO HV hyl;(go_wp2_with fail);go_region
        (go_wp2_with fail);go_roundw
        case rel=>exact⟨k+1,by omega,by go_num,_,h_ rfl,hp.drew⟩
        case measure=>simp[intOf];omega
       ·have f3:(k:Int).tmod 2=1:=(by rw[iV (by omega)];omega);have f4:(k:Int)%2=1:=(by omega);have hxe:x=Nm.hw Q (2*m):=(by rw[hx,HZ.out,show k=2*m+1 by omega];exact(Nm.uU Q m).2);have hxl:x<4294967296:=(by rw[hxe];exact Nm.mU _ _);obtain⟨s,hs⟩:∃s,s=y*4294967296:=⟨_,rfl⟩;obtain⟨v,hv⟩:∃v,v=x+s:=⟨_,rfl⟩;have w1:IntKind.u64.wrap ((y:Int)*4294967296)=(s:Int):=(by rw[IntKind.wrap_u64];omega);have w2:IntKind.u64.wrap ((x:Int)+(s:Int))=(v:Int):=(by rw[IntKind.wrap_u64];omega);have HV:Hid (v=Nm.wd (Q%4294967296^(k+1)) m):=h_ (by rw[hv,hs,hxe,hy,show k=2*m+1 by omega];exact(Nm.DA Q m).symm);have hp:=hO.put _ m v YR HV.out HZO.out k1 k2 HO.out;clear hx hy hm hr HZ HZO HV hyl hxe hxl hs hv;(go_wp2_with fail);go_region
        (go_wp2_with fail);go_roundw
        case rel=>exact⟨k+1,by omega,by go_num,_,h_ rfl,hp.drew⟩
        case measure=>simp[intOf];omega
      ·obtain rfl:k=8:=(by omega);have HX:Hid (z=Q%Nm.ak):=h_ (by rw[HZ.out,Nm.Pn]);have c8:=hO.q.ten (j:=8) (by omega);have c9:=hO.q.ten (j:=9) (by omega);rw[HG2.out 8 (by omega)]at c8;rw[HG2.out 9 (by omega)]at c9;have hfit:=Nm.Fq ag7.out;obtain⟨y8,hy8⟩:∃y,y=Nm.hw Q 8:=⟨_,rfl⟩;obtain⟨y9,hy9⟩:∃y,y=Nm.hw Q 9:=⟨_,rfl⟩;rw[<-hy8]at c8 hfit;rw[<-hy9]at c9 hfit;obtain⟨b8,Wv⟩:∃b:Bool,b=((y8:Int)==0):=⟨_,rfl⟩;obtain⟨b9,VE⟩:∃b:Bool,b=((y9:Int)==0):=⟨_,rfl⟩
       have HB:Hid ((b8&&b9)=decide (Q<Nm.ak)):=h_ (by
        rw[Wv,VE];by_cases hq:Q<Nm.ak;obtain⟨a1,a2⟩:=hfit.2 hq;rw[a1,a2,aG hq];rfl;rw[aE hq];cases h8:((y8:Int)==0);rfl;cases h9:((y9:Int)==0);rfl;exact absurd (hfit.1 ⟨by simpa using h8,by simpa using h9⟩) hq)
       have hrO:bR≠bO:=k1;have hqr:bQ≠bR:=Ne.symm m1q;(go_wp2_with fail);refine VI.lG (by kernel_rfl) (fun w'=>Bl w w'/\Has w' bO (aa z) 26/\w'.cell? ⟨bQ,8,none⟩=some (i_ y8)/\w'.cell? ⟨bQ,9,none⟩=some (i_ y9)) (fun i v' _=>QL bQ z y8 y9 b8 b9 i v') (fun l _ w'=>Has w' bR (aa (if l.getD 9 false=true then z else 0)) 26) (fun _ _=>True) (fun _ _=>trivial) (fun _ _ _ _ _ _ h=>h) (by kernel_rfl) ⟨hO.be.drew,hO.o,c8,c9⟩ ?_ ?_ ?_;intro l hl;rw[hl 9];exact hO.r
       ·intro i op lz act wx ho' hn dq Z;obtain⟨hC1,hC2,hC3,hC4⟩:=Z.c;have hC:=Z.c;have hI:=Z.i;have hi:i<11:=(dA.1 ho').1;obtain rfl|rfl|rfl|rfl|rfl|rfl|rfl|rfl|rfl|rfl|rfl:i=0\/i=1\/i=2\/i=3\/i=4\/i=5\/i=6\/i=7\/i=8\/i=9\/i=10:=(by omega);all_goals obtain rfl:=Option.some.inj ho'
        exact br 0 Z (aq rfl) (kh rfl (Z.old' 17) hC2) rfl (by rw[mP _ _ _ (by rw[Z.size];decide) (by decide)];exact hI);exact br 1 Z (aq rfl) (Qm 8 rfl (Z.old' 14) rfl (by omega)) rfl (by rw[mP _ _ _ (by rw[Z.size];decide) (by decide)];exact hI);exact br 2 Z (aq rfl) (pg rfl (aw Z dq 1 88) hC3) rfl (by rw[mP _ _ _ (by rw[Z.size];decide) (by decide)];exact hI);exact br 3 Z (aq rfl) (vS rfl (aw Z dq 2 89) rfl) (by show Value.bool _=Value.bool b8;rw[Wv]) (by rw[mP _ _ _ (by rw[Z.size];decide) (by decide)];exact hI);exact br 4 Z (aq rfl) (fs rfl) (aw Z dq 3 90) (by rw[mP _ _ _ (by rw[Z.size];decide) (by decide)];exact hI);refine DB (C:=fun w'=>Bl w w'/\Has w' bO (aa z) 26/\w'.cell? ⟨bQ,8,none⟩=some (i_ y8)/\w'.cell? ⟨bQ,9,none⟩=some (i_ y9)) (S:=fun _ _=>True) (R:=fun v' _=>QL bQ z y8 y9 b8 b9 5 v') (J:=fun _ w'=>Has w' bR (aa (if(lz.setIfInBounds 5 true).getD 9 false=true then z else 0)) 26) (c:=b8) (j:=4) rfl (yg (o:=_) (d:=91) rfl rfl (Z.got 4 _ 91 rfl (dq ⟨4,.guard⟩ (by simp) rfl) rfl)) (fun hc hwt=>?_) (fun hc=>⟨fun h=>(by rw[hc]at h;cases h),(by rw[mP _ _ _ (by rw[Z.size];decide) (by decide)];exact hI)⟩);exact br 5 Z hwt (Qm 9 rfl (Z.old' 14) rfl (by omega)) (fun _=>rfl) (by rw[mP _ _ _ (by rw[Z.size];decide) (by decide)];exact hI);refine DB (C:=fun w'=>Bl w w'/\Has w' bO (aa z) 26/\w'.cell? ⟨bQ,8,none⟩=some (i_ y8)/\w'.cell? ⟨bQ,9,none⟩=some (i_ y9)) (S:=fun _ _=>True) (R:=fun v' _=>QL bQ z y8 y9 b8 b9 6 v') (J:=fun _ w'=>Has w' bR (aa (if(lz.setIfInBounds 6 true).getD 9 false=true then z else 0)) 26) (c:=b8) (j:=4) rfl (yg (o:=_) (d:=91) rfl rfl (Z.got 4 _ 91 rfl (dq ⟨4,.guard⟩ (by simp) rfl) rfl)) (fun hc hwt=>?_) (fun hc=>⟨fun h=>(by rw[hc]at h;cases h),(by rw[mP _ _ _ (by rw[Z.size];decide) (by decide)];exact hI)⟩);exact br 6 Z hwt (pg rfl ((aw Z dq 5 92) hc) hC4) (fun _=>rfl) (by rw[mP _ _ _ (by rw[Z.size];decide) (by decide)];exact hI);refine DB (C:=fun w'=>Bl w w'/\Has w' bO (aa z) 26/\w'.cell? ⟨bQ,8,none⟩=some (i_ y8)/\w'.cell? ⟨bQ,9,none⟩=some (i_ y9)) (S:=fun _ _=>True) (R:=fun v' _=>QL bQ z y8 y9 b8 b9 7 v') (J:=fun _ w'=>Has w' bR (aa (if(lz.setIfInBounds 7 true).getD 9 false=true then z else 0)) 26) (c:=b8) (j:=4) rfl (yg (o:=_) (d:=91) rfl rfl (Z.got 4 _ 91 rfl (dq ⟨4,.guard⟩ (by simp) rfl) rfl)) (fun hc hwt=>?_) (fun hc=>⟨fun h=>(by rw[hc]at h;cases h),(by rw[mP _ _ _ (by rw[Z.size];decide) (by decide)];exact hI)⟩);exact br 7 Z hwt (vS rfl ((aw Z dq 6 93) hc) rfl) (fun _=>by show Value.bool _=Value.bool b9;rw[VE]) (by rw[mP _ _ _ (by rw[Z.size];decide) (by decide)];exact hI);have e1:act.eval (.tmp 91)=.bool b8:=(aw Z dq 4 91);have e2:b8=true->act.eval (.tmp 94)=.bool b9:=(aw Z dq 7 94);refine br 8 Z (aq rfl) (BT rfl e1) ?_ (by rw[mP _ _ _ (by rw[Z.size];decide) (by decide)];exact hI);show(if b8=true then act.eval (.tmp 94)else .bool false)=.bool (b8&&b9);cases hb:b8;rfl;rw[aj rfl,e2 hb,dG];have l9:lz.getD 9 false=false:=hn;rw[l9,ah (by decide)]at hI;refine uD 9 Z (aq rfl) (nk rfl (Z.old' 6) (aw Z dq 0 87) hI rfl) ⟨below_setRow hC1 HR.out _,hC2.Vo _ _ (Ne.symm hrO),(iZ (w:=wx) (a:=⟨bQ,8,none⟩) (iE wx bR bQ _ hqr)).trans hC3,(iZ (w:=wx) (a:=⟨bQ,9,none⟩) (iE wx bR bQ _ hqr)).trans hC4⟩ trivial ?_;rw[FZ _ _ (by rw[Z.size];decide),aj rfl];exact hI.row _;exact br 10 Z (aq rfl) (iX rfl) (aw Z dq 8 95) (by rw[mP _ _ _ (by rw[Z.size];decide) (by decide)];exact hI)
       ·intro lz act wx hall Z;have hr:=Z.i;rw[hall 9 (by decide),aj rfl]at hr;have e6:act.eval (.tmp 6)=af bR:=Z.old' 6;have e7:act.eval (.tmp 7)=.bool (b8&&b9):=Z.got 10 _ 7 rfl (hall 10 (by decide)) rfl;have bj:=Z.c.1;have hdf:=Z.defers;obtain⟨tm,df⟩:=act;obtain rfl:df=[]:=hdf;clear Z hall;(go_wp2_with fail);refine ay (v:=.tuple #[.agg (aa z),.bool (b8&&b9)]) (mM Tryz.results192 _ _ _ _ e6 e7 hr) rfl ⟨?_,bj⟩;rw[HX.out,HB.out,HQQ.out]
