import Derived.Test.YtkbjaadjnbgfbaaGreatDoorHBunQ9
import Derived.Deep.DeepCutAuto
set_option maxRecDepth 100000
set_option maxHeartbeats 4000000
namespace Go.Proofs.YtkbjaadjnbgfbaaGreatDoor
open Go.RowKit
section
open Mem Sc
structure It where
 kind:Int
 size:Int
 n:Int
 name:List UInt8
 text:ByteArray
def It.ok(x:It):Prop:=x.name.length=32/\x.text.size<=4611686018427387904
def OY(x:It):List Value:=i_ x.kind::i_ x.size::i_ x.n::(Lib.byteCells x.name++[.string x.text])
def JT(x:It):Array Value:=(OY x).toArray
def i0:Array Value:=JT ⟨0,0,0,List.replicate 32 0,⟨#[]⟩⟩
section
variable{w:World}{ops:Array Oper}{rest:List Oper}{o:Oper}{a:Act}{Q:Exit->Act->World->Prop}
end
variable{w w':World}{b o:Nat}{cs:List Value}
theorem TD(h:w.rangeAt b o cs)(h0:0<cs.length):b<w.heap.size:=block_lt_of_cell (h 0 (cs[0]'h0) (aQ h0))
theorem lL(h:w.rangeAt b o cs)(hb:Bl w w')(h0:0<cs.length):w'.rangeAt b o cs:=fun j u hu=>by
 have hlt:=TD h h0;exact(hb.cell (p:=⟨b,o+j,none⟩) hlt).trans (h j u hu)
structure Hd where
 v:Int
 prev:List UInt8
 root:List UInt8
 time:Int
 bits:Int
 Vs:Int
def Hd.ok(h:Hd):Prop:=h.prev.length=32/\h.root.length=32
def Hd.P(h:Hd):Prop:=-2147483648<=h.v/\h.v<=2147483647/\0<=h.time/\h.time<=4294967295/\0<=h.bits/\h.bits<=4294967295/\0<=h.Vs/\h.Vs<=4294967295
instance (h:Hd):Decidable h.P:=by unfold Hd.P;exact inferInstance
def oX:List UInt8:=List.replicate 32 0
def fi:Hd:=⟨0,oX,oX,0,0,0⟩
def Hd.enc(h:Hd):List UInt8:=num 4 h.v++(h.prev++(h.root++(num 4 h.time++(num 4 h.bits++num 4 h.Vs))))
def Hd.wr(h:Hd):List UInt8:=if h.P then h.enc else fi.enc
def Hd.id(h:Hd):List UInt8:=if h.P then VH.gP (VH.gP h.enc)else oX
def i32(n:Nat):Int:=if n<2147483648 then(n:Int)else(n:Int)-4294967296
theorem iC:fi.ok:=⟨rfl,rfl⟩
variable{h:Hd}
theorem Hd.Wc(ho:h.ok):h.enc.length=80:=by simp only[Hd.enc,aT,pW,ho.1,ho.2]
theorem Hd.XP(hp:h.P):h.wr=h.enc:=aj hp
theorem Hd.aa2(hp:¬h.P):h.wr=fi.enc:=ah hp
theorem Hd.pI(hp:h.P):h.id=VH.gP (VH.gP h.enc):=aj hp
theorem Hd.tj(hp:¬h.P):h.id=oX:=ah hp
variable{C:World->Prop}{a:Act}{K:Act->Prop}
theorem su{o:Oper}(x:Operand)(ho:o.op=.load 28 x)(g off:Nat)(hx:a.eval x=.pointer (some ⟨g,off,none⟩))(l:List UInt8)(hs:(Lib.byteCells l).length=32)(hC:∀w',C w'->w'.rangeAt g off (Lib.byteCells l))(hk:K (a.put o.dst (.agg (ae l)))):o.quiet Tryz.prog a C K:=
 ⟨_,fun w' hw'=>by
  unfold Oper.quietAt
  have this:(execOp a.eval o).run Tryz.prog w'=.ok (.value (.agg (ae l))) w':=by
   unfold execOp;simp only[ho,hx,aB,run_loadAt_mid w' g off 28 (Lib.byteCells l) _ (hC w' hw') Tryz.underlying28 rfl (lR.trans (by rw[hs])),aM];rfl
  rw[this];exact⟨rfl,rfl⟩,hk⟩
theorem jW{g off:Nat}(h:w.rangeAt g off cs)(h0:0<cs.length):∀w',(∃p:Regrown,w'=Sort.grow (redrawn w p.d) p.os)->w'.rangeAt g off cs:=by rintro w' ⟨p,rfl⟩;exact lL h (below_regrown _ _ _) h0
theorem EU:∀w,(sizeOf 5).run Tryz.prog w=.ok 1 w:=fun _=>by kernel_rfl
theorem wy:Tryz.prog.eqGuardType Tryz.prog.depth 28=false:=by kernel_rfl
theorem DV{o:Oper}(t':TypeId)(x y:Operand)(ho:o.op=.binOp .neq 28 x y t')(xs ys:Array Value)(v:Value)(hx:a.eval x=.agg xs)(hy:a.eval y=.agg ys)(hq:∀w,(binOp .neq 28 (.agg xs) (.agg ys)).run Tryz.prog w=.ok v w)(hk:K (a.put o.dst v)):o.quiet Tryz.prog a C K:=
 ⟨_,fun w' hw'=>by
  unfold Oper.quietAt
  have this:(execOp a.eval o).run Tryz.prog w'=.ok (.value v) w':=by
   unfold execOp;simp only[ho,hx,hy,aB,cr,run_eqGuard_agg w' .neq 28 x y xs ys wy,aM,hq]
  rw[this];exact⟨rfl,rfl⟩,hk⟩
theorem nE.below{a:Option Addr}{ls:List (List UInt8)}(h:nE w a ls)(hb:Bl w w'):nE w' a ls:=fun h0=>by
 obtain⟨ab,ao,ha,hl,hc⟩:=h h0;exact⟨ab,ao,ha,by have:=hb.size;omega,fun i hi=>⟨(hc i hi).1,lL (hc i hi).2 hb (by rw[Lib.byteCells_length,(hc i hi).1];omega)⟩⟩
def cP(h:Hd):List Value:=i_ h.v::(Lib.byteCells h.prev++(Lib.byteCells h.root++[i_ h.time,i_ h.bits,i_ h.Vs]))
def aS(h:Hd):Array Value:=(cP h).toArray
theorem gQ(ho:h.ok):(cP h).length=68:=by simp[cP,Lib.byteCells_length,ho.1,ho.2]
theorem jI(ho:h.ok):(aS h).size=68:=by show(cP h).toArray.size=68;rw[iR];exact gQ ho
theorem tX(h:Hd):∀v∈cP h,v.oneCell'=true:=by
 intro v hv;simp only[cP,cJ,dL]at hv;rcases hv with rfl|hv|hv|hv
 rfl;exact Lib.byteCells_one _ v hv;exact Lib.byteCells_one _ v hv
 ·simp at hv;rcases hv with rfl|rfl|rfl<;>rfl
theorem AK(h:Hd):(aS h).all (·.oneCell')=true:=all_oneCell_toArray (tX h)
theorem kf:(Tryz.prog.info? 30).map (·.size)=some 68:=by kernel_rfl
def aX(w:World)(k:Nat)(h:Hd):Prop:=Has w k (aS h) 30
variable{w w':World}{k:Nat}{h:Hd}
theorem aX.lt(hh:aX w k h):k<w.heap.size:=Has.lt hh
theorem aX.on(hh:aX w k h)(hb:Bl w w'):aX w' k h:=dz hb hh hh.lt
theorem aX.grown{r:Option Nat}(hh:aX w k h)(hg:w.grownBy w' r)(hn:some k≠r):aX w' k h:=iF hg hh hn
theorem aX.pen{b:Nat}{v v':Value}(hh:aX w k h)(hs:bT w w' b v v')(hb:k≠b)(hv:v.ownBlock≠some k):aX w' k h:=hs.has hh hb hv
theorem aX.free(hh:aX w k h)(j:Nat):w.frozen? ⟨k,j,none⟩=false:=Has.free hh j
theorem aX.v(hh:aX w k h):w.cell? ⟨k,0,none⟩=some (i_ h.v):=Has.cell hh 0
theorem lj{l:List UInt8}(hl:l.length=32):(Lib.byteCells l).length=32:=by rw[Lib.byteCells_length,hl]
theorem L4(j:Nat)(u:Value)(hu:(Lib.byteCells h.prev)[j]?=some u):(cP h)[1+j]?=some u:=by rw[gx];show(Lib.byteCells h.prev++_)[j]?=some u;rw[dm (bk.1 hu).1];exact hu
theorem Kj(ho:h.ok)(j:Nat)(u:Value)(hu:(Lib.byteCells h.root)[j]?=some u):(cP h)[33+j]?=some u:=by rw[show 33+j=(32+j)+1 by omega];show(Lib.byteCells h.prev++_)[32+j]?=some u;rw[dE (by rw[lj ho.1];omega),lj ho.1,lK,dm (bk.1 hu).1];exact hu
theorem zW(ho:h.ok)(j:Nat):(cP h)[65+j]?=[Value.int .i64 h.time,i_ h.bits,i_ h.Vs][j]?:=by rw[show 65+j=(64+j)+1 by omega];show(Lib.byteCells h.prev++_)[64+j]?=_;rw[dE (by rw[lj ho.1];omega),lj ho.1,dE (by rw[lj ho.2];omega),lj ho.2,show 64+j-32-32=j by omega]
theorem aX.prev(hh:aX w k h):w.rangeAt k 1 (Lib.byteCells h.prev):=fun j u hu=>by
 rw[Has.cell hh (1+j)];show(cP h).toArray[1+j]?=some u;rw[dg];exact L4 j u hu
theorem aX.root(hh:aX w k h)(ho:h.ok):w.rangeAt k 33 (Lib.byteCells h.root):=fun j u hu=>by
 rw[Has.cell hh (33+j)];show(cP h).toArray[33+j]?=some u;rw[dg];exact Kj ho j u hu
theorem aX.time(hh:aX w k h)(ho:h.ok):w.cell? ⟨k,65,none⟩=some (i_ h.time):=by rw[Has.cell hh 65];show(cP h).toArray[65]?=_;rw[dg];exact zW ho 0
theorem aX.bits(hh:aX w k h)(ho:h.ok):w.cell? ⟨k,66,none⟩=some (i_ h.bits):=by rw[Has.cell hh 66];show(cP h).toArray[66]?=_;rw[dg];exact zW ho 1
theorem aX.Vs(hh:aX w k h)(ho:h.ok):w.cell? ⟨k,67,none⟩=some (i_ h.Vs):=by rw[Has.cell hh 67];show(cP h).toArray[67]?=_;rw[dg];exact zW ho 2
theorem tQ(b:Nat)(t:TypeId):∀(vs:List Value)(o:Nat)(w:World)(A B C:List Value),Has w b (A++(B++C)).toArray t->A.length=o->B.length=vs.length->Has (w.setCells b o vs) b (A++(vs++C)).toArray t
 | [],o,w,A,B,C,hh,ha,hb=>by
  obtain rfl:B=[]:=gE hb;exact hh
 | v::r,o,w,A,B,C,hh,ha,hb=>by
  obtain⟨x,B',rfl⟩:∃x B',B=x::B':=by
   cases B with
   | nil=>simp at hb
   | cons x B'=>exact⟨x,B',rfl⟩
  have h1:=Has.set (i:=o) hh v
  have e:(A++(x::B'++C)).toArray.setIfInBounds o v=(A++[v]++(B'++C)).toArray:=by
   rw[da,jM _ _ (by omega),show o-A.length=0 by omega];simp
  rw[e]at h1;have:=tQ b t r (o+1) _ (A++[v]) B' C h1 (by simp[ha]) (by simpa using hb);show Has ((w.setCell ⟨b,o,none⟩ v).setCells b (o+1) r) b _ t;simpa using this
theorem ML(b c:Nat)(hc:c≠b):∀(vs:List Value)(o:Nat)(w:World),(w.setCells b o vs).heap[c]?=w.heap[c]?
 | [],_,_=>rfl
 | v::r,o,w=>by
  show((w.setCell ⟨b,o,none⟩ v).setCells b (o+1) r).heap[c]?=_;rw[ML b c hc r];exact Below.heap_setCell _ _ _ _ hc
theorem Oh(b:Nat):∀(vs:List Value)(o:Nat)(w:World),(w.setCells b o vs).os=w.os/\(w.setCells b o vs).tape=w.tape/\(w.setCells b o vs).output=w.output/\(w.setCells b o vs).heap.size=w.heap.size
 | [],_,_=>⟨rfl,rfl,rfl,rfl⟩
 | v::r,o,w=>by
  obtain⟨h1,h2,h3,h4⟩:=Oh b r (o+1) (w.setCell ⟨b,o,none⟩ v);exact⟨h1,h2,h3,h4.trans (by simp[World.setCell])⟩
theorem aX.there(hh:aX w k h)(ho:h.ok)(o n:Nat)(hn:o+n<=68):w.there k o n:=fun j hj=>⟨by
 rw[Has.cell hh (o+j)];have hz:=jI ho;rw[ju (by omega)];rfl,hh.free _⟩
section
variable{ops:Array Oper}{rest:List Oper}{o:Oper}{a:Act}{Q:Exit->Act->World->Prop}
theorem dU(hgd:o.guard=none)(x:Operand)(ho:o.op=.load 30 x)(g:Nat)(hx:a.eval x=af g)(hg:aX w g h)(hs:(aS h).size=68)(hk:wpList Tryz.prog ops Q rest (a.put o.dst (.agg (aS h))) w):wpList Tryz.prog ops Q (o::rest) a w:=
 iQ hgd 30 x ho g hx 30 (aS h) (0,0) _ (Has.out hg) Tryz.underlying30 rfl (kf.trans (by rw[hs])) hk
theorem mL(hgd:o.guard=none)(x:Operand)(ho:o.op=.load 30 x)(g off:Nat)(hx:a.eval x=.pointer (some ⟨g,off,none⟩))(h:Hd)(hg:w.rangeAt g off (cP h))(hs:(cP h).length=68)(hk:wpList Tryz.prog ops Q rest (a.put o.dst (.agg (aS h))) w):wpList Tryz.prog ops Q (o::rest) a w:=
 wpList_load_mid hgd 30 x ho g off hx (cP h) _ hg Tryz.underlying30 rfl (kf.trans (by rw[hs])) hk
theorem np(hgd:o.guard=none)(x y:Operand)(ho:o.op=.store 30 x y)(g:Nat)(cz:Array Value)(h':Hd)(hx:a.eval x=af g)(hy:a.eval y=.agg cz)(e:cz=aS h')(hs':(aS h').size=68)(hg:aX w g h)(hs:(aS h).size=68)(hk:wpList Tryz.prog ops Q rest (a.put o.dst undef) (w.setRow g (aS h'))):wpList Tryz.prog ops Q (o::rest) a w:=by subst e;exact eI hgd 30 x y ho g (aS h') hx hy 30 (aS h) (Has.out hg) (kf.trans (by rw[hs'])) (by rw[hs,hs']) (AK h') hk
end
theorem fT(w:World)(h:Hd):aX (w.alloc (.cells (aS h) 30)) w.heap.size h:=Has.new _ _
theorem uF(w:World)(ob:Obj)(h:Hd):aX ((w.alloc ob).alloc (.cells (aS h) 30)) (w.heap.size+1) h:=Has.Vt ob _ _
theorem oS{C:World->Prop}{a:Act}{o:Oper}{K:Act->Prop}(x:Operand)(ho:o.op=.load 30 x)(g off:Nat)(hx:a.eval x=.pointer (some ⟨g,off,none⟩))(h:Hd)(hs:(cP h).length=68)(hC:∀w',C w'->w'.rangeAt g off (cP h))(hk:K (a.put o.dst (.agg (aS h)))):o.quiet Tryz.prog a C K:=
 ⟨_,fun w' hw'=>by
  unfold Oper.quietAt
  have this:(execOp a.eval o).run Tryz.prog w'=.ok (.value (.agg (aS h))) w':=by
   unfold execOp;simp only[ho,hx,aB,run_loadAt_mid w' g off 30 (cP h) _ (hC w' hw') Tryz.underlying30 rfl (kf.trans (by rw[hs])),aM];rfl
  rw[this];exact⟨rfl,rfl⟩,hk⟩
theorem aX.range(hh:aX w k h):w.rangeAt k 0 (cP h):=fun j u hu=>by
 rw[cy,Has.cell hh j];show(cP h).toArray[j]?=some u;rw[dg];exact hu
end
open Mem Sc
theorem Er(n:Int)(w:World):aU 151 #[i_ n] w fun e w'=>e=.returned (.bool (decide (0<=n)&&decide (n<=4294967295)))/\w=w':=by
 generalize t0:decide (0<=n)=a;generalize t1:decide (n<=4294967295)=b;go_enter Tryz.func151,Tryz.ntmps151;cases a
 case' true=>
  cases b
 all_goals
  go_wp2_with fail
  go_ret;exact⟨rfl,rfl⟩
theorem F8(h:Hd)(ho:h.ok)(g0 g1 g2 g3 g4:Bool)(t0:decide ((-2147483648:Int)<=h.v)=g0)(t1:decide (h.v<=2147483647)=g1)(C0:Hid (∀w,aU 151 #[i_ h.time] w fun e w'=>e=.returned (.bool g2)/\w=w'))(C1:Hid (∀w,aU 151 #[i_ h.bits] w fun e w'=>e=.returned (.bool g3)/\w=w'))(C2:Hid (∀w,aU 151 #[i_ h.Vs] w fun e w'=>e=.returned (.bool g4)/\w=w'))(w:World):ar 118 #[.agg (aS h)] w (.bool (g0&&g1&&g2&&g3&&g4)):=by
 have hH:=fT w h;have hB:Bl w (w.alloc (.cells (aS h) 30)):=cu;have c0:=hH.v;have c1:=hH.time ho;have c2:=hH.bits ho;have c3:=hH.Vs ho;obtain⟨v,p,q,t,b,n⟩:=h;simp only at*;clear hH ho;go_enter Tryz.func118,Tryz.ntmps118;cases g0
 case' true=>
  cases g1
  case' true=>
   go_wp2_with fail
   refine(C0.out _).mono ?_;rintro e w2 ⟨rfl,rfl⟩;cases g2
   case' true=>
    (go_wp2_with fail);refine(C1.out _).mono ?_;rintro e w3 ⟨rfl,rfl⟩;cases g3
    case' true=>
     (go_wp2_with fail);refine(C2.out _).mono ?_;rintro e w4 ⟨rfl,rfl⟩;cases g4
 all_goals
  go_wp2_with fail
  go_ret;exact⟨rfl,hB⟩
theorem r7(h:Hd)(ho:h.ok)(w:World):ar 118 #[.agg (aS h)] w (.bool (decide h.P)):=by
 have e:decide h.P=(decide ((-2147483648:Int)<=h.v)&&decide (h.v<=2147483647)&&(decide (0<=h.time)&&decide (h.time<=4294967295))&&(decide (0<=h.bits)&&decide (h.bits<=4294967295))&&(decide (0<=h.Vs)&&decide (h.Vs<=4294967295))):=by
  rw[gJ];simp only[fp,dv];unfold Hd.P;omega
 rw[e];exact F8 h ho _ _ _ _ _ rfl rfl (h_ (Er h.time)) (h_ (Er h.bits)) (h_ (Er h.Vs)) w
theorem Dr(h:Hd)(ho:h.ok)(g0 g1 g2 g3 g4 g5 g6 g7:Bool)(t0:decide ((-2147483648:Int)<=h.v)=g0)(t1:decide (h.v<=2147483647)=g1)(t2:decide (0<=h.time)=g2)(t3:decide (h.time<4294967296)=g3)(t4:decide (0<=h.bits)=g4)(t5:decide (h.bits<4294967296)=g5)(t6:decide (0<=h.Vs)=g6)(t7:decide (h.Vs<4294967296)=g7)(w:World):ar 73 #[.agg (aS h)] w (.bool (g0&&g1&&g2&&g3&&g4&&g5&&g6&&g7)):=by
 have hH:=fT w h;have hB:Bl w (w.alloc (.cells (aS h) 30)):=cu;have c0:=hH.v;have c1:=hH.time ho;have c2:=hH.bits ho;have c3:=hH.Vs ho;obtain⟨v,p,q,t,b,n⟩:=h;simp only at*;clear hH ho;go_enter Tryz.func73,Tryz.ntmps73;cases g0
 case' true=>
  cases g1
  case' true=>
   cases g2
   case' true=>
    cases g3
    case' true=>
     cases g4
     case' true=>
      cases g5
      case' true=>
       cases g6
       case' true=>
        cases g7
 all_goals
  go_wp2_with fail
  go_ret;exact⟨rfl,hB⟩
theorem qD(h:Hd)(ho:h.ok)(w:World):ar 73 #[.agg (aS h)] w (.bool (decide h.P)):=by
 have e:decide h.P=(decide ((-2147483648:Int)<=h.v)&&decide (h.v<=2147483647)&&decide (0<=h.time)&&decide (h.time<4294967296)&&decide (0<=h.bits)&&decide (h.bits<4294967296)&&decide (0<=h.Vs)&&decide (h.Vs<4294967296)):=by
  rw[gJ];simp only[fp,dv];unfold Hd.P;omega
 rw[e];exact Dr h ho _ _ _ _ _ _ _ _ rfl rfl rfl rfl rfl rfl rfl rfl w
theorem IG(o:Nat):∀(l:List (Value×Nat))(b:Array Value),(l.foldl (fun(cs:Array Value)(x:Value×Nat)=>match x with|(c,j)=>cs.setIfInBounds (o+j) c) b).size=b.size
 | [],_=>rfl
 | x::l,b=>by rw[jZ,IG o l];simp
theorem Ic(n:Nat)(z xs ys:Array Value)(hz:z.size=2*n)(hx:xs.size=n)(hy:ys.size=n):Instr.fill (fun i=>some (i*n,n)) z [(0,.agg xs),(1,.agg ys)]=some (xs++ys):=by
 have hsx:(Value.agg xs).cells.size=n:=hx;have hsy:(Value.agg ys).cells.size=n:=hy;unfold Instr.fill;simp only[hsx,Nat.zero_mul,cy,hz];rw[ah (by simp;omega)];obtain⟨f1,hf1⟩:∃f1,f1=(List.foldl (fun(cs:Array Value)(x:Value×Nat)=>match x with|(c,j)=>cs.setIfInBounds (0+j) c) z (xs.toList.zipIdx 0)):=⟨_,rfl⟩
 have e1:∀j,f1[j]?=if j<n then xs[j]? else z[j]?:=fun j=>by
  have h:=Ao 0 xs.toList 0 z j;rw[hf1,h,g_,hx,hz];by_cases hj:j<n;rw[aj ⟨by omega,by omega,by omega⟩,aj hj];simp;rw[ah (by omega),ah hj]
 have s1:f1.size=2*n:=by rw[hf1,IG,hz]
 have g1:Array.foldl (fun cs x=>cs.setIfInBounds x.snd x.fst) z (Value.agg xs).cells.zipIdx=f1:=by
  rw[hf1,<-Array.foldl_toList,Array.toList_zipIdx];simp only[cy];rfl
 rw[g1];unfold Instr.fill;simp only[hsy,Nat.one_mul,s1];rw[ah (by simp;omega)];unfold Instr.fill;congr 1;apply j8;intro j;rw[<-Array.foldl_toList,Array.toList_zipIdx];have h:=Ao n ys.toList 0 f1 j;show(List.foldl _ f1 (ys.toList.zipIdx 0))[j]?=_;refine h.trans ?_;rw[g_,hy,s1,e1,jJ,hx];by_cases hj:j<n;rw[ah (by omega),aj hj,aj hj]
 ·by_cases hj2:j<2*n;rw[aj (by omega),ah hj];simp;rw[ah (by omega),ah hj,ah hj,mZ (by omega),mZ (by omega)]
theorem QT(x y:List UInt8):ae (x++y)=ae x++ae y:=by simp[ae]
theorem S4(x y:List UInt8)(hx:x.length=32)(hy:y.length=32)(w:World):(Instr.buildSlice 69 2 #[(0,.agg (ae x)),(1,.agg (ae y))]).run Tryz.prog w=.ok (.slice (some ⟨w.heap.size,0,none⟩) 2 2) (w.alloc (.cells (ae (x++y)) 28)):=by obtain⟨i,z,hi,hz,h1,h2,h3⟩:=Ej;refine run_buildSlice w 69 28 2 _ (ae (x++y)) i z Tryz.underlying69 hi hz (by rw[h1];decide) (by rw[h1];decide) ?_;rw[h1,QT];exact Ic 32 _ _ _ (by simp) (uh hx) (uh hy)
variable{w:World}
theorem P1{ops:Array Oper}{rest:List Oper}{o:Oper}{a:Act}{Q:Exit->Act->World->Prop}(hgd:o.guard=none)(p q:Operand)(ho:o.op=.buildSlice 69 2 #[(0,p),(1,q)])(x y:List UInt8)(hp:a.eval p=.agg (ae x))(hq:a.eval q=.agg (ae y))(hx:x.length=32)(hy:y.length=32)(h:wpList Tryz.prog ops Q rest (a.put o.dst (.slice (some ⟨w.heap.size,0,none⟩) 2 2)) (w.alloc (.cells (ae (x++y)) 28))):wpList Tryz.prog ops Q (o::rest) a w:=
 gk hgd fun _ hK=>by
  unfold Oper.wp execOp;simp only[ho,aB];rw[show(#[(0,p),(1,q)]:Array (Nat×Operand)).map (fun(i,x)=>(i,a.eval x))=#[(0,.agg (ae x)),(1,.agg (ae y))] by simp[hp,hq]];rw[S4 x y hx hy w];exact hK _ _ h
variable{b k:Nat}{v:Value}
theorem cC.Xn{l:List UInt8}(h:cC w b v l)(hk:k≠b)(hv:v.ownBlock≠some k)(cs:Array Value):cC (w.setRow k cs) b v l:=⟨Has.Vo h.cell k cs (Ne.symm hk),h.own.kept (row:=some k) ⟨rfl,rfl,rfl,by simp[World.setRow],fun j _ hn=>iE w k j cs (fun e=>hn (by rw[e]))⟩ (.inr hv)⟩
theorem C9(b:Nat)(v:Value)(l:List UInt8)(x y z:Int)(w:World)(H:Nat)(hH:w.heap.size=H)(h:cC w b v l)(hsz:l.length<=70368744177600):aU 194 #[af b,i_ 4,.slice (bs H) 3 3] (w.alloc (.cells #[i_ x,i_ y,i_ z] 3)) fun r w'=>gu w b v (l++(num 4 x++(num 4 y++num 4 z))) r w':=by
 subst hH;have hb:Below w.heap.size w (w.alloc (.cells #[i_ x,i_ y,i_ z] 3)):=cu;refine(pj b v l 4 _ [x,y,z] 3 3 rfl _ (h.below hb) (nN.new w h _ [x,y,z] _ rfl) (by omega)).mono ?_;rintro r w' ⟨v',rfl,hP,hS⟩;have e:nums (jH 4 8) [x,y,z]=num 4 x++(num 4 y++num 4 z):=by simp[nums];rfl
 rw[e]at hP;exact⟨v',rfl,hP,hS.below hb⟩
theorem IX(b:Nat)(v:Value)(l:List UInt8)(x y:List UInt8)(hx:x.length=32)(hy:y.length=32)(w:World)(H:Nat)(hH:w.heap.size=H)(h:cC w b v l)(hsz:l.length<=70368744177600):aU 195 #[af b,.slice (bs H) 2 2] (w.alloc (.cells (ae (x++y)) 28)) fun r w'=>gu w b v (l++(x++y)) r w':=by
 subst hH;have hlt:=h.lt;have hb:Below w.heap.size w (w.alloc (.cells (ae (x++y)) 28)):=cu;have hN:Has (w.alloc (.cells (ae (x++y)) 28)) w.heap.size (ae (x++y)) 28:=Has.new _ _;refine(Ra b v l _ [x,y] 2 2 rfl _ (h.below hb) (fun _=>⟨w.heap.size,0,rfl,by rw[eZ];omega,fun i hi=>?_⟩) (fun _ p hp=>?_) (fun z hz=>by simp at hz;rcases hz with rfl|rfl;exact hx;exact hy) (by omega)).mono ?_
 ·have h2:i<2:=hi;obtain rfl|rfl:i=0\/i=1:=by omega
  ·refine⟨hx,fun j u hu=>?_⟩;rw[hN.cell];change(Lib.byteCells x)[j]?=some u at hu
   rw[show ae (x++y)=(Lib.byteCells (x++y)).toArray from il.1 (by rw[lP]),Lib.byteCells_append,dg,show 0+0*32+j=j by omega,
    dm (bk.1 hu).1]
   exact hu
  ·refine⟨hy,fun j u hu=>?_⟩;rw[hN.cell];change(Lib.byteCells y)[j]?=some u at hu
   rw[show ae (x++y)=(Lib.byteCells (x++y)).toArray from il.1 (by rw[lP]),Lib.byteCells_append,dg,show 0+1*32+j=32+j by omega,
    dE (by rw[Lib.byteCells_length,hx];omega),Lib.byteCells_length,hx,lK]
   exact hu
 obtain rfl:=Option.some.inj hp;exact⟨by show w.heap.size≠b;omega,fun e=>absurd (h.V3 (k:=w.heap.size) e).2 (by omega)⟩
 ·rintro r w' ⟨v',rfl,hP,hS⟩;have e:[x,y].flatten=x++y:=by simp
  rw[e]at hP;exact⟨v',rfl,hP,hS.below hb⟩
theorem Of{w1:World}{v1:Value}(hS:bT w w1 b v v1)(hk:k<w.heap.size)(hv:v.ownBlock≠some k):v1.ownBlock≠some k:=fun e=>by
 rcases hS.lies k e with h|h
 exact hv h;omega
theorem BJ(l:List UInt8)(h:Hd):l++num 4 h.v++(h.prev++h.root)++(num 4 h.time++(num 4 h.bits++num 4 h.Vs))=l++h.enc:=by simp only[Hd.enc,iS]
theorem RE(b:Nat)(v:Value)(l:List UInt8)(h:Hd)(ho:h.ok)(hp:h.P)(w:World)(hP:cC w b v l)(hsz:l.length<=70368744177000):aU 177 #[af b,.agg (aS h)] w fun r w'=>gu w b v (l++h.enc) r w':=by
 have CG:=r7 h ho;rw[aG hp]at CG;have KG:=h_ CG;clear CG hp;have hH:=fT w h;have hB:Below w.heap.size w (w.alloc (.cells (aS h) 30)):=cu;have hP1:=hP.below hB;have hbk:w.heap.size≠b:=by have:=hP.lt;omega
 have hvk:v.ownBlock≠some w.heap.size:=fun e=>by have:=(hP.V3 e).2;omega
 have hz:=jI ho;clear hP;go_enter Tryz.func177,Tryz.ntmps177;go_upto_region 1 with fail
 generalize hk:w.heap.size=k at hH hbk hvk|-;generalize World.alloc _ _=w1 at*;go_wp2_with (with_reducible refine dU rfl _ rfl _ rfl hH hz ?_)
 refine(KG.out _).mono ?_;rintro r w2 ⟨rfl,hb2⟩;have hP2:=hP1.below hb2;replace hB:=ai hB hb2;replace hH:=hH.on hb2;clear hb2 hP1 KG;have hH3:=hH;have hP3:=hP2;obtain⟨w3,hw3⟩:∃w3,w3=w2:=⟨_,rfl⟩;obtain⟨h',hh'⟩:∃h',h'=h:=⟨_,rfl⟩;have HE:Hid (h'.enc=h.enc):=h_ (by rw[hh']);rw[<-hh']at hH3 ho|-;rw[<-hw3]at hB hH3 hP3|-;have ho':=ho;clear hH hP2 ho hz hh' hw3;have hk3:k<w3.heap.size:=hH3.lt;have c0:=hH3.v;have C1:=h_ (BU b v l 4 4 rfl h'.v w3 w3.heap.size rfl hP3 (by omega));go_wp2_with fail
 refine C1.out.mono ?_;rintro r w4 ⟨v4,rfl,XQ,Yk⟩;have XR:=hH3.pen Yk (Ne.symm hbk).symm hvk;have hv4:=Of Yk hk3 hvk;have hk4:k<w4.heap.size:=XR.lt;clear C1 c0 hH3 hP3;have e4:(l++num 4 h'.v).length<=70368744177100:=by rw[aT,pW];omega
 have r1:=XR.prev;have r2:=XR.root ho';have s1:=lj ho'.1;have s2:=lj ho'.2;have C2:=h_ (IX b v4 _ h'.prev h'.root ho'.1 ho'.2 w4 w4.heap.size rfl XQ (by omega));have H1:=h_ ho'.1;have H2:=h_ ho'.2
 go_wp2_with (first
  | (with_reducible refine jL rfl _ rfl k 1 rfl h'.prev r1 s1 ?_)
  | (with_reducible refine jL rfl _ rfl k 33 rfl h'.root r2 s2 ?_)
  | (with_reducible refine P1 rfl _ _ rfl _ _ rfl rfl H1.out H2.out ?_))
 refine C2.out.mono ?_;rintro r w5 ⟨v5,rfl,Yj,hS5⟩;have hH5:=XR.pen hS5 hbk hv4;clear C2 r1 r2 s1 s2 XR XQ
 have e5:(l++num 4 h'.v++(h'.prev++h'.root)).length<=70368744177500:=by
  simp only[aT,H1.out,H2.out]at e4|-;omega
 have c1:=hH5.time ho';have c2:=hH5.bits ho';have c3:=hH5.Vs ho';have C3:=h_ (C9 b v5 _ h'.time h'.bits h'.Vs w5 w5.heap.size rfl Yj (by omega));rw[BJ]at C3;go_wp2_with fail
 refine C3.out.mono ?_;rintro r w6 ⟨v6,rfl,hP6,hS6⟩;go_wp2_with fail
 go_end0
 exact⟨v6,rfl,by rw[<-HE.out];exact hP6,((Yk.trans hS5).trans hS6).below hB⟩
theorem OM(b:Nat)(v:Value)(l:List UInt8)(h:Hd)(ho:h.ok)(hp:¬h.P)(w:World)(hP:cC w b v l)(hsz:l.length<=70368744177000):aU 177 #[af b,.agg (aS h)] w fun r w'=>gu w b v (l++fi.enc) r w':=by
 have CG:=r7 h ho;rw[aE hp]at CG;have KG:=h_ CG;clear CG hp;have hH:=fT w h;have hB:Below w.heap.size w (w.alloc (.cells (aS h) 30)):=cu;have hP1:=hP.below hB;have hbk:w.heap.size≠b:=by have:=hP.lt;omega
 have hvk:v.ownBlock≠some w.heap.size:=fun e=>by have:=(hP.V3 e).2;omega
 have hz:=jI ho;clear hP;go_enter Tryz.func177,Tryz.ntmps177;go_upto_region 1 with fail
 generalize hk:w.heap.size=k at hH hbk hvk|-;generalize World.alloc _ _=w1 at*;go_wp2_with (with_reducible refine dU rfl _ rfl _ rfl hH hz ?_)
 refine(KG.out _).mono ?_;rintro r w2 ⟨rfl,hb2⟩;have hP2:=hP1.below hb2;replace hB:=ai hB hb2;replace hH:=hH.on hb2;clear hb2 hP1 KG;obtain⟨h',hh'⟩:∃h',h'=fi:=⟨_,rfl⟩;have ho':h'.ok:=by rw[hh'];exact iC
 have hz':=jI ho';have aa3:aS fi=aS h':=by rw[hh']
 have aa4:=h_ aa3;have HE:Hid (h'.enc=fi.enc):=h_ (by rw[hh']);clear aa3 hh';go_upto_region 3 with(with_reducible refine np rfl _ _ rfl _ _ h' rfl rfl aa4.out hz' hH hz ?_)
 have hH3:aX (w2.setRow k (aS h')) k h':=Has.row hH _;have hb3:Below w.heap.size w2 (w2.setRow k (aS h')):=below_setRow cg (by omega) _;have hP3:cC (w2.setRow k (aS h')) b v l:=cC.Xn hP2 hbk hvk _;replace hB:=below_setRow hB (show w.heap.size<=k by omega) (aS h');generalize w2.setRow k (aS h')=w3 at*;clear hH hP2 ho hz aa4 hb3;have hk3:k<w3.heap.size:=hH3.lt;have c0:=hH3.v;have C1:=h_ (BU b v l 4 4 rfl h'.v w3 w3.heap.size rfl hP3 (by omega));go_wp2_with fail
 refine C1.out.mono ?_;rintro r w4 ⟨v4,rfl,XQ,Yk⟩;have XR:=hH3.pen Yk (Ne.symm hbk).symm hvk;have hv4:=Of Yk hk3 hvk;have hk4:k<w4.heap.size:=XR.lt;clear C1 c0 hH3 hP3;have e4:(l++num 4 h'.v).length<=70368744177100:=by rw[aT,pW];omega
 have r1:=XR.prev;have r2:=XR.root ho';have s1:=lj ho'.1;have s2:=lj ho'.2;have C2:=h_ (IX b v4 _ h'.prev h'.root ho'.1 ho'.2 w4 w4.heap.size rfl XQ (by omega));have H1:=h_ ho'.1;have H2:=h_ ho'.2
 go_wp2_with (first
  | (with_reducible refine jL rfl _ rfl k 1 rfl h'.prev r1 s1 ?_)
  | (with_reducible refine jL rfl _ rfl k 33 rfl h'.root r2 s2 ?_)
  | (with_reducible refine P1 rfl _ _ rfl _ _ rfl rfl H1.out H2.out ?_))
 refine C2.out.mono ?_;rintro r w5 ⟨v5,rfl,Yj,hS5⟩;have hH5:=XR.pen hS5 hbk hv4;clear C2 r1 r2 s1 s2 XR XQ
 have e5:(l++num 4 h'.v++(h'.prev++h'.root)).length<=70368744177500:=by
  simp only[aT,H1.out,H2.out]at e4|-;omega
 have c1:=hH5.time ho';have c2:=hH5.bits ho';have c3:=hH5.Vs ho';have C3:=h_ (C9 b v5 _ h'.time h'.bits h'.Vs w5 w5.heap.size rfl Yj (by omega));rw[BJ]at C3;go_wp2_with fail
 refine C3.out.mono ?_;rintro r w6 ⟨v6,rfl,hP6,hS6⟩;go_wp2_with fail
 go_end0
 exact⟨v6,rfl,by rw[<-HE.out];exact hP6,((Yk.trans hS5).trans hS6).below hB⟩
theorem Nu(b:Nat)(v:Value)(l:List UInt8)(h:Hd)(ho:h.ok)(w:World)(hP:cC w b v l)(hsz:l.length<=70368744177000):aU 177 #[af b,.agg (aS h)] w fun r w'=>gu w b v (l++h.wr) r w':=by by_cases hp:h.P;rw[Hd.XP hp];exact RE b v l h ho hp w hP hsz;rw[Hd.aa2 hp];exact OM b v l h ho hp w hP hsz
theorem FD(w:World):aX (w.alloc (.cells Tryz.zeroCells30 30)) w.heap.size fi:=fT w fi
