import Derived.Test.YtkbjaadjnbgfbaaGreatDoorBBunQ9
import Derived.Deep.DeepCutAuto
set_option maxRecDepth 100000
set_option maxHeartbeats 4000000
namespace Go.Proofs.YtkbjaadjnbgfbaaGreatDoor
open Go.RowKit
section
open Mem Sc
structure It where
 kind:Int
 size:Int
 n:Int
 name:List UInt8
 text:ByteArray
def It.ok(x:It):Prop:=x.name.length=32/\x.text.size<=4611686018427387904
def Eh(x:It):List Value:=i_ x.kind::i_ x.size::i_ x.n::(Lib.byteCells x.name++[.string x.text])
def Lv(x:It):Array Value:=(Eh x).toArray
def i0:Array Value:=Lv ⟨0,0,0,List.replicate 32 0,⟨#[]⟩⟩
section
variable{w:World}{ops:Array Oper}{rest:List Oper}{o:Oper}{a:Act}{Q:Exit->Act->World->Prop}
end
variable{w w':World}{b o:Nat}{cs:List Value}
theorem Od(h:w.rangeAt b o cs)(h0:0<cs.length):b<w.heap.size:=block_lt_of_cell (h 0 (cs[0]'h0) (List.getElem?_eq_getElem h0))
theorem iE(h:w.rangeAt b o cs)(hb:Bl w w')(h0:0<cs.length):w'.rangeAt b o cs:=fun j u hu=>by
 have hlt:=Od h h0;exact(hb.cell (p:=⟨b,o+j,none⟩) hlt).trans (h j u hu)
structure Hd where
 v:Int
 prev:List UInt8
 root:List UInt8
 time:Int
 bits:Int
 R5:Int
def Hd.ok(h:Hd):Prop:=h.prev.length=32/\h.root.length=32
def Hd.P(h:Hd):Prop:=-2147483648<=h.v/\h.v<=2147483647/\0<=h.time/\h.time<=4294967295/\0<=h.bits/\h.bits<=4294967295/\0<=h.R5/\h.R5<=4294967295
instance (h:Hd):Decidable h.P:=by unfold Hd.P;exact inferInstance
def kL:List UInt8:=List.replicate 32 0
def du:Hd:=⟨0,kL,kL,0,0,0⟩
def Hd.enc(h:Hd):List UInt8:=num 4 h.v++(h.prev++(h.root++(num 4 h.time++(num 4 h.bits++num 4 h.R5))))
def Hd.wr(h:Hd):List UInt8:=if h.P then h.enc else du.enc
def Hd.id(h:Hd):List UInt8:=if h.P then Sh.eu (Sh.eu h.enc)else kL
def i32(n:Nat):Int:=if n<2147483648 then(n:Int)else(n:Int)-4294967296
theorem fe:du.ok:=⟨rfl,rfl⟩
variable{h:Hd}
theorem Hd.SU(ho:h.ok):h.enc.length=80:=by simp only[Hd.enc,List.length_append,k7,ho.1,ho.2]
theorem Hd.Ur(hp:h.P):h.wr=h.enc:=if_pos hp
theorem Hd.WR(hp:¬h.P):h.wr=du.enc:=if_neg hp
theorem Hd.kS(hp:h.P):h.id=Sh.eu (Sh.eu h.enc):=if_pos hp
theorem Hd.oE(hp:¬h.P):h.id=kL:=if_neg hp
variable{C:World->Prop}{a:Act}{K:Act->Prop}
theorem nB{o:Oper}(x:Operand)(ho:o.op=.load 28 x)(g off:Nat)(hx:a.eval x=.pointer (some ⟨g,off,none⟩))(l:List UInt8)(hs:(Lib.byteCells l).length=32)(hC:∀w',C w'->w'.rangeAt g off (Lib.byteCells l))(hk:K (a.put o.dst (.agg (ae l)))):o.quiet Tryz.prog a C K:=
 ⟨_,fun w' hw'=>by
  unfold Oper.quietAt
  have this:(execOp a.eval o).run Tryz.prog w'=.ok (.value (.agg (ae l))) w':=by
   unfold execOp;simp only[ho,hx,Sem.run_bind,run_loadAt_mid w' g off 28 (Lib.byteCells l) _ (hC w' hw') Tryz.underlying28 rfl (iy.trans (by rw[hs])),Result.andThen_ok];rfl
  rw[this];exact⟨rfl,rfl⟩,hk⟩
theorem gv{g off:Nat}(h:w.rangeAt g off cs)(h0:0<cs.length):∀w',(∃p:Regrown,w'=Sort.grow (redrawn w p.d) p.os)->w'.rangeAt g off cs:=by rintro w' ⟨p,rfl⟩;exact iE h (below_regrown _ _ _) h0
theorem BW:∀w,(sizeOf 5).run Tryz.prog w=.ok 1 w:=fun _=>by kernel_rfl
theorem pH:Tryz.prog.eqGuardType Tryz.prog.depth 28=false:=by kernel_rfl
theorem BM{o:Oper}(t':TypeId)(x y:Operand)(ho:o.op=.binOp .neq 28 x y t')(xs ys:Array Value)(v:Value)(hx:a.eval x=.agg xs)(hy:a.eval y=.agg ys)(hq:∀w,(binOp .neq 28 (.agg xs) (.agg ys)).run Tryz.prog w=.ok v w)(hk:K (a.put o.dst v)):o.quiet Tryz.prog a C K:=
 ⟨_,fun w' hw'=>by
  unfold Oper.quietAt
  have this:(execOp a.eval o).run Tryz.prog w'=.ok (.value v) w':=by
   unfold execOp;simp only[ho,hx,hy,Sem.run_bind,Sem.run_pure,run_eqGuard_agg w' .neq 28 x y xs ys pH,Result.andThen_ok,hq]
  rw[this];exact⟨rfl,rfl⟩,hk⟩
theorem jI.below{a:Option Addr}{ls:List (List UInt8)}(h:jI w a ls)(hb:Bl w w'):jI w' a ls:=fun h0=>by
 obtain⟨ab,ao,ha,hl,hc⟩:=h h0;exact⟨ab,ao,ha,by have:=hb.size;omega,fun i hi=>⟨(hc i hi).1,iE (hc i hi).2 hb (by rw[Lib.byteCells_length,(hc i hi).1];omega)⟩⟩
def bq(h:Hd):List Value:=i_ h.v::(Lib.byteCells h.prev++(Lib.byteCells h.root++[i_ h.time,i_ h.bits,i_ h.R5]))
def aD(h:Hd):Array Value:=(bq h).toArray
theorem er(ho:h.ok):(bq h).length=68:=by simp[bq,Lib.byteCells_length,ho.1,ho.2]
theorem fX(ho:h.ok):(aD h).size=68:=by show(bq h).toArray.size=68;rw[List.size_toArray];exact er ho
theorem oQ(h:Hd):∀v∈bq h,v.oneCell'=true:=by
 intro v hv;simp only[bq,List.mem_cons,List.mem_append]at hv;rcases hv with rfl|hv|hv|hv
 rfl;exact Lib.byteCells_one _ v hv;exact Lib.byteCells_one _ v hv
 ·simp at hv;rcases hv with rfl|rfl|rfl<;>rfl
theorem wy(h:Hd):(aD h).all (·.oneCell')=true:=all_oneCell_toArray (oQ h)
theorem fY:(Tryz.prog.info? 30).map (·.size)=some 68:=by kernel_rfl
def aH(w:World)(k:Nat)(h:Hd):Prop:=Has w k (aD h) 30
variable{w w':World}{k:Nat}{h:Hd}
theorem aH.lt(hh:aH w k h):k<w.heap.size:=Has.lt hh
theorem aH.on(hh:aH w k h)(hb:Bl w w'):aH w' k h:=cg hb hh hh.lt
theorem aH.grown{r:Option Nat}(hh:aH w k h)(hg:w.grownBy w' r)(hn:some k≠r):aH w' k h:=eY hg hh hn
theorem aH.pen{b:Nat}{v v':Value}(hh:aH w k h)(hs:aV w w' b v v')(hb:k≠b)(hv:v.ownBlock≠some k):aH w' k h:=hs.has hh hb hv
theorem aH.free(hh:aH w k h)(j:Nat):w.frozen? ⟨k,j,none⟩=false:=Has.free hh j
theorem aH.v(hh:aH w k h):w.cell? ⟨k,0,none⟩=some (i_ h.v):=Has.cell hh 0
theorem il{l:List UInt8}(hl:l.length=32):(Lib.byteCells l).length=32:=by rw[Lib.byteCells_length,hl]
theorem DT(j:Nat)(u:Value)(hu:(Lib.byteCells h.prev)[j]?=some u):(bq h)[1+j]?=some u:=by rw[Nat.add_comm];show(Lib.byteCells h.prev++_)[j]?=some u;rw[List.getElem?_append_left (List.getElem?_eq_some_iff.1 hu).1];exact hu
theorem MI(ho:h.ok)(j:Nat)(u:Value)(hu:(Lib.byteCells h.root)[j]?=some u):(bq h)[33+j]?=some u:=by rw[show 33+j=(32+j)+1 by omega];show(Lib.byteCells h.prev++_)[32+j]?=some u;rw[List.getElem?_append_right (by rw[il ho.1];omega),il ho.1,Nat.add_sub_cancel_left,List.getElem?_append_left (List.getElem?_eq_some_iff.1 hu).1];exact hu
theorem tx(ho:h.ok)(j:Nat):(bq h)[65+j]?=[Value.int .i64 h.time,i_ h.bits,i_ h.R5][j]?:=by rw[show 65+j=(64+j)+1 by omega];show(Lib.byteCells h.prev++_)[64+j]?=_;rw[List.getElem?_append_right (by rw[il ho.1];omega),il ho.1,List.getElem?_append_right (by rw[il ho.2];omega),il ho.2,show 64+j-32-32=j by omega]
theorem aH.prev(hh:aH w k h):w.rangeAt k 1 (Lib.byteCells h.prev):=fun j u hu=>by
 rw[Has.cell hh (1+j)];show(bq h).toArray[1+j]?=some u;rw[List.getElem?_toArray];exact DT j u hu
theorem aH.root(hh:aH w k h)(ho:h.ok):w.rangeAt k 33 (Lib.byteCells h.root):=fun j u hu=>by
 rw[Has.cell hh (33+j)];show(bq h).toArray[33+j]?=some u;rw[List.getElem?_toArray];exact MI ho j u hu
theorem aH.time(hh:aH w k h)(ho:h.ok):w.cell? ⟨k,65,none⟩=some (i_ h.time):=by rw[Has.cell hh 65];show(bq h).toArray[65]?=_;rw[List.getElem?_toArray];exact tx ho 0
theorem aH.bits(hh:aH w k h)(ho:h.ok):w.cell? ⟨k,66,none⟩=some (i_ h.bits):=by rw[Has.cell hh 66];show(bq h).toArray[66]?=_;rw[List.getElem?_toArray];exact tx ho 1
theorem aH.R5(hh:aH w k h)(ho:h.ok):w.cell? ⟨k,67,none⟩=some (i_ h.R5):=by rw[Has.cell hh 67];show(bq h).toArray[67]?=_;rw[List.getElem?_toArray];exact tx ho 2
theorem oN(b:Nat)(t:TypeId):∀(vs:List Value)(o:Nat)(w:World)(A B C:List Value),Has w b (A++(B++C)).toArray t->A.length=o->B.length=vs.length->Has (w.setCells b o vs) b (A++(vs++C)).toArray t
 | [],o,w,A,B,C,hh,ha,hb=>by
  obtain rfl:B=[]:=List.eq_nil_of_length_eq_zero hb;exact hh
 | v::r,o,w,A,B,C,hh,ha,hb=>by
  obtain⟨x,B',rfl⟩:∃x B',B=x::B':=by
   cases B with
   | nil=>simp at hb
   | cons x B'=>exact⟨x,B',rfl⟩
  have h1:=Has.set (i:=o) hh v
  have e:(A++(x::B'++C)).toArray.setIfInBounds o v=(A++[v]++(B'++C)).toArray:=by
   rw[List.setIfInBounds_toArray,List.set_append_right _ _ (by omega),show o-A.length=0 by omega];simp
  rw[e]at h1;have:=oN b t r (o+1) _ (A++[v]) B' C h1 (by simp[ha]) (by simpa using hb);show Has ((w.setCell ⟨b,o,none⟩ v).setCells b (o+1) r) b _ t;simpa using this
theorem Lo(b c:Nat)(hc:c≠b):∀(vs:List Value)(o:Nat)(w:World),(w.setCells b o vs).heap[c]?=w.heap[c]?
 | [],_,_=>rfl
 | v::r,o,w=>by
  show((w.setCell ⟨b,o,none⟩ v).setCells b (o+1) r).heap[c]?=_;rw[Lo b c hc r];exact Below.heap_setCell _ _ _ _ hc
theorem FF(b:Nat):∀(vs:List Value)(o:Nat)(w:World),(w.setCells b o vs).os=w.os/\(w.setCells b o vs).tape=w.tape/\(w.setCells b o vs).output=w.output/\(w.setCells b o vs).heap.size=w.heap.size
 | [],_,_=>⟨rfl,rfl,rfl,rfl⟩
 | v::r,o,w=>by
  obtain⟨h1,h2,h3,h4⟩:=FF b r (o+1) (w.setCell ⟨b,o,none⟩ v);exact⟨h1,h2,h3,h4.trans (by simp[World.setCell])⟩
theorem aH.there(hh:aH w k h)(ho:h.ok)(o n:Nat)(hn:o+n<=68):w.there k o n:=fun j hj=>⟨by
 rw[Has.cell hh (o+j)];have hz:=fX ho;rw[Array.getElem?_eq_getElem (by omega)];rfl,hh.free _⟩
section
variable{ops:Array Oper}{rest:List Oper}{o:Oper}{a:Act}{Q:Exit->Act->World->Prop}
theorem cP(hgd:o.guard=none)(x:Operand)(ho:o.op=.load 30 x)(g:Nat)(hx:a.eval x=af g)(hg:aH w g h)(hs:(aD h).size=68)(hk:wpList Tryz.prog ops Q rest (a.put o.dst (.agg (aD h))) w):wpList Tryz.prog ops Q (o::rest) a w:=
 wpList_load_row hgd 30 x ho g hx 30 (aD h) (0,0) _ (Has.out hg) Tryz.underlying30 rfl (fY.trans (by rw[hs])) hk
theorem ja(hgd:o.guard=none)(x:Operand)(ho:o.op=.load 30 x)(g off:Nat)(hx:a.eval x=.pointer (some ⟨g,off,none⟩))(h:Hd)(hg:w.rangeAt g off (bq h))(hs:(bq h).length=68)(hk:wpList Tryz.prog ops Q rest (a.put o.dst (.agg (aD h))) w):wpList Tryz.prog ops Q (o::rest) a w:=
 wpList_load_mid hgd 30 x ho g off hx (bq h) _ hg Tryz.underlying30 rfl (fY.trans (by rw[hs])) hk
theorem jA(hgd:o.guard=none)(x y:Operand)(ho:o.op=.store 30 x y)(g:Nat)(cz:Array Value)(h':Hd)(hx:a.eval x=af g)(hy:a.eval y=.agg cz)(e:cz=aD h')(hs':(aD h').size=68)(hg:aH w g h)(hs:(aD h).size=68)(hk:wpList Tryz.prog ops Q rest (a.put o.dst undef) (w.setRow g (aD h'))):wpList Tryz.prog ops Q (o::rest) a w:=by subst e;exact wpList_store_row hgd 30 x y ho g (aD h') hx hy 30 (aD h) (Has.out hg) (fY.trans (by rw[hs'])) (by rw[hs,hs']) (wy h') hk
end
theorem dM(w:World)(h:Hd):aH (w.alloc (.cells (aD h) 30)) w.heap.size h:=Has.new _ _
theorem qj(w:World)(ob:Obj)(h:Hd):aH ((w.alloc ob).alloc (.cells (aD h) 30)) (w.heap.size+1) h:=Has.R6 ob _ _
theorem kt{C:World->Prop}{a:Act}{o:Oper}{K:Act->Prop}(x:Operand)(ho:o.op=.load 30 x)(g off:Nat)(hx:a.eval x=.pointer (some ⟨g,off,none⟩))(h:Hd)(hs:(bq h).length=68)(hC:∀w',C w'->w'.rangeAt g off (bq h))(hk:K (a.put o.dst (.agg (aD h)))):o.quiet Tryz.prog a C K:=
 ⟨_,fun w' hw'=>by
  unfold Oper.quietAt
  have this:(execOp a.eval o).run Tryz.prog w'=.ok (.value (.agg (aD h))) w':=by
   unfold execOp;simp only[ho,hx,Sem.run_bind,run_loadAt_mid w' g off 30 (bq h) _ (hC w' hw') Tryz.underlying30 rfl (fY.trans (by rw[hs])),Result.andThen_ok];rfl
  rw[this];exact⟨rfl,rfl⟩,hk⟩
theorem aH.range(hh:aH w k h):w.rangeAt k 0 (bq h):=fun j u hu=>by
 rw[Nat.zero_add,Has.cell hh j];show(bq h).toArray[j]?=some u;rw[List.getElem?_toArray];exact hu
end
open Mem Sc
theorem B0(n:Int)(w:World):aG 151 #[i_ n] w fun e w'=>e=.returned (.bool (decide (0<=n)&&decide (n<=4294967295)))/\w=w':=by
 generalize t0:decide (0<=n)=a;generalize t1:decide (n<=4294967295)=b;go_enter Tryz.func151,Tryz.ntmps151;cases a
 case' true=>
  cases b
 all_goals
  go_wp2_with fail
  go_ret;exact⟨rfl,rfl⟩
theorem CP(h:Hd)(ho:h.ok)(g0 g1 g2 g3 g4:Bool)(t0:decide ((-2147483648:Int)<=h.v)=g0)(t1:decide (h.v<=2147483647)=g1)(C0:Hid (∀w,aG 151 #[i_ h.time] w fun e w'=>e=.returned (.bool g2)/\w=w'))(C1:Hid (∀w,aG 151 #[i_ h.bits] w fun e w'=>e=.returned (.bool g3)/\w=w'))(C2:Hid (∀w,aG 151 #[i_ h.R5] w fun e w'=>e=.returned (.bool g4)/\w=w'))(w:World):ak 118 #[.agg (aD h)] w (.bool (g0&&g1&&g2&&g3&&g4)):=by
 have hH:=dM w h;have hB:Bl w (w.alloc (.cells (aD h) 30)):=aY;have c0:=hH.v;have c1:=hH.time ho;have c2:=hH.bits ho;have c3:=hH.R5 ho;obtain⟨v,p,q,t,b,n⟩:=h;simp only at*;clear hH ho;go_enter Tryz.func118,Tryz.ntmps118;cases g0
 case' true=>
  cases g1
  case' true=>
   go_wp2_with fail
   refine(C0.out _).mono ?_;rintro e w2 ⟨rfl,rfl⟩;cases g2
   case' true=>
    (go_wp2_with fail);refine(C1.out _).mono ?_;rintro e w3 ⟨rfl,rfl⟩;cases g3
    case' true=>
     (go_wp2_with fail);refine(C2.out _).mono ?_;rintro e w4 ⟨rfl,rfl⟩;cases g4
 all_goals
  go_wp2_with fail
  go_ret;exact⟨rfl,hB⟩
theorem nr(h:Hd)(ho:h.ok)(w:World):ak 118 #[.agg (aD h)] w (.bool (decide h.P)):=by
 have e:decide h.P=(decide ((-2147483648:Int)<=h.v)&&decide (h.v<=2147483647)&&(decide (0<=h.time)&&decide (h.time<=4294967295))&&(decide (0<=h.bits)&&decide (h.bits<=4294967295))&&(decide (0<=h.R5)&&decide (h.R5<=4294967295))):=by
  rw[Bool.eq_iff_iff];simp only[decide_eq_true_eq,Bool.and_eq_true];unfold Hd.P;omega
 rw[e];exact CP h ho _ _ _ _ _ rfl rfl (h_ (B0 h.time)) (h_ (B0 h.bits)) (h_ (B0 h.R5)) w
theorem CO(h:Hd)(ho:h.ok)(g0 g1 g2 g3 g4 g5 g6 g7:Bool)(t0:decide ((-2147483648:Int)<=h.v)=g0)(t1:decide (h.v<=2147483647)=g1)(t2:decide (0<=h.time)=g2)(t3:decide (h.time<4294967296)=g3)(t4:decide (0<=h.bits)=g4)(t5:decide (h.bits<4294967296)=g5)(t6:decide (0<=h.R5)=g6)(t7:decide (h.R5<4294967296)=g7)(w:World):ak 73 #[.agg (aD h)] w (.bool (g0&&g1&&g2&&g3&&g4&&g5&&g6&&g7)):=by
 have hH:=dM w h;have hB:Bl w (w.alloc (.cells (aD h) 30)):=aY;have c0:=hH.v;have c1:=hH.time ho;have c2:=hH.bits ho;have c3:=hH.R5 ho;obtain⟨v,p,q,t,b,n⟩:=h;simp only at*;clear hH ho;go_enter Tryz.func73,Tryz.ntmps73;cases g0
 case' true=>
  cases g1
  case' true=>
   cases g2
   case' true=>
    cases g3
    case' true=>
     cases g4
     case' true=>
      cases g5
      case' true=>
       cases g6
       case' true=>
        cases g7
 all_goals
  go_wp2_with fail
  go_ret;exact⟨rfl,hB⟩
theorem mj(h:Hd)(ho:h.ok)(w:World):ak 73 #[.agg (aD h)] w (.bool (decide h.P)):=by
 have e:decide h.P=(decide ((-2147483648:Int)<=h.v)&&decide (h.v<=2147483647)&&decide (0<=h.time)&&decide (h.time<4294967296)&&decide (0<=h.bits)&&decide (h.bits<4294967296)&&decide (0<=h.R5)&&decide (h.R5<4294967296)):=by
  rw[Bool.eq_iff_iff];simp only[decide_eq_true_eq,Bool.and_eq_true];unfold Hd.P;omega
 rw[e];exact CO h ho _ _ _ _ _ _ _ _ rfl rfl rfl rfl rfl rfl rfl rfl w
theorem Ln(o:Nat):∀(l:List (Value×Nat))(b:Array Value),(l.foldl (fun(cs:Array Value)(x:Value×Nat)=>match x with|(c,j)=>cs.setIfInBounds (o+j) c) b).size=b.size
 | [],_=>rfl
 | x::l,b=>by rw[List.foldl_cons,Ln o l];simp
theorem Kr(n:Nat)(z xs ys:Array Value)(hz:z.size=2*n)(hx:xs.size=n)(hy:ys.size=n):Instr.fill (fun i=>some (i*n,n)) z [(0,.agg xs),(1,.agg ys)]=some (xs++ys):=by
 have hsx:(Value.agg xs).cells.size=n:=hx;have hsy:(Value.agg ys).cells.size=n:=hy;unfold Instr.fill;simp only[hsx,Nat.zero_mul,Nat.zero_add,hz];rw[if_neg (by simp;omega)];obtain⟨f1,hf1⟩:∃f1,f1=(List.foldl (fun(cs:Array Value)(x:Value×Nat)=>match x with|(c,j)=>cs.setIfInBounds (0+j) c) z (xs.toList.zipIdx 0)):=⟨_,rfl⟩
 have e1:∀j,f1[j]?=if j<n then xs[j]? else z[j]?:=fun j=>by
  have h:=xi 0 xs.toList 0 z j;rw[hf1,h,Array.length_toList,hx,hz];by_cases hj:j<n;rw[if_pos ⟨by omega,by omega,by omega⟩,if_pos hj];simp;rw[if_neg (by omega),if_neg hj]
 have s1:f1.size=2*n:=by rw[hf1,Ln,hz]
 have g1:Array.foldl (fun cs x=>cs.setIfInBounds x.snd x.fst) z (Value.agg xs).cells.zipIdx=f1:=by
  rw[hf1,<-Array.foldl_toList,Array.toList_zipIdx];simp only[Nat.zero_add];rfl
 rw[g1];unfold Instr.fill;simp only[hsy,Nat.one_mul,s1];rw[if_neg (by simp;omega)];unfold Instr.fill;congr 1;apply Array.ext_getElem?;intro j;rw[<-Array.foldl_toList,Array.toList_zipIdx];have h:=xi n ys.toList 0 f1 j;show(List.foldl _ f1 (ys.toList.zipIdx 0))[j]?=_;refine h.trans ?_;rw[Array.length_toList,hy,s1,e1,Array.getElem?_append,hx];by_cases hj:j<n;rw[if_neg (by omega),if_pos hj,if_pos hj]
 ·by_cases hj2:j<2*n;rw[if_pos (by omega),if_neg hj];simp;rw[if_neg (by omega),if_neg hj,if_neg hj,Array.getElem?_eq_none (by omega),Array.getElem?_eq_none (by omega)]
theorem PN(x y:List UInt8):ae (x++y)=ae x++ae y:=by simp[ae]
theorem Q5(x y:List UInt8)(hx:x.length=32)(hy:y.length=32)(w:World):(Instr.buildSlice 69 2 #[(0,.agg (ae x)),(1,.agg (ae y))]).run Tryz.prog w=.ok (.slice (some ⟨w.heap.size,0,none⟩) 2 2) (w.alloc (.cells (ae (x++y)) 28)):=by obtain⟨i,z,hi,hz,h1,h2,h3⟩:=Cn;refine run_buildSlice w 69 28 2 _ (ae (x++y)) i z Tryz.underlying69 hi hz (by rw[h1];decide) (by rw[h1];decide) ?_;rw[h1,PN];exact Kr 32 _ _ _ (by simp) (oV hx) (oV hy)
variable{w:World}
theorem Lj{ops:Array Oper}{rest:List Oper}{o:Oper}{a:Act}{Q:Exit->Act->World->Prop}(hgd:o.guard=none)(p q:Operand)(ho:o.op=.buildSlice 69 2 #[(0,p),(1,q)])(x y:List UInt8)(hp:a.eval p=.agg (ae x))(hq:a.eval q=.agg (ae y))(hx:x.length=32)(hy:y.length=32)(h:wpList Tryz.prog ops Q rest (a.put o.dst (.slice (some ⟨w.heap.size,0,none⟩) 2 2)) (w.alloc (.cells (ae (x++y)) 28))):wpList Tryz.prog ops Q (o::rest) a w:=
 wpList_plain hgd fun _ hK=>by
  unfold Oper.wp execOp;simp only[ho,Sem.run_bind];rw[show(#[(0,p),(1,q)]:Array (Nat×Operand)).map (fun(i,x)=>(i,a.eval x))=#[(0,.agg (ae x)),(1,.agg (ae y))] by simp[hp,hq]];rw[Q5 x y hx hy w];exact hK _ _ h
variable{b k:Nat}{v:Value}
theorem bk.T8{l:List UInt8}(h:bk w b v l)(hk:k≠b)(hv:v.ownBlock≠some k)(cs:Array Value):bk (w.setRow k cs) b v l:=⟨Has.R1 h.cell k cs (Ne.symm hk),h.own.kept (row:=some k) ⟨rfl,rfl,rfl,by simp[World.setRow],fun j _ hn=>setRow_other w k j cs (fun e=>hn (by rw[e]))⟩ (.inr hv)⟩
theorem x_(b:Nat)(v:Value)(l:List UInt8)(x y z:Int)(w:World)(H:Nat)(hH:w.heap.size=H)(h:bk w b v l)(hsz:l.length<=70368744177600):aG 194 #[af b,i_ 4,.slice (aT H) 3 3] (w.alloc (.cells #[i_ x,i_ y,i_ z] 3)) fun r w'=>dS w b v (l++(num 4 x++(num 4 y++num 4 z))) r w':=by
 subst hH;have hb:Below w.heap.size w (w.alloc (.cells #[i_ x,i_ y,i_ z] 3)):=aY;refine(lN b v l 4 _ [x,y,z] 3 3 rfl _ (h.below hb) (jS.new w h _ [x,y,z] _ rfl) (by omega)).mono ?_;rintro r w' ⟨v',rfl,hP,hS⟩;have e:nums (fQ 4 8) [x,y,z]=num 4 x++(num 4 y++num 4 z):=by simp[nums];rfl
 rw[e]at hP;exact⟨v',rfl,hP,hS.below hb⟩
theorem I_(b:Nat)(v:Value)(l:List UInt8)(x y:List UInt8)(hx:x.length=32)(hy:y.length=32)(w:World)(H:Nat)(hH:w.heap.size=H)(h:bk w b v l)(hsz:l.length<=70368744177600):aG 195 #[af b,.slice (aT H) 2 2] (w.alloc (.cells (ae (x++y)) 28)) fun r w'=>dS w b v (l++(x++y)) r w':=by
 subst hH;have hlt:=h.lt;have hb:Below w.heap.size w (w.alloc (.cells (ae (x++y)) 28)):=aY;have hN:Has (w.alloc (.cells (ae (x++y)) 28)) w.heap.size (ae (x++y)) 28:=Has.new _ _;refine(Oo b v l _ [x,y] 2 2 rfl _ (h.below hb) (fun _=>⟨w.heap.size,0,rfl,by rw[World.size_alloc];omega,fun i hi=>?_⟩) (fun _ p hp=>?_) (fun z hz=>by simp at hz;rcases hz with rfl|rfl;exact hx;exact hy) (by omega)).mono ?_
 ·have h2:i<2:=hi;obtain rfl|rfl:i=0\/i=1:=by omega
  ·refine⟨hx,fun j u hu=>?_⟩;rw[hN.cell];change(Lib.byteCells x)[j]?=some u at hu
   rw[show ae (x++y)=(Lib.byteCells (x++y)).toArray from Array.toList_inj.1 (by rw[iD]),Lib.byteCells_append,List.getElem?_toArray,show 0+0*32+j=j by omega,
    List.getElem?_append_left (List.getElem?_eq_some_iff.1 hu).1]
   exact hu
  ·refine⟨hy,fun j u hu=>?_⟩;rw[hN.cell];change(Lib.byteCells y)[j]?=some u at hu
   rw[show ae (x++y)=(Lib.byteCells (x++y)).toArray from Array.toList_inj.1 (by rw[iD]),Lib.byteCells_append,List.getElem?_toArray,show 0+1*32+j=32+j by omega,
    List.getElem?_append_right (by rw[Lib.byteCells_length,hx];omega),Lib.byteCells_length,hx,Nat.add_sub_cancel_left]
   exact hu
 obtain rfl:=Option.some.inj hp;exact⟨by show w.heap.size≠b;omega,fun e=>absurd (h.SI (k:=w.heap.size) e).2 (by omega)⟩
 ·rintro r w' ⟨v',rfl,hP,hS⟩;have e:[x,y].flatten=x++y:=by simp
  rw[e]at hP;exact⟨v',rfl,hP,hS.below hb⟩
theorem EH{w1:World}{v1:Value}(hS:aV w w1 b v v1)(hk:k<w.heap.size)(hv:v.ownBlock≠some k):v1.ownBlock≠some k:=fun e=>by
 rcases hS.lies k e with h|h
 exact hv h;omega
theorem zB(l:List UInt8)(h:Hd):l++num 4 h.v++(h.prev++h.root)++(num 4 h.time++(num 4 h.bits++num 4 h.R5))=l++h.enc:=by simp only[Hd.enc,List.append_assoc]
theorem Rn(b:Nat)(v:Value)(l:List UInt8)(h:Hd)(ho:h.ok)(hp:h.P)(w:World)(hP:bk w b v l)(hsz:l.length<=70368744177000):aG 177 #[af b,.agg (aD h)] w fun r w'=>dS w b v (l++h.enc) r w':=by
 have CG:=nr h ho;rw[decide_eq_true hp]at CG;have KG:=h_ CG;clear CG hp;have hH:=dM w h;have hB:Below w.heap.size w (w.alloc (.cells (aD h) 30)):=aY;have hP1:=hP.below hB;have hbk:w.heap.size≠b:=by have:=hP.lt;omega
 have hvk:v.ownBlock≠some w.heap.size:=fun e=>by have:=(hP.SI e).2;omega
 have hz:=fX ho;clear hP;go_enter Tryz.func177,Tryz.ntmps177;go_upto_region 1 with fail
 generalize hk:w.heap.size=k at hH hbk hvk|-;generalize World.alloc _ _=w1 at*;go_wp2_with (with_reducible refine cP rfl _ rfl _ rfl hH hz ?_)
 refine(KG.out _).mono ?_;rintro r w2 ⟨rfl,hb2⟩;have hP2:=hP1.below hb2;replace hB:=ah hB hb2;replace hH:=hH.on hb2;clear hb2 hP1 KG;have hH3:=hH;have hP3:=hP2;obtain⟨w3,hw3⟩:∃w3,w3=w2:=⟨_,rfl⟩;obtain⟨h',hh'⟩:∃h',h'=h:=⟨_,rfl⟩;have HE:Hid (h'.enc=h.enc):=h_ (by rw[hh']);rw[<-hh']at hH3 ho|-;rw[<-hw3]at hB hH3 hP3|-;have ho':=ho;clear hH hP2 ho hz hh' hw3;have hk3:k<w3.heap.size:=hH3.lt;have c0:=hH3.v;have C1:=h_ (y7 b v l 4 4 rfl h'.v w3 w3.heap.size rfl hP3 (by omega));go_wp2_with fail
 refine C1.out.mono ?_;rintro r w4 ⟨v4,rfl,Us,UX⟩;have Ut:=hH3.pen UX (Ne.symm hbk).symm hvk;have hv4:=EH UX hk3 hvk;have hk4:k<w4.heap.size:=Ut.lt;clear C1 c0 hH3 hP3;have e4:(l++num 4 h'.v).length<=70368744177100:=by rw[List.length_append,k7];omega
 have r1:=Ut.prev;have r2:=Ut.root ho';have s1:=il ho'.1;have s2:=il ho'.2;have C2:=h_ (I_ b v4 _ h'.prev h'.root ho'.1 ho'.2 w4 w4.heap.size rfl Us (by omega));have H1:=h_ ho'.1;have H2:=h_ ho'.2
 go_wp2_with (first
  | (with_reducible refine gu rfl _ rfl k 1 rfl h'.prev r1 s1 ?_)
  | (with_reducible refine gu rfl _ rfl k 33 rfl h'.root r2 s2 ?_)
  | (with_reducible refine Lj rfl _ _ rfl _ _ rfl rfl H1.out H2.out ?_))
 refine C2.out.mono ?_;rintro r w5 ⟨v5,rfl,UW,hS5⟩;have hH5:=Ut.pen hS5 hbk hv4;clear C2 r1 r2 s1 s2 Ut Us
 have e5:(l++num 4 h'.v++(h'.prev++h'.root)).length<=70368744177500:=by
  simp only[List.length_append,H1.out,H2.out]at e4|-;omega
 have c1:=hH5.time ho';have c2:=hH5.bits ho';have c3:=hH5.R5 ho';have C3:=h_ (x_ b v5 _ h'.time h'.bits h'.R5 w5 w5.heap.size rfl UW (by omega));rw[zB]at C3;go_wp2_with fail
 refine C3.out.mono ?_;rintro r w6 ⟨v6,rfl,YM,YN⟩;go_wp2_with fail
 go_end0
 exact⟨v6,rfl,by rw[<-HE.out];exact YM,((UX.trans hS5).trans YN).below hB⟩
theorem F3(b:Nat)(v:Value)(l:List UInt8)(h:Hd)(ho:h.ok)(hp:¬h.P)(w:World)(hP:bk w b v l)(hsz:l.length<=70368744177000):aG 177 #[af b,.agg (aD h)] w fun r w'=>dS w b v (l++du.enc) r w':=by
 have CG:=nr h ho;rw[decide_eq_false hp]at CG;have KG:=h_ CG;clear CG hp;have hH:=dM w h;have hB:Below w.heap.size w (w.alloc (.cells (aD h) 30)):=aY;have hP1:=hP.below hB;have hbk:w.heap.size≠b:=by have:=hP.lt;omega
 have hvk:v.ownBlock≠some w.heap.size:=fun e=>by have:=(hP.SI e).2;omega
 have hz:=fX ho;clear hP;go_enter Tryz.func177,Tryz.ntmps177;go_upto_region 1 with fail
 generalize hk:w.heap.size=k at hH hbk hvk|-;generalize World.alloc _ _=w1 at*;go_wp2_with (with_reducible refine cP rfl _ rfl _ rfl hH hz ?_)
 refine(KG.out _).mono ?_;rintro r w2 ⟨rfl,hb2⟩;have hP2:=hP1.below hb2;replace hB:=ah hB hb2;replace hH:=hH.on hb2;clear hb2 hP1 KG;obtain⟨h',hh'⟩:∃h',h'=du:=⟨_,rfl⟩;have ho':h'.ok:=by rw[hh'];exact fe
 have hz':=fX ho';have WS:aD du=aD h':=by rw[hh']
 have WT:=h_ WS;have HE:Hid (h'.enc=du.enc):=h_ (by rw[hh']);clear WS hh';go_upto_region 3 with(with_reducible refine jA rfl _ _ rfl _ _ h' rfl rfl WT.out hz' hH hz ?_)
 have hH3:aH (w2.setRow k (aD h')) k h':=Has.row hH _;have hb3:Below w.heap.size w2 (w2.setRow k (aD h')):=below_setRow bf (by omega) _;have hP3:bk (w2.setRow k (aD h')) b v l:=bk.T8 hP2 hbk hvk _;replace hB:=below_setRow hB (show w.heap.size<=k by omega) (aD h');generalize w2.setRow k (aD h')=w3 at*;clear hH hP2 ho hz WT hb3;have hk3:k<w3.heap.size:=hH3.lt;have c0:=hH3.v;have C1:=h_ (y7 b v l 4 4 rfl h'.v w3 w3.heap.size rfl hP3 (by omega));go_wp2_with fail
 refine C1.out.mono ?_;rintro r w4 ⟨v4,rfl,Us,UX⟩;have Ut:=hH3.pen UX (Ne.symm hbk).symm hvk;have hv4:=EH UX hk3 hvk;have hk4:k<w4.heap.size:=Ut.lt;clear C1 c0 hH3 hP3;have e4:(l++num 4 h'.v).length<=70368744177100:=by rw[List.length_append,k7];omega
 have r1:=Ut.prev;have r2:=Ut.root ho';have s1:=il ho'.1;have s2:=il ho'.2;have C2:=h_ (I_ b v4 _ h'.prev h'.root ho'.1 ho'.2 w4 w4.heap.size rfl Us (by omega));have H1:=h_ ho'.1;have H2:=h_ ho'.2
 go_wp2_with (first
  | (with_reducible refine gu rfl _ rfl k 1 rfl h'.prev r1 s1 ?_)
  | (with_reducible refine gu rfl _ rfl k 33 rfl h'.root r2 s2 ?_)
  | (with_reducible refine Lj rfl _ _ rfl _ _ rfl rfl H1.out H2.out ?_))
 refine C2.out.mono ?_;rintro r w5 ⟨v5,rfl,UW,hS5⟩;have hH5:=Ut.pen hS5 hbk hv4;clear C2 r1 r2 s1 s2 Ut Us
 have e5:(l++num 4 h'.v++(h'.prev++h'.root)).length<=70368744177500:=by
  simp only[List.length_append,H1.out,H2.out]at e4|-;omega
 have c1:=hH5.time ho';have c2:=hH5.bits ho';have c3:=hH5.R5 ho';have C3:=h_ (x_ b v5 _ h'.time h'.bits h'.R5 w5 w5.heap.size rfl UW (by omega));rw[zB]at C3;go_wp2_with fail
 refine C3.out.mono ?_;rintro r w6 ⟨v6,rfl,YM,YN⟩;go_wp2_with fail
 go_end0
 exact⟨v6,rfl,by rw[<-HE.out];exact YM,((UX.trans hS5).trans YN).below hB⟩
theorem Ic(b:Nat)(v:Value)(l:List UInt8)(h:Hd)(ho:h.ok)(w:World)(hP:bk w b v l)(hsz:l.length<=70368744177000):aG 177 #[af b,.agg (aD h)] w fun r w'=>dS w b v (l++h.wr) r w':=by by_cases hp:h.P;rw[Hd.Ur hp];exact Rn b v l h ho hp w hP hsz;rw[Hd.WR hp];exact F3 b v l h ho hp w hP hsz
theorem Ae(w:World):aH (w.alloc (.cells Tryz.zeroCells30 30)) w.heap.size du:=dM w du
