import Derived.Test.YtkbjaadjnbgfbaaGreatDoorCAnMap
import Derived.Test.YtkbjaadjnbgfbaaGreatDoorCBunQ33
import Derived.Test.YtkbjaadjnbgfbaaGreatDoorCBunQ37
set_option maxRecDepth 100000
set_option maxHeartbeats 4000000
namespace Go.Proofs.YtkbjaadjnbgfbaaGreatDoor
open Go.RowKit
namespace An
open Mem Sc
open Ar (aq Ru aB)
structure En where
 h:Hd
 id:List UInt8
 up:Int
 ht:Int
 wk:Nat
def En.ok(e:En):Prop:=e.h.ok/\e.id.length=32
def gj(e:En):List Value:=bp e.h++(Lib.byteCells e.id++(i_ e.up::i_ e.ht::(NN.aa e.wk).toList))
def bB(e:En):Array Value:=(gj e).toArray
def iI:En:=⟨dh,kt,0,0,0⟩
def lf:En:=⟨dh,kt,-1,0,0⟩
variable{e:En}
theorem mA(h:e.ok):(gj e).length=106:=by simp only[gj,List.length_append,eR h.1,gU h.2,List.length_cons,Array.length_toList,NN.fJ]
theorem gh(h:e.ok):(bB e).size=106:=by show(gj e).toArray.size=106;rw[List.size_toArray];exact mA h
theorem yy(n:Nat):∀v∈(NN.aa n).toList,v.oneCell'=true:=fun v hv=>by
 have:=NN.Bq n;rw[Array.all_eq_true_iff_forall_mem]at this;exact this v (by simpa using hv)
theorem yD(e:En):∀v∈gj e,v.oneCell'=true:=by
 intro v hv;simp only[gj,List.mem_cons,List.mem_append]at hv;rcases hv with hv|hv|rfl|rfl|hv
 exact oW _ v hv;exact Lib.byteCells_one _ v hv;rfl;rfl;exact yy _ v hv
theorem x8(e:En):(bB e).all (·.oneCell')=true:=all_oneCell_toArray (yD e)
theorem iK:(Tryz.prog.info? 60).map (·.size)=some 106:=by kernel_rfl
theorem cU:iI.ok:=⟨eH,rfl⟩
theorem dR:lf.ok:=⟨eH,rfl⟩
def br(w:World)(k:Nat)(e:En):Prop:=Has w k (bB e) 60
def iH(e:En)(s:Sp):List Value:=gj e++gm s
theorem rN{s:Sp}(h:e.ok)(hs:s.ok):(iH e s).length=144:=by simp only[iH,List.length_append,mA h,me hs]
theorem vZ(e:En)(s:Sp):∀v∈iH e s,v.oneCell'=true:=fun v hv=>by
 rcases List.mem_append.1 hv with h|h
 exact yD e v h;exact xK s v h
def Db(p:NN.Pr)(room:Nat)(v:Value)(mb:Nat):List Value:=NN.dK p++[i_ room,v,.map (some mb)]
def jf(p:NN.Pr)(room:Nat)(v:Value)(mb:Nat):Array Value:=(Db p room v mb).toArray
theorem jk{p:NN.Pr}(h:p.ok):(NN.dK p).length=83:=by have:=NN.ef h;unfold NN.aE at this;simpa using this
theorem Jz:(Lib.byteCells kt).length=32:=rfl
theorem LZ(parts:List (Nat×Value)):Tryz.prog.built 60 parts=Instr.fill ((#[(0,68),(68,32),(100,1),(101,1),(102,4)]:Array (Nat×Nat))[·]?) (bB iI) parts:=by kernel_rfl
theorem Dh(e:En)(h:e.ok):Tryz.prog.built 60 [(0,.agg (aD e.h)),(1,.agg (ae e.id)),(2,Value.int .i64 e.up),(3,Value.int .i64 e.ht),(4,.agg (NN.aa e.wk))]=some (bB e):=by
 rw[LZ];have h0:=eR h.1;have h1:=gU h.2;have z0:=eR eH;have z1:=Jz;unfold bB gj
 rw[show bp iI.h++(Lib.byteCells iI.id++(Value.int .i64 iI.up::Value.int .i64 iI.ht::(NN.aa iI.wk).toList))=[]++(bp dh++(Lib.byteCells kt++(Value.int .i64 0::Value.int .i64 0::(NN.aa 0).toList)))from rfl,
  gz (off:=0) (n:=68) [] (bp dh) _ (bp e.h) rfl rfl z0 rfl h0,List.nil_append,
  gz (off:=68) (n:=32) (bp e.h) (Lib.byteCells kt) _ (Lib.byteCells e.id) rfl h0 z1 (il e.id▸rfl) h1,
  show bp e.h++(Lib.byteCells e.id++(Value.int .i64 0::Value.int .i64 0::(NN.aa 0).toList))=(bp e.h++Lib.byteCells e.id)++([Value.int .i64 0]++([Value.int .i64 0]++(NN.aa 0).toList)) by simp,
  gz (off:=100) (n:=1) (bp e.h++Lib.byteCells e.id) [Value.int .i64 0] _ [Value.int .i64 e.up] rfl (by simp[h0,h1]) rfl rfl rfl,
  show(bp e.h++Lib.byteCells e.id)++([Value.int .i64 e.up]++([Value.int .i64 0]++(NN.aa 0).toList))=(bp e.h++Lib.byteCells e.id++[Value.int .i64 e.up])++([Value.int .i64 0]++(NN.aa 0).toList) by simp,
  gz (off:=101) (n:=1) (bp e.h++Lib.byteCells e.id++[Value.int .i64 e.up]) [Value.int .i64 0] _ [Value.int .i64 e.ht] rfl (by simp[h0,h1]) rfl rfl rfl,
  show(bp e.h++Lib.byteCells e.id++[Value.int .i64 e.up])++([Value.int .i64 e.ht]++(NN.aa 0).toList)=(bp e.h++Lib.byteCells e.id++[Value.int .i64 e.up,Value.int .i64 e.ht])++((NN.aa 0).toList++[]) by simp,
  gz (off:=102) (n:=4) (bp e.h++Lib.byteCells e.id++[Value.int .i64 e.up,Value.int .i64 e.ht]) (NN.aa 0).toList [] (NN.aa e.wk).toList rfl (by simp[h0,h1]) rfl (by simp[Value.cells]) rfl,tP]
 simp
theorem GU(e:En)(h:e.ok)(h0:e.ht=0):Tryz.prog.built 60 [(0,.agg (aD e.h)),(1,.agg (ae e.id)),(2,Value.int .i64 e.up),(4,.agg (NN.aa e.wk))]=some (bB e):=by
 have hh:=Dh e h;rw[LZ]at hh|-;rw[<-hh,h0];have e0:=eR h.1;have e1:=gU h.2;have z0:=eR eH;have z1:=Jz
 have st:∀rest,Instr.fill ((#[(0,68),(68,32),(100,1),(101,1),(102,4)]:Array (Nat×Nat))[·]?) (bB iI) ((0,.agg (aD e.h))::(1,.agg (ae e.id))::(2,Value.int .i64 e.up)::rest)=Instr.fill ((#[(0,68),(68,32),(100,1),(101,1),(102,4)]:Array (Nat×Nat))[·]?) (bp e.h++(Lib.byteCells e.id++([Value.int .i64 e.up]++([Value.int .i64 0]++(NN.aa 0).toList)))).toArray rest:=fun rest=>by
  unfold bB gj
  rw[show bp iI.h++(Lib.byteCells iI.id++(Value.int .i64 iI.up::Value.int .i64 iI.ht::(NN.aa iI.wk).toList))=[]++(bp dh++(Lib.byteCells kt++(Value.int .i64 0::Value.int .i64 0::(NN.aa 0).toList)))from rfl,
   gz (off:=0) (n:=68) [] (bp dh) _ (bp e.h) rfl rfl z0 rfl e0,List.nil_append,
   gz (off:=68) (n:=32) (bp e.h) (Lib.byteCells kt) _ (Lib.byteCells e.id) rfl e0 z1 (il e.id▸rfl) e1,
   show bp e.h++(Lib.byteCells e.id++(Value.int .i64 0::Value.int .i64 0::(NN.aa 0).toList))=(bp e.h++Lib.byteCells e.id)++([Value.int .i64 0]++([Value.int .i64 0]++(NN.aa 0).toList)) by simp,
   gz (off:=100) (n:=1) (bp e.h++Lib.byteCells e.id) [Value.int .i64 0] _ [Value.int .i64 e.up] rfl (by simp[e0,e1]) rfl rfl rfl]
  simp
 rw[st,st]
 rw[show bp e.h++(Lib.byteCells e.id++([Value.int .i64 e.up]++([Value.int .i64 0]++(NN.aa 0).toList)))=(bp e.h++Lib.byteCells e.id++[Value.int .i64 e.up])++([Value.int .i64 0]++(NN.aa 0).toList) by simp,
  gz (i:=3) (off:=101) (n:=1) (bp e.h++Lib.byteCells e.id++[Value.int .i64 e.up]) [Value.int .i64 0] _ [Value.int .i64 0] rfl (by simp[e0,e1]) rfl rfl rfl]
theorem Ou:Tryz.prog.built 60 [(2,Value.int .i64 (-1))]=some (bB lf):=by kernel_rfl
theorem L_(parts:List (Nat×Value)):Tryz.prog.built 143 parts=Instr.fill ((#[(0,106),(106,38)]:Array (Nat×Nat))[·]?) (iH iI mw).toArray parts:=by kernel_rfl
theorem PB(e:En)(s:Sp)(h:e.ok)(hs:s.ok):Tryz.prog.built 143 [(0,.agg (bB e)),(1,.agg (bo s))]=some (iH e s).toArray:=by
 rw[L_];have h0:=mA h;have h1:=me hs;unfold iH
 rw[show gj iI++gm mw=[]++(gj iI++gm mw)from rfl,
  gz (off:=0) (n:=106) [] (gj iI) _ (gj e) rfl rfl (mA cU) rfl h0,
  show[]++(gj e++gm mw)=gj e++(gm mw++[]) by simp,
  gz (off:=106) (n:=38) (gj e) (gm mw) [] (gm s) rfl h0 (me iU) rfl h1,tP]
 simp
def n9:NN.Pr:=⟨0,0,0,0,false,Value.slice none 0 0::Value.slice none 0 0::((NN.aa 0).toList++((NN.aa 0).toList++bp dh))⟩
theorem mN:n9.ok:=rfl
theorem H7(parts:List (Nat×Value)):Tryz.prog.built 147 parts=Instr.fill ((#[(0,83),(83,1),(84,1),(85,1)]:Array (Nat×Nat))[·]?) (NN.dK n9++[Value.int .i64 0,Value.slice none 0 0,Value.map none]).toArray parts:=by kernel_rfl
theorem OP(p:NN.Pr)(h:p.ok)(room mb:Nat):Tryz.prog.built 147 [(0,.agg (NN.aE p)),(1,Value.int .i64 (room:Int)),(3,.map (some mb))]=some (jf p room (.slice none 0 0) mb):=by
 rw[H7];have h0:=jk h;unfold jf Db
 rw[show NN.dK n9++[Value.int .i64 0,Value.slice none 0 0,Value.map none]=[]++(NN.dK n9++[Value.int .i64 0,Value.slice none 0 0,Value.map none])from rfl,
  gz (off:=0) (n:=83) [] (NN.dK n9) _ (NN.dK p) rfl rfl (jk mN) rfl h0,
  show[]++(NN.dK p++[Value.int .i64 0,Value.slice none 0 0,Value.map none])=NN.dK p++([Value.int .i64 0]++[Value.slice none 0 0,Value.map none]) by simp,
  gz (off:=83) (n:=1) (NN.dK p) [Value.int .i64 0] _ [Value.int .i64 (room:Int)] rfl h0 rfl rfl rfl,
  show NN.dK p++([Value.int .i64 (room:Int)]++[Value.slice none 0 0,Value.map none])=(NN.dK p++[Value.int .i64 (room:Int),Value.slice none 0 0])++([Value.map none]++[]) by simp,
  gz (off:=85) (n:=1) (NN.dK p++[Value.int .i64 (room:Int),Value.slice none 0 0]) [Value.map none] [] [Value.map (some mb)] rfl (by simp[h0]) rfl rfl rfl,tP]
 simp
def fG(I:Nat->Prop)(P:World->Prop)(w:World):Prop:=∀w',Kp (fun i=>¬I i) w w'->P w'
section
variable{w w':World}{I J G:Nat->Prop}{P P':World->Prop}
theorem fG.now(h:fG I P w):P w:=h w (Kp.refl _ w)
theorem fG.on(h:fG I P w)(k:Kp G w w')(hG:∀i,I i->¬G i):fG I P w':=fun w2 k2=>h w2 ((k.mono (fun i hi _=>fun h=>hG i h hi)).trans k2 (fun _ hi _=>hi))
theorem fG.wide(h:fG I P w)(hI:∀i,I i->J i):fG J P w:=fun w2 k2=>h w2 (k2.mono fun i hi _=>fun h=>hi (hI i h))
theorem fG.imp(h:fG I P w)(hP:∀w',P w'->P' w'):fG I P' w:=fun w2 k2=>hP w2 (h w2 k2)
theorem fG.and(h:fG I P w)(h':fG I P' w):fG I (fun w=>P w/\P' w) w:=fun w2 k2=>⟨h w2 k2,h' w2 k2⟩
end
variable{w w':World}{F I:Nat->Prop}
theorem Hj{b o:Nat}{cs:List Value}(h:w.rangeAt b o cs)(k:Kp F w w')(hb:b<w.heap.size)(hn:¬F b):w'.rangeAt b o cs:=fun j u hu=>(World.cell?_of_block (k.block b hb hn)).trans (h j u hu)
variable{a:Option Addr}
theorem Lr{gs:List Gt}(h:aI w a gs)(hI:0<gs.length->∀ad,a=some ad->I ad.block):fG I (fun w=>aI w a gs) w:=fun w' k h0=>by
 obtain⟨ab,ao,ha,hlt,hc⟩:=h h0;have:=hI h0 _ ha;exact⟨ab,ao,ha,Nat.lt_of_lt_of_le hlt k.size,fun i hi=>Hj (hc i hi) k hlt (fun hn=>hn this)⟩
theorem KJ{gs:List Ck}(h:az w a gs)(hI:0<gs.length->∀ad,a=some ad->I ad.block):fG I (fun w=>az w a gs) w:=fun w' k h0=>by
 obtain⟨ab,ao,ha,hlt,hc⟩:=h h0;have:=hI h0 _ ha;exact⟨ab,ao,ha,Nat.lt_of_lt_of_le hlt k.size,fun i hi=>⟨(hc i hi).1,Hj (hc i hi).2 k hlt (fun hn=>hn this)⟩⟩
theorem Du{s:Sp}{q:Ps}{lo:Nat}(h:dY w lo s q)(hI:∀i,lo<=i->i<w.heap.size->I i):fG I (fun w=>dY w 0 s q) w:=fun w' k=>by
 obtain⟨h1,h2,h3,h4,h5,h6⟩:=h;refine⟨h1,h2,h3,h4,h5,fun h0=>?_⟩;obtain⟨b,off,e,g1,g2,hc⟩:=h6 h0;exact⟨b,off,e,Nat.zero_le _,Nat.lt_of_lt_of_le g2 k.size,fun j hj=>(World.cell?_of_block (w:=w) (a:=⟨b,off+j,none⟩) (k.block b g2 (fun hn=>hn (hI b g1 g2)))).trans (hc j hj)⟩
variable{base e size n:Nat}{v:Value}{xs:List Value}
theorem ax(h:w.ownsRow base e size v n xs)(k:Kp F w w')(hF:∀i,v.ownBlock=some i->¬F i):w'.ownsRow base e size v n xs:=by
 refine⟨h.1,?_⟩;rcases h.2 with h|⟨g,c,cur,rfl,h1,h2,h3⟩
 exact .inl h;have hg:g<w.heap.size:=(Array.getElem?_eq_some_iff.1 h2).1;exact .inr ⟨g,c,cur,rfl,h1,(k.block g hg (hF g rfl)).trans h2,h3⟩
theorem cx(h:w.ownsRow base e size v n xs){i:Nat}(hi:v.ownBlock=some i):i<w.heap.size/\base<=i:=by
 rcases h.2 with⟨rfl,_⟩|⟨g,c,cur,rfl,h1,h2,h3⟩
 cases hi;cases hi;exact⟨(Array.getElem?_eq_some_iff.1 h2).1,h1⟩
theorem eP(h:w.ownsRow base e size v n xs){i:Nat}(hi:v.ownBlock=some i):∃cs,w.heap[i]?=some (.cells cs e (0,0)):=by
 rcases h.2 with⟨rfl,_⟩|⟨g,c,cur,rfl,h1,h2,h3⟩
 cases hi;cases hi;exact⟨_,h2⟩
structure Bk where
 e:En
 s:Sp
 q:Ps
def my(L:List Bk):List Value:=L.flatMap fun x=>iH x.e x.s
theorem LO(L:List Bk)(x:Bk):my (L++[x])=my L++iH x.e x.s:=by simp[my]
structure fx (w:World) (I:Nat->Prop) (b:Nat) (p:NN.Pr) (t:Tl) (gs:List Gt) (cs:List Ck) (room:Nat) (v:Value) (mb:Nat) (L:List Bk):Prop where
 has:Has w b (jf p room v mb) 147
 RG:p.ok
 one:p.one
 tt:p.tl=t.C
 tok:t.ok
 gn:t.gn=gs.length
 cn:t.cn=cs.length
 row:w.ownsRow 0 143 144 v L.length (my L)
 map:dg w mb (L.map (·.e.id))
 RC:fG I (fun w=>aI w t.ga gs) w
 checks:fG I (fun w=>az w t.ca cs) w
 RV:∀x∈L,fG I (fun w=>dY w 0 x.s x.q) w
 nb:¬I b
 nm:¬I mb
 nv:∀k,v.ownBlock=some k->¬I k
 lt:∀i,I i->i<w.heap.size
 bK:∀x∈L,x.e.ok/\x.s.ok
def jL(I:Nat->Prop)(b:Nat)(v:Value)(mb:Nat):Nat->Prop:=fun i=>I i\/i=b\/i=mb\/v.ownBlock=some i
section
variable{w w':World}{I G:Nat->Prop}{b:Nat}{p:NN.Pr}{t:Tl}{gs:List Gt}{cs:List Ck}{room:Nat}{v:Value}{mb:Nat}{L:List Bk}
theorem fx.on(h:fx w I b p t gs cs room v mb L)(k:Kp G w w')(hG:∀i,jL I b v mb i->¬G i):fx w' I b p t gs cs room v mb L where
 has:=k.has h.has (hG b (.inr (.inl rfl)))
 RG:=h.RG
 one:=h.one
 tt:=h.tt
 tok:=h.tok
 gn:=h.gn
 cn:=h.cn
 row:=ax h.row k fun i hi=>hG i (.inr (.inr (.inr hi)))
 map:=h.map.on (k.block mb h.map.lt (hG mb (.inr (.inr (.inl rfl)))))
 RC:=h.RC.on k fun i hi=>hG i (.inl hi)
 checks:=h.checks.on k fun i hi=>hG i (.inl hi)
 RV:=fun x hx=>(h.RV x hx).on k fun i hi=>hG i (.inl hi)
 nb:=h.nb
 nm:=h.nm
 nv:=h.nv
 lt:=fun i hi=>Nat.lt_of_lt_of_le (h.lt i hi) k.size
 bK:=h.bK
theorem fx.R2(h:fx w I b p t gs cs room v mb L){i:Nat}(hi:jL I b v mb i):i<w.heap.size:=by
 rcases hi with hi|rfl|rfl|hi
 exact h.lt i hi;exact h.has.lt;exact h.map.lt;exact(cx h.row hi).1
theorem fx.below(h:fx w I b p t gs cs room v mb L)(hb:Bl w w'):fx w' I b p t gs cs room v mb L:=h.on (G:=fun _=>False) (Kp.of hb) fun _ _ hf=>hf
theorem fx.Uj(h:fx w I b p t gs cs room v mb L):b≠mb:=h.map.Rq h.has
theorem fx.Vf(h:fx w I b p t gs cs room v mb L){i:Nat}(hi:v.ownBlock=some i):i≠b:=by
 rintro rfl;obtain⟨c,hc⟩:=eP h.row hi;have:=h.has.out;rw[hc]at this;injection this with this
 injection this with _ this
 exact absurd this (by decide)
theorem fx.Uk(h:fx w I b p t gs cs room v mb L){i:Nat}(hi:v.ownBlock=some i):i≠mb:=by obtain⟨c,hc⟩:=eP h.row hi;exact h.map.Rq hc
end
def fe(r:Ru)(hs:List Hd):Nat:=hs.foldl (fun n h=>NN.Nm.cap (n+NN.ofBits h.bits)) (NN.ofBits r.g.bits)
theorem AM(r:Ru)(hs:List Hd)(h:Hd):fe r (hs++[h])=NN.Nm.cap (fe r hs+NN.ofBits h.bits):=by simp[fe]
theorem qQ(r:Ru)(hs:List Hd):fe r hs<NN.Nm.ai:=by
 rcases List.eq_nil_or_concat hs with rfl|⟨l,x,rfl⟩
 exact NN.J2 _;rw[List.concat_eq_append,AM];exact NN.Nm.nj _
def bq(r:Ru)(e:aq):En:=⟨e.h r.g,(e.h r.g).id,e.up,(e.hs.length:Nat),fe r e.hs⟩
def Lk(r:Ru)(M:List aq)(L:List Bk):Prop:=L.map (fun x=>(x.e,x.q))=M.map (fun e=>(bq r e,Ar.spot r e))
variable{r:Ru}{M:List aq}{L:List Bk}
theorem Lk.length(h:Lk r M L):L.length=M.length:=by have:=congrArg List.length h;simpa using this
theorem Lk.at(h:Lk r M L){i:Nat}{e:aq}(he:M[i]?=some e):∃s,L[i]?=some ⟨bq r e,s,Ar.spot r e⟩:=by
 have h1:(L.map (fun x=>(x.e,x.q)))[i]?=(M.map (fun e=>(bq r e,Ar.spot r e)))[i]?:=by rw[h]
 rw[List.getElem?_map,List.getElem?_map,he]at h1;cases hL:L[i]? with
 | none=>rw[hL]at h1;cases h1
 | some x=>
  rw[hL]at h1;obtain⟨xe,xs,xq⟩:=x;simp only[Option.map_some,Option.some.injEq,Prod.mk.injEq]at h1;obtain⟨rfl,rfl⟩:=h1;exact⟨xs,rfl⟩
theorem Lk.ids(h:Lk r M L):L.map (·.e.id)=M.map fun e=>(e.h r.g).id:=by have:=congrArg (List.map fun x:En×Ps=>x.1.id) h;rw[List.map_map,List.map_map]at this;exact this
theorem Lk.find(h:Lk r M L)(id:List UInt8):(L.map (·.e.id)).findIdx? (· == id)=Ar.jW r.g M id:=by rw[h.ids,List.findIdx?_map];rfl
theorem Lk.put(h:Lk r M L)(e:aq)(s:Sp):Lk r (M++[e]) (L++[⟨bq r e,s,Ar.spot r e⟩]):=by unfold Lk at*;rw[List.map_append,List.map_append,h];rfl
def Alike(p:NN.Pr)(t:Tl)(r:Ru):Prop:=p.lim=r.p.lim/\p.Rj=r.p.Rj/\p.Rx=r.p.Rx/\p.Rp=r.p.Rp/\p.Rt=r.p.Rt/\t.g=r.g
def gM(w:World)(F:Nat->Prop)(b:Nat)(r:Ru)(M:List aq):Prop:=(∀i,F i->i<w.heap.size)/\∃I p t v mb L,fx w I b p t r.gs r.cs r.room v mb L/\Alike p t r/\Lk r M L/\∀i,jL I b v mb i->F i
section
variable{w w':World}{F G:Nat->Prop}{b:Nat}{r:Ru}{M:List aq}
theorem gM.on(h:gM w F b r M)(k:Kp G w w')(hG:∀i,F i->¬G i):gM w' F b r M:=by obtain⟨hl,I,p,t,v,mb,L,h1,h2,h3,h4⟩:=h;exact⟨fun i hi=>Nat.lt_of_lt_of_le (hl i hi) k.size,I,p,t,v,mb,L,h1.on k fun i hi=>hG i (h4 i hi),h2,h3,h4⟩
theorem gM.below(h:gM w F b r M)(hb:Bl w w'):gM w' F b r M:=h.on (G:=fun _=>False) (Kp.of hb) fun _ _ hf=>hf
theorem gM.wide(h:gM w F b r M)(hF:∀i,F i->G i)(hG:∀i,G i->i<w.heap.size):gM w G b r M:=by obtain⟨_,I,p,t,v,mb,L,h1,h2,h3,h4⟩:=h;exact⟨hG,I,p,t,v,mb,L,h1,h2,h3,fun i hi=>hF i (h4 i hi)⟩
end
theorem lq{F:Nat->Prop}{w w':World}(h:∀i,F i->i<w.heap.size)(hs:w.heap.size<=w'.heap.size):∀i,iS F w w' i->i<w'.heap.size:=fun i hi=>by
 rcases hi with hi|hi
 exact Nat.lt_of_lt_of_le (h i hi) hs;exact hi.2
variable{p:NN.Pr}{t:Tl}{r:Ru}
theorem F8(h:Alike p t r)(q:Ps)(hd:Hd)(now:Int):rU p r.gs r.cs q hd now=rU r.p r.gs r.cs q hd now:=by obtain⟨pl,pi,ps,pf,pe,pt⟩:=p;obtain⟨⟨rl,ri,rs,rf,re,rt⟩,_,_,_,_⟩:=r;obtain⟨h1,h2,h3,h4,h5,h6⟩:=h;simp only at h1 h2 h3 h4 h5;subst h1 h2 h3 h4 h5;rfl
theorem Ls(h:Alike p t r)(q:Ps)(hd:Hd):bh p q hd=bh r.p q hd:=by obtain⟨pl,pi,ps,pf,pe,pt⟩:=p;obtain⟨⟨rl,ri,rs,rf,re,rt⟩,_,_,_,_⟩:=r;obtain⟨h1,h2,h3,h4,h5,h6⟩:=h;simp only at h1 h2 h3 h4 h5;subst h1 h2 h3 h4 h5;rfl
section
variable{w w':World}{b:Nat}{p:NN.Pr}{room mb:Nat}{v:Value}
theorem mO(j:Nat):(jf p room v mb)[j]?=(Db p room v mb)[j]?:=by unfold jf;rw[List.getElem?_toArray]
theorem Bt(hp:p.ok)(j:Nat):(Db p room v mb)[83+j]?=([i_ room,v,.map (some mb)]:List Value)[j]?:=by unfold Db;rw[List.getElem?_append_right (by rw[jk hp];omega),jk hp,show 83+j-83=j by omega]
theorem Hq(h:Has w b (jf p room v mb) 147)(hp:p.ok):w.cell? ⟨b,83,none⟩=some (i_ room):=(Has.cell h 83).trans ((mO 83).trans (Bt hp 0))
theorem iv(h:Has w b (jf p room v mb) 147)(hp:p.ok):w.cell? ⟨b,84,none⟩=some v:=(Has.cell h 84).trans ((mO 84).trans (Bt hp 1))
theorem Fi(h:Has w b (jf p room v mb) 147)(hp:p.ok):w.cell? ⟨b,85,none⟩=some (.map (some mb)):=(Has.cell h 85).trans ((mO 85).trans (Bt hp 2))
theorem nZ(h:Has w b (jf p room v mb) 147):w.rangeAt b 0 (NN.dK p):=by have:=gk (A:=[]) (cs:=NN.dK p) (C:=[i_ room,v,.map (some mb)]) (o:=0) (w:=w) (b:=b) (t:=147) h rfl;exact this
theorem CR(h:Has w b (jf p room v mb) 147)(hp:p.ok)(v':Value):Has (w.setCell ⟨b,84,none⟩ v') b (jf p room v' mb) 147:=by
 have:=Has.set (i:=84) h v'
 have e:(jf p room v mb).setIfInBounds 84 v'=jf p room v' mb:=by
  unfold jf Db;rw[List.setIfInBounds_toArray];congr 1;rw[List.set_append_right _ _ (by rw[jk hp];omega),jk hp];rfl
 rwa[e]at this
end
section
variable{w:World}{k:Nat}{e:En}{ops:Array Oper}{rest:List Oper}{o:Oper}{a:Act}{Q:Exit->Act->World->Prop}
theorem br.on{w':World}(h:br w k e)(hb:Bl w w'):br w' k e:=bY hb h (Has.lt h)
theorem gl(w:World):br (w.alloc (.cells Tryz.zeroCells60 60)) w.heap.size iI:=Has.new (bB iI) _
theorem Od(hgd:o.guard=none)(x:Operand)(ho:o.op=.load 60 x)(g off:Nat)(hx:a.eval x=.pointer (some ⟨g,off,none⟩))(e:En)(hg:w.rangeAt g off (gj e))(hs:(gj e).length=106)(hk:wpList Tryz.prog ops Q rest (a.put o.dst (.agg (bB e))) w):wpList Tryz.prog ops Q (o::rest) a w:=
 wpList_load_mid hgd 60 x ho g off hx (gj e) _ hg Tryz.underlying60 rfl (iK.trans (by rw[hs])) hk
theorem Cw(hgd:o.guard=none)(x:Operand)(ho:o.op=.load 141 x)(g off:Nat)(hx:a.eval x=.pointer (some ⟨g,off,none⟩))(s:Sp)(hg:w.rangeAt g off (gm s))(hs:(gm s).length=38)(hk:wpList Tryz.prog ops Q rest (a.put o.dst (.agg (bo s))) w):wpList Tryz.prog ops Q (o::rest) a w:=
 wpList_load_mid hgd 141 x ho g off hx (gm s) _ hg Tryz.underlying141 rfl (gY.trans (by rw[hs])) hk
theorem gQ(hgd:o.guard=none)(x y:Operand)(ho:o.op=.store 60 x y)(g:Nat)(cz:Array Value)(e':En)(hx:a.eval x=ah g)(hy:a.eval y=.agg cz)(he:cz=bB e')(hs':(bB e').size=106)(hg:br w g e)(hs:(bB e).size=106)(hk:wpList Tryz.prog ops Q rest (a.put o.dst undef) (w.setRow g (bB e'))):wpList Tryz.prog ops Q (o::rest) a w:=by subst he;exact wpList_store_row hgd 60 x y ho g (bB e') hx hy 60 (bB e) (Has.out hg) (iK.trans (by rw[hs'])) (by rw[hs,hs']) (x8 e') hk
theorem uo(hgd:o.guard=none)(x:Operand)(ho:o.op=.build 60 #[(2,x)])(hx:a.eval x=i_ (-1))(hk:wpList Tryz.prog ops Q rest (a.put o.dst (.agg (bB lf))) w):wpList Tryz.prog ops Q (o::rest) a w:=
 wpList_plain hgd fun _ hK=>by
  unfold Oper.wp execOp;simp only[ho,Sem.run_bind];rw[show(#[(2,x)]:Array (Nat×Operand)).map (fun(i,x)=>(i,a.eval x))=#[(2,i_ (-1))] by simp[hx],run_build w 60 _ _ Ou];exact hK _ _ hk
theorem Ko(hgd:o.guard=none)(x0 x1 x2 x3 x4:Operand)(ho:o.op=.build 60 #[(0,x0),(1,x1),(2,x2),(3,x3),(4,x4)])(e:En)(he:e.ok)(h0:a.eval x0=.agg (aD e.h))(h1:a.eval x1=.agg (ae e.id))(h2:a.eval x2=i_ e.up)(h3:a.eval x3=i_ e.ht)(h4:a.eval x4=.agg (NN.aa e.wk))(hk:wpList Tryz.prog ops Q rest (a.put o.dst (.agg (bB e))) w):wpList Tryz.prog ops Q (o::rest) a w:=
 wpList_plain hgd fun _ hK=>by
  unfold Oper.wp execOp;simp only[ho,Sem.run_bind];rw[show(#[(0,x0),(1,x1),(2,x2),(3,x3),(4,x4)]:Array (Nat×Operand)).map (fun(i,x)=>(i,a.eval x))=#[(0,.agg (aD e.h)),(1,.agg (ae e.id)),(2,i_ e.up),(3,i_ e.ht),(4,.agg (NN.aa e.wk))] by simp[h0,h1,h2,h3,h4],run_build w 60 _ _ (Dh e he)];exact hK _ _ hk
variable{fn:Func}{p:Tmp}
theorem Po(hf:fn.results=#[.cell p 60])(tmps:Array Value)(g:Nat)(hp:tmps.getD p undef=ah g)(hg:br w g e)(hs:(bB e).size=106):(results fn tmps).run Tryz.prog w=.ok (.agg (bB e)) w:=
 results_cell_row hf tmps w g 60 (bB e) (0,0) _ hp (Has.out hg) Tryz.underlying60 rfl (iK.trans (by rw[hs]))
theorem Ba{q:Tmp}(hf:fn.results=#[.cell p 60,.tmp q])(tmps:Array Value)(g:Nat)(c:Value)(hp:tmps.getD p undef=ah g)(hc:tmps.getD q undef=c)(hg:br w g e)(hs:(bB e).size=106):(results fn tmps).run Tryz.prog w=.ok (.tuple #[.agg (bB e),c]) w:=by rw[results_cell_tmp hf,hp,hc];have hl:(loadVar 60 ⟨g,0,none⟩).run Tryz.prog w=.ok (.agg (bB e)) w:=run_loadVar_row w g 60 60 (bB e) (0,0) _ (Has.out hg) Tryz.underlying60 rfl (iK.trans (by rw[hs]));simp[asAddr,hl,Result.andThen]
end
theorem LC(L:List Bk)(h:∀x∈L,x.e.ok/\x.s.ok)(i j:Nat)(x:Bk)(hi:L[i]?=some x)(hj:j<144):(my L)[i*144+j]?=(iH x.e x.s)[j]?:=by
 induction L generalizing i with
 | nil=>simp at hi
 | cons y L ih=>
  have hy:=h y (by simp);have hl:=rN hy.1 hy.2;have e:my (y::L)=iH y.e y.s++my L:=rfl;rw[e];cases i with
  | zero=>
   obtain rfl:y=x:=by simpa using hi
   rw[List.getElem?_append_left (by omega)];simp
  | succ i=>
   rw[List.getElem?_append_right (by omega),hl,show(i+1)*144+j-144=i*144+j by omega];exact ih (fun z hz=>h z (by simp[hz])) i (by simpa using hi)
section
variable{w:World}{I:Nat->Prop}{b:Nat}{p:NN.Pr}{t:Tl}{gs:List Gt}{cs:List Ck}{room:Nat}{v:Value}{mb:Nat}{L:List Bk}
theorem fx.range(h:fx w I b p t gs cs room v mb L){i:Nat}{x:Bk}(hi:L[i]?=some x):∃g c,v=.slice (aW g) L.length c/\g<w.heap.size/\w.rangeAt g (i*144) (iH x.e x.s):=by
 have hlt:=(List.getElem?_eq_some_iff.1 hi).1;have hx:=h.bK x (List.mem_of_getElem? hi);rcases h.row.2 with⟨_,h0⟩|⟨g,c,cur,rfl,h1,h2,h3,h4,h5,h6⟩
 omega
 ·refine⟨g,c,rfl,(Array.getElem?_eq_some_iff.1 h2).1,fun j u hu=>?_⟩
  have hj:j<144:=by
   have:=(List.getElem?_eq_some_iff.1 hu).1;rwa[rN hx.1 hx.2]at this
  rw[<-LC L h.bK i j x hi hj,<-h6]at hu;have hH:Has w g cur 143:=h2;rw[hH.cell,<-hu,List.getElem?_take_of_lt (by omega),Array.getElem?_toList]
theorem fx.slice(h:fx w I b p t gs cs room v mb L):∃a c,v=.slice a L.length c:=by
 rcases h.row.2 with⟨rfl,h0⟩|⟨g,c,cur,rfl,_⟩
 exact⟨none,0,by rw[h0]⟩;exact⟨_,c,rfl⟩
variable{g o:Nat}{e:En}{s:Sp}
theorem ui{w:World}(hr:w.rangeAt g o (iH e s)):w.rangeAt g o (gj e):=by have:=AD (A:=[]) (cs:=gj e) (C:=gm s) (k:=0) (w:=w) (b:=g) (o:=o) hr rfl;exact this
theorem CZ{w:World}(he:e.ok)(hr:w.rangeAt g o (iH e s)):w.rangeAt g (o+106) (gm s):=
 AD (A:=gj e) (cs:=gm s) (C:=[]) (k:=106) (w:=w) (b:=g) (o:=o) (by rw[List.append_nil];exact hr) (mA he)
theorem AH{w:World}(he:e.ok)(hr:w.rangeAt g o (gj e)):w.rangeAt g (o+102) (NN.aa e.wk).toList:=
 AD (A:=bp e.h++(Lib.byteCells e.id++[i_ e.up,i_ e.ht])) (cs:=(NN.aa e.wk).toList) (C:=[]) (k:=102) (w:=w) (b:=g) (o:=o) (by rw[List.append_nil];unfold gj at hr;simpa using hr) (by simp[eR he.1,gU he.2])
end
theorem Qh{C:World->Prop}{K:Act->Prop}{o:Oper}{a:Act}(x y:Operand)(ho:o.op=.lookup 145 x y true)(m:Value)(hx:a.eval x=m)(k:Value)(hy:a.eval y=k)(r:Value)(hC:∀w',C w'->(Instr.lookup 145 m k true).run Tryz.prog w'=.ok r w')(hk:K (a.put o.dst r)):o.quiet Tryz.prog a C K:=
 ⟨_,fun w' hw'=>by
  unfold Oper.quietAt
  have this:(execOp a.eval o).run Tryz.prog w'=.ok (.value r) w':=by
   unfold execOp;simp only[ho,hx,hy,Sem.run_bind,hC w' hw',Result.andThen_ok];rfl
  rw[this];exact⟨rfl,rfl⟩,hk⟩
variable{w:World}
theorem Hf{b:Nat}{l:List UInt8}{t:TypeId}(h:Has w b (ae l) t):w.rangeAt b 0 (Lib.byteCells l):=fun j u hu=>by
 rw[Nat.zero_add,h.cell j,<-Array.getElem?_toList,il];exact hu
theorem mI:∀w',(∃r:Regrown,w'=Sort.grow (redrawn w r.d) r.os)->Bl w w':=fun w' ⟨r,e⟩=>by rw[e];exact below_regrown w r.d r.os
theorem zi(k:Int)(w:World):an 103 #[.pointer none,i_ k] w (.bool false):=by
 have hB:=Below.refl w.heap.size w;go_enter Tryz.func103,Tryz.ntmps103;go_wp2_with fail
 go_ret;exact⟨rfl,hB⟩
theorem He(b n:Nat)(p:Option Addr)(c:Nat)(k:Int)(g1 g2:Bool)(h1:decide ((0:Int)<=k)=g1)(h2:decide (k<(n:Int))=g2)(w:World)(hv:w.cell? ⟨b,84,none⟩=some (.slice p n c)):an 103 #[ah b,i_ k] w (.bool (g1&&g2)):=by
 have hB:=Below.refl w.heap.size w;cases g1
 ·go_enter Tryz.func103,Tryz.ntmps103;go_wp2_with fail
  go_ret;exact⟨rfl,hB⟩
 ·go_enter Tryz.func103,Tryz.ntmps103;go_wp2_with fail
  go_ret;exact⟨by cases g2<;>rfl,hB⟩
theorem len_nil(w:World):an 92 #[.pointer none] w (i_ 0):=by
 have hB:=Below.refl w.heap.size w;go_enter Tryz.func92,Tryz.ntmps92;go_wp2_with fail
 go_ret;exact⟨rfl,hB⟩
theorem Dj(b n:Nat)(p:Option Addr)(c:Nat)(w:World)(hv:w.cell? ⟨b,84,none⟩=some (.slice p n c)):an 92 #[ah b] w (i_ n):=by
 have hB:=Below.refl w.heap.size w;go_enter Tryz.func92,Tryz.ntmps92;go_wp2_with fail
 go_ret;exact⟨rfl,hB⟩
theorem CI(b mb:Nat)(id:List UInt8)(hid:id.length=32)(w:World)(c:Int)(g:Bool)(z:Int)(hz:z=if g then c else -1)(hv:w.cell? ⟨b,85,none⟩=some (.map (some mb)))(hL:∀w',Bl w w'->(Instr.lookup 145 (.map (some mb)) (.agg (ae id)) true).run Tryz.prog w'=.ok (.tuple #[i_ c,.bool g]) w'):an 120 #[ah b,.agg (ae id)] w (i_ z):=by
 go_enter Tryz.func120,Tryz.ntmps120;go_upto_region 1 with fail
 generalize hw0:World.alloc _ _=v0;have hB:Bl w v0:=db hw0;have hI:Has v0 w.heap.size (ae id) 28:=by rw[<-hw0];exact Has.new _ _
 clear hw0;have hv0:=(hB.cell (p:=⟨b,85,none⟩) (block_lt_of_cell hv)).trans hv;have q1:∀d os,(Sort.grow (redrawn v0 d) os).cell? ⟨b,85,none⟩=some (.map (some mb)):=cell_regrown hv0;obtain⟨bI,SF⟩:∃x,x=w.heap.size:=⟨_,rfl⟩;rw[<-SF]at hI|-;clear SF;have qI:=fZ (Hf hI) (by rw[Lib.byteCells_length];omega);have s1:=gU hid;have hL0:∀w',(∃r:Regrown,w'=Sort.grow (redrawn v0 r.d) r.os)->(Instr.lookup 145 (.map (some mb)) (.agg (ae id)) true).run Tryz.prog w'=.ok (.tuple #[i_ c,.bool g]) w':=fun w' h=>hL w' (hB.trans ((mI w' h).mono hB.size))
 go_upto_region 3 with fail
 refine wp_region_quiet_below (by kernel_rfl) (by kernel_rfl) ?_
 repeat(first
  | (go_big_quiet_want;(with_reducible first|refine nS _ rfl bI 0 rfl id s1 qI ?_|refine Qh _ _ rfl (.map (some mb)) rfl (.agg (ae id)) rfl _ hL0 ?_);(simp only[Act.put,List.setIfInBounds_toArray,List.set_cons_zero,List.set_cons_succ]);go_big_quiet_on)
  | go_big_quiet_step (fail))
 refine wpQuiet_nil ?_;intro v1 hw';have hB1:=hB.trans ((mI v1 hw').mono hB.size);cases g
 ·subst hz;go_wp2_with fail
  go_ret;exact⟨rfl,hB1⟩
 ·subst hz;go_wp2_with fail
  go_ret;exact⟨rfl,hB1⟩
theorem pN(p:Value)(k:Int)(w:World)(KH:aV w 103 #[p,i_ k] (.bool false)):an 65 #[p,i_ k] w (.tuple #[.agg (bB lf),.bool false]):=by
 have z0:=gh cU;have z1:=gh dR;go_enter Tryz.func65,Tryz.ntmps65;go_upto_region 1 with fail
 generalize hw0:World.alloc _ _=v0;have hB:Bl w v0:=db hw0;have hR:br v0 w.heap.size iI:=by rw[<-hw0];exact gl w
 clear hw0;obtain⟨bR,hbR⟩:∃x,x=w.heap.size:=⟨_,rfl⟩;rw[<-hbR]at hR|-;have SS:Hid (w.heap.size<=bR):=h_ (by omega);clear hbR;go_wp2_with fail
 refine au (KH.out _ hB) fun v1 hb=>?_;replace hR:=hR.on hb;replace hB:=af hB hb;clear hb
 go_wp2_with (first
  | (with_reducible refine uo rfl _ rfl rfl ?_)
  | (with_reducible refine gQ rfl _ _ rfl _ _ lf rfl rfl rfl z1 hR z0 ?_))
 refine bodyPost_ret (Ba Tryz.results65 _ _ _ rfl rfl (Has.row hR _) z1) rfl ⟨rfl,below_setRow hB SS.out _⟩
theorem Fg(b g n c k:Nat)(e:En)(he:e.ok)(hk:k<n)(w:World)(hv:w.cell? ⟨b,84,none⟩=some (.slice (aW g) n c))(hr:w.rangeAt g (k*144) (gj e))(KH:aV w 103 #[ah b,i_ k] (.bool true)):an 65 #[ah b,i_ k] w (.tuple #[.agg (bB e),.bool true]):=by
 have z0:=gh cU;have z1:=gh he;have z2:=mA he;go_enter Tryz.func65,Tryz.ntmps65;go_upto_region 1 with fail
 generalize hw0:World.alloc _ _=v0;have hB:Bl w v0:=db hw0;have hR:br v0 w.heap.size iI:=by rw[<-hw0];exact gl w
 clear hw0;obtain⟨bR,hbR⟩:∃x,x=w.heap.size:=⟨_,rfl⟩;rw[<-hbR]at hR|-;have SS:Hid (w.heap.size<=bR):=h_ (by omega);clear hbR;go_wp2_with fail
 refine(KH.out _ hB).mono ?_;rintro r v1 ⟨rfl,hb⟩;replace hR:=hR.on hb;replace hB:=af hB hb;clear hb;have hv1:=(hB.cell (p:=⟨b,84,none⟩) (block_lt_of_cell hv)).trans hv;have hr1:v1.rangeAt g (k*144) (gj e):=ix hr hB (by omega);clear hv hr
 go_wp2_with (first
  | (with_reducible refine Od rfl _ rfl g (k*144) rfl e hr1 z2 ?_)
  | (with_reducible refine gQ rfl _ _ rfl _ _ e rfl rfl rfl z1 hR z0 ?_))
 refine bodyPost_ret (Ba Tryz.results65 _ _ _ rfl rfl (Has.row hR _) z1) rfl ⟨rfl,below_setRow hB SS.out _⟩
def Io:Option Nat->Int
 | some i=>(i:Int)
 | none=>-1
section
variable{w:World}{F:Nat->Prop}{b:Nat}{r:Ru}{M:List aq}
theorem CC(h:gM w F b r M):an 92 #[ah b] w (i_ (M.length:Nat)):=by obtain⟨_,I,p,t,v,mb,L,h1,h2,h3,h4⟩:=h;obtain⟨a,c,rfl⟩:=h1.slice;have:=Dj b L.length a c w (iv h1.has h1.RG);rwa[h3.length]at this
theorem tU(h:gM w F b r M)(id:List UInt8)(hid:id.length=32):an 120 #[ah b,.agg (ae id)] w (i_ (Io (Ar.jW r.g M id))):=by
 obtain⟨_,I,p,t,v,mb,L,h1,h2,h3,h4⟩:=h;have hf:=h3.find id;obtain⟨c,hc,hi⟩:=h1.map.look hid;rw[hf]at hc hi;refine CI b mb id hid w c (Ar.jW r.g M id).isSome _ ?_ (Fi h1.has h1.RG) fun w' hb=>?_
 ·cases hq:Ar.jW r.g M id with
  | none=>rfl
  | some i=>exact(hi i hq).symm
 exact hc w' (hb.block mb h1.map.lt)
theorem jm(h:gM w F b r M){i:Nat}{e:aq}(he:M[i]?=some e):(bq r e).ok:=by obtain⟨_,I,p,t,v,mb,L,h1,h2,h3,h4⟩:=h;obtain⟨s,hs⟩:=h3.at he;exact(h1.bK _ (List.mem_of_getElem? hs)).1
theorem kY(h:gM w F b r M)(k:Int)(g:Bool)(hg:(decide (0<=k)&&decide (k<(M.length:Nat)))=g):an 103 #[ah b,i_ k] w (.bool g):=by obtain⟨_,I,p,t,v,mb,L,h1,h2,h3,h4⟩:=h;obtain⟨a,c,rfl⟩:=h1.slice;have:=He b L.length a c k _ _ rfl rfl w (iv h1.has h1.RG);rwa[h3.length,hg]at this
theorem Ly(h:gM w F b r M){i:Nat}{e:aq}(he:M[i]?=some e)(k:Int)(hk:k=(i:Nat)):an 65 #[ah b,i_ k] w (.tuple #[.agg (bB (bq r e)),.bool true]):=by
 subst hk;have hi:=(List.getElem?_eq_some_iff.1 he).1;have KH:aV w 103 #[ah b,i_ (i:Nat)] (.bool true):=h_ fun w' hb=>kY (h.below hb) _ true (by rw[Bool.and_eq_true];exact⟨decide_eq_true (by omega),decide_eq_true (by omega)⟩)
 have ho:=jm h he;obtain⟨_,I,p,t,v,mb,L,h1,h2,h3,h4⟩:=h;obtain⟨s,hs⟩:=h3.at he;obtain⟨g,c,rfl,hg,hr⟩:=h1.range hs;exact Fg b g L.length c i (bq r e) ho (by rw[h3.length];exact hi) w (iv h1.has h1.RG) (ui hr) KH
theorem B4(h:gM w F b r M)(k:Int)(hk:¬(0<=k/\k<(M.length:Nat))):an 65 #[ah b,i_ k] w (.tuple #[.agg (bB lf),.bool false]):=
 pN _ k w (h_ fun w' hb=>kY (h.below hb) k false (by
  rw[Bool.and_eq_false_iff];by_cases h0:0<=k;exact .inr (decide_eq_false (by omega));exact .inl (decide_eq_false h0)))
end
theorem CT(k:Int)(w:World):an 65 #[.pointer none,i_ k] w (.tuple #[.agg (bB lf),.bool false]):=
 pN _ k w (h_ fun w' _=>zi k w')
open NN.Rz
def Ph(k:Nat)(Pre Post:World->Prop)(l:Array Bool)(w:World):Prop:=(l.getD k false=false->Pre w)/\(l.getD k false=true->Post w)
section
variable{k i:Nat}{Pre Post:World->Prop}{l:Array Bool}{w w':World}
theorem Ph.keep(h:Ph k Pre Post l w)(hi:i<l.size)(hk:i≠k:=by decide):Ph k Pre Post (l.setIfInBounds i true) w:=by unfold Ph at*;rwa[gd l i k hi hk]
theorem Ph.pre(h:Ph k Pre Post l w)(hl:(l.setIfInBounds i true).getD k false=false)(hi:i<l.size)(hk:i≠k):Pre w:=h.1 (by rw[<-gd l i k hi hk];exact hl)
theorem Ph.made(hl:(l.setIfInBounds i true).getD k false=false)(hp:Pre w'):Ph k Pre Post (l.setIfInBounds i true) w':=⟨fun _=>hp,fun h=>by rw[hl]at h;cases h⟩
theorem Ph.last(hi:k<l.size)(hp:Post w'):Ph k Pre Post (l.setIfInBounds k true) w':=⟨fun h=>(by rw[gi _ _ _ hi,if_pos rfl]at h;cases h),fun _=>hp⟩
theorem Ph.zero(hl:∀i,l.getD i false=false)(hp:Pre w):Ph k Pre Post l w:=⟨fun _=>hp,fun h=>by rw[hl]at h;cases h⟩
end
def ib(k s:Nat)(Pre:World->Prop)(Post:Value->World->Prop)(l:Array Bool)(a:Act)(w:World):Prop:=(l.getD k false=false->Pre w)/\(l.getD k false=true->Post (a.eval (.tmp s)) w)
section
variable{k i s:Nat}{Pre:World->Prop}{Post:Value->World->Prop}{l:Array Bool}{a:Act}{w w':World}
theorem ib.keep(h:ib k s Pre Post l a w)(hi:i<l.size)(hk:i≠k:=by decide){d:Option Tmp}{u:Value}(hd:d≠some s:=by decide):ib k s Pre Post (l.setIfInBounds i true) (a.put d u) w:=by unfold ib at*;rwa[gd l i k hi hk,Act.eval_put (fun d' hdd e=>hd (by rw[hdd];cases e;rfl))]
theorem ib.pre(h:ib k s Pre Post l a w)(hl:(l.setIfInBounds i true).getD k false=false)(hi:i<l.size)(hk:i≠k):Pre w:=h.1 (by rw[<-gd l i k hi hk];exact hl)
theorem ib.made{a':Act}(hl:(l.setIfInBounds i true).getD k false=false)(hp:Pre w'):ib k s Pre Post (l.setIfInBounds i true) a' w':=⟨fun _=>hp,fun h=>by rw[hl]at h;cases h⟩
theorem ib.last(u:Value)(hi:k<l.size)(hp:Post (a.eval (.tmp s)) w'):ib k s Pre Post (l.setIfInBounds k true) (a.put none u) w':=⟨fun h=>(by rw[gi _ _ _ hi,if_pos rfl]at h;cases h),fun _=>hp⟩
theorem ib.zero(hl:∀i,l.getD i false=false)(hp:Pre w):ib k s Pre Post l a w:=⟨fun _=>hp,fun h=>by rw[hl]at h;cases h⟩
end
section
variable{ρ:Operand->Value}{o:Oper}{w:World}
variable{x y:Operand}{p:Addr}
theorem cB(ho:o.op=.nilCheck x)(hx:ρ x=.pointer (some p)):(execOp ρ o).run Tryz.prog w=.ok (.value (.pointer (some p))) w:=by unfold execOp;simp only[ho,hx];rfl
theorem sV(w:World)(g:Nat):(Instr.fieldAt 147 (ah g) 0).run Tryz.prog w=.ok (ah g) w:=by kernel_rfl
theorem kT(w:World)(g:Nat):(Instr.fieldAt 147 (ah g) 2).run Tryz.prog w=.ok (.pointer (some ⟨g,84,none⟩)) w:=by kernel_rfl
theorem tJ(w:World)(g:Nat):(Instr.fieldAt 147 (ah g) 3).run Tryz.prog w=.ok (.pointer (some ⟨g,85,none⟩)) w:=by kernel_rfl
theorem u'(w:World)(g:Nat):(Instr.fieldAt 60 (ah g) 1).run Tryz.prog w=.ok (.pointer (some ⟨g,68,none⟩)) w:=by kernel_rfl
variable{T:TypeId}{n g m c:Nat}
theorem de(ho:o.op=.fieldAddr T x n)(hx:ρ x=ah g)(hf:(Instr.fieldAt T (ah g) n).run Tryz.prog w=.ok (.pointer (some ⟨g,m,none⟩)) w):(execOp ρ o).run Tryz.prog w=.ok (.value (.pointer (some ⟨g,m,none⟩))) w:=by unfold execOp;simp only[ho,hx,Sem.run_bind,hf,Result.andThen_ok];rfl
variable{a:Option Addr}
theorem DK(h:w.cell? p=some (.slice a n c)):(loadVar 144 p).run Tryz.prog w=.ok (.slice a n c) w:=by go_simp
theorem EM(ho:o.op=.load 144 x)(hx:ρ x=.pointer (some p))(hc:w.cell? p=some (.slice a n c)):(execOp ρ o).run Tryz.prog w=.ok (.value (.slice a n c)) w:=by unfold execOp;simp only[ho,hx,Instr.loadAt,Instr.sureAddr,Sem.run_bind,Sem.run_pure,Result.andThen_ok,DK hc]
variable{u v:Value}
theorem J'(hf:w.frozen? p=false)(hc:w.cell? p=some u):(storeVar 144 p (.slice a n c)).run Tryz.prog w=.ok () (w.setCell p (.slice a n c)):=by go_simp
theorem OI(ho:o.op=.store 144 x y)(hx:ρ x=.pointer (some p))(hy:ρ y=.slice a n c)(hf:w.frozen? p=false)(hc:w.cell? p=some u):(execOp ρ o).run Tryz.prog w=.ok .skip (w.setCell p (.slice a n c)):=by unfold execOp;simp only[ho,hx,hy,Instr.storeAt,Instr.sureAddr,Sem.run_bind,Sem.run_pure,Result.andThen_ok,J' hf hc]
theorem D0{m:Option Nat}(h:w.cell? p=some (.map m)):(loadVar 145 p).run Tryz.prog w=.ok (.map m) w:=by go_simp
theorem Pe{m:Option Nat}(ho:o.op=.load 145 x)(hx:ρ x=.pointer (some p))(hc:w.cell? p=some (.map m)):(execOp ρ o).run Tryz.prog w=.ok (.value (.map m)) w:=by unfold execOp;simp only[ho,hx,Instr.loadAt,Instr.sureAddr,Sem.run_bind,Sem.run_pure,Result.andThen_ok,D0 hc]
variable{e:En}
theorem Hm(ho:o.op=.load 60 x)(hx:ρ x=ah g)(hg:w.rangeAt g 0 (gj e))(hs:(gj e).length=106):(execOp ρ o).run Tryz.prog w=.ok (.value (.agg (bB e))) w:=
 gJ 60 ho hx Tryz.underlying60 rfl (iK.trans (by rw[hs])) hg
variable{s:Sp}
theorem Eb(ho:o.op=.load 141 x)(hx:ρ x=ah g)(hg:w.rangeAt g 0 (gm s))(hs:(gm s).length=38):(execOp ρ o).run Tryz.prog w=.ok (.value (.agg (bo s))) w:=
 gJ 141 ho hx Tryz.underlying141 rfl (gY.trans (by rw[hs])) hg
theorem Qj{off:Nat}{l:List UInt8}(ho:o.op=.load 28 x)(hx:ρ x=.pointer (some ⟨g,off,none⟩))(hg:w.rangeAt g off (Lib.byteCells l))(hs:l.length=32):(execOp ρ o).run Tryz.prog w=.ok (.value (.agg (ae l))) w:=by have:=gJ (P:=Tryz.prog) (ρ:=ρ) (o:=o) (w:=w) 28 ho hx (cs:=Lib.byteCells l) Tryz.underlying28 rfl (im.trans (by rw[gU hs])) hg;rw[this,<-il]
theorem Ci{p:NN.Pr}(ho:o.op=.load 32 x)(hx:ρ x=ah g)(hg:w.rangeAt g 0 (NN.dK p))(hs:(NN.dK p).length=83):(execOp ρ o).run Tryz.prog w=.ok (.value (.agg (NN.aE p))) w:=
 gJ 32 ho hx Tryz.underlying32 rfl (NN.fh.trans (by rw[hs])) hg
theorem NZ(ho:o.op=.build 143 #[(0,x),(1,y)])(hx:ρ x=.agg (bB e))(hy:ρ y=.agg (bo s))(he:e.ok)(hs:s.ok):(execOp ρ o).run Tryz.prog w=.ok (.value (.agg (iH e s).toArray)) w:=by unfold execOp;simp only[ho,Sem.run_bind];rw[show(#[(0,x),(1,y)]:Array (Nat×Operand)).map (fun(i,x)=>(i,ρ x))=#[(0,.agg (bB e)),(1,.agg (bo s))] by simp[hx,hy],run_build w 143 _ _ (PB e s he hs)];rfl
theorem xT:∃i z,Tryz.prog.info? 143=some i/\i.zero=some z/\i.size=144/\i.bytes=272/\z.cells.size=144:=rY (by kernel_rfl) (by kernel_rfl) (by kernel_rfl)
theorem Dn(cs:Array Value)(h:cs.size=144)(w:World):(Instr.buildSlice 144 1 #[(0,.agg cs)]).run Tryz.prog w=.ok (.slice (some ⟨w.heap.size,0,none⟩) 1 1) (w.alloc (.cells cs 143)):=by obtain⟨i,z,hi,hz,h1,h2,h3⟩:=xT;refine run_buildSlice w 144 143 1 _ cs i z Tryz.underlying144 hi hz (by rw[h1];decide) (by rw[h1];decide) ?_;rw[h1];exact sK 144 _ cs (by simp) h
theorem Qn{cs:Array Value}(ho:o.op=.buildSlice 144 1 #[(0,x)])(hx:ρ x=.agg cs)(h:cs.size=144):(execOp ρ o).run Tryz.prog w=.ok (.value (.slice (some ⟨w.heap.size,0,none⟩) 1 1)) (w.alloc (.cells cs 143)):=
 jI ho hx (Dn cs h w)
theorem PK{xs:List Value}(he:e.ok)(hs:s.ok)(hx:ρ x=v)(hown:w.ownsRow 0 143 144 v n xs)(hy:ρ y=.slice (aW g) 1 1)(hg:Has w g (iH e s).toArray 143)(hn:n<=1000):∃v' w',(∀o:Oper,o.op=.call { callee:=.builtin .append,args:=#[x,y],argTypes:=#[144,144] }->o.type=144->(execOp ρ o).run Tryz.prog w=.ok (.value v') w')/\w'.ownsRow 0 143 144 v' (n+1) (xs++iH e s)/\w.grownBy w' v.ownBlock/\(v'.ownBlock=v.ownBlock\/v'.ownBlock=some w.heap.size):=by
 obtain⟨i,z,hi,hz,h1,h2,h3⟩:=xT
 obtain⟨v',w',hr,g1,g2,_,g4⟩:=run_append_own_at (P:=Tryz.prog) w 0 144 144 143 i z 144 272 Tryz.underlying144 hi hz h1 h2 h3 (by decide) v n xs hown ⟨g,0,none⟩ 1 1 (iH e s) (by rw[rN he hs]) (fun j u hj=>by
  rw[Addr.add_lit,Nat.zero_add,hg.cell j,List.getElem?_toArray];exact hj) (vZ e s) (by unfold maxLen;omega) (by omega) (Nat.zero_le _)
 refine⟨v',w',fun o ho hty=>?_,g1,g2,g4⟩;unfold execOp;simp only[ho,hty,resolve,invoke,builtin,Sem.run_bind,Sem.run_pure,Result.andThen_ok,List.map_toArray,List.map_cons,List.map_nil,hx,hy,hr]
theorem Jb{z:Operand}{b:Nat}{k:Value}{w':World}(ho:o.op=.mapUpdate 145 x y z)(hx:ρ x=.map (some b))(hy:ρ y=k)(hz:ρ z=v)(hr:(Instr.mapUpdate 145 (.map (some b)) k v).run Tryz.prog w=.ok () w'):(execOp ρ o).run Tryz.prog w=.ok .skip w':=by unfold execOp;simp only[ho,hx,hy,hz,Sem.run_bind,Sem.run_pure,Result.andThen_ok,hr]
theorem ja{j:Nat}(ho:o.op=.indexAddr T x y)(hx:ρ x=.slice (aW g) n c)(hy:ρ y=i_ j)(hf:(Instr.indexAt T (.slice (aW g) n c) (i_ j)).run Tryz.prog w=.ok (.pointer (some ⟨g,m,none⟩)) w):(execOp ρ o).run Tryz.prog w=.ok (.value (.pointer (some ⟨g,m,none⟩))) w:=by unfold execOp;simp only[ho,hx,hy,Sem.run_bind,hf,Result.andThen_ok];rfl
theorem Cv(w:World)(g j n c:Nat)(hj:j<n):(Instr.indexAt 144 (.slice (aW g) n c) (i_ j)).run Tryz.prog w=.ok (.pointer (some ⟨g,j*144,none⟩)) w:=by go_simp
end
end An
namespace An
open Mem Sc
def A1(p:NN.Pr)(vH vI vA vW:Value)(room:Nat):List Value:=NN.dK p++[vH,vI,vA,vW,i_ room]
def iu(p:NN.Pr)(vH vI vA vW:Value)(room:Nat):Array Value:=(A1 p vH vI vA vW room).toArray
theorem Ep(parts:List (Nat×Value)):Tryz.prog.built 72 parts=Instr.fill ((#[(0,83),(83,1),(84,1),(85,1),(86,1),(87,1)]:Array (Nat×Nat))[·]?) (NN.dK n9++[Value.slice none 0 0,Value.slice none 0 0,Value.slice none 0 0,Value.slice none 0 0,Value.int .i64 0]).toArray parts:=by kernel_rfl
theorem pS{Vg:Nat->Option (Nat×Nat)}(k off:Nat)(A:List Value)(x y:Value)(B:List Value)(parts:List (Nat×Value))(ho:Vg k=some (off,1))(hA:A.length=off)(hy:y.cells=#[y]):Instr.fill Vg (A++(x::B)).toArray ((k,y)::parts)=Instr.fill Vg ((A++[y])++B).toArray parts:=by rw[show A++(x::B)=A++([x]++B) by simp,gz (off:=off) (n:=1) A [x] B [y] ho hA rfl hy rfl];simp
theorem GW(p:NN.Pr)(h:p.ok)(a1 a2 a3 a4:Option Addr)(n1 n2 n3 n4 c1 c2 c3 c4 room:Nat):Tryz.prog.built 72 [(0,.agg (NN.aE p)),(1,.slice a1 n1 c1),(2,.slice a2 n2 c2),(3,.slice a3 n3 c3),(4,.slice a4 n4 c4),(5,Value.int .i64 (room:Int))]=some (iu p (.slice a1 n1 c1) (.slice a2 n2 c2) (.slice a3 n3 c3) (.slice a4 n4 c4) room):=by
 rw[Ep];have h0:=jk h;unfold iu A1
 rw[show NN.dK n9++[Value.slice none 0 0,Value.slice none 0 0,Value.slice none 0 0,Value.slice none 0 0,Value.int .i64 0]=[]++(NN.dK n9++[Value.slice none 0 0,Value.slice none 0 0,Value.slice none 0 0,Value.slice none 0 0,Value.int .i64 0])from rfl,
  gz (off:=0) (n:=83) [] (NN.dK n9) _ (NN.dK p) rfl rfl (jk mN) rfl h0,List.nil_append,
  pS 1 83 (NN.dK p) _ _ _ _ rfl h0 rfl,pS 2 84 _ _ _ _ _ rfl (by simp[h0]) rfl,pS 3 85 _ _ _ _ _ rfl (by simp[h0]) rfl,pS 4 86 _ _ _ _ _ rfl (by simp[h0]) rfl,pS 5 87 _ _ _ _ _ rfl (by simp[h0]) rfl,tP]
 simp
structure tV (w:World) (I:Nat->Prop) (b:Nat) (p:NN.Pr) (t:Tl) (gs:List Gt) (cs:List Ck) (room:Nat) (vH vI vA vW:Value) (hs:List Hd) (ids:List (List UInt8)) (up:List Int) (ws:List Nat):Prop where
 has:Has w b (iu p vH vI vA vW room) 72
 RG:p.ok
 one:p.one
 tt:p.tl=t.C
 tok:t.ok
 gn:t.gn=gs.length
 cn:t.cn=cs.length
 SG:w.ownsRow 0 30 68 vH hs.length (hs.flatMap bp)
 SV:w.ownsRow 0 28 32 vI ids.length (ids.flatMap Lib.byteCells)
 SH:w.ownsRow 0 3 1 vA up.length (up.map (Value.int .i64))
 SW:w.ownsRow 0 26 4 vW ws.length (ws.flatMap fun z=>(NN.aa z).toList)
 RC:fG I (fun w=>aI w t.ga gs) w
 checks:fG I (fun w=>az w t.ca cs) w
 nb:¬I b
 nH:∀k,vH.ownBlock=some k->¬I k
 nI:∀k,vI.ownBlock=some k->¬I k
 nA:∀k,vA.ownBlock=some k->¬I k
 nW:∀k,vW.ownBlock=some k->¬I k
 lt:∀i,I i->i<w.heap.size
 bK:∀h∈hs,h.ok
 name:∀l∈ids,l.length=32
 small:∀z∈ws,z<NN.Nm.ai
def yv(I:Nat->Prop)(b:Nat)(vH vI vA vW:Value):Nat->Prop:=fun i=>I i\/i=b\/vH.ownBlock=some i\/vI.ownBlock=some i\/vA.ownBlock=some i\/vW.ownBlock=some i
section
variable{w w':World}{I G:Nat->Prop}{b:Nat}{p:NN.Pr}{t:Tl}{gs:List Gt}{cs:List Ck}{room:Nat}{vH vI vA vW:Value}{hs:List Hd}{ids:List (List UInt8)}{up:List Int}{ws:List Nat}
theorem tV.on(h:tV w I b p t gs cs room vH vI vA vW hs ids up ws)(k:Kp G w w')(hG:∀i,yv I b vH vI vA vW i->¬G i):tV w' I b p t gs cs room vH vI vA vW hs ids up ws:=
 { h with
  has:=k.has h.has (hG b (.inr (.inl rfl)))
  SG:=ax h.SG k fun i hi=>hG i (.inr (.inr (.inl hi)))
  SV:=ax h.SV k fun i hi=>hG i (.inr (.inr (.inr (.inl hi))))
  SH:=ax h.SH k fun i hi=>hG i (.inr (.inr (.inr (.inr (.inl hi)))))
  SW:=ax h.SW k fun i hi=>hG i (.inr (.inr (.inr (.inr (.inr hi)))))
  RC:=h.RC.on k fun i hi=>hG i (.inl hi)
  checks:=h.checks.on k fun i hi=>hG i (.inl hi)
  lt:=fun i hi=>Nat.lt_of_lt_of_le (h.lt i hi) k.size }
theorem tV.below(h:tV w I b p t gs cs room vH vI vA vW hs ids up ws)(hb:Bl w w'):tV w' I b p t gs cs room vH vI vA vW hs ids up ws:=h.on (G:=fun _=>False) (Kp.of hb) fun _ _ hf=>hf
theorem tV.R2(h:tV w I b p t gs cs room vH vI vA vW hs ids up ws){i:Nat}(hi:yv I b vH vI vA vW i):i<w.heap.size:=by
 rcases hi with hi|rfl|hi|hi|hi|hi
 exact h.lt i hi;exact h.has.lt;exact(cx h.SG hi).1;exact(cx h.SV hi).1;exact(cx h.SH hi).1;exact(cx h.SW hi).1
theorem cu{w:World}{i j:Nat}{xs ys:Array Value}{t u:TypeId}(hi:w.heap[i]?=some (.cells xs t (0,0)))(hj:w.heap[j]?=some (.cells ys u (0,0)))(h:t≠u):i≠j:=by
 rintro rfl;rw[hi]at hj;injection hj with hj
 injection hj with _ hj
 exact h hj
end
open Ar (aq Ru aB)
theorem PF(a:Option Addr)(n c:Nat)(L:List Gt)(hn:n=L.length)(hl:n<=1000)(w:World)(hA:aI w a L):aN 171 #[.slice a n c] w fun e w'=>∃a' c',e=.returned (.slice a' n c')/\(aI w' a' L/\(0<L.length->∀ad,a'=some ad->w.heap.size<=ad.block))/\Bl w w':=by
 cases a with
 | none=>
  have h0:n=0:=by
   by_cases h:0<L.length;obtain⟨_,_,e,_⟩:=hA h;cases e;omega
  refine(Pz n c w).mono ?_;rintro e w' ⟨rfl,rfl⟩;exact⟨none,0,by rw[h0],⟨fun h=>absurd h (by omega),fun _ ad e=>by cases e⟩,a_⟩
 | some ad=>
  by_cases h0:0<L.length;obtain⟨ab,ao,e,hlt,hc⟩:=hA h0;cases e;have hlen:∀x∈L,(jZ x).length=2:=(fun _ _=>rfl);refine(D1 ⟨ab,ao,none⟩ n c L hn hl w (fun j u hj=>?_)).mono ?_;rw[Addr.add_lit];refine Aw jZ 2 (by decide) L hlen (fun i x hi=>?_) j u hj;obtain⟨h1,h2⟩:=List.getElem?_eq_some_iff.1 hi;rw[<-h2];exact hc i h1;rintro e w' ⟨v',rfl,ho,hb⟩;obtain⟨a',c',rfl,_,h3⟩:=vM jZ 2 L hlen ho hn;obtain⟨g,rfl,h4,h5,h6⟩:=h3 (by omega);exact⟨_,c',rfl,⟨fun _=>⟨g,0,rfl,h5,fun i hi=>by rw[Nat.zero_add];exact h6 i _ (List.getElem?_eq_getElem hi)⟩,fun _ ad e=>by cases e;exact h4⟩,hb⟩;obtain rfl:L=[]:=List.eq_nil_of_length_eq_zero (by omega);refine(D1 ad n c [] hn hl w (fun j u hj=>by simp at hj)).mono ?_;rintro e w' ⟨v',rfl,ho,hb⟩;obtain⟨a',c',rfl,_⟩:=vM jZ 2 [] (fun x hx=>by cases hx) ho hn;exact⟨a',c',rfl,⟨fun h=>by simp at h,fun h=>by simp at h⟩,hb⟩
theorem Om(a:Option Addr)(n c:Nat)(L:List Ck)(hn:n=L.length)(hl:n<=1000)(w:World)(hA:az w a L):aN 172 #[.slice a n c] w fun e w'=>∃a' c',e=.returned (.slice a' n c')/\(az w' a' L/\(0<L.length->∀ad,a'=some ad->w.heap.size<=ad.block))/\Bl w w':=by
 cases a with
 | none=>
  have h0:n=0:=by
   by_cases h:0<L.length;obtain⟨_,_,e,_⟩:=hA h;cases e;omega
  refine(OG n c w).mono ?_;rintro e w' ⟨rfl,rfl⟩;exact⟨none,0,by rw[h0],⟨fun h=>absurd h (by omega),fun _ ad e=>by cases e⟩,a_⟩
 | some ad=>
  by_cases h0:0<L.length;obtain⟨ab,ao,e,hlt,hc⟩:=hA h0;cases e;have hlen:∀x∈L,(iM x).length=33:=(fun x hx=>mL (by obtain⟨i,hi,e⟩:=List.mem_iff_getElem.1 hx;rw[<-e];exact(hc i hi).1));refine(F6 ⟨ab,ao,none⟩ n c L (fun x hx=>by obtain⟨i,hi,e⟩:=List.mem_iff_getElem.1 hx;rw[<-e];exact(hc i hi).1) hn hl w (fun j u hj=>?_)).mono ?_;rw[Addr.add_lit];refine Aw iM 33 (by decide) L hlen (fun i x hi=>?_) j u hj;obtain⟨h1,h2⟩:=List.getElem?_eq_some_iff.1 hi;rw[<-h2];exact(hc i h1).2;rintro e w' ⟨v',rfl,ho,hb⟩;obtain⟨a',c',rfl,_,h3⟩:=vM iM 33 L hlen ho hn;obtain⟨g,rfl,h4,h5,h6⟩:=h3 (by omega);exact⟨_,c',rfl,⟨fun _=>⟨g,0,rfl,h5,fun i hi=>⟨(hc i hi).1,by rw[Nat.zero_add];exact h6 i _ (List.getElem?_eq_getElem hi)⟩⟩,fun _ ad e=>by cases e;exact h4⟩,hb⟩;obtain rfl:L=[]:=List.eq_nil_of_length_eq_zero (by omega);refine(F6 ad n c [] (fun x hx=>by cases hx) hn hl w (fun j u hj=>by simp at hj)).mono ?_;rintro e w' ⟨v',rfl,ho,hb⟩;obtain⟨a',c',rfl,_⟩:=vM iM 33 [] (fun x hx=>by cases hx) ho hn;exact⟨a',c',rfl,⟨fun h=>by simp at h,fun h=>by simp at h⟩,hb⟩
variable{p:NN.Pr}{t:Tl}
theorem u_(tt:p.tl=t.C)(a:Option Addr)(n c:Nat):(NN.aE p).setIfInBounds 5 (.slice a n c)=NN.aE { p with tl:=({ t with ga:=a,gn:=n,gc:=c }:Tl).C }:=by unfold NN.aE NN.dK;rw[tt,List.setIfInBounds_toArray];rfl
theorem ub(tt:p.tl=t.C)(a:Option Addr)(n c:Nat):(NN.aE p).setIfInBounds 6 (.slice a n c)=NN.aE { p with tl:=({ t with ca:=a,cn:=n,cc:=c }:Tl).C }:=by unfold NN.aE NN.dK;rw[tt,List.setIfInBounds_toArray];rfl
variable{w:World}{k:Nat}
theorem Ab(h:NN.aA w k p)(tt:p.tl=t.C)(a:Option Addr)(n c:Nat):NN.aA (w.setCell ⟨k,5,none⟩ (.slice a n c)) k { p with tl:=({ t with ga:=a,gn:=n,gc:=c }:Tl).C }:=by have:=NN.Has.set (i:=5) h (.slice a n c);rwa[u_ tt]at this
theorem Bf(h:NN.aA w k p)(tt:p.tl=t.C)(a:Option Addr)(n c:Nat):NN.aA (w.setCell ⟨k,6,none⟩ (.slice a n c)) k { p with tl:=({ t with ca:=a,cn:=n,cc:=c }:Tl).C }:=by have:=NN.Has.set (i:=6) h (.slice a n c);rwa[ub tt]at this
def gG(p:NN.Pr)(t:Tl)(ga:Option Addr)(gc:Nat)(ca:Option Addr)(cc:Nat):NN.Pr:={ p with tl:=({ t with ga:=ga,gc:=gc,ca:=ca,cc:=cc }:Tl).C }
def AK(t:Tl)(ga:Option Addr)(gc:Nat)(ca:Option Addr)(cc:Nat):Tl:={ t with ga:=ga,gc:=gc,ca:=ca,cc:=cc }
theorem F_(t:Tl)(h:t.ok):t.C.length=78:=by unfold Tl.C;simp[h.1,eR h.2]
theorem EZ(p:NN.Pr)(t:Tl)(h:t.ok)(ga:Option Addr)(gc:Nat)(ca:Option Addr)(cc:Nat):(gG p t ga gc ca cc).ok:=F_ _ h
variable{a:Act}
theorem Ku{ops:Array Oper}{rest:List Oper}{o:Oper}{Q:Exit->Act->World->Prop}(hgd:o.guard=none)(x y:Operand)(ho:o.op=.store 32 x y)(g:Nat)(cz:Array Value)(p':NN.Pr)(h1:p'.one)(hx:a.eval x=ah g)(hy:a.eval y=.agg cz)(e:cz=NN.aE p')(hs':(NN.aE p').size=83)(hg:NN.aA w g p)(hs:(NN.aE p).size=83)(hk:wpList Tryz.prog ops Q rest (a.put o.dst undef) (w.setRow g (NN.aE p'))):wpList Tryz.prog ops Q (o::rest) a w:=by subst e;exact wpList_store_row hgd 32 x y ho g (NN.aE p') hx hy 32 (NN.aE p) (Has.out hg) (NN.fh.trans (by rw[hs'])) (by rw[hs,hs']) (all_oneCell_toArray (NN.vn h1)) hk
theorem Ev(w:World)(ob:Obj):NN.aA ((w.alloc ob).alloc (.cells Tryz.zeroCells32 32)) (w.heap.size+1) n9:=Has.Rg ob (NN.aE n9) _
theorem NH{fn:Func}{q:Tmp}(hf:fn.results=#[.cell q 32])(tmps:Array Value)(g:Nat)(hp:tmps.getD q undef=ah g)(hg:NN.aA w g p)(hs:(NN.aE p).size=83):(results fn tmps).run Tryz.prog w=.ok (.agg (NN.aE p)) w:=
 results_cell_row hf tmps w g 32 (NN.aE p) (0,0) _ hp (Has.out hg) Tryz.underlying32 rfl (NN.fh.trans (by rw[hs]))
theorem F5{B:Nat}{w':World}(h:Below B w w')(p:Addr)(v:Value)(hp:B<=p.block):Below B w (w'.setCell p v):=h.setCell hp v
theorem LP(p:NN.Pr)(hp:p.ok)(h1:p.one)(t:Tl)(tt:p.tl=t.C)(ht:t.ok)(G K:World->Option Addr->Prop)(w:World)(KG:Hid (∀w',Below w.heap.size w w'->w.heap.size+2<=w'.heap.size->aN 171 #[.slice t.ga t.gn t.gc] w' fun e w''=>∃a' c',e=.returned (.slice a' t.gn c')/\G w'' a'/\Below w'.heap.size w' w''))(KC:Hid (∀w',Below w.heap.size w w'->w.heap.size+2<=w'.heap.size->aN 172 #[.slice t.ca t.cn t.cc] w' fun e w''=>∃a' c',e=.returned (.slice a' t.cn c')/\K w'' a'/\Below w'.heap.size w' w'')):aN 139 #[.agg (NN.aE p)] w fun e w'=>∃ga gc ca cc,e=.returned (.agg (NN.aE (gG p t ga gc ca cc)))/\(∃w1,G w1 ga/\Kp (fun i=>i=w.heap.size\/i=w.heap.size+1) w1 w')/\(∃w1,K w1 ca/\Kp (fun i=>i=w.heap.size\/i=w.heap.size+1) w1 w')/\Below w.heap.size w w':=by
 have hz:=NN.ef hp;have z0:=NN.ef mN;go_enter Tryz.func139,Tryz.ntmps139;go_upto_region 1 with fail
 generalize hw0:World.alloc _ _=v0;have hB:Below w.heap.size w v0:=by rw[<-hw0];exact aY.alloc (by simp) _
 have hP:NN.aA v0 w.heap.size p:=by rw[<-hw0];exact(NN.Has.new _ _).alloc _
 have hsz0:w.heap.size+2<=v0.heap.size:=by rw[<-hw0];simp
 have hR:NN.aA v0 (w.heap.size+1) n9:=by rw[<-hw0];exact Ev w _
 clear hw0;obtain⟨bP,Rv⟩:∃x,x=w.heap.size:=⟨_,rfl⟩;obtain⟨bR,hbR⟩:∃x,x=w.heap.size+1:=⟨_,rfl⟩;rw[<-hbR]at hR|-;rw[<-Rv]at hP|-;have HP:Hid (bP=w.heap.size):=h_ Rv;have HR:Hid (bR=w.heap.size+1):=h_ hbR;have n1:bP≠bR:=by omega
 clear Rv hbR;have c5:=mQ hP tt;go_wp2_with fail
 refine(KG.out _ hB hsz0).mono ?_;rintro e v1 ⟨ga,gc,rfl,hg,hb⟩;replace hP:=hP.on hb;replace hR:=hR.on hb;replace hB:=af hB hb;have hsz1:w.heap.size+2<=v1.heap.size:=Nat.le_trans hsz0 hb.size;clear hb c5 hsz0;have c5:=mQ hP tt;have f5:=Has.free hP 5;go_upto_region 2 with fail
 have hP2:=Ab hP tt ga t.gn gc;have hR2:NN.aA (v1.setCell ⟨bP,5,none⟩ (.slice ga t.gn gc)) bR n9:=Has.other hR _ _ (fun e=>n1 e.symm);have hB2:Below w.heap.size w (v1.setCell ⟨bP,5,none⟩ (.slice ga t.gn gc)):=F5 hB _ _ (by rw[<-HP.out];exact Nat.le_refl _);have hk2:Kp (fun i=>i=bP\/i=bR) v1 (v1.setCell ⟨bP,5,none⟩ (.slice ga t.gn gc)):=Kp.gb (gO v1 bP 5 _) (fun k hk=>.inl (Option.some.inj hk).symm);have hsz2:w.heap.size+2<=(v1.setCell ⟨bP,5,none⟩ (.slice ga t.gn gc)).heap.size:=Nat.le_trans hsz1 hk2.size;clear hsz1;generalize World.setCell _ _ _=v2 at*;clear c5 f5 hP hR hB;have c6:=mZ hP2 (t:={ t with ga:=ga,gc:=gc }) rfl;simp only at c6;go_wp2_with fail
 refine(KC.out _ hB2 hsz2).mono ?_;rintro e v3 ⟨ca,cc,rfl,hk,hb⟩;replace hP2:=hP2.on hb;replace hR2:=hR2.on hb;replace hB2:=af hB2 hb;replace hk2:Kp (fun i=>i=bP\/i=bR) v1 v3:=hk2.trans (Kp.of (F:=fun i=>i=bP\/i=bR) hb) (fun i hi _=>hi);clear hb c6;have c6:=mZ hP2 (t:={ t with ga:=ga,gc:=gc }) rfl;simp only at c6;have f6:=Has.free hP2 6;go_upto_region 3 with fail
 have Tx:=Bf hP2 (t:={ t with ga:=ga,gc:=gc }) rfl ca t.cn cc;have Xy:NN.aA (v3.setCell ⟨bP,6,none⟩ (.slice ca t.cn cc)) bR n9:=Has.other hR2 _ _ (fun e=>n1 e.symm);have hB4:Below w.heap.size w (v3.setCell ⟨bP,6,none⟩ (.slice ca t.cn cc)):=F5 hB2 _ _ (by rw[<-HP.out];exact Nat.le_refl _);have hk3:Kp (fun i=>i=bP\/i=bR) v3 (v3.setCell ⟨bP,6,none⟩ (.slice ca t.cn cc)):=Kp.gb (gO v3 bP 6 _) (fun k hk=>.inl (Option.some.inj hk).symm);generalize World.setCell _ _ _=v4 at*;replace hk2:=hk2.trans hk3 (fun i hi _=>hi);clear c6 f6 hP2 hR2 hB2;have T2:NN.aA v4 bP (gG p t ga gc ca cc):=Tx;clear Tx;have z5:=NN.ef (EZ p t ht ga gc ca cc)
 have o5:(gG p t ga gc ca cc).one:=by
  intro v hv;have hv':v∈(Value.slice ga t.gn gc::Value.slice ca t.cn cc::(t.nn++bp t.g)):=hv;simp only[List.mem_cons]at hv';rcases hv' with rfl|rfl|hv'
  rfl;rfl;exact h1 v (by rw[tt];unfold Tl.C;simp only[List.mem_cons];exact .inr (.inr hv'))
 obtain⟨q,hq⟩:∃q,q=gG p t ga gc ca cc:=⟨_,rfl⟩;rw[<-hq]at T2 z5 o5;have HQ:=h_ hq;clear hq;have YE:Hid (w.heap.size<=bR):=h_ (by rw[HR.out];omega)
 go_wp2_with (first
  | (with_reducible refine NN.dA rfl _ rfl _ rfl T2 z5 ?_)
  | (with_reducible refine Ku rfl _ _ rfl _ _ q o5 rfl rfl rfl z5 Xy z0 ?_))
 have hk5:Kp (fun i=>i=bP\/i=bR) v4 (v4.setRow bR (NN.aE q)):=⟨rfl,rfl,rfl,by rw[setRow_size];exact Nat.le_refl _,fun k _ hn=>setRow_other v4 bR k _ (fun e=>hn (.inr e))⟩;refine bodyPost_ret (NH Tryz.results139 _ _ rfl (Has.row Xy _) z5) rfl ⟨ga,gc,ca,cc,HQ.out▸rfl,⟨v1,hg,?_⟩,⟨v3,hk,?_⟩,below_setRow hB4 YE.out _⟩;exact(hk2.trans hk5 (fun i hi _=>hi)).mono (fun i hi _=>hi.elim (fun h=>.inl (h.trans HP.out)) (fun h=>.inr (h.trans HR.out)));exact(hk3.trans hk5 (fun i hi _=>hi)).mono (fun i hi _=>hi.elim (fun h=>.inl (h.trans HP.out)) (fun h=>.inr (h.trans HR.out)))
theorem Hp(p:NN.Pr)(hp:p.ok)(h1:p.one)(t:Tl)(tt:p.tl=t.C)(ht:t.ok)(gs:List Gt)(cs:List Ck)(hgn:t.gn=gs.length)(hcn:t.cn=cs.length)(hgl:t.gn<=1000)(hcl:t.cn<=1000)(w:World)(hG:aI w t.ga gs)(hC:az w t.ca cs):aN 139 #[.agg (NN.aE p)] w fun e w'=>∃ga gc ca cc,e=.returned (.agg (NN.aE (gG p t ga gc ca cc)))/\fG (fun i=>w.heap.size<=i) (fun w=>aI w ga gs) w'/\fG (fun i=>w.heap.size<=i) (fun w=>az w ca cs) w'/\Bl w w':=by
 refine(LP p hp h1 t tt ht (fun w1 a=>aI w1 a gs/\(0<gs.length->∀ad,a=some ad->w.heap.size+2<=ad.block)) (fun w1 a=>az w1 a cs/\(0<cs.length->∀ad,a=some ad->w.heap.size+2<=ad.block)) w ?_ ?_).mono ?_
 ·refine h_ fun w' hb hs=>(PF t.ga t.gn t.gc gs hgn hgl w' (hG.below hb)).mono ?_
  rintro e w2 ⟨a',c',rfl,⟨q1,q2⟩,q3⟩;exact⟨a',c',rfl,⟨q1,fun h0 ad e=>Nat.le_trans hs (q2 h0 ad e)⟩,q3⟩
 ·refine h_ fun w' hb hs=>(Om t.ca t.cn t.cc cs hcn hcl w' (hC.below hb)).mono ?_
  rintro e w2 ⟨a',c',rfl,⟨q1,q2⟩,q3⟩;exact⟨a',c',rfl,⟨q1,fun h0 ad e=>Nat.le_trans hs (q2 h0 ad e)⟩,q3⟩
 ·rintro e w' ⟨ga,gc,ca,cc,rfl,⟨w1,⟨q1,q2⟩,q3⟩,⟨w2,⟨q4,q5⟩,q6⟩,hb⟩;refine⟨ga,gc,ca,cc,rfl,?_,?_,hb⟩
  ·refine(fG.on (Lr (I:=fun i=>w.heap.size+2<=i) q1 q2) q3 (fun i hi h=>?_)).wide fun i hi=>by omega
   rcases h with h|h<;>omega
  ·refine(fG.on (KJ (I:=fun i=>w.heap.size+2<=i) q4 q5) q6 (fun i hi h=>?_)).wide fun i hi=>by omega
   rcases h with h|h<;>omega
open NN.Rz
def QS(b:Nat)(v:Value)(e:En)(s:Sp)(bE bS:Nat):Nat->Value->Prop
 | 0,u=>u=ah b
 | 1,u=>u=ah b
 | 2,u=>u=ah b
 | 3,u=>u=.pointer (some ⟨b,84,none⟩)
 | 4,u=>u=v
 | 5,u=>u=.agg (bB e)
 | 6,u=>u=.agg (bo s)
 | 7,u=>u=.agg (iH e s).toArray
 | 10,u=>u=ah b
 | 11,u=>u=.pointer (some ⟨b,84,none⟩)
 | _,_=>bE=bE/\bS=bS
def Q4(b mb bE:Nat)(e:En)(n:Nat):Nat->Value->Prop
 | 0,u=>u=ah b
 | 1,u=>u=ah b
 | 2,u=>u=.pointer (some ⟨b,85,none⟩)
 | 3,u=>u=.map (some mb)
 | 4,u=>u=.pointer (some ⟨bE,68,none⟩)
 | 5,u=>u=.agg (ae e.id)
 | 6,u=>u=i_ n
 | _,_=>n=n
def GA(v1:World)(b:Nat)(p:NN.Pr)(room:Nat)(v:Value)(mb n:Nat)(xs:List Value)(e:En)(s:Sp)(l:Array Bool)(a:Act)(w:World):Prop:=
 (l.getD 8 false=true->l.getD 9 false=false->∃g,a.eval (.tmp 21)=.slice (aW g) 1 1/\Has w g (iH e s).toArray 143)/\
 (l.getD 9 false=false->w.ownsRow 0 143 144 v n xs)/\
 (l.getD 9 false=true->l.getD 12 false=false->∃v',a.eval (.tmp 22)=v'/\w.ownsRow 0 143 144 v' (n+1) (xs++iH e s)/\(v'.ownBlock=v.ownBlock\/∃g,v'.ownBlock=some g/\v1.heap.size<=g))/\
 (l.getD 12 false=false->Has w b (jf p room v mb) 147)/\
 (l.getD 12 false=true->∃v',Has w b (jf p room v' mb) 147/\w.ownsRow 0 143 144 v' (n+1) (xs++iH e s)/\(v'.ownBlock=v.ownBlock\/∃g,v'.ownBlock=some g/\v1.heap.size<=g))
theorem GA.keep{v1:World}{b:Nat}{room:Nat}{v:Value}{mb n:Nat}{xs:List Value}{e:En}{s:Sp}{l:Array Bool}(h:GA v1 b p room v mb n xs e s l a w)(i:Nat)(hi:i<l.size)(h8:i≠8:=by decide)(h9:i≠9:=by decide)(h12:i≠12:=by decide){d:Option Tmp}{u:Value}(hd:d≠some 21:=by decide)(hd2:d≠some 22:=by decide):GA v1 b p room v mb n xs e s (l.setIfInBounds i true) (a.put d u) w:=by obtain⟨p1,p2,p3,p4,p5⟩:=h;unfold GA;rw[gd l i 8 hi h8,gd l i 9 hi h9,gd l i 12 hi h12,Act.eval_put (fun d' hdd e=>hd (by rw[hdd];cases e;rfl)),Act.eval_put (fun d' hdd e=>hd2 (by rw[hdd];cases e;rfl))];exact⟨p1,p2,p3,p4,p5⟩
theorem uE(b:Nat)(p:NN.Pr)(hp:p.ok)(room:Nat)(sa:Option Addr)(n c:Nat)(mb:Nat)(xs:List Value)(e:En)(he:e.ok)(s:Sp)(hs:s.ok)(hn:n<=900)(w:World)(hA:Has w b (jf p room (.slice sa n c) mb) 147)(hrow:w.ownsRow 0 143 144 (.slice sa n c) n xs)(hbv:∀k,(Value.slice sa n c).ownBlock=some k->k≠b)(hbm:b≠mb)(Q:World->World->Prop)(KM:Hid (∀v2:World,v2.heap[mb]?=w.heap[mb]?->∃v3,(Instr.mapUpdate 145 (.map (some mb)) (.agg (ae e.id)) (.int .i64 (n:Int))).run Tryz.prog v2=.ok () v3/\Q v2 v3/\v2.grownBy v3 (some mb)))(hmv:∀k,(Value.slice sa n c).ownBlock=some k->k≠mb)(TR:mb<w.heap.size):aN 124 #[.pointer (some ⟨b,0,none⟩),.agg (bB e),.agg (bo s)] w fun r w'=>∃v' v2,r=.returned (.int .i64 (n:Int))/\Has w' b (jf p room v' mb) 147/\w'.ownsRow 0 143 144 v' (n+1) (xs++iH e s)/\(v'.ownBlock=(Value.slice sa n c).ownBlock\/∃g,v'.ownBlock=some g/\w.heap.size<=g)/\Kp (fun i=>i=b\/i=mb\/(Value.slice sa n c).ownBlock=some i) w w'/\Q v2 w':=by
 have z1:=gh he;have z2:=mA he;have z3:=iW hs;have z4:=me hs;go_enter Tryz.func124,Tryz.ntmps124;go_upto_region 1 with fail
 generalize hw0:World.alloc _ _=v0;have hB:Bl w v0:=by rw[<-hw0];exact aY.alloc (by simp) _
 have hE:br v0 w.heap.size e:=by rw[<-hw0];exact(Has.new _ _).alloc _
 have hS:aH v0 (w.heap.size+1) s:=by rw[<-hw0];exact Has.Rg _ (bo s) _
 clear hw0;have RD:Has v0 b (jf p room (.slice sa n c) mb) 147:=bY hB hA (Has.lt hA);have TS:=ax hrow (Kp.of (F:=fun _=>False) hB) (fun _ _ h=>h);have hbl:=Has.lt hA;have hrl:∀k,(Value.slice sa n c).ownBlock=some k->k<w.heap.size:=fun k hk=>(cx hrow hk).1
 have HML:=h_ TR;have hMB:v0.heap[mb]?=w.heap[mb]?:=hB.block mb TR;have HW:Hid (w.heap.size<=v0.heap.size):=h_ hB.size;obtain⟨bE,SP⟩:∃x,x=w.heap.size:=⟨_,rfl⟩;obtain⟨bS,hbS⟩:∃x,x=w.heap.size+1:=⟨_,rfl⟩;rw[<-hbS]at hS|-;have HB:=h_ hB;have Vh:∀k,k<w.heap.size->k≠bE:=fun k hk e=>by omega
 have Vi:∀k,k<w.heap.size->k≠bS:=fun k hk e=>by omega
 have HEE:Hid (bE=w.heap.size):=h_ SP;rw[<-SP]at hE;clear hrow hA hB TR hbS SP;have hv0:=iv RD hp;rw[<-HEE.out];go_upto_region 2 with fail
 generalize hv1:v0=v1 at*;clear hv1;have nE1:∀k,(Value.slice sa n c).ownBlock=some k->k≠bE:=fun k hk=>Vh k (hrl k hk)
 have nS1:∀k,(Value.slice sa n c).ownBlock=some k->k≠bS:=fun k hk=>Vi k (hrl k hk)
 have nE2:=Vh b hbl;have nS2:=Vi b hbl;have hz:=iv RD hp;clear Vh Vi hrl;generalize hF:(fun i=>i=b\/(Value.slice sa n c).ownBlock=some i)=F;have fE:¬F bE:=by rw[<-hF];exact fun h=>h.elim (fun h=>nE2 h.symm) (fun h=>nE1 _ h rfl)
 have fS:¬F bS:=by rw[<-hF];exact fun h=>h.elim (fun h=>nS2 h.symm) (fun h=>nS1 _ h rfl)
 have fb:F b:=by rw[<-hF];exact .inl rfl
 have fv:∀k,(Value.slice sa n c).ownBlock=some k->F k:=fun k hk=>by rw[<-hF];exact .inr hk
 have fm:¬F mb:=by rw[<-hF];exact fun h=>h.elim (fun h=>hbm h.symm) (fun h=>hmv _ h rfl)
 have fl:∀i,F i->i<v1.heap.size:=fun i hi=>by
  rw[<-hF]at hi;rcases hi with rfl|hi
  exact Has.lt RD;exact(cx TS hi).1
 have WB:=h_ hF;clear hF;refine ig (by kernel_rfl) (fun w'=>Kp F v1 w') (fun i v' _=>QS b (.slice sa n c) e s bE bS i v') (fun l a w'=>GA v1 b p room (.slice sa n c) mb n xs e s l a w') (fun _ _=>True) (fun _ _=>trivial) (fun _ _ _ _ _ _ h=>h) (by kernel_rfl) (Kp.of a_.drew) ?_ ?_ ?_;exact fun l hl=>⟨fun h=>(by rw[hl]at h;cases h),fun _=>TS,fun h=>(by rw[hl]at h;cases h),fun _=>Has.drew RD,fun h=>(by rw[hl]at h;cases h)⟩
 ·intro i o lz a wx ho' hnl dq Z;have hC:=Z.c;have hI:=Z.i;have hi:i<13:=(Array.getElem?_eq_some_iff.1 ho').1;have VG:Has wx bE (bB e) 60:=hC.has hE fE;have YF:Has wx bS (bo s) 141:=hC.has hS fS
  have rE:wx.rangeAt bE 0 (gj e):=by
   have:=gk (A:=[]) (cs:=gj e) (C:=[]) (o:=0) (w:=wx) (b:=bE) (t:=60) (by rw[List.append_nil];exact VG) rfl;exact this
  have rS:wx.rangeAt bS 0 (gm s):=by
   have:=gk (A:=[]) (cs:=gm s) (C:=[]) (o:=0) (w:=wx) (b:=bS) (t:=141) (by rw[List.append_nil];exact YF) rfl;exact this
  have hlx:v1.heap.size<=wx.heap.size:=hC.size;obtain rfl|rfl|rfl|rfl|rfl|rfl|rfl|rfl|rfl|rfl|rfl|rfl|rfl:i=0\/i=1\/i=2\/i=3\/i=4\/i=5\/i=6\/i=7\/i=8\/i=9\/i=10\/i=11\/i=12:=by omega
  all_goals obtain rfl:=Option.some.inj ho'
  exact aP 0 Z (ak rfl) (NN.dk rfl) (Z.old' 0) (hI.keep 0 (av Z 0));exact aP 1 Z (ak rfl) (NN.dk rfl) (Z.old' 0) (hI.keep 1 (av Z 1));exact aP 2 Z (ak rfl) (cB rfl (ar Z dq 1 14)) rfl (hI.keep 2 (av Z 2));exact aP 3 Z (ak rfl) (de rfl (ar Z dq 2 15) (kT wx b)) rfl (hI.keep 3 (av Z 3));have hsz:=av Z 4;have h12:=du Z hnl 12;have hAx:=hI.2.2.2.1 (by rw[<-gd lz 4 12 hsz (by decide)];exact h12);exact aP 4 Z (ak rfl) (EM rfl (ar Z dq 3 16) (iv hAx hp)) rfl (hI.keep 4 hsz);exact aP 5 Z (ak rfl) (Hm rfl (Z.old' 4) rE z2) rfl (hI.keep 5 (av Z 5));exact aP 6 Z (ak rfl) (Eb rfl (Z.old' 5) rS z4) rfl (hI.keep 6 (av Z 6));exact aP 7 Z (ak rfl) (NZ rfl (ar Z dq 5 18) (ar Z dq 6 19) he hs) rfl (hI.keep 7 (av Z 7));have hsz:=av Z 8;have h9:=du Z hnl 9;have h12:=du Z hnl 12;have hbx:Bl wx (wx.alloc (.cells (iH e s).toArray 143)):=aY;refine o_ 8 Z (ak rfl) (Qn rfl (ar Z dq 7 20) (by rw[List.size_toArray,rN he hs])) (hC.trans (Kp.of (F:=F) hbx) (fun i hi _=>hi)) ⟨rfl,rfl⟩ ⟨fun _ _=>⟨wx.heap.size,?_,Has.new _ _⟩,fun _=>?_,fun h=>(by rw[h9]at h;cases h),fun _=>?_,fun h=>(by rw[h12]at h;cases h)⟩;exact jU a 21 _ (by rw[Z.Re];exact(show 21<33 by decide));exact ax (hI.2.1 (by rw[<-gd lz 8 9 hsz (by decide)];exact h9)) (Kp.of (F:=fun _=>False) hbx) (fun _ _ h=>h);exact Has.alloc (hI.2.2.2.1 (by rw[<-gd lz 8 12 hsz (by decide)];exact h12)) _
  ·have hsz:=av Z 9;have h8:lz.getD 8 false=true:=dq ⟨8,.data⟩ (by simp) rfl;have h9:lz.getD 9 false=false:=hnl;have h12:=du Z hnl 12;have TK:lz.getD 12 false=false:=by rw[<-gd lz 9 12 hsz (by decide)];exact h12
   obtain⟨g,hg,hgh⟩:=hI.1 h8 h9;have hrx:=hI.2.1 h9;have hAx:=hI.2.2.2.1 TK;obtain⟨v',w',hr,g1,g2,g3⟩:=PK (ρ:=a.eval) (x:=.tmp 17) (y:=.tmp 21) he hs (ar Z dq 4 17) hrx hg hgh (by omega);refine o_ 9 Z (ak rfl) (hr _ rfl rfl) (hC.trans (Kp.gb (F:=F) g2 (fun k hk=>fv k hk)) (fun i hi _=>hi)) ⟨rfl,rfl⟩ ⟨fun _ h=>(by rw[gi _ _ _ hsz,if_pos rfl]at h;cases h),fun h=>(by rw[gi _ _ _ hsz,if_pos rfl]at h;cases h),fun _ _=>⟨v',?_,g1,?_⟩,fun _=>?_,fun h=>(by rw[h12]at h;cases h)⟩;exact jU a 22 _ (by rw[Z.Re];exact(show 22<33 by decide))
   ·rcases g3 with g3|g3
    exact .inl g3;exact .inr ⟨_,g3,hlx⟩
   exact(g2.block b (Has.lt hAx) (fun hk=>hbv b hk.symm rfl)).trans hAx
  exact aP 10 Z (ak rfl) (cB rfl (ar Z dq 0 13)) rfl (hI.keep 10 (av Z 10));exact aP 11 Z (ak rfl) (de rfl (ar Z dq 10 23) (kT wx b)) rfl (hI.keep 11 (av Z 11))
  ·have hsz:=av Z 12;have h9:lz.getD 9 false=true:=dq ⟨9,.data⟩ (by simp) rfl;obtain⟨v',hv',hr',hl'⟩:=hI.2.2.1 h9 hnl;have hAx:=hI.2.2.2.1 hnl;obtain⟨a',m',c',rfl⟩:=Ot hr';have Te:(lz.setIfInBounds 12 true).getD 9 false=true:=by rw[gd lz 12 9 hsz (by decide)];exact h9
   have e12:(lz.setIfInBounds 12 true).getD 12 false=true:=by rw[gi _ _ _ hsz,if_pos rfl]
   have nb:∀k,(Value.slice a' m' c').ownBlock=some k->k≠b:=fun k hk=>by
    rcases hl' with h|⟨g,h,hg⟩
    exact hbv k (h.symm.trans hk);rw[h]at hk;have hkg:g=k:=Option.some.inj hk;have:=Has.lt RD;omega
   have kb:Kp (fun i=>i=b) wx (wx.setCell ⟨b,84,none⟩ (.slice a' m' c')):=Kp.gb (gO wx b 84 _) (fun k hk=>(Option.some.inj hk).symm);refine o8 12 Z (ak rfl) (OI rfl (ar Z dq 11 24) hv' (Has.free hAx 84) (iv hAx hp)) (hC.trans kb (fun i hi _=>by rw[hi];exact fb)) ⟨rfl,rfl⟩ ⟨fun _ h=>(by rw[Te]at h;cases h),fun h=>(by rw[Te]at h;cases h),fun _ h=>(by rw[e12]at h;cases h),fun h=>(by rw[e12]at h;cases h),fun _=>⟨_,CR hAx hp _,?_,hl'⟩⟩;exact ax hr' kb fun i hi hib=>nb i hi hib
 intro lz a' v2 hall Z;have hC:=Z.c;obtain⟨v',hA2,hrow2,hl2⟩:=Z.i.2.2.2.2 (hall 12 (by decide));have e0:a'.eval (.tmp 0)=.pointer (some ⟨b,0,none⟩):=Z.old' 0;have e4:a'.eval (.tmp 4)=.pointer (some ⟨bE,0,none⟩):=Z.old' 4;have e7:a'.eval (.tmp 7)=.int .i64 (n:Int):=Z.old' 7;obtain⟨u,hu⟩:∃u:Nat->Value,∀t,u t=a'.eval (.tmp t):=⟨_,fun _=>rfl⟩;rw[eE a' 33 u Z.Re Z.defers hu];rw[<-hu]at e0 e4 e7;clear hu Z hall;simp only[List.range,List.range.loop,List.map_cons,List.map_nil];rw[e0,e4,e7];clear e0 e4 e7;have hE2:Has v2 bE (bB e) 60:=hC.has hE fE;have rI:v2.rangeAt bE 68 (Lib.byteCells e.id):=gk (A:=bp e.h) (cs:=Lib.byteCells e.id) (C:=.int .i64 e.up :: .int .i64 e.ht::(NN.aa e.wk).toList) (o:=68) hE2 (eR he.1);have hM2:v2.heap[mb]?=w.heap[mb]?:=(hC.block mb (Nat.lt_of_lt_of_le HML.out HW.out) fm).trans hMB;have YG:∀k,v'.ownBlock=some k->k<v2.heap.size:=fun k hk=>(cx hrow2 hk).1
 have nbv:∀k,v'.ownBlock=some k->k≠mb:=fun k hk=>by
  rcases hl2 with h|⟨g,h,hg⟩
  exact hmv k (h.symm.trans hk);rw[h]at hk;have hkg:g=k:=Option.some.inj hk;have:=HML.out;have:=HW.out;omega
 have hl3:v'.ownBlock=(Value.slice sa n c).ownBlock\/∃g,v'.ownBlock=some g/\w.heap.size<=g:=by
  rcases hl2 with h|⟨g,h,hg⟩
  exact .inl h;exact .inr ⟨g,h,Nat.le_trans HW.out hg⟩
 have HA2:=h_ hA2;have HR2:=h_ hrow2;have HK:=h_ ((Kp.of (F:=F) HB.out).trans hC (fun i hi _=>hi));have cb:=Fi hA2 hp;clear hC RD TS hz hl2 YG hE2 hS hrow2 hA2 hE;obtain⟨v3,hrun,hQ,hg3⟩:=KM.out v2.drew (by rw[<-hM2];rfl);go_upto_region 3 with fail
 refine ig (by kernel_rfl) (fun _=>True) (fun i v' _=>Q4 b mb bE e n i v') (fun l _ w'=>Ph 7 (fun w'=>w'=v2.drew) (fun w'=>w'=v3) l w') (fun _ _=>True) (fun _ _=>trivial) (fun _ _ _ _ _ _ h=>h) (by kernel_rfl) trivial ?_ ?_ ?_;exact fun l hl=>Ph.zero hl rfl
 ·intro i o lz a wx ho' hnl dq Z;have hC:=Z.c;have hI:=Z.i;have hi:i<8:=(Array.getElem?_eq_some_iff.1 ho').1;obtain rfl|rfl|rfl|rfl|rfl|rfl|rfl|rfl:i=0\/i=1\/i=2\/i=3\/i=4\/i=5\/i=6\/i=7:=by omega
  all_goals obtain rfl:=Option.some.inj ho'
  exact aP 0 Z (ak rfl) (NN.dk rfl) (Z.old' 0) (hI.keep (av Z 0));exact aP 1 Z (ak rfl) (cB rfl (ar Z dq 0 25)) rfl (hI.keep (av Z 1));exact aP 2 Z (ak rfl) (de rfl (ar Z dq 1 26) (tJ wx b)) rfl (hI.keep (av Z 2));have hsz:=av Z 3;have hw:wx=v2.drew:=hI.pre (cK Z hnl 7) hsz (by decide);exact aP 3 Z (ak rfl) (Pe rfl (ar Z dq 2 27) (by rw[hw];exact cb)) rfl (hI.keep hsz);exact aP 4 Z (ak rfl) (de rfl (Z.old' 4) (u' wx bE)) rfl (hI.keep (av Z 4));have hsz:=av Z 5;have hw:wx=v2.drew:=hI.pre (cK Z hnl 7) hsz (by decide);exact aP 5 Z (ak rfl) (Qj rfl (ar Z dq 4 29) (by rw[hw];exact rI) he.2) rfl (hI.keep hsz);exact aP 6 Z (ak rfl) (NN.dk rfl) (Z.old' 7) (hI.keep (av Z 6));have hsz:=av Z 7;have hw:wx=v2.drew:=hI.1 hnl;exact o8 7 Z (ak rfl) (Jb rfl (ar Z dq 3 28) (ar Z dq 5 30) (ar Z dq 6 31) (by rw[hw];exact hrun)) trivial rfl (Ph.last hsz rfl)
 intro lz a' w4 hall Z;obtain rfl:=Z.i.2 (hall 7 (by decide));have e7:a'.eval (.tmp 7)=.int .i64 (n:Int):=Z.old' 7;obtain⟨u,hu⟩:∃u:Nat->Value,∀t,u t=a'.eval (.tmp t):=⟨_,fun _=>rfl⟩;rw[eE a' 33 u Z.Re Z.defers hu];rw[<-hu]at e7;clear hu Z hall;simp only[List.range,List.range.loop,List.map_cons,List.map_nil];rw[e7];clear e7;have hK3:Kp (fun i=>i=mb) v2 w4:=(Kp.of (F:=fun i=>i=mb) (Below.refl _ v2).drew).trans (Kp.gb hg3 (fun k hk=>(Option.some.inj hk).symm)) (fun i hi _=>hi);have hA4:=hK3.has HA2.out (fun e=>hbm e);have Xy:=ax HR2.out hK3 (fun i hi e=>nbv i hi e);have HK4:Kp (fun i=>i=b\/i=mb\/(Value.slice sa n c).ownBlock=some i) w w4:=(HK.out.mono (fun i hi _=>by rw[<-WB.out]at hi;exact hi.elim .inl (fun h=>.inr (.inr h)))).trans hK3 (fun i hi _=>.inr (.inl hi));go_wp2_with fail
 go_ret;exact⟨v',_,rfl,hA4,Xy,hl3,HK4,hQ⟩
section
variable{ρ:Operand->Value}{o:Oper}{w:World}
variable{x:Operand}{g off:Nat}
theorem vC{T:TypeId}{n m:Nat}(ho:o.op=.fieldAddr T x n)(hx:ρ x=.pointer (some ⟨g,off,none⟩))(hf:(Instr.fieldAt T (.pointer (some ⟨g,off,none⟩)) n).run Tryz.prog w=.ok (.pointer (some ⟨g,m,none⟩)) w):(execOp ρ o).run Tryz.prog w=.ok (.value (.pointer (some ⟨g,m,none⟩))) w:=by unfold execOp;simp only[ho,hx,Sem.run_bind,hf,Result.andThen_ok];rfl
theorem f'(w:World)(g:Nat):(Instr.fieldAt 32 (ah g) 9).run Tryz.prog w=.ok (.pointer (some ⟨g,15,none⟩)) w:=by kernel_rfl
theorem mF(w:World)(g:Nat):(Instr.fieldAt 30 (.pointer (some ⟨g,15,none⟩)) 4).run Tryz.prog w=.ok (.pointer (some ⟨g,81,none⟩)) w:=by kernel_rfl
theorem lP{h:Hd}(ho:o.op=.load 30 x)(hx:ρ x=.pointer (some ⟨g,off,none⟩))(hg:w.rangeAt g off (bp h))(hs:(bp h).length=68):(execOp ρ o).run Tryz.prog w=.ok (.value (.agg (aD h))) w:=
 gJ 30 ho hx Tryz.underlying30 rfl (fY.trans (by rw[hs])) hg
variable{e:En}
theorem OZ{x0 x1 x2 x4:Operand}(ho:o.op=.build 60 #[(0,x0),(1,x1),(2,x2),(4,x4)])(he:e.ok)(h0:e.ht=0)(hx0:ρ x0=.agg (aD e.h))(hx1:ρ x1=.agg (ae e.id))(hx2:ρ x2=i_ e.up)(hx4:ρ x4=.agg (NN.aa e.wk)):(execOp ρ o).run Tryz.prog w=.ok (.value (.agg (bB e))) w:=by unfold execOp;simp only[ho,Sem.run_bind];rw[show(#[(0,x0),(1,x1),(2,x2),(4,x4)]:Array (Nat×Operand)).map (fun(i,x)=>(i,ρ x))=#[(0,.agg (aD e.h)),(1,.agg (ae e.id)),(2,i_ e.up),(4,.agg (NN.aa e.wk))] by simp[hx0,hx1,hx2,hx4],run_build w 60 _ _ (GU e he h0)];rfl
theorem Gq{y:Operand}{cs:Array Value}(ho:o.op=.store 60 x y)(hx:ρ x=ah g)(hy:ρ y=.agg (bB e))(hg:Has w g cs 60)(hs:cs.size=106)(hs':(bB e).size=106):(execOp ρ o).run Tryz.prog w=.ok .skip (w.setRow g (bB e)):=by unfold execOp;simp only[ho,hx,hy,Instr.storeAt,Instr.sureAddr,Sem.run_bind,Sem.run_pure,Result.andThen_ok,run_storeVar_row w g 60 60 cs (bB e) (Has.out hg) (iK.trans (by rw[hs'])) (by rw[hs,hs']) (x8 e)]
end
theorem GQ{w:World}{g o:Nat}{h:Hd}(ho:h.ok)(hr:w.rangeAt g o (bp h)):w.cell? ⟨g,o+66,none⟩=some (i_ h.bits):=hr 66 _ (vY ho 1)
def QX(bP bR:Nat)(e:En):Nat->Value->Prop
 | 0,u=>u=.pointer (some ⟨bP,15,none⟩)
 | 1,u=>u=.agg (aD e.h)
 | 2,u=>u=.pointer (some ⟨bP,15,none⟩)
 | 3,u=>u=.agg (aD e.h)
 | 4,u=>u=.agg (ae e.id)
 | 5,u=>u=.pointer (some ⟨bP,15,none⟩)
 | 6,u=>u=.pointer (some ⟨bP,81,none⟩)
 | 7,u=>u=i_ e.h.bits
 | 8,u=>u=.agg (NN.aa e.wk)
 | 9,u=>u=.agg (bB e)
 | _,_=>bR=bR
theorem EA(p:NN.Pr)(t:Tl)(tt:p.tl=t.C)(ht:t.ok)(e:En)(he:e.ok)(h0:e.ht=0)(hu:e.up = -1)(hg:e.h=t.g)(w:World)(KI:aV w 119 #[.agg (aD e.h)] (.agg (ae e.id)))(KW:Hid (∀w',an 123 #[.int .i64 e.h.bits] w' (.agg (NN.aa e.wk)))):an 140 #[.agg (NN.aE p)] w (.agg (bB e)):=by
 have z0:=gh cU;have z1:=gh he;have z2:=eR he.1;go_enter Tryz.func140,Tryz.ntmps140;go_upto_region 1 with fail
 generalize hw0:World.alloc _ _=v0;have hB:Bl w v0:=by rw[<-hw0];exact aY.alloc (by simp) _
 have hP:NN.aA v0 w.heap.size p:=by rw[<-hw0];exact(NN.Has.new _ _).alloc _
 have hR:br v0 (w.heap.size+1) iI:=by rw[<-hw0];exact Has.Rg _ (bB iI) _
 clear hw0;obtain⟨bP,Rv⟩:∃x,x=w.heap.size:=⟨_,rfl⟩;obtain⟨bR,hbR⟩:∃x,x=w.heap.size+1:=⟨_,rfl⟩;rw[<-hbR]at hR|-;rw[<-Rv]at hP|-;have hlt:bR<v0.heap.size:=Has.lt hR;have n1:bP≠bR:=by omega
 have SS:Hid (w.heap.size<=bR):=h_ (by omega);have VF:Hid (bP=w.heap.size):=h_ Rv;clear Rv hbR;refine ig (by kernel_rfl) (fun w'=>Bl w w'/\NN.aA w' bP p) (fun i v' _=>QX bP bR e i v') (fun l _ w'=>Ph 10 (fun w'=>br w' bR iI) (fun w'=>br w' bR e) l w') (fun _ _=>True) (fun _ _=>trivial) (fun _ _ _ _ _ _ h=>h) (by kernel_rfl) ⟨hB.trans (a_.drew.mono hB.size),Has.drew hP⟩ ?_ ?_ ?_;exact fun l hl=>Ph.zero hl (Has.drew hR)
 ·intro i o lz a wx ho' hnl dq Z;have hC:=Z.c;have hI:=Z.i;have hi:i<11:=(Array.getElem?_eq_some_iff.1 ho').1;have rP:wx.rangeAt bP 15 (bp e.h):=by rw[hg];exact jC hC.2 tt ht
  have rB:=GQ he.1 rP;obtain rfl|rfl|rfl|rfl|rfl|rfl|rfl|rfl|rfl|rfl|rfl:i=0\/i=1\/i=2\/i=3\/i=4\/i=5\/i=6\/i=7\/i=8\/i=9\/i=10:=by omega
  all_goals obtain rfl:=Option.some.inj ho'
  exact aP 0 Z (ak rfl) (de rfl (Z.old' 1) (f' wx bP)) rfl (hI.keep (av Z 0));exact aP 1 Z (ak rfl) (lP rfl (ar Z dq 0 3) rP z2) rfl (hI.keep (av Z 1));exact aP 2 Z (ak rfl) (de rfl (Z.old' 1) (f' wx bP)) rfl (hI.keep (av Z 2));exact aP 3 Z (ak rfl) (lP rfl (ar Z dq 2 5) rP z2) rfl (hI.keep (av Z 3))
  ·have hsz:=av Z 4;have Ri:=du Z hnl 10;have hpre:=hI.pre Ri hsz (by decide);exact lZ (S:=mJ) 4 Z (ak rfl) (f:=119) (args:=#[a.eval (.tmp 6)]) (by kernel_rfl) (by rw[show a.eval (.tmp 6)=_ from(ar Z dq 3 6)];  exact KI.out wx hC.1) (fun w' hb=>⟨⟨af hC.1 hb,NN.aA.on hC.2 hb⟩,trivial,rfl,Ph.made Ri (br.on hpre hb)⟩)
  exact aP 5 Z (ak rfl) (de rfl (Z.old' 1) (f' wx bP)) rfl (hI.keep (av Z 5));exact aP 6 Z (ak rfl) (vC rfl (ar Z dq 5 8) (mF wx bP)) rfl (hI.keep (av Z 6));exact aP 7 Z (ak rfl) (NN.kU rfl (ar Z dq 6 9) rB) rfl (hI.keep (av Z 7))
  ·have hsz:=av Z 8;have Ri:=du Z hnl 10;have hpre:=hI.pre Ri hsz (by decide);exact lZ (S:=mJ) 8 Z (ak rfl) (f:=123) (args:=#[a.eval (.tmp 10)]) (by kernel_rfl) (by rw[show a.eval (.tmp 10)=_ from(ar Z dq 7 10)];  exact KW.out wx) (fun w' hb=>⟨⟨af hC.1 hb,NN.aA.on hC.2 hb⟩,trivial,rfl,Ph.made Ri (br.on hpre hb)⟩)
  exact aP 9 Z (ak rfl) (OZ rfl he h0 (ar Z dq 1 4) (ar Z dq 4 7) (by rw[hu];rfl) (ar Z dq 8 11)) rfl (hI.keep (av Z 9));have hsz:=av Z 10;have hR0:=hI.1 hnl;exact o8 10 Z (ak rfl) (Gq rfl (Z.old' 2) (ar Z dq 9 12) hR0 z0 z1) ⟨below_setRow hC.1 SS.out _,NN.Has.Ra hC.2 _ _ n1⟩ rfl (Ph.last hsz (Has.row hR0 _))
 intro lz a' v1 hall Z;have hC:=Z.c;have hE:=Z.i.2 (hall 10 (by decide));have e2:a'.eval (.tmp 2)=.pointer (some ⟨bR,0,none⟩):=Z.old' 2;obtain⟨u,hu⟩:∃u:Nat->Value,∀t,u t=a'.eval (.tmp t):=⟨_,fun _=>rfl⟩;rw[eE a' 13 u Z.Re Z.defers hu];rw[<-hu]at e2;clear hu Z hall;simp only[List.range,List.range.loop,List.map_cons,List.map_nil];rw[e2];clear e2;go_wp2_with fail
 refine bodyPost_ret (Po Tryz.results140 _ _ rfl hE z1) rfl ⟨rfl,hC.1⟩
end An
namespace An
open Mem Sc
open Ar (aq Ru aB)
variable{w:World}
theorem fG.clip{lo:Nat}{P:World->Prop}(h:fG (fun i=>lo<=i) P w):fG (fun i=>lo<=i/\i<w.heap.size) P w:=fun w' k=>h w' (k.mono fun _ hi hl=>fun h=>hi ⟨h,hl⟩)
variable{I:Nat->Prop}{b room mb:Nat}{p:NN.Pr}{t:Tl}{gs:List Gt}{cs:List Ck}
theorem Jr{v:Value}{L:List Bk}(h:fx w I b p t gs cs room v mb L)(x:Bk)(he:x.e.ok)(hs:x.s.ok)(J:Nat->Prop)(hJ:fG J (fun w=>dY w 0 x.s x.q) w)(WC:∀i,J i->i<w.heap.size)(Xz:∀i,J i->¬(i=b\/i=mb\/v.ownBlock=some i))(hn:L.length<=900)(hf:(L.map (·.e.id)).findIdx? (· == x.e.id)=none):aN 124 #[ah b,.agg (bB x.e),.agg (bo x.s)] w fun r w'=>∃v',r=.returned (i_ (L.length:Nat))/\fx w' (fun i=>I i\/J i) b p t gs cs room v' mb (L++[x])/\Kp (fun i=>i=b\/i=mb\/v.ownBlock=some i) w w'/\(v'.ownBlock=v.ownBlock\/∃g,v'.ownBlock=some g/\w.heap.size<=g):=by
 obtain⟨sa,c,rfl⟩:=h.slice;refine(uE b p h.RG room sa L.length c mb (my L) x.e he x.s hs hn w h.has h.row (fun k hk=>h.Vf hk) h.Uj (fun _ v3=>dg v3 mb (L.map (·.e.id)++[x.e.id])) ?_ (fun k hk=>h.Uk hk) h.map.lt).mono ?_
 ·refine h_ fun v2 hv2=>?_
  obtain⟨w',h1,h2,h3⟩:=(h.map.on hv2).put he.2 hf (by rw[List.length_map];omega) L.length (by rw[List.length_map]);exact⟨w',h1,h2,h3⟩
 ·rintro r w' ⟨v',v2,rfl,hA,hR,hl,hK,hM⟩
  have hI:∀i,I i->¬(i=b\/i=mb\/(Value.slice sa L.length c).ownBlock=some i):=fun i hi e=>by
   rcases e with rfl|rfl|e
   exact h.nb hi;exact h.nm hi;exact h.nv _ e hi
  refine⟨v',rfl,?_,hK,hl⟩;refine{ has:=hA,RG:=h.RG,one:=h.one,tt:=h.tt,tok:=h.tok,gn:=h.gn,cn:=h.cn,row:=?_,map:=?_,RC:=?_,checks:=?_,RV:=?_,nb:=?_,nm:=?_,nv:=?_,lt:=?_,bK:=?_ };rw[LO,List.length_append];exact hR;rw[List.map_append];exact hM;exact(h.RC.on hK hI).wide fun i hi=>.inl hi
  exact(h.checks.on hK hI).wide fun i hi=>.inl hi
  ·intro y hy;rcases List.mem_append.1 hy with hy|hy
   exact((h.RV y hy).on hK hI).wide fun i hi=>.inl hi
   obtain rfl:y=x:=(by simpa using hy);exact(hJ.on hK Xz).wide fun i hi=>.inr hi
  exact fun e=>e.elim h.nb fun e=>Xz b e (.inl rfl)
  exact fun e=>e.elim h.nm fun e=>Xz mb e (.inr (.inl rfl))
  ·intro k hk e;rcases hl with hl|⟨g,hl,hg⟩
   exact e.elim (h.nv k (hl.symm.trans hk)) fun e=>Xz k e (.inr (.inr (hl.symm.trans hk)))
   rw[hl]at hk;have hkg:g=k:=Option.some.inj hk;have:k<w.heap.size:=e.elim (h.lt k) (WC k);omega
  exact fun i hi=>Nat.lt_of_lt_of_le (hi.elim (h.lt i) (WC i)) hK.size
  ·intro y hy;rcases List.mem_append.1 hy with hy|hy
   exact h.bK y hy;obtain rfl:y=x:=(by simpa using hy);exact⟨he,hs⟩
theorem fx.made(hA:Has w b (jf p room (.slice none 0 0) mb) 147)(RG:p.ok)(one:p.one)(tt:p.tl=t.C)(tok:t.ok)(gn:t.gn=gs.length)(cn:t.cn=cs.length)(hM:dg w mb [])(hG:fG I (fun w=>aI w t.ga gs) w)(hC:fG I (fun w=>az w t.ca cs) w)(nb:¬I b)(nm:¬I mb)(hl:∀i,I i->i<w.heap.size):fx w I b p t gs cs room (.slice none 0 0) mb []:=
 { has:=hA,RG:=RG,one:=one,tt:=tt,tok:=tok,gn:=gn,cn:=cn,row:=World.ownsRow_nil _ _ _ _,map:=hM,RC:=hG,checks:=hC,RV:=fun x hx=>(by cases hx),nb:=nb,nm:=nm,nv:=fun k hk=>(by cases hk),lt:=hl,bK:=fun x hx=>(by cases hx) }
open NN.Rz
variable{ops:Array Oper}{o:Oper}{a:Act}{Q:Exit->Act->World->Prop}
theorem E3{rest:List Oper}(hgd:o.guard=none)(x0 x1 x3:Operand)(ho:o.op=.build 147 #[(0,x0),(1,x1),(3,x3)])(p:NN.Pr)(hp:p.ok)(room mb:Nat)(h0:a.eval x0=.agg (NN.aE p))(h1:a.eval x1=i_ room)(h3:a.eval x3=.map (some mb))(hk:wpList Tryz.prog ops Q rest (a.put o.dst (.agg (jf p room (.slice none 0 0) mb))) w):wpList Tryz.prog ops Q (o::rest) a w:=
 wpList_plain hgd fun _ hK=>by
  unfold Oper.wp execOp;simp only[ho,Sem.run_bind];rw[show(#[(0,x0),(1,x1),(3,x3)]:Array (Nat×Operand)).map (fun(i,x)=>(i,a.eval x))=#[(0,.agg (NN.aE p)),(1,i_ room),(3,.map (some mb))] by simp[h0,h1,h3],run_build w 147 _ _ (OP p hp room mb)];exact hK _ _ hk
variable{P:Program}{C:World->Prop}{S:World->World->Prop}{f:FuncId}{args:Array Value}
theorem QA{R:Value->World->Prop}{J:Act->World->Prop}(hn:Region.wanted o (yielded ops a.tmps)=true)(h:(execOp a.eval o).run P w=.ok (.enter f args) w)(hcall:Calls P f args w fun e w'=>∃v,e=.returned v/\C w'/\S w w'/\R v w'/\J (a.put o.dst v) w'):if Region.wanted o (yielded ops a.tmps)=true then o.wp P a w (fun a' w'=>C w'/\S w w'/\∃v,a'=a.put o.dst v/\R v w'/\J a' w') Q else R undef w/\J (a.put o.dst undef) w:=by
 rw[if_pos hn];unfold Oper.wp;rw[h];refine Calls.mono hcall fun e w' he=>?_
 obtain⟨v,rfl,h1,h2,h3,h4⟩:=he;exact⟨h1,h2,v,rfl,h3,h4⟩
theorem yZ{a0:Act}{R:Nat->Value->World->Prop}{I:Array Bool->Act->World->Prop}{lz:Array Bool}(i:Nat)(_hinv:cQ .any ops a0 C R I lz a w)(hn:Region.wanted o (yielded ops a.tmps)=true)(h:(execOp a.eval o).run P w=.ok (.enter f args) w)(hcall:Calls P f args w fun e w'=>∃v,e=.returned v/\C w'/\S w w'/\R i v w'/\I (lz.setIfInBounds i true) (a.put o.dst v) w'):if Region.wanted o (yielded ops a.tmps)=true then o.wp P a w (fun a' w'=>C w'/\S w w'/\∃v,a'=a.put o.dst v/\R i v w'/\I (lz.setIfInBounds i true) a' w') Q else R i undef w/\I (lz.setIfInBounds i true) (a.put o.dst undef) w:=
 QA (S:=S) (C:=C) (R:=R i) (J:=fun a' w'=>I (lz.setIfInBounds i true) a' w') hn h hcall
def Mh(v1:World)(bA:Nat)(p:NN.Pr)(e:En)(q:Ps):Nat->Value->World->Prop
 | 0,u,_=>u=ah bA
 | 1,u,_=>u=.agg (NN.aE p)
 | 2,u,_=>u=.agg (bB e)
 | 3,u,_=>u=.agg (NN.aE p)
 | 4,u,w=>∃s:Sp,u=.agg (bo s)/\s.ok/\fG (fun i=>v1.heap.size<=i) (fun w=>dY w 0 s q) w
 | _,_,_=>bA=bA
theorem ED{v1:World}{bA:Nat}{e:En}{q:Ps}{G:Nat->Prop}(hG:∀i,G i->i<v1.heap.size):∀(i:Nat)(u:Value)(w w':World),Kp G w w'->Mh v1 bA p e q i u w->Mh v1 bA p e q i u w'
 | 0,_,_,_,_,h=>h
 | 1,_,_,_,_,h=>h
 | 2,_,_,_,_,h=>h
 | 3,_,_,_,_,h=>h
 | 4,_,_,_,hk,⟨s,h1,h2,h3⟩=>⟨s,h1,h2,h3.on hk fun i hi hg=>absurd (hG i hg) (by omega)⟩
 | _+5,_,_,_,_,h=>h
theorem Lg(p:NN.Pr)(hp:p.ok)(t:Tl)(room m1:Int)(R:Nat)(hm1:m1=max room 1)(hR:(R:Int)=min m1 512)(gs:List Gt)(cs:List Ck)(e:En)(he:e.ok)(q:Ps)(q32:q.prev.length=32)(w:World)(KG:aV w 138 #[.agg (NN.aE p)] (.bool true))(KC:Hid (∀w',Below w.heap.size w w'->aN 139 #[.agg (NN.aE p)] w' fun e w''=>∃(p':NN.Pr)(t':Tl),e=.returned (.agg (NN.aE p'))/\(p'.ok/\p'.one/\p'.tl=t'.C/\t'.ok/\t'.gn=gs.length/\t'.cn=cs.length/\p'.lim=p.lim/\p'.Rj=p.Rj/\p'.Rx=p.Rx/\p'.Rp=p.Rp/\p'.Rt=p.Rt/\t'.g=t.g)/\fG (fun i=>w'.heap.size<=i) (fun w=>aI w t'.ga gs) w''/\fG (fun i=>w'.heap.size<=i) (fun w=>az w t'.ca cs) w''/\Below w'.heap.size w' w''))(KE:Hid (∀w',Below w.heap.size w w'->an 140 #[.agg (NN.aE p)] w' (.agg (bB e))))(KB:Hid (∀w',Below w.heap.size w w'->aN 141 #[.agg (NN.aE p)] w' fun r w''=>∃s,r=.returned (.agg (bo s))/\(bo s).size=38/\dY w'' w'.heap.size s q/\Below w'.heap.size w' w'')):aN 105 #[.agg (NN.aE p),.int .i64 room] w fun r w'=>∃b I p' t' v mb x,r=.returned (.tuple #[.pointer (some ⟨b,0,none⟩),.int .i64 0])/\fx w' I b p' t' gs cs R v mb [x]/\x.e=e/\x.q=q/\(p'.lim=p.lim/\p'.Rj=p.Rj/\p'.Rx=p.Rx/\p'.Rp=p.Rp/\p'.Rt=p.Rt/\t'.g=t.g)/\(∀i,jL I b v mb i->w.heap.size<=i)/\Below w.heap.size w w':=by
 have hz:=NN.ef hp;go_enter Tryz.func105,Tryz.ntmps105;go_upto_region 1 with fail
 generalize hw0:World.alloc _ _=v0;have hB:Below w.heap.size w v0:=db hw0;have hP:NN.aA v0 w.heap.size p:=by rw[<-hw0];exact NN.Has.new _ _
 have hs0:w.heap.size+1<=v0.heap.size:=by rw[<-hw0];simp
 clear hw0;obtain⟨bP,Rv⟩:∃x,x=w.heap.size:=⟨_,rfl⟩;rw[<-Rv]at hP|-;have VF:Hid (bP=w.heap.size):=h_ Rv;clear Rv;go_wp2_with (first|fail|(with_reducible refine NN.dA rfl _ rfl _ rfl hP hz ?_))
 refine(KG.out _ hB).mono ?_;rintro r v1 ⟨rfl,hb⟩;replace hP:=hP.on hb;replace hB:=af hB hb;have hs1:w.heap.size+1<=v1.heap.size:=Nat.le_trans hs0 hb.size;clear hb hs0;go_wp2_with (first|fail|(with_reducible refine NN.dA rfl _ rfl _ rfl hP hz ?_))
 refine(KC.out _ hB).mono ?_;rintro r v2 ⟨p',t',rfl,⟨p1,p2,p3,p4,p5,p6,a1,a2,a3,a4,a5,a6⟩,hG,hC,hb⟩;replace hP:=hP.on hb;replace hB:=af hB hb;have hs2:w.heap.size+1<=v2.heap.size:=Nat.le_trans hs1 hb.size;have ab1:Hid (v1.heap.size<=v2.heap.size):=h_ hb.size;have Wj:=h_ hs1;clear hb hs1;have hmax:=NN.kQ (P:=Tryz.prog) room 1 m1 hm1;have hmin:=NN.gL (P:=Tryz.prog) m1 512 (R:Int) hR;clear hm1 hR;have hmk:∀w:World,(Instr.makeMap 145 none).run Tryz.prog w=.ok (.map (some w.heap.size)) (w.alloc (.map #[] 0)):=fun _=>by kernel_rfl
 go_upto_region 4 with(with_reducible first|refine NN.dA rfl _ rfl _ rfl hP hz ?_|refine E3 rfl _ _ _ rfl p' p1 R v2.heap.size rfl rfl rfl ?_)
 have hMz:(v2.alloc (.map #[] 0)).heap.size=v2.heap.size+1:=by simp
 have hA3:Has ((v2.alloc (.map #[] 0)).alloc (.cells (jf p' R (.slice none 0 0) v2.heap.size) 147)) (v2.heap.size+1) (jf p' R (.slice none 0 0) v2.heap.size) 147:=by rw[<-hMz];exact Has.new _ _
 have hb3:Below v2.heap.size v2 ((v2.alloc (.map #[] 0)).alloc (.cells (jf p' R (.slice none 0 0) v2.heap.size) 147)):=aY.alloc (by simp) _;have YH:dg ((v2.alloc (.map #[] 0)).alloc (.cells (jf p' R (.slice none 0 0) v2.heap.size) 147)) v2.heap.size []:=(dg.made v2).on (heap_alloc_old _ _ (by simp));obtain⟨mb,hmb⟩:∃x,x=v2.heap.size:=⟨_,rfl⟩;obtain⟨bA,UF⟩:∃x,x=v2.heap.size+1:=⟨_,rfl⟩;rw[<-UF]at hA3|-;rw[<-hmb]at hA3 YH hb3|-;have hs3:((v2.alloc (.map #[] 0)).alloc (.cells (jf p' R (.slice none 0 0) mb) 147)).heap.size=v2.heap.size+2:=by simp
 generalize hv3:World.alloc (World.alloc v2 _) _=v3 at*;have hA:fx v3 (fun i=>v1.heap.size<=i/\i<v2.heap.size) bA p' t' gs cs R (.slice none 0 0) mb []:=fx.made hA3 p1 p2 p3 p4 p5 p6 YH (hG.clip.on (G:=fun _=>False) (Kp.of (by first|exact hmb▸hb3|(unfold Bl;exact hmb▸hb3))) (fun _ _ h=>h)) (hC.clip.on (G:=fun _=>False) (Kp.of (by first|exact hmb▸hb3|(unfold Bl;exact hmb▸hb3))) (fun _ _ h=>h)) (fun h=>by omega) (fun h=>by omega) (fun i hi=>by rw[hs3];omega);have hP3:NN.aA v3 bP p:=hP.on (by first|exact hmb▸hb3|(unfold Bl;exact hmb▸hb3));have hB3:Below w.heap.size w v3:=hB.trans (hb3.mono (by rw[hmb];exact hB.size));have HF:Hid (∀i,(i=bA\/i=mb)->i<v3.heap.size):=h_ fun i hi=>by rw[hs3];omega
 have HL:Hid (w.heap.size<=v1.heap.size/\w.heap.size<=mb/\w.heap.size<=bA/\w.heap.size<=v3.heap.size/\bP≠bA/\bP≠mb):=h_ (by rw[hs3];have:=Wj.out;have:=VF.out;omega);clear hA3 YH hb3 hs3 hMz hmk hmax hmin hG hC hP hB hmb UF hv3;refine ig (by kernel_rfl) (fun w'=>(Below w.heap.size w w'/\v3.heap.size<=w'.heap.size)/\NN.aA w' bP p) (fun i v' w'=>Mh v3 bA p e q i v' w') (fun l _ w'=>Ph 5 (fun w'=>fx w' (fun i=>v1.heap.size<=i/\i<v2.heap.size) bA p' t' gs cs R (.slice none 0 0) mb []) (fun w'=>∃I v x,fx w' I bA p' t' gs cs R v mb [x]/\x.e=e/\x.q=q/\∀i,jL I bA v mb i->w.heap.size<=i) l w') (fun w w'=>Kp (fun i=>i=bA\/i=mb) w w') (fun w' _=>Kp.refl _ w') (fun i v w w' _ hs h=>ED HF.out i v w w' hs h) (by kernel_rfl) ⟨⟨hB3.trans (a_.drew.mono hB3.size),(Below.refl v3.heap.size v3).drew.size⟩,NN.Has.drew hP3⟩ ?_ ?_ ?_;exact fun l hl=>Ph.zero hl (hA.below a_.drew)
 ·intro i o lz a wx ho' hnl dq Z;have hC:=Z.c;have hI:=Z.i;have hi:i<6:=(Array.getElem?_eq_some_iff.1 ho').1;obtain rfl|rfl|rfl|rfl|rfl|rfl:i=0\/i=1\/i=2\/i=3\/i=4\/i=5:=by omega
  all_goals obtain rfl:=Option.some.inj ho'
  exact dx (S:=fun w w'=>Kp (fun i=>i=bA\/i=mb) w w') (fun w' _=>Kp.refl _ w') 0 Z (ak rfl) (NN.dk rfl) (Z.old' 6) (hI.keep (av Z 0));exact dx (S:=fun w w'=>Kp (fun i=>i=bA\/i=mb) w w') (fun w' _=>Kp.refl _ w') 1 Z (ak rfl) (NN.Cx rfl (Z.old' 2) hC.2 hz) rfl (hI.keep (av Z 1))
  ·have hsz:=av Z 2;have Ri:=du Z hnl 5;have hpre:=hI.pre Ri hsz (by decide);exact lZ (S:=fun w w'=>Kp (fun i=>i=bA\/i=mb) w w') 2 Z (ak rfl) (f:=140) (args:=#[a.eval (.tmp 19)]) (by kernel_rfl) (by rw[show a.eval (.tmp 19)=_ from(ar Z dq 1 19)];  exact KE.out wx hC.1.1) (fun w' hb=>⟨⟨⟨af hC.1.1 hb,Nat.le_trans hC.1.2 hb.size⟩,NN.aA.on hC.2 hb⟩,Kp.of hb,rfl,Ph.made Ri (hpre.below hb)⟩)
  exact dx (S:=fun w w'=>Kp (fun i=>i=bA\/i=mb) w w') (fun w' _=>Kp.refl _ w') 3 Z (ak rfl) (NN.Cx rfl (Z.old' 2) hC.2 hz) rfl (hI.keep (av Z 3))
  ·have hsz:=av Z 4;have Ri:=du Z hnl 5;have hpre:=hI.pre Ri hsz (by decide)
   exact Bw (V:=fun v w'=>∃s,v=.agg (bo s)/\(bo s).size=38/\dY w' wx.heap.size s q) (C:=(fun w'=>(Below w.heap.size w w'/\v3.heap.size<=w'.heap.size)/\NN.aA w' bP p)) (S:=(fun w w'=>Kp (fun i=>i=bA\/i=mb) w w')) (R:=fun v' w'=>Mh v3 bA p e q 4 v' w') (J:=fun _ w'=>Ph 5 (fun w'=>fx w' (fun i=>v1.heap.size<=i/\i<v2.heap.size) bA p' t' gs cs R (.slice none 0 0) mb []) (fun w'=>∃I v x,fx w' I bA p' t' gs cs R v mb [x]/\x.e=e/\x.q=q/\∀i,jL I bA v mb i->w.heap.size<=i) (lz.setIfInBounds 4 true) w') (ak rfl) (f:=141) (args:=#[a.eval (.tmp 21)]) (by kernel_rfl) (by
    rw[show a.eval (.tmp 21)=_ from(ar Z dq 3 21)];refine(KB.out wx hC.1.1).mono ?_;rintro r w' ⟨s,rfl,h1,h2,h3⟩
    exact⟨_,rfl,⟨s,rfl,h1,h2⟩,h3⟩) (fun v w' hv hb=>⟨⟨⟨af hC.1.1 hb,Nat.le_trans hC.1.2 hb.size⟩,NN.aA.on hC.2 hb⟩,Kp.of hb,(by
     obtain⟨s,rfl,h1,h2⟩:=hv;exact⟨s,rfl,(by unfold Sp.ok;rw[h2.2.1];exact q32),Du h2 fun i hi _=>Nat.le_trans hC.1.2 hi⟩),Ph.made Ri (hpre.below hb)⟩)
  ·have hsz:=av Z 5;have hpre:=hI.1 hnl;obtain⟨s,e22,so,hJ⟩:=(ar Z dq 4 22)
   exact yZ (S:=fun w w'=>Kp (fun i=>i=bA\/i=mb) w w') 5 Z (ak rfl) (f:=124) (args:=#[a.eval (.tmp 18),a.eval (.tmp 20),a.eval (.tmp 22)]) (by kernel_rfl) (by
    rw[show a.eval (.tmp 18)=_ from(ar Z dq 0 18),show a.eval (.tmp 20)=_ from(ar Z dq 2 20),e22];have WC:=HF.out;refine(Jr hpre ⟨e,s,q⟩ he so (fun i=>v3.heap.size<=i/\i<wx.heap.size) hJ.clip (fun i hi=>hi.2) (fun i hi h=>?_) (by decide) rfl).mono ?_
    ·rcases h with h|h|h
     have:=WC i (.inl h);omega;have:=WC i (.inr h);omega;cases h
    ·rintro r w' ⟨v',rfl,hA',hK,hl⟩;have Vj:Kp (fun i=>i=bA\/i=mb) wx w':=hK.mono fun i hi _=>hi.elim .inl (fun h=>h.elim .inr (fun h=>by cases h))
     obtain⟨l1,l2,l3,l4,l5,l6⟩:=HL.out;refine⟨_,rfl,⟨⟨hC.1.1.trans (Vj.below (fun i hi=>by rcases hi with rfl|rfl<;>assumption) hC.1.1.size),Nat.le_trans hC.1.2 Vj.size⟩,Vj.Yi hC.2 (fun h=>h.elim l5 l6)⟩,Vj,rfl,Ph.last hsz ⟨_,v',_,hA',rfl,rfl,fun i hi=>?_⟩⟩;rcases hi with(hi|hi)|rfl|rfl|hi
     exact Nat.le_trans l1 hi.1;exact Nat.le_trans l4 hi.1;exact l3;exact l2
     ·rcases hl with hl|⟨g,hl,hg⟩
      rw[hl]at hi;cases hi;rw[hl]at hi;have hig:g=i:=Option.some.inj hi;have:=hC.1.2;omega)
 intro lz a' v4 hall Z;have hC:=Z.c.1;obtain⟨I,v,x,hE,x1,x2,hm⟩:=Z.i.2 (hall 5 (by decide));have e6:a'.eval (.tmp 6)=.pointer (some ⟨bA,0,none⟩):=Z.old' 6;obtain⟨u,hu⟩:∃u:Nat->Value,∀t,u t=a'.eval (.tmp t):=⟨_,fun _=>rfl⟩;rw[eE a' 25 u Z.Re Z.defers hu];rw[<-hu]at e6;clear hu Z hall;simp only[List.range,List.range.loop,List.map_cons,List.map_nil];rw[e6];clear e6;go_wp2_with fail
 go_ret2;exact⟨bA,I,p',t',v,mb,x,rfl,hE,x1,x2,⟨a1,a2,a3,a4,a5,a6⟩,hm,hC.1⟩
end An
namespace An
open Mem Sc
open Ar (aq Ru aB)
def dF(room:Int):Nat:=(min (max room 1) 512).toNat
theorem LN(room:Int):((dF room:Nat):Int)=min (max room 1) 512:=by unfold dF;omega
theorem BD(p:NN.Pr)(hp:p.ok)(h1:p.one)(t:Tl)(tt:p.tl=t.C)(ht:t.ok)(gs:List Gt)(cs:List Ck)(hgn:t.gn=gs.length)(hcn:t.cn=cs.length)(hgl:t.gn<=1000)(hcl:t.cn<=1000)(room:Int)(hgood:jc p t.g gs cs=true)(w:World)(hT:dM w)(hG:aI w t.ga gs)(hC:az w t.ca cs):aN 105 #[.agg (NN.aE p),i_ room] w fun r w'=>∃b F,r=.returned (.tuple #[ah b,i_ 0])/\gM w' F b ⟨p,t.g,gs,cs,dF room⟩ [aB]/\(∀i,F i->w.heap.size<=i)/\Bl w w':=by
 have e1:bq ⟨p,t.g,gs,cs,dF room⟩ aB=⟨t.g,t.g.id,-1,0,NN.ofBits t.g.bits⟩:=rfl;refine(Lg p hp t room (max room 1) (dF room) rfl (LN room) gs cs (bq ⟨p,t.g,gs,cs,dF room⟩ aB) ⟨ht.2,ij _⟩ (Lt p t.g) (ij _) w ?_ ?_ ?_ ?_).mono ?_
 ·refine h_ fun w' hb=>?_
  have:=Ji p hp t tt ht gs cs hgn hcn hgl hcl w' (hG.below hb) (hC.below hb);rwa[hgood]at this
 ·refine h_ fun w' hb=>(Hp p hp h1 t tt ht gs cs hgn hcn hgl hcl w' (hG.below hb) (hC.below hb)).mono ?_
  rintro e w2 ⟨ga,gc,ca,cc,rfl,q1,q2,q3⟩;refine⟨gG p t ga gc ca cc,AK t ga gc ca cc,rfl,⟨EZ p t ht ga gc ca cc,?_,rfl,ht,hgn,hcn,rfl,rfl,rfl,rfl,rfl,rfl⟩,q1,q2,q3⟩;intro v hv;have hv':v∈(Value.slice ga t.gn gc::Value.slice ca t.cn cc::(t.nn++bp t.g)):=hv;simp only[List.mem_cons]at hv';rcases hv' with rfl|rfl|hv'
  rfl;rfl;exact h1 v (by rw[tt];unfold Tl.C;simp only[List.mem_cons];exact .inr (.inr hv'))
 ·refine h_ fun w' hb=>EA p t tt ht _ ⟨ht.2,ij _⟩ rfl rfl rfl w' ?_ ?_
  exact h_ fun w2 hb2=>mz t.g ht.2 w2 (hT.below (af hb hb2))
  exact h_ fun w2=>NN.y3 t.g.bits w2
 exact h_ fun w' hb=>DU p hp t tt ht w' (hT.below hb)
 rintro r w' ⟨b,I,p',t',v,mb,x,rfl,hA,x1,x2,ha,hm,hb⟩;refine⟨b,jL I b v mb,rfl,⟨fun i hi=>hA.R2 hi,I,p',t',v,mb,[x],hA,ha,?_,fun i hi=>hi⟩,hm,hb⟩;unfold Lk;simp only[List.map_cons,List.map_nil,x1,x2];rfl
end An
namespace NN
open Rz An
theorem FI{C:World->Prop}{a:Act}{o:Oper}{K:Act->Prop}(T t':TypeId)(p:BinOp)(hT:Tryz.prog.eqGuardType Tryz.prog.depth T=false)(x y:Operand)(ho:o.op=.binOp p T x y t')(xs ys:Array Value)(v:Value)(hx:a.eval x=.agg xs)(hy:a.eval y=.agg ys)(hq:∀w,(binOp p T (.agg xs) (.agg ys)).run Tryz.prog w=.ok v w)(hk:K (a.put o.dst v)):o.quiet Tryz.prog a C K:=
 ⟨_,fun w' hw'=>by
  unfold Oper.quietAt
  have this:(execOp a.eval o).run Tryz.prog w'=.ok (.value v) w':=by
   unfold execOp;simp only[ho,hx,hy,Sem.run_bind,Sem.run_pure,run_eqGuard_agg w' p T x y xs ys hT,Result.andThen_ok,hq]
  rw[this];exact⟨rfl,rfl⟩,hk⟩
theorem EC:Tryz.prog.eqGuardType Tryz.prog.depth 26=false:=by kernel_rfl
theorem qJ(x y:Nat)(hx:x<Nm.ai)(hy:y<Nm.ai):∃z c,z=(x+Nm.ai-y)%Nm.ai/\z<Nm.ai/\bU 146 #[.agg (aa x),.agg (aa y)] (.tuple #[.agg (aa z),.bool c]):=⟨_,_,rfl,Nat.mod_lt _ jl,fun w=>uC x y hx hy w⟩
theorem qD(x y:Nat)(hx:x<Nm.ai)(hy:y<Nm.ai):∃z c,z=(x+y)%Nm.ai/\z<Nm.ai/\bU 115 #[.agg (aa x),.agg (aa y)] (.tuple #[.agg (aa z),.bool c]):=⟨_,_,rfl,Nat.mod_lt _ jl,fun w=>qW x y hx hy w⟩
theorem g_:1<Nm.ai:=by rw[Nm.bJ];exact Nat.lt_of_lt_of_le (by decide) (Nat.pow_le_pow_right (by decide) (show 1<=256 by decide))
structure QO (w wr:World) (b1 bR b3 b4 b6 b7 t m4 o r:Nat):Prop where
 be:Bl w wr
 a1:Has wr b1 (aa t) 26
 aR:Has wr bR (aa 0) 26
 a3:Has wr b3 (aa 1) 26
 a4:Has wr b4 (aa m4) 26
 a6:Has wr b6 (aa o) 26
 a7:Has wr b7 (aa r) 26
structure xB (w wr:World) (b1 bR b3 b4 b7 t m4 r:Nat):Prop where
 be:Bl w wr
 a1:Has wr b1 (aa t) 26
 aR:Has wr bR (aa 0) 26
 a3:Has wr b3 (aa 1) 26
 a4:Has wr b4 (aa m4) 26
 a7:Has wr b7 (aa r) 26
variable{w wr:World}{b1 bR b3 b4 b7 t m4 r:Nat}
theorem xB.on{w':World}(h:xB w wr b1 bR b3 b4 b7 t m4 r)(hb:Bl wr w'):xB w w' b1 bR b3 b4 b7 t m4 r:=⟨af h.be hb,h.a1.on hb,h.aR.on hb,h.a3.on hb,h.a4.on hb,h.a7.on hb⟩
theorem xB.row(h:xB w wr b1 bR b3 b4 b7 t m4 r)(g z:Nat)(h0:w.heap.size<=g)(h1:b1≠g)(h2:bR≠g)(h3:b3≠g)(h4:b4≠g)(h5:b7≠g):xB w (wr.setRow g (aa z)) b1 bR b3 b4 b7 t m4 r:=⟨below_setRow h.be h0 _,h.a1.Ra _ _ h1,h.aR.Ra _ _ h2,h.a3.Ra _ _ h3,h.a4.Ra _ _ h4,h.a7.Ra _ _ h5⟩
def Q9(o z m3 o2:Nat->Value)(b:Bool):Nat->Value->Prop
 | 0,u=>u=o 0
 | 1,u=>u=.agg (aa 1)
 | 2,u=>u=z 0
 | 3,u=>u=m3 0
 | 4,u=>u=.tuple #[o2 0,.bool b]
 | 5,u=>u=.tuple #[o2 0,.bool b]
 | 6,u=>u=o2 0
 | 7,u=>u=.bool b
 | _,_=>b=b
theorem F'(t:Nat)(m4:Nat)(KA:Hid (bU 115 #[.agg (aa t),.agg (aa 1)] (.tuple #[.agg (aa m4),.bool true])))(HW:Hid (1=Nm.work t))(w:World):aN 110 #[.agg (aa t)] w fun e w'=>∃z,(z<Nm.ai/\z=Nm.work t)/\e=.returned (.agg (aa z))/\Bl w w':=by
 go_enter Tryz.func110,Tryz.ntmps110;go_upto_region 1 with fail
 generalize hw0:World.alloc _ _=v0;have bj:Bl w v0:=by rw[<-hw0];exact aY.alloc (by simp) _
 have h1:Has v0 w.heap.size (aa t) 26:=by rw[<-hw0];exact(Has.new _ _).alloc _
 have hR:Has v0 (w.heap.size+1) (aa 0) 26:=by rw[<-hw0];exact Has.Rg _ (aa 0) _
 clear hw0;obtain⟨Tf,UL⟩:∃x,x=w.heap.size:=⟨_,rfl⟩;obtain⟨R8,TT⟩:∃x,x=w.heap.size+1:=⟨_,rfl⟩;rw[<-TT]at hR|-;rw[<-UL]at h1|-;have NR:Hid (w.heap.size<=R8/\Tf<R8):=h_ (by omega);clear UL TT;have q1:=hR.lt;go_upto_region 2 with(with_reducible first|refine aJ rfl _ rfl _ rfl _ (by assumption) rfl ?_|refine lX rfl _ _ rfl _ 1 _ rfl rfl rC _ (Has.Rb _) rfl ?_)
 generalize hw1:World.setRow _ _ _=v1;have hb1:Bl v0 v1:=cG hw1;have h3:Has v1 v0.heap.size (aa 1) 26:=by rw[<-hw1];exact(Has.Rb _).row _
 replace h1:=h1.on hb1;replace hR:=hR.on hb1;replace bj:=af bj hb1;clear hw1 hb1;obtain⟨R_,R5⟩:∃x,x=v0.heap.size:=⟨_,rfl⟩;rw[<-R5]at h3 q1|-;clear R5;have TU:=h_ q1;clear q1;go_wp2_with (first|fail|(with_reducible refine aJ rfl _ rfl _ rfl _ (by assumption) rfl ?_))
 refine au (KA.out _) fun v2 hb2=>?_;replace h1:=h1.on hb2;replace hR:=hR.on hb2;replace h3:=h3.on hb2;replace bj:=af bj hb2;clear hb2;have q3:=h3.lt;go_upto_region 3 with(with_reducible first|refine aJ rfl _ rfl _ rfl _ (by assumption) rfl ?_|refine aZ rfl _ _ rfl _ _ rfl rfl _ (Has.Rb _) rfl ?_)
 generalize hw3:World.setRow _ _ _=v3;have hb3:Bl v2 v3:=cG hw3;have h4:Has v3 v2.heap.size (aa m4) 26:=by rw[<-hw3];exact(Has.Rb _).row _
 replace h1:=h1.on hb3;replace hR:=hR.on hb3;replace h3:=h3.on hb3;replace bj:=af bj hb3;clear hw3 hb3;obtain⟨Sk,SI⟩:∃x,x=v2.heap.size:=⟨_,rfl⟩;rw[<-SI]at h4 q3|-;clear SI;have Ul:=h_ q3;clear q3;go_wp2_with (with_reducible first|refine aJ rfl _ rfl _ rfl _ (by assumption) rfl ?_|refine aZ rfl _ _ rfl _ _ rfl rfl _ hR rfl ?_)
 exact bodyPost_ret (v:=.agg (aa (1))) (fs Tryz.results110 _ _ _ rfl (hR.row _)) rfl ⟨_,⟨g_,HW.out⟩,rfl,below_setRow bj NR.out.1 _⟩
theorem Lu(t:Nat)(m4:Nat)(KA:Hid (bU 115 #[.agg (aa t),.agg (aa 1)] (.tuple #[.agg (aa m4),.bool false])))(HW:Hid (Nm.ai-1=Nm.work t))(hq:∀w,(binOp .eql 26 (.agg (aa t)) (.agg #[ay 0,ay 0,ay 0,ay 0])).run Tryz.prog w=.ok (.bool true) w)(w:World):aN 110 #[.agg (aa t)] w fun e w'=>∃z,(z<Nm.ai/\z=Nm.work t)/\e=.returned (.agg (aa z))/\Bl w w':=by
 have KM:=h_ pZ;go_enter Tryz.func110,Tryz.ntmps110;go_upto_region 1 with fail
 generalize hw0:World.alloc _ _=v0;have bj:Bl w v0:=by rw[<-hw0];exact aY.alloc (by simp) _
 have h1:Has v0 w.heap.size (aa t) 26:=by rw[<-hw0];exact(Has.new _ _).alloc _
 have hR:Has v0 (w.heap.size+1) (aa 0) 26:=by rw[<-hw0];exact Has.Rg _ (aa 0) _
 clear hw0;obtain⟨Tf,UL⟩:∃x,x=w.heap.size:=⟨_,rfl⟩;obtain⟨R8,TT⟩:∃x,x=w.heap.size+1:=⟨_,rfl⟩;rw[<-TT]at hR|-;rw[<-UL]at h1|-;have NR:Hid (w.heap.size<=R8/\Tf<R8):=h_ (by omega);clear UL TT;have q1:=hR.lt;go_upto_region 2 with(with_reducible first|refine aJ rfl _ rfl _ rfl _ (by assumption) rfl ?_|refine lX rfl _ _ rfl _ 1 _ rfl rfl rC _ (Has.Rb _) rfl ?_)
 generalize hw1:World.setRow _ _ _=v1;have hb1:Bl v0 v1:=cG hw1;have h3:Has v1 v0.heap.size (aa 1) 26:=by rw[<-hw1];exact(Has.Rb _).row _
 replace h1:=h1.on hb1;replace hR:=hR.on hb1;replace bj:=af bj hb1;clear hw1 hb1;obtain⟨R_,R5⟩:∃x,x=v0.heap.size:=⟨_,rfl⟩;rw[<-R5]at h3 q1|-;clear R5;have TU:=h_ q1;clear q1;go_wp2_with (first|fail|(with_reducible refine aJ rfl _ rfl _ rfl _ (by assumption) rfl ?_))
 refine au (KA.out _) fun v2 hb2=>?_;replace h1:=h1.on hb2;replace hR:=hR.on hb2;replace h3:=h3.on hb2;replace bj:=af bj hb2;clear hb2;have q3:=h3.lt;go_upto_region 3 with(with_reducible first|refine aJ rfl _ rfl _ rfl _ (by assumption) rfl ?_|refine aZ rfl _ _ rfl _ _ rfl rfl _ (Has.Rb _) rfl ?_)
 generalize hw3:World.setRow _ _ _=v3;have hb3:Bl v2 v3:=cG hw3;have h4:Has v3 v2.heap.size (aa m4) 26:=by rw[<-hw3];exact(Has.Rb _).row _
 replace h1:=h1.on hb3;replace hR:=hR.on hb3;replace h3:=h3.on hb3;replace bj:=af bj hb3;clear hw3 hb3;obtain⟨Sk,SI⟩:∃x,x=v2.heap.size:=⟨_,rfl⟩;rw[<-SI]at h4 q3|-;clear SI;have Ul:=h_ q3;clear q3;go_wp2_with (first|fail|(with_reducible refine aJ rfl _ rfl _ rfl _ (by assumption) rfl ?_))
 refine au (KM.out _) fun v4 hb4=>?_;replace h1:=h1.on hb4;replace hR:=hR.on hb4;replace h3:=h3.on hb4;replace h4:=h4.on hb4;replace bj:=af bj hb4;clear hb4;go_wp2_with (with_reducible first|refine aJ rfl _ rfl _ rfl _ (by assumption) rfl ?_|refine aZ rfl _ _ rfl _ _ rfl rfl _ hR rfl ?_)
 exact bodyPost_ret (v:=.agg (aa (Nm.ai-1))) (fs Tryz.results110 _ _ _ rfl (hR.row _)) rfl ⟨_,⟨(by have:=jl;omega),HW.out⟩,rfl,below_setRow bj NR.out.1 _⟩
theorem IJ(t:Nat)(ht:t<Nm.ai)(m4:Nat)(KA:Hid (bU 115 #[.agg (aa t),.agg (aa 1)] (.tuple #[.agg (aa m4),.bool false])))(UA:m4<Nm.ai)(YI:Hid (m4=t+1/\0<t))(hq:∀w,(binOp .eql 26 (.agg (aa t)) (.agg #[.int .u64 0,.int .u64 0,.int .u64 0,.int .u64 0])).run Tryz.prog w=.ok (.bool false) w)(w:World):aN 110 #[.agg (aa t)] w fun e w'=>∃z,(z<Nm.ai/\z=Nm.work t)/\e=.returned (.agg (aa z))/\Below w.heap.size w w':=by
 have KM:=h_ pZ;go_enter Tryz.func110,Tryz.ntmps110;go_upto_region 1 with fail
 generalize hw0:World.alloc _ _=v0;have bj:Below w.heap.size w v0:=by rw[<-hw0];exact aY.alloc (by simp) _
 have h1:Has v0 w.heap.size (aa t) 26:=by rw[<-hw0];exact(Has.new _ _).alloc _
 have hR:Has v0 (w.heap.size+1) (aa 0) 26:=by rw[<-hw0];exact Has.Rg _ (aa 0) _
 clear hw0;obtain⟨Tf,UL⟩:∃x,x=w.heap.size:=⟨_,rfl⟩;obtain⟨R8,TT⟩:∃x,x=w.heap.size+1:=⟨_,rfl⟩;rw[<-TT]at hR|-;rw[<-UL]at h1|-;have NR:Hid (w.heap.size<=R8/\Tf<R8):=h_ (by omega);clear UL TT;have q1:=hR.lt;go_upto_region 2 with(with_reducible first|refine aJ rfl _ rfl _ rfl _ (by assumption) rfl ?_|refine lX rfl _ _ rfl _ 1 _ rfl rfl rC _ (Has.Rb _) rfl ?_)
 generalize hw1:World.setRow _ _ _=v1;have hb1:Below v0.heap.size v0 v1:=cG hw1;have h3:Has v1 v0.heap.size (aa 1) 26:=by rw[<-hw1];exact(Has.Rb _).row _
 replace h1:=h1.on hb1;replace hR:=hR.on hb1;replace bj:=af bj hb1;clear hw1 hb1;obtain⟨R_,R5⟩:∃x,x=v0.heap.size:=⟨_,rfl⟩;rw[<-R5]at h3 q1|-;clear R5;have TU:=h_ q1;clear q1;go_wp2_with (first|fail|(with_reducible refine aJ rfl _ rfl _ rfl _ (by assumption) rfl ?_))
 refine au (KA.out _) fun v2 hb2=>?_;replace h1:=h1.on hb2;replace hR:=hR.on hb2;replace h3:=h3.on hb2;replace bj:=af bj hb2;clear hb2;have q3:=h3.lt;go_upto_region 3 with(with_reducible first|refine aJ rfl _ rfl _ rfl _ (by assumption) rfl ?_|refine aZ rfl _ _ rfl _ _ rfl rfl _ (Has.Rb _) rfl ?_)
 generalize hw3:World.setRow _ _ _=v3;have hb3:Below v2.heap.size v2 v3:=cG hw3;have h4:Has v3 v2.heap.size (aa m4) 26:=by rw[<-hw3];exact(Has.Rb _).row _
 replace h1:=h1.on hb3;replace hR:=hR.on hb3;replace h3:=h3.on hb3;replace bj:=af bj hb3;clear hw3 hb3;obtain⟨Sk,SI⟩:∃x,x=v2.heap.size:=⟨_,rfl⟩;rw[<-SI]at h4 q3|-;clear SI;have Ul:=h_ q3;clear q3;have q4:=h4.lt;go_upto_region 8 with(with_reducible first|refine aJ rfl _ rfl _ rfl _ (by assumption) rfl ?_|refine lX rfl _ _ rfl _ 0 _ rfl rfl fF _ (Has.Rb _) rfl ?_)
 generalize hw4:World.setRow _ _ _=v4;have hb4:Below v3.heap.size v3 v4:=cG hw4;have h6:Has v4 v3.heap.size (aa 0) 26:=by rw[<-hw4];exact(Has.Rb _).row _
 replace h1:=h1.on hb4;replace hR:=hR.on hb4;replace h3:=h3.on hb4;replace h4:=h4.on hb4;replace bj:=af bj hb4;clear hw4 hb4;obtain⟨Sl,WD⟩:∃x,x=v3.heap.size:=⟨_,rfl⟩;rw[<-WD]at h6 q4|-;clear WD;have WE:=h_ q4;clear q4;go_wp2_with (first|fail|(with_reducible refine aJ rfl _ rfl _ rfl _ (by assumption) rfl ?_))
 refine au (KM.out _) fun v5 hb5=>?_;replace h1:=h1.on hb5;replace hR:=hR.on hb5;replace h3:=h3.on hb5;replace h4:=h4.on hb5;replace h6:=h6.on hb5;replace bj:=af bj hb5;clear hb5;have q6:=h6.lt;go_upto_region 9 with(with_reducible first|refine aJ rfl _ rfl _ rfl _ (by assumption) rfl ?_|refine aZ rfl _ _ rfl _ _ rfl rfl _ (Has.Rb _) rfl ?_)
 generalize VC:World.setRow _ _ _=v6;have hb6:Below v5.heap.size v5 v6:=cG VC;have h7:Has v6 v5.heap.size (aa (Nm.ai-1)) 26:=by rw[<-VC];exact(Has.Rb _).row _
 replace h1:=h1.on hb6;replace hR:=hR.on hb6;replace h3:=h3.on hb6;replace h4:=h4.on hb6;replace h6:=h6.on hb6;replace bj:=af bj hb6;clear VC hb6;obtain⟨RP,TV⟩:∃x,x=v5.heap.size:=⟨_,rfl⟩;rw[<-TV]at h7 q6|-;clear TV;have WG:=h_ q6;clear q6;have ND:Hid (Tf<R8/\R8<R_/\R_<Sk/\Sk<Sl/\Sl<RP/\w.heap.size<=R8):=h_ ⟨NR.out.2,TU.out,Ul.out,WE.out,WG.out,NR.out.1⟩;have hs:QO w v6 Tf R8 R_ Sk Sl RP t m4 0 (Nm.ai-1):=⟨bj,h1,hR,h3,h4,h6,h7⟩;have YJ:=h_ UA;have Wv:=h_ ht;clear bj h1 hR h3 h4 h6 h7 TU Ul WE WG NR hq KA UA ht;go_wp2_with fail
 go_loopw [8] (fun i wr=>∃(k:Nat)(z:Int)(o r:Nat),k<=256/\i=.int .i64 z/\Hid (z=255-(k:Int)/\o<Nm.ai/\r<Nm.ai/\Nm.LD t k o r)/\QO w wr Tf R8 R_ Sk Sl RP t m4 o r) (fun i _=>((intOf i)+1).toNat)
 case atStart=>exact⟨0,255,0,Nm.ai-1,by omega,rfl,h_ ⟨by omega,jl,by have:=jl;omega,Nm.LD.start t⟩,hs⟩
 case round=>
  clear hs;obtain⟨k,z,o,r,hk,rfl,HZ,hs⟩:=hrel;obtain⟨bj,h1,hR,h3,h4,h6,h7⟩:=hs;by_cases hlt:k<256
  ·have hz0:¬z<0:=by have:=HZ.out.1;omega
   have hz1:0<=z:=by omega
   have hz2:z<=255:=by have:=HZ.out.1;omega
   obtain⟨d,ed,hd,WH⟩:=Ag m4 YJ.out z (by omega) (by omega);obtain⟨nz,hnz⟩:∃nz,nz = -z:=⟨_,rfl⟩;obtain⟨m2,YK,hm2,WI⟩:=Ag d hd nz (by omega) (by omega);obtain⟨s,c,es,hsb,KS0⟩:=qJ d 1 hd g_;obtain⟨r2,c2,er2,hr2,WJ⟩:=qJ r d HZ.out.2.2.1 hd;obtain⟨m3,em3,Xx,WK⟩:=Ag 1 g_ z (by omega) (by omega);obtain⟨o2,c3,WL,ho2,TW⟩:=qD o m3 HZ.out.2.1 Xx
   have HX:Hid (((!decide (m2=m4))=true->Nm.LD t (k+1) o r)/\((!decide (m2=m4))=false->decide (r<s)=true->Nm.LD t (k+1) o r)/\((!decide (m2=m4))=false->decide (r<s)=false->decide (r2=Nm.ai-1)=false->Nm.LD t (k+1) o2 r2)/\((!decide (m2=m4))=false->decide (r<s)=false->decide (r2=Nm.ai-1)=true->o2=Nm.work t)):=h_ (by
    have e4:=YI.out.1;have hm:=YJ.out;subst e4;rw[hnz]at YK;exact Nm.LD.step YI.out.2 hm hlt HZ.out.1 HZ.out.2.2.1 HZ.out.2.2.2 ed YK es er2 em3 WL)
   clear ed YK es er2 em3 WL;have KD:=h_ WH;have KM2:=h_ WI;have KS:=h_ KS0;have KS2:=h_ WJ;have KM3:=h_ WK;have Tt:=h_ TW;have KL:=h_ fun w=>mS r s HZ.out.2.2.1 hsb w
   have hq2:=fun w=>uV hm2 YJ.out w
   have hq3:=fun w=>qj hr2 (show Nm.ai-1<Nm.ai by have:=jl;omega) w
   have ab2:IntKind.i64.wrap (-z)=nz:=by rw[IntKind.wrap_i64];omega
   obtain⟨z1,hz3⟩:∃z1,z1=z-1:=⟨_,rfl⟩;have ab3:IntKind.i64.wrap (z-1)=z1:=by rw[IntKind.wrap_i64];omega
   have HZ1:Hid (z1=255-((k+1:Nat):Int)):=h_ (by have:=HZ.out.1;omega);have Tr:=h_ ho2;have HR2:=h_ hr2;have YL:Hid (((intOf (.int .i64 z1))+1).toNat<((intOf (.int .i64 z))+1).toNat):=h_ (by simp[intOf];omega);generalize hg2:(!decide (m2=m4))=g2 at*;generalize hg3:decide (r<s)=g3 at*;generalize hg4:decide (r2=Nm.ai-1)=g4 at*;clear WH WI KS0 WJ WK TW hnz hz3 hz2 hd hm2 hsb hr2 Xx ho2 hg2 hg3 hg4;go_wp2_with (first|fail|(with_reducible refine aJ rfl _ rfl _ rfl _ (by assumption) rfl ?_))
   refine au (KD.out _) fun v21 SJ=>?_;replace h1:=h1.on SJ;replace hR:=hR.on SJ;replace h3:=h3.on SJ;replace h4:=h4.on SJ;replace h6:=h6.on SJ;replace h7:=h7.on SJ;replace bj:=af bj SJ;clear SJ;have q22:=h7.lt;go_upto_region 13 with(with_reducible first|refine aJ rfl _ rfl _ rfl _ (by assumption) rfl ?_|refine aZ rfl _ _ rfl _ _ rfl rfl _ (Has.Rb _) rfl ?_)
   generalize Vk:World.setRow _ _ _=v22;have SK:Below v21.heap.size v21 v22:=cG Vk;have h9:Has v22 v21.heap.size (aa d) 26:=by rw[<-Vk];exact(Has.Rb _).row _
   replace h1:=h1.on SK;replace hR:=hR.on SK;replace h3:=h3.on SK;replace h4:=h4.on SK;replace h6:=h6.on SK;replace h7:=h7.on SK;replace bj:=af bj SK;clear Vk SK;obtain⟨ab4,WM⟩:∃x,x=v21.heap.size:=⟨_,rfl⟩;rw[<-WM]at h9 q22|-;clear WM;have WN:=h_ q22;clear q22;simp only[Act.put];refine wp_region_quiet_below (by kernel_rfl) (by kernel_rfl) ?_
   repeat(first
    | (go_big_quiet_want;(with_reducible first|refine oA _ rfl _ rfl _ h9.cls ?_|refine oA _ rfl _ rfl _ h4.cls ?_|refine FI 26 _ .neq EC _ _ rfl _ _ _ rfl rfl hq2 ?_);(simp only[Act.put,List.setIfInBounds_toArray,List.set_cons_zero,List.set_cons_succ]);go_big_quiet_on)
    | go_big_quiet_step ((go_at_call 145;exact Calls.regrown_of (KM2.out _))))
   refine wpQuiet_nil ?_;intro v30 hw';obtain⟨rg,hw''⟩:=hw';have Sn:Below v22.heap.size v22 v30:=by rw[hw''];exact below_regrown v22 rg.d rg.os
   clear hw'';replace h1:=h1.on Sn;replace hR:=hR.on Sn;replace h3:=h3.on Sn;replace h4:=h4.on Sn;replace h6:=h6.on Sn;replace h7:=h7.on Sn;replace h9:=h9.on Sn;replace bj:=af bj Sn;clear Sn hq2;cases g2
   case true=>
    (go_wp2_with fail);go_roundw
    case rel=>exact⟨k+1,z1,o,r,by omega,rfl,h_ ⟨HZ1.out,HZ.out.2.1,HZ.out.2.2.1,HX.out.1 (by simp)⟩,⟨bj,h1,hR,h3,h4,h6,h7⟩⟩
    case measure=>exact YL.out
   case false=>
    (go_wp2_with (first|fail|(with_reducible refine aJ rfl _ rfl _ rfl _ (by assumption) rfl ?_)));refine au (KS.out _) fun v31 Sq=>?_;replace h1:=h1.on Sq;replace hR:=hR.on Sq;replace h3:=h3.on Sq;replace h4:=h4.on Sq;replace h6:=h6.on Sq;replace h7:=h7.on Sq;replace h9:=h9.on Sq;replace bj:=af bj Sq;clear Sq;have q32:=h9.lt;(go_upto_region 15 with(with_reducible first|refine aJ rfl _ rfl _ rfl _ (by assumption) rfl ?_|refine aZ rfl _ _ rfl _ _ rfl rfl _ (Has.Rb _) rfl ?_));generalize hw32:World.setRow _ _ _=v32;have Ss:Below v31.heap.size v31 v32:=cG hw32;have h10:Has v32 v31.heap.size (aa s) 26:=(by rw[<-hw32];exact(Has.Rb _).row _);replace h1:=h1.on Ss;replace hR:=hR.on Ss;replace h3:=h3.on Ss;replace h4:=h4.on Ss;replace h6:=h6.on Ss;replace h7:=h7.on Ss;replace h9:=h9.on Ss;replace bj:=af bj Ss;clear hw32 Ss;obtain⟨aa0,UM⟩:∃x,x=v31.heap.size:=⟨_,rfl⟩;rw[<-UM]at h10 q32|-;clear UM;have UN:=h_ q32;clear q32;(go_wp2_with (first|fail|(with_reducible refine aJ rfl _ rfl _ rfl _ (by assumption) rfl ?_)));refine au (KL.out _) fun v33 R'=>?_;replace h1:=h1.on R';replace hR:=hR.on R';replace h3:=h3.on R';replace h4:=h4.on R';replace h6:=h6.on R';replace h7:=h7.on R';replace h9:=h9.on R';replace h10:=h10.on R';replace bj:=af bj R';clear R';cases g3
    case true=>
     (go_wp2_with fail);go_roundw
     case rel=>exact⟨k+1,z1,o,r,by omega,rfl,h_ ⟨HZ1.out,HZ.out.2.1,HZ.out.2.2.1,HX.out.2.1 (by simp) (by simp)⟩,⟨bj,h1,hR,h3,h4,h6,h7⟩⟩
     case measure=>exact YL.out
    case false=>
     (go_wp2_with (first|fail|(with_reducible refine aJ rfl _ rfl _ rfl _ (by assumption) rfl ?_)));refine au (KS2.out _) fun v41 Sa=>?_;replace h1:=h1.on Sa;replace hR:=hR.on Sa;replace h3:=h3.on Sa;replace h4:=h4.on Sa;replace h6:=h6.on Sa;replace h7:=h7.on Sa;replace h9:=h9.on Sa;replace h10:=h10.on Sa;replace bj:=af bj Sa;clear Sa;obtain⟨n1,n2,n3,n4,n5,n6⟩:=ND.out;have u9:=WN.out;have u10:=UN.out;have YM:=h7;(go_upto_region 17 with(with_reducible first|refine aJ rfl _ rfl _ rfl _ (by assumption) rfl ?_|refine aZ rfl _ _ rfl _ _ rfl rfl _ YM rfl ?_));have R4:Below w.heap.size w (v41.setRow RP (aa r2)):=below_setRow bj (by omega) _;replace h1:=h1.Ra RP (aa r2) (by omega);replace hR:=hR.Ra RP (aa r2) (by omega);replace h3:=h3.Ra RP (aa r2) (by omega);replace h4:=h4.Ra RP (aa r2) (by omega);replace h6:=h6.Ra RP (aa r2) (by omega);replace h7:=YM.row (aa r2);clear h9 h10 YM bj;have bj:=R4;clear R4 WN UN u9 u10;generalize World.setRow _ _ _=v50 at*;have hP:xB w v50 Tf R8 R_ Sk RP t m4 r2:=⟨bj,h1,hR,h3,h4,h7⟩;simp only[Act.put];clear bj h1 hR h3 h4 h7 KS2 KL KS KD KM2;refine ig (by kernel_rfl) (fun w'=>xB w w' Tf R8 R_ Sk RP t m4 r2) (fun i v' _=>Q9 (fun _=>.agg (aa o)) (fun _=>.int .i64 z) (fun _=>.agg (aa m3)) (fun _=>.agg (aa o2)) c3 i v') (fun l _ w'=>Ph 8 (fun w'=>Has w' Sl (aa o) 26) (fun w'=>Has w' Sl (aa o2) 26) l w') (fun _ _=>True) (fun _ _=>trivial) (fun _ _ _ _ _ _ h=>h) (by kernel_rfl) (hP.on a_.drew) ?_ ?_ ?_;exact fun l hl=>Ph.zero hl (h6.on a_.drew)
     ·intro i o lz a wx ho' hnl dq Z;have hC:=Z.c;have hI:=Z.i;have hi:i<9:=(Array.getElem?_eq_some_iff.1 ho').1;obtain rfl|rfl|rfl|rfl|rfl|rfl|rfl|rfl|rfl:i=0\/i=1\/i=2\/i=3\/i=4\/i=5\/i=6\/i=7\/i=8:=(by omega);all_goals obtain rfl:=Option.some.inj ho'
      have hsz:=av Z 0;have Ri:=du Z hnl 8;have hpre:=hI.pre Ri hsz (by decide);exact aP 0 Z (ak rfl) (fV rfl (Z.old' 6) hpre) rfl (hI.keep hsz);exact aP 1 Z (ak rfl) (fV rfl (Z.old' 3) hC.a3) rfl (hI.keep (av Z 1));exact aP 2 Z (ak rfl) (NN.dk rfl) (Z.old' 8) (hI.keep (av Z 2))
      ·have hsz:=av Z 3;have Ri:=du Z hnl 8;have hpre:=hI.pre Ri hsz (by decide);exact lZ (S:=mJ) 3 Z (ak rfl) (f:=145) (args:=#[a.eval (.tmp 58),a.eval (.tmp 59)]) (by kernel_rfl) (by rw[show a.eval (.tmp 58)=_ from(ar Z dq 1 58)];rw[show a.eval (.tmp 59)=_ from(ar Z dq 2 59)];  exact KM3.out wx) (fun w' hb=>⟨hC.on hb,trivial,rfl,Ph.made Ri (hpre.on hb)⟩)
      ·have hsz:=av Z 4;have Ri:=du Z hnl 8;have hpre:=hI.pre Ri hsz (by decide);exact lZ (S:=mJ) 4 Z (ak rfl) (f:=115) (args:=#[a.eval (.tmp 57),a.eval (.tmp 60)]) (by kernel_rfl) (by rw[show a.eval (.tmp 57)=_ from(ar Z dq 0 57)];rw[show a.eval (.tmp 60)=_ from(ar Z dq 3 60)];  exact Tt.out wx) (fun w' hb=>⟨hC.on hb,trivial,rfl,Ph.made Ri (hpre.on hb)⟩)
      exact aP 5 Z (ak rfl) (NN.dk rfl) (ar Z dq 4 61) (hI.keep (av Z 5));exact aP 6 Z (ak rfl) (er rfl (ar Z dq 5 56) rfl) rfl (hI.keep (av Z 6));exact aP 7 Z (ak rfl) (er rfl (ar Z dq 5 56) rfl) rfl (hI.keep (av Z 7));have hsz:=av Z 8;have hR0:=hI.1 hnl;exact o8 8 Z (ak rfl) (js rfl (Z.old' 6) (ar Z dq 6 62) hR0 rfl) (hC.row _ _ (by omega) (by omega) (by omega) (by omega) (by omega) (by omega)) rfl (Ph.last hsz (hR0.row _))
     intro lz a' v51 hall Z;obtain⟨bj,h1,hR,h3,h4,h7⟩:=Z.c;have h6:=Z.i.2 (hall 8 (by decide));have e1:a'.eval (.tmp 1)=.pointer (some ⟨Tf,0,none⟩):=Z.old' 1;have e2:a'.eval (.tmp 2)=.pointer (some ⟨R8,0,none⟩):=Z.old' 2;have e3:a'.eval (.tmp 3)=.pointer (some ⟨R_,0,none⟩):=Z.old' 3;have e4:a'.eval (.tmp 4)=.pointer (some ⟨Sk,0,none⟩):=Z.old' 4;have e6:a'.eval (.tmp 6)=.pointer (some ⟨Sl,0,none⟩):=Z.old' 6;have e7:a'.eval (.tmp 7)=.pointer (some ⟨RP,0,none⟩):=Z.old' 7;have e8:a'.eval (.tmp 8)=.int .i64 z:=Z.old' 8;have e0:a'.eval (.tmp 0)=.agg (aa t):=Z.old' 0;have e5:a'.eval (.tmp 5)=.bool false:=Z.old' 5;have e12:a'.eval (.tmp 12)=.agg #[.int .u64 1,.int .u64 0,.int .u64 0,.int .u64 0]:=Z.old' 12;have e13:a'.eval (.tmp 13)=.tuple #[.agg (aa m4),.bool false]:=Z.old' 13;have e14:a'.eval (.tmp 14)=.agg (aa t):=Z.old' 14;have e15:a'.eval (.tmp 15)=.agg (aa 1):=Z.old' 15;have e16:a'.eval (.tmp 16)=.tuple #[.agg (aa m4),.bool false]:=Z.old' 16;have e17:a'.eval (.tmp 17)=.agg (aa m4):=Z.old' 17;have e18:a'.eval (.tmp 18)=.bool false:=Z.old' 18;have e19:a'.eval (.tmp 19)=.bool false:=Z.old' 19;have e20:a'.eval (.tmp 20)=undef:=Z.old' 20;have e21:a'.eval (.tmp 21)=.agg (aa t):=Z.old' 21;have e22:a'.eval (.tmp 22)=.agg #[.int .u64 0,.int .u64 0,.int .u64 0,.int .u64 0]:=Z.old' 22;have e23:a'.eval (.tmp 23)=.bool false:=Z.old' 23;have e24:a'.eval (.tmp 24)=undef:=Z.old' 24;have e25:a'.eval (.tmp 25)=.agg #[.int .u64 0,.int .u64 0,.int .u64 0,.int .u64 0]:=Z.old' 25;have e26:a'.eval (.tmp 26)=.agg (aa (Nm.ai-1)):=Z.old' 26;have Vb:a'.eval (.tmp 68)=undef:=Z.old' 68;have YN:a'.eval (.tmp 69)=undef:=Z.old' 69;have YO:a'.eval (.tmp 70)=undef:=Z.old' 70;have YP:a'.eval (.tmp 71)=undef:=Z.old' 71;have YQ:a'.eval (.tmp 72)=undef:=Z.old' 72;have YR:a'.eval (.tmp 73)=undef:=Z.old' 73;have YS:a'.eval (.tmp 74)=undef:=Z.old' 74;have YT:a'.eval (.tmp 75)=undef:=Z.old' 75;have YU:a'.eval (.tmp 76)=undef:=Z.old' 76;have YV:a'.eval (.tmp 77)=undef:=Z.old' 77;have WO:a'.eval (.tmp 78)=undef:=Z.old' 78;clear hP;obtain⟨u,hu⟩:∃u:Nat->Value,∀t,u t=a'.eval (.tmp t):=⟨_,fun _=>rfl⟩;rw[eE a' 79 u Z.Re Z.defers hu];rw[<-hu]at e1 e2 e3 e4 e6 e7 e8 e0 e5 e12 e13 e14 e15 e16 e17 e18 e19 e20 e21 e22 e23 e24 e25 e26 Vb YN YO YP YQ YR YS YT YU YV WO;clear hu Z hall;simp only[List.range,List.range.loop,List.map_cons,List.map_nil];rw[e1,e2,e3,e4,e6,e7,e8,e0,e5,e12,e13,e14,e15,e16,e17,e18,e19,e20,e21,e22,e23,e24,e25,e26,Vb,YN,YO,YP,YQ,YR,YS,YT,YU,YV,WO];clear e1 e2 e3 e4 e6 e7 e8 e0 e5 e12 e13 e14 e15 e16 e17 e18 e19 e20 e21 e22 e23 e24 e25 e26 Vb YN YO YP YQ YR YS YT YU YV WO;clear n1 n2 n3 n4 n5 n6;(go_upto_region 18 with fail);refine wp_region_quiet_below (by kernel_rfl) (by kernel_rfl) ?_
     repeat(first
      | (go_big_quiet_want;(with_reducible first|refine oA _ rfl _ rfl _ h7.cls ?_|refine FI 26 _ .eql EC _ _ rfl _ _ _ rfl rfl hq3 ?_);(simp only[Act.put,List.setIfInBounds_toArray,List.set_cons_zero,List.set_cons_succ]);go_big_quiet_on)
      | go_big_quiet_step ((go_at_call 116;exact Calls.regrown_of (KM.out _))))
     refine wpQuiet_nil ?_;intro v52 hw';obtain⟨rg,hw''⟩:=hw';have SL:Below v51.heap.size v51 v52:=(by rw[hw''];exact below_regrown v51 rg.d rg.os);clear hw'';replace h1:=h1.on SL;replace hR:=hR.on SL;replace h3:=h3.on SL;replace h4:=h4.on SL;replace h6:=h6.on SL;replace h7:=h7.on SL;replace bj:=af bj SL;clear SL hq3;cases g4
     case false=>
      (go_wp2_with fail);go_roundw
      case rel=>(repeat(apply Exists.intro (α:=Value)));exact⟨k+1,z1,o2,r2,by omega,rfl,h_ ⟨HZ1.out,Tr.out,HR2.out,HX.out.2.2.1 (by simp) (by simp) (by simp)⟩,⟨bj,h1,hR,h3,h4,h6,h7⟩⟩
      case measure=>exact YL.out
     case true=>
      have NR:Hid (w.heap.size<=R8/\Tf<R8):=h_ ⟨ND.out.2.2.2.2.2,ND.out.1⟩;(go_wp2_with (with_reducible first|refine aJ rfl _ rfl _ rfl _ (by assumption) rfl ?_|refine aZ rfl _ _ rfl _ _ rfl rfl _ hR rfl ?_));exact bodyPost_ret (v:=.agg (aa (o2))) (fs Tryz.results110 _ _ _ rfl (hR.row _)) rfl ⟨_,⟨Tr.out,HX.out.2.2.2 (by simp) (by simp) (by simp)⟩,rfl,below_setRow bj NR.out.1 _⟩
  ·have hz0:z<0:=by have:=HZ.out.1;omega
   have NR:Hid (w.heap.size<=R8/\Tf<R8):=h_ ⟨ND.out.2.2.2.2.2,ND.out.1⟩;have KL:=h_ fun w=>mS r t HZ.out.2.2.1 Wv.out w
   obtain⟨o2,c3,WL,ho2,TW⟩:=qD o 1 HZ.out.2.1 g_;have hk6:k=256:=by omega
   have HY:Hid ((decide (r<t)=true->o=Nm.work t)/\(decide (r<t)=false->o2=Nm.work t)):=h_ (by
    have:=Nm.LD.last YI.out.2 (hk6▸HZ.out.2.2.2);rwa[<-WL]at this)
   clear WL hk6;have Tt:=h_ TW;have Tr:=h_ ho2;generalize hg3:decide (r<t)=g3 at*;clear TW ho2 hg3;go_wp2_with (first|fail|(with_reducible refine aJ rfl _ rfl _ rfl _ (by assumption) rfl ?_))
   refine au (KL.out _) fun v71 SM=>?_;replace h1:=h1.on SM;replace hR:=hR.on SM;replace h3:=h3.on SM;replace h4:=h4.on SM;replace h6:=h6.on SM;replace h7:=h7.on SM;replace bj:=af bj SM;clear SM;cases g3
   case true=>
    (go_wp2_with (with_reducible first|refine aJ rfl _ rfl _ rfl _ (by assumption) rfl ?_|refine aZ rfl _ _ rfl _ _ rfl rfl _ hR rfl ?_));exact bodyPost_ret (v:=.agg (aa (o))) (fs Tryz.results110 _ _ _ rfl (hR.row _)) rfl ⟨_,⟨HZ.out.2.1,HY.out.1 (by simp)⟩,rfl,below_setRow bj NR.out.1 _⟩
   case false=>
    (go_wp2_with (first|fail|(with_reducible refine aJ rfl _ rfl _ rfl _ (by assumption) rfl ?_)));refine au (Tt.out _) fun v81 SN=>?_;replace h1:=h1.on SN;replace hR:=hR.on SN;replace h3:=h3.on SN;replace h4:=h4.on SN;replace h6:=h6.on SN;replace h7:=h7.on SN;replace bj:=af bj SN;clear SN;obtain⟨n1,n2,n3,n4,n5,n6⟩:=ND.out;have h6':=h6;(go_upto_region 22 with(with_reducible first|refine aJ rfl _ rfl _ rfl _ (by assumption) rfl ?_|refine aZ rfl _ _ rfl _ _ rfl rfl _ h6' rfl ?_));have R4:Below w.heap.size w (v81.setRow Sl (aa o2)):=below_setRow bj (by omega) _;replace hR:=hR.Ra Sl (aa o2) (by omega);replace h6:=h6'.row (aa o2);clear h6' bj h1 h3 h4 h7;have bj:=R4;clear R4;generalize World.setRow _ _ _=v90 at*;(go_wp2_with (with_reducible first|refine aJ rfl _ rfl _ rfl _ (by assumption) rfl ?_|refine aZ rfl _ _ rfl _ _ rfl rfl _ hR rfl ?_));exact bodyPost_ret (v:=.agg (aa (o2))) (fs Tryz.results110 _ _ _ rfl (hR.row _)) rfl ⟨_,⟨Tr.out,HY.out.2 (by simp)⟩,rfl,below_setRow bj NR.out.1 _⟩
def uT(f:FuncId)(args:Array Value)(x:Nat):Prop:=∀w,aN f args w fun e w'=>∃z,(z<Nm.ai/\z=x)/\e=.returned (.agg (aa z))/\Bl w w'
theorem we(t:Nat)(ht:t<Nm.ai):uT 110 #[.agg (aa t)] (Nm.work t):=by intro w;cases h:decide (Nm.ai<=t+1);cases h0:decide (t=0);have h1:=of_decide_eq_false h;have h2:=of_decide_eq_false h0;exact IJ t ht _ (h_ fun w=>u0 t 1 ht g_ _ _ rfl h.symm w) (Nat.mod_lt _ jl) (h_ ⟨Nat.mod_eq_of_lt (by omega),by omega⟩) (fun w=>uz t ht _ h0 w) w;have h2:=of_decide_eq_true h0;exact Lu t _ (h_ fun w=>u0 t 1 ht g_ _ _ rfl h.symm w) (h_ (by rw[h2,Nm.Ea])) (fun w=>uz t ht _ h0 w) w;have h1:=of_decide_eq_true h;exact F' t _ (h_ fun w=>u0 t 1 ht g_ _ _ rfl h.symm w) (h_ (Nm.EE (by omega)).symm) w
theorem Fw(b:Int):∃z lo ov,ofBits b=(if(lo||ov||decide (z=0))=true then 0 else Nm.work z)/\z<Nm.ai/\bU 109 #[i_ b] (.tuple #[.agg (aa z),.bool lo,.bool ov]):=by by_cases h:0<=b/\b<=4294967295;obtain⟨n,rfl⟩:∃n:Nat,b=(n:Int):=⟨b.toNat,by omega⟩;exact⟨_,_,_,by unfold ofBits;rw[if_pos h,Int.toNat_natCast],Nm.R1,fun w=>J9 n (by omega) w⟩;exact⟨0,false,false,by unfold ofBits;rw[if_neg h];rfl,jl,fun w=>Gn b h w⟩
theorem DN(b:Int):uT 76 #[i_ b] (ofBits b):=by
 intro w;obtain⟨z,lo,ov,he0,hz,WH⟩:=Fw b;have KD:=h_ WH;have KO:=h_ (we z hz);obtain⟨g,hg⟩:∃g,decide (z=0)=g:=⟨_,rfl⟩;have hq:=fun w=>uz z hz g hg w
 have HZ:=h_ hz;rw[hg]at he0;obtain⟨X,hX⟩:∃X,X=ofBits b:=⟨_,rfl⟩;rw[<-hX]at he0|-;have HE:=h_ he0;clear WH hz hg he0 hX;go_enter Tryz.func76,Tryz.ntmps76;go_upto_region 1 with fail
 generalize hw0:World.alloc _ _=v0;have bj:Bl w v0:=db hw0;have hR:Has v0 w.heap.size (aa 0) 26:=by rw[<-hw0];exact Has.Rb _
 clear hw0;obtain⟨R8,TT⟩:∃x,x=w.heap.size:=⟨_,rfl⟩;have NR:Hid (w.heap.size<=R8):=h_ (by omega);rw[<-TT]at hR|-;clear TT;go_wp2_with (first|fail|(with_reducible refine aJ rfl _ rfl _ rfl _ hR rfl ?_))
 refine au (KD.out _) fun v1 hb1=>?_;replace hR:=hR.on hb1;replace bj:=af bj hb1;clear hb1;have q2:=hR.lt;go_upto_region 2 with(with_reducible first|refine aJ rfl _ rfl _ rfl _ hR rfl ?_|refine aZ rfl _ _ rfl _ _ rfl rfl _ (Has.Rb _) rfl ?_)
 generalize hw2:World.setRow _ _ _=v2;have hb2:Bl v1 v2:=cG hw2;have h3:Has v2 v1.heap.size (aa z) 26:=by rw[<-hw2];exact(Has.Rb _).row _
 replace hR:=hR.on hb2;replace bj:=af bj hb2;clear hw2 hb2;obtain⟨R_,R5⟩:∃x,x=v1.heap.size:=⟨_,rfl⟩;rw[<-R5]at h3 q2|-;clear R5;have TU:=h_ q2;clear q2;cases lo
 case true=>
  go_wp2_with (with_reducible first|refine aJ rfl _ rfl _ rfl _ (by assumption) rfl ?_|refine dD (by with_unfolding_all rfl) _ rfl _ rfl _ (by assumption) rfl ?_|refine lX rfl _ _ rfl _ 0 _ rfl rfl fF _ hR rfl ?_)
  exact bodyPost_ret (v:=.agg (aa 0)) (fs Tryz.results76 _ _ _ rfl (hR.row _)) rfl ⟨_,⟨jl,by have:=HE.out;simpa using this.symm⟩,rfl,below_setRow bj NR.out _⟩
 case false=>
  cases ov
  case true=>
   go_wp2_with (with_reducible first|refine aJ rfl _ rfl _ rfl _ (by assumption) rfl ?_|refine dD (by with_unfolding_all rfl) _ rfl _ rfl _ (by assumption) rfl ?_|refine lX rfl _ _ rfl _ 0 _ rfl rfl fF _ hR rfl ?_)
   exact bodyPost_ret (v:=.agg (aa 0)) (fs Tryz.results76 _ _ _ rfl (hR.row _)) rfl ⟨_,⟨jl,by have:=HE.out;simpa using this.symm⟩,rfl,below_setRow bj NR.out _⟩
  case false=>
   cases g
   case true=>
    (go_wp2_with (with_reducible first|refine aJ rfl _ rfl _ rfl _ (by assumption) rfl ?_|refine dD (by with_unfolding_all rfl) _ rfl _ rfl _ (by assumption) rfl ?_|refine lX rfl _ _ rfl _ 0 _ rfl rfl fF _ hR rfl ?_));exact bodyPost_ret (v:=.agg (aa 0)) (fs Tryz.results76 _ _ _ rfl (hR.row _)) rfl ⟨_,⟨jl,by have:=HE.out;simpa using this.symm⟩,rfl,below_setRow bj NR.out _⟩
   case false=>
    (go_wp2_with (with_reducible first|refine aJ rfl _ rfl _ rfl _ (by assumption) rfl ?_|refine dD (by with_unfolding_all rfl) _ rfl _ rfl _ (by assumption) rfl ?_));refine(KO.out _).mono ?_;rintro e v9 ⟨y,hy,rfl,RM⟩;have HY:=h_ hy;clear hy;replace hR:=hR.on RM;replace h3:=h3.on RM;replace bj:=af bj RM;clear RM;(go_wp2_with (with_reducible first|refine aJ rfl _ rfl _ rfl _ (by assumption) rfl ?_|refine aZ rfl _ _ rfl _ _ rfl rfl _ hR rfl ?_));exact bodyPost_ret (v:=.agg (aa y)) (fs Tryz.results76 _ _ _ rfl (hR.row _)) rfl ⟨_,⟨HY.out.1,by have:=HE.out;rw[HY.out.2];simpa using this.symm⟩,rfl,below_setRow bj NR.out _⟩
end NN
namespace An
open Mem Sc NN.Rz
theorem ib.mine{k s:Nat}{Pre:World->Prop}{Post:Value->World->Prop}{l:Array Bool}{a:Act}{w':World}(u:Value)(hi:k<l.size)(hs:s<a.tmps.size)(hp:Post u w'):ib k s Pre Post (l.setIfInBounds k true) (a.put (some s) u) w':=⟨fun h=>(by rw[gi _ _ _ hi,if_pos rfl]at h;cases h),fun _=>by rw[jU a s u hs];exact hp⟩
theorem J8:∃i z,Tryz.prog.info? 26=some i/\i.zero=some z/\i.size=4/\i.bytes=32/\z.cells.size=4:=rY (by kernel_rfl) (by kernel_rfl) (by kernel_rfl)
theorem JA(cs:Array Value)(h:cs.size=4)(w:World):(Instr.buildSlice 70 1 #[(0,.agg cs)]).run Tryz.prog w=.ok (.slice (some ⟨w.heap.size,0,none⟩) 1 1) (w.alloc (.cells cs 26)):=by obtain⟨i,z,hi,hz,h1,h2,h3⟩:=J8;refine run_buildSlice w 70 26 1 _ cs i z Tryz.underlying70 hi hz (by rw[h1];decide) (by rw[h1];decide) ?_;rw[h1];exact sK 4 _ cs (by simp) h
section
variable{ρ:Operand->Value}{o:Oper}{w:World}
variable{x:Operand}
theorem BQ{y:Operand}{a b m:Int}(ho:o.op=.call { callee:=.builtin .max,args:=#[x,y],argTypes:=#[3,3] })(hx:ρ x=i_ a)(hy:ρ y=i_ b)(hm:m=max a b):(execOp ρ o).run Tryz.prog w=.ok (.value (i_ m)) w:=by have hr:=NN.kQ (P:=Tryz.prog) a b m hm #[3,3] o.type w;unfold execOp;simp only[ho,resolve,invoke,builtin,Sem.run_bind,Sem.run_pure,Result.andThen_ok,List.map_toArray,List.map_cons,List.map_nil,hx,hy,hr]
theorem pA{T:TypeId}{cs:Array Value}(ho:o.op=.box T x)(hx:ρ x=.agg cs):(execOp ρ o).run Tryz.prog w=.ok (.value (.pointer (some ⟨w.heap.size,0,none⟩))) (w.alloc (.cells cs T)):=by unfold execOp;simp only[ho,hx];rfl
theorem Qf{x0 x1 x2 x3 x4 x5:Operand}{p:NN.Pr}(ho:o.op=.build 72 #[(0,x0),(1,x1),(2,x2),(3,x3),(4,x4),(5,x5)])(hp:p.ok)(h0:ρ x0=.agg (NN.aE p)){a1 a2 a3 a4:Option Addr}{n1 n2 n3 n4 c1 c2 c3 c4 room:Nat}(h1:ρ x1=.slice a1 n1 c1)(h2:ρ x2=.slice a2 n2 c2)(h3:ρ x3=.slice a3 n3 c3)(h4:ρ x4=.slice a4 n4 c4)(h5:ρ x5=i_ room):(execOp ρ o).run Tryz.prog w=.ok (.value (.agg (iu p (.slice a1 n1 c1) (.slice a2 n2 c2) (.slice a3 n3 c3) (.slice a4 n4 c4) room))) w:=by unfold execOp;simp only[ho,Sem.run_bind];rw[show(#[(0,x0),(1,x1),(2,x2),(3,x3),(4,x4),(5,x5)]:Array (Nat×Operand)).map (fun(i,x)=>(i,ρ x))=#[(0,.agg (NN.aE p)),(1,.slice a1 n1 c1),(2,.slice a2 n2 c2),(3,.slice a3 n3 c3),(4,.slice a4 n4 c4),(5,Value.int .i64 (room:Int))] by simp[h0,h1,h2,h3,h4,h5],run_build w 72 _ _ (GW p hp a1 a2 a3 a4 n1 n2 n3 n4 c1 c2 c3 c4 room)];rfl
end
def gv(B:Nat)(cs:Array Value)(T:TypeId)(u:Value)(w:World):Prop:=∃g,u=.slice (aW g) 1 1/\B<=g/\Has w g cs T
variable{B R:Nat}{cs:Array Value}{u:Value}{w w':World}
theorem gv.on{T:TypeId}(h:gv B cs T u w)(hb:Bl w w'):gv B cs T u w':=by obtain⟨g,h1,h2,h3⟩:=h;exact⟨g,h1,h2,bY hb h3 h3.lt⟩
def pO(x:Nat)(u:Value):Prop:=∃z,(z<NN.Nm.ai/\z=x)/\u=.agg (NN.aa z)
def oT(B x:Nat)(u:Value)(w:World):Prop:=∃z,(z<NN.Nm.ai/\z=x)/\gv B (NN.aa z) 26 u w
theorem oT.on{x:Nat}(h:oT B x u w)(hb:Bl w w'):oT B x u w':=by obtain⟨z,h1,h2⟩:=h;exact⟨z,h1,h2.on hb⟩
def FB(B:Nat)(p:NN.Pr)(h:Hd)(id:List UInt8)(R:Nat)(cs:Array Value)(w:World):Prop:=∃vH vI vA vW,cs=iu p vH vI vA vW R/\gv B (aD h) 30 vH w/\gv B (ae id) 28 vI w/\gv B #[i_ (-1)] 3 vA w/\oT B (NN.ofBits h.bits) vW w
variable{p:NN.Pr}{h:Hd}{id:List UInt8}
theorem FB.on(hv:FB B p h id R cs w)(hb:Bl w w'):FB B p h id R cs w':=by obtain⟨vH,vI,vA,vW,h1,h2,h3,h4,h5⟩:=hv;exact⟨vH,vI,vA,vW,h1,h2.on hb,h3.on hb,h4.on hb,h5.on hb⟩
def uu(B:Nat)(p:NN.Pr)(h:Hd)(id:List UInt8)(R:Nat)(u:Value)(w:World):Prop:=∃g cs,u=ah g/\B<=g/\Has w g cs 72/\FB B p h id R cs w
theorem uu.on(hv:uu B p h id R u w)(hb:Bl w w'):uu B p h id R u w':=by obtain⟨g,cs,h1,h2,h3,h4⟩:=hv;exact⟨g,cs,h1,h2,bY hb h3 h3.lt,h4.on hb⟩
def MY(B bP:Nat)(p:NN.Pr)(h:Hd)(id:List UInt8)(room m1:Int)(R:Nat):Nat->Value->World->Prop
 | 0,u,_=>u=.agg (NN.aE p)
 | 1,u,_=>u=.pointer (some ⟨bP,15,none⟩)
 | 2,u,_=>u=.agg (aD h)
 | 3,u,w=>gv B (aD h) 30 u w
 | 4,u,_=>u=.pointer (some ⟨bP,15,none⟩)
 | 5,u,_=>u=.agg (aD h)
 | 6,u,_=>u=.agg (ae id)
 | 7,u,w=>gv B (ae id) 28 u w
 | 8,u,w=>gv B #[i_ (-1)] 3 u w
 | 9,u,_=>u=.pointer (some ⟨bP,15,none⟩)
 | 10,u,_=>u=.pointer (some ⟨bP,81,none⟩)
 | 11,u,_=>u=i_ h.bits
 | 12,u,_=>pO (NN.ofBits h.bits) u
 | 13,u,w=>oT B (NN.ofBits h.bits) u w
 | 14,u,_=>u=i_ room
 | 15,u,_=>u=i_ m1
 | 16,u,_=>u=i_ R
 | 17,u,w=>∃cs,u=.agg cs/\FB B p h id R cs w
 | 18,u,w=>uu B p h id R u w
 | 19,u,w=>uu B p h id R u w
 | _,_,_=>B=B
theorem DE{bP:Nat}{room m1:Int}:∀(i:Nat)(u:Value)(w w':World),Bl w w'->MY B bP p h id room m1 R i u w->MY B bP p h id room m1 R i u w'
 | 0,_,_,_,_,h|1,_,_,_,_,h|2,_,_,_,_,h|4,_,_,_,_,h|5,_,_,_,_,h|6,_,_,_,_,h|9,_,_,_,_,h|10,_,_,_,_,h|11,_,_,_,_,h|12,_,_,_,_,h|14,_,_,_,_,h|15,_,_,_,_,h|16,_,_,_,_,h=>h
 | 3,_,_,_,hb,h=>gv.on h hb
 | 7,_,_,_,hb,h=>gv.on h hb
 | 8,_,_,_,hb,h=>gv.on h hb
 | 13,_,_,_,hb,h=>oT.on h hb
 | 17,_,_,_,hb,⟨cs,h1,h2⟩=>⟨cs,h1,h2.on hb⟩
 | 18,_,_,_,hb,h=>uu.on h hb
 | 19,_,_,_,hb,h=>uu.on h hb
 | _+20,_,_,_,_,_=>rfl
theorem wJ(p:NN.Pr)(hp:p.ok)(t:Tl)(tt:p.tl=t.C)(ht:t.ok)(h:Hd)(hg:t.g=h)(ho:h.ok)(id:List UInt8)(i32:id.length=32)(room:Int)(w:World)(KI:aV w 75 #[.agg (aD h)] (.agg (ae id))):aN 39 #[.agg (NN.aE p),.int .i64 room] w fun e w'=>∃u,e=.returned u/\uu w.heap.size p h id (dF room) u w'/\Bl w w':=by
 have KO:=h_ (NN.DN h.bits);have z2:=eR ho;have zA:(aD h).size=68:=by rw[aD,List.size_toArray,z2]
 have zI:(ae id).size=32:=by simp[ae,i32]
 obtain⟨m1,hm1⟩:∃m1,m1=max room 1:=⟨_,rfl⟩;obtain⟨R,hR⟩:∃R,R=dF room:=⟨_,rfl⟩;have hR2:(R:Int)=min m1 512:=by rw[hR,hm1,LN]
 have HM:=h_ (And.intro hm1 hR2);rw[<-hR];clear hR hm1 hR2;go_enter Tryz.func39,Tryz.ntmps39;go_upto_region 1 with fail
 generalize hw0:World.alloc _ _=v0;have hB:Bl w v0:=db hw0;have hP:NN.aA v0 w.heap.size p:=by rw[<-hw0];exact NN.Has.new _ _
 clear hw0;obtain⟨bP,Rv⟩:∃x,x=w.heap.size:=⟨_,rfl⟩;have VF:=h_ Rv;rw[<-Rv]at hP|-;clear Rv;refine ig (by kernel_rfl) (fun w'=>Bl w w'/\NN.aA w' bP p) (fun i v' w'=>MY w.heap.size bP p h id room m1 R i v' w') (fun l a w'=>ib 19 4 (fun _=>True) (fun u w'=>uu w.heap.size p h id R u w') l a w') (fun w w'=>Bl w w') (fun _ _=>Below.refl _ _) (fun i v w w' _ hs h=>DE i v w w' hs h) (by kernel_rfl) ⟨hB.trans (a_.drew.mono hB.size),Has.drew hP⟩ ?_ ?_ ?_;exact fun l hl=>ib.zero hl trivial
 ·intro i o lz a wx ho' hnl dq Z;have hC:=Z.c;have hI:=Z.i;have hi:i<20:=(Array.getElem?_eq_some_iff.1 ho').1;have rP:wx.rangeAt bP 15 (bp h):=by rw[<-hg];exact jC hC.2 tt ht
  have rB:=GQ ho rP;have rA:wx.rangeAt bP 0 (NN.dK p):=gk (A:=[]) (C:=[]) (t:=32) (by rw[List.append_nil];exact hC.2) rfl;obtain rfl|rfl|rfl|rfl|rfl|rfl|rfl|rfl|rfl|rfl|rfl|rfl|rfl|rfl|rfl|rfl|rfl|rfl|rfl|rfl:i=0\/i=1\/i=2\/i=3\/i=4\/i=5\/i=6\/i=7\/i=8\/i=9\/i=10\/i=11\/i=12\/i=13\/i=14\/i=15\/i=16\/i=17\/i=18\/i=19:=by omega
  all_goals obtain rfl:=Option.some.inj ho'
  exact dx (S:=fun w w'=>Bl w w') (fun _ _=>Below.refl _ _) 0 Z (ak rfl) (Ci rfl (Z.old' 2) rA (jk hp)) rfl (hI.keep (av Z 0));exact dx (S:=fun w w'=>Bl w w') (fun _ _=>Below.refl _ _) 1 Z (ak rfl) (de rfl (Z.old' 2) (f' wx bP)) rfl (hI.keep (av Z 1));exact dx (S:=fun w w'=>Bl w w') (fun _ _=>Below.refl _ _) 2 Z (ak rfl) (lP rfl (ar Z dq 1 6) rP z2) rfl (hI.keep (av Z 2));have hsz:=av Z 3;have Ri:=du Z hnl 19;have hb:Bl wx (wx.alloc _):=a_.alloc (Nat.le_refl _) (.cells (aD h) 30);exact A7 (S:=fun w w'=>Bl w w') 3 Z (ak rfl) (NN.Rz.jI rfl (ar Z dq 2 7) (AI _ zA wx)) ⟨af hC.1 hb,NN.aA.on hC.2 hb⟩ hb (⟨wx.heap.size,rfl,hC.1.size,Has.new _ _⟩) (ib.made Ri trivial);exact dx (S:=fun w w'=>Bl w w') (fun _ _=>Below.refl _ _) 4 Z (ak rfl) (de rfl (Z.old' 2) (f' wx bP)) rfl (hI.keep (av Z 4));exact dx (S:=fun w w'=>Bl w w') (fun _ _=>Below.refl _ _) 5 Z (ak rfl) (lP rfl (ar Z dq 4 9) rP z2) rfl (hI.keep (av Z 5))
  ·have hsz:=av Z 6;have Ri:=du Z hnl 19;have hpre:=hI.pre Ri hsz (by decide);exact lZ (S:=fun w w'=>Bl w w') 6 Z (ak rfl) (f:=75) (args:=#[a.eval (.tmp 10)]) (by kernel_rfl) (by rw[show a.eval (.tmp 10)=_ from(ar Z dq 5 10)];  exact KI.out wx hC.1) (fun w' hb=>⟨⟨af hC.1 hb,NN.aA.on hC.2 hb⟩,hb,rfl,ib.made Ri (trivial)⟩)
  have hsz:=av Z 7;have Ri:=du Z hnl 19;have hb:Bl wx (wx.alloc _):=a_.alloc (Nat.le_refl _) (.cells (ae id) 28);exact A7 (S:=fun w w'=>Bl w w') 7 Z (ak rfl) (NN.Rz.jI rfl (ar Z dq 6 11) (L5 _ zI wx)) ⟨af hC.1 hb,NN.aA.on hC.2 hb⟩ hb (⟨wx.heap.size,rfl,hC.1.size,Has.new _ _⟩) (ib.made Ri trivial);have hsz:=av Z 8;have Ri:=du Z hnl 19;have hb:Bl wx (wx.alloc _):=a_.alloc (Nat.le_refl _) (.cells #[.int .i64 (-1)] 3);exact A7 (S:=fun w w'=>Bl w w') 8 Z (ak rfl) (NN.Rz.jI rfl rfl (nM wx (-1))) ⟨af hC.1 hb,NN.aA.on hC.2 hb⟩ hb (⟨wx.heap.size,rfl,hC.1.size,Has.new _ _⟩) (ib.made Ri trivial);exact dx (S:=fun w w'=>Bl w w') (fun _ _=>Below.refl _ _) 9 Z (ak rfl) (de rfl (Z.old' 2) (f' wx bP)) rfl (hI.keep (av Z 9));exact dx (S:=fun w w'=>Bl w w') (fun _ _=>Below.refl _ _) 10 Z (ak rfl) (vC rfl (ar Z dq 9 14) (mF wx bP)) rfl (hI.keep (av Z 10));exact dx (S:=fun w w'=>Bl w w') (fun _ _=>Below.refl _ _) 11 Z (ak rfl) (NN.kU rfl (ar Z dq 10 15) rB) rfl (hI.keep (av Z 11))
  ·have hsz:=av Z 12;have Ri:=du Z hnl 19;have e16:=(ar Z dq 11 16);refine yZ (S:=fun w w'=>Bl w w') 12 Z (ak rfl) (f:=76) (args:=#[a.eval (.tmp 16)]) (by kernel_rfl) ?_;rw[e16];refine(KO.out wx).mono ?_;rintro e w' ⟨z,hz,rfl,hb⟩;exact⟨_,rfl,⟨af hC.1 hb,NN.aA.on hC.2 hb⟩,hb,⟨z,hz,rfl⟩,ib.made Ri trivial⟩
  have hsz:=av Z 13;have Ri:=du Z hnl 19;obtain⟨z,hz,e17⟩:=(ar Z dq 12 17);have hb:Bl wx (wx.alloc _):=a_.alloc (Nat.le_refl _) (.cells (NN.aa z) 26);exact A7 (S:=fun w w'=>Bl w w') 13 Z (ak rfl) (NN.Rz.jI rfl e17 (JA _ (NN.fJ z) wx)) ⟨af hC.1 hb,NN.aA.on hC.2 hb⟩ hb (⟨z,hz,wx.heap.size,rfl,hC.1.size,Has.new _ _⟩) (ib.made Ri trivial);exact dx (S:=fun w w'=>Bl w w') (fun _ _=>Below.refl _ _) 14 Z (ak rfl) (NN.dk rfl) (Z.old' 1) (hI.keep (av Z 14));exact dx (S:=fun w w'=>Bl w w') (fun _ _=>Below.refl _ _) 15 Z (ak rfl) (BQ rfl (ar Z dq 14 19) rfl HM.out.1) rfl (hI.keep (av Z 15));exact dx (S:=fun w w'=>Bl w w') (fun _ _=>Below.refl _ _) 16 Z (ak rfl) (qR rfl (ar Z dq 15 20) rfl HM.out.2) rfl (hI.keep (av Z 16));have hsz:=av Z 17;obtain⟨g1,e8,k8,m8⟩:=(ar Z dq 3 8);obtain⟨g2,e12,k12,m12⟩:=(ar Z dq 7 12);obtain⟨g3,e13,k13,m13⟩:=(ar Z dq 8 13);obtain⟨z,hz,g4,e18,k18,m18⟩:=(ar Z dq 13 18);exact dx (S:=fun w w'=>Bl w w') (fun _ _=>Below.refl _ _) 17 Z (ak rfl) (Qf rfl hp (ar Z dq 0 5) e8 e12 e13 e18 (ar Z dq 16 21)) ⟨_,rfl,_,_,_,_,rfl,⟨g1,rfl,k8,m8⟩,⟨g2,rfl,k12,m12⟩,⟨g3,rfl,k13,m13⟩,z,hz,g4,rfl,k18,m18⟩ (hI.keep hsz);have hsz:=av Z 18;have Ri:=du Z hnl 19;obtain⟨cs,e22,hv⟩:=(ar Z dq 17 22);have hb:Bl wx (wx.alloc _):=a_.alloc (Nat.le_refl _) (.cells cs 72);exact A7 (S:=fun w w'=>Bl w w') 18 Z (ak rfl) (pA rfl e22) ⟨af hC.1 hb,NN.aA.on hC.2 hb⟩ hb (⟨wx.heap.size,cs,rfl,hC.1.size,Has.new _ _,hv.on hb⟩) (ib.made Ri trivial);exact dx (S:=fun w w'=>Bl w w') (fun _ _=>Below.refl _ _) 19 Z (ak rfl) (NN.eT rfl) (ar Z dq 18 23) (ib.mine _ (av Z 19) (by rw[Z.Re];exact(show 4<24 by decide)) (ar Z dq 18 23))
 intro lz a' v1 hall Z;have hC:=Z.c;obtain⟨g,cs,e4,hg4,hh4,hv4⟩:=Z.i.2 (hall 19 (by decide));obtain⟨u,hu⟩:∃u:Nat->Value,∀t,u t=a'.eval (.tmp t):=⟨_,fun _=>rfl⟩;rw[eE a' 24 u Z.Re Z.defers hu];rw[<-hu]at e4;clear hu Z hall;simp only[List.range,List.range.loop,List.map_cons,List.map_nil];rw[e4];clear e4;go_wp2_with fail
 go_ret;exact⟨_,rfl,⟨g,cs,rfl,hg4,hh4,hv4⟩,hC.1⟩
open Ar (aq Ru aB)
theorem u6(b:Nat)(h:Hd)(ho:h.ok)(now:Int)(w:World)(KG:aV w 118 #[.agg (aD h)] (.bool false)):an 84 #[.pointer (some ⟨b,0,none⟩),.agg (aD h),.int .i64 now] w (.tuple #[.int .i64 (-1),.int .i64 1,.int .i64 8]):=by
 have za:=fM ho;go_enter Tryz.func84,Tryz.ntmps84;go_upto_region 1 with fail
 generalize hw0:World.alloc _ _=v0;have hB:Below w.heap.size w v0:=db hw0;have hH:aG v0 w.heap.size h:=by rw[<-hw0];exact Has.new _ _
 clear hw0;obtain⟨bH,Rn⟩:∃x,x=w.heap.size:=⟨_,rfl⟩;rw[<-Rn]at hH|-;have TX:Hid (bH=w.heap.size):=h_ Rn;clear Rn;go_wp2_with (first|fail|(with_reducible refine cC rfl _ rfl _ rfl hH za ?_))
 refine au (KG.out _ hB) fun v1 hb=>?_;replace hH:=hH.on hb;replace hB:=af hB hb;clear hb;go_wp2_with fail
 go_ret3
 exact⟨rfl,hB⟩
theorem K8(b:Nat)(h:Hd)(ho:h.ok)(now:Int)(w:World)(KG:aV w 118 #[.agg (aD h)] (.bool true))(id:List UInt8)(i32:id.length=32)(KI:aV w 119 #[.agg (aD h)] (.agg (ae id)))(i:Nat)(KF:aV w 120 #[.pointer (some ⟨b,0,none⟩),.agg (ae id)] (.int .i64 (i:Int))):an 84 #[.pointer (some ⟨b,0,none⟩),.agg (aD h),.int .i64 now] w (.tuple #[.int .i64 (i:Int),.int .i64 0,.int .i64 0]):=by
 have za:=fM ho;go_enter Tryz.func84,Tryz.ntmps84;go_upto_region 1 with fail
 generalize hw0:World.alloc _ _=v0;have hB:Below w.heap.size w v0:=db hw0;have hH:aG v0 w.heap.size h:=by rw[<-hw0];exact Has.new _ _
 clear hw0;obtain⟨bH,Rn⟩:∃x,x=w.heap.size:=⟨_,rfl⟩;rw[<-Rn]at hH|-;have TX:Hid (bH=w.heap.size):=h_ Rn;clear Rn;go_wp2_with (first|fail|(with_reducible refine cC rfl _ rfl _ rfl hH za ?_))
 refine au (KG.out _ hB) fun v1 hb=>?_;replace hH:=hH.on hb;replace hB:=af hB hb;clear hb;go_wp2_with (first|fail|(with_reducible refine cC rfl _ rfl _ rfl hH za ?_))
 refine au (KI.out _ hB) fun v2 hb=>?_;replace hH:=hH.on hb;replace hB:=af hB hb;clear hb;have s1:(ae id).size=32:=by rw[jz];exact i32
 have o1:=jY id;have HW2:Hid (w.heap.size<=v2.heap.size):=h_ hB.size;go_upto_region 6 with(with_reducible refine jq rfl _ _ rfl _ (ae id) (ae id) rfl rfl rfl s1 o1 h0 (cP v2 _) rfl ?_)
 generalize hw4:World.setRow _ _ _=v3;have hb2:Below v2.heap.size v2 v3:=cG hw4;have hI:Has v3 v2.heap.size (ae id) 28:=by rw[<-hw4];exact Has.row (cP v2 _) _
 replace hH:=hH.on hb2;replace hB:=af hB hb2;clear hw4 hb2 o1;obtain⟨bI,SF⟩:∃b,b=v2.heap.size:=⟨_,rfl⟩;rw[<-SF]at hI HW2|-;clear SF;go_wp2_with (first|fail|(with_reducible refine j6 rfl _ rfl _ rfl _ hI s1 ?_))
 refine au (KF.out _ hB) fun v4 hb=>?_;replace hH:=hH.on hb;replace hI:=bY hb hI (Has.lt hI);replace hB:=af hB hb;clear hb;go_wp2_with fail
 go_ret3
 exact⟨rfl,hB⟩
theorem JM(b:Nat)(h:Hd)(ho:h.ok)(now:Int)(w:World)(KG:aV w 118 #[.agg (aD h)] (.bool true))(id:List UInt8)(i32:id.length=32)(KI:aV w 119 #[.agg (aD h)] (.agg (ae id)))(KF:aV w 120 #[.pointer (some ⟨b,0,none⟩),.agg (ae id)] (.int .i64 (-1)))(KP:aV w 120 #[.pointer (some ⟨b,0,none⟩),.agg (ae h.prev)] (.int .i64 (-1))):an 84 #[.pointer (some ⟨b,0,none⟩),.agg (aD h),.int .i64 now] w (.tuple #[.int .i64 (-1),.int .i64 2,.int .i64 5]):=by
 have za:=fM ho;go_enter Tryz.func84,Tryz.ntmps84;go_upto_region 1 with fail
 generalize hw0:World.alloc _ _=v0;have hB:Below w.heap.size w v0:=db hw0;have hH:aG v0 w.heap.size h:=by rw[<-hw0];exact Has.new _ _
 clear hw0;obtain⟨bH,Rn⟩:∃x,x=w.heap.size:=⟨_,rfl⟩;rw[<-Rn]at hH|-;have TX:Hid (bH=w.heap.size):=h_ Rn;clear Rn;go_wp2_with (first|fail|(with_reducible refine cC rfl _ rfl _ rfl hH za ?_))
 refine au (KG.out _ hB) fun v1 hb=>?_;replace hH:=hH.on hb;replace hB:=af hB hb;clear hb;go_wp2_with (first|fail|(with_reducible refine cC rfl _ rfl _ rfl hH za ?_))
 refine au (KI.out _ hB) fun v2 hb=>?_;replace hH:=hH.on hb;replace hB:=af hB hb;clear hb;have s1:(ae id).size=32:=by rw[jz];exact i32
 have o1:=jY id;have HW2:Hid (w.heap.size<=v2.heap.size):=h_ hB.size;go_upto_region 6 with(with_reducible refine jq rfl _ _ rfl _ (ae id) (ae id) rfl rfl rfl s1 o1 h0 (cP v2 _) rfl ?_)
 generalize hw4:World.setRow _ _ _=v3;have hb2:Below v2.heap.size v2 v3:=cG hw4;have hI:Has v3 v2.heap.size (ae id) 28:=by rw[<-hw4];exact Has.row (cP v2 _) _
 replace hH:=hH.on hb2;replace hB:=af hB hb2;clear hw4 hb2 o1;obtain⟨bI,SF⟩:∃b,b=v2.heap.size:=⟨_,rfl⟩;rw[<-SF]at hI HW2|-;clear SF;go_wp2_with (first|fail|(with_reducible refine j6 rfl _ rfl _ rfl _ hI s1 ?_))
 refine au (KF.out _ hB) fun v4 hb=>?_;replace hH:=hH.on hb;replace hI:=bY hb hI (Has.lt hI);replace hB:=af hB hb;clear hb;have rp:=hH.prev;have s2:=gU ho.1;go_wp2_with (first|fail|(with_reducible refine fQ rfl _ rfl bH 1 rfl h.prev rp s2 ?_))
 refine au (KP.out _ hB) fun v5 hb=>?_;replace hH:=hH.on hb;replace hI:=bY hb hI (Has.lt hI);replace hB:=af hB hb;clear hb;clear rp;go_wp2_with fail
 go_ret3
 exact⟨rfl,hB⟩
theorem FQ(b:Nat)(h:Hd)(ho:h.ok)(now:Int)(w:World)(KG:aV w 118 #[.agg (aD h)] (.bool true))(id:List UInt8)(i32:id.length=32)(KI:aV w 119 #[.agg (aD h)] (.agg (ae id)))(KF:aV w 120 #[.pointer (some ⟨b,0,none⟩),.agg (ae id)] (.int .i64 (-1))){I:Nat->Prop}{p:NN.Pr}{t:Tl}{gs:List Gt}{cs:List Ck}{room g n c mb:Nat}{L:List Bk}(HA:Hid (∀w',Below w.heap.size w w'->fx w' I b p t gs cs room (.slice (some ⟨g,0,none⟩) n c) mb L))(x:Bk)(xe:x.e.ok)(xs:x.s.ok)(j:Nat)(hj:j<n)(HR:Hid (∀w',Below w.heap.size w w'->w'.rangeAt g (j*144) (iH x.e x.s)))(KP:aV w 120 #[.pointer (some ⟨b,0,none⟩),.agg (ae h.prev)] (.int .i64 (j:Int)))(y:Int)(hy:(y==0)=false)(KC:aV w 121 #[.agg (NN.aE p),.agg (bo x.s),.agg (aD h),.int .i64 now] (.int .i64 y)):an 84 #[.pointer (some ⟨b,0,none⟩),.agg (aD h),.int .i64 now] w (.tuple #[.int .i64 (-1),.int .i64 y,.int .i64 8]):=by
 have za:=fM ho;go_enter Tryz.func84,Tryz.ntmps84;go_upto_region 1 with fail
 generalize hw0:World.alloc _ _=v0;have hB:Below w.heap.size w v0:=db hw0;have hH:aG v0 w.heap.size h:=by rw[<-hw0];exact Has.new _ _
 clear hw0;obtain⟨bH,Rn⟩:∃x,x=w.heap.size:=⟨_,rfl⟩;rw[<-Rn]at hH|-;have TX:Hid (bH=w.heap.size):=h_ Rn;clear Rn;go_wp2_with (first|fail|(with_reducible refine cC rfl _ rfl _ rfl hH za ?_))
 refine au (KG.out _ hB) fun v1 hb=>?_;replace hH:=hH.on hb;replace hB:=af hB hb;clear hb;go_wp2_with (first|fail|(with_reducible refine cC rfl _ rfl _ rfl hH za ?_))
 refine au (KI.out _ hB) fun v2 hb=>?_;replace hH:=hH.on hb;replace hB:=af hB hb;clear hb;have s1:(ae id).size=32:=by rw[jz];exact i32
 have o1:=jY id;have HW2:Hid (w.heap.size<=v2.heap.size):=h_ hB.size;go_upto_region 6 with(with_reducible refine jq rfl _ _ rfl _ (ae id) (ae id) rfl rfl rfl s1 o1 h0 (cP v2 _) rfl ?_)
 generalize hw4:World.setRow _ _ _=v3;have hb2:Below v2.heap.size v2 v3:=cG hw4;have hI:Has v3 v2.heap.size (ae id) 28:=by rw[<-hw4];exact Has.row (cP v2 _) _
 replace hH:=hH.on hb2;replace hB:=af hB hb2;clear hw4 hb2 o1;obtain⟨bI,SF⟩:∃b,b=v2.heap.size:=⟨_,rfl⟩;rw[<-SF]at hI HW2|-;clear SF;go_wp2_with (first|fail|(with_reducible refine j6 rfl _ rfl _ rfl _ hI s1 ?_))
 refine au (KF.out _ hB) fun v4 hb=>?_;replace hH:=hH.on hb;replace hI:=bY hb hI (Has.lt hI);replace hB:=af hB hb;clear hb;have rp:=hH.prev;have s2:=gU ho.1;go_wp2_with (first|fail|(with_reducible refine fQ rfl _ rfl bH 1 rfl h.prev rp s2 ?_))
 refine au (KP.out _ hB) fun v5 hb=>?_;replace hH:=hH.on hb;replace hI:=bY hb hI (Has.lt hI);replace hB:=af hB hb;clear hb;clear rp;have Sv:=HA.out _ hB;have Tg:=iv Sv.has Sv.RG;have rs:=CZ xe (HR.out _ hB);have z3:=me xs;have z4:=iW xs;have z0:=iW iU;have hp:=Sv.RG;clear Sv;have VH:Hid (w.heap.size<=v5.heap.size):=h_ hB.size
 go_upto_region 13 with(first
  | (with_reducible refine Cw rfl _ rfl g (j*144+106) rfl x.s rs z3 ?_)
  | (with_reducible refine r_ rfl _ _ rfl _ _ x.s rfl rfl rfl z4 (nu v5) z0 ?_))
 generalize hw4:World.setRow _ _ _=v6;have hb2:Below v5.heap.size v5 v6:=cG hw4;have hS:aH v6 v5.heap.size x.s:=by rw[<-hw4];exact Has.row (nu v5) _
 replace hH:=hH.on hb2;replace hI:=bY hb2 hI (Has.lt hI);replace hB:=af hB hb2;clear hw4 hb2 Tg rs;obtain⟨bS,hbS⟩:∃b,b=v5.heap.size:=⟨_,rfl⟩;rw[<-hbS]at hS VH|-;clear hbS;simp only[Act.put];have hz:=jk hp;have ra:=fZ (nZ (HA.out _ hB).has) (by rw[hz];omega);have qS:=hS.cls;have qH:=fZ hH.range (jM h);have sh:=eR ho;have UO:∀d os,Below w.heap.size w (Sort.grow (redrawn v6 d) os):=fun d os=>hB.trans ((below_regrown v6 d os).mono hB.size)
 refine wp_region_quiet_below (by kernel_rfl) (by kernel_rfl) ?_
 repeat(first
  | (go_big_quiet_want;(with_reducible first|refine AN 32 _ rfl b 0 rfl (NN.dK p) _ Tryz.underlying32 rfl (NN.fh.trans (by rw[hz])) ra ?_|refine A9 _ rfl bS rfl z4 qS ?_|refine j3 _ rfl bH 0 rfl h sh qH ?_);(simp only[Act.put,List.setIfInBounds_toArray,List.set_cons_zero,List.set_cons_succ]);go_big_quiet_on)
  | go_big_quiet_step ((go_at_call 121;exact Calls.regrown_of (KC.out _ (UO _ _)))))
 refine wpQuiet_nil ?_;intro v7 hw';have hb:=mI v7 hw';replace hH:=hH.on hb;replace hI:=bY hb hI (Has.lt hI);replace hS:=hS.on hb;replace hB:=af hB hb;clear hw' hb ra qS qH sh UO;go_wp2_with fail
 go_ret3
 exact⟨rfl,hB⟩
