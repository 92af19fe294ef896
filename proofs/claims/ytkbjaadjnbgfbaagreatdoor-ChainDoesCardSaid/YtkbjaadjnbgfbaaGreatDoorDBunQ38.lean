import Derived.Test.YtkbjaadjnbgfbaaGreatDoorDAnMap
import Derived.Test.YtkbjaadjnbgfbaaGreatDoorDBunQ33
import Derived.Test.YtkbjaadjnbgfbaaGreatDoorDBunQ37
set_option maxRecDepth 100000
set_option maxHeartbeats 4000000
namespace Go.Proofs.YtkbjaadjnbgfbaaGreatDoor
open Go.RowKit
namespace An
open Mem Sc
open Ar (aq Ru aB)
structure En where
 h:Hd
 id:List UInt8
 up:Int
 ht:Int
 wk:Nat
def En.ok(e:En):Prop:=e.h.ok/\e.id.length=32
def gC(e:En):List Value:=bp e.h++(Lib.byteCells e.id++(i_ e.up::i_ e.ht::(NN.aa e.wk).toList))
def bU(e:En):Array Value:=(gC e).toArray
def iS:En:=⟨dr,kr,0,0,0⟩
def lL:En:=⟨dr,kr,-1,0,0⟩
variable{e:En}
theorem mh(h:e.ok):(gC e).length=106:=by simp only[gC,List.length_append,ek h.1,gV h.2,List.length_cons,Array.length_toList,NN.fN]
theorem dc(h:e.ok):(bU e).size=106:=by show(gC e).toArray.size=106;rw[List.size_toArray];exact mh h
theorem xw(n:Nat):∀v∈(NN.aa n).toList,v.oneCell'=true:=fun v hv=>by
 have:=NN.zw n;rw[Array.all_eq_true_iff_forall_mem]at this;exact this v (by simpa using hv)
theorem xa(e:En):∀v∈gC e,v.oneCell'=true:=by
 intro v hv;simp only[gC,List.mem_cons,List.mem_append]at hv;rcases hv with hv|hv|rfl|rfl|hv
 exact oE _ v hv;exact Lib.byteCells_one _ v hv;rfl;rfl;exact xw _ v hv
theorem yq(e:En):(bU e).all (·.oneCell')=true:=all_oneCell_toArray (xa e)
theorem iN:(Tryz.prog.info? 60).map (·.size)=some 106:=by kernel_rfl
theorem di:iS.ok:=⟨dB,rfl⟩
theorem fB:lL.ok:=⟨dB,rfl⟩
def br(w:World)(k:Nat)(e:En):Prop:=Has w k (bU e) 60
def iM(e:En)(s:Sp):List Value:=gC e++gF s
theorem qK{s:Sp}(h:e.ok)(hs:s.ok):(iM e s).length=144:=by simp only[iM,List.length_append,mh h,mf hs]
theorem tE(e:En)(s:Sp):∀v∈iM e s,v.oneCell'=true:=fun v hv=>by
 rcases List.mem_append.1 hv with h|h
 exact xa e v h;exact xn s v h
def Cv(p:NN.Pr)(room:Nat)(v:Value)(mb:Nat):List Value:=NN.dU p++[i_ room,v,.map (some mb)]
def jg(p:NN.Pr)(room:Nat)(v:Value)(mb:Nat):Array Value:=(Cv p room v mb).toArray
theorem jj{p:NN.Pr}(h:p.ok):(NN.dU p).length=83:=by have:=NN.eu h;unfold NN.aE at this;simpa using this
theorem DG:(Lib.byteCells kr).length=32:=rfl
theorem Kt(parts:List (Nat×Value)):Tryz.prog.built 60 parts=Instr.fill ((#[(0,68),(68,32),(100,1),(101,1),(102,4)]:Array (Nat×Nat))[·]?) (bU iS) parts:=by kernel_rfl
theorem IG(e:En)(h:e.ok):Tryz.prog.built 60 [(0,.agg (aD e.h)),(1,.agg (ae e.id)),(2,Value.int .i64 e.up),(3,Value.int .i64 e.ht),(4,.agg (NN.aa e.wk))]=some (bU e):=by
 rw[Kt];have h0:=ek h.1;have h1:=gV h.2;have z0:=ek dB;have z1:=DG;unfold bU gC
 rw[show bp iS.h++(Lib.byteCells iS.id++(Value.int .i64 iS.up::Value.int .i64 iS.ht::(NN.aa iS.wk).toList))=[]++(bp dr++(Lib.byteCells kr++(Value.int .i64 0::Value.int .i64 0::(NN.aa 0).toList)))from rfl,
  gJ (off:=0) (n:=68) [] (bp dr) _ (bp e.h) rfl rfl z0 rfl h0,List.nil_append,
  gJ (off:=68) (n:=32) (bp e.h) (Lib.byteCells kr) _ (Lib.byteCells e.id) rfl h0 z1 (iF e.id▸rfl) h1,
  show bp e.h++(Lib.byteCells e.id++(Value.int .i64 0::Value.int .i64 0::(NN.aa 0).toList))=(bp e.h++Lib.byteCells e.id)++([Value.int .i64 0]++([Value.int .i64 0]++(NN.aa 0).toList)) by simp,
  gJ (off:=100) (n:=1) (bp e.h++Lib.byteCells e.id) [Value.int .i64 0] _ [Value.int .i64 e.up] rfl (by simp[h0,h1]) rfl rfl rfl,
  show(bp e.h++Lib.byteCells e.id)++([Value.int .i64 e.up]++([Value.int .i64 0]++(NN.aa 0).toList))=(bp e.h++Lib.byteCells e.id++[Value.int .i64 e.up])++([Value.int .i64 0]++(NN.aa 0).toList) by simp,
  gJ (off:=101) (n:=1) (bp e.h++Lib.byteCells e.id++[Value.int .i64 e.up]) [Value.int .i64 0] _ [Value.int .i64 e.ht] rfl (by simp[h0,h1]) rfl rfl rfl,
  show(bp e.h++Lib.byteCells e.id++[Value.int .i64 e.up])++([Value.int .i64 e.ht]++(NN.aa 0).toList)=(bp e.h++Lib.byteCells e.id++[Value.int .i64 e.up,Value.int .i64 e.ht])++((NN.aa 0).toList++[]) by simp,
  gJ (off:=102) (n:=4) (bp e.h++Lib.byteCells e.id++[Value.int .i64 e.up,Value.int .i64 e.ht]) (NN.aa 0).toList [] (NN.aa e.wk).toList rfl (by simp[h0,h1]) rfl (by simp[Value.cells]) rfl,sJ]
 simp
theorem Ge(e:En)(h:e.ok)(h0:e.ht=0):Tryz.prog.built 60 [(0,.agg (aD e.h)),(1,.agg (ae e.id)),(2,Value.int .i64 e.up),(4,.agg (NN.aa e.wk))]=some (bU e):=by
 have hh:=IG e h;rw[Kt]at hh|-;rw[<-hh,h0];have e0:=ek h.1;have e1:=gV h.2;have z0:=ek dB;have z1:=DG
 have st:∀rest,Instr.fill ((#[(0,68),(68,32),(100,1),(101,1),(102,4)]:Array (Nat×Nat))[·]?) (bU iS) ((0,.agg (aD e.h))::(1,.agg (ae e.id))::(2,Value.int .i64 e.up)::rest)=Instr.fill ((#[(0,68),(68,32),(100,1),(101,1),(102,4)]:Array (Nat×Nat))[·]?) (bp e.h++(Lib.byteCells e.id++([Value.int .i64 e.up]++([Value.int .i64 0]++(NN.aa 0).toList)))).toArray rest:=fun rest=>by
  unfold bU gC
  rw[show bp iS.h++(Lib.byteCells iS.id++(Value.int .i64 iS.up::Value.int .i64 iS.ht::(NN.aa iS.wk).toList))=[]++(bp dr++(Lib.byteCells kr++(Value.int .i64 0::Value.int .i64 0::(NN.aa 0).toList)))from rfl,
   gJ (off:=0) (n:=68) [] (bp dr) _ (bp e.h) rfl rfl z0 rfl e0,List.nil_append,
   gJ (off:=68) (n:=32) (bp e.h) (Lib.byteCells kr) _ (Lib.byteCells e.id) rfl e0 z1 (iF e.id▸rfl) e1,
   show bp e.h++(Lib.byteCells e.id++(Value.int .i64 0::Value.int .i64 0::(NN.aa 0).toList))=(bp e.h++Lib.byteCells e.id)++([Value.int .i64 0]++([Value.int .i64 0]++(NN.aa 0).toList)) by simp,
   gJ (off:=100) (n:=1) (bp e.h++Lib.byteCells e.id) [Value.int .i64 0] _ [Value.int .i64 e.up] rfl (by simp[e0,e1]) rfl rfl rfl]
  simp
 rw[st,st]
 rw[show bp e.h++(Lib.byteCells e.id++([Value.int .i64 e.up]++([Value.int .i64 0]++(NN.aa 0).toList)))=(bp e.h++Lib.byteCells e.id++[Value.int .i64 e.up])++([Value.int .i64 0]++(NN.aa 0).toList) by simp,
  gJ (i:=3) (off:=101) (n:=1) (bp e.h++Lib.byteCells e.id++[Value.int .i64 e.up]) [Value.int .i64 0] _ [Value.int .i64 0] rfl (by simp[e0,e1]) rfl rfl rfl]
theorem My:Tryz.prog.built 60 [(2,Value.int .i64 (-1))]=some (bU lL):=by kernel_rfl
theorem EJ(parts:List (Nat×Value)):Tryz.prog.built 143 parts=Instr.fill ((#[(0,106),(106,38)]:Array (Nat×Nat))[·]?) (iM iS mc).toArray parts:=by kernel_rfl
theorem OP(e:En)(s:Sp)(h:e.ok)(hs:s.ok):Tryz.prog.built 143 [(0,.agg (bU e)),(1,.agg (bq s))]=some (iM e s).toArray:=by
 rw[EJ];have h0:=mh h;have h1:=mf hs;unfold iM
 rw[show gC iS++gF mc=[]++(gC iS++gF mc)from rfl,
  gJ (off:=0) (n:=106) [] (gC iS) _ (gC e) rfl rfl (mh di) rfl h0,
  show[]++(gC e++gF mc)=gC e++(gF mc++[]) by simp,
  gJ (off:=106) (n:=38) (gC e) (gF mc) [] (gF s) rfl h0 (mf iU) rfl h1,sJ]
 simp
def n7:NN.Pr:=⟨0,0,0,0,false,Value.slice none 0 0::Value.slice none 0 0::((NN.aa 0).toList++((NN.aa 0).toList++bp dr))⟩
theorem nw:n7.ok:=rfl
theorem Iw(parts:List (Nat×Value)):Tryz.prog.built 147 parts=Instr.fill ((#[(0,83),(83,1),(84,1),(85,1)]:Array (Nat×Nat))[·]?) (NN.dU n7++[Value.int .i64 0,Value.slice none 0 0,Value.map none]).toArray parts:=by kernel_rfl
theorem NG(p:NN.Pr)(h:p.ok)(room mb:Nat):Tryz.prog.built 147 [(0,.agg (NN.aE p)),(1,Value.int .i64 (room:Int)),(3,.map (some mb))]=some (jg p room (.slice none 0 0) mb):=by
 rw[Iw];have h0:=jj h;unfold jg Cv
 rw[show NN.dU n7++[Value.int .i64 0,Value.slice none 0 0,Value.map none]=[]++(NN.dU n7++[Value.int .i64 0,Value.slice none 0 0,Value.map none])from rfl,
  gJ (off:=0) (n:=83) [] (NN.dU n7) _ (NN.dU p) rfl rfl (jj nw) rfl h0,
  show[]++(NN.dU p++[Value.int .i64 0,Value.slice none 0 0,Value.map none])=NN.dU p++([Value.int .i64 0]++[Value.slice none 0 0,Value.map none]) by simp,
  gJ (off:=83) (n:=1) (NN.dU p) [Value.int .i64 0] _ [Value.int .i64 (room:Int)] rfl h0 rfl rfl rfl,
  show NN.dU p++([Value.int .i64 (room:Int)]++[Value.slice none 0 0,Value.map none])=(NN.dU p++[Value.int .i64 (room:Int),Value.slice none 0 0])++([Value.map none]++[]) by simp,
  gJ (off:=85) (n:=1) (NN.dU p++[Value.int .i64 (room:Int),Value.slice none 0 0]) [Value.map none] [] [Value.map (some mb)] rfl (by simp[h0]) rfl rfl rfl,sJ]
 simp
def fT(I:Nat->Prop)(P:World->Prop)(w:World):Prop:=∀w',Kp (fun i=>¬I i) w w'->P w'
section
variable{w w':World}{I J G:Nat->Prop}{P P':World->Prop}
theorem fT.now(h:fT I P w):P w:=h w (Kp.refl _ w)
theorem fT.on(h:fT I P w)(k:Kp G w w')(hG:∀i,I i->¬G i):fT I P w':=fun w2 k2=>h w2 ((k.mono (fun i hi _=>fun h=>hG i h hi)).trans k2 (fun _ hi _=>hi))
theorem fT.wide(h:fT I P w)(hI:∀i,I i->J i):fT J P w:=fun w2 k2=>h w2 (k2.mono fun i hi _=>fun h=>hi (hI i h))
theorem fT.imp(h:fT I P w)(hP:∀w',P w'->P' w'):fT I P' w:=fun w2 k2=>hP w2 (h w2 k2)
theorem fT.and(h:fT I P w)(h':fT I P' w):fT I (fun w=>P w/\P' w) w:=fun w2 k2=>⟨h w2 k2,h' w2 k2⟩
end
variable{w w':World}{F I:Nat->Prop}
theorem FQ{b o:Nat}{cs:List Value}(h:w.rangeAt b o cs)(k:Kp F w w')(hb:b<w.heap.size)(hn:¬F b):w'.rangeAt b o cs:=fun j u hu=>(World.cell?_of_block (k.block b hb hn)).trans (h j u hu)
variable{a:Option Addr}
theorem DH{gs:List Gt}(h:aJ w a gs)(hI:0<gs.length->∀ad,a=some ad->I ad.block):fT I (fun w=>aJ w a gs) w:=fun w' k h0=>by
 obtain⟨ab,ao,ha,hlt,hc⟩:=h h0;have:=hI h0 _ ha;exact⟨ab,ao,ha,Nat.lt_of_lt_of_le hlt k.size,fun i hi=>FQ (hc i hi) k hlt (fun hn=>hn this)⟩
theorem FW{gs:List Ck}(h:az w a gs)(hI:0<gs.length->∀ad,a=some ad->I ad.block):fT I (fun w=>az w a gs) w:=fun w' k h0=>by
 obtain⟨ab,ao,ha,hlt,hc⟩:=h h0;have:=hI h0 _ ha;exact⟨ab,ao,ha,Nat.lt_of_lt_of_le hlt k.size,fun i hi=>⟨(hc i hi).1,FQ (hc i hi).2 k hlt (fun hn=>hn this)⟩⟩
theorem Il{s:Sp}{q:Ps}{lo:Nat}(h:eH w lo s q)(hI:∀i,lo<=i->i<w.heap.size->I i):fT I (fun w=>eH w 0 s q) w:=fun w' k=>by
 obtain⟨h1,h2,h3,h4,h5,h6⟩:=h;refine⟨h1,h2,h3,h4,h5,fun h0=>?_⟩;obtain⟨b,off,e,g1,g2,hc⟩:=h6 h0;exact⟨b,off,e,Nat.zero_le _,Nat.lt_of_lt_of_le g2 k.size,fun j hj=>(World.cell?_of_block (w:=w) (a:=⟨b,off+j,none⟩) (k.block b g2 (fun hn=>hn (hI b g1 g2)))).trans (hc j hj)⟩
variable{base e size n:Nat}{v:Value}{xs:List Value}
theorem ay(h:w.ownsRow base e size v n xs)(k:Kp F w w')(hF:∀i,v.ownBlock=some i->¬F i):w'.ownsRow base e size v n xs:=by
 refine⟨h.1,?_⟩;rcases h.2 with h|⟨g,c,cur,rfl,h1,h2,h3⟩
 exact .inl h;have hg:g<w.heap.size:=(Array.getElem?_eq_some_iff.1 h2).1;exact .inr ⟨g,c,cur,rfl,h1,(k.block g hg (hF g rfl)).trans h2,h3⟩
theorem cQ(h:w.ownsRow base e size v n xs){i:Nat}(hi:v.ownBlock=some i):i<w.heap.size/\base<=i:=by
 rcases h.2 with⟨rfl,_⟩|⟨g,c,cur,rfl,h1,h2,h3⟩
 cases hi;cases hi;exact⟨(Array.getElem?_eq_some_iff.1 h2).1,h1⟩
theorem eR(h:w.ownsRow base e size v n xs){i:Nat}(hi:v.ownBlock=some i):∃cs,w.heap[i]?=some (.cells cs e (0,0)):=by
 rcases h.2 with⟨rfl,_⟩|⟨g,c,cur,rfl,h1,h2,h3⟩
 cases hi;cases hi;exact⟨_,h2⟩
structure Bk where
 e:En
 s:Sp
 q:Ps
def mu(L:List Bk):List Value:=L.flatMap fun x=>iM x.e x.s
theorem Lr(L:List Bk)(x:Bk):mu (L++[x])=mu L++iM x.e x.s:=by simp[mu]
structure fC (w:World) (I:Nat->Prop) (b:Nat) (p:NN.Pr) (t:Tl) (gs:List Gt) (cs:List Ck) (room:Nat) (v:Value) (mb:Nat) (L:List Bk):Prop where
 has:Has w b (jg p room v mb) 147
 Rf:p.ok
 one:p.one
 tt:p.tl=t.C
 tok:t.ok
 gn:t.gn=gs.length
 cn:t.cn=cs.length
 row:w.ownsRow 0 143 144 v L.length (mu L)
 map:dv w mb (L.map (·.e.id))
 Q':fT I (fun w=>aJ w t.ga gs) w
 checks:fT I (fun w=>az w t.ca cs) w
 RC:∀x∈L,fT I (fun w=>eH w 0 x.s x.q) w
 nb:¬I b
 nm:¬I mb
 nv:∀k,v.ownBlock=some k->¬I k
 lt:∀i,I i->i<w.heap.size
 b_:∀x∈L,x.e.ok/\x.s.ok
def jC(I:Nat->Prop)(b:Nat)(v:Value)(mb:Nat):Nat->Prop:=fun i=>I i\/i=b\/i=mb\/v.ownBlock=some i
section
variable{w w':World}{I G:Nat->Prop}{b:Nat}{p:NN.Pr}{t:Tl}{gs:List Gt}{cs:List Ck}{room:Nat}{v:Value}{mb:Nat}{L:List Bk}
theorem fC.on(h:fC w I b p t gs cs room v mb L)(k:Kp G w w')(hG:∀i,jC I b v mb i->¬G i):fC w' I b p t gs cs room v mb L where
 has:=k.has h.has (hG b (.inr (.inl rfl)))
 Rf:=h.Rf
 one:=h.one
 tt:=h.tt
 tok:=h.tok
 gn:=h.gn
 cn:=h.cn
 row:=ay h.row k fun i hi=>hG i (.inr (.inr (.inr hi)))
 map:=h.map.on (k.block mb h.map.lt (hG mb (.inr (.inr (.inl rfl)))))
 Q':=h.Q'.on k fun i hi=>hG i (.inl hi)
 checks:=h.checks.on k fun i hi=>hG i (.inl hi)
 RC:=fun x hx=>(h.RC x hx).on k fun i hi=>hG i (.inl hi)
 nb:=h.nb
 nm:=h.nm
 nv:=h.nv
 lt:=fun i hi=>Nat.lt_of_lt_of_le (h.lt i hi) k.size
 b_:=h.b_
theorem fC.RI(h:fC w I b p t gs cs room v mb L){i:Nat}(hi:jC I b v mb i):i<w.heap.size:=by
 rcases hi with hi|rfl|rfl|hi
 exact h.lt i hi;exact h.has.lt;exact h.map.lt;exact(cQ h.row hi).1
theorem fC.below(h:fC w I b p t gs cs room v mb L)(hb:Bl w w'):fC w' I b p t gs cs room v mb L:=h.on (G:=fun _=>False) (Kp.of hb) fun _ _ hf=>hf
theorem fC.T1(h:fC w I b p t gs cs room v mb L):b≠mb:=h.map.Q3 h.has
theorem fC.UW(h:fC w I b p t gs cs room v mb L){i:Nat}(hi:v.ownBlock=some i):i≠b:=by
 rintro rfl;obtain⟨c,hc⟩:=eR h.row hi;have:=h.has.out;rw[hc]at this;injection this with this
 injection this with _ this
 exact absurd this (by decide)
theorem fC.T2(h:fC w I b p t gs cs room v mb L){i:Nat}(hi:v.ownBlock=some i):i≠mb:=by obtain⟨c,hc⟩:=eR h.row hi;exact h.map.Q3 hc
end
def e_(r:Ru)(hs:List Hd):Nat:=hs.foldl (fun n h=>NN.Nm.cap (n+NN.ofBits h.bits)) (NN.ofBits r.g.bits)
theorem zT(r:Ru)(hs:List Hd)(h:Hd):e_ r (hs++[h])=NN.Nm.cap (e_ r hs+NN.ofBits h.bits):=by simp[e_]
theorem pI(r:Ru)(hs:List Hd):e_ r hs<NN.Nm.ai:=by
 rcases List.eq_nil_or_concat hs with rfl|⟨l,x,rfl⟩
 exact NN.IL _;rw[List.concat_eq_append,zT];exact NN.Nm.mW _
def bs(r:Ru)(e:aq):En:=⟨e.h r.g,(e.h r.g).id,e.up,(e.hs.length:Nat),e_ r e.hs⟩
def Lk(r:Ru)(M:List aq)(L:List Bk):Prop:=L.map (fun x=>(x.e,x.q))=M.map (fun e=>(bs r e,Ar.spot r e))
variable{r:Ru}{M:List aq}{L:List Bk}
theorem Lk.length(h:Lk r M L):L.length=M.length:=by have:=congrArg List.length h;simpa using this
theorem Lk.at(h:Lk r M L){i:Nat}{e:aq}(he:M[i]?=some e):∃s,L[i]?=some ⟨bs r e,s,Ar.spot r e⟩:=by
 have h1:(L.map (fun x=>(x.e,x.q)))[i]?=(M.map (fun e=>(bs r e,Ar.spot r e)))[i]?:=by rw[h]
 rw[List.getElem?_map,List.getElem?_map,he]at h1;cases hL:L[i]? with
 | none=>rw[hL]at h1;cases h1
 | some x=>
  rw[hL]at h1;obtain⟨xe,xs,xq⟩:=x;simp only[Option.map_some,Option.some.injEq,Prod.mk.injEq]at h1;obtain⟨rfl,rfl⟩:=h1;exact⟨xs,rfl⟩
theorem Lk.ids(h:Lk r M L):L.map (·.e.id)=M.map fun e=>(e.h r.g).id:=by have:=congrArg (List.map fun x:En×Ps=>x.1.id) h;rw[List.map_map,List.map_map]at this;exact this
theorem Lk.find(h:Lk r M L)(id:List UInt8):(L.map (·.e.id)).findIdx? (· == id)=Ar.jX r.g M id:=by rw[h.ids,List.findIdx?_map];rfl
theorem Lk.put(h:Lk r M L)(e:aq)(s:Sp):Lk r (M++[e]) (L++[⟨bs r e,s,Ar.spot r e⟩]):=by unfold Lk at*;rw[List.map_append,List.map_append,h];rfl
def Alike(p:NN.Pr)(t:Tl)(r:Ru):Prop:=p.lim=r.p.lim/\p.QX=r.p.QX/\p.Q6=r.p.Q6/\p.Q2=r.p.Q2/\p.Q4=r.p.Q4/\t.g=r.g
def ie(w:World)(F:Nat->Prop)(b:Nat)(r:Ru)(M:List aq):Prop:=(∀i,F i->i<w.heap.size)/\∃I p t v mb L,fC w I b p t r.gs r.cs r.room v mb L/\Alike p t r/\Lk r M L/\∀i,jC I b v mb i->F i
section
variable{w w':World}{F G:Nat->Prop}{b:Nat}{r:Ru}{M:List aq}
theorem ie.on(h:ie w F b r M)(k:Kp G w w')(hG:∀i,F i->¬G i):ie w' F b r M:=by obtain⟨hl,I,p,t,v,mb,L,h1,h2,h3,h4⟩:=h;exact⟨fun i hi=>Nat.lt_of_lt_of_le (hl i hi) k.size,I,p,t,v,mb,L,h1.on k fun i hi=>hG i (h4 i hi),h2,h3,h4⟩
theorem ie.below(h:ie w F b r M)(hb:Bl w w'):ie w' F b r M:=h.on (G:=fun _=>False) (Kp.of hb) fun _ _ hf=>hf
theorem ie.wide(h:ie w F b r M)(hF:∀i,F i->G i)(hG:∀i,G i->i<w.heap.size):ie w G b r M:=by obtain⟨_,I,p,t,v,mb,L,h1,h2,h3,h4⟩:=h;exact⟨hG,I,p,t,v,mb,L,h1,h2,h3,fun i hi=>hF i (h4 i hi)⟩
end
theorem kP{F:Nat->Prop}{w w':World}(h:∀i,F i->i<w.heap.size)(hs:w.heap.size<=w'.heap.size):∀i,jU F w w' i->i<w'.heap.size:=fun i hi=>by
 rcases hi with hi|hi
 exact Nat.lt_of_lt_of_le (h i hi) hs;exact hi.2
variable{p:NN.Pr}{t:Tl}{r:Ru}
theorem K8(h:Alike p t r)(q:Ps)(hd:Hd)(now:Int):pg p r.gs r.cs q hd now=pg r.p r.gs r.cs q hd now:=by obtain⟨pl,pi,ps,pf,pe,pt⟩:=p;obtain⟨⟨rl,ri,rs,rf,re,rt⟩,_,_,_,_⟩:=r;obtain⟨h1,h2,h3,h4,h5,h6⟩:=h;simp only at h1 h2 h3 h4 h5;subst h1 h2 h3 h4 h5;rfl
theorem CS(h:Alike p t r)(q:Ps)(hd:Hd):bh p q hd=bh r.p q hd:=by obtain⟨pl,pi,ps,pf,pe,pt⟩:=p;obtain⟨⟨rl,ri,rs,rf,re,rt⟩,_,_,_,_⟩:=r;obtain⟨h1,h2,h3,h4,h5,h6⟩:=h;simp only at h1 h2 h3 h4 h5;subst h1 h2 h3 h4 h5;rfl
section
variable{w w':World}{b:Nat}{p:NN.Pr}{room mb:Nat}{v:Value}
theorem mG(j:Nat):(jg p room v mb)[j]?=(Cv p room v mb)[j]?:=by unfold jg;rw[List.getElem?_toArray]
theorem Be(hp:p.ok)(j:Nat):(Cv p room v mb)[83+j]?=([i_ room,v,.map (some mb)]:List Value)[j]?:=by unfold Cv;rw[List.getElem?_append_right (by rw[jj hp];omega),jj hp,show 83+j-83=j by omega]
theorem Kc(h:Has w b (jg p room v mb) 147)(hp:p.ok):w.cell? ⟨b,83,none⟩=some (i_ room):=(Has.cell h 83).trans ((mG 83).trans (Be hp 0))
theorem iC(h:Has w b (jg p room v mb) 147)(hp:p.ok):w.cell? ⟨b,84,none⟩=some v:=(Has.cell h 84).trans ((mG 84).trans (Be hp 1))
theorem E'(h:Has w b (jg p room v mb) 147)(hp:p.ok):w.cell? ⟨b,85,none⟩=some (.map (some mb)):=(Has.cell h 85).trans ((mG 85).trans (Be hp 2))
theorem nR(h:Has w b (jg p room v mb) 147):w.rangeAt b 0 (NN.dU p):=by have:=fZ (A:=[]) (cs:=NN.dU p) (C:=[i_ room,v,.map (some mb)]) (o:=0) (w:=w) (b:=b) (t:=147) h rfl;exact this
theorem A6(h:Has w b (jg p room v mb) 147)(hp:p.ok)(v':Value):Has (w.setCell ⟨b,84,none⟩ v') b (jg p room v' mb) 147:=by
 have:=Has.set (i:=84) h v'
 have e:(jg p room v mb).setIfInBounds 84 v'=jg p room v' mb:=by
  unfold jg Cv;rw[List.setIfInBounds_toArray];congr 1;rw[List.set_append_right _ _ (by rw[jj hp];omega),jj hp];rfl
 rwa[e]at this
end
section
variable{w:World}{k:Nat}{e:En}{ops:Array Oper}{rest:List Oper}{o:Oper}{a:Act}{Q:Exit->Act->World->Prop}
theorem br.on{w':World}(h:br w k e)(hb:Bl w w'):br w' k e:=cu hb h (Has.lt h)
theorem gS(w:World):br (w.alloc (.cells Tryz.zeroCells60 60)) w.heap.size iS:=Has.new (bU iS) _
theorem Nj(hgd:o.guard=none)(x:Operand)(ho:o.op=.load 60 x)(g off:Nat)(hx:a.eval x=.pointer (some ⟨g,off,none⟩))(e:En)(hg:w.rangeAt g off (gC e))(hs:(gC e).length=106)(hk:wpList Tryz.prog ops Q rest (a.put o.dst (.agg (bU e))) w):wpList Tryz.prog ops Q (o::rest) a w:=
 wpList_load_mid hgd 60 x ho g off hx (gC e) _ hg Tryz.underlying60 rfl (iN.trans (by rw[hs])) hk
theorem AG(hgd:o.guard=none)(x:Operand)(ho:o.op=.load 141 x)(g off:Nat)(hx:a.eval x=.pointer (some ⟨g,off,none⟩))(s:Sp)(hg:w.rangeAt g off (gF s))(hs:(gF s).length=38)(hk:wpList Tryz.prog ops Q rest (a.put o.dst (.agg (bq s))) w):wpList Tryz.prog ops Q (o::rest) a w:=
 wpList_load_mid hgd 141 x ho g off hx (gF s) _ hg Tryz.underlying141 rfl (ia.trans (by rw[hs])) hk
theorem iB(hgd:o.guard=none)(x y:Operand)(ho:o.op=.store 60 x y)(g:Nat)(cz:Array Value)(e':En)(hx:a.eval x=af g)(hy:a.eval y=.agg cz)(he:cz=bU e')(hs':(bU e').size=106)(hg:br w g e)(hs:(bU e).size=106)(hk:wpList Tryz.prog ops Q rest (a.put o.dst undef) (w.setRow g (bU e'))):wpList Tryz.prog ops Q (o::rest) a w:=by subst he;exact wpList_store_row hgd 60 x y ho g (bU e') hx hy 60 (bU e) (Has.out hg) (iN.trans (by rw[hs'])) (by rw[hs,hs']) (yq e') hk
theorem tY(hgd:o.guard=none)(x:Operand)(ho:o.op=.build 60 #[(2,x)])(hx:a.eval x=i_ (-1))(hk:wpList Tryz.prog ops Q rest (a.put o.dst (.agg (bU lL))) w):wpList Tryz.prog ops Q (o::rest) a w:=
 wpList_plain hgd fun _ hK=>by
  unfold Oper.wp execOp;simp only[ho,Sem.run_bind];rw[show(#[(2,x)]:Array (Nat×Operand)).map (fun(i,x)=>(i,a.eval x))=#[(2,i_ (-1))] by simp[hx],run_build w 60 _ _ My];exact hK _ _ hk
theorem Hp(hgd:o.guard=none)(x0 x1 x2 x3 x4:Operand)(ho:o.op=.build 60 #[(0,x0),(1,x1),(2,x2),(3,x3),(4,x4)])(e:En)(he:e.ok)(h0:a.eval x0=.agg (aD e.h))(h1:a.eval x1=.agg (ae e.id))(h2:a.eval x2=i_ e.up)(h3:a.eval x3=i_ e.ht)(h4:a.eval x4=.agg (NN.aa e.wk))(hk:wpList Tryz.prog ops Q rest (a.put o.dst (.agg (bU e))) w):wpList Tryz.prog ops Q (o::rest) a w:=
 wpList_plain hgd fun _ hK=>by
  unfold Oper.wp execOp;simp only[ho,Sem.run_bind];rw[show(#[(0,x0),(1,x1),(2,x2),(3,x3),(4,x4)]:Array (Nat×Operand)).map (fun(i,x)=>(i,a.eval x))=#[(0,.agg (aD e.h)),(1,.agg (ae e.id)),(2,i_ e.up),(3,i_ e.ht),(4,.agg (NN.aa e.wk))] by simp[h0,h1,h2,h3,h4],run_build w 60 _ _ (IG e he)];exact hK _ _ hk
variable{fn:Func}{p:Tmp}
theorem PZ(hf:fn.results=#[.cell p 60])(tmps:Array Value)(g:Nat)(hp:tmps.getD p undef=af g)(hg:br w g e)(hs:(bU e).size=106):(results fn tmps).run Tryz.prog w=.ok (.agg (bU e)) w:=
 results_cell_row hf tmps w g 60 (bU e) (0,0) _ hp (Has.out hg) Tryz.underlying60 rfl (iN.trans (by rw[hs]))
theorem zd{q:Tmp}(hf:fn.results=#[.cell p 60,.tmp q])(tmps:Array Value)(g:Nat)(c:Value)(hp:tmps.getD p undef=af g)(hc:tmps.getD q undef=c)(hg:br w g e)(hs:(bU e).size=106):(results fn tmps).run Tryz.prog w=.ok (.tuple #[.agg (bU e),c]) w:=by rw[results_cell_tmp hf,hp,hc];have hl:(loadVar 60 ⟨g,0,none⟩).run Tryz.prog w=.ok (.agg (bU e)) w:=run_loadVar_row w g 60 60 (bU e) (0,0) _ (Has.out hg) Tryz.underlying60 rfl (iN.trans (by rw[hs]));simp[asAddr,hl,Result.andThen]
end
theorem F_(L:List Bk)(h:∀x∈L,x.e.ok/\x.s.ok)(i j:Nat)(x:Bk)(hi:L[i]?=some x)(hj:j<144):(mu L)[i*144+j]?=(iM x.e x.s)[j]?:=by
 induction L generalizing i with
 | nil=>simp at hi
 | cons y L ih=>
  have hy:=h y (by simp);have hl:=qK hy.1 hy.2;have e:mu (y::L)=iM y.e y.s++mu L:=rfl;rw[e];cases i with
  | zero=>
   obtain rfl:y=x:=by simpa using hi
   rw[List.getElem?_append_left (by omega)];simp
  | succ i=>
   rw[List.getElem?_append_right (by omega),hl,show(i+1)*144+j-144=i*144+j by omega];exact ih (fun z hz=>h z (by simp[hz])) i (by simpa using hi)
section
variable{w:World}{I:Nat->Prop}{b:Nat}{p:NN.Pr}{t:Tl}{gs:List Gt}{cs:List Ck}{room:Nat}{v:Value}{mb:Nat}{L:List Bk}
theorem fC.range(h:fC w I b p t gs cs room v mb L){i:Nat}{x:Bk}(hi:L[i]?=some x):∃g c,v=.slice (aX g) L.length c/\g<w.heap.size/\w.rangeAt g (i*144) (iM x.e x.s):=by
 have hlt:=(List.getElem?_eq_some_iff.1 hi).1;have hx:=h.b_ x (List.mem_of_getElem? hi);rcases h.row.2 with⟨_,h0⟩|⟨g,c,cur,rfl,h1,h2,h3,h4,h5,h6⟩
 omega
 ·refine⟨g,c,rfl,(Array.getElem?_eq_some_iff.1 h2).1,fun j u hu=>?_⟩
  have hj:j<144:=by
   have:=(List.getElem?_eq_some_iff.1 hu).1;rwa[qK hx.1 hx.2]at this
  rw[<-F_ L h.b_ i j x hi hj,<-h6]at hu;have hH:Has w g cur 143:=h2;rw[hH.cell,<-hu,List.getElem?_take_of_lt (by omega),Array.getElem?_toList]
theorem fC.slice(h:fC w I b p t gs cs room v mb L):∃a c,v=.slice a L.length c:=by
 rcases h.row.2 with⟨rfl,h0⟩|⟨g,c,cur,rfl,_⟩
 exact⟨none,0,by rw[h0]⟩;exact⟨_,c,rfl⟩
variable{g o:Nat}{e:En}{s:Sp}
theorem wu{w:World}(hr:w.rangeAt g o (iM e s)):w.rangeAt g o (gC e):=by have:=z8 (A:=[]) (cs:=gC e) (C:=gF s) (k:=0) (w:=w) (b:=g) (o:=o) hr rfl;exact this
theorem BW{w:World}(he:e.ok)(hr:w.rangeAt g o (iM e s)):w.rangeAt g (o+106) (gF s):=
 z8 (A:=gC e) (cs:=gF s) (C:=[]) (k:=106) (w:=w) (b:=g) (o:=o) (by rw[List.append_nil];exact hr) (mh he)
theorem BA{w:World}(he:e.ok)(hr:w.rangeAt g o (gC e)):w.rangeAt g (o+102) (NN.aa e.wk).toList:=
 z8 (A:=bp e.h++(Lib.byteCells e.id++[i_ e.up,i_ e.ht])) (cs:=(NN.aa e.wk).toList) (C:=[]) (k:=102) (w:=w) (b:=g) (o:=o) (by rw[List.append_nil];unfold gC at hr;simpa using hr) (by simp[ek he.1,gV he.2])
end
theorem Pm{C:World->Prop}{K:Act->Prop}{o:Oper}{a:Act}(x y:Operand)(ho:o.op=.lookup 145 x y true)(m:Value)(hx:a.eval x=m)(k:Value)(hy:a.eval y=k)(r:Value)(hC:∀w',C w'->(Instr.lookup 145 m k true).run Tryz.prog w'=.ok r w')(hk:K (a.put o.dst r)):o.quiet Tryz.prog a C K:=
 ⟨_,fun w' hw'=>by
  unfold Oper.quietAt
  have this:(execOp a.eval o).run Tryz.prog w'=.ok (.value r) w':=by
   unfold execOp;simp only[ho,hx,hy,Sem.run_bind,hC w' hw',Result.andThen_ok];rfl
  rw[this];exact⟨rfl,rfl⟩,hk⟩
variable{w:World}
theorem DI{b:Nat}{l:List UInt8}{t:TypeId}(h:Has w b (ae l) t):w.rangeAt b 0 (Lib.byteCells l):=fun j u hu=>by
 rw[Nat.zero_add,h.cell j,<-Array.getElem?_toList,iF];exact hu
theorem jh:∀w',(∃r:Regrown,w'=Sort.grow (redrawn w r.d) r.os)->Bl w w':=fun w' ⟨r,e⟩=>by rw[e];exact below_regrown w r.d r.os
theorem xv(k:Int)(w:World):ak 103 #[.pointer none,i_ k] w (.bool false):=by
 have hB:=Below.refl w.heap.size w;go_enter Tryz.func103,Tryz.ntmps103;go_wp2_with fail
 go_ret;exact⟨rfl,hB⟩
theorem El(b n:Nat)(p:Option Addr)(c:Nat)(k:Int)(g1 g2:Bool)(h1:decide ((0:Int)<=k)=g1)(h2:decide (k<(n:Int))=g2)(w:World)(hv:w.cell? ⟨b,84,none⟩=some (.slice p n c)):ak 103 #[af b,i_ k] w (.bool (g1&&g2)):=by
 have hB:=Below.refl w.heap.size w;cases g1
 ·go_enter Tryz.func103,Tryz.ntmps103;go_wp2_with fail
  go_ret;exact⟨rfl,hB⟩
 ·go_enter Tryz.func103,Tryz.ntmps103;go_wp2_with fail
  go_ret;exact⟨by cases g2<;>rfl,hB⟩
theorem len_nil(w:World):ak 92 #[.pointer none] w (i_ 0):=by
 have hB:=Below.refl w.heap.size w;go_enter Tryz.func92,Tryz.ntmps92;go_wp2_with fail
 go_ret;exact⟨rfl,hB⟩
theorem Eu(b n:Nat)(p:Option Addr)(c:Nat)(w:World)(hv:w.cell? ⟨b,84,none⟩=some (.slice p n c)):ak 92 #[af b] w (i_ n):=by
 have hB:=Below.refl w.heap.size w;go_enter Tryz.func92,Tryz.ntmps92;go_wp2_with fail
 go_ret;exact⟨rfl,hB⟩
theorem yW(b mb:Nat)(id:List UInt8)(hid:id.length=32)(w:World)(c:Int)(g:Bool)(z:Int)(hz:z=if g then c else -1)(hv:w.cell? ⟨b,85,none⟩=some (.map (some mb)))(hL:∀w',Bl w w'->(Instr.lookup 145 (.map (some mb)) (.agg (ae id)) true).run Tryz.prog w'=.ok (.tuple #[i_ c,.bool g]) w'):ak 120 #[af b,.agg (ae id)] w (i_ z):=by
 go_enter Tryz.func120,Tryz.ntmps120;go_upto_region 1 with fail
 generalize hw0:World.alloc _ _=v0;have hB:Bl w v0:=de hw0;have hI:Has v0 w.heap.size (ae id) 28:=by rw[<-hw0];exact Has.new _ _
 clear hw0;have hv0:=(hB.cell (p:=⟨b,85,none⟩) (block_lt_of_cell hv)).trans hv;have q1:∀d os,(Sort.grow (redrawn v0 d) os).cell? ⟨b,85,none⟩=some (.map (some mb)):=cell_regrown hv0;obtain⟨bI,Sh⟩:∃x,x=w.heap.size:=⟨_,rfl⟩;rw[<-Sh]at hI|-;clear Sh;have qI:=gd (DI hI) (by rw[Lib.byteCells_length];omega);have s1:=gV hid;have hL0:∀w',(∃r:Regrown,w'=Sort.grow (redrawn v0 r.d) r.os)->(Instr.lookup 145 (.map (some mb)) (.agg (ae id)) true).run Tryz.prog w'=.ok (.tuple #[i_ c,.bool g]) w':=fun w' h=>hL w' (hB.trans ((jh w' h).mono hB.size))
 go_upto_region 3 with fail
 refine wp_region_quiet_below (by kernel_rfl) (by kernel_rfl) ?_
 repeat(first
  | (go_big_quiet_want;(with_reducible first|refine mQ _ rfl bI 0 rfl id s1 qI ?_|refine Pm _ _ rfl (.map (some mb)) rfl (.agg (ae id)) rfl _ hL0 ?_);(simp only[Act.put,List.setIfInBounds_toArray,List.set_cons_zero,List.set_cons_succ]);go_big_quiet_on)
  | go_big_quiet_step (fail))
 refine wpQuiet_nil ?_;intro v1 hw';have hB1:=hB.trans ((jh v1 hw').mono hB.size);cases g
 ·subst hz;go_wp2_with fail
  go_ret;exact⟨rfl,hB1⟩
 ·subst hz;go_wp2_with fail
  go_ret;exact⟨rfl,hB1⟩
theorem qj(p:Value)(k:Int)(w:World)(KH:aO w 103 #[p,i_ k] (.bool false)):ak 65 #[p,i_ k] w (.tuple #[.agg (bU lL),.bool false]):=by
 have z0:=dc di;have z1:=dc fB;go_enter Tryz.func65,Tryz.ntmps65;go_upto_region 1 with fail
 generalize hw0:World.alloc _ _=v0;have hB:Bl w v0:=de hw0;have hR:br v0 w.heap.size iS:=by rw[<-hw0];exact gS w
 clear hw0;obtain⟨bR,hbR⟩:∃x,x=w.heap.size:=⟨_,rfl⟩;rw[<-hbR]at hR|-;have SG:Hid (w.heap.size<=bR):=h_ (by omega);clear hbR;go_wp2_with fail
 refine ar (KH.out _ hB) fun v1 hb=>?_;replace hR:=hR.on hb;replace hB:=ah hB hb;clear hb
 go_wp2_with (first
  | (with_reducible refine tY rfl _ rfl rfl ?_)
  | (with_reducible refine iB rfl _ _ rfl _ _ lL rfl rfl rfl z1 hR z0 ?_))
 refine bodyPost_ret (zd Tryz.results65 _ _ _ rfl rfl (Has.row hR _) z1) rfl ⟨rfl,below_setRow hB SG.out _⟩
theorem Kd(b g n c k:Nat)(e:En)(he:e.ok)(hk:k<n)(w:World)(hv:w.cell? ⟨b,84,none⟩=some (.slice (aX g) n c))(hr:w.rangeAt g (k*144) (gC e))(KH:aO w 103 #[af b,i_ k] (.bool true)):ak 65 #[af b,i_ k] w (.tuple #[.agg (bU e),.bool true]):=by
 have z0:=dc di;have z1:=dc he;have z2:=mh he;go_enter Tryz.func65,Tryz.ntmps65;go_upto_region 1 with fail
 generalize hw0:World.alloc _ _=v0;have hB:Bl w v0:=de hw0;have hR:br v0 w.heap.size iS:=by rw[<-hw0];exact gS w
 clear hw0;obtain⟨bR,hbR⟩:∃x,x=w.heap.size:=⟨_,rfl⟩;rw[<-hbR]at hR|-;have SG:Hid (w.heap.size<=bR):=h_ (by omega);clear hbR;go_wp2_with fail
 refine(KH.out _ hB).mono ?_;rintro r v1 ⟨rfl,hb⟩;replace hR:=hR.on hb;replace hB:=ah hB hb;clear hb;have hv1:=(hB.cell (p:=⟨b,84,none⟩) (block_lt_of_cell hv)).trans hv;have hr1:v1.rangeAt g (k*144) (gC e):=iv hr hB (by omega);clear hv hr
 go_wp2_with (first
  | (with_reducible refine Nj rfl _ rfl g (k*144) rfl e hr1 z2 ?_)
  | (with_reducible refine iB rfl _ _ rfl _ _ e rfl rfl rfl z1 hR z0 ?_))
 refine bodyPost_ret (zd Tryz.results65 _ _ _ rfl rfl (Has.row hR _) z1) rfl ⟨rfl,below_setRow hB SG.out _⟩
def Ev:Option Nat->Int
 | some i=>(i:Int)
 | none=>-1
section
variable{w:World}{F:Nat->Prop}{b:Nat}{r:Ru}{M:List aq}
theorem zN(h:ie w F b r M):ak 92 #[af b] w (i_ (M.length:Nat)):=by obtain⟨_,I,p,t,v,mb,L,h1,h2,h3,h4⟩:=h;obtain⟨a,c,rfl⟩:=h1.slice;have:=Eu b L.length a c w (iC h1.has h1.Rf);rwa[h3.length]at this
theorem uh(h:ie w F b r M)(id:List UInt8)(hid:id.length=32):ak 120 #[af b,.agg (ae id)] w (i_ (Ev (Ar.jX r.g M id))):=by
 obtain⟨_,I,p,t,v,mb,L,h1,h2,h3,h4⟩:=h;have hf:=h3.find id;obtain⟨c,hc,hi⟩:=h1.map.look hid;rw[hf]at hc hi;refine yW b mb id hid w c (Ar.jX r.g M id).isSome _ ?_ (E' h1.has h1.Rf) fun w' hb=>?_
 ·cases hq:Ar.jX r.g M id with
  | none=>rfl
  | some i=>exact(hi i hq).symm
 exact hc w' (hb.block mb h1.map.lt)
theorem jS(h:ie w F b r M){i:Nat}{e:aq}(he:M[i]?=some e):(bs r e).ok:=by obtain⟨_,I,p,t,v,mb,L,h1,h2,h3,h4⟩:=h;obtain⟨s,hs⟩:=h3.at he;exact(h1.b_ _ (List.mem_of_getElem? hs)).1
theorem kB(h:ie w F b r M)(k:Int)(g:Bool)(hg:(decide (0<=k)&&decide (k<(M.length:Nat)))=g):ak 103 #[af b,i_ k] w (.bool g):=by obtain⟨_,I,p,t,v,mb,L,h1,h2,h3,h4⟩:=h;obtain⟨a,c,rfl⟩:=h1.slice;have:=El b L.length a c k _ _ rfl rfl w (iC h1.has h1.Rf);rwa[h3.length,hg]at this
theorem Ez(h:ie w F b r M){i:Nat}{e:aq}(he:M[i]?=some e)(k:Int)(hk:k=(i:Nat)):ak 65 #[af b,i_ k] w (.tuple #[.agg (bU (bs r e)),.bool true]):=by
 subst hk;have hi:=(List.getElem?_eq_some_iff.1 he).1;have KH:aO w 103 #[af b,i_ (i:Nat)] (.bool true):=h_ fun w' hb=>kB (h.below hb) _ true (by rw[Bool.and_eq_true];exact⟨decide_eq_true (by omega),decide_eq_true (by omega)⟩)
 have ho:=jS h he;obtain⟨_,I,p,t,v,mb,L,h1,h2,h3,h4⟩:=h;obtain⟨s,hs⟩:=h3.at he;obtain⟨g,c,rfl,hg,hr⟩:=h1.range hs;exact Kd b g L.length c i (bs r e) ho (by rw[h3.length];exact hi) w (iC h1.has h1.Rf) (wu hr) KH
theorem B4(h:ie w F b r M)(k:Int)(hk:¬(0<=k/\k<(M.length:Nat))):ak 65 #[af b,i_ k] w (.tuple #[.agg (bU lL),.bool false]):=
 qj _ k w (h_ fun w' hb=>kB (h.below hb) k false (by
  rw[Bool.and_eq_false_iff];by_cases h0:0<=k;exact .inr (decide_eq_false (by omega));exact .inl (decide_eq_false h0)))
end
theorem AX(k:Int)(w:World):ak 65 #[.pointer none,i_ k] w (.tuple #[.agg (bU lL),.bool false]):=
 qj _ k w (h_ fun w' _=>xv k w')
open NN.Q8
def Ph(k:Nat)(Pre Post:World->Prop)(l:Array Bool)(w:World):Prop:=(l.getD k false=false->Pre w)/\(l.getD k false=true->Post w)
section
variable{k i:Nat}{Pre Post:World->Prop}{l:Array Bool}{w w':World}
theorem Ph.keep(h:Ph k Pre Post l w)(hi:i<l.size)(hk:i≠k:=by decide):Ph k Pre Post (l.setIfInBounds i true) w:=by unfold Ph at*;rwa[gB l i k hi hk]
theorem Ph.pre(h:Ph k Pre Post l w)(hl:(l.setIfInBounds i true).getD k false=false)(hi:i<l.size)(hk:i≠k):Pre w:=h.1 (by rw[<-gB l i k hi hk];exact hl)
theorem Ph.made(hl:(l.setIfInBounds i true).getD k false=false)(hp:Pre w'):Ph k Pre Post (l.setIfInBounds i true) w':=⟨fun _=>hp,fun h=>by rw[hl]at h;cases h⟩
theorem Ph.last(hi:k<l.size)(hp:Post w'):Ph k Pre Post (l.setIfInBounds k true) w':=⟨fun h=>(by rw[gw _ _ _ hi,if_pos rfl]at h;cases h),fun _=>hp⟩
theorem Ph.zero(hl:∀i,l.getD i false=false)(hp:Pre w):Ph k Pre Post l w:=⟨fun _=>hp,fun h=>by rw[hl]at h;cases h⟩
end
def gU(k s:Nat)(Pre:World->Prop)(Post:Value->World->Prop)(l:Array Bool)(a:Act)(w:World):Prop:=(l.getD k false=false->Pre w)/\(l.getD k false=true->Post (a.eval (.tmp s)) w)
section
variable{k i s:Nat}{Pre:World->Prop}{Post:Value->World->Prop}{l:Array Bool}{a:Act}{w w':World}
theorem gU.keep(h:gU k s Pre Post l a w)(hi:i<l.size)(hk:i≠k:=by decide){d:Option Tmp}{u:Value}(hd:d≠some s:=by decide):gU k s Pre Post (l.setIfInBounds i true) (a.put d u) w:=by unfold gU at*;rwa[gB l i k hi hk,Act.eval_put (fun d' hdd e=>hd (by rw[hdd];cases e;rfl))]
theorem gU.pre(h:gU k s Pre Post l a w)(hl:(l.setIfInBounds i true).getD k false=false)(hi:i<l.size)(hk:i≠k):Pre w:=h.1 (by rw[<-gB l i k hi hk];exact hl)
theorem gU.made{a':Act}(hl:(l.setIfInBounds i true).getD k false=false)(hp:Pre w'):gU k s Pre Post (l.setIfInBounds i true) a' w':=⟨fun _=>hp,fun h=>by rw[hl]at h;cases h⟩
theorem gU.last(u:Value)(hi:k<l.size)(hp:Post (a.eval (.tmp s)) w'):gU k s Pre Post (l.setIfInBounds k true) (a.put none u) w':=⟨fun h=>(by rw[gw _ _ _ hi,if_pos rfl]at h;cases h),fun _=>hp⟩
theorem gU.zero(hl:∀i,l.getD i false=false)(hp:Pre w):gU k s Pre Post l a w:=⟨fun _=>hp,fun h=>by rw[hl]at h;cases h⟩
end
section
variable{ρ:Operand->Value}{o:Oper}{w:World}
variable{x y:Operand}{p:Addr}
theorem da(ho:o.op=.nilCheck x)(hx:ρ x=.pointer (some p)):(execOp ρ o).run Tryz.prog w=.ok (.value (.pointer (some p))) w:=by unfold execOp;simp only[ho,hx];rfl
theorem ug(w:World)(g:Nat):(Instr.fieldAt 147 (af g) 0).run Tryz.prog w=.ok (af g) w:=by kernel_rfl
theorem kV(w:World)(g:Nat):(Instr.fieldAt 147 (af g) 2).run Tryz.prog w=.ok (.pointer (some ⟨g,84,none⟩)) w:=by kernel_rfl
theorem sF(w:World)(g:Nat):(Instr.fieldAt 147 (af g) 3).run Tryz.prog w=.ok (.pointer (some ⟨g,85,none⟩)) w:=by kernel_rfl
theorem uN(w:World)(g:Nat):(Instr.fieldAt 60 (af g) 1).run Tryz.prog w=.ok (.pointer (some ⟨g,68,none⟩)) w:=by kernel_rfl
variable{T:TypeId}{n g m c:Nat}
theorem dA(ho:o.op=.fieldAddr T x n)(hx:ρ x=af g)(hf:(Instr.fieldAt T (af g) n).run Tryz.prog w=.ok (.pointer (some ⟨g,m,none⟩)) w):(execOp ρ o).run Tryz.prog w=.ok (.value (.pointer (some ⟨g,m,none⟩))) w:=by unfold execOp;simp only[ho,hx,Sem.run_bind,hf,Result.andThen_ok];rfl
variable{a:Option Addr}
theorem F3(h:w.cell? p=some (.slice a n c)):(loadVar 144 p).run Tryz.prog w=.ok (.slice a n c) w:=by go_simp
theorem GP(ho:o.op=.load 144 x)(hx:ρ x=.pointer (some p))(hc:w.cell? p=some (.slice a n c)):(execOp ρ o).run Tryz.prog w=.ok (.value (.slice a n c)) w:=by unfold execOp;simp only[ho,hx,Instr.loadAt,Instr.sureAddr,Sem.run_bind,Sem.run_pure,Result.andThen_ok,F3 hc]
variable{u v:Value}
theorem Kz(hf:w.frozen? p=false)(hc:w.cell? p=some u):(storeVar 144 p (.slice a n c)).run Tryz.prog w=.ok () (w.setCell p (.slice a n c)):=by go_simp
theorem PM(ho:o.op=.store 144 x y)(hx:ρ x=.pointer (some p))(hy:ρ y=.slice a n c)(hf:w.frozen? p=false)(hc:w.cell? p=some u):(execOp ρ o).run Tryz.prog w=.ok .skip (w.setCell p (.slice a n c)):=by unfold execOp;simp only[ho,hx,hy,Instr.storeAt,Instr.sureAddr,Sem.run_bind,Sem.run_pure,Result.andThen_ok,Kz hf hc]
theorem FB{m:Option Nat}(h:w.cell? p=some (.map m)):(loadVar 145 p).run Tryz.prog w=.ok (.map m) w:=by go_simp
theorem O6{m:Option Nat}(ho:o.op=.load 145 x)(hx:ρ x=.pointer (some p))(hc:w.cell? p=some (.map m)):(execOp ρ o).run Tryz.prog w=.ok (.value (.map m)) w:=by unfold execOp;simp only[ho,hx,Instr.loadAt,Instr.sureAddr,Sem.run_bind,Sem.run_pure,Result.andThen_ok,FB hc]
variable{e:En}
theorem Ik(ho:o.op=.load 60 x)(hx:ρ x=af g)(hg:w.rangeAt g 0 (gC e))(hs:(gC e).length=106):(execOp ρ o).run Tryz.prog w=.ok (.value (.agg (bU e))) w:=
 gT 60 ho hx Tryz.underlying60 rfl (iN.trans (by rw[hs])) hg
variable{s:Sp}
theorem CR(ho:o.op=.load 141 x)(hx:ρ x=af g)(hg:w.rangeAt g 0 (gF s))(hs:(gF s).length=38):(execOp ρ o).run Tryz.prog w=.ok (.value (.agg (bq s))) w:=
 gT 141 ho hx Tryz.underlying141 rfl (ia.trans (by rw[hs])) hg
theorem LP{off:Nat}{l:List UInt8}(ho:o.op=.load 28 x)(hx:ρ x=.pointer (some ⟨g,off,none⟩))(hg:w.rangeAt g off (Lib.byteCells l))(hs:l.length=32):(execOp ρ o).run Tryz.prog w=.ok (.value (.agg (ae l))) w:=by have:=gT (P:=Tryz.prog) (ρ:=ρ) (o:=o) (w:=w) 28 ho hx (cs:=Lib.byteCells l) Tryz.underlying28 rfl (iD.trans (by rw[gV hs])) hg;rw[this,<-iF]
theorem zJ{p:NN.Pr}(ho:o.op=.load 32 x)(hx:ρ x=af g)(hg:w.rangeAt g 0 (NN.dU p))(hs:(NN.dU p).length=83):(execOp ρ o).run Tryz.prog w=.ok (.value (.agg (NN.aE p))) w:=
 gT 32 ho hx Tryz.underlying32 rfl (NN.ft.trans (by rw[hs])) hg
theorem LY(ho:o.op=.build 143 #[(0,x),(1,y)])(hx:ρ x=.agg (bU e))(hy:ρ y=.agg (bq s))(he:e.ok)(hs:s.ok):(execOp ρ o).run Tryz.prog w=.ok (.value (.agg (iM e s).toArray)) w:=by unfold execOp;simp only[ho,Sem.run_bind];rw[show(#[(0,x),(1,y)]:Array (Nat×Operand)).map (fun(i,x)=>(i,ρ x))=#[(0,.agg (bU e)),(1,.agg (bq s))] by simp[hx,hy],run_build w 143 _ _ (OP e s he hs)];rfl
theorem xu:∃i z,Tryz.prog.info? 143=some i/\i.zero=some z/\i.size=144/\i.bytes=272/\z.cells.size=144:=qq (by kernel_rfl) (by kernel_rfl) (by kernel_rfl)
theorem ED(cs:Array Value)(h:cs.size=144)(w:World):(Instr.buildSlice 144 1 #[(0,.agg cs)]).run Tryz.prog w=.ok (.slice (some ⟨w.heap.size,0,none⟩) 1 1) (w.alloc (.cells cs 143)):=by obtain⟨i,z,hi,hz,h1,h2,h3⟩:=xu;refine run_buildSlice w 144 143 1 _ cs i z Tryz.underlying144 hi hz (by rw[h1];decide) (by rw[h1];decide) ?_;rw[h1];exact vt 144 _ cs (by simp) h
theorem Pn{cs:Array Value}(ho:o.op=.buildSlice 144 1 #[(0,x)])(hx:ρ x=.agg cs)(h:cs.size=144):(execOp ρ o).run Tryz.prog w=.ok (.value (.slice (some ⟨w.heap.size,0,none⟩) 1 1)) (w.alloc (.cells cs 143)):=
 jF ho hx (ED cs h w)
theorem OW{xs:List Value}(he:e.ok)(hs:s.ok)(hx:ρ x=v)(hown:w.ownsRow 0 143 144 v n xs)(hy:ρ y=.slice (aX g) 1 1)(hg:Has w g (iM e s).toArray 143)(hn:n<=1000):∃v' w',(∀o:Oper,o.op=.call { callee:=.builtin .append,args:=#[x,y],argTypes:=#[144,144] }->o.type=144->(execOp ρ o).run Tryz.prog w=.ok (.value v') w')/\w'.ownsRow 0 143 144 v' (n+1) (xs++iM e s)/\w.grownBy w' v.ownBlock/\(v'.ownBlock=v.ownBlock\/v'.ownBlock=some w.heap.size):=by
 obtain⟨i,z,hi,hz,h1,h2,h3⟩:=xu
 obtain⟨v',w',hr,g1,g2,_,g4⟩:=run_append_own_at (P:=Tryz.prog) w 0 144 144 143 i z 144 272 Tryz.underlying144 hi hz h1 h2 h3 (by decide) v n xs hown ⟨g,0,none⟩ 1 1 (iM e s) (by rw[qK he hs]) (fun j u hj=>by
  rw[Addr.add_lit,Nat.zero_add,hg.cell j,List.getElem?_toArray];exact hj) (tE e s) (by unfold maxLen;omega) (by omega) (Nat.zero_le _)
 refine⟨v',w',fun o ho hty=>?_,g1,g2,g4⟩;unfold execOp;simp only[ho,hty,resolve,invoke,builtin,Sem.run_bind,Sem.run_pure,Result.andThen_ok,List.map_toArray,List.map_cons,List.map_nil,hx,hy,hr]
theorem Jt{z:Operand}{b:Nat}{k:Value}{w':World}(ho:o.op=.mapUpdate 145 x y z)(hx:ρ x=.map (some b))(hy:ρ y=k)(hz:ρ z=v)(hr:(Instr.mapUpdate 145 (.map (some b)) k v).run Tryz.prog w=.ok () w'):(execOp ρ o).run Tryz.prog w=.ok .skip w':=by unfold execOp;simp only[ho,hx,hy,hz,Sem.run_bind,Sem.run_pure,Result.andThen_ok,hr]
theorem gh{j:Nat}(ho:o.op=.indexAddr T x y)(hx:ρ x=.slice (aX g) n c)(hy:ρ y=i_ j)(hf:(Instr.indexAt T (.slice (aX g) n c) (i_ j)).run Tryz.prog w=.ok (.pointer (some ⟨g,m,none⟩)) w):(execOp ρ o).run Tryz.prog w=.ok (.value (.pointer (some ⟨g,m,none⟩))) w:=by unfold execOp;simp only[ho,hx,hy,Sem.run_bind,hf,Result.andThen_ok];rfl
theorem A7(w:World)(g j n c:Nat)(hj:j<n):(Instr.indexAt 144 (.slice (aX g) n c) (i_ j)).run Tryz.prog w=.ok (.pointer (some ⟨g,j*144,none⟩)) w:=by go_simp
end
end An
namespace An
open Mem Sc
def z7(p:NN.Pr)(vH vI vA vW:Value)(room:Nat):List Value:=NN.dU p++[vH,vI,vA,vW,i_ room]
def iE(p:NN.Pr)(vH vI vA vW:Value)(room:Nat):Array Value:=(z7 p vH vI vA vW room).toArray
theorem Fz(parts:List (Nat×Value)):Tryz.prog.built 72 parts=Instr.fill ((#[(0,83),(83,1),(84,1),(85,1),(86,1),(87,1)]:Array (Nat×Nat))[·]?) (NN.dU n7++[Value.slice none 0 0,Value.slice none 0 0,Value.slice none 0 0,Value.slice none 0 0,Value.int .i64 0]).toArray parts:=by kernel_rfl
theorem rN{UX:Nat->Option (Nat×Nat)}(k off:Nat)(A:List Value)(x y:Value)(B:List Value)(parts:List (Nat×Value))(ho:UX k=some (off,1))(hA:A.length=off)(hy:y.cells=#[y]):Instr.fill UX (A++(x::B)).toArray ((k,y)::parts)=Instr.fill UX ((A++[y])++B).toArray parts:=by rw[show A++(x::B)=A++([x]++B) by simp,gJ (off:=off) (n:=1) A [x] B [y] ho hA rfl hy rfl];simp
theorem EE(p:NN.Pr)(h:p.ok)(a1 a2 a3 a4:Option Addr)(n1 n2 n3 n4 c1 c2 c3 c4 room:Nat):Tryz.prog.built 72 [(0,.agg (NN.aE p)),(1,.slice a1 n1 c1),(2,.slice a2 n2 c2),(3,.slice a3 n3 c3),(4,.slice a4 n4 c4),(5,Value.int .i64 (room:Int))]=some (iE p (.slice a1 n1 c1) (.slice a2 n2 c2) (.slice a3 n3 c3) (.slice a4 n4 c4) room):=by
 rw[Fz];have h0:=jj h;unfold iE z7
 rw[show NN.dU n7++[Value.slice none 0 0,Value.slice none 0 0,Value.slice none 0 0,Value.slice none 0 0,Value.int .i64 0]=[]++(NN.dU n7++[Value.slice none 0 0,Value.slice none 0 0,Value.slice none 0 0,Value.slice none 0 0,Value.int .i64 0])from rfl,
  gJ (off:=0) (n:=83) [] (NN.dU n7) _ (NN.dU p) rfl rfl (jj nw) rfl h0,List.nil_append,
  rN 1 83 (NN.dU p) _ _ _ _ rfl h0 rfl,rN 2 84 _ _ _ _ _ rfl (by simp[h0]) rfl,rN 3 85 _ _ _ _ _ rfl (by simp[h0]) rfl,rN 4 86 _ _ _ _ _ rfl (by simp[h0]) rfl,rN 5 87 _ _ _ _ _ rfl (by simp[h0]) rfl,sJ]
 simp
structure vo (w:World) (I:Nat->Prop) (b:Nat) (p:NN.Pr) (t:Tl) (gs:List Gt) (cs:List Ck) (room:Nat) (vH vI vA vW:Value) (hs:List Hd) (ids:List (List UInt8)) (up:List Int) (ws:List Nat):Prop where
 has:Has w b (iE p vH vI vA vW room) 72
 Rf:p.ok
 one:p.one
 tt:p.tl=t.C
 tok:t.ok
 gn:t.gn=gs.length
 cn:t.cn=cs.length
 Si:w.ownsRow 0 30 68 vH hs.length (hs.flatMap bp)
 SI:w.ownsRow 0 28 32 vI ids.length (ids.flatMap Lib.byteCells)
 Sj:w.ownsRow 0 3 1 vA up.length (up.map (Value.int .i64))
 SJ:w.ownsRow 0 26 4 vW ws.length (ws.flatMap fun z=>(NN.aa z).toList)
 Q':fT I (fun w=>aJ w t.ga gs) w
 checks:fT I (fun w=>az w t.ca cs) w
 nb:¬I b
 nH:∀k,vH.ownBlock=some k->¬I k
 nI:∀k,vI.ownBlock=some k->¬I k
 nA:∀k,vA.ownBlock=some k->¬I k
 nW:∀k,vW.ownBlock=some k->¬I k
 lt:∀i,I i->i<w.heap.size
 b_:∀h∈hs,h.ok
 name:∀l∈ids,l.length=32
 small:∀z∈ws,z<NN.Nm.ai
def xj(I:Nat->Prop)(b:Nat)(vH vI vA vW:Value):Nat->Prop:=fun i=>I i\/i=b\/vH.ownBlock=some i\/vI.ownBlock=some i\/vA.ownBlock=some i\/vW.ownBlock=some i
section
variable{w w':World}{I G:Nat->Prop}{b:Nat}{p:NN.Pr}{t:Tl}{gs:List Gt}{cs:List Ck}{room:Nat}{vH vI vA vW:Value}{hs:List Hd}{ids:List (List UInt8)}{up:List Int}{ws:List Nat}
theorem vo.on(h:vo w I b p t gs cs room vH vI vA vW hs ids up ws)(k:Kp G w w')(hG:∀i,xj I b vH vI vA vW i->¬G i):vo w' I b p t gs cs room vH vI vA vW hs ids up ws:=
 { h with
  has:=k.has h.has (hG b (.inr (.inl rfl)))
  Si:=ay h.Si k fun i hi=>hG i (.inr (.inr (.inl hi)))
  SI:=ay h.SI k fun i hi=>hG i (.inr (.inr (.inr (.inl hi))))
  Sj:=ay h.Sj k fun i hi=>hG i (.inr (.inr (.inr (.inr (.inl hi)))))
  SJ:=ay h.SJ k fun i hi=>hG i (.inr (.inr (.inr (.inr (.inr hi)))))
  Q':=h.Q'.on k fun i hi=>hG i (.inl hi)
  checks:=h.checks.on k fun i hi=>hG i (.inl hi)
  lt:=fun i hi=>Nat.lt_of_lt_of_le (h.lt i hi) k.size }
theorem vo.below(h:vo w I b p t gs cs room vH vI vA vW hs ids up ws)(hb:Bl w w'):vo w' I b p t gs cs room vH vI vA vW hs ids up ws:=h.on (G:=fun _=>False) (Kp.of hb) fun _ _ hf=>hf
theorem vo.RI(h:vo w I b p t gs cs room vH vI vA vW hs ids up ws){i:Nat}(hi:xj I b vH vI vA vW i):i<w.heap.size:=by
 rcases hi with hi|rfl|hi|hi|hi|hi
 exact h.lt i hi;exact h.has.lt;exact(cQ h.Si hi).1;exact(cQ h.SI hi).1;exact(cQ h.Sj hi).1;exact(cQ h.SJ hi).1
theorem cC{w:World}{i j:Nat}{xs ys:Array Value}{t u:TypeId}(hi:w.heap[i]?=some (.cells xs t (0,0)))(hj:w.heap[j]?=some (.cells ys u (0,0)))(h:t≠u):i≠j:=by
 rintro rfl;rw[hi]at hj;injection hj with hj
 injection hj with _ hj
 exact h hj
end
open Ar (aq Ru aB)
theorem NP(a:Option Addr)(n c:Nat)(L:List Gt)(hn:n=L.length)(hl:n<=1000)(w:World)(hA:aJ w a L):aK 171 #[.slice a n c] w fun e w'=>∃a' c',e=.returned (.slice a' n c')/\(aJ w' a' L/\(0<L.length->∀ad,a'=some ad->w.heap.size<=ad.block))/\Bl w w':=by
 cases a with
 | none=>
  have h0:n=0:=by
   by_cases h:0<L.length;obtain⟨_,_,e,_⟩:=hA h;cases e;omega
  refine(Od n c w).mono ?_;rintro e w' ⟨rfl,rfl⟩;exact⟨none,0,by rw[h0],⟨fun h=>absurd h (by omega),fun _ ad e=>by cases e⟩,bg⟩
 | some ad=>
  by_cases h0:0<L.length;obtain⟨ab,ao,e,hlt,hc⟩:=hA h0;cases e;have hlen:∀x∈L,(jW x).length=2:=(fun _ _=>rfl);refine(E8 ⟨ab,ao,none⟩ n c L hn hl w (fun j u hj=>?_)).mono ?_;rw[Addr.add_lit];refine Az jW 2 (by decide) L hlen (fun i x hi=>?_) j u hj;obtain⟨h1,h2⟩:=List.getElem?_eq_some_iff.1 hi;rw[<-h2];exact hc i h1;rintro e w' ⟨v',rfl,ho,hb⟩;obtain⟨a',c',rfl,_,h3⟩:=vm jW 2 L hlen ho hn;obtain⟨g,rfl,h4,h5,h6⟩:=h3 (by omega);exact⟨_,c',rfl,⟨fun _=>⟨g,0,rfl,h5,fun i hi=>by rw[Nat.zero_add];exact h6 i _ (List.getElem?_eq_getElem hi)⟩,fun _ ad e=>by cases e;exact h4⟩,hb⟩;obtain rfl:L=[]:=List.eq_nil_of_length_eq_zero (by omega);refine(E8 ad n c [] hn hl w (fun j u hj=>by simp at hj)).mono ?_;rintro e w' ⟨v',rfl,ho,hb⟩;obtain⟨a',c',rfl,_⟩:=vm jW 2 [] (fun x hx=>by cases hx) ho hn;exact⟨a',c',rfl,⟨fun h=>by simp at h,fun h=>by simp at h⟩,hb⟩
theorem L7(a:Option Addr)(n c:Nat)(L:List Ck)(hn:n=L.length)(hl:n<=1000)(w:World)(hA:az w a L):aK 172 #[.slice a n c] w fun e w'=>∃a' c',e=.returned (.slice a' n c')/\(az w' a' L/\(0<L.length->∀ad,a'=some ad->w.heap.size<=ad.block))/\Bl w w':=by
 cases a with
 | none=>
  have h0:n=0:=by
   by_cases h:0<L.length;obtain⟨_,_,e,_⟩:=hA h;cases e;omega
  refine(Mh n c w).mono ?_;rintro e w' ⟨rfl,rfl⟩;exact⟨none,0,by rw[h0],⟨fun h=>absurd h (by omega),fun _ ad e=>by cases e⟩,bg⟩
 | some ad=>
  by_cases h0:0<L.length;obtain⟨ab,ao,e,hlt,hc⟩:=hA h0;cases e;have hlen:∀x∈L,(iY x).length=33:=(fun x hx=>mN (by obtain⟨i,hi,e⟩:=List.mem_iff_getElem.1 hx;rw[<-e];exact(hc i hi).1));refine(Ji ⟨ab,ao,none⟩ n c L (fun x hx=>by obtain⟨i,hi,e⟩:=List.mem_iff_getElem.1 hx;rw[<-e];exact(hc i hi).1) hn hl w (fun j u hj=>?_)).mono ?_;rw[Addr.add_lit];refine Az iY 33 (by decide) L hlen (fun i x hi=>?_) j u hj;obtain⟨h1,h2⟩:=List.getElem?_eq_some_iff.1 hi;rw[<-h2];exact(hc i h1).2;rintro e w' ⟨v',rfl,ho,hb⟩;obtain⟨a',c',rfl,_,h3⟩:=vm iY 33 L hlen ho hn;obtain⟨g,rfl,h4,h5,h6⟩:=h3 (by omega);exact⟨_,c',rfl,⟨fun _=>⟨g,0,rfl,h5,fun i hi=>⟨(hc i hi).1,by rw[Nat.zero_add];exact h6 i _ (List.getElem?_eq_getElem hi)⟩⟩,fun _ ad e=>by cases e;exact h4⟩,hb⟩;obtain rfl:L=[]:=List.eq_nil_of_length_eq_zero (by omega);refine(Ji ad n c [] (fun x hx=>by cases hx) hn hl w (fun j u hj=>by simp at hj)).mono ?_;rintro e w' ⟨v',rfl,ho,hb⟩;obtain⟨a',c',rfl,_⟩:=vm iY 33 [] (fun x hx=>by cases hx) ho hn;exact⟨a',c',rfl,⟨fun h=>by simp at h,fun h=>by simp at h⟩,hb⟩
variable{p:NN.Pr}{t:Tl}
theorem ux(tt:p.tl=t.C)(a:Option Addr)(n c:Nat):(NN.aE p).setIfInBounds 5 (.slice a n c)=NN.aE { p with tl:=({ t with ga:=a,gn:=n,gc:=c }:Tl).C }:=by unfold NN.aE NN.dU;rw[tt,List.setIfInBounds_toArray];rfl
theorem u4(tt:p.tl=t.C)(a:Option Addr)(n c:Nat):(NN.aE p).setIfInBounds 6 (.slice a n c)=NN.aE { p with tl:=({ t with ca:=a,cn:=n,cc:=c }:Tl).C }:=by unfold NN.aE NN.dU;rw[tt,List.setIfInBounds_toArray];rfl
variable{w:World}{k:Nat}
theorem Ay(h:NN.aA w k p)(tt:p.tl=t.C)(a:Option Addr)(n c:Nat):NN.aA (w.setCell ⟨k,5,none⟩ (.slice a n c)) k { p with tl:=({ t with ga:=a,gn:=n,gc:=c }:Tl).C }:=by have:=NN.Has.set (i:=5) h (.slice a n c);rwa[ux tt]at this
theorem BS(h:NN.aA w k p)(tt:p.tl=t.C)(a:Option Addr)(n c:Nat):NN.aA (w.setCell ⟨k,6,none⟩ (.slice a n c)) k { p with tl:=({ t with ca:=a,cn:=n,cc:=c }:Tl).C }:=by have:=NN.Has.set (i:=6) h (.slice a n c);rwa[u4 tt]at this
def gK(p:NN.Pr)(t:Tl)(ga:Option Addr)(gc:Nat)(ca:Option Addr)(cc:Nat):NN.Pr:={ p with tl:=({ t with ga:=ga,gc:=gc,ca:=ca,cc:=cc }:Tl).C }
def Ba(t:Tl)(ga:Option Addr)(gc:Nat)(ca:Option Addr)(cc:Nat):Tl:={ t with ga:=ga,gc:=gc,ca:=ca,cc:=cc }
theorem Gy(t:Tl)(h:t.ok):t.C.length=78:=by unfold Tl.C;simp[h.1,ek h.2]
theorem EU(p:NN.Pr)(t:Tl)(h:t.ok)(ga:Option Addr)(gc:Nat)(ca:Option Addr)(cc:Nat):(gK p t ga gc ca cc).ok:=Gy _ h
variable{a:Act}
theorem EI{ops:Array Oper}{rest:List Oper}{o:Oper}{Q:Exit->Act->World->Prop}(hgd:o.guard=none)(x y:Operand)(ho:o.op=.store 32 x y)(g:Nat)(cz:Array Value)(p':NN.Pr)(h1:p'.one)(hx:a.eval x=af g)(hy:a.eval y=.agg cz)(e:cz=NN.aE p')(hs':(NN.aE p').size=83)(hg:NN.aA w g p)(hs:(NN.aE p).size=83)(hk:wpList Tryz.prog ops Q rest (a.put o.dst undef) (w.setRow g (NN.aE p'))):wpList Tryz.prog ops Q (o::rest) a w:=by subst e;exact wpList_store_row hgd 32 x y ho g (NN.aE p') hx hy 32 (NN.aE p) (Has.out hg) (NN.ft.trans (by rw[hs'])) (by rw[hs,hs']) (all_oneCell_toArray (NN.tS h1)) hk
theorem Im(w:World)(ob:Obj):NN.aA ((w.alloc ob).alloc (.cells Tryz.zeroCells32 32)) (w.heap.size+1) n7:=Has.QW ob (NN.aE n7) _
theorem MK{fn:Func}{q:Tmp}(hf:fn.results=#[.cell q 32])(tmps:Array Value)(g:Nat)(hp:tmps.getD q undef=af g)(hg:NN.aA w g p)(hs:(NN.aE p).size=83):(results fn tmps).run Tryz.prog w=.ok (.agg (NN.aE p)) w:=
 results_cell_row hf tmps w g 32 (NN.aE p) (0,0) _ hp (Has.out hg) Tryz.underlying32 rfl (NN.ft.trans (by rw[hs]))
theorem Ie{B:Nat}{w':World}(h:Below B w w')(p:Addr)(v:Value)(hp:B<=p.block):Below B w (w'.setCell p v):=h.setCell hp v
theorem Es(p:NN.Pr)(hp:p.ok)(h1:p.one)(t:Tl)(tt:p.tl=t.C)(ht:t.ok)(G K:World->Option Addr->Prop)(w:World)(KG:Hid (∀w',Below w.heap.size w w'->w.heap.size+2<=w'.heap.size->aK 171 #[.slice t.ga t.gn t.gc] w' fun e w''=>∃a' c',e=.returned (.slice a' t.gn c')/\G w'' a'/\Below w'.heap.size w' w''))(KC:Hid (∀w',Below w.heap.size w w'->w.heap.size+2<=w'.heap.size->aK 172 #[.slice t.ca t.cn t.cc] w' fun e w''=>∃a' c',e=.returned (.slice a' t.cn c')/\K w'' a'/\Below w'.heap.size w' w'')):aK 139 #[.agg (NN.aE p)] w fun e w'=>∃ga gc ca cc,e=.returned (.agg (NN.aE (gK p t ga gc ca cc)))/\(∃w1,G w1 ga/\Kp (fun i=>i=w.heap.size\/i=w.heap.size+1) w1 w')/\(∃w1,K w1 ca/\Kp (fun i=>i=w.heap.size\/i=w.heap.size+1) w1 w')/\Below w.heap.size w w':=by
 have hz:=NN.eu hp;have z0:=NN.eu nw;go_enter Tryz.func139,Tryz.ntmps139;go_upto_region 1 with fail
 generalize hw0:World.alloc _ _=v0;have hB:Below w.heap.size w v0:=by rw[<-hw0];exact aZ.alloc (by simp) _
 have hP:NN.aA v0 w.heap.size p:=by rw[<-hw0];exact(NN.Has.new _ _).alloc _
 have hsz0:w.heap.size+2<=v0.heap.size:=by rw[<-hw0];simp
 have hR:NN.aA v0 (w.heap.size+1) n7:=by rw[<-hw0];exact Im w _
 clear hw0;obtain⟨bP,Q5⟩:∃x,x=w.heap.size:=⟨_,rfl⟩;obtain⟨bR,hbR⟩:∃x,x=w.heap.size+1:=⟨_,rfl⟩;rw[<-hbR]at hR|-;rw[<-Q5]at hP|-;have HP:Hid (bP=w.heap.size):=h_ Q5;have HR:Hid (bR=w.heap.size+1):=h_ hbR;have n1:bP≠bR:=by omega
 clear Q5 hbR;have c5:=nB hP tt;go_wp2_with fail
 refine(KG.out _ hB hsz0).mono ?_;rintro e v1 ⟨ga,gc,rfl,hg,hb⟩;replace hP:=hP.on hb;replace hR:=hR.on hb;replace hB:=ah hB hb;have hsz1:w.heap.size+2<=v1.heap.size:=Nat.le_trans hsz0 hb.size;clear hb c5 hsz0;have c5:=nB hP tt;have f5:=Has.free hP 5;go_upto_region 2 with fail
 have hP2:=Ay hP tt ga t.gn gc;have hR2:NN.aA (v1.setCell ⟨bP,5,none⟩ (.slice ga t.gn gc)) bR n7:=Has.other hR _ _ (fun e=>n1 e.symm);have hB2:Below w.heap.size w (v1.setCell ⟨bP,5,none⟩ (.slice ga t.gn gc)):=Ie hB _ _ (by rw[<-HP.out];exact Nat.le_refl _);have hk2:Kp (fun i=>i=bP\/i=bR) v1 (v1.setCell ⟨bP,5,none⟩ (.slice ga t.gn gc)):=Kp.gb (gv v1 bP 5 _) (fun k hk=>.inl (Option.some.inj hk).symm);have hsz2:w.heap.size+2<=(v1.setCell ⟨bP,5,none⟩ (.slice ga t.gn gc)).heap.size:=Nat.le_trans hsz1 hk2.size;clear hsz1;generalize World.setCell _ _ _=v2 at*;clear c5 f5 hP hR hB;have c6:=mL hP2 (t:={ t with ga:=ga,gc:=gc }) rfl;simp only at c6;go_wp2_with fail
 refine(KC.out _ hB2 hsz2).mono ?_;rintro e v3 ⟨ca,cc,rfl,hk,hb⟩;replace hP2:=hP2.on hb;replace hR2:=hR2.on hb;replace hB2:=ah hB2 hb;replace hk2:Kp (fun i=>i=bP\/i=bR) v1 v3:=hk2.trans (Kp.of (F:=fun i=>i=bP\/i=bR) hb) (fun i hi _=>hi);clear hb c6;have c6:=mL hP2 (t:={ t with ga:=ga,gc:=gc }) rfl;simp only at c6;have f6:=Has.free hP2 6;go_upto_region 3 with fail
 have Tg:=BS hP2 (t:={ t with ga:=ga,gc:=gc }) rfl ca t.cn cc;have Xf:NN.aA (v3.setCell ⟨bP,6,none⟩ (.slice ca t.cn cc)) bR n7:=Has.other hR2 _ _ (fun e=>n1 e.symm);have hB4:Below w.heap.size w (v3.setCell ⟨bP,6,none⟩ (.slice ca t.cn cc)):=Ie hB2 _ _ (by rw[<-HP.out];exact Nat.le_refl _);have hk3:Kp (fun i=>i=bP\/i=bR) v3 (v3.setCell ⟨bP,6,none⟩ (.slice ca t.cn cc)):=Kp.gb (gv v3 bP 6 _) (fun k hk=>.inl (Option.some.inj hk).symm);generalize World.setCell _ _ _=v4 at*;replace hk2:=hk2.trans hk3 (fun i hi _=>hi);clear c6 f6 hP2 hR2 hB2;have TM:NN.aA v4 bP (gK p t ga gc ca cc):=Tg;clear Tg;have z5:=NN.eu (EU p t ht ga gc ca cc)
 have o5:(gK p t ga gc ca cc).one:=by
  intro v hv;have hv':v∈(Value.slice ga t.gn gc::Value.slice ca t.cn cc::(t.nn++bp t.g)):=hv;simp only[List.mem_cons]at hv';rcases hv' with rfl|rfl|hv'
  rfl;rfl;exact h1 v (by rw[tt];unfold Tl.C;simp only[List.mem_cons];exact .inr (.inr hv'))
 obtain⟨q,hq⟩:∃q,q=gK p t ga gc ca cc:=⟨_,rfl⟩;rw[<-hq]at TM z5 o5;have HQ:=h_ hq;clear hq;have Yn:Hid (w.heap.size<=bR):=h_ (by rw[HR.out];omega)
 go_wp2_with (first
  | (with_reducible refine NN.dK rfl _ rfl _ rfl TM z5 ?_)
  | (with_reducible refine EI rfl _ _ rfl _ _ q o5 rfl rfl rfl z5 Xf z0 ?_))
 have hk5:Kp (fun i=>i=bP\/i=bR) v4 (v4.setRow bR (NN.aE q)):=⟨rfl,rfl,rfl,by rw[setRow_size];exact Nat.le_refl _,fun k _ hn=>setRow_other v4 bR k _ (fun e=>hn (.inr e))⟩;refine bodyPost_ret (MK Tryz.results139 _ _ rfl (Has.row Xf _) z5) rfl ⟨ga,gc,ca,cc,HQ.out▸rfl,⟨v1,hg,?_⟩,⟨v3,hk,?_⟩,below_setRow hB4 Yn.out _⟩;exact(hk2.trans hk5 (fun i hi _=>hi)).mono (fun i hi _=>hi.elim (fun h=>.inl (h.trans HP.out)) (fun h=>.inr (h.trans HR.out)));exact(hk3.trans hk5 (fun i hi _=>hi)).mono (fun i hi _=>hi.elim (fun h=>.inl (h.trans HP.out)) (fun h=>.inr (h.trans HR.out)))
theorem Fk(p:NN.Pr)(hp:p.ok)(h1:p.one)(t:Tl)(tt:p.tl=t.C)(ht:t.ok)(gs:List Gt)(cs:List Ck)(hgn:t.gn=gs.length)(hcn:t.cn=cs.length)(hgl:t.gn<=1000)(hcl:t.cn<=1000)(w:World)(hG:aJ w t.ga gs)(hC:az w t.ca cs):aK 139 #[.agg (NN.aE p)] w fun e w'=>∃ga gc ca cc,e=.returned (.agg (NN.aE (gK p t ga gc ca cc)))/\fT (fun i=>w.heap.size<=i) (fun w=>aJ w ga gs) w'/\fT (fun i=>w.heap.size<=i) (fun w=>az w ca cs) w'/\Bl w w':=by
 refine(Es p hp h1 t tt ht (fun w1 a=>aJ w1 a gs/\(0<gs.length->∀ad,a=some ad->w.heap.size+2<=ad.block)) (fun w1 a=>az w1 a cs/\(0<cs.length->∀ad,a=some ad->w.heap.size+2<=ad.block)) w ?_ ?_).mono ?_
 ·refine h_ fun w' hb hs=>(NP t.ga t.gn t.gc gs hgn hgl w' (hG.below hb)).mono ?_
  rintro e w2 ⟨a',c',rfl,⟨q1,q2⟩,q3⟩;exact⟨a',c',rfl,⟨q1,fun h0 ad e=>Nat.le_trans hs (q2 h0 ad e)⟩,q3⟩
 ·refine h_ fun w' hb hs=>(L7 t.ca t.cn t.cc cs hcn hcl w' (hC.below hb)).mono ?_
  rintro e w2 ⟨a',c',rfl,⟨q1,q2⟩,q3⟩;exact⟨a',c',rfl,⟨q1,fun h0 ad e=>Nat.le_trans hs (q2 h0 ad e)⟩,q3⟩
 ·rintro e w' ⟨ga,gc,ca,cc,rfl,⟨w1,⟨q1,q2⟩,q3⟩,⟨w2,⟨q4,q5⟩,q6⟩,hb⟩;refine⟨ga,gc,ca,cc,rfl,?_,?_,hb⟩
  ·refine(fT.on (DH (I:=fun i=>w.heap.size+2<=i) q1 q2) q3 (fun i hi h=>?_)).wide fun i hi=>by omega
   rcases h with h|h<;>omega
  ·refine(fT.on (FW (I:=fun i=>w.heap.size+2<=i) q4 q5) q6 (fun i hi h=>?_)).wide fun i hi=>by omega
   rcases h with h|h<;>omega
open NN.Q8
def QC(b:Nat)(v:Value)(e:En)(s:Sp)(bE bS:Nat):Nat->Value->Prop
 | 0,u=>u=af b
 | 1,u=>u=af b
 | 2,u=>u=af b
 | 3,u=>u=.pointer (some ⟨b,84,none⟩)
 | 4,u=>u=v
 | 5,u=>u=.agg (bU e)
 | 6,u=>u=.agg (bq s)
 | 7,u=>u=.agg (iM e s).toArray
 | 10,u=>u=af b
 | 11,u=>u=.pointer (some ⟨b,84,none⟩)
 | _,_=>bE=bE/\bS=bS
def QB(b mb bE:Nat)(e:En)(n:Nat):Nat->Value->Prop
 | 0,u=>u=af b
 | 1,u=>u=af b
 | 2,u=>u=.pointer (some ⟨b,85,none⟩)
 | 3,u=>u=.map (some mb)
 | 4,u=>u=.pointer (some ⟨bE,68,none⟩)
 | 5,u=>u=.agg (ae e.id)
 | 6,u=>u=i_ n
 | _,_=>n=n
def Jb(v1:World)(b:Nat)(p:NN.Pr)(room:Nat)(v:Value)(mb n:Nat)(xs:List Value)(e:En)(s:Sp)(l:Array Bool)(a:Act)(w:World):Prop:=
 (l.getD 8 false=true->l.getD 9 false=false->∃g,a.eval (.tmp 21)=.slice (aX g) 1 1/\Has w g (iM e s).toArray 143)/\
 (l.getD 9 false=false->w.ownsRow 0 143 144 v n xs)/\
 (l.getD 9 false=true->l.getD 12 false=false->∃v',a.eval (.tmp 22)=v'/\w.ownsRow 0 143 144 v' (n+1) (xs++iM e s)/\(v'.ownBlock=v.ownBlock\/∃g,v'.ownBlock=some g/\v1.heap.size<=g))/\
 (l.getD 12 false=false->Has w b (jg p room v mb) 147)/\
 (l.getD 12 false=true->∃v',Has w b (jg p room v' mb) 147/\w.ownsRow 0 143 144 v' (n+1) (xs++iM e s)/\(v'.ownBlock=v.ownBlock\/∃g,v'.ownBlock=some g/\v1.heap.size<=g))
theorem Jb.keep{v1:World}{b:Nat}{room:Nat}{v:Value}{mb n:Nat}{xs:List Value}{e:En}{s:Sp}{l:Array Bool}(h:Jb v1 b p room v mb n xs e s l a w)(i:Nat)(hi:i<l.size)(h8:i≠8:=by decide)(h9:i≠9:=by decide)(h12:i≠12:=by decide){d:Option Tmp}{u:Value}(hd:d≠some 21:=by decide)(hd2:d≠some 22:=by decide):Jb v1 b p room v mb n xs e s (l.setIfInBounds i true) (a.put d u) w:=by obtain⟨p1,p2,p3,p4,p5⟩:=h;unfold Jb;rw[gB l i 8 hi h8,gB l i 9 hi h9,gB l i 12 hi h12,Act.eval_put (fun d' hdd e=>hd (by rw[hdd];cases e;rfl)),Act.eval_put (fun d' hdd e=>hd2 (by rw[hdd];cases e;rfl))];exact⟨p1,p2,p3,p4,p5⟩
theorem uo(b:Nat)(p:NN.Pr)(hp:p.ok)(room:Nat)(sa:Option Addr)(n c:Nat)(mb:Nat)(xs:List Value)(e:En)(he:e.ok)(s:Sp)(hs:s.ok)(hn:n<=900)(w:World)(hA:Has w b (jg p room (.slice sa n c) mb) 147)(hrow:w.ownsRow 0 143 144 (.slice sa n c) n xs)(hbv:∀k,(Value.slice sa n c).ownBlock=some k->k≠b)(ZX:b≠mb)(Q:World->World->Prop)(KM:Hid (∀v2:World,v2.heap[mb]?=w.heap[mb]?->∃v3,(Instr.mapUpdate 145 (.map (some mb)) (.agg (ae e.id)) (.int .i64 (n:Int))).run Tryz.prog v2=.ok () v3/\Q v2 v3/\v2.grownBy v3 (some mb)))(hmv:∀k,(Value.slice sa n c).ownBlock=some k->k≠mb)(RO:mb<w.heap.size):aK 124 #[.pointer (some ⟨b,0,none⟩),.agg (bU e),.agg (bq s)] w fun r w'=>∃v' v2,r=.returned (.int .i64 (n:Int))/\Has w' b (jg p room v' mb) 147/\w'.ownsRow 0 143 144 v' (n+1) (xs++iM e s)/\(v'.ownBlock=(Value.slice sa n c).ownBlock\/∃g,v'.ownBlock=some g/\w.heap.size<=g)/\Kp (fun i=>i=b\/i=mb\/(Value.slice sa n c).ownBlock=some i) w w'/\Q v2 w':=by
 have z1:=dc he;have z2:=mh he;have z3:=iZ hs;have z4:=mf hs;go_enter Tryz.func124,Tryz.ntmps124;go_upto_region 1 with fail
 generalize hw0:World.alloc _ _=v0;have hB:Bl w v0:=by rw[<-hw0];exact aZ.alloc (by simp) _
 have hE:br v0 w.heap.size e:=by rw[<-hw0];exact(Has.new _ _).alloc _
 have hS:aH v0 (w.heap.size+1) s:=by rw[<-hw0];exact Has.QW _ (bq s) _
 clear hw0;have Ra:Has v0 b (jg p room (.slice sa n c) mb) 147:=cu hB hA (Has.lt hA);have TF:=ay hrow (Kp.of (F:=fun _=>False) hB) (fun _ _ h=>h);have hbl:=Has.lt hA;have hrl:∀k,(Value.slice sa n c).ownBlock=some k->k<w.heap.size:=fun k hk=>(cQ hrow hk).1
 have ZY:=h_ RO;have hMB:v0.heap[mb]?=w.heap[mb]?:=hB.block mb RO;have HW:Hid (w.heap.size<=v0.heap.size):=h_ hB.size;obtain⟨bE,Sz⟩:∃x,x=w.heap.size:=⟨_,rfl⟩;obtain⟨bS,hbS⟩:∃x,x=w.heap.size+1:=⟨_,rfl⟩;rw[<-hbS]at hS|-;have HB:=h_ hB;have UY:∀k,k<w.heap.size->k≠bE:=fun k hk e=>by omega
 have UZ:∀k,k<w.heap.size->k≠bS:=fun k hk e=>by omega
 have HEE:Hid (bE=w.heap.size):=h_ Sz;rw[<-Sz]at hE;clear hrow hA hB RO hbS Sz;have hv0:=iC Ra hp;rw[<-HEE.out];go_upto_region 2 with fail
 generalize hv1:v0=v1 at*;clear hv1;have nE1:∀k,(Value.slice sa n c).ownBlock=some k->k≠bE:=fun k hk=>UY k (hrl k hk)
 have nS1:∀k,(Value.slice sa n c).ownBlock=some k->k≠bS:=fun k hk=>UZ k (hrl k hk)
 have nE2:=UY b hbl;have nS2:=UZ b hbl;have hz:=iC Ra hp;clear UY UZ hrl;generalize hF:(fun i=>i=b\/(Value.slice sa n c).ownBlock=some i)=F;have fE:¬F bE:=by rw[<-hF];exact fun h=>h.elim (fun h=>nE2 h.symm) (fun h=>nE1 _ h rfl)
 have fS:¬F bS:=by rw[<-hF];exact fun h=>h.elim (fun h=>nS2 h.symm) (fun h=>nS1 _ h rfl)
 have fb:F b:=by rw[<-hF];exact .inl rfl
 have fv:∀k,(Value.slice sa n c).ownBlock=some k->F k:=fun k hk=>by rw[<-hF];exact .inr hk
 have fm:¬F mb:=by rw[<-hF];exact fun h=>h.elim (fun h=>ZX h.symm) (fun h=>hmv _ h rfl)
 have fl:∀i,F i->i<v1.heap.size:=fun i hi=>by
  rw[<-hF]at hi;rcases hi with rfl|hi
  exact Has.lt Ra;exact(cQ TF hi).1
 have Wb:=h_ hF;clear hF;refine iy (by kernel_rfl) (fun w'=>Kp F v1 w') (fun i v' _=>QC b (.slice sa n c) e s bE bS i v') (fun l a w'=>Jb v1 b p room (.slice sa n c) mb n xs e s l a w') (fun _ _=>True) (fun _ _=>trivial) (fun _ _ _ _ _ _ h=>h) (by kernel_rfl) (Kp.of bg.drew) ?_ ?_ ?_;exact fun l hl=>⟨fun h=>(by rw[hl]at h;cases h),fun _=>TF,fun h=>(by rw[hl]at h;cases h),fun _=>Has.drew Ra,fun h=>(by rw[hl]at h;cases h)⟩
 ·intro i o lz a wx ho' hnl dq Z;have hC:=Z.c;have hI:=Z.i;have hi:i<13:=(Array.getElem?_eq_some_iff.1 ho').1;have Vn:Has wx bE (bU e) 60:=hC.has hE fE;have Yo:Has wx bS (bq s) 141:=hC.has hS fS
  have rE:wx.rangeAt bE 0 (gC e):=by
   have:=fZ (A:=[]) (cs:=gC e) (C:=[]) (o:=0) (w:=wx) (b:=bE) (t:=60) (by rw[List.append_nil];exact Vn) rfl;exact this
  have rS:wx.rangeAt bS 0 (gF s):=by
   have:=fZ (A:=[]) (cs:=gF s) (C:=[]) (o:=0) (w:=wx) (b:=bS) (t:=141) (by rw[List.append_nil];exact Yo) rfl;exact this
  have hlx:v1.heap.size<=wx.heap.size:=hC.size;obtain rfl|rfl|rfl|rfl|rfl|rfl|rfl|rfl|rfl|rfl|rfl|rfl|rfl:i=0\/i=1\/i=2\/i=3\/i=4\/i=5\/i=6\/i=7\/i=8\/i=9\/i=10\/i=11\/i=12:=by omega
  all_goals obtain rfl:=Option.some.inj ho'
  exact aT 0 Z (an rfl) (NN.dL rfl) (Z.old' 0) (hI.keep 0 (aw Z 0));exact aT 1 Z (an rfl) (NN.dL rfl) (Z.old' 0) (hI.keep 1 (aw Z 1));exact aT 2 Z (an rfl) (da rfl (au Z dq 1 14)) rfl (hI.keep 2 (aw Z 2));exact aT 3 Z (an rfl) (dA rfl (au Z dq 2 15) (kV wx b)) rfl (hI.keep 3 (aw Z 3));have hsz:=aw Z 4;have h12:=dG Z hnl 12;have hAx:=hI.2.2.2.1 (by rw[<-gB lz 4 12 hsz (by decide)];exact h12);exact aT 4 Z (an rfl) (GP rfl (au Z dq 3 16) (iC hAx hp)) rfl (hI.keep 4 hsz);exact aT 5 Z (an rfl) (Ik rfl (Z.old' 4) rE z2) rfl (hI.keep 5 (aw Z 5));exact aT 6 Z (an rfl) (CR rfl (Z.old' 5) rS z4) rfl (hI.keep 6 (aw Z 6));exact aT 7 Z (an rfl) (LY rfl (au Z dq 5 18) (au Z dq 6 19) he hs) rfl (hI.keep 7 (aw Z 7));have hsz:=aw Z 8;have h9:=dG Z hnl 9;have h12:=dG Z hnl 12;have hbx:Bl wx (wx.alloc (.cells (iM e s).toArray 143)):=aZ;refine oP 8 Z (an rfl) (Pn rfl (au Z dq 7 20) (by rw[List.size_toArray,qK he hs])) (hC.trans (Kp.of (F:=F) hbx) (fun i hi _=>hi)) ⟨rfl,rfl⟩ ⟨fun _ _=>⟨wx.heap.size,?_,Has.new _ _⟩,fun _=>?_,fun h=>(by rw[h9]at h;cases h),fun _=>?_,fun h=>(by rw[h12]at h;cases h)⟩;exact jD a 21 _ (by rw[Z.QU];exact(show 21<33 by decide));exact ay (hI.2.1 (by rw[<-gB lz 8 9 hsz (by decide)];exact h9)) (Kp.of (F:=fun _=>False) hbx) (fun _ _ h=>h);exact Has.alloc (hI.2.2.2.1 (by rw[<-gB lz 8 12 hsz (by decide)];exact h12)) _
  ·have hsz:=aw Z 9;have h8:lz.getD 8 false=true:=dq ⟨8,.data⟩ (by simp) rfl;have h9:lz.getD 9 false=false:=hnl;have h12:=dG Z hnl 12;have Tx:lz.getD 12 false=false:=by rw[<-gB lz 9 12 hsz (by decide)];exact h12
   obtain⟨g,hg,hgh⟩:=hI.1 h8 h9;have hrx:=hI.2.1 h9;have hAx:=hI.2.2.2.1 Tx;obtain⟨v',w',hr,g1,g2,g3⟩:=OW (ρ:=a.eval) (x:=.tmp 17) (y:=.tmp 21) he hs (au Z dq 4 17) hrx hg hgh (by omega);refine oP 9 Z (an rfl) (hr _ rfl rfl) (hC.trans (Kp.gb (F:=F) g2 (fun k hk=>fv k hk)) (fun i hi _=>hi)) ⟨rfl,rfl⟩ ⟨fun _ h=>(by rw[gw _ _ _ hsz,if_pos rfl]at h;cases h),fun h=>(by rw[gw _ _ _ hsz,if_pos rfl]at h;cases h),fun _ _=>⟨v',?_,g1,?_⟩,fun _=>?_,fun h=>(by rw[h12]at h;cases h)⟩;exact jD a 22 _ (by rw[Z.QU];exact(show 22<33 by decide))
   ·rcases g3 with g3|g3
    exact .inl g3;exact .inr ⟨_,g3,hlx⟩
   exact(g2.block b (Has.lt hAx) (fun hk=>hbv b hk.symm rfl)).trans hAx
  exact aT 10 Z (an rfl) (da rfl (au Z dq 0 13)) rfl (hI.keep 10 (aw Z 10));exact aT 11 Z (an rfl) (dA rfl (au Z dq 10 23) (kV wx b)) rfl (hI.keep 11 (aw Z 11))
  ·have hsz:=aw Z 12;have h9:lz.getD 9 false=true:=dq ⟨9,.data⟩ (by simp) rfl;obtain⟨v',hv',hr',hl'⟩:=hI.2.2.1 h9 hnl;have hAx:=hI.2.2.2.1 hnl;obtain⟨a',m',c',rfl⟩:=OY hr';have SC:(lz.setIfInBounds 12 true).getD 9 false=true:=by rw[gB lz 12 9 hsz (by decide)];exact h9
   have e12:(lz.setIfInBounds 12 true).getD 12 false=true:=by rw[gw _ _ _ hsz,if_pos rfl]
   have nb:∀k,(Value.slice a' m' c').ownBlock=some k->k≠b:=fun k hk=>by
    rcases hl' with h|⟨g,h,hg⟩
    exact hbv k (h.symm.trans hk);rw[h]at hk;have hkg:g=k:=Option.some.inj hk;have:=Has.lt Ra;omega
   have kb:Kp (fun i=>i=b) wx (wx.setCell ⟨b,84,none⟩ (.slice a' m' c')):=Kp.gb (gv wx b 84 _) (fun k hk=>(Option.some.inj hk).symm);refine qZ 12 Z (an rfl) (PM rfl (au Z dq 11 24) hv' (Has.free hAx 84) (iC hAx hp)) (hC.trans kb (fun i hi _=>by rw[hi];exact fb)) ⟨rfl,rfl⟩ ⟨fun _ h=>(by rw[SC]at h;cases h),fun h=>(by rw[SC]at h;cases h),fun _ h=>(by rw[e12]at h;cases h),fun h=>(by rw[e12]at h;cases h),fun _=>⟨_,A6 hAx hp _,?_,hl'⟩⟩;exact ay hr' kb fun i hi hib=>nb i hi hib
 intro lz a' v2 hall Z;have hC:=Z.c;obtain⟨v',hA2,hrow2,hl2⟩:=Z.i.2.2.2.2 (hall 12 (by decide));have e0:a'.eval (.tmp 0)=.pointer (some ⟨b,0,none⟩):=Z.old' 0;have e4:a'.eval (.tmp 4)=.pointer (some ⟨bE,0,none⟩):=Z.old' 4;have e7:a'.eval (.tmp 7)=.int .i64 (n:Int):=Z.old' 7;obtain⟨u,hu⟩:∃u:Nat->Value,∀t,u t=a'.eval (.tmp t):=⟨_,fun _=>rfl⟩;rw[fc a' 33 u Z.QU Z.defers hu];rw[<-hu]at e0 e4 e7;clear hu Z hall;simp only[List.range,List.range.loop,List.map_cons,List.map_nil];rw[e0,e4,e7];clear e0 e4 e7;have hE2:Has v2 bE (bU e) 60:=hC.has hE fE;have rI:v2.rangeAt bE 68 (Lib.byteCells e.id):=fZ (A:=bp e.h) (cs:=Lib.byteCells e.id) (C:=.int .i64 e.up :: .int .i64 e.ht::(NN.aa e.wk).toList) (o:=68) hE2 (ek he.1);have hM2:v2.heap[mb]?=w.heap[mb]?:=(hC.block mb (Nat.lt_of_lt_of_le ZY.out HW.out) fm).trans hMB;have Yp:∀k,v'.ownBlock=some k->k<v2.heap.size:=fun k hk=>(cQ hrow2 hk).1
 have nbv:∀k,v'.ownBlock=some k->k≠mb:=fun k hk=>by
  rcases hl2 with h|⟨g,h,hg⟩
  exact hmv k (h.symm.trans hk);rw[h]at hk;have hkg:g=k:=Option.some.inj hk;have:=ZY.out;have:=HW.out;omega
 have hl3:v'.ownBlock=(Value.slice sa n c).ownBlock\/∃g,v'.ownBlock=some g/\w.heap.size<=g:=by
  rcases hl2 with h|⟨g,h,hg⟩
  exact .inl h;exact .inr ⟨g,h,Nat.le_trans HW.out hg⟩
 have HA2:=h_ hA2;have HR2:=h_ hrow2;have HK:=h_ ((Kp.of (F:=F) HB.out).trans hC (fun i hi _=>hi));have cb:=E' hA2 hp;clear hC Ra TF hz hl2 Yp hE2 hS hrow2 hA2 hE;obtain⟨v3,hrun,hQ,hg3⟩:=KM.out v2.drew (by rw[<-hM2];rfl);go_upto_region 3 with fail
 refine iy (by kernel_rfl) (fun _=>True) (fun i v' _=>QB b mb bE e n i v') (fun l _ w'=>Ph 7 (fun w'=>w'=v2.drew) (fun w'=>w'=v3) l w') (fun _ _=>True) (fun _ _=>trivial) (fun _ _ _ _ _ _ h=>h) (by kernel_rfl) trivial ?_ ?_ ?_;exact fun l hl=>Ph.zero hl rfl
 ·intro i o lz a wx ho' hnl dq Z;have hC:=Z.c;have hI:=Z.i;have hi:i<8:=(Array.getElem?_eq_some_iff.1 ho').1;obtain rfl|rfl|rfl|rfl|rfl|rfl|rfl|rfl:i=0\/i=1\/i=2\/i=3\/i=4\/i=5\/i=6\/i=7:=by omega
  all_goals obtain rfl:=Option.some.inj ho'
  exact aT 0 Z (an rfl) (NN.dL rfl) (Z.old' 0) (hI.keep (aw Z 0));exact aT 1 Z (an rfl) (da rfl (au Z dq 0 25)) rfl (hI.keep (aw Z 1));exact aT 2 Z (an rfl) (dA rfl (au Z dq 1 26) (sF wx b)) rfl (hI.keep (aw Z 2));have hsz:=aw Z 3;have hw:wx=v2.drew:=hI.pre (cV Z hnl 7) hsz (by decide);exact aT 3 Z (an rfl) (O6 rfl (au Z dq 2 27) (by rw[hw];exact cb)) rfl (hI.keep hsz);exact aT 4 Z (an rfl) (dA rfl (Z.old' 4) (uN wx bE)) rfl (hI.keep (aw Z 4));have hsz:=aw Z 5;have hw:wx=v2.drew:=hI.pre (cV Z hnl 7) hsz (by decide);exact aT 5 Z (an rfl) (LP rfl (au Z dq 4 29) (by rw[hw];exact rI) he.2) rfl (hI.keep hsz);exact aT 6 Z (an rfl) (NN.dL rfl) (Z.old' 7) (hI.keep (aw Z 6));have hsz:=aw Z 7;have hw:wx=v2.drew:=hI.1 hnl;exact qZ 7 Z (an rfl) (Jt rfl (au Z dq 3 28) (au Z dq 5 30) (au Z dq 6 31) (by rw[hw];exact hrun)) trivial rfl (Ph.last hsz rfl)
 intro lz a' w4 hall Z;obtain rfl:=Z.i.2 (hall 7 (by decide));have e7:a'.eval (.tmp 7)=.int .i64 (n:Int):=Z.old' 7;obtain⟨u,hu⟩:∃u:Nat->Value,∀t,u t=a'.eval (.tmp t):=⟨_,fun _=>rfl⟩;rw[fc a' 33 u Z.QU Z.defers hu];rw[<-hu]at e7;clear hu Z hall;simp only[List.range,List.range.loop,List.map_cons,List.map_nil];rw[e7];clear e7;have hK3:Kp (fun i=>i=mb) v2 w4:=(Kp.of (F:=fun i=>i=mb) (Below.refl _ v2).drew).trans (Kp.gb hg3 (fun k hk=>(Option.some.inj hk).symm)) (fun i hi _=>hi);have hA4:=hK3.has HA2.out (fun e=>ZX e);have Xf:=ay HR2.out hK3 (fun i hi e=>nbv i hi e);have HK4:Kp (fun i=>i=b\/i=mb\/(Value.slice sa n c).ownBlock=some i) w w4:=(HK.out.mono (fun i hi _=>by rw[<-Wb.out]at hi;exact hi.elim .inl (fun h=>.inr (.inr h)))).trans hK3 (fun i hi _=>.inr (.inl hi));go_wp2_with fail
 go_ret;exact⟨v',_,rfl,hA4,Xf,hl3,HK4,hQ⟩
section
variable{ρ:Operand->Value}{o:Oper}{w:World}
variable{x:Operand}{g off:Nat}
theorem wc{T:TypeId}{n m:Nat}(ho:o.op=.fieldAddr T x n)(hx:ρ x=.pointer (some ⟨g,off,none⟩))(hf:(Instr.fieldAt T (.pointer (some ⟨g,off,none⟩)) n).run Tryz.prog w=.ok (.pointer (some ⟨g,m,none⟩)) w):(execOp ρ o).run Tryz.prog w=.ok (.value (.pointer (some ⟨g,m,none⟩))) w:=by unfold execOp;simp only[ho,hx,Sem.run_bind,hf,Result.andThen_ok];rfl
theorem gx(w:World)(g:Nat):(Instr.fieldAt 32 (af g) 9).run Tryz.prog w=.ok (.pointer (some ⟨g,15,none⟩)) w:=by kernel_rfl
theorem lM(w:World)(g:Nat):(Instr.fieldAt 30 (.pointer (some ⟨g,15,none⟩)) 4).run Tryz.prog w=.ok (.pointer (some ⟨g,81,none⟩)) w:=by kernel_rfl
theorem lT{h:Hd}(ho:o.op=.load 30 x)(hx:ρ x=.pointer (some ⟨g,off,none⟩))(hg:w.rangeAt g off (bp h))(hs:(bp h).length=68):(execOp ρ o).run Tryz.prog w=.ok (.value (.agg (aD h))) w:=
 gT 30 ho hx Tryz.underlying30 rfl (gm.trans (by rw[hs])) hg
variable{e:En}
theorem Mq{x0 x1 x2 x4:Operand}(ho:o.op=.build 60 #[(0,x0),(1,x1),(2,x2),(4,x4)])(he:e.ok)(h0:e.ht=0)(hx0:ρ x0=.agg (aD e.h))(hx1:ρ x1=.agg (ae e.id))(hx2:ρ x2=i_ e.up)(hx4:ρ x4=.agg (NN.aa e.wk)):(execOp ρ o).run Tryz.prog w=.ok (.value (.agg (bU e))) w:=by unfold execOp;simp only[ho,Sem.run_bind];rw[show(#[(0,x0),(1,x1),(2,x2),(4,x4)]:Array (Nat×Operand)).map (fun(i,x)=>(i,ρ x))=#[(0,.agg (aD e.h)),(1,.agg (ae e.id)),(2,i_ e.up),(4,.agg (NN.aa e.wk))] by simp[hx0,hx1,hx2,hx4],run_build w 60 _ _ (Ge e he h0)];rfl
theorem Jz{y:Operand}{cs:Array Value}(ho:o.op=.store 60 x y)(hx:ρ x=af g)(hy:ρ y=.agg (bU e))(hg:Has w g cs 60)(hs:cs.size=106)(hs':(bU e).size=106):(execOp ρ o).run Tryz.prog w=.ok .skip (w.setRow g (bU e)):=by unfold execOp;simp only[ho,hx,hy,Instr.storeAt,Instr.sureAddr,Sem.run_bind,Sem.run_pure,Result.andThen_ok,run_storeVar_row w g 60 60 cs (bU e) (Has.out hg) (iN.trans (by rw[hs'])) (by rw[hs,hs']) (yq e)]
end
theorem Eo{w:World}{g o:Nat}{h:Hd}(ho:h.ok)(hr:w.rangeAt g o (bp h)):w.cell? ⟨g,o+66,none⟩=some (i_ h.bits):=hr 66 _ (tX ho 1)
def QL(bP bR:Nat)(e:En):Nat->Value->Prop
 | 0,u=>u=.pointer (some ⟨bP,15,none⟩)
 | 1,u=>u=.agg (aD e.h)
 | 2,u=>u=.pointer (some ⟨bP,15,none⟩)
 | 3,u=>u=.agg (aD e.h)
 | 4,u=>u=.agg (ae e.id)
 | 5,u=>u=.pointer (some ⟨bP,15,none⟩)
 | 6,u=>u=.pointer (some ⟨bP,81,none⟩)
 | 7,u=>u=i_ e.h.bits
 | 8,u=>u=.agg (NN.aa e.wk)
 | 9,u=>u=.agg (bU e)
 | _,_=>bR=bR
theorem Hg(p:NN.Pr)(t:Tl)(tt:p.tl=t.C)(ht:t.ok)(e:En)(he:e.ok)(h0:e.ht=0)(hu:e.up = -1)(hg:e.h=t.g)(w:World)(KI:aO w 119 #[.agg (aD e.h)] (.agg (ae e.id)))(KW:Hid (∀w',ak 123 #[.int .i64 e.h.bits] w' (.agg (NN.aa e.wk)))):ak 140 #[.agg (NN.aE p)] w (.agg (bU e)):=by
 have z0:=dc di;have z1:=dc he;have z2:=ek he.1;go_enter Tryz.func140,Tryz.ntmps140;go_upto_region 1 with fail
 generalize hw0:World.alloc _ _=v0;have hB:Bl w v0:=by rw[<-hw0];exact aZ.alloc (by simp) _
 have hP:NN.aA v0 w.heap.size p:=by rw[<-hw0];exact(NN.Has.new _ _).alloc _
 have hR:br v0 (w.heap.size+1) iS:=by rw[<-hw0];exact Has.QW _ (bU iS) _
 clear hw0;obtain⟨bP,Q5⟩:∃x,x=w.heap.size:=⟨_,rfl⟩;obtain⟨bR,hbR⟩:∃x,x=w.heap.size+1:=⟨_,rfl⟩;rw[<-hbR]at hR|-;rw[<-Q5]at hP|-;have hlt:bR<v0.heap.size:=Has.lt hR;have n1:bP≠bR:=by omega
 have SG:Hid (w.heap.size<=bR):=h_ (by omega);have Vm:Hid (bP=w.heap.size):=h_ Q5;clear Q5 hbR;refine iy (by kernel_rfl) (fun w'=>Bl w w'/\NN.aA w' bP p) (fun i v' _=>QL bP bR e i v') (fun l _ w'=>Ph 10 (fun w'=>br w' bR iS) (fun w'=>br w' bR e) l w') (fun _ _=>True) (fun _ _=>trivial) (fun _ _ _ _ _ _ h=>h) (by kernel_rfl) ⟨hB.trans (bg.drew.mono hB.size),Has.drew hP⟩ ?_ ?_ ?_;exact fun l hl=>Ph.zero hl (Has.drew hR)
 ·intro i o lz a wx ho' hnl dq Z;have hC:=Z.c;have hI:=Z.i;have hi:i<11:=(Array.getElem?_eq_some_iff.1 ho').1;have rP:wx.rangeAt bP 15 (bp e.h):=by rw[hg];exact jP hC.2 tt ht
  have rB:=Eo he.1 rP;obtain rfl|rfl|rfl|rfl|rfl|rfl|rfl|rfl|rfl|rfl|rfl:i=0\/i=1\/i=2\/i=3\/i=4\/i=5\/i=6\/i=7\/i=8\/i=9\/i=10:=by omega
  all_goals obtain rfl:=Option.some.inj ho'
  exact aT 0 Z (an rfl) (dA rfl (Z.old' 1) (gx wx bP)) rfl (hI.keep (aw Z 0));exact aT 1 Z (an rfl) (lT rfl (au Z dq 0 3) rP z2) rfl (hI.keep (aw Z 1));exact aT 2 Z (an rfl) (dA rfl (Z.old' 1) (gx wx bP)) rfl (hI.keep (aw Z 2));exact aT 3 Z (an rfl) (lT rfl (au Z dq 2 5) rP z2) rfl (hI.keep (aw Z 3))
  ·have hsz:=aw Z 4;have QY:=dG Z hnl 10;have hpre:=hI.pre QY hsz (by decide);exact mB (S:=mY) 4 Z (an rfl) (f:=119) (args:=#[a.eval (.tmp 6)]) (by kernel_rfl) (by rw[show a.eval (.tmp 6)=_ from(au Z dq 3 6)];  exact KI.out wx hC.1) (fun w' hb=>⟨⟨ah hC.1 hb,NN.aA.on hC.2 hb⟩,trivial,rfl,Ph.made QY (br.on hpre hb)⟩)
  exact aT 5 Z (an rfl) (dA rfl (Z.old' 1) (gx wx bP)) rfl (hI.keep (aw Z 5));exact aT 6 Z (an rfl) (wc rfl (au Z dq 5 8) (lM wx bP)) rfl (hI.keep (aw Z 6));exact aT 7 Z (an rfl) (NN.kX rfl (au Z dq 6 9) rB) rfl (hI.keep (aw Z 7))
  ·have hsz:=aw Z 8;have QY:=dG Z hnl 10;have hpre:=hI.pre QY hsz (by decide);exact mB (S:=mY) 8 Z (an rfl) (f:=123) (args:=#[a.eval (.tmp 10)]) (by kernel_rfl) (by rw[show a.eval (.tmp 10)=_ from(au Z dq 7 10)];  exact KW.out wx) (fun w' hb=>⟨⟨ah hC.1 hb,NN.aA.on hC.2 hb⟩,trivial,rfl,Ph.made QY (br.on hpre hb)⟩)
  exact aT 9 Z (an rfl) (Mq rfl he h0 (au Z dq 1 4) (au Z dq 4 7) (by rw[hu];rfl) (au Z dq 8 11)) rfl (hI.keep (aw Z 9));have hsz:=aw Z 10;have hR0:=hI.1 hnl;exact qZ 10 Z (an rfl) (Jz rfl (Z.old' 2) (au Z dq 9 12) hR0 z0 z1) ⟨below_setRow hC.1 SG.out _,NN.Has.QR hC.2 _ _ n1⟩ rfl (Ph.last hsz (Has.row hR0 _))
 intro lz a' v1 hall Z;have hC:=Z.c;have hE:=Z.i.2 (hall 10 (by decide));have e2:a'.eval (.tmp 2)=.pointer (some ⟨bR,0,none⟩):=Z.old' 2;obtain⟨u,hu⟩:∃u:Nat->Value,∀t,u t=a'.eval (.tmp t):=⟨_,fun _=>rfl⟩;rw[fc a' 13 u Z.QU Z.defers hu];rw[<-hu]at e2;clear hu Z hall;simp only[List.range,List.range.loop,List.map_cons,List.map_nil];rw[e2];clear e2;go_wp2_with fail
 refine bodyPost_ret (PZ Tryz.results140 _ _ rfl hE z1) rfl ⟨rfl,hC.1⟩
end An
namespace An
open Mem Sc
open Ar (aq Ru aB)
variable{w:World}
theorem fT.clip{lo:Nat}{P:World->Prop}(h:fT (fun i=>lo<=i) P w):fT (fun i=>lo<=i/\i<w.heap.size) P w:=fun w' k=>h w' (k.mono fun _ hi hl=>fun h=>hi ⟨h,hl⟩)
variable{I:Nat->Prop}{b room mb:Nat}{p:NN.Pr}{t:Tl}{gs:List Gt}{cs:List Ck}
theorem F9{v:Value}{L:List Bk}(h:fC w I b p t gs cs room v mb L)(x:Bk)(he:x.e.ok)(hs:x.s.ok)(J:Nat->Prop)(hJ:fT J (fun w=>eH w 0 x.s x.q) w)(Wc:∀i,J i->i<w.heap.size)(Xg:∀i,J i->¬(i=b\/i=mb\/v.ownBlock=some i))(hn:L.length<=900)(hf:(L.map (·.e.id)).findIdx? (· == x.e.id)=none):aK 124 #[af b,.agg (bU x.e),.agg (bq x.s)] w fun r w'=>∃v',r=.returned (i_ (L.length:Nat))/\fC w' (fun i=>I i\/J i) b p t gs cs room v' mb (L++[x])/\Kp (fun i=>i=b\/i=mb\/v.ownBlock=some i) w w'/\(v'.ownBlock=v.ownBlock\/∃g,v'.ownBlock=some g/\w.heap.size<=g):=by
 obtain⟨sa,c,rfl⟩:=h.slice;refine(uo b p h.Rf room sa L.length c mb (mu L) x.e he x.s hs hn w h.has h.row (fun k hk=>h.UW hk) h.T1 (fun _ v3=>dv v3 mb (L.map (·.e.id)++[x.e.id])) ?_ (fun k hk=>h.T2 hk) h.map.lt).mono ?_
 ·refine h_ fun v2 hv2=>?_
  obtain⟨w',h1,h2,h3⟩:=(h.map.on hv2).put he.2 hf (by rw[List.length_map];omega) L.length (by rw[List.length_map]);exact⟨w',h1,h2,h3⟩
 ·rintro r w' ⟨v',v2,rfl,hA,hR,hl,hK,hM⟩
  have hI:∀i,I i->¬(i=b\/i=mb\/(Value.slice sa L.length c).ownBlock=some i):=fun i hi e=>by
   rcases e with rfl|rfl|e
   exact h.nb hi;exact h.nm hi;exact h.nv _ e hi
  refine⟨v',rfl,?_,hK,hl⟩;refine{ has:=hA,Rf:=h.Rf,one:=h.one,tt:=h.tt,tok:=h.tok,gn:=h.gn,cn:=h.cn,row:=?_,map:=?_,Q':=?_,checks:=?_,RC:=?_,nb:=?_,nm:=?_,nv:=?_,lt:=?_,b_:=?_ };rw[Lr,List.length_append];exact hR;rw[List.map_append];exact hM;exact(h.Q'.on hK hI).wide fun i hi=>.inl hi
  exact(h.checks.on hK hI).wide fun i hi=>.inl hi
  ·intro y hy;rcases List.mem_append.1 hy with hy|hy
   exact((h.RC y hy).on hK hI).wide fun i hi=>.inl hi
   obtain rfl:y=x:=(by simpa using hy);exact(hJ.on hK Xg).wide fun i hi=>.inr hi
  exact fun e=>e.elim h.nb fun e=>Xg b e (.inl rfl)
  exact fun e=>e.elim h.nm fun e=>Xg mb e (.inr (.inl rfl))
  ·intro k hk e;rcases hl with hl|⟨g,hl,hg⟩
   exact e.elim (h.nv k (hl.symm.trans hk)) fun e=>Xg k e (.inr (.inr (hl.symm.trans hk)))
   rw[hl]at hk;have hkg:g=k:=Option.some.inj hk;have:k<w.heap.size:=e.elim (h.lt k) (Wc k);omega
  exact fun i hi=>Nat.lt_of_lt_of_le (hi.elim (h.lt i) (Wc i)) hK.size
  ·intro y hy;rcases List.mem_append.1 hy with hy|hy
   exact h.b_ y hy;obtain rfl:y=x:=(by simpa using hy);exact⟨he,hs⟩
theorem fC.made(hA:Has w b (jg p room (.slice none 0 0) mb) 147)(Rf:p.ok)(one:p.one)(tt:p.tl=t.C)(tok:t.ok)(gn:t.gn=gs.length)(cn:t.cn=cs.length)(hM:dv w mb [])(hG:fT I (fun w=>aJ w t.ga gs) w)(hC:fT I (fun w=>az w t.ca cs) w)(nb:¬I b)(nm:¬I mb)(hl:∀i,I i->i<w.heap.size):fC w I b p t gs cs room (.slice none 0 0) mb []:=
 { has:=hA,Rf:=Rf,one:=one,tt:=tt,tok:=tok,gn:=gn,cn:=cn,row:=World.ownsRow_nil _ _ _ _,map:=hM,Q':=hG,checks:=hC,RC:=fun x hx=>(by cases hx),nb:=nb,nm:=nm,nv:=fun k hk=>(by cases hk),lt:=hl,b_:=fun x hx=>(by cases hx) }
open NN.Q8
variable{ops:Array Oper}{o:Oper}{a:Act}{Q:Exit->Act->World->Prop}
theorem Dq{rest:List Oper}(hgd:o.guard=none)(x0 x1 x3:Operand)(ho:o.op=.build 147 #[(0,x0),(1,x1),(3,x3)])(p:NN.Pr)(hp:p.ok)(room mb:Nat)(h0:a.eval x0=.agg (NN.aE p))(h1:a.eval x1=i_ room)(h3:a.eval x3=.map (some mb))(hk:wpList Tryz.prog ops Q rest (a.put o.dst (.agg (jg p room (.slice none 0 0) mb))) w):wpList Tryz.prog ops Q (o::rest) a w:=
 wpList_plain hgd fun _ hK=>by
  unfold Oper.wp execOp;simp only[ho,Sem.run_bind];rw[show(#[(0,x0),(1,x1),(3,x3)]:Array (Nat×Operand)).map (fun(i,x)=>(i,a.eval x))=#[(0,.agg (NN.aE p)),(1,i_ room),(3,.map (some mb))] by simp[h0,h1,h3],run_build w 147 _ _ (NG p hp room mb)];exact hK _ _ hk
variable{P:Program}{C:World->Prop}{S:World->World->Prop}{f:FuncId}{args:Array Value}
theorem P2{R:Value->World->Prop}{J:Act->World->Prop}(hn:Region.wanted o (yielded ops a.tmps)=true)(h:(execOp a.eval o).run P w=.ok (.enter f args) w)(hcall:Calls P f args w fun e w'=>∃v,e=.returned v/\C w'/\S w w'/\R v w'/\J (a.put o.dst v) w'):if Region.wanted o (yielded ops a.tmps)=true then o.wp P a w (fun a' w'=>C w'/\S w w'/\∃v,a'=a.put o.dst v/\R v w'/\J a' w') Q else R undef w/\J (a.put o.dst undef) w:=by
 rw[if_pos hn];unfold Oper.wp;rw[h];refine Calls.mono hcall fun e w' he=>?_
 obtain⟨v,rfl,h1,h2,h3,h4⟩:=he;exact⟨h1,h2,v,rfl,h3,h4⟩
theorem yy{a0:Act}{R:Nat->Value->World->Prop}{I:Array Bool->Act->World->Prop}{lz:Array Bool}(i:Nat)(_hinv:c_ .any ops a0 C R I lz a w)(hn:Region.wanted o (yielded ops a.tmps)=true)(h:(execOp a.eval o).run P w=.ok (.enter f args) w)(hcall:Calls P f args w fun e w'=>∃v,e=.returned v/\C w'/\S w w'/\R i v w'/\I (lz.setIfInBounds i true) (a.put o.dst v) w'):if Region.wanted o (yielded ops a.tmps)=true then o.wp P a w (fun a' w'=>C w'/\S w w'/\∃v,a'=a.put o.dst v/\R i v w'/\I (lz.setIfInBounds i true) a' w') Q else R i undef w/\I (lz.setIfInBounds i true) (a.put o.dst undef) w:=
 P2 (S:=S) (C:=C) (R:=R i) (J:=fun a' w'=>I (lz.setIfInBounds i true) a' w') hn h hcall
def Lw(v1:World)(bA:Nat)(p:NN.Pr)(e:En)(q:Ps):Nat->Value->World->Prop
 | 0,u,_=>u=af bA
 | 1,u,_=>u=.agg (NN.aE p)
 | 2,u,_=>u=.agg (bU e)
 | 3,u,_=>u=.agg (NN.aE p)
 | 4,u,w=>∃s:Sp,u=.agg (bq s)/\s.ok/\fT (fun i=>v1.heap.size<=i) (fun w=>eH w 0 s q) w
 | _,_,_=>bA=bA
theorem JD{v1:World}{bA:Nat}{e:En}{q:Ps}{G:Nat->Prop}(hG:∀i,G i->i<v1.heap.size):∀(i:Nat)(u:Value)(w w':World),Kp G w w'->Lw v1 bA p e q i u w->Lw v1 bA p e q i u w'
 | 0,_,_,_,_,h=>h
 | 1,_,_,_,_,h=>h
 | 2,_,_,_,_,h=>h
 | 3,_,_,_,_,h=>h
 | 4,_,_,_,hk,⟨s,h1,h2,h3⟩=>⟨s,h1,h2,h3.on hk fun i hi hg=>absurd (hG i hg) (by omega)⟩
 | _+5,_,_,_,_,h=>h
theorem CH(p:NN.Pr)(hp:p.ok)(t:Tl)(room m1:Int)(R:Nat)(hm1:m1=max room 1)(hR:(R:Int)=min m1 512)(gs:List Gt)(cs:List Ck)(e:En)(he:e.ok)(q:Ps)(q32:q.prev.length=32)(w:World)(KG:aO w 138 #[.agg (NN.aE p)] (.bool true))(KC:Hid (∀w',Below w.heap.size w w'->aK 139 #[.agg (NN.aE p)] w' fun e w''=>∃(p':NN.Pr)(t':Tl),e=.returned (.agg (NN.aE p'))/\(p'.ok/\p'.one/\p'.tl=t'.C/\t'.ok/\t'.gn=gs.length/\t'.cn=cs.length/\p'.lim=p.lim/\p'.QX=p.QX/\p'.Q6=p.Q6/\p'.Q2=p.Q2/\p'.Q4=p.Q4/\t'.g=t.g)/\fT (fun i=>w'.heap.size<=i) (fun w=>aJ w t'.ga gs) w''/\fT (fun i=>w'.heap.size<=i) (fun w=>az w t'.ca cs) w''/\Below w'.heap.size w' w''))(KE:Hid (∀w',Below w.heap.size w w'->ak 140 #[.agg (NN.aE p)] w' (.agg (bU e))))(KB:Hid (∀w',Below w.heap.size w w'->aK 141 #[.agg (NN.aE p)] w' fun r w''=>∃s,r=.returned (.agg (bq s))/\(bq s).size=38/\eH w'' w'.heap.size s q/\Below w'.heap.size w' w'')):aK 105 #[.agg (NN.aE p),.int .i64 room] w fun r w'=>∃b I p' t' v mb x,r=.returned (.tuple #[.pointer (some ⟨b,0,none⟩),.int .i64 0])/\fC w' I b p' t' gs cs R v mb [x]/\x.e=e/\x.q=q/\(p'.lim=p.lim/\p'.QX=p.QX/\p'.Q6=p.Q6/\p'.Q2=p.Q2/\p'.Q4=p.Q4/\t'.g=t.g)/\(∀i,jC I b v mb i->w.heap.size<=i)/\Below w.heap.size w w':=by
 have hz:=NN.eu hp;go_enter Tryz.func105,Tryz.ntmps105;go_upto_region 1 with fail
 generalize hw0:World.alloc _ _=v0;have hB:Below w.heap.size w v0:=de hw0;have hP:NN.aA v0 w.heap.size p:=by rw[<-hw0];exact NN.Has.new _ _
 have hs0:w.heap.size+1<=v0.heap.size:=by rw[<-hw0];simp
 clear hw0;obtain⟨bP,Q5⟩:∃x,x=w.heap.size:=⟨_,rfl⟩;rw[<-Q5]at hP|-;have Vm:Hid (bP=w.heap.size):=h_ Q5;clear Q5;go_wp2_with (first|fail|(with_reducible refine NN.dK rfl _ rfl _ rfl hP hz ?_))
 refine(KG.out _ hB).mono ?_;rintro r v1 ⟨rfl,hb⟩;replace hP:=hP.on hb;replace hB:=ah hB hb;have hs1:w.heap.size+1<=v1.heap.size:=Nat.le_trans hs0 hb.size;clear hb hs0;go_wp2_with (first|fail|(with_reducible refine NN.dK rfl _ rfl _ rfl hP hz ?_))
 refine(KC.out _ hB).mono ?_;rintro r v2 ⟨p',t',rfl,⟨p1,p2,p3,p4,p5,p6,a1,a2,a3,a4,a5,a6⟩,hG,hC,hb⟩;replace hP:=hP.on hb;replace hB:=ah hB hb;have hs2:w.heap.size+1<=v2.heap.size:=Nat.le_trans hs1 hb.size;have aa9:Hid (v1.heap.size<=v2.heap.size):=h_ hb.size;have Sb:=h_ hs1;clear hb hs1;have hmax:=NN.ld (P:=Tryz.prog) room 1 m1 hm1;have hmin:=NN.g_ (P:=Tryz.prog) m1 512 (R:Int) hR;clear hm1 hR;have hmk:∀w:World,(Instr.makeMap 145 none).run Tryz.prog w=.ok (.map (some w.heap.size)) (w.alloc (.map #[] 0)):=fun _=>by kernel_rfl
 go_upto_region 4 with(with_reducible first|refine NN.dK rfl _ rfl _ rfl hP hz ?_|refine Dq rfl _ _ _ rfl p' p1 R v2.heap.size rfl rfl rfl ?_)
 have ZZ:(v2.alloc (.map #[] 0)).heap.size=v2.heap.size+1:=by simp
 have hA3:Has ((v2.alloc (.map #[] 0)).alloc (.cells (jg p' R (.slice none 0 0) v2.heap.size) 147)) (v2.heap.size+1) (jg p' R (.slice none 0 0) v2.heap.size) 147:=by rw[<-ZZ];exact Has.new _ _
 have hb3:Below v2.heap.size v2 ((v2.alloc (.map #[] 0)).alloc (.cells (jg p' R (.slice none 0 0) v2.heap.size) 147)):=aZ.alloc (by simp) _;have Yq:dv ((v2.alloc (.map #[] 0)).alloc (.cells (jg p' R (.slice none 0 0) v2.heap.size) 147)) v2.heap.size []:=(dv.made v2).on (heap_alloc_old _ _ (by simp));obtain⟨mb,hmb⟩:∃x,x=v2.heap.size:=⟨_,rfl⟩;obtain⟨bA,Uk⟩:∃x,x=v2.heap.size+1:=⟨_,rfl⟩;rw[<-Uk]at hA3|-;rw[<-hmb]at hA3 Yq hb3|-;have hs3:((v2.alloc (.map #[] 0)).alloc (.cells (jg p' R (.slice none 0 0) mb) 147)).heap.size=v2.heap.size+2:=by simp
 generalize hv3:World.alloc (World.alloc v2 _) _=v3 at*;have hA:fC v3 (fun i=>v1.heap.size<=i/\i<v2.heap.size) bA p' t' gs cs R (.slice none 0 0) mb []:=fC.made hA3 p1 p2 p3 p4 p5 p6 Yq (hG.clip.on (G:=fun _=>False) (Kp.of (by first|exact hmb▸hb3|(unfold Bl;exact hmb▸hb3))) (fun _ _ h=>h)) (hC.clip.on (G:=fun _=>False) (Kp.of (by first|exact hmb▸hb3|(unfold Bl;exact hmb▸hb3))) (fun _ _ h=>h)) (fun h=>by omega) (fun h=>by omega) (fun i hi=>by rw[hs3];omega);have hP3:NN.aA v3 bP p:=hP.on (by first|exact hmb▸hb3|(unfold Bl;exact hmb▸hb3));have hB3:Below w.heap.size w v3:=hB.trans (hb3.mono (by rw[hmb];exact hB.size));have HF:Hid (∀i,(i=bA\/i=mb)->i<v3.heap.size):=h_ fun i hi=>by rw[hs3];omega
 have HL:Hid (w.heap.size<=v1.heap.size/\w.heap.size<=mb/\w.heap.size<=bA/\w.heap.size<=v3.heap.size/\bP≠bA/\bP≠mb):=h_ (by rw[hs3];have:=Sb.out;have:=Vm.out;omega);clear hA3 Yq hb3 hs3 ZZ hmk hmax hmin hG hC hP hB hmb Uk hv3;refine iy (by kernel_rfl) (fun w'=>(Below w.heap.size w w'/\v3.heap.size<=w'.heap.size)/\NN.aA w' bP p) (fun i v' w'=>Lw v3 bA p e q i v' w') (fun l _ w'=>Ph 5 (fun w'=>fC w' (fun i=>v1.heap.size<=i/\i<v2.heap.size) bA p' t' gs cs R (.slice none 0 0) mb []) (fun w'=>∃I v x,fC w' I bA p' t' gs cs R v mb [x]/\x.e=e/\x.q=q/\∀i,jC I bA v mb i->w.heap.size<=i) l w') (fun w w'=>Kp (fun i=>i=bA\/i=mb) w w') (fun w' _=>Kp.refl _ w') (fun i v w w' _ hs h=>JD HF.out i v w w' hs h) (by kernel_rfl) ⟨⟨hB3.trans (bg.drew.mono hB3.size),(Below.refl v3.heap.size v3).drew.size⟩,NN.Has.drew hP3⟩ ?_ ?_ ?_;exact fun l hl=>Ph.zero hl (hA.below bg.drew)
 ·intro i o lz a wx ho' hnl dq Z;have hC:=Z.c;have hI:=Z.i;have hi:i<6:=(Array.getElem?_eq_some_iff.1 ho').1;obtain rfl|rfl|rfl|rfl|rfl|rfl:i=0\/i=1\/i=2\/i=3\/i=4\/i=5:=by omega
  all_goals obtain rfl:=Option.some.inj ho'
  exact dF (S:=fun w w'=>Kp (fun i=>i=bA\/i=mb) w w') (fun w' _=>Kp.refl _ w') 0 Z (an rfl) (NN.dL rfl) (Z.old' 6) (hI.keep (aw Z 0));exact dF (S:=fun w w'=>Kp (fun i=>i=bA\/i=mb) w w') (fun w' _=>Kp.refl _ w') 1 Z (an rfl) (NN.Cs rfl (Z.old' 2) hC.2 hz) rfl (hI.keep (aw Z 1))
  ·have hsz:=aw Z 2;have QY:=dG Z hnl 5;have hpre:=hI.pre QY hsz (by decide);exact mB (S:=fun w w'=>Kp (fun i=>i=bA\/i=mb) w w') 2 Z (an rfl) (f:=140) (args:=#[a.eval (.tmp 19)]) (by kernel_rfl) (by rw[show a.eval (.tmp 19)=_ from(au Z dq 1 19)];  exact KE.out wx hC.1.1) (fun w' hb=>⟨⟨⟨ah hC.1.1 hb,Nat.le_trans hC.1.2 hb.size⟩,NN.aA.on hC.2 hb⟩,Kp.of hb,rfl,Ph.made QY (hpre.below hb)⟩)
  exact dF (S:=fun w w'=>Kp (fun i=>i=bA\/i=mb) w w') (fun w' _=>Kp.refl _ w') 3 Z (an rfl) (NN.Cs rfl (Z.old' 2) hC.2 hz) rfl (hI.keep (aw Z 3))
  ·have hsz:=aw Z 4;have QY:=dG Z hnl 5;have hpre:=hI.pre QY hsz (by decide)
   exact zR (V:=fun v w'=>∃s,v=.agg (bq s)/\(bq s).size=38/\eH w' wx.heap.size s q) (C:=(fun w'=>(Below w.heap.size w w'/\v3.heap.size<=w'.heap.size)/\NN.aA w' bP p)) (S:=(fun w w'=>Kp (fun i=>i=bA\/i=mb) w w')) (R:=fun v' w'=>Lw v3 bA p e q 4 v' w') (J:=fun _ w'=>Ph 5 (fun w'=>fC w' (fun i=>v1.heap.size<=i/\i<v2.heap.size) bA p' t' gs cs R (.slice none 0 0) mb []) (fun w'=>∃I v x,fC w' I bA p' t' gs cs R v mb [x]/\x.e=e/\x.q=q/\∀i,jC I bA v mb i->w.heap.size<=i) (lz.setIfInBounds 4 true) w') (an rfl) (f:=141) (args:=#[a.eval (.tmp 21)]) (by kernel_rfl) (by
    rw[show a.eval (.tmp 21)=_ from(au Z dq 3 21)];refine(KB.out wx hC.1.1).mono ?_;rintro r w' ⟨s,rfl,h1,h2,h3⟩
    exact⟨_,rfl,⟨s,rfl,h1,h2⟩,h3⟩) (fun v w' hv hb=>⟨⟨⟨ah hC.1.1 hb,Nat.le_trans hC.1.2 hb.size⟩,NN.aA.on hC.2 hb⟩,Kp.of hb,(by
     obtain⟨s,rfl,h1,h2⟩:=hv;exact⟨s,rfl,(by unfold Sp.ok;rw[h2.2.1];exact q32),Il h2 fun i hi _=>Nat.le_trans hC.1.2 hi⟩),Ph.made QY (hpre.below hb)⟩)
  ·have hsz:=aw Z 5;have hpre:=hI.1 hnl;obtain⟨s,e22,so,hJ⟩:=(au Z dq 4 22)
   exact yy (S:=fun w w'=>Kp (fun i=>i=bA\/i=mb) w w') 5 Z (an rfl) (f:=124) (args:=#[a.eval (.tmp 18),a.eval (.tmp 20),a.eval (.tmp 22)]) (by kernel_rfl) (by
    rw[show a.eval (.tmp 18)=_ from(au Z dq 0 18),show a.eval (.tmp 20)=_ from(au Z dq 2 20),e22];have Wc:=HF.out;refine(F9 hpre ⟨e,s,q⟩ he so (fun i=>v3.heap.size<=i/\i<wx.heap.size) hJ.clip (fun i hi=>hi.2) (fun i hi h=>?_) (by decide) rfl).mono ?_
    ·rcases h with h|h|h
     have:=Wc i (.inl h);omega;have:=Wc i (.inr h);omega;cases h
    ·rintro r w' ⟨v',rfl,hA',hK,hl⟩;have U0:Kp (fun i=>i=bA\/i=mb) wx w':=hK.mono fun i hi _=>hi.elim .inl (fun h=>h.elim .inr (fun h=>by cases h))
     obtain⟨l1,l2,l3,l4,l5,l6⟩:=HL.out;refine⟨_,rfl,⟨⟨hC.1.1.trans (U0.below (fun i hi=>by rcases hi with rfl|rfl<;>assumption) hC.1.1.size),Nat.le_trans hC.1.2 U0.size⟩,U0.X0 hC.2 (fun h=>h.elim l5 l6)⟩,U0,rfl,Ph.last hsz ⟨_,v',_,hA',rfl,rfl,fun i hi=>?_⟩⟩;rcases hi with(hi|hi)|rfl|rfl|hi
     exact Nat.le_trans l1 hi.1;exact Nat.le_trans l4 hi.1;exact l3;exact l2
     ·rcases hl with hl|⟨g,hl,hg⟩
      rw[hl]at hi;cases hi;rw[hl]at hi;have hig:g=i:=Option.some.inj hi;have:=hC.1.2;omega)
 intro lz a' v4 hall Z;have hC:=Z.c.1;obtain⟨I,v,x,hE,x1,x2,hm⟩:=Z.i.2 (hall 5 (by decide));have e6:a'.eval (.tmp 6)=.pointer (some ⟨bA,0,none⟩):=Z.old' 6;obtain⟨u,hu⟩:∃u:Nat->Value,∀t,u t=a'.eval (.tmp t):=⟨_,fun _=>rfl⟩;rw[fc a' 25 u Z.QU Z.defers hu];rw[<-hu]at e6;clear hu Z hall;simp only[List.range,List.range.loop,List.map_cons,List.map_nil];rw[e6];clear e6;go_wp2_with fail
 go_ret2;exact⟨bA,I,p',t',v,mb,x,rfl,hE,x1,x2,⟨a1,a2,a3,a4,a5,a6⟩,hm,hC.1⟩
end An
namespace An
open Mem Sc
open Ar (aq Ru aB)
def dM(room:Int):Nat:=(min (max room 1) 512).toNat
theorem EG(room:Int):((dM room:Nat):Int)=min (max room 1) 512:=by unfold dM;omega
theorem Bn(p:NN.Pr)(hp:p.ok)(h1:p.one)(t:Tl)(tt:p.tl=t.C)(ht:t.ok)(gs:List Gt)(cs:List Ck)(hgn:t.gn=gs.length)(hcn:t.cn=cs.length)(hgl:t.gn<=1000)(hcl:t.cn<=1000)(room:Int)(hgood:jd p t.g gs cs=true)(w:World)(hT:dS w)(hG:aJ w t.ga gs)(hC:az w t.ca cs):aK 105 #[.agg (NN.aE p),i_ room] w fun r w'=>∃b F,r=.returned (.tuple #[af b,i_ 0])/\ie w' F b ⟨p,t.g,gs,cs,dM room⟩ [aB]/\(∀i,F i->w.heap.size<=i)/\Bl w w':=by
 have e1:bs ⟨p,t.g,gs,cs,dM room⟩ aB=⟨t.g,t.g.id,-1,0,NN.ofBits t.g.bits⟩:=rfl;refine(CH p hp t room (max room 1) (dM room) rfl (EG room) gs cs (bs ⟨p,t.g,gs,cs,dM room⟩ aB) ⟨ht.2,im _⟩ (FX p t.g) (im _) w ?_ ?_ ?_ ?_).mono ?_
 ·refine h_ fun w' hb=>?_
  have:=Jw p hp t tt ht gs cs hgn hcn hgl hcl w' (hG.below hb) (hC.below hb);rwa[hgood]at this
 ·refine h_ fun w' hb=>(Fk p hp h1 t tt ht gs cs hgn hcn hgl hcl w' (hG.below hb) (hC.below hb)).mono ?_
  rintro e w2 ⟨ga,gc,ca,cc,rfl,q1,q2,q3⟩;refine⟨gK p t ga gc ca cc,Ba t ga gc ca cc,rfl,⟨EU p t ht ga gc ca cc,?_,rfl,ht,hgn,hcn,rfl,rfl,rfl,rfl,rfl,rfl⟩,q1,q2,q3⟩;intro v hv;have hv':v∈(Value.slice ga t.gn gc::Value.slice ca t.cn cc::(t.nn++bp t.g)):=hv;simp only[List.mem_cons]at hv';rcases hv' with rfl|rfl|hv'
  rfl;rfl;exact h1 v (by rw[tt];unfold Tl.C;simp only[List.mem_cons];exact .inr (.inr hv'))
 ·refine h_ fun w' hb=>Hg p t tt ht _ ⟨ht.2,im _⟩ rfl rfl rfl w' ?_ ?_
  exact h_ fun w2 hb2=>lV t.g ht.2 w2 (hT.below (ah hb hb2))
  exact h_ fun w2=>NN.ya t.g.bits w2
 exact h_ fun w' hb=>CI p hp t tt ht w' (hT.below hb)
 rintro r w' ⟨b,I,p',t',v,mb,x,rfl,hA,x1,x2,ha,hm,hb⟩;refine⟨b,jC I b v mb,rfl,⟨fun i hi=>hA.RI hi,I,p',t',v,mb,[x],hA,ha,?_,fun i hi=>hi⟩,hm,hb⟩;unfold Lk;simp only[List.map_cons,List.map_nil,x1,x2];rfl
end An
namespace NN
open Q8 An
theorem EZ{C:World->Prop}{a:Act}{o:Oper}{K:Act->Prop}(T t':TypeId)(p:BinOp)(hT:Tryz.prog.eqGuardType Tryz.prog.depth T=false)(x y:Operand)(ho:o.op=.binOp p T x y t')(xs ys:Array Value)(v:Value)(hx:a.eval x=.agg xs)(hy:a.eval y=.agg ys)(hq:∀w,(binOp p T (.agg xs) (.agg ys)).run Tryz.prog w=.ok v w)(hk:K (a.put o.dst v)):o.quiet Tryz.prog a C K:=
 ⟨_,fun w' hw'=>by
  unfold Oper.quietAt
  have this:(execOp a.eval o).run Tryz.prog w'=.ok (.value v) w':=by
   unfold execOp;simp only[ho,hx,hy,Sem.run_bind,Sem.run_pure,run_eqGuard_agg w' p T x y xs ys hT,Result.andThen_ok,hq]
  rw[this];exact⟨rfl,rfl⟩,hk⟩
theorem Er:Tryz.prog.eqGuardType Tryz.prog.depth 26=false:=by kernel_rfl
theorem oX(x y:Nat)(hx:x<Nm.ai)(hy:y<Nm.ai):∃z c,z=(x+Nm.ai-y)%Nm.ai/\z<Nm.ai/\cp 146 #[.agg (aa x),.agg (aa y)] (.tuple #[.agg (aa z),.bool c]):=⟨_,_,rfl,Nat.mod_lt _ jr,fun w=>r7 x y hx hy w⟩
theorem pR(x y:Nat)(hx:x<Nm.ai)(hy:y<Nm.ai):∃z c,z=(x+y)%Nm.ai/\z<Nm.ai/\cp 115 #[.agg (aa x),.agg (aa y)] (.tuple #[.agg (aa z),.bool c]):=⟨_,_,rfl,Nat.mod_lt _ jr,fun w=>ru x y hx hy w⟩
theorem ij:1<Nm.ai:=by rw[Nm.bK];exact Nat.lt_of_lt_of_le (by decide) (Nat.pow_le_pow_right (by decide) (show 1<=256 by decide))
structure Qr (w wr:World) (b1 bR b3 b4 b6 b7 t m4 o r:Nat):Prop where
 be:Bl w wr
 a1:Has wr b1 (aa t) 26
 aR:Has wr bR (aa 0) 26
 a3:Has wr b3 (aa 1) 26
 a4:Has wr b4 (aa m4) 26
 a6:Has wr b6 (aa o) 26
 a7:Has wr b7 (aa r) 26
structure ye (w wr:World) (b1 bR b3 b4 b7 t m4 r:Nat):Prop where
 be:Bl w wr
 a1:Has wr b1 (aa t) 26
 aR:Has wr bR (aa 0) 26
 a3:Has wr b3 (aa 1) 26
 a4:Has wr b4 (aa m4) 26
 a7:Has wr b7 (aa r) 26
variable{w wr:World}{b1 bR b3 b4 b7 t m4 r:Nat}
theorem ye.on{w':World}(h:ye w wr b1 bR b3 b4 b7 t m4 r)(hb:Bl wr w'):ye w w' b1 bR b3 b4 b7 t m4 r:=⟨ah h.be hb,h.a1.on hb,h.aR.on hb,h.a3.on hb,h.a4.on hb,h.a7.on hb⟩
theorem ye.row(h:ye w wr b1 bR b3 b4 b7 t m4 r)(g z:Nat)(h0:w.heap.size<=g)(h1:b1≠g)(h2:bR≠g)(h3:b3≠g)(h4:b4≠g)(h5:b7≠g):ye w (wr.setRow g (aa z)) b1 bR b3 b4 b7 t m4 r:=⟨below_setRow h.be h0 _,h.a1.QR _ _ h1,h.aR.QR _ _ h2,h.a3.QR _ _ h3,h.a4.QR _ _ h4,h.a7.QR _ _ h5⟩
def QK(o z m3 o2:Nat->Value)(b:Bool):Nat->Value->Prop
 | 0,u=>u=o 0
 | 1,u=>u=.agg (aa 1)
 | 2,u=>u=z 0
 | 3,u=>u=m3 0
 | 4,u=>u=.tuple #[o2 0,.bool b]
 | 5,u=>u=.tuple #[o2 0,.bool b]
 | 6,u=>u=o2 0
 | 7,u=>u=.bool b
 | _,_=>b=b
theorem GG(t:Nat)(m4:Nat)(KA:Hid (cp 115 #[.agg (aa t),.agg (aa 1)] (.tuple #[.agg (aa m4),.bool true])))(HW:Hid (1=Nm.work t))(w:World):aK 110 #[.agg (aa t)] w fun e w'=>∃z,(z<Nm.ai/\z=Nm.work t)/\e=.returned (.agg (aa z))/\Bl w w':=by
 go_enter Tryz.func110,Tryz.ntmps110;go_upto_region 1 with fail
 generalize hw0:World.alloc _ _=v0;have bj:Bl w v0:=by rw[<-hw0];exact aZ.alloc (by simp) _
 have h1:Has v0 w.heap.size (aa t) 26:=by rw[<-hw0];exact(Has.new _ _).alloc _
 have hR:Has v0 (w.heap.size+1) (aa 0) 26:=by rw[<-hw0];exact Has.QW _ (aa 0) _
 clear hw0;obtain⟨SY,Ur⟩:∃x,x=w.heap.size:=⟨_,rfl⟩;obtain⟨RP,TG⟩:∃x,x=w.heap.size+1:=⟨_,rfl⟩;rw[<-TG]at hR|-;rw[<-Ur]at h1|-;have NR:Hid (w.heap.size<=RP/\SY<RP):=h_ (by omega);clear Ur TG;have q1:=hR.lt;go_upto_region 2 with(with_reducible first|refine aI rfl _ rfl _ rfl _ (by assumption) rfl ?_|refine lU rfl _ _ rfl _ 1 _ rfl rfl oV _ (Has.QS _) rfl ?_)
 generalize hw1:World.setRow _ _ _=v1;have hb1:Bl v0 v1:=cU hw1;have h3:Has v1 v0.heap.size (aa 1) 26:=by rw[<-hw1];exact(Has.QS _).row _
 replace h1:=h1.on hb1;replace hR:=hR.on hb1;replace bj:=ah bj hb1;clear hw1 hb1;obtain⟨RR,RL⟩:∃x,x=v0.heap.size:=⟨_,rfl⟩;rw[<-RL]at h3 q1|-;clear RL;have TH:=h_ q1;clear q1;go_wp2_with (first|fail|(with_reducible refine aI rfl _ rfl _ rfl _ (by assumption) rfl ?_))
 refine ar (KA.out _) fun v2 hb2=>?_;replace h1:=h1.on hb2;replace hR:=hR.on hb2;replace h3:=h3.on hb2;replace bj:=ah bj hb2;clear hb2;have q3:=h3.lt;go_upto_region 3 with(with_reducible first|refine aI rfl _ rfl _ rfl _ (by assumption) rfl ?_|refine aW rfl _ _ rfl _ _ rfl rfl _ (Has.QS _) rfl ?_)
 generalize hw3:World.setRow _ _ _=v3;have hb3:Bl v2 v3:=cU hw3;have h4:Has v3 v2.heap.size (aa m4) 26:=by rw[<-hw3];exact(Has.QS _).row _
 replace h1:=h1.on hb3;replace hR:=hR.on hb3;replace h3:=h3.on hb3;replace bj:=ah bj hb3;clear hw3 hb3;obtain⟨R2,Sk⟩:∃x,x=v2.heap.size:=⟨_,rfl⟩;rw[<-Sk]at h4 q3|-;clear Sk;have T3:=h_ q3;clear q3;go_wp2_with (with_reducible first|refine aI rfl _ rfl _ rfl _ (by assumption) rfl ?_|refine aW rfl _ _ rfl _ _ rfl rfl _ hR rfl ?_)
 exact bodyPost_ret (v:=.agg (aa (1))) (fw Tryz.results110 _ _ _ rfl (hR.row _)) rfl ⟨_,⟨ij,HW.out⟩,rfl,below_setRow bj NR.out.1 _⟩
theorem Gb(t:Nat)(m4:Nat)(KA:Hid (cp 115 #[.agg (aa t),.agg (aa 1)] (.tuple #[.agg (aa m4),.bool false])))(HW:Hid (Nm.ai-1=Nm.work t))(hq:∀w,(binOp .eql 26 (.agg (aa t)) (.agg #[ax 0,ax 0,ax 0,ax 0])).run Tryz.prog w=.ok (.bool true) w)(w:World):aK 110 #[.agg (aa t)] w fun e w'=>∃z,(z<Nm.ai/\z=Nm.work t)/\e=.returned (.agg (aa z))/\Bl w w':=by
 have KM:=h_ pW;go_enter Tryz.func110,Tryz.ntmps110;go_upto_region 1 with fail
 generalize hw0:World.alloc _ _=v0;have bj:Bl w v0:=by rw[<-hw0];exact aZ.alloc (by simp) _
 have h1:Has v0 w.heap.size (aa t) 26:=by rw[<-hw0];exact(Has.new _ _).alloc _
 have hR:Has v0 (w.heap.size+1) (aa 0) 26:=by rw[<-hw0];exact Has.QW _ (aa 0) _
 clear hw0;obtain⟨SY,Ur⟩:∃x,x=w.heap.size:=⟨_,rfl⟩;obtain⟨RP,TG⟩:∃x,x=w.heap.size+1:=⟨_,rfl⟩;rw[<-TG]at hR|-;rw[<-Ur]at h1|-;have NR:Hid (w.heap.size<=RP/\SY<RP):=h_ (by omega);clear Ur TG;have q1:=hR.lt;go_upto_region 2 with(with_reducible first|refine aI rfl _ rfl _ rfl _ (by assumption) rfl ?_|refine lU rfl _ _ rfl _ 1 _ rfl rfl oV _ (Has.QS _) rfl ?_)
 generalize hw1:World.setRow _ _ _=v1;have hb1:Bl v0 v1:=cU hw1;have h3:Has v1 v0.heap.size (aa 1) 26:=by rw[<-hw1];exact(Has.QS _).row _
 replace h1:=h1.on hb1;replace hR:=hR.on hb1;replace bj:=ah bj hb1;clear hw1 hb1;obtain⟨RR,RL⟩:∃x,x=v0.heap.size:=⟨_,rfl⟩;rw[<-RL]at h3 q1|-;clear RL;have TH:=h_ q1;clear q1;go_wp2_with (first|fail|(with_reducible refine aI rfl _ rfl _ rfl _ (by assumption) rfl ?_))
 refine ar (KA.out _) fun v2 hb2=>?_;replace h1:=h1.on hb2;replace hR:=hR.on hb2;replace h3:=h3.on hb2;replace bj:=ah bj hb2;clear hb2;have q3:=h3.lt;go_upto_region 3 with(with_reducible first|refine aI rfl _ rfl _ rfl _ (by assumption) rfl ?_|refine aW rfl _ _ rfl _ _ rfl rfl _ (Has.QS _) rfl ?_)
 generalize hw3:World.setRow _ _ _=v3;have hb3:Bl v2 v3:=cU hw3;have h4:Has v3 v2.heap.size (aa m4) 26:=by rw[<-hw3];exact(Has.QS _).row _
 replace h1:=h1.on hb3;replace hR:=hR.on hb3;replace h3:=h3.on hb3;replace bj:=ah bj hb3;clear hw3 hb3;obtain⟨R2,Sk⟩:∃x,x=v2.heap.size:=⟨_,rfl⟩;rw[<-Sk]at h4 q3|-;clear Sk;have T3:=h_ q3;clear q3;go_wp2_with (first|fail|(with_reducible refine aI rfl _ rfl _ rfl _ (by assumption) rfl ?_))
 refine ar (KM.out _) fun v4 hb4=>?_;replace h1:=h1.on hb4;replace hR:=hR.on hb4;replace h3:=h3.on hb4;replace h4:=h4.on hb4;replace bj:=ah bj hb4;clear hb4;go_wp2_with (with_reducible first|refine aI rfl _ rfl _ rfl _ (by assumption) rfl ?_|refine aW rfl _ _ rfl _ _ rfl rfl _ hR rfl ?_)
 exact bodyPost_ret (v:=.agg (aa (Nm.ai-1))) (fw Tryz.results110 _ _ _ rfl (hR.row _)) rfl ⟨_,⟨(by have:=jr;omega),HW.out⟩,rfl,below_setRow bj NR.out.1 _⟩
theorem Fv(t:Nat)(ht:t<Nm.ai)(m4:Nat)(KA:Hid (cp 115 #[.agg (aa t),.agg (aa 1)] (.tuple #[.agg (aa m4),.bool false])))(Ug:m4<Nm.ai)(Yr:Hid (m4=t+1/\0<t))(hq:∀w,(binOp .eql 26 (.agg (aa t)) (.agg #[.int .u64 0,.int .u64 0,.int .u64 0,.int .u64 0])).run Tryz.prog w=.ok (.bool false) w)(w:World):aK 110 #[.agg (aa t)] w fun e w'=>∃z,(z<Nm.ai/\z=Nm.work t)/\e=.returned (.agg (aa z))/\Below w.heap.size w w':=by
 have KM:=h_ pW;go_enter Tryz.func110,Tryz.ntmps110;go_upto_region 1 with fail
 generalize hw0:World.alloc _ _=v0;have bj:Below w.heap.size w v0:=by rw[<-hw0];exact aZ.alloc (by simp) _
 have h1:Has v0 w.heap.size (aa t) 26:=by rw[<-hw0];exact(Has.new _ _).alloc _
 have hR:Has v0 (w.heap.size+1) (aa 0) 26:=by rw[<-hw0];exact Has.QW _ (aa 0) _
 clear hw0;obtain⟨SY,Ur⟩:∃x,x=w.heap.size:=⟨_,rfl⟩;obtain⟨RP,TG⟩:∃x,x=w.heap.size+1:=⟨_,rfl⟩;rw[<-TG]at hR|-;rw[<-Ur]at h1|-;have NR:Hid (w.heap.size<=RP/\SY<RP):=h_ (by omega);clear Ur TG;have q1:=hR.lt;go_upto_region 2 with(with_reducible first|refine aI rfl _ rfl _ rfl _ (by assumption) rfl ?_|refine lU rfl _ _ rfl _ 1 _ rfl rfl oV _ (Has.QS _) rfl ?_)
 generalize hw1:World.setRow _ _ _=v1;have hb1:Below v0.heap.size v0 v1:=cU hw1;have h3:Has v1 v0.heap.size (aa 1) 26:=by rw[<-hw1];exact(Has.QS _).row _
 replace h1:=h1.on hb1;replace hR:=hR.on hb1;replace bj:=ah bj hb1;clear hw1 hb1;obtain⟨RR,RL⟩:∃x,x=v0.heap.size:=⟨_,rfl⟩;rw[<-RL]at h3 q1|-;clear RL;have TH:=h_ q1;clear q1;go_wp2_with (first|fail|(with_reducible refine aI rfl _ rfl _ rfl _ (by assumption) rfl ?_))
 refine ar (KA.out _) fun v2 hb2=>?_;replace h1:=h1.on hb2;replace hR:=hR.on hb2;replace h3:=h3.on hb2;replace bj:=ah bj hb2;clear hb2;have q3:=h3.lt;go_upto_region 3 with(with_reducible first|refine aI rfl _ rfl _ rfl _ (by assumption) rfl ?_|refine aW rfl _ _ rfl _ _ rfl rfl _ (Has.QS _) rfl ?_)
 generalize hw3:World.setRow _ _ _=v3;have hb3:Below v2.heap.size v2 v3:=cU hw3;have h4:Has v3 v2.heap.size (aa m4) 26:=by rw[<-hw3];exact(Has.QS _).row _
 replace h1:=h1.on hb3;replace hR:=hR.on hb3;replace h3:=h3.on hb3;replace bj:=ah bj hb3;clear hw3 hb3;obtain⟨R2,Sk⟩:∃x,x=v2.heap.size:=⟨_,rfl⟩;rw[<-Sk]at h4 q3|-;clear Sk;have T3:=h_ q3;clear q3;have q4:=h4.lt;go_upto_region 8 with(with_reducible first|refine aI rfl _ rfl _ rfl _ (by assumption) rfl ?_|refine lU rfl _ _ rfl _ 0 _ rfl rfl fL _ (Has.QS _) rfl ?_)
 generalize hw4:World.setRow _ _ _=v4;have hb4:Below v3.heap.size v3 v4:=cU hw4;have h6:Has v4 v3.heap.size (aa 0) 26:=by rw[<-hw4];exact(Has.QS _).row _
 replace h1:=h1.on hb4;replace hR:=hR.on hb4;replace h3:=h3.on hb4;replace h4:=h4.on hb4;replace bj:=ah bj hb4;clear hw4 hb4;obtain⟨R3,We⟩:∃x,x=v3.heap.size:=⟨_,rfl⟩;rw[<-We]at h6 q4|-;clear We;have Wg:=h_ q4;clear q4;go_wp2_with (first|fail|(with_reducible refine aI rfl _ rfl _ rfl _ (by assumption) rfl ?_))
 refine ar (KM.out _) fun v5 hb5=>?_;replace h1:=h1.on hb5;replace hR:=hR.on hb5;replace h3:=h3.on hb5;replace h4:=h4.on hb5;replace h6:=h6.on hb5;replace bj:=ah bj hb5;clear hb5;have q6:=h6.lt;go_upto_region 9 with(with_reducible first|refine aI rfl _ rfl _ rfl _ (by assumption) rfl ?_|refine aW rfl _ _ rfl _ _ rfl rfl _ (Has.QS _) rfl ?_)
 generalize Vk:World.setRow _ _ _=v6;have hb6:Below v5.heap.size v5 v6:=cU Vk;have h7:Has v6 v5.heap.size (aa (Nm.ai-1)) 26:=by rw[<-Vk];exact(Has.QS _).row _
 replace h1:=h1.on hb6;replace hR:=hR.on hb6;replace h3:=h3.on hb6;replace h4:=h4.on hb6;replace h6:=h6.on hb6;replace bj:=ah bj hb6;clear Vk hb6;obtain⟨Rt,TI⟩:∃x,x=v5.heap.size:=⟨_,rfl⟩;rw[<-TI]at h7 q6|-;clear TI;have Wh:=h_ q6;clear q6;have ND:Hid (SY<RP/\RP<RR/\RR<R2/\R2<R3/\R3<Rt/\w.heap.size<=RP):=h_ ⟨NR.out.2,TH.out,T3.out,Wg.out,Wh.out,NR.out.1⟩;have hs:Qr w v6 SY RP RR R2 R3 Rt t m4 0 (Nm.ai-1):=⟨bj,h1,hR,h3,h4,h6,h7⟩;have Ys:=h_ Ug;have V8:=h_ ht;clear bj h1 hR h3 h4 h6 h7 TH T3 Wg Wh NR hq KA Ug ht;go_wp2_with fail
 go_loopw [8] (fun i wr=>∃(k:Nat)(z:Int)(o r:Nat),k<=256/\i=.int .i64 z/\Hid (z=255-(k:Int)/\o<Nm.ai/\r<Nm.ai/\Nm.LD t k o r)/\Qr w wr SY RP RR R2 R3 Rt t m4 o r) (fun i _=>((intOf i)+1).toNat)
 case atStart=>exact⟨0,255,0,Nm.ai-1,by omega,rfl,h_ ⟨by omega,jr,by have:=jr;omega,Nm.LD.start t⟩,hs⟩
 case round=>
  clear hs;obtain⟨k,z,o,r,hk,rfl,HZ,hs⟩:=hrel;obtain⟨bj,h1,hR,h3,h4,h6,h7⟩:=hs;by_cases hlt:k<256
  ·have hz0:¬z<0:=by have:=HZ.out.1;omega
   have hz1:0<=z:=by omega
   have hz2:z<=255:=by have:=HZ.out.1;omega
   obtain⟨d,ed,hd,Wi⟩:=Aw m4 Ys.out z (by omega) (by omega);obtain⟨nz,hnz⟩:∃nz,nz = -z:=⟨_,rfl⟩;obtain⟨m2,Yt,hm2,Wj⟩:=Aw d hd nz (by omega) (by omega);obtain⟨s,c,es,hsb,Z0⟩:=oX d 1 hd ij;obtain⟨r2,c2,Z1,hr2,Wk⟩:=oX r d HZ.out.2.2.1 hd;obtain⟨m3,Z2,Xe,Wl⟩:=Aw 1 ij z (by omega) (by omega);obtain⟨o2,c3,Wm,ho2,TJ⟩:=pR o m3 HZ.out.2.1 Xe
   have HX:Hid (((!decide (m2=m4))=true->Nm.LD t (k+1) o r)/\((!decide (m2=m4))=false->decide (r<s)=true->Nm.LD t (k+1) o r)/\((!decide (m2=m4))=false->decide (r<s)=false->decide (r2=Nm.ai-1)=false->Nm.LD t (k+1) o2 r2)/\((!decide (m2=m4))=false->decide (r<s)=false->decide (r2=Nm.ai-1)=true->o2=Nm.work t)):=h_ (by
    have e4:=Yr.out.1;have hm:=Ys.out;subst e4;rw[hnz]at Yt;exact Nm.LD.step Yr.out.2 hm hlt HZ.out.1 HZ.out.2.2.1 HZ.out.2.2.2 ed Yt es Z1 Z2 Wm)
   clear ed Yt es Z1 Z2 Wm;have KD:=h_ Wi;have Z3:=h_ Wj;have KS:=h_ Z0;have Z4:=h_ Wk;have KM3:=h_ Wl;have Ta:=h_ TJ;have KL:=h_ fun w=>mI r s HZ.out.2.2.1 hsb w
   have hq2:=fun w=>ub hm2 Ys.out w
   have hq3:=fun w=>pw hr2 (show Nm.ai-1<Nm.ai by have:=jr;omega) w
   have ab1:IntKind.i64.wrap (-z)=nz:=by rw[IntKind.wrap_i64];omega
   obtain⟨z1,hz3⟩:∃z1,z1=z-1:=⟨_,rfl⟩;have ab2:IntKind.i64.wrap (z-1)=z1:=by rw[IntKind.wrap_i64];omega
   have HZ1:Hid (z1=255-((k+1:Nat):Int)):=h_ (by have:=HZ.out.1;omega);have S_:=h_ ho2;have HR2:=h_ hr2;have Yu:Hid (((intOf (.int .i64 z1))+1).toNat<((intOf (.int .i64 z))+1).toNat):=h_ (by simp[intOf];omega);generalize hg2:(!decide (m2=m4))=g2 at*;generalize hg3:decide (r<s)=g3 at*;generalize hg4:decide (r2=Nm.ai-1)=g4 at*;clear Wi Wj Z0 Wk Wl TJ hnz hz3 hz2 hd hm2 hsb hr2 Xe ho2 hg2 hg3 hg4;go_wp2_with (first|fail|(with_reducible refine aI rfl _ rfl _ rfl _ (by assumption) rfl ?_))
   refine ar (KD.out _) fun v21 Sl=>?_;replace h1:=h1.on Sl;replace hR:=hR.on Sl;replace h3:=h3.on Sl;replace h4:=h4.on Sl;replace h6:=h6.on Sl;replace h7:=h7.on Sl;replace bj:=ah bj Sl;clear Sl;have q22:=h7.lt;go_upto_region 13 with(with_reducible first|refine aI rfl _ rfl _ rfl _ (by assumption) rfl ?_|refine aW rfl _ _ rfl _ _ rfl rfl _ (Has.QS _) rfl ?_)
   generalize U1:World.setRow _ _ _=v22;have Sn:Below v21.heap.size v21 v22:=cU U1;have h9:Has v22 v21.heap.size (aa d) 26:=by rw[<-U1];exact(Has.QS _).row _
   replace h1:=h1.on Sn;replace hR:=hR.on Sn;replace h3:=h3.on Sn;replace h4:=h4.on Sn;replace h6:=h6.on Sn;replace h7:=h7.on Sn;replace bj:=ah bj Sn;clear U1 Sn;obtain⟨ab3,Wn⟩:∃x,x=v21.heap.size:=⟨_,rfl⟩;rw[<-Wn]at h9 q22|-;clear Wn;have Wo:=h_ q22;clear q22;simp only[Act.put];refine wp_region_quiet_below (by kernel_rfl) (by kernel_rfl) ?_
   repeat(first
    | (go_big_quiet_want;(with_reducible first|refine nQ _ rfl _ rfl _ h9.cls ?_|refine nQ _ rfl _ rfl _ h4.cls ?_|refine EZ 26 _ .neq Er _ _ rfl _ _ _ rfl rfl hq2 ?_);(simp only[Act.put,List.setIfInBounds_toArray,List.set_cons_zero,List.set_cons_succ]);go_big_quiet_on)
    | go_big_quiet_step ((go_at_call 145;exact Calls.regrown_of (Z3.out _))))
   refine wpQuiet_nil ?_;intro v30 hw';obtain⟨rg,hw''⟩:=hw';have R4:Below v22.heap.size v22 v30:=by rw[hw''];exact below_regrown v22 rg.d rg.os
   clear hw'';replace h1:=h1.on R4;replace hR:=hR.on R4;replace h3:=h3.on R4;replace h4:=h4.on R4;replace h6:=h6.on R4;replace h7:=h7.on R4;replace h9:=h9.on R4;replace bj:=ah bj R4;clear R4 hq2;cases g2
   case true=>
    (go_wp2_with fail);go_roundw
    case rel=>exact⟨k+1,z1,o,r,by omega,rfl,h_ ⟨HZ1.out,HZ.out.2.1,HZ.out.2.2.1,HX.out.1 (by simp)⟩,⟨bj,h1,hR,h3,h4,h6,h7⟩⟩
    case measure=>exact Yu.out
   case false=>
    (go_wp2_with (first|fail|(with_reducible refine aI rfl _ rfl _ rfl _ (by assumption) rfl ?_)));refine ar (KS.out _) fun v31 R5=>?_;replace h1:=h1.on R5;replace hR:=hR.on R5;replace h3:=h3.on R5;replace h4:=h4.on R5;replace h6:=h6.on R5;replace h7:=h7.on R5;replace h9:=h9.on R5;replace bj:=ah bj R5;clear R5;have q32:=h9.lt;(go_upto_region 15 with(with_reducible first|refine aI rfl _ rfl _ rfl _ (by assumption) rfl ?_|refine aW rfl _ _ rfl _ _ rfl rfl _ (Has.QS _) rfl ?_));generalize hw32:World.setRow _ _ _=v32;have R6:Below v31.heap.size v31 v32:=cU hw32;have h10:Has v32 v31.heap.size (aa s) 26:=(by rw[<-hw32];exact(Has.QS _).row _);replace h1:=h1.on R6;replace hR:=hR.on R6;replace h3:=h3.on R6;replace h4:=h4.on R6;replace h6:=h6.on R6;replace h7:=h7.on R6;replace h9:=h9.on R6;replace bj:=ah bj R6;clear hw32 R6;obtain⟨Z5,Us⟩:∃x,x=v31.heap.size:=⟨_,rfl⟩;rw[<-Us]at h10 q32|-;clear Us;have Ut:=h_ q32;clear q32;(go_wp2_with (first|fail|(with_reducible refine aI rfl _ rfl _ rfl _ (by assumption) rfl ?_)));refine ar (KL.out _) fun v33 RS=>?_;replace h1:=h1.on RS;replace hR:=hR.on RS;replace h3:=h3.on RS;replace h4:=h4.on RS;replace h6:=h6.on RS;replace h7:=h7.on RS;replace h9:=h9.on RS;replace h10:=h10.on RS;replace bj:=ah bj RS;clear RS;cases g3
    case true=>
     (go_wp2_with fail);go_roundw
     case rel=>exact⟨k+1,z1,o,r,by omega,rfl,h_ ⟨HZ1.out,HZ.out.2.1,HZ.out.2.2.1,HX.out.2.1 (by simp) (by simp)⟩,⟨bj,h1,hR,h3,h4,h6,h7⟩⟩
     case measure=>exact Yu.out
    case false=>
     (go_wp2_with (first|fail|(with_reducible refine aI rfl _ rfl _ rfl _ (by assumption) rfl ?_)));refine ar (Z4.out _) fun v41 RT=>?_;replace h1:=h1.on RT;replace hR:=hR.on RT;replace h3:=h3.on RT;replace h4:=h4.on RT;replace h6:=h6.on RT;replace h7:=h7.on RT;replace h9:=h9.on RT;replace h10:=h10.on RT;replace bj:=ah bj RT;clear RT;obtain⟨n1,n2,n3,n4,n5,n6⟩:=ND.out;have u9:=Wo.out;have u10:=Ut.out;have Yv:=h7;(go_upto_region 17 with(with_reducible first|refine aI rfl _ rfl _ rfl _ (by assumption) rfl ?_|refine aW rfl _ _ rfl _ _ rfl rfl _ Yv rfl ?_));have RK:Below w.heap.size w (v41.setRow Rt (aa r2)):=below_setRow bj (by omega) _;replace h1:=h1.QR Rt (aa r2) (by omega);replace hR:=hR.QR Rt (aa r2) (by omega);replace h3:=h3.QR Rt (aa r2) (by omega);replace h4:=h4.QR Rt (aa r2) (by omega);replace h6:=h6.QR Rt (aa r2) (by omega);replace h7:=Yv.row (aa r2);clear h9 h10 Yv bj;have bj:=RK;clear RK Wo Ut u9 u10;generalize World.setRow _ _ _=v50 at*;have hP:ye w v50 SY RP RR R2 Rt t m4 r2:=⟨bj,h1,hR,h3,h4,h7⟩;simp only[Act.put];clear bj h1 hR h3 h4 h7 Z4 KL KS KD Z3;refine iy (by kernel_rfl) (fun w'=>ye w w' SY RP RR R2 Rt t m4 r2) (fun i v' _=>QK (fun _=>.agg (aa o)) (fun _=>.int .i64 z) (fun _=>.agg (aa m3)) (fun _=>.agg (aa o2)) c3 i v') (fun l _ w'=>Ph 8 (fun w'=>Has w' R3 (aa o) 26) (fun w'=>Has w' R3 (aa o2) 26) l w') (fun _ _=>True) (fun _ _=>trivial) (fun _ _ _ _ _ _ h=>h) (by kernel_rfl) (hP.on bg.drew) ?_ ?_ ?_;exact fun l hl=>Ph.zero hl (h6.on bg.drew)
     ·intro i o lz a wx ho' hnl dq Z;have hC:=Z.c;have hI:=Z.i;have hi:i<9:=(Array.getElem?_eq_some_iff.1 ho').1;obtain rfl|rfl|rfl|rfl|rfl|rfl|rfl|rfl|rfl:i=0\/i=1\/i=2\/i=3\/i=4\/i=5\/i=6\/i=7\/i=8:=(by omega);all_goals obtain rfl:=Option.some.inj ho'
      have hsz:=aw Z 0;have QY:=dG Z hnl 8;have hpre:=hI.pre QY hsz (by decide);exact aT 0 Z (an rfl) (gu rfl (Z.old' 6) hpre) rfl (hI.keep hsz);exact aT 1 Z (an rfl) (gu rfl (Z.old' 3) hC.a3) rfl (hI.keep (aw Z 1));exact aT 2 Z (an rfl) (NN.dL rfl) (Z.old' 8) (hI.keep (aw Z 2))
      ·have hsz:=aw Z 3;have QY:=dG Z hnl 8;have hpre:=hI.pre QY hsz (by decide);exact mB (S:=mY) 3 Z (an rfl) (f:=145) (args:=#[a.eval (.tmp 58),a.eval (.tmp 59)]) (by kernel_rfl) (by rw[show a.eval (.tmp 58)=_ from(au Z dq 1 58)];rw[show a.eval (.tmp 59)=_ from(au Z dq 2 59)];  exact KM3.out wx) (fun w' hb=>⟨hC.on hb,trivial,rfl,Ph.made QY (hpre.on hb)⟩)
      ·have hsz:=aw Z 4;have QY:=dG Z hnl 8;have hpre:=hI.pre QY hsz (by decide);exact mB (S:=mY) 4 Z (an rfl) (f:=115) (args:=#[a.eval (.tmp 57),a.eval (.tmp 60)]) (by kernel_rfl) (by rw[show a.eval (.tmp 57)=_ from(au Z dq 0 57)];rw[show a.eval (.tmp 60)=_ from(au Z dq 3 60)];  exact Ta.out wx) (fun w' hb=>⟨hC.on hb,trivial,rfl,Ph.made QY (hpre.on hb)⟩)
      exact aT 5 Z (an rfl) (NN.dL rfl) (au Z dq 4 61) (hI.keep (aw Z 5));exact aT 6 Z (an rfl) (kf rfl (au Z dq 5 56) rfl) rfl (hI.keep (aw Z 6));exact aT 7 Z (an rfl) (kf rfl (au Z dq 5 56) rfl) rfl (hI.keep (aw Z 7));have hsz:=aw Z 8;have hR0:=hI.1 hnl;exact qZ 8 Z (an rfl) (jm rfl (Z.old' 6) (au Z dq 6 62) hR0 rfl) (hC.row _ _ (by omega) (by omega) (by omega) (by omega) (by omega) (by omega)) rfl (Ph.last hsz (hR0.row _))
     intro lz a' v51 hall Z;obtain⟨bj,h1,hR,h3,h4,h7⟩:=Z.c;have h6:=Z.i.2 (hall 8 (by decide));have e1:a'.eval (.tmp 1)=.pointer (some ⟨SY,0,none⟩):=Z.old' 1;have e2:a'.eval (.tmp 2)=.pointer (some ⟨RP,0,none⟩):=Z.old' 2;have e3:a'.eval (.tmp 3)=.pointer (some ⟨RR,0,none⟩):=Z.old' 3;have e4:a'.eval (.tmp 4)=.pointer (some ⟨R2,0,none⟩):=Z.old' 4;have e6:a'.eval (.tmp 6)=.pointer (some ⟨R3,0,none⟩):=Z.old' 6;have e7:a'.eval (.tmp 7)=.pointer (some ⟨Rt,0,none⟩):=Z.old' 7;have e8:a'.eval (.tmp 8)=.int .i64 z:=Z.old' 8;have e0:a'.eval (.tmp 0)=.agg (aa t):=Z.old' 0;have e5:a'.eval (.tmp 5)=.bool false:=Z.old' 5;have e12:a'.eval (.tmp 12)=.agg #[.int .u64 1,.int .u64 0,.int .u64 0,.int .u64 0]:=Z.old' 12;have e13:a'.eval (.tmp 13)=.tuple #[.agg (aa m4),.bool false]:=Z.old' 13;have e14:a'.eval (.tmp 14)=.agg (aa t):=Z.old' 14;have e15:a'.eval (.tmp 15)=.agg (aa 1):=Z.old' 15;have e16:a'.eval (.tmp 16)=.tuple #[.agg (aa m4),.bool false]:=Z.old' 16;have e17:a'.eval (.tmp 17)=.agg (aa m4):=Z.old' 17;have e18:a'.eval (.tmp 18)=.bool false:=Z.old' 18;have e19:a'.eval (.tmp 19)=.bool false:=Z.old' 19;have e20:a'.eval (.tmp 20)=undef:=Z.old' 20;have e21:a'.eval (.tmp 21)=.agg (aa t):=Z.old' 21;have e22:a'.eval (.tmp 22)=.agg #[.int .u64 0,.int .u64 0,.int .u64 0,.int .u64 0]:=Z.old' 22;have e23:a'.eval (.tmp 23)=.bool false:=Z.old' 23;have e24:a'.eval (.tmp 24)=undef:=Z.old' 24;have e25:a'.eval (.tmp 25)=.agg #[.int .u64 0,.int .u64 0,.int .u64 0,.int .u64 0]:=Z.old' 25;have e26:a'.eval (.tmp 26)=.agg (aa (Nm.ai-1)):=Z.old' 26;have UR:a'.eval (.tmp 68)=undef:=Z.old' 68;have Yw:a'.eval (.tmp 69)=undef:=Z.old' 69;have Yx:a'.eval (.tmp 70)=undef:=Z.old' 70;have Yy:a'.eval (.tmp 71)=undef:=Z.old' 71;have Yz:a'.eval (.tmp 72)=undef:=Z.old' 72;have YA:a'.eval (.tmp 73)=undef:=Z.old' 73;have YB:a'.eval (.tmp 74)=undef:=Z.old' 74;have YC:a'.eval (.tmp 75)=undef:=Z.old' 75;have YD:a'.eval (.tmp 76)=undef:=Z.old' 76;have YE:a'.eval (.tmp 77)=undef:=Z.old' 77;have Wp:a'.eval (.tmp 78)=undef:=Z.old' 78;clear hP;obtain⟨u,hu⟩:∃u:Nat->Value,∀t,u t=a'.eval (.tmp t):=⟨_,fun _=>rfl⟩;rw[fc a' 79 u Z.QU Z.defers hu];rw[<-hu]at e1 e2 e3 e4 e6 e7 e8 e0 e5 e12 e13 e14 e15 e16 e17 e18 e19 e20 e21 e22 e23 e24 e25 e26 UR Yw Yx Yy Yz YA YB YC YD YE Wp;clear hu Z hall;simp only[List.range,List.range.loop,List.map_cons,List.map_nil];rw[e1,e2,e3,e4,e6,e7,e8,e0,e5,e12,e13,e14,e15,e16,e17,e18,e19,e20,e21,e22,e23,e24,e25,e26,UR,Yw,Yx,Yy,Yz,YA,YB,YC,YD,YE,Wp];clear e1 e2 e3 e4 e6 e7 e8 e0 e5 e12 e13 e14 e15 e16 e17 e18 e19 e20 e21 e22 e23 e24 e25 e26 UR Yw Yx Yy Yz YA YB YC YD YE Wp;clear n1 n2 n3 n4 n5 n6;(go_upto_region 18 with fail);refine wp_region_quiet_below (by kernel_rfl) (by kernel_rfl) ?_
     repeat(first
      | (go_big_quiet_want;(with_reducible first|refine nQ _ rfl _ rfl _ h7.cls ?_|refine EZ 26 _ .eql Er _ _ rfl _ _ _ rfl rfl hq3 ?_);(simp only[Act.put,List.setIfInBounds_toArray,List.set_cons_zero,List.set_cons_succ]);go_big_quiet_on)
      | go_big_quiet_step ((go_at_call 116;exact Calls.regrown_of (KM.out _))))
     refine wpQuiet_nil ?_;intro v52 hw';obtain⟨rg,hw''⟩:=hw';have Sq:Below v51.heap.size v51 v52:=(by rw[hw''];exact below_regrown v51 rg.d rg.os);clear hw'';replace h1:=h1.on Sq;replace hR:=hR.on Sq;replace h3:=h3.on Sq;replace h4:=h4.on Sq;replace h6:=h6.on Sq;replace h7:=h7.on Sq;replace bj:=ah bj Sq;clear Sq hq3;cases g4
     case false=>
      (go_wp2_with fail);go_roundw
      case rel=>(repeat(apply Exists.intro (α:=Value)));exact⟨k+1,z1,o2,r2,by omega,rfl,h_ ⟨HZ1.out,S_.out,HR2.out,HX.out.2.2.1 (by simp) (by simp) (by simp)⟩,⟨bj,h1,hR,h3,h4,h6,h7⟩⟩
      case measure=>exact Yu.out
     case true=>
      have NR:Hid (w.heap.size<=RP/\SY<RP):=h_ ⟨ND.out.2.2.2.2.2,ND.out.1⟩;(go_wp2_with (with_reducible first|refine aI rfl _ rfl _ rfl _ (by assumption) rfl ?_|refine aW rfl _ _ rfl _ _ rfl rfl _ hR rfl ?_));exact bodyPost_ret (v:=.agg (aa (o2))) (fw Tryz.results110 _ _ _ rfl (hR.row _)) rfl ⟨_,⟨S_.out,HX.out.2.2.2 (by simp) (by simp) (by simp)⟩,rfl,below_setRow bj NR.out.1 _⟩
  ·have hz0:z<0:=by have:=HZ.out.1;omega
   have NR:Hid (w.heap.size<=RP/\SY<RP):=h_ ⟨ND.out.2.2.2.2.2,ND.out.1⟩;have KL:=h_ fun w=>mI r t HZ.out.2.2.1 V8.out w
   obtain⟨o2,c3,Wm,ho2,TJ⟩:=pR o 1 HZ.out.2.1 ij;have Z6:k=256:=by omega
   have HY:Hid ((decide (r<t)=true->o=Nm.work t)/\(decide (r<t)=false->o2=Nm.work t)):=h_ (by
    have:=Nm.LD.last Yr.out.2 (Z6▸HZ.out.2.2.2);rwa[<-Wm]at this)
   clear Wm Z6;have Ta:=h_ TJ;have S_:=h_ ho2;generalize hg3:decide (r<t)=g3 at*;clear TJ ho2 hg3;go_wp2_with (first|fail|(with_reducible refine aI rfl _ rfl _ rfl _ (by assumption) rfl ?_))
   refine ar (KL.out _) fun v71 Ss=>?_;replace h1:=h1.on Ss;replace hR:=hR.on Ss;replace h3:=h3.on Ss;replace h4:=h4.on Ss;replace h6:=h6.on Ss;replace h7:=h7.on Ss;replace bj:=ah bj Ss;clear Ss;cases g3
   case true=>
    (go_wp2_with (with_reducible first|refine aI rfl _ rfl _ rfl _ (by assumption) rfl ?_|refine aW rfl _ _ rfl _ _ rfl rfl _ hR rfl ?_));exact bodyPost_ret (v:=.agg (aa (o))) (fw Tryz.results110 _ _ _ rfl (hR.row _)) rfl ⟨_,⟨HZ.out.2.1,HY.out.1 (by simp)⟩,rfl,below_setRow bj NR.out.1 _⟩
   case false=>
    (go_wp2_with (first|fail|(with_reducible refine aI rfl _ rfl _ rfl _ (by assumption) rfl ?_)));refine ar (Ta.out _) fun v81 Su=>?_;replace h1:=h1.on Su;replace hR:=hR.on Su;replace h3:=h3.on Su;replace h4:=h4.on Su;replace h6:=h6.on Su;replace h7:=h7.on Su;replace bj:=ah bj Su;clear Su;obtain⟨n1,n2,n3,n4,n5,n6⟩:=ND.out;have h6':=h6;(go_upto_region 22 with(with_reducible first|refine aI rfl _ rfl _ rfl _ (by assumption) rfl ?_|refine aW rfl _ _ rfl _ _ rfl rfl _ h6' rfl ?_));have RK:Below w.heap.size w (v81.setRow R3 (aa o2)):=below_setRow bj (by omega) _;replace hR:=hR.QR R3 (aa o2) (by omega);replace h6:=h6'.row (aa o2);clear h6' bj h1 h3 h4 h7;have bj:=RK;clear RK;generalize World.setRow _ _ _=v90 at*;(go_wp2_with (with_reducible first|refine aI rfl _ rfl _ rfl _ (by assumption) rfl ?_|refine aW rfl _ _ rfl _ _ rfl rfl _ hR rfl ?_));exact bodyPost_ret (v:=.agg (aa (o2))) (fw Tryz.results110 _ _ _ rfl (hR.row _)) rfl ⟨_,⟨S_.out,HY.out.2 (by simp)⟩,rfl,below_setRow bj NR.out.1 _⟩
def we(f:FuncId)(args:Array Value)(x:Nat):Prop:=∀w,aK f args w fun e w'=>∃z,(z<Nm.ai/\z=x)/\e=.returned (.agg (aa z))/\Bl w w'
theorem u5(t:Nat)(ht:t<Nm.ai):we 110 #[.agg (aa t)] (Nm.work t):=by intro w;cases h:decide (Nm.ai<=t+1);cases h0:decide (t=0);have h1:=of_decide_eq_false h;have h2:=of_decide_eq_false h0;exact Fv t ht _ (h_ fun w=>wj t 1 ht ij _ _ rfl h.symm w) (Nat.mod_lt _ jr) (h_ ⟨Nat.mod_eq_of_lt (by omega),by omega⟩) (fun w=>vd t ht _ h0 w) w;have h2:=of_decide_eq_true h0;exact Gb t _ (h_ fun w=>wj t 1 ht ij _ _ rfl h.symm w) (h_ (by rw[h2,Nm.Jy])) (fun w=>vd t ht _ h0 w) w;have h1:=of_decide_eq_true h;exact GG t _ (h_ fun w=>wj t 1 ht ij _ _ rfl h.symm w) (h_ (Nm.DD (by omega)).symm) w
theorem Hr(b:Int):∃z lo ov,ofBits b=(if(lo||ov||decide (z=0))=true then 0 else Nm.work z)/\z<Nm.ai/\cp 109 #[i_ b] (.tuple #[.agg (aa z),.bool lo,.bool ov]):=by by_cases h:0<=b/\b<=4294967295;obtain⟨n,rfl⟩:∃n:Nat,b=(n:Int):=⟨b.toNat,by omega⟩;exact⟨_,_,_,by unfold ofBits;rw[if_pos h,Int.toNat_natCast],Nm.RH,fun w=>Fg n (by omega) w⟩;exact⟨0,false,false,by unfold ofBits;rw[if_neg h];rfl,jr,fun w=>Iy b h w⟩
theorem Dk(b:Int):we 76 #[i_ b] (ofBits b):=by
 intro w;obtain⟨z,lo,ov,he0,hz,Wi⟩:=Hr b;have KD:=h_ Wi;have KO:=h_ (u5 z hz);obtain⟨g,hg⟩:∃g,decide (z=0)=g:=⟨_,rfl⟩;have hq:=fun w=>vd z hz g hg w
 have HZ:=h_ hz;rw[hg]at he0;obtain⟨X,hX⟩:∃X,X=ofBits b:=⟨_,rfl⟩;rw[<-hX]at he0|-;have HE:=h_ he0;clear Wi hz hg he0 hX;go_enter Tryz.func76,Tryz.ntmps76;go_upto_region 1 with fail
 generalize hw0:World.alloc _ _=v0;have bj:Bl w v0:=de hw0;have hR:Has v0 w.heap.size (aa 0) 26:=by rw[<-hw0];exact Has.QS _
 clear hw0;obtain⟨RP,TG⟩:∃x,x=w.heap.size:=⟨_,rfl⟩;have NR:Hid (w.heap.size<=RP):=h_ (by omega);rw[<-TG]at hR|-;clear TG;go_wp2_with (first|fail|(with_reducible refine aI rfl _ rfl _ rfl _ hR rfl ?_))
 refine ar (KD.out _) fun v1 hb1=>?_;replace hR:=hR.on hb1;replace bj:=ah bj hb1;clear hb1;have q2:=hR.lt;go_upto_region 2 with(with_reducible first|refine aI rfl _ rfl _ rfl _ hR rfl ?_|refine aW rfl _ _ rfl _ _ rfl rfl _ (Has.QS _) rfl ?_)
 generalize hw2:World.setRow _ _ _=v2;have hb2:Bl v1 v2:=cU hw2;have h3:Has v2 v1.heap.size (aa z) 26:=by rw[<-hw2];exact(Has.QS _).row _
 replace hR:=hR.on hb2;replace bj:=ah bj hb2;clear hw2 hb2;obtain⟨RR,RL⟩:∃x,x=v1.heap.size:=⟨_,rfl⟩;rw[<-RL]at h3 q2|-;clear RL;have TH:=h_ q2;clear q2;cases lo
 case true=>
  go_wp2_with (with_reducible first|refine aI rfl _ rfl _ rfl _ (by assumption) rfl ?_|refine dH (by with_unfolding_all rfl) _ rfl _ rfl _ (by assumption) rfl ?_|refine lU rfl _ _ rfl _ 0 _ rfl rfl fL _ hR rfl ?_)
  exact bodyPost_ret (v:=.agg (aa 0)) (fw Tryz.results76 _ _ _ rfl (hR.row _)) rfl ⟨_,⟨jr,by have:=HE.out;simpa using this.symm⟩,rfl,below_setRow bj NR.out _⟩
 case false=>
  cases ov
  case true=>
   go_wp2_with (with_reducible first|refine aI rfl _ rfl _ rfl _ (by assumption) rfl ?_|refine dH (by with_unfolding_all rfl) _ rfl _ rfl _ (by assumption) rfl ?_|refine lU rfl _ _ rfl _ 0 _ rfl rfl fL _ hR rfl ?_)
   exact bodyPost_ret (v:=.agg (aa 0)) (fw Tryz.results76 _ _ _ rfl (hR.row _)) rfl ⟨_,⟨jr,by have:=HE.out;simpa using this.symm⟩,rfl,below_setRow bj NR.out _⟩
  case false=>
   cases g
   case true=>
    (go_wp2_with (with_reducible first|refine aI rfl _ rfl _ rfl _ (by assumption) rfl ?_|refine dH (by with_unfolding_all rfl) _ rfl _ rfl _ (by assumption) rfl ?_|refine lU rfl _ _ rfl _ 0 _ rfl rfl fL _ hR rfl ?_));exact bodyPost_ret (v:=.agg (aa 0)) (fw Tryz.results76 _ _ _ rfl (hR.row _)) rfl ⟨_,⟨jr,by have:=HE.out;simpa using this.symm⟩,rfl,below_setRow bj NR.out _⟩
   case false=>
    (go_wp2_with (with_reducible first|refine aI rfl _ rfl _ rfl _ (by assumption) rfl ?_|refine dH (by with_unfolding_all rfl) _ rfl _ rfl _ (by assumption) rfl ?_));refine(KO.out _).mono ?_;rintro e v9 ⟨y,hy,rfl,Rn⟩;have HY:=h_ hy;clear hy;replace hR:=hR.on Rn;replace h3:=h3.on Rn;replace bj:=ah bj Rn;clear Rn;(go_wp2_with (with_reducible first|refine aI rfl _ rfl _ rfl _ (by assumption) rfl ?_|refine aW rfl _ _ rfl _ _ rfl rfl _ hR rfl ?_));exact bodyPost_ret (v:=.agg (aa y)) (fw Tryz.results76 _ _ _ rfl (hR.row _)) rfl ⟨_,⟨HY.out.1,by have:=HE.out;rw[HY.out.2];simpa using this.symm⟩,rfl,below_setRow bj NR.out _⟩
end NN
namespace An
open Mem Sc NN.Q8
theorem gU.mine{k s:Nat}{Pre:World->Prop}{Post:Value->World->Prop}{l:Array Bool}{a:Act}{w':World}(u:Value)(hi:k<l.size)(hs:s<a.tmps.size)(hp:Post u w'):gU k s Pre Post (l.setIfInBounds k true) (a.put (some s) u) w':=⟨fun h=>(by rw[gw _ _ _ hi,if_pos rfl]at h;cases h),fun _=>by rw[jD a s u hs];exact hp⟩
theorem G9:∃i z,Tryz.prog.info? 26=some i/\i.zero=some z/\i.size=4/\i.bytes=32/\z.cells.size=4:=qq (by kernel_rfl) (by kernel_rfl) (by kernel_rfl)
theorem JP(cs:Array Value)(h:cs.size=4)(w:World):(Instr.buildSlice 70 1 #[(0,.agg cs)]).run Tryz.prog w=.ok (.slice (some ⟨w.heap.size,0,none⟩) 1 1) (w.alloc (.cells cs 26)):=by obtain⟨i,z,hi,hz,h1,h2,h3⟩:=G9;refine run_buildSlice w 70 26 1 _ cs i z Tryz.underlying70 hi hz (by rw[h1];decide) (by rw[h1];decide) ?_;rw[h1];exact vt 4 _ cs (by simp) h
section
variable{ρ:Operand->Value}{o:Oper}{w:World}
variable{x:Operand}
theorem AM{y:Operand}{a b m:Int}(ho:o.op=.call { callee:=.builtin .max,args:=#[x,y],argTypes:=#[3,3] })(hx:ρ x=i_ a)(hy:ρ y=i_ b)(hm:m=max a b):(execOp ρ o).run Tryz.prog w=.ok (.value (i_ m)) w:=by have hr:=NN.ld (P:=Tryz.prog) a b m hm #[3,3] o.type w;unfold execOp;simp only[ho,resolve,invoke,builtin,Sem.run_bind,Sem.run_pure,Result.andThen_ok,List.map_toArray,List.map_cons,List.map_nil,hx,hy,hr]
theorem qG{T:TypeId}{cs:Array Value}(ho:o.op=.box T x)(hx:ρ x=.agg cs):(execOp ρ o).run Tryz.prog w=.ok (.value (.pointer (some ⟨w.heap.size,0,none⟩))) (w.alloc (.cells cs T)):=by unfold execOp;simp only[ho,hx];rfl
theorem Om{x0 x1 x2 x3 x4 x5:Operand}{p:NN.Pr}(ho:o.op=.build 72 #[(0,x0),(1,x1),(2,x2),(3,x3),(4,x4),(5,x5)])(hp:p.ok)(h0:ρ x0=.agg (NN.aE p)){a1 a2 a3 a4:Option Addr}{n1 n2 n3 n4 c1 c2 c3 c4 room:Nat}(h1:ρ x1=.slice a1 n1 c1)(h2:ρ x2=.slice a2 n2 c2)(h3:ρ x3=.slice a3 n3 c3)(h4:ρ x4=.slice a4 n4 c4)(h5:ρ x5=i_ room):(execOp ρ o).run Tryz.prog w=.ok (.value (.agg (iE p (.slice a1 n1 c1) (.slice a2 n2 c2) (.slice a3 n3 c3) (.slice a4 n4 c4) room))) w:=by unfold execOp;simp only[ho,Sem.run_bind];rw[show(#[(0,x0),(1,x1),(2,x2),(3,x3),(4,x4),(5,x5)]:Array (Nat×Operand)).map (fun(i,x)=>(i,ρ x))=#[(0,.agg (NN.aE p)),(1,.slice a1 n1 c1),(2,.slice a2 n2 c2),(3,.slice a3 n3 c3),(4,.slice a4 n4 c4),(5,Value.int .i64 (room:Int))] by simp[h0,h1,h2,h3,h4,h5],run_build w 72 _ _ (EE p hp a1 a2 a3 a4 n1 n2 n3 n4 c1 c2 c3 c4 room)];rfl
end
def gG(B:Nat)(cs:Array Value)(T:TypeId)(u:Value)(w:World):Prop:=∃g,u=.slice (aX g) 1 1/\B<=g/\Has w g cs T
variable{B R:Nat}{cs:Array Value}{u:Value}{w w':World}
theorem gG.on{T:TypeId}(h:gG B cs T u w)(hb:Bl w w'):gG B cs T u w':=by obtain⟨g,h1,h2,h3⟩:=h;exact⟨g,h1,h2,cu hb h3 h3.lt⟩
def rj(x:Nat)(u:Value):Prop:=∃z,(z<NN.Nm.ai/\z=x)/\u=.agg (NN.aa z)
def om(B x:Nat)(u:Value)(w:World):Prop:=∃z,(z<NN.Nm.ai/\z=x)/\gG B (NN.aa z) 26 u w
theorem om.on{x:Nat}(h:om B x u w)(hb:Bl w w'):om B x u w':=by obtain⟨z,h1,h2⟩:=h;exact⟨z,h1,h2.on hb⟩
def I9(B:Nat)(p:NN.Pr)(h:Hd)(id:List UInt8)(R:Nat)(cs:Array Value)(w:World):Prop:=∃vH vI vA vW,cs=iE p vH vI vA vW R/\gG B (aD h) 30 vH w/\gG B (ae id) 28 vI w/\gG B #[i_ (-1)] 3 vA w/\om B (NN.ofBits h.bits) vW w
variable{p:NN.Pr}{h:Hd}{id:List UInt8}
theorem I9.on(hv:I9 B p h id R cs w)(hb:Bl w w'):I9 B p h id R cs w':=by obtain⟨vH,vI,vA,vW,h1,h2,h3,h4,h5⟩:=hv;exact⟨vH,vI,vA,vW,h1,h2.on hb,h3.on hb,h4.on hb,h5.on hb⟩
def u3(B:Nat)(p:NN.Pr)(h:Hd)(id:List UInt8)(R:Nat)(u:Value)(w:World):Prop:=∃g cs,u=af g/\B<=g/\Has w g cs 72/\I9 B p h id R cs w
theorem u3.on(hv:u3 B p h id R u w)(hb:Bl w w'):u3 B p h id R u w':=by obtain⟨g,cs,h1,h2,h3,h4⟩:=hv;exact⟨g,cs,h1,h2,cu hb h3 h3.lt,h4.on hb⟩
def OJ(B bP:Nat)(p:NN.Pr)(h:Hd)(id:List UInt8)(room m1:Int)(R:Nat):Nat->Value->World->Prop
 | 0,u,_=>u=.agg (NN.aE p)
 | 1,u,_=>u=.pointer (some ⟨bP,15,none⟩)
 | 2,u,_=>u=.agg (aD h)
 | 3,u,w=>gG B (aD h) 30 u w
 | 4,u,_=>u=.pointer (some ⟨bP,15,none⟩)
 | 5,u,_=>u=.agg (aD h)
 | 6,u,_=>u=.agg (ae id)
 | 7,u,w=>gG B (ae id) 28 u w
 | 8,u,w=>gG B #[i_ (-1)] 3 u w
 | 9,u,_=>u=.pointer (some ⟨bP,15,none⟩)
 | 10,u,_=>u=.pointer (some ⟨bP,81,none⟩)
 | 11,u,_=>u=i_ h.bits
 | 12,u,_=>rj (NN.ofBits h.bits) u
 | 13,u,w=>om B (NN.ofBits h.bits) u w
 | 14,u,_=>u=i_ room
 | 15,u,_=>u=i_ m1
 | 16,u,_=>u=i_ R
 | 17,u,w=>∃cs,u=.agg cs/\I9 B p h id R cs w
 | 18,u,w=>u3 B p h id R u w
 | 19,u,w=>u3 B p h id R u w
 | _,_,_=>B=B
theorem D5{bP:Nat}{room m1:Int}:∀(i:Nat)(u:Value)(w w':World),Bl w w'->OJ B bP p h id room m1 R i u w->OJ B bP p h id room m1 R i u w'
 | 0,_,_,_,_,h|1,_,_,_,_,h|2,_,_,_,_,h|4,_,_,_,_,h|5,_,_,_,_,h|6,_,_,_,_,h|9,_,_,_,_,h|10,_,_,_,_,h|11,_,_,_,_,h|12,_,_,_,_,h|14,_,_,_,_,h|15,_,_,_,_,h|16,_,_,_,_,h=>h
 | 3,_,_,_,hb,h=>gG.on h hb
 | 7,_,_,_,hb,h=>gG.on h hb
 | 8,_,_,_,hb,h=>gG.on h hb
 | 13,_,_,_,hb,h=>om.on h hb
 | 17,_,_,_,hb,⟨cs,h1,h2⟩=>⟨cs,h1,h2.on hb⟩
 | 18,_,_,_,hb,h=>u3.on h hb
 | 19,_,_,_,hb,h=>u3.on h hb
 | _+20,_,_,_,_,_=>rfl
theorem wO(p:NN.Pr)(hp:p.ok)(t:Tl)(tt:p.tl=t.C)(ht:t.ok)(h:Hd)(hg:t.g=h)(ho:h.ok)(id:List UInt8)(i32:id.length=32)(room:Int)(w:World)(KI:aO w 75 #[.agg (aD h)] (.agg (ae id))):aK 39 #[.agg (NN.aE p),.int .i64 room] w fun e w'=>∃u,e=.returned u/\u3 w.heap.size p h id (dM room) u w'/\Bl w w':=by
 have KO:=h_ (NN.Dk h.bits);have z2:=ek ho;have zA:(aD h).size=68:=by rw[aD,List.size_toArray,z2]
 have zI:(ae id).size=32:=by simp[ae,i32]
 obtain⟨m1,hm1⟩:∃m1,m1=max room 1:=⟨_,rfl⟩;obtain⟨R,hR⟩:∃R,R=dM room:=⟨_,rfl⟩;have hR2:(R:Int)=min m1 512:=by rw[hR,hm1,EG]
 have HM:=h_ (And.intro hm1 hR2);rw[<-hR];clear hR hm1 hR2;go_enter Tryz.func39,Tryz.ntmps39;go_upto_region 1 with fail
 generalize hw0:World.alloc _ _=v0;have hB:Bl w v0:=de hw0;have hP:NN.aA v0 w.heap.size p:=by rw[<-hw0];exact NN.Has.new _ _
 clear hw0;obtain⟨bP,Q5⟩:∃x,x=w.heap.size:=⟨_,rfl⟩;have Vm:=h_ Q5;rw[<-Q5]at hP|-;clear Q5;refine iy (by kernel_rfl) (fun w'=>Bl w w'/\NN.aA w' bP p) (fun i v' w'=>OJ w.heap.size bP p h id room m1 R i v' w') (fun l a w'=>gU 19 4 (fun _=>True) (fun u w'=>u3 w.heap.size p h id R u w') l a w') (fun w w'=>Bl w w') (fun _ _=>Below.refl _ _) (fun i v w w' _ hs h=>D5 i v w w' hs h) (by kernel_rfl) ⟨hB.trans (bg.drew.mono hB.size),Has.drew hP⟩ ?_ ?_ ?_;exact fun l hl=>gU.zero hl trivial
 ·intro i o lz a wx ho' hnl dq Z;have hC:=Z.c;have hI:=Z.i;have hi:i<20:=(Array.getElem?_eq_some_iff.1 ho').1;have rP:wx.rangeAt bP 15 (bp h):=by rw[<-hg];exact jP hC.2 tt ht
  have rB:=Eo ho rP;have rA:wx.rangeAt bP 0 (NN.dU p):=fZ (A:=[]) (C:=[]) (t:=32) (by rw[List.append_nil];exact hC.2) rfl;obtain rfl|rfl|rfl|rfl|rfl|rfl|rfl|rfl|rfl|rfl|rfl|rfl|rfl|rfl|rfl|rfl|rfl|rfl|rfl|rfl:i=0\/i=1\/i=2\/i=3\/i=4\/i=5\/i=6\/i=7\/i=8\/i=9\/i=10\/i=11\/i=12\/i=13\/i=14\/i=15\/i=16\/i=17\/i=18\/i=19:=by omega
  all_goals obtain rfl:=Option.some.inj ho'
  exact dF (S:=fun w w'=>Bl w w') (fun _ _=>Below.refl _ _) 0 Z (an rfl) (zJ rfl (Z.old' 2) rA (jj hp)) rfl (hI.keep (aw Z 0));exact dF (S:=fun w w'=>Bl w w') (fun _ _=>Below.refl _ _) 1 Z (an rfl) (dA rfl (Z.old' 2) (gx wx bP)) rfl (hI.keep (aw Z 1));exact dF (S:=fun w w'=>Bl w w') (fun _ _=>Below.refl _ _) 2 Z (an rfl) (lT rfl (au Z dq 1 6) rP z2) rfl (hI.keep (aw Z 2));have hsz:=aw Z 3;have QY:=dG Z hnl 19;have hb:Bl wx (wx.alloc _):=bg.alloc (Nat.le_refl _) (.cells (aD h) 30);exact AF (S:=fun w w'=>Bl w w') 3 Z (an rfl) (NN.Q8.jF rfl (au Z dq 2 7) (yP _ zA wx)) ⟨ah hC.1 hb,NN.aA.on hC.2 hb⟩ hb (⟨wx.heap.size,rfl,hC.1.size,Has.new _ _⟩) (gU.made QY trivial);exact dF (S:=fun w w'=>Bl w w') (fun _ _=>Below.refl _ _) 4 Z (an rfl) (dA rfl (Z.old' 2) (gx wx bP)) rfl (hI.keep (aw Z 4));exact dF (S:=fun w w'=>Bl w w') (fun _ _=>Below.refl _ _) 5 Z (an rfl) (lT rfl (au Z dq 4 9) rP z2) rfl (hI.keep (aw Z 5))
  ·have hsz:=aw Z 6;have QY:=dG Z hnl 19;have hpre:=hI.pre QY hsz (by decide);exact mB (S:=fun w w'=>Bl w w') 6 Z (an rfl) (f:=75) (args:=#[a.eval (.tmp 10)]) (by kernel_rfl) (by rw[show a.eval (.tmp 10)=_ from(au Z dq 5 10)];  exact KI.out wx hC.1) (fun w' hb=>⟨⟨ah hC.1 hb,NN.aA.on hC.2 hb⟩,hb,rfl,gU.made QY (trivial)⟩)
  have hsz:=aw Z 7;have QY:=dG Z hnl 19;have hb:Bl wx (wx.alloc _):=bg.alloc (Nat.le_refl _) (.cells (ae id) 28);exact AF (S:=fun w w'=>Bl w w') 7 Z (an rfl) (NN.Q8.jF rfl (au Z dq 6 11) (Ga _ zI wx)) ⟨ah hC.1 hb,NN.aA.on hC.2 hb⟩ hb (⟨wx.heap.size,rfl,hC.1.size,Has.new _ _⟩) (gU.made QY trivial);have hsz:=aw Z 8;have QY:=dG Z hnl 19;have hb:Bl wx (wx.alloc _):=bg.alloc (Nat.le_refl _) (.cells #[.int .i64 (-1)] 3);exact AF (S:=fun w w'=>Bl w w') 8 Z (an rfl) (NN.Q8.jF rfl rfl (oB wx (-1))) ⟨ah hC.1 hb,NN.aA.on hC.2 hb⟩ hb (⟨wx.heap.size,rfl,hC.1.size,Has.new _ _⟩) (gU.made QY trivial);exact dF (S:=fun w w'=>Bl w w') (fun _ _=>Below.refl _ _) 9 Z (an rfl) (dA rfl (Z.old' 2) (gx wx bP)) rfl (hI.keep (aw Z 9));exact dF (S:=fun w w'=>Bl w w') (fun _ _=>Below.refl _ _) 10 Z (an rfl) (wc rfl (au Z dq 9 14) (lM wx bP)) rfl (hI.keep (aw Z 10));exact dF (S:=fun w w'=>Bl w w') (fun _ _=>Below.refl _ _) 11 Z (an rfl) (NN.kX rfl (au Z dq 10 15) rB) rfl (hI.keep (aw Z 11))
  ·have hsz:=aw Z 12;have QY:=dG Z hnl 19;have e16:=(au Z dq 11 16);refine yy (S:=fun w w'=>Bl w w') 12 Z (an rfl) (f:=76) (args:=#[a.eval (.tmp 16)]) (by kernel_rfl) ?_;rw[e16];refine(KO.out wx).mono ?_;rintro e w' ⟨z,hz,rfl,hb⟩;exact⟨_,rfl,⟨ah hC.1 hb,NN.aA.on hC.2 hb⟩,hb,⟨z,hz,rfl⟩,gU.made QY trivial⟩
  have hsz:=aw Z 13;have QY:=dG Z hnl 19;obtain⟨z,hz,e17⟩:=(au Z dq 12 17);have hb:Bl wx (wx.alloc _):=bg.alloc (Nat.le_refl _) (.cells (NN.aa z) 26);exact AF (S:=fun w w'=>Bl w w') 13 Z (an rfl) (NN.Q8.jF rfl e17 (JP _ (NN.fN z) wx)) ⟨ah hC.1 hb,NN.aA.on hC.2 hb⟩ hb (⟨z,hz,wx.heap.size,rfl,hC.1.size,Has.new _ _⟩) (gU.made QY trivial);exact dF (S:=fun w w'=>Bl w w') (fun _ _=>Below.refl _ _) 14 Z (an rfl) (NN.dL rfl) (Z.old' 1) (hI.keep (aw Z 14));exact dF (S:=fun w w'=>Bl w w') (fun _ _=>Below.refl _ _) 15 Z (an rfl) (AM rfl (au Z dq 14 19) rfl HM.out.1) rfl (hI.keep (aw Z 15));exact dF (S:=fun w w'=>Bl w w') (fun _ _=>Below.refl _ _) 16 Z (an rfl) (pB rfl (au Z dq 15 20) rfl HM.out.2) rfl (hI.keep (aw Z 16));have hsz:=aw Z 17;obtain⟨g1,e8,k8,m8⟩:=(au Z dq 3 8);obtain⟨g2,e12,k12,m12⟩:=(au Z dq 7 12);obtain⟨g3,e13,k13,m13⟩:=(au Z dq 8 13);obtain⟨z,hz,g4,e18,k18,m18⟩:=(au Z dq 13 18);exact dF (S:=fun w w'=>Bl w w') (fun _ _=>Below.refl _ _) 17 Z (an rfl) (Om rfl hp (au Z dq 0 5) e8 e12 e13 e18 (au Z dq 16 21)) ⟨_,rfl,_,_,_,_,rfl,⟨g1,rfl,k8,m8⟩,⟨g2,rfl,k12,m12⟩,⟨g3,rfl,k13,m13⟩,z,hz,g4,rfl,k18,m18⟩ (hI.keep hsz);have hsz:=aw Z 18;have QY:=dG Z hnl 19;obtain⟨cs,e22,hv⟩:=(au Z dq 17 22);have hb:Bl wx (wx.alloc _):=bg.alloc (Nat.le_refl _) (.cells cs 72);exact AF (S:=fun w w'=>Bl w w') 18 Z (an rfl) (qG rfl e22) ⟨ah hC.1 hb,NN.aA.on hC.2 hb⟩ hb (⟨wx.heap.size,cs,rfl,hC.1.size,Has.new _ _,hv.on hb⟩) (gU.made QY trivial);exact dF (S:=fun w w'=>Bl w w') (fun _ _=>Below.refl _ _) 19 Z (an rfl) (NN.fh rfl) (au Z dq 18 23) (gU.mine _ (aw Z 19) (by rw[Z.QU];exact(show 4<24 by decide)) (au Z dq 18 23))
 intro lz a' v1 hall Z;have hC:=Z.c;obtain⟨g,cs,e4,hg4,hh4,hv4⟩:=Z.i.2 (hall 19 (by decide));obtain⟨u,hu⟩:∃u:Nat->Value,∀t,u t=a'.eval (.tmp t):=⟨_,fun _=>rfl⟩;rw[fc a' 24 u Z.QU Z.defers hu];rw[<-hu]at e4;clear hu Z hall;simp only[List.range,List.range.loop,List.map_cons,List.map_nil];rw[e4];clear e4;go_wp2_with fail
 go_ret;exact⟨_,rfl,⟨g,cs,rfl,hg4,hh4,hv4⟩,hC.1⟩
open Ar (aq Ru aB)
theorem add_nil(h:Hd)(ho:h.ok)(now:Int)(w:World):ak 84 #[.pointer none,.agg (aD h),.int .i64 now] w (.tuple #[.int .i64 (-1),.int .i64 0,.int .i64 2]):=by
 have za:=fR ho;go_enter Tryz.func84,Tryz.ntmps84;go_upto_region 1 with fail
 generalize hw0:World.alloc _ _=v0;have hB:Below w.heap.size w v0:=de hw0;have hH:aG v0 w.heap.size h:=by rw[<-hw0];exact Has.new _ _
 clear hw0;obtain⟨bH,Q1⟩:∃x,x=w.heap.size:=⟨_,rfl⟩;rw[<-Q1]at hH|-;have Tb:Hid (bH=w.heap.size):=h_ Q1;clear Q1;go_wp2_with fail
 go_ret3
 exact⟨rfl,hB⟩
theorem u6(b:Nat)(h:Hd)(ho:h.ok)(now:Int)(w:World)(KG:aO w 118 #[.agg (aD h)] (.bool false)):ak 84 #[.pointer (some ⟨b,0,none⟩),.agg (aD h),.int .i64 now] w (.tuple #[.int .i64 (-1),.int .i64 1,.int .i64 8]):=by
 have za:=fR ho;go_enter Tryz.func84,Tryz.ntmps84;go_upto_region 1 with fail
 generalize hw0:World.alloc _ _=v0;have hB:Below w.heap.size w v0:=de hw0;have hH:aG v0 w.heap.size h:=by rw[<-hw0];exact Has.new _ _
 clear hw0;obtain⟨bH,Q1⟩:∃x,x=w.heap.size:=⟨_,rfl⟩;rw[<-Q1]at hH|-;have Tb:Hid (bH=w.heap.size):=h_ Q1;clear Q1;go_wp2_with (first|fail|(with_reducible refine cJ rfl _ rfl _ rfl hH za ?_))
 refine ar (KG.out _ hB) fun v1 hb=>?_;replace hH:=hH.on hb;replace hB:=ah hB hb;clear hb;go_wp2_with fail
 go_ret3
 exact⟨rfl,hB⟩
theorem DX(b:Nat)(h:Hd)(ho:h.ok)(now:Int)(w:World)(KG:aO w 118 #[.agg (aD h)] (.bool true))(id:List UInt8)(i32:id.length=32)(KI:aO w 119 #[.agg (aD h)] (.agg (ae id)))(i:Nat)(KF:aO w 120 #[.pointer (some ⟨b,0,none⟩),.agg (ae id)] (.int .i64 (i:Int))):ak 84 #[.pointer (some ⟨b,0,none⟩),.agg (aD h),.int .i64 now] w (.tuple #[.int .i64 (i:Int),.int .i64 0,.int .i64 0]):=by
 have za:=fR ho;go_enter Tryz.func84,Tryz.ntmps84;go_upto_region 1 with fail
 generalize hw0:World.alloc _ _=v0;have hB:Below w.heap.size w v0:=de hw0;have hH:aG v0 w.heap.size h:=by rw[<-hw0];exact Has.new _ _
 clear hw0;obtain⟨bH,Q1⟩:∃x,x=w.heap.size:=⟨_,rfl⟩;rw[<-Q1]at hH|-;have Tb:Hid (bH=w.heap.size):=h_ Q1;clear Q1;go_wp2_with (first|fail|(with_reducible refine cJ rfl _ rfl _ rfl hH za ?_))
 refine ar (KG.out _ hB) fun v1 hb=>?_;replace hH:=hH.on hb;replace hB:=ah hB hb;clear hb;go_wp2_with (first|fail|(with_reducible refine cJ rfl _ rfl _ rfl hH za ?_))
 refine ar (KI.out _ hB) fun v2 hb=>?_;replace hH:=hH.on hb;replace hB:=ah hB hb;clear hb;have s1:(ae id).size=32:=by rw[ju];exact i32
 have o1:=jY id;have HW2:Hid (w.heap.size<=v2.heap.size):=h_ hB.size;go_upto_region 6 with(with_reducible refine jo rfl _ _ rfl _ (ae id) (ae id) rfl rfl rfl s1 o1 h0 (db v2 _) rfl ?_)
 generalize hw4:World.setRow _ _ _=v3;have hb2:Below v2.heap.size v2 v3:=cU hw4;have hI:Has v3 v2.heap.size (ae id) 28:=by rw[<-hw4];exact Has.row (db v2 _) _
 replace hH:=hH.on hb2;replace hB:=ah hB hb2;clear hw4 hb2 o1;obtain⟨bI,Sh⟩:∃b,b=v2.heap.size:=⟨_,rfl⟩;rw[<-Sh]at hI HW2|-;clear Sh;go_wp2_with (first|fail|(with_reducible refine ki rfl _ rfl _ rfl _ hI s1 ?_))
 refine ar (KF.out _ hB) fun v4 hb=>?_;replace hH:=hH.on hb;replace hI:=cu hb hI (Has.lt hI);replace hB:=ah hB hb;clear hb;go_wp2_with fail
 go_ret3
 exact⟨rfl,hB⟩
theorem Db(b:Nat)(h:Hd)(ho:h.ok)(now:Int)(w:World)(KG:aO w 118 #[.agg (aD h)] (.bool true))(id:List UInt8)(i32:id.length=32)(KI:aO w 119 #[.agg (aD h)] (.agg (ae id)))(KF:aO w 120 #[.pointer (some ⟨b,0,none⟩),.agg (ae id)] (.int .i64 (-1)))(KP:aO w 120 #[.pointer (some ⟨b,0,none⟩),.agg (ae h.prev)] (.int .i64 (-1))):ak 84 #[.pointer (some ⟨b,0,none⟩),.agg (aD h),.int .i64 now] w (.tuple #[.int .i64 (-1),.int .i64 2,.int .i64 5]):=by
 have za:=fR ho;go_enter Tryz.func84,Tryz.ntmps84;go_upto_region 1 with fail
 generalize hw0:World.alloc _ _=v0;have hB:Below w.heap.size w v0:=de hw0;have hH:aG v0 w.heap.size h:=by rw[<-hw0];exact Has.new _ _
 clear hw0;obtain⟨bH,Q1⟩:∃x,x=w.heap.size:=⟨_,rfl⟩;rw[<-Q1]at hH|-;have Tb:Hid (bH=w.heap.size):=h_ Q1;clear Q1;go_wp2_with (first|fail|(with_reducible refine cJ rfl _ rfl _ rfl hH za ?_))
 refine ar (KG.out _ hB) fun v1 hb=>?_;replace hH:=hH.on hb;replace hB:=ah hB hb;clear hb;go_wp2_with (first|fail|(with_reducible refine cJ rfl _ rfl _ rfl hH za ?_))
 refine ar (KI.out _ hB) fun v2 hb=>?_;replace hH:=hH.on hb;replace hB:=ah hB hb;clear hb;have s1:(ae id).size=32:=by rw[ju];exact i32
 have o1:=jY id;have HW2:Hid (w.heap.size<=v2.heap.size):=h_ hB.size;go_upto_region 6 with(with_reducible refine jo rfl _ _ rfl _ (ae id) (ae id) rfl rfl rfl s1 o1 h0 (db v2 _) rfl ?_)
 generalize hw4:World.setRow _ _ _=v3;have hb2:Below v2.heap.size v2 v3:=cU hw4;have hI:Has v3 v2.heap.size (ae id) 28:=by rw[<-hw4];exact Has.row (db v2 _) _
 replace hH:=hH.on hb2;replace hB:=ah hB hb2;clear hw4 hb2 o1;obtain⟨bI,Sh⟩:∃b,b=v2.heap.size:=⟨_,rfl⟩;rw[<-Sh]at hI HW2|-;clear Sh;go_wp2_with (first|fail|(with_reducible refine ki rfl _ rfl _ rfl _ hI s1 ?_))
 refine ar (KF.out _ hB) fun v4 hb=>?_;replace hH:=hH.on hb;replace hI:=cu hb hI (Has.lt hI);replace hB:=ah hB hb;clear hb;have rp:=hH.prev;have s2:=gV ho.1;go_wp2_with (first|fail|(with_reducible refine fU rfl _ rfl bH 1 rfl h.prev rp s2 ?_))
 refine ar (KP.out _ hB) fun v5 hb=>?_;replace hH:=hH.on hb;replace hI:=cu hb hI (Has.lt hI);replace hB:=ah hB hb;clear hb;clear rp;go_wp2_with fail
 go_ret3
 exact⟨rfl,hB⟩
theorem Fo(b:Nat)(h:Hd)(ho:h.ok)(now:Int)(w:World)(KG:aO w 118 #[.agg (aD h)] (.bool true))(id:List UInt8)(i32:id.length=32)(KI:aO w 119 #[.agg (aD h)] (.agg (ae id)))(KF:aO w 120 #[.pointer (some ⟨b,0,none⟩),.agg (ae id)] (.int .i64 (-1))){I:Nat->Prop}{p:NN.Pr}{t:Tl}{gs:List Gt}{cs:List Ck}{room g n c mb:Nat}{L:List Bk}(HA:Hid (∀w',Below w.heap.size w w'->fC w' I b p t gs cs room (.slice (some ⟨g,0,none⟩) n c) mb L))(x:Bk)(xe:x.e.ok)(xs:x.s.ok)(j:Nat)(hj:j<n)(HR:Hid (∀w',Below w.heap.size w w'->w'.rangeAt g (j*144) (iM x.e x.s)))(KP:aO w 120 #[.pointer (some ⟨b,0,none⟩),.agg (ae h.prev)] (.int .i64 (j:Int)))(y:Int)(hy:(y==0)=false)(KC:aO w 121 #[.agg (NN.aE p),.agg (bq x.s),.agg (aD h),.int .i64 now] (.int .i64 y)):ak 84 #[.pointer (some ⟨b,0,none⟩),.agg (aD h),.int .i64 now] w (.tuple #[.int .i64 (-1),.int .i64 y,.int .i64 8]):=by
 have za:=fR ho;go_enter Tryz.func84,Tryz.ntmps84;go_upto_region 1 with fail
 generalize hw0:World.alloc _ _=v0;have hB:Below w.heap.size w v0:=de hw0;have hH:aG v0 w.heap.size h:=by rw[<-hw0];exact Has.new _ _
 clear hw0;obtain⟨bH,Q1⟩:∃x,x=w.heap.size:=⟨_,rfl⟩;rw[<-Q1]at hH|-;have Tb:Hid (bH=w.heap.size):=h_ Q1;clear Q1;go_wp2_with (first|fail|(with_reducible refine cJ rfl _ rfl _ rfl hH za ?_))
 refine ar (KG.out _ hB) fun v1 hb=>?_;replace hH:=hH.on hb;replace hB:=ah hB hb;clear hb;go_wp2_with (first|fail|(with_reducible refine cJ rfl _ rfl _ rfl hH za ?_))
 refine ar (KI.out _ hB) fun v2 hb=>?_;replace hH:=hH.on hb;replace hB:=ah hB hb;clear hb;have s1:(ae id).size=32:=by rw[ju];exact i32
 have o1:=jY id;have HW2:Hid (w.heap.size<=v2.heap.size):=h_ hB.size;go_upto_region 6 with(with_reducible refine jo rfl _ _ rfl _ (ae id) (ae id) rfl rfl rfl s1 o1 h0 (db v2 _) rfl ?_)
 generalize hw4:World.setRow _ _ _=v3;have hb2:Below v2.heap.size v2 v3:=cU hw4;have hI:Has v3 v2.heap.size (ae id) 28:=by rw[<-hw4];exact Has.row (db v2 _) _
 replace hH:=hH.on hb2;replace hB:=ah hB hb2;clear hw4 hb2 o1;obtain⟨bI,Sh⟩:∃b,b=v2.heap.size:=⟨_,rfl⟩;rw[<-Sh]at hI HW2|-;clear Sh;go_wp2_with (first|fail|(with_reducible refine ki rfl _ rfl _ rfl _ hI s1 ?_))
 refine ar (KF.out _ hB) fun v4 hb=>?_;replace hH:=hH.on hb;replace hI:=cu hb hI (Has.lt hI);replace hB:=ah hB hb;clear hb;have rp:=hH.prev;have s2:=gV ho.1;go_wp2_with (first|fail|(with_reducible refine fU rfl _ rfl bH 1 rfl h.prev rp s2 ?_))
 refine ar (KP.out _ hB) fun v5 hb=>?_;replace hH:=hH.on hb;replace hI:=cu hb hI (Has.lt hI);replace hB:=ah hB hb;clear hb;clear rp;have R9:=HA.out _ hB;have SZ:=iC R9.has R9.Rf;have rs:=BW xe (HR.out _ hB);have z3:=mf xs;have z4:=iZ xs;have z0:=iZ iU;have hp:=R9.Rf;clear R9;have Vo:Hid (w.heap.size<=v5.heap.size):=h_ hB.size
 go_upto_region 13 with(first
  | (with_reducible refine AG rfl _ rfl g (j*144+106) rfl x.s rs z3 ?_)
  | (with_reducible refine pG rfl _ _ rfl _ _ x.s rfl rfl rfl z4 (mD v5) z0 ?_))
 generalize hw4:World.setRow _ _ _=v6;have hb2:Below v5.heap.size v5 v6:=cU hw4;have hS:aH v6 v5.heap.size x.s:=by rw[<-hw4];exact Has.row (mD v5) _
 replace hH:=hH.on hb2;replace hI:=cu hb2 hI (Has.lt hI);replace hB:=ah hB hb2;clear hw4 hb2 SZ rs;obtain⟨bS,hbS⟩:∃b,b=v5.heap.size:=⟨_,rfl⟩;rw[<-hbS]at hS Vo|-;clear hbS;simp only[Act.put];have hz:=jj hp;have ra:=gd (nR (HA.out _ hB).has) (by rw[hz];omega);have qS:=hS.cls;have qH:=gd hH.range (jQ h);have sh:=ek ho;have Uu:∀d os,Below w.heap.size w (Sort.grow (redrawn v6 d) os):=fun d os=>hB.trans ((below_regrown v6 d os).mono hB.size)
 refine wp_region_quiet_below (by kernel_rfl) (by kernel_rfl) ?_
 repeat(first
  | (go_big_quiet_want;(with_reducible first|refine yY 32 _ rfl b 0 rfl (NN.dU p) _ Tryz.underlying32 rfl (NN.ft.trans (by rw[hz])) ra ?_|refine Bu _ rfl bS rfl z4 qS ?_|refine j3 _ rfl bH 0 rfl h sh qH ?_);(simp only[Act.put,List.setIfInBounds_toArray,List.set_cons_zero,List.set_cons_succ]);go_big_quiet_on)
  | go_big_quiet_step ((go_at_call 121;exact Calls.regrown_of (KC.out _ (Uu _ _)))))
 refine wpQuiet_nil ?_;intro v7 hw';have hb:=jh v7 hw';replace hH:=hH.on hb;replace hI:=cu hb hI (Has.lt hI);replace hS:=hS.on hb;replace hB:=ah hB hb;clear hw' hb ra qS qH sh Uu;go_wp2_with fail
 go_ret3
 exact⟨rfl,hB⟩
