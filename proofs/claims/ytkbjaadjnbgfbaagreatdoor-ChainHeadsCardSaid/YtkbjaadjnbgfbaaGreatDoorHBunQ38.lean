import Derived.Test.YtkbjaadjnbgfbaaGreatDoorHAnMap
import Derived.Test.YtkbjaadjnbgfbaaGreatDoorHBunQ33
import Derived.Test.YtkbjaadjnbgfbaaGreatDoorHBunQ37
set_option maxRecDepth 100000
set_option maxHeartbeats 4000000
namespace Go.Proofs.YtkbjaadjnbgfbaaGreatDoor
open Go.RowKit
namespace An
open Mem Sc
open Ar (av Ru aN)
structure En where
 h:Hd
 id:List UInt8
 up:Int
 ht:Int
 wk:Nat
def En.ok(e:En):Prop:=e.h.ok/\e.id.length=32
def kn(e:En):List Value:=cP e.h++(Lib.byteCells e.id++(i_ e.up::i_ e.ht::(NN.aa e.wk).toList))
def dc(e:En):Array Value:=(kn e).toArray
def ml:En:=⟨fi,oX,0,0,0⟩
def pn:En:=⟨fi,oX,-1,0,0⟩
variable{e:En}
theorem rC(h:e.ok):(kn e).length=106:=by simp only[kn,aT,gQ h.1,lj h.2,fP,g_,NN.jE]
theorem ki(h:e.ok):(dc e).size=106:=by show(kn e).toArray.size=106;rw[iR];exact rC h
theorem Cq(n:Nat):∀v∈(NN.aa n).toList,v.oneCell'=true:=fun v hv=>by
 have:=NN.E6 n;rw[kE]at this;exact this v (by simpa using hv)
theorem C'(e:En):∀v∈kn e,v.oneCell'=true:=by
 intro v hv;simp only[kn,cJ,dL]at hv;rcases hv with hv|hv|rfl|rfl|hv
 exact tX _ v hv;exact Lib.byteCells_one _ v hv;rfl;rfl;exact Cq _ v hv
theorem Cp(e:En):(dc e).all (·.oneCell')=true:=all_oneCell_toArray (C' e)
theorem mC:(Tryz.prog.info? 60).map (·.size)=some 106:=by kernel_rfl
theorem eo:ml.ok:=⟨iC,rfl⟩
theorem gC:pn.ok:=⟨iC,rfl⟩
def cV(w:World)(k:Nat)(e:En):Prop:=Has w k (dc e) 60
def mO(e:En)(s:Sp):List Value:=kn e++kt s
theorem wU{s:Sp}(h:e.ok)(hs:s.ok):(mO e s).length=144:=by simp only[mO,aT,rC h,rq hs]
theorem AN(e:En)(s:Sp):∀v∈mO e s,v.oneCell'=true:=fun v hv=>by
 rcases dL.1 hv with h|h
 exact C' e v h;exact Cs s v h
def GP(p:NN.Pr)(room:Nat)(v:Value)(mb:Nat):List Value:=NN.f_ p++[i_ room,v,.map (some mb)]
def mW(p:NN.Pr)(room:Nat)(v:Value)(mb:Nat):Array Value:=(GP p room v mb).toArray
theorem nc{p:NN.Pr}(h:p.ok):(NN.f_ p).length=83:=by have:=NN.gT h;unfold NN.aV at this;simpa using this
theorem IY:(Lib.byteCells oX).length=32:=rfl
theorem Ms(parts:List (Nat×Value)):Tryz.prog.built 60 parts=Instr.fill ((#[(0,68),(68,32),(100,1),(101,1),(102,4)]:Array (Nat×Nat))[·]?) (dc ml) parts:=by kernel_rfl
theorem ME(e:En)(h:e.ok):Tryz.prog.built 60 [(0,.agg (aS e.h)),(1,.agg (ae e.id)),(2,Value.int .i64 e.up),(3,Value.int .i64 e.ht),(4,.agg (NN.aa e.wk))]=some (dc e):=by
 rw[Ms];have h0:=gQ h.1;have h1:=lj h.2;have z0:=gQ iC;have z1:=IY;unfold dc kn
 rw[show cP ml.h++(Lib.byteCells ml.id++(Value.int .i64 ml.up::Value.int .i64 ml.ht::(NN.aa ml.wk).toList))=[]++(cP fi++(Lib.byteCells oX++(Value.int .i64 0::Value.int .i64 0::(NN.aa 0).toList)))from rfl,
  kq (off:=0) (n:=68) [] (cP fi) _ (cP e.h) rfl rfl z0 rfl h0,j_,
  kq (off:=68) (n:=32) (cP e.h) (Lib.byteCells oX) _ (Lib.byteCells e.id) rfl h0 z1 (lP e.id▸rfl) h1,
  show cP e.h++(Lib.byteCells e.id++(Value.int .i64 0::Value.int .i64 0::(NN.aa 0).toList))=(cP e.h++Lib.byteCells e.id)++([Value.int .i64 0]++([Value.int .i64 0]++(NN.aa 0).toList)) by simp,
  kq (off:=100) (n:=1) (cP e.h++Lib.byteCells e.id) [Value.int .i64 0] _ [Value.int .i64 e.up] rfl (by simp[h0,h1]) rfl rfl rfl,
  show(cP e.h++Lib.byteCells e.id)++([Value.int .i64 e.up]++([Value.int .i64 0]++(NN.aa 0).toList))=(cP e.h++Lib.byteCells e.id++[Value.int .i64 e.up])++([Value.int .i64 0]++(NN.aa 0).toList) by simp,
  kq (off:=101) (n:=1) (cP e.h++Lib.byteCells e.id++[Value.int .i64 e.up]) [Value.int .i64 0] _ [Value.int .i64 e.ht] rfl (by simp[h0,h1]) rfl rfl rfl,
  show(cP e.h++Lib.byteCells e.id++[Value.int .i64 e.up])++([Value.int .i64 e.ht]++(NN.aa 0).toList)=(cP e.h++Lib.byteCells e.id++[Value.int .i64 e.up,Value.int .i64 e.ht])++((NN.aa 0).toList++[]) by simp,
  kq (off:=102) (n:=4) (cP e.h++Lib.byteCells e.id++[Value.int .i64 e.up,Value.int .i64 e.ht]) (NN.aa 0).toList [] (NN.aa e.wk).toList rfl (by simp[h0,h1]) rfl (by simp[Value.cells]) rfl,zQ]
 simp
theorem Pq(e:En)(h:e.ok)(h0:e.ht=0):Tryz.prog.built 60 [(0,.agg (aS e.h)),(1,.agg (ae e.id)),(2,Value.int .i64 e.up),(4,.agg (NN.aa e.wk))]=some (dc e):=by
 have hh:=ME e h;rw[Ms]at hh|-;rw[<-hh,h0];have e0:=gQ h.1;have e1:=lj h.2;have z0:=gQ iC;have z1:=IY
 have st:∀rest,Instr.fill ((#[(0,68),(68,32),(100,1),(101,1),(102,4)]:Array (Nat×Nat))[·]?) (dc ml) ((0,.agg (aS e.h))::(1,.agg (ae e.id))::(2,Value.int .i64 e.up)::rest)=Instr.fill ((#[(0,68),(68,32),(100,1),(101,1),(102,4)]:Array (Nat×Nat))[·]?) (cP e.h++(Lib.byteCells e.id++([Value.int .i64 e.up]++([Value.int .i64 0]++(NN.aa 0).toList)))).toArray rest:=fun rest=>by
  unfold dc kn
  rw[show cP ml.h++(Lib.byteCells ml.id++(Value.int .i64 ml.up::Value.int .i64 ml.ht::(NN.aa ml.wk).toList))=[]++(cP fi++(Lib.byteCells oX++(Value.int .i64 0::Value.int .i64 0::(NN.aa 0).toList)))from rfl,
   kq (off:=0) (n:=68) [] (cP fi) _ (cP e.h) rfl rfl z0 rfl e0,j_,
   kq (off:=68) (n:=32) (cP e.h) (Lib.byteCells oX) _ (Lib.byteCells e.id) rfl e0 z1 (lP e.id▸rfl) e1,
   show cP e.h++(Lib.byteCells e.id++(Value.int .i64 0::Value.int .i64 0::(NN.aa 0).toList))=(cP e.h++Lib.byteCells e.id)++([Value.int .i64 0]++([Value.int .i64 0]++(NN.aa 0).toList)) by simp,
   kq (off:=100) (n:=1) (cP e.h++Lib.byteCells e.id) [Value.int .i64 0] _ [Value.int .i64 e.up] rfl (by simp[e0,e1]) rfl rfl rfl]
  simp
 rw[st,st]
 rw[show cP e.h++(Lib.byteCells e.id++([Value.int .i64 e.up]++([Value.int .i64 0]++(NN.aa 0).toList)))=(cP e.h++Lib.byteCells e.id++[Value.int .i64 e.up])++([Value.int .i64 0]++(NN.aa 0).toList) by simp,
  kq (i:=3) (off:=101) (n:=1) (cP e.h++Lib.byteCells e.id++[Value.int .i64 e.up]) [Value.int .i64 0] _ [Value.int .i64 0] rfl (by simp[e0,e1]) rfl rfl rfl]
theorem Ui:Tryz.prog.built 60 [(2,Value.int .i64 (-1))]=some (dc pn):=by kernel_rfl
theorem Py(parts:List (Nat×Value)):Tryz.prog.built 143 parts=Instr.fill ((#[(0,106),(106,38)]:Array (Nat×Nat))[·]?) (mO ml qJ).toArray parts:=by kernel_rfl
theorem Tc(e:En)(s:Sp)(h:e.ok)(hs:s.ok):Tryz.prog.built 143 [(0,.agg (dc e)),(1,.agg (cU s))]=some (mO e s).toArray:=by
 rw[Py];have h0:=rC h;have h1:=rq hs;unfold mO
 rw[show kn ml++kt qJ=[]++(kn ml++kt qJ)from rfl,
  kq (off:=0) (n:=106) [] (kn ml) _ (kn e) rfl rfl (rC eo) rfl h0,
  show[]++(kn e++kt qJ)=kn e++(kt qJ++[]) by simp,
  kq (off:=106) (n:=38) (kn e) (kt qJ) [] (kt s) rfl h0 (rq mS) rfl h1,zQ]
 simp
def tP:NN.Pr:=⟨0,0,0,0,false,Value.slice none 0 0::Value.slice none 0 0::((NN.aa 0).toList++((NN.aa 0).toList++cP fi))⟩
theorem sS:tP.ok:=rfl
theorem Kb(parts:List (Nat×Value)):Tryz.prog.built 147 parts=Instr.fill ((#[(0,83),(83,1),(84,1),(85,1)]:Array (Nat×Nat))[·]?) (NN.f_ tP++[Value.int .i64 0,Value.slice none 0 0,Value.map none]).toArray parts:=by kernel_rfl
theorem TR(p:NN.Pr)(h:p.ok)(room mb:Nat):Tryz.prog.built 147 [(0,.agg (NN.aV p)),(1,Value.int .i64 (room:Int)),(3,.map (some mb))]=some (mW p room (.slice none 0 0) mb):=by
 rw[Kb];have h0:=nc h;unfold mW GP
 rw[show NN.f_ tP++[Value.int .i64 0,Value.slice none 0 0,Value.map none]=[]++(NN.f_ tP++[Value.int .i64 0,Value.slice none 0 0,Value.map none])from rfl,
  kq (off:=0) (n:=83) [] (NN.f_ tP) _ (NN.f_ p) rfl rfl (nc sS) rfl h0,
  show[]++(NN.f_ p++[Value.int .i64 0,Value.slice none 0 0,Value.map none])=NN.f_ p++([Value.int .i64 0]++[Value.slice none 0 0,Value.map none]) by simp,
  kq (off:=83) (n:=1) (NN.f_ p) [Value.int .i64 0] _ [Value.int .i64 (room:Int)] rfl h0 rfl rfl rfl,
  show NN.f_ p++([Value.int .i64 (room:Int)]++[Value.slice none 0 0,Value.map none])=(NN.f_ p++[Value.int .i64 (room:Int),Value.slice none 0 0])++([Value.map none]++[]) by simp,
  kq (off:=85) (n:=1) (NN.f_ p++[Value.int .i64 (room:Int),Value.slice none 0 0]) [Value.map none] [] [Value.map (some mb)] rfl (by simp[h0]) rfl rfl rfl,zQ]
 simp
def jD(I:Nat->Prop)(P:World->Prop)(w:World):Prop:=∀w',Kp (fun i=>¬I i) w w'->P w'
section
variable{w w':World}{I J G:Nat->Prop}{P P':World->Prop}
theorem jD.now(h:jD I P w):P w:=h w (Kp.refl _ w)
theorem jD.on(h:jD I P w)(k:Kp G w w')(hG:∀i,I i->¬G i):jD I P w':=fun w2 k2=>h w2 ((k.mono (fun i hi _=>fun h=>hG i h hi)).trans k2 (fun _ hi _=>hi))
theorem jD.wide(h:jD I P w)(hI:∀i,I i->J i):jD J P w:=fun w2 k2=>h w2 (k2.mono fun i hi _=>fun h=>hi (hI i h))
theorem jD.imp(h:jD I P w)(hP:∀w',P w'->P' w'):jD I P' w:=fun w2 k2=>hP w2 (h w2 k2)
theorem jD.and(h:jD I P w)(h':jD I P' w):jD I (fun w=>P w/\P' w) w:=fun w2 k2=>⟨h w2 k2,h' w2 k2⟩
end
variable{w w':World}{F I:Nat->Prop}
theorem Mz{b o:Nat}{cs:List Value}(h:w.rangeAt b o cs)(k:Kp F w w')(hb:b<w.heap.size)(hn:¬F b):w'.rangeAt b o cs:=fun j u hu=>(iZ (k.block b hb hn)).trans (h j u hu)
variable{a:Option Addr}
theorem JL{gs:List Gt}(h:bc w a gs)(hI:0<gs.length->∀ad,a=some ad->I ad.block):jD I (fun w=>bc w a gs) w:=fun w' k h0=>by
 obtain⟨ab,ao,ha,hlt,hc⟩:=h h0;have:=hI h0 _ ha;exact⟨ab,ao,ha,b_ hlt k.size,fun i hi=>Mz (hc i hi) k hlt (fun hn=>hn this)⟩
theorem P3{gs:List Ck}(h:aI w a gs)(hI:0<gs.length->∀ad,a=some ad->I ad.block):jD I (fun w=>aI w a gs) w:=fun w' k h0=>by
 obtain⟨ab,ao,ha,hlt,hc⟩:=h h0;have:=hI h0 _ ha;exact⟨ab,ao,ha,b_ hlt k.size,fun i hi=>⟨(hc i hi).1,Mz (hc i hi).2 k hlt (fun hn=>hn this)⟩⟩
theorem I1{s:Sp}{q:Ps}{lo:Nat}(h:gR w lo s q)(hI:∀i,lo<=i->i<w.heap.size->I i):jD I (fun w=>gR w 0 s q) w:=fun w' k=>by
 obtain⟨h1,h2,h3,h4,h5,h6⟩:=h;refine⟨h1,h2,h3,h4,h5,fun h0=>?_⟩;obtain⟨b,off,e,g1,g2,hc⟩:=h6 h0;exact⟨b,off,e,bB _,b_ g2 k.size,fun j hj=>(iZ (w:=w) (a:=⟨b,off+j,none⟩) (k.block b g2 (fun hn=>hn (hI b g1 g2)))).trans (hc j hj)⟩
variable{base e size n:Nat}{v:Value}{xs:List Value}
theorem aF(h:w.ownsRow base e size v n xs)(k:Kp F w w')(hF:∀i,v.ownBlock=some i->¬F i):w'.ownsRow base e size v n xs:=by
 refine⟨h.1,?_⟩;rcases h.2 with h|⟨g,c,cur,rfl,h1,h2,h3⟩
 exact .inl h;have hg:g<w.heap.size:=(dA.1 h2).1;exact .inr ⟨g,c,cur,rfl,h1,(k.block g hg (hF g rfl)).trans h2,h3⟩
theorem dM(h:w.ownsRow base e size v n xs){i:Nat}(hi:v.ownBlock=some i):i<w.heap.size/\base<=i:=by
 rcases h.2 with⟨rfl,_⟩|⟨g,c,cur,rfl,h1,h2,h3⟩
 cases hi;cases hi;exact⟨(dA.1 h2).1,h1⟩
theorem iD(h:w.ownsRow base e size v n xs){i:Nat}(hi:v.ownBlock=some i):∃cs,w.heap[i]?=some (.cells cs e (0,0)):=by
 rcases h.2 with⟨rfl,_⟩|⟨g,c,cur,rfl,h1,h2,h3⟩
 cases hi;cases hi;exact⟨_,h2⟩
structure Bk where
 e:En
 s:Sp
 q:Ps
def rj(L:List Bk):List Value:=L.flatMap fun x=>mO x.e x.s
theorem Ji(L:List Bk)(x:Bk):rj (L++[x])=rj L++mO x.e x.s:=by simp[rj]
structure jw (w:World) (I:Nat->Prop) (b:Nat) (p:NN.Pr) (t:Tl) (gs:List Gt) (cs:List Ck) (room:Nat) (v:Value) (mb:Nat) (L:List Bk):Prop where
 has:Has w b (mW p room v mb) 147
 VQ:p.ok
 one:p.one
 tt:p.tl=t.C
 tok:t.ok
 gn:t.gn=gs.length
 cn:t.cn=cs.length
 row:w.ownsRow 0 143 144 v L.length (rj L)
 map:e_ w mb (L.map (·.e.id))
 VL:jD I (fun w=>bc w t.ga gs) w
 checks:jD I (fun w=>aI w t.ca cs) w
 V7:∀x∈L,jD I (fun w=>gR w 0 x.s x.q) w
 nb:¬I b
 nm:¬I mb
 nv:∀k,v.ownBlock=some k->¬I k
 lt:∀i,I i->i<w.heap.size
 du:∀x∈L,x.e.ok/\x.s.ok
def n9(I:Nat->Prop)(b:Nat)(v:Value)(mb:Nat):Nat->Prop:=fun i=>I i\/i=b\/i=mb\/v.ownBlock=some i
section
variable{w w':World}{I G:Nat->Prop}{b:Nat}{p:NN.Pr}{t:Tl}{gs:List Gt}{cs:List Ck}{room:Nat}{v:Value}{mb:Nat}{L:List Bk}
theorem jw.on(h:jw w I b p t gs cs room v mb L)(k:Kp G w w')(hG:∀i,n9 I b v mb i->¬G i):jw w' I b p t gs cs room v mb L where
 has:=k.has h.has (hG b (.inr (.inl rfl)))
 VQ:=h.VQ
 one:=h.one
 tt:=h.tt
 tok:=h.tok
 gn:=h.gn
 cn:=h.cn
 row:=aF h.row k fun i hi=>hG i (.inr (.inr (.inr hi)))
 map:=h.map.on (k.block mb h.map.lt (hG mb (.inr (.inr (.inl rfl)))))
 VL:=h.VL.on k fun i hi=>hG i (.inl hi)
 checks:=h.checks.on k fun i hi=>hG i (.inl hi)
 V7:=fun x hx=>(h.V7 x hx).on k fun i hi=>hG i (.inl hi)
 nb:=h.nb
 nm:=h.nm
 nv:=h.nv
 lt:=fun i hi=>b_ (h.lt i hi) k.size
 du:=h.du
theorem jw.Wb(h:jw w I b p t gs cs room v mb L){i:Nat}(hi:n9 I b v mb i):i<w.heap.size:=by
 rcases hi with hi|rfl|rfl|hi
 exact h.lt i hi;exact h.has.lt;exact h.map.lt;exact(dM h.row hi).1
theorem jw.below(h:jw w I b p t gs cs room v mb L)(hb:Bl w w'):jw w' I b p t gs cs room v mb L:=h.on (G:=fun _=>False) (Kp.of hb) fun _ _ hf=>hf
theorem jw.YA(h:jw w I b p t gs cs room v mb L):b≠mb:=h.map.VA h.has
theorem jw.Zu(h:jw w I b p t gs cs room v mb L){i:Nat}(hi:v.ownBlock=some i):i≠b:=by
 rintro rfl;obtain⟨c,hc⟩:=iD h.row hi;have:=h.has.out;rw[hc]at this;injection this with this
 injection this with _ this
 exact absurd this (by decide)
theorem jw.YB(h:jw w I b p t gs cs room v mb L){i:Nat}(hi:v.ownBlock=some i):i≠mb:=by obtain⟨c,hc⟩:=iD h.row hi;exact h.map.VA hc
end
def iK(r:Ru)(hs:List Hd):Nat:=hs.foldl (fun n h=>NN.Nm.cap (n+NN.ofBits h.bits)) (NN.ofBits r.g.bits)
theorem Ei(r:Ru)(hs:List Hd)(h:Hd):iK r (hs++[h])=NN.Nm.cap (iK r hs+NN.ofBits h.bits):=by simp[iK]
theorem wM(r:Ru)(hs:List Hd):iK r hs<NN.Nm.ak:=by
 rcases List.eq_nil_or_concat hs with rfl|⟨l,x,rfl⟩
 exact NN.Js _;rw[List.concat_eq_append,Ei];exact NN.Nm.sk _
def cX(r:Ru)(e:av):En:=⟨e.h r.g,(e.h r.g).id,e.up,(e.hs.length:Nat),iK r e.hs⟩
def Lk(r:Ru)(M:List av)(L:List Bk):Prop:=L.map (fun x=>(x.e,x.q))=M.map (fun e=>(cX r e,Ar.spot r e))
variable{r:Ru}{M:List av}{L:List Bk}
theorem Lk.length(h:Lk r M L):L.length=M.length:=by have:=aJ List.length h;simpa using this
theorem Lk.at(h:Lk r M L){i:Nat}{e:av}(he:M[i]?=some e):∃s,L[i]?=some ⟨cX r e,s,Ar.spot r e⟩:=by
 have h1:(L.map (fun x=>(x.e,x.q)))[i]?=(M.map (fun e=>(cX r e,Ar.spot r e)))[i]?:=by rw[h]
 rw[eK,eK,he]at h1;cases hL:L[i]? with
 | none=>rw[hL]at h1;cases h1
 | some x=>
  rw[hL]at h1;obtain⟨xe,xs,xq⟩:=x;simp only[gi,Option.some.injEq,Prod.mk.injEq]at h1;obtain⟨rfl,rfl⟩:=h1;exact⟨xs,rfl⟩
theorem Lk.ids(h:Lk r M L):L.map (·.e.id)=M.map fun e=>(e.h r.g).id:=by have:=aJ (List.map fun x:En×Ps=>x.1.id) h;rw[List.map_map,List.map_map]at this;exact this
theorem Lk.find(h:Lk r M L)(id:List UInt8):(L.map (·.e.id)).findIdx? (· == id)=Ar.oA r.g M id:=by rw[h.ids,List.findIdx?_map];rfl
theorem Lk.put(h:Lk r M L)(e:av)(s:Sp):Lk r (M++[e]) (L++[⟨cX r e,s,Ar.spot r e⟩]):=by unfold Lk at*;rw[ic,ic,h];rfl
def Alike(p:NN.Pr)(t:Tl)(r:Ru):Prop:=p.lim=r.p.lim/\p.Vv=r.p.Vv/\p.VG=r.p.VG/\p.Vz=r.p.Vz/\p.VD=r.p.VD/\t.g=r.g
def k9(w:World)(F:Nat->Prop)(b:Nat)(r:Ru)(M:List av):Prop:=(∀i,F i->i<w.heap.size)/\∃I p t v mb L,jw w I b p t r.gs r.cs r.room v mb L/\Alike p t r/\Lk r M L/\∀i,n9 I b v mb i->F i
section
variable{w w':World}{F G:Nat->Prop}{b:Nat}{r:Ru}{M:List av}
theorem k9.on(h:k9 w F b r M)(k:Kp G w w')(hG:∀i,F i->¬G i):k9 w' F b r M:=by obtain⟨hl,I,p,t,v,mb,L,h1,h2,h3,h4⟩:=h;exact⟨fun i hi=>b_ (hl i hi) k.size,I,p,t,v,mb,L,h1.on k fun i hi=>hG i (h4 i hi),h2,h3,h4⟩
theorem k9.below(h:k9 w F b r M)(hb:Bl w w'):k9 w' F b r M:=h.on (G:=fun _=>False) (Kp.of hb) fun _ _ hf=>hf
theorem k9.wide(h:k9 w F b r M)(hF:∀i,F i->G i)(hG:∀i,G i->i<w.heap.size):k9 w G b r M:=by obtain⟨_,I,p,t,v,mb,L,h1,h2,h3,h4⟩:=h;exact⟨hG,I,p,t,v,mb,L,h1,h2,h3,fun i hi=>hF i (h4 i hi)⟩
end
theorem pG{F:Nat->Prop}{w w':World}(h:∀i,F i->i<w.heap.size)(hs:w.heap.size<=w'.heap.size):∀i,mD F w w' i->i<w'.heap.size:=fun i hi=>by
 rcases hi with hi|hi
 exact b_ (h i hi) hs;exact hi.2
variable{p:NN.Pr}{t:Tl}{r:Ru}
theorem Qn(h:Alike p t r)(q:Ps)(hd:Hd)(now:Int):wi p r.gs r.cs q hd now=wi r.p r.gs r.cs q hd now:=by obtain⟨pl,pi,ps,pf,pe,pt⟩:=p;obtain⟨⟨rl,ri,rs,rf,re,rt⟩,_,_,_,_⟩:=r;obtain⟨h1,h2,h3,h4,h5,h6⟩:=h;simp only at h1 h2 h3 h4 h5;subst h1 h2 h3 h4 h5;rfl
theorem NM(h:Alike p t r)(q:Ps)(hd:Hd):bh p q hd=bh r.p q hd:=by obtain⟨pl,pi,ps,pf,pe,pt⟩:=p;obtain⟨⟨rl,ri,rs,rf,re,rt⟩,_,_,_,_⟩:=r;obtain⟨h1,h2,h3,h4,h5,h6⟩:=h;simp only at h1 h2 h3 h4 h5;subst h1 h2 h3 h4 h5;rfl
section
variable{w w':World}{b:Nat}{p:NN.Pr}{room mb:Nat}{v:Value}
theorem sz(j:Nat):(mW p room v mb)[j]?=(GP p room v mb)[j]?:=by unfold mW;rw[dg]
theorem Ev(hp:p.ok)(j:Nat):(GP p room v mb)[83+j]?=([i_ room,v,.map (some mb)]:List Value)[j]?:=by unfold GP;rw[dE (by rw[nc hp];omega),nc hp,show 83+j-83=j by omega]
theorem NU(h:Has w b (mW p room v mb) 147)(hp:p.ok):w.cell? ⟨b,83,none⟩=some (i_ room):=(Has.cell h 83).trans ((sz 83).trans (Ev hp 0))
theorem lM(h:Has w b (mW p room v mb) 147)(hp:p.ok):w.cell? ⟨b,84,none⟩=some v:=(Has.cell h 84).trans ((sz 84).trans (Ev hp 1))
theorem K7(h:Has w b (mW p room v mb) 147)(hp:p.ok):w.cell? ⟨b,85,none⟩=some (.map (some mb)):=(Has.cell h 85).trans ((sz 85).trans (Ev hp 2))
theorem tG(h:Has w b (mW p room v mb) 147):w.rangeAt b 0 (NN.f_ p):=by have:=j4 (A:=[]) (cs:=NN.f_ p) (C:=[i_ room,v,.map (some mb)]) (o:=0) (w:=w) (b:=b) (t:=147) h rfl;exact this
theorem FM(h:Has w b (mW p room v mb) 147)(hp:p.ok)(v':Value):Has (w.setCell ⟨b,84,none⟩ v') b (mW p room v' mb) 147:=by
 have:=Has.set (i:=84) h v'
 have e:(mW p room v mb).setIfInBounds 84 v'=mW p room v' mb:=by
  unfold mW GP;rw[da];congr 1;rw[jM _ _ (by rw[nc hp];omega),nc hp];rfl
 rwa[e]at this
end
section
variable{w:World}{k:Nat}{e:En}{ops:Array Oper}{rest:List Oper}{o:Oper}{a:Act}{Q:Exit->Act->World->Prop}
theorem cV.on{w':World}(h:cV w k e)(hb:Bl w w'):cV w' k e:=dz hb h (Has.lt h)
theorem kp(w:World):cV (w.alloc (.cells Tryz.zeroCells60 60)) w.heap.size ml:=Has.new (dc ml) _
theorem Uq(hgd:o.guard=none)(x:Operand)(ho:o.op=.load 60 x)(g off:Nat)(hx:a.eval x=.pointer (some ⟨g,off,none⟩))(e:En)(hg:w.rangeAt g off (kn e))(hs:(kn e).length=106)(hk:wpList Tryz.prog ops Q rest (a.put o.dst (.agg (dc e))) w):wpList Tryz.prog ops Q (o::rest) a w:=
 wpList_load_mid hgd 60 x ho g off hx (kn e) _ hg Tryz.underlying60 rfl (mC.trans (by rw[hs])) hk
theorem DP(hgd:o.guard=none)(x:Operand)(ho:o.op=.load 141 x)(g off:Nat)(hx:a.eval x=.pointer (some ⟨g,off,none⟩))(s:Sp)(hg:w.rangeAt g off (kt s))(hs:(kt s).length=38)(hk:wpList Tryz.prog ops Q rest (a.put o.dst (.agg (cU s))) w):wpList Tryz.prog ops Q (o::rest) a w:=
 wpList_load_mid hgd 141 x ho g off hx (kt s) _ hg Tryz.underlying141 rfl (kY.trans (by rw[hs])) hk
theorem lu(hgd:o.guard=none)(x y:Operand)(ho:o.op=.store 60 x y)(g:Nat)(cz:Array Value)(e':En)(hx:a.eval x=af g)(hy:a.eval y=.agg cz)(he:cz=dc e')(hs':(dc e').size=106)(hg:cV w g e)(hs:(dc e).size=106)(hk:wpList Tryz.prog ops Q rest (a.put o.dst undef) (w.setRow g (dc e'))):wpList Tryz.prog ops Q (o::rest) a w:=by subst he;exact eI hgd 60 x y ho g (dc e') hx hy 60 (dc e) (Has.out hg) (mC.trans (by rw[hs'])) (by rw[hs,hs']) (Cp e') hk
theorem yB(hgd:o.guard=none)(x:Operand)(ho:o.op=.build 60 #[(2,x)])(hx:a.eval x=i_ (-1))(hk:wpList Tryz.prog ops Q rest (a.put o.dst (.agg (dc pn))) w):wpList Tryz.prog ops Q (o::rest) a w:=
 gk hgd fun _ hK=>by
  unfold Oper.wp execOp;simp only[ho,aB];rw[show(#[(2,x)]:Array (Nat×Operand)).map (fun(i,x)=>(i,a.eval x))=#[(2,i_ (-1))] by simp[hx],gw w 60 _ _ Ui];exact hK _ _ hk
theorem Lq(hgd:o.guard=none)(x0 x1 x2 x3 x4:Operand)(ho:o.op=.build 60 #[(0,x0),(1,x1),(2,x2),(3,x3),(4,x4)])(e:En)(he:e.ok)(h0:a.eval x0=.agg (aS e.h))(h1:a.eval x1=.agg (ae e.id))(h2:a.eval x2=i_ e.up)(h3:a.eval x3=i_ e.ht)(h4:a.eval x4=.agg (NN.aa e.wk))(hk:wpList Tryz.prog ops Q rest (a.put o.dst (.agg (dc e))) w):wpList Tryz.prog ops Q (o::rest) a w:=
 gk hgd fun _ hK=>by
  unfold Oper.wp execOp;simp only[ho,aB];rw[show(#[(0,x0),(1,x1),(2,x2),(3,x3),(4,x4)]:Array (Nat×Operand)).map (fun(i,x)=>(i,a.eval x))=#[(0,.agg (aS e.h)),(1,.agg (ae e.id)),(2,i_ e.up),(3,i_ e.ht),(4,.agg (NN.aa e.wk))] by simp[h0,h1,h2,h3,h4],gw w 60 _ _ (ME e he)];exact hK _ _ hk
variable{fn:Func}{p:Tmp}
theorem TY(hf:fn.results=#[.cell p 60])(tmps:Array Value)(g:Nat)(hp:tmps.getD p undef=af g)(hg:cV w g e)(hs:(dc e).size=106):(results fn tmps).run Tryz.prog w=.ok (.agg (dc e)) w:=
 results_cell_row hf tmps w g 60 (dc e) (0,0) _ hp (Has.out hg) Tryz.underlying60 rfl (mC.trans (by rw[hs]))
theorem GM{q:Tmp}(hf:fn.results=#[.cell p 60,.tmp q])(tmps:Array Value)(g:Nat)(c:Value)(hp:tmps.getD p undef=af g)(hc:tmps.getD q undef=c)(hg:cV w g e)(hs:(dc e).size=106):(results fn tmps).run Tryz.prog w=.ok (.tuple #[.agg (dc e),c]) w:=by rw[results_cell_tmp hf,hp,hc];have hl:(loadVar 60 ⟨g,0,none⟩).run Tryz.prog w=.ok (.agg (dc e)) w:=gM w g 60 60 (dc e) (0,0) _ (Has.out hg) Tryz.underlying60 rfl (mC.trans (by rw[hs]));simp[asAddr,hl,Result.andThen]
end
theorem K9(L:List Bk)(h:∀x∈L,x.e.ok/\x.s.ok)(i j:Nat)(x:Bk)(hi:L[i]?=some x)(hj:j<144):(rj L)[i*144+j]?=(mO x.e x.s)[j]?:=by
 induction L generalizing i with
 | nil=>simp at hi
 | cons y L ih=>
  have hy:=h y (by simp);have hl:=wU hy.1 hy.2;have e:rj (y::L)=mO y.e y.s++rj L:=rfl;rw[e];cases i with
  | zero=>
   obtain rfl:y=x:=by simpa using hi
   rw[dm (by omega)];simp
  | succ i=>
   rw[dE (by omega),hl,show(i+1)*144+j-144=i*144+j by omega];exact ih (fun z hz=>h z (by simp[hz])) i (by simpa using hi)
section
variable{w:World}{I:Nat->Prop}{b:Nat}{p:NN.Pr}{t:Tl}{gs:List Gt}{cs:List Ck}{room:Nat}{v:Value}{mb:Nat}{L:List Bk}
theorem jw.range(h:jw w I b p t gs cs room v mb L){i:Nat}{x:Bk}(hi:L[i]?=some x):∃g c,v=.slice (bs g) L.length c/\g<w.heap.size/\w.rangeAt g (i*144) (mO x.e x.s):=by
 have hlt:=(bk.1 hi).1;have hx:=h.du x (ee hi);rcases h.row.2 with⟨_,h0⟩|⟨g,c,cur,rfl,h1,h2,h3,h4,h5,h6⟩
 omega
 ·refine⟨g,c,rfl,(dA.1 h2).1,fun j u hu=>?_⟩
  have hj:j<144:=by
   have:=(bk.1 hu).1;rwa[wU hx.1 hx.2]at this
  rw[<-K9 L h.du i j x hi hj,<-h6]at hu;have hH:Has w g cur 143:=h2;rw[hH.cell,<-hu,mQ (by omega),oW]
theorem jw.slice(h:jw w I b p t gs cs room v mb L):∃a c,v=.slice a L.length c:=by
 rcases h.row.2 with⟨rfl,h0⟩|⟨g,c,cur,rfl,_⟩
 exact⟨none,0,by rw[h0]⟩;exact⟨_,c,rfl⟩
variable{g o:Nat}{e:En}{s:Sp}
theorem y7{w:World}(hr:w.rangeAt g o (mO e s)):w.rangeAt g o (kn e):=by have:=GG (A:=[]) (cs:=kn e) (C:=kt s) (k:=0) (w:=w) (b:=g) (o:=o) hr rfl;exact this
theorem EB{w:World}(he:e.ok)(hr:w.rangeAt g o (mO e s)):w.rangeAt g (o+106) (kt s):=
 GG (A:=kn e) (cs:=kt s) (C:=[]) (k:=106) (w:=w) (b:=g) (o:=o) (by rw[dW];exact hr) (rC he)
theorem EF{w:World}(he:e.ok)(hr:w.rangeAt g o (kn e)):w.rangeAt g (o+102) (NN.aa e.wk).toList:=
 GG (A:=cP e.h++(Lib.byteCells e.id++[i_ e.up,i_ e.ht])) (cs:=(NN.aa e.wk).toList) (C:=[]) (k:=102) (w:=w) (b:=g) (o:=o) (by rw[dW];unfold kn at hr;simpa using hr) (by simp[gQ he.1,lj he.2])
end
theorem SJ{C:World->Prop}{K:Act->Prop}{o:Oper}{a:Act}(x y:Operand)(ho:o.op=.lookup 145 x y true)(m:Value)(hx:a.eval x=m)(k:Value)(hy:a.eval y=k)(r:Value)(hC:∀w',C w'->(Instr.lookup 145 m k true).run Tryz.prog w'=.ok r w')(hk:K (a.put o.dst r)):o.quiet Tryz.prog a C K:=
 ⟨_,fun w' hw'=>by
  unfold Oper.quietAt
  have this:(execOp a.eval o).run Tryz.prog w'=.ok (.value r) w':=by
   unfold execOp;simp only[ho,hx,hy,aB,hC w' hw',aM];rfl
  rw[this];exact⟨rfl,rfl⟩,hk⟩
variable{w:World}
theorem NS{b:Nat}{l:List UInt8}{t:TypeId}(h:Has w b (ae l) t):w.rangeAt b 0 (Lib.byteCells l):=fun j u hu=>by
 rw[cy,h.cell j,<-Array.getElem?_toList,lP];exact hu
theorem rO:∀w',(∃r:Regrown,w'=Sort.grow (redrawn w r.d) r.os)->Bl w w':=fun w' ⟨r,e⟩=>by rw[e];exact below_regrown w r.d r.os
theorem B3(k:Int)(w:World):ar 103 #[.pointer none,i_ k] w (.bool false):=by
 have hB:=aA w.heap.size w;go_enter Tryz.func103,Tryz.ntmps103;go_wp2_with fail
 go_ret;exact⟨rfl,hB⟩
theorem Ki(b n:Nat)(p:Option Addr)(c:Nat)(k:Int)(g1 g2:Bool)(h1:decide ((0:Int)<=k)=g1)(h2:decide (k<(n:Int))=g2)(w:World)(hv:w.cell? ⟨b,84,none⟩=some (.slice p n c)):ar 103 #[af b,i_ k] w (.bool (g1&&g2)):=by
 have hB:=aA w.heap.size w;cases g1
 ·go_enter Tryz.func103,Tryz.ntmps103;go_wp2_with fail
  go_ret;exact⟨rfl,hB⟩
 ·go_enter Tryz.func103,Tryz.ntmps103;go_wp2_with fail
  go_ret;exact⟨by cases g2<;>rfl,hB⟩
theorem len_nil(w:World):ar 92 #[.pointer none] w (i_ 0):=by
 have hB:=aA w.heap.size w;go_enter Tryz.func92,Tryz.ntmps92;go_wp2_with fail
 go_ret;exact⟨rfl,hB⟩
theorem Iu(b n:Nat)(p:Option Addr)(c:Nat)(w:World)(hv:w.cell? ⟨b,84,none⟩=some (.slice p n c)):ar 92 #[af b] w (i_ n):=by
 have hB:=aA w.heap.size w;go_enter Tryz.func92,Tryz.ntmps92;go_wp2_with fail
 go_ret;exact⟨rfl,hB⟩
theorem EK(b mb:Nat)(id:List UInt8)(hid:id.length=32)(w:World)(c:Int)(g:Bool)(z:Int)(hz:z=if g then c else -1)(hv:w.cell? ⟨b,85,none⟩=some (.map (some mb)))(hL:∀w',Bl w w'->(Instr.lookup 145 (.map (some mb)) (.agg (ae id)) true).run Tryz.prog w'=.ok (.tuple #[i_ c,.bool g]) w'):ar 120 #[af b,.agg (ae id)] w (i_ z):=by
 go_enter Tryz.func120,Tryz.ntmps120;go_upto_region 1 with fail
 generalize hw0:World.alloc _ _=v0;have hB:Bl w v0:=eT hw0;have hI:Has v0 w.heap.size (ae id) 28:=by rw[<-hw0];exact Has.new _ _
 clear hw0;have hv0:=(hB.cell (p:=⟨b,85,none⟩) (block_lt_of_cell hv)).trans hv;have q1:∀d os,(Sort.grow (redrawn v0 d) os).cell? ⟨b,85,none⟩=some (.map (some mb)):=cell_regrown hv0;obtain⟨bI,WR⟩:∃x,x=w.heap.size:=⟨_,rfl⟩;rw[<-WR]at hI|-;clear WR;have qI:=jW (NS hI) (by rw[Lib.byteCells_length];omega);have s1:=lj hid;have hL0:∀w',(∃r:Regrown,w'=Sort.grow (redrawn v0 r.d) r.os)->(Instr.lookup 145 (.map (some mb)) (.agg (ae id)) true).run Tryz.prog w'=.ok (.tuple #[i_ c,.bool g]) w':=fun w' h=>hL w' (hB.trans ((rO w' h).mono hB.size))
 go_upto_region 3 with fail
 refine wp_region_quiet_below (by kernel_rfl) (by kernel_rfl) ?_
 repeat(first
  | (go_big_quiet_want;(with_reducible first|refine su _ rfl bI 0 rfl id s1 qI ?_|refine SJ _ _ rfl (.map (some mb)) rfl (.agg (ae id)) rfl _ hL0 ?_);(simp only[Act.put,da,aZ,bg]);go_big_quiet_on)
  | go_big_quiet_step (fail))
 refine wpQuiet_nil ?_;intro v1 hw';have hB1:=hB.trans ((rO v1 hw').mono hB.size);cases g
 ·subst hz;go_wp2_with fail
  go_ret;exact⟨rfl,hB1⟩
 ·subst hz;go_wp2_with fail
  go_ret;exact⟨rfl,hB1⟩
theorem wv(p:Value)(k:Int)(w:World)(KH:bG w 103 #[p,i_ k] (.bool false)):ar 65 #[p,i_ k] w (.tuple #[.agg (dc pn),.bool false]):=by
 have z0:=ki eo;have z1:=ki gC;go_enter Tryz.func65,Tryz.ntmps65;go_upto_region 1 with fail
 generalize hw0:World.alloc _ _=v0;have hB:Bl w v0:=eT hw0;have hR:cV v0 w.heap.size ml:=by rw[<-hw0];exact kp w
 clear hw0;obtain⟨bR,hbR⟩:∃x,x=w.heap.size:=⟨_,rfl⟩;rw[<-hbR]at hR|-;have XH:Hid (w.heap.size<=bR):=h_ (by omega);clear hbR;go_wp2_with fail
 refine az (KH.out _ hB) fun v1 hb=>?_;replace hR:=hR.on hb;replace hB:=ai hB hb;clear hb
 go_wp2_with (first
  | (with_reducible refine yB rfl _ rfl rfl ?_)
  | (with_reducible refine lu rfl _ _ rfl _ _ pn rfl rfl rfl z1 hR z0 ?_))
 refine ay (GM Tryz.results65 _ _ _ rfl rfl (Has.row hR _) z1) rfl ⟨rfl,below_setRow hB XH.out _⟩
theorem Hf(b g n c k:Nat)(e:En)(he:e.ok)(hk:k<n)(w:World)(hv:w.cell? ⟨b,84,none⟩=some (.slice (bs g) n c))(hr:w.rangeAt g (k*144) (kn e))(KH:bG w 103 #[af b,i_ k] (.bool true)):ar 65 #[af b,i_ k] w (.tuple #[.agg (dc e),.bool true]):=by
 have z0:=ki eo;have z1:=ki he;have z2:=rC he;go_enter Tryz.func65,Tryz.ntmps65;go_upto_region 1 with fail
 generalize hw0:World.alloc _ _=v0;have hB:Bl w v0:=eT hw0;have hR:cV v0 w.heap.size ml:=by rw[<-hw0];exact kp w
 clear hw0;obtain⟨bR,hbR⟩:∃x,x=w.heap.size:=⟨_,rfl⟩;rw[<-hbR]at hR|-;have XH:Hid (w.heap.size<=bR):=h_ (by omega);clear hbR;go_wp2_with fail
 refine(KH.out _ hB).mono ?_;rintro r v1 ⟨rfl,hb⟩;replace hR:=hR.on hb;replace hB:=ai hB hb;clear hb;have hv1:=(hB.cell (p:=⟨b,84,none⟩) (block_lt_of_cell hv)).trans hv;have hr1:v1.rangeAt g (k*144) (kn e):=lL hr hB (by omega);clear hv hr
 go_wp2_with (first
  | (with_reducible refine Uq rfl _ rfl g (k*144) rfl e hr1 z2 ?_)
  | (with_reducible refine lu rfl _ _ rfl _ _ e rfl rfl rfl z1 hR z0 ?_))
 refine ay (GM Tryz.results65 _ _ _ rfl rfl (Has.row hR _) z1) rfl ⟨rfl,below_setRow hB XH.out _⟩
def PR:Option Nat->Int
 | some i=>(i:Int)
 | none=>-1
section
variable{w:World}{F:Nat->Prop}{b:Nat}{r:Ru}{M:List av}
theorem Ft(h:k9 w F b r M):ar 92 #[af b] w (i_ (M.length:Nat)):=by obtain⟨_,I,p,t,v,mb,L,h1,h2,h3,h4⟩:=h;obtain⟨a,c,rfl⟩:=h1.slice;have:=Iu b L.length a c w (lM h1.has h1.VQ);rwa[h3.length]at this
theorem z_(h:k9 w F b r M)(id:List UInt8)(hid:id.length=32):ar 120 #[af b,.agg (ae id)] w (i_ (PR (Ar.oA r.g M id))):=by
 obtain⟨_,I,p,t,v,mb,L,h1,h2,h3,h4⟩:=h;have hf:=h3.find id;obtain⟨c,hc,hi⟩:=h1.map.look hid;rw[hf]at hc hi;refine EK b mb id hid w c (Ar.oA r.g M id).isSome _ ?_ (K7 h1.has h1.VQ) fun w' hb=>?_
 ·cases hq:Ar.oA r.g M id with
  | none=>rfl
  | some i=>exact(hi i hq).symm
 exact hc w' (hb.block mb h1.map.lt)
theorem nj(h:k9 w F b r M){i:Nat}{e:av}(he:M[i]?=some e):(cX r e).ok:=by obtain⟨_,I,p,t,v,mb,L,h1,h2,h3,h4⟩:=h;obtain⟨s,hs⟩:=h3.at he;exact(h1.du _ (ee hs)).1
theorem pV(h:k9 w F b r M)(k:Int)(g:Bool)(hg:(decide (0<=k)&&decide (k<(M.length:Nat)))=g):ar 103 #[af b,i_ k] w (.bool g):=by obtain⟨_,I,p,t,v,mb,L,h1,h2,h3,h4⟩:=h;obtain⟨a,c,rfl⟩:=h1.slice;have:=Ki b L.length a c k _ _ rfl rfl w (lM h1.has h1.VQ);rwa[h3.length,hg]at this
theorem NI(h:k9 w F b r M){i:Nat}{e:av}(he:M[i]?=some e)(k:Int)(hk:k=(i:Nat)):ar 65 #[af b,i_ k] w (.tuple #[.agg (dc (cX r e)),.bool true]):=by
 subst hk;have hi:=(bk.1 he).1;have KH:bG w 103 #[af b,i_ (i:Nat)] (.bool true):=h_ fun w' hb=>pV (h.below hb) _ true (by rw[dv];exact⟨aG (by omega),aG (by omega)⟩)
 have ho:=nj h he;obtain⟨_,I,p,t,v,mb,L,h1,h2,h3,h4⟩:=h;obtain⟨s,hs⟩:=h3.at he;obtain⟨g,c,rfl,hg,hr⟩:=h1.range hs;exact Hf b g L.length c i (cX r e) ho (by rw[h3.length];exact hi) w (lM h1.has h1.VQ) (y7 hr) KH
theorem FR(h:k9 w F b r M)(k:Int)(hk:¬(0<=k/\k<(M.length:Nat))):ar 65 #[af b,i_ k] w (.tuple #[.agg (dc pn),.bool false]):=
 wv _ k w (h_ fun w' hb=>pV (h.below hb) k false (by
  rw[Bool.and_eq_false_iff];by_cases h0:0<=k;exact .inr (aE (by omega));exact .inl (aE h0)))
end
theorem EN(k:Int)(w:World):ar 65 #[.pointer none,i_ k] w (.tuple #[.agg (dc pn),.bool false]):=
 wv _ k w (h_ fun w' _=>B3 k w')
open NN.VI
def Ph(k:Nat)(Pre Post:World->Prop)(l:Array Bool)(w:World):Prop:=(l.getD k false=false->Pre w)/\(l.getD k false=true->Post w)
section
variable{k i:Nat}{Pre Post:World->Prop}{l:Array Bool}{w w':World}
theorem Ph.keep(h:Ph k Pre Post l w)(hi:i<l.size)(hk:i≠k:=by decide):Ph k Pre Post (l.setIfInBounds i true) w:=by unfold Ph at*;rwa[kk l i k hi hk]
theorem Ph.pre(h:Ph k Pre Post l w)(hl:(l.setIfInBounds i true).getD k false=false)(hi:i<l.size)(hk:i≠k):Pre w:=h.1 (by rw[<-kk l i k hi hk];exact hl)
theorem Ph.made(hl:(l.setIfInBounds i true).getD k false=false)(hp:Pre w'):Ph k Pre Post (l.setIfInBounds i true) w':=⟨fun _=>hp,fun h=>by rw[hl]at h;cases h⟩
theorem Ph.last(hi:k<l.size)(hp:Post w'):Ph k Pre Post (l.setIfInBounds k true) w':=⟨fun h=>(by rw[ko _ _ _ hi,aj rfl]at h;cases h),fun _=>hp⟩
theorem Ph.zero(hl:∀i,l.getD i false=false)(hp:Pre w):Ph k Pre Post l w:=⟨fun _=>hp,fun h=>by rw[hl]at h;cases h⟩
end
def kX(k s:Nat)(Pre:World->Prop)(Post:Value->World->Prop)(l:Array Bool)(a:Act)(w:World):Prop:=(l.getD k false=false->Pre w)/\(l.getD k false=true->Post (a.eval (.tmp s)) w)
section
variable{k i s:Nat}{Pre:World->Prop}{Post:Value->World->Prop}{l:Array Bool}{a:Act}{w w':World}
theorem kX.keep(h:kX k s Pre Post l a w)(hi:i<l.size)(hk:i≠k:=by decide){d:Option Tmp}{u:Value}(hd:d≠some s:=by decide):kX k s Pre Post (l.setIfInBounds i true) (a.put d u) w:=by unfold kX at*;rwa[kk l i k hi hk,fV (fun d' hdd e=>hd (by rw[hdd];cases e;rfl))]
theorem kX.pre(h:kX k s Pre Post l a w)(hl:(l.setIfInBounds i true).getD k false=false)(hi:i<l.size)(hk:i≠k):Pre w:=h.1 (by rw[<-kk l i k hi hk];exact hl)
theorem kX.made{a':Act}(hl:(l.setIfInBounds i true).getD k false=false)(hp:Pre w'):kX k s Pre Post (l.setIfInBounds i true) a' w':=⟨fun _=>hp,fun h=>by rw[hl]at h;cases h⟩
theorem kX.last(u:Value)(hi:k<l.size)(hp:Post (a.eval (.tmp s)) w'):kX k s Pre Post (l.setIfInBounds k true) (a.put none u) w':=⟨fun h=>(by rw[ko _ _ _ hi,aj rfl]at h;cases h),fun _=>hp⟩
theorem kX.zero(hl:∀i,l.getD i false=false)(hp:Pre w):kX k s Pre Post l a w:=⟨fun _=>hp,fun h=>by rw[hl]at h;cases h⟩
end
section
variable{ρ:Operand->Value}{o:Oper}{w:World}
variable{x y:Operand}{p:Addr}
theorem dR(ho:o.op=.nilCheck x)(hx:ρ x=.pointer (some p)):(execOp ρ o).run Tryz.prog w=.ok (.value (.pointer (some p))) w:=by unfold execOp;simp only[ho,hx];rfl
theorem AA(w:World)(g:Nat):(Instr.fieldAt 147 (af g) 0).run Tryz.prog w=.ok (af g) w:=by kernel_rfl
theorem pH(w:World)(g:Nat):(Instr.fieldAt 147 (af g) 2).run Tryz.prog w=.ok (.pointer (some ⟨g,84,none⟩)) w:=by kernel_rfl
theorem zl(w:World)(g:Nat):(Instr.fieldAt 147 (af g) 3).run Tryz.prog w=.ok (.pointer (some ⟨g,85,none⟩)) w:=by kernel_rfl
theorem AQ(w:World)(g:Nat):(Instr.fieldAt 60 (af g) 1).run Tryz.prog w=.ok (.pointer (some ⟨g,68,none⟩)) w:=by kernel_rfl
variable{T:TypeId}{n g m c:Nat}
theorem fg(ho:o.op=.fieldAddr T x n)(hx:ρ x=af g)(hf:(Instr.fieldAt T (af g) n).run Tryz.prog w=.ok (.pointer (some ⟨g,m,none⟩)) w):(execOp ρ o).run Tryz.prog w=.ok (.value (.pointer (some ⟨g,m,none⟩))) w:=by unfold execOp;simp only[ho,hx,aB,hf,aM];rfl
variable{a:Option Addr}
theorem LJ(h:w.cell? p=some (.slice a n c)):(loadVar 144 p).run Tryz.prog w=.ok (.slice a n c) w:=by go_simp
theorem J_(ho:o.op=.load 144 x)(hx:ρ x=.pointer (some p))(hc:w.cell? p=some (.slice a n c)):(execOp ρ o).run Tryz.prog w=.ok (.value (.slice a n c)) w:=by unfold execOp;simp only[ho,hx,Instr.loadAt,Instr.sureAddr,aB,cr,aM,LJ hc]
variable{u v:Value}
theorem Px(hf:w.frozen? p=false)(hc:w.cell? p=some u):(storeVar 144 p (.slice a n c)).run Tryz.prog w=.ok () (w.setCell p (.slice a n c)):=by go_simp
theorem SW(ho:o.op=.store 144 x y)(hx:ρ x=.pointer (some p))(hy:ρ y=.slice a n c)(hf:w.frozen? p=false)(hc:w.cell? p=some u):(execOp ρ o).run Tryz.prog w=.ok .skip (w.setCell p (.slice a n c)):=by unfold execOp;simp only[ho,hx,hy,Instr.storeAt,Instr.sureAddr,aB,cr,aM,Px hf hc]
theorem OS{m:Option Nat}(h:w.cell? p=some (.map m)):(loadVar 145 p).run Tryz.prog w=.ok (.map m) w:=by go_simp
theorem SU{m:Option Nat}(ho:o.op=.load 145 x)(hx:ρ x=.pointer (some p))(hc:w.cell? p=some (.map m)):(execOp ρ o).run Tryz.prog w=.ok (.value (.map m)) w:=by unfold execOp;simp only[ho,hx,Instr.loadAt,Instr.sureAddr,aB,cr,aM,OS hc]
variable{e:En}
theorem MK(ho:o.op=.load 60 x)(hx:ρ x=af g)(hg:w.rangeAt g 0 (kn e))(hs:(kn e).length=106):(execOp ρ o).run Tryz.prog w=.ok (.value (.agg (dc e))) w:=
 lq 60 ho hx Tryz.underlying60 rfl (mC.trans (by rw[hs])) hg
variable{s:Sp}
theorem N7(ho:o.op=.load 141 x)(hx:ρ x=af g)(hg:w.rangeAt g 0 (kt s))(hs:(kt s).length=38):(execOp ρ o).run Tryz.prog w=.ok (.value (.agg (cU s))) w:=
 lq 141 ho hx Tryz.underlying141 rfl (kY.trans (by rw[hs])) hg
theorem R1{off:Nat}{l:List UInt8}(ho:o.op=.load 28 x)(hx:ρ x=.pointer (some ⟨g,off,none⟩))(hg:w.rangeAt g off (Lib.byteCells l))(hs:l.length=32):(execOp ρ o).run Tryz.prog w=.ok (.value (.agg (ae l))) w:=by have:=lq (P:=Tryz.prog) (ρ:=ρ) (o:=o) (w:=w) 28 ho hx (cs:=Lib.byteCells l) Tryz.underlying28 rfl (lR.trans (by rw[lj hs])) hg;rw[this,<-lP]
theorem Fv{p:NN.Pr}(ho:o.op=.load 32 x)(hx:ρ x=af g)(hg:w.rangeAt g 0 (NN.f_ p))(hs:(NN.f_ p).length=83):(execOp ρ o).run Tryz.prog w=.ok (.value (.agg (NN.aV p))) w:=
 lq 32 ho hx Tryz.underlying32 rfl (NN.jg.trans (by rw[hs])) hg
theorem T2(ho:o.op=.build 143 #[(0,x),(1,y)])(hx:ρ x=.agg (dc e))(hy:ρ y=.agg (cU s))(he:e.ok)(hs:s.ok):(execOp ρ o).run Tryz.prog w=.ok (.value (.agg (mO e s).toArray)) w:=by unfold execOp;simp only[ho,aB];rw[show(#[(0,x),(1,y)]:Array (Nat×Operand)).map (fun(i,x)=>(i,ρ x))=#[(0,.agg (dc e)),(1,.agg (cU s))] by simp[hx,hy],gw w 143 _ _ (Tc e s he hs)];rfl
theorem Ce:∃i z,Tryz.prog.info? 143=some i/\i.zero=some z/\i.size=144/\i.bytes=272/\z.cells.size=144:=vU (by kernel_rfl) (by kernel_rfl) (by kernel_rfl)
theorem LY(cs:Array Value)(h:cs.size=144)(w:World):(Instr.buildSlice 144 1 #[(0,.agg cs)]).run Tryz.prog w=.ok (.slice (some ⟨w.heap.size,0,none⟩) 1 1) (w.alloc (.cells cs 143)):=by obtain⟨i,z,hi,hz,h1,h2,h3⟩:=Ce;refine run_buildSlice w 144 143 1 _ cs i z Tryz.underlying144 hi hz (by rw[h1];decide) (by rw[h1];decide) ?_;rw[h1];exact zE 144 _ cs (by simp) h
theorem UC{cs:Array Value}(ho:o.op=.buildSlice 144 1 #[(0,x)])(hx:ρ x=.agg cs)(h:cs.size=144):(execOp ρ o).run Tryz.prog w=.ok (.value (.slice (some ⟨w.heap.size,0,none⟩) 1 1)) (w.alloc (.cells cs 143)):=
 ny ho hx (LY cs h w)
theorem Ti{xs:List Value}(he:e.ok)(hs:s.ok)(hx:ρ x=v)(hown:w.ownsRow 0 143 144 v n xs)(hy:ρ y=.slice (bs g) 1 1)(hg:Has w g (mO e s).toArray 143)(hn:n<=1000):∃v' w',(∀o:Oper,o.op=.call { callee:=.builtin .append,args:=#[x,y],argTypes:=#[144,144] }->o.type=144->(execOp ρ o).run Tryz.prog w=.ok (.value v') w')/\w'.ownsRow 0 143 144 v' (n+1) (xs++mO e s)/\w.grownBy w' v.ownBlock/\(v'.ownBlock=v.ownBlock\/v'.ownBlock=some w.heap.size):=by
 obtain⟨i,z,hi,hz,h1,h2,h3⟩:=Ce
 obtain⟨v',w',hr,g1,g2,_,g4⟩:=run_append_own_at (P:=Tryz.prog) w 0 144 144 143 i z 144 272 Tryz.underlying144 hi hz h1 h2 h3 (by decide) v n xs hown ⟨g,0,none⟩ 1 1 (mO e s) (by rw[wU he hs]) (fun j u hj=>by
  rw[jK,cy,hg.cell j,dg];exact hj) (AN e s) (by unfold maxLen;omega) (by omega) (bB _)
 refine⟨v',w',fun o ho hty=>?_,g1,g2,g4⟩;unfold execOp;simp only[ho,hty,resolve,invoke,builtin,aB,cr,aM,im,bZ,cx,hx,hy,hr]
theorem Ob{z:Operand}{b:Nat}{k:Value}{w':World}(ho:o.op=.mapUpdate 145 x y z)(hx:ρ x=.map (some b))(hy:ρ y=k)(hz:ρ z=v)(hr:(Instr.mapUpdate 145 (.map (some b)) k v).run Tryz.prog w=.ok () w'):(execOp ρ o).run Tryz.prog w=.ok .skip w':=by unfold execOp;simp only[ho,hx,hy,hz,aB,cr,aM,hr]
theorem fY{j:Nat}(ho:o.op=.indexAddr T x y)(hx:ρ x=.slice (bs g) n c)(hy:ρ y=i_ j)(hf:(Instr.indexAt T (.slice (bs g) n c) (i_ j)).run Tryz.prog w=.ok (.pointer (some ⟨g,m,none⟩)) w):(execOp ρ o).run Tryz.prog w=.ok (.value (.pointer (some ⟨g,m,none⟩))) w:=by unfold execOp;simp only[ho,hx,hy,aB,hf,aM];rfl
theorem FO(w:World)(g j n c:Nat)(hj:j<n):(Instr.indexAt 144 (.slice (bs g) n c) (i_ j)).run Tryz.prog w=.ok (.pointer (some ⟨g,j*144,none⟩)) w:=by go_simp
end
end An
namespace An
open Mem Sc
def Fy(p:NN.Pr)(vH vI vA vW:Value)(room:Nat):List Value:=NN.f_ p++[vH,vI,vA,vW,i_ room]
def lU(p:NN.Pr)(vH vI vA vW:Value)(room:Nat):Array Value:=(Fy p vH vI vA vW room).toArray
theorem Ol(parts:List (Nat×Value)):Tryz.prog.built 72 parts=Instr.fill ((#[(0,83),(83,1),(84,1),(85,1),(86,1),(87,1)]:Array (Nat×Nat))[·]?) (NN.f_ tP++[Value.slice none 0 0,Value.slice none 0 0,Value.slice none 0 0,Value.slice none 0 0,Value.int .i64 0]).toArray parts:=by kernel_rfl
theorem uZ{Zv:Nat->Option (Nat×Nat)}(k off:Nat)(A:List Value)(x y:Value)(B:List Value)(parts:List (Nat×Value))(ho:Zv k=some (off,1))(hA:A.length=off)(hy:y.cells=#[y]):Instr.fill Zv (A++(x::B)).toArray ((k,y)::parts)=Instr.fill Zv ((A++[y])++B).toArray parts:=by rw[show A++(x::B)=A++([x]++B) by simp,kq (off:=off) (n:=1) A [x] B [y] ho hA rfl hy rfl];simp
theorem J6(p:NN.Pr)(h:p.ok)(a1 a2 a3 a4:Option Addr)(n1 n2 n3 n4 c1 c2 c3 c4 room:Nat):Tryz.prog.built 72 [(0,.agg (NN.aV p)),(1,.slice a1 n1 c1),(2,.slice a2 n2 c2),(3,.slice a3 n3 c3),(4,.slice a4 n4 c4),(5,Value.int .i64 (room:Int))]=some (lU p (.slice a1 n1 c1) (.slice a2 n2 c2) (.slice a3 n3 c3) (.slice a4 n4 c4) room):=by
 rw[Ol];have h0:=nc h;unfold lU Fy
 rw[show NN.f_ tP++[Value.slice none 0 0,Value.slice none 0 0,Value.slice none 0 0,Value.slice none 0 0,Value.int .i64 0]=[]++(NN.f_ tP++[Value.slice none 0 0,Value.slice none 0 0,Value.slice none 0 0,Value.slice none 0 0,Value.int .i64 0])from rfl,
  kq (off:=0) (n:=83) [] (NN.f_ tP) _ (NN.f_ p) rfl rfl (nc sS) rfl h0,j_,
  uZ 1 83 (NN.f_ p) _ _ _ _ rfl h0 rfl,uZ 2 84 _ _ _ _ _ rfl (by simp[h0]) rfl,uZ 3 85 _ _ _ _ _ rfl (by simp[h0]) rfl,uZ 4 86 _ _ _ _ _ rfl (by simp[h0]) rfl,uZ 5 87 _ _ _ _ _ rfl (by simp[h0]) rfl,zQ]
 simp
structure AI (w:World) (I:Nat->Prop) (b:Nat) (p:NN.Pr) (t:Tl) (gs:List Gt) (cs:List Ck) (room:Nat) (vH vI vA vW:Value) (hs:List Hd) (ids:List (List UInt8)) (up:List Int) (ws:List Nat):Prop where
 has:Has w b (lU p vH vI vA vW room) 72
 VQ:p.ok
 one:p.one
 tt:p.tl=t.C
 tok:t.ok
 gn:t.gn=gs.length
 cn:t.cn=cs.length
 WS:w.ownsRow 0 30 68 vH hs.length (hs.flatMap cP)
 Xa:w.ownsRow 0 28 32 vI ids.length (ids.flatMap Lib.byteCells)
 WT:w.ownsRow 0 3 1 vA up.length (up.map (Value.int .i64))
 Xb:w.ownsRow 0 26 4 vW ws.length (ws.flatMap fun z=>(NN.aa z).toList)
 VL:jD I (fun w=>bc w t.ga gs) w
 checks:jD I (fun w=>aI w t.ca cs) w
 nb:¬I b
 nH:∀k,vH.ownBlock=some k->¬I k
 nI:∀k,vI.ownBlock=some k->¬I k
 nA:∀k,vA.ownBlock=some k->¬I k
 nW:∀k,vW.ownBlock=some k->¬I k
 lt:∀i,I i->i<w.heap.size
 du:∀h∈hs,h.ok
 name:∀l∈ids,l.length=32
 small:∀z∈ws,z<NN.Nm.ak
def Cw(I:Nat->Prop)(b:Nat)(vH vI vA vW:Value):Nat->Prop:=fun i=>I i\/i=b\/vH.ownBlock=some i\/vI.ownBlock=some i\/vA.ownBlock=some i\/vW.ownBlock=some i
section
variable{w w':World}{I G:Nat->Prop}{b:Nat}{p:NN.Pr}{t:Tl}{gs:List Gt}{cs:List Ck}{room:Nat}{vH vI vA vW:Value}{hs:List Hd}{ids:List (List UInt8)}{up:List Int}{ws:List Nat}
theorem AI.on(h:AI w I b p t gs cs room vH vI vA vW hs ids up ws)(k:Kp G w w')(hG:∀i,Cw I b vH vI vA vW i->¬G i):AI w' I b p t gs cs room vH vI vA vW hs ids up ws:=
 { h with
  has:=k.has h.has (hG b (.inr (.inl rfl)))
  WS:=aF h.WS k fun i hi=>hG i (.inr (.inr (.inl hi)))
  Xa:=aF h.Xa k fun i hi=>hG i (.inr (.inr (.inr (.inl hi))))
  WT:=aF h.WT k fun i hi=>hG i (.inr (.inr (.inr (.inr (.inl hi)))))
  Xb:=aF h.Xb k fun i hi=>hG i (.inr (.inr (.inr (.inr (.inr hi)))))
  VL:=h.VL.on k fun i hi=>hG i (.inl hi)
  checks:=h.checks.on k fun i hi=>hG i (.inl hi)
  lt:=fun i hi=>b_ (h.lt i hi) k.size }
theorem AI.below(h:AI w I b p t gs cs room vH vI vA vW hs ids up ws)(hb:Bl w w'):AI w' I b p t gs cs room vH vI vA vW hs ids up ws:=h.on (G:=fun _=>False) (Kp.of hb) fun _ _ hf=>hf
theorem AI.Wb(h:AI w I b p t gs cs room vH vI vA vW hs ids up ws){i:Nat}(hi:Cw I b vH vI vA vW i):i<w.heap.size:=by
 rcases hi with hi|rfl|hi|hi|hi|hi
 exact h.lt i hi;exact h.has.lt;exact(dM h.WS hi).1;exact(dM h.Xa hi).1;exact(dM h.WT hi).1;exact(dM h.Xb hi).1
theorem dK{w:World}{i j:Nat}{xs ys:Array Value}{t u:TypeId}(hi:w.heap[i]?=some (.cells xs t (0,0)))(hj:w.heap[j]?=some (.cells ys u (0,0)))(h:t≠u):i≠j:=by
 rintro rfl;rw[hi]at hj;injection hj with hj
 injection hj with _ hj
 exact h hj
end
open Ar (av Ru aN)
theorem T3(a:Option Addr)(n c:Nat)(L:List Gt)(hn:n=L.length)(hl:n<=1000)(w:World)(hA:bc w a L):aU 171 #[.slice a n c] w fun e w'=>∃a' c',e=.returned (.slice a' n c')/\(bc w' a' L/\(0<L.length->∀ad,a'=some ad->w.heap.size<=ad.block))/\Bl w w':=by
 cases a with
 | none=>
  have h0:n=0:=by
   by_cases h:0<L.length;obtain⟨_,_,e,_⟩:=hA h;cases e;omega
  refine(T8 n c w).mono ?_;rintro e w' ⟨rfl,rfl⟩;exact⟨none,0,by rw[h0],⟨fun h=>absurd h (by omega),fun _ ad e=>by cases e⟩,cg⟩
 | some ad=>
  by_cases h0:0<L.length;obtain⟨ab,ao,e,hlt,hc⟩:=hA h0;cases e;have hlen:∀x∈L,(oB x).length=2:=(fun _ _=>rfl);refine(Qc ⟨ab,ao,none⟩ n c L hn hl w (fun j u hj=>?_)).mono ?_;rw[jK];refine E9 oB 2 (by decide) L hlen (fun i x hi=>?_) j u hj;obtain⟨h1,h2⟩:=bk.1 hi;rw[<-h2];exact hc i h1;rintro e w' ⟨v',rfl,ho,hb⟩;obtain⟨a',c',rfl,_,h3⟩:=xV oB 2 L hlen ho hn;obtain⟨g,rfl,h4,h5,h6⟩:=h3 (by omega);exact⟨_,c',rfl,⟨fun _=>⟨g,0,rfl,h5,fun i hi=>by rw[cy];exact h6 i _ (aQ hi)⟩,fun _ ad e=>by cases e;exact h4⟩,hb⟩;obtain rfl:L=[]:=gE (by omega);refine(Qc ad n c [] hn hl w (fun j u hj=>by simp at hj)).mono ?_;rintro e w' ⟨v',rfl,ho,hb⟩;obtain⟨a',c',rfl,_⟩:=xV oB 2 [] (fun x hx=>by cases hx) ho hn;exact⟨a',c',rfl,⟨fun h=>by simp at h,fun h=>by simp at h⟩,hb⟩
theorem Q4(a:Option Addr)(n c:Nat)(L:List Ck)(hn:n=L.length)(hl:n<=1000)(w:World)(hA:aI w a L):aU 172 #[.slice a n c] w fun e w'=>∃a' c',e=.returned (.slice a' n c')/\(aI w' a' L/\(0<L.length->∀ad,a'=some ad->w.heap.size<=ad.block))/\Bl w w':=by
 cases a with
 | none=>
  have h0:n=0:=by
   by_cases h:0<L.length;obtain⟨_,_,e,_⟩:=hA h;cases e;omega
  refine(To n c w).mono ?_;rintro e w' ⟨rfl,rfl⟩;exact⟨none,0,by rw[h0],⟨fun h=>absurd h (by omega),fun _ ad e=>by cases e⟩,cg⟩
 | some ad=>
  by_cases h0:0<L.length;obtain⟨ab,ao,e,hlt,hc⟩:=hA h0;cases e;have hlen:∀x∈L,(mI x).length=33:=(fun x hx=>sF (by obtain⟨i,hi,e⟩:=List.mem_iff_getElem.1 hx;rw[<-e];exact(hc i hi).1));refine(Ky ⟨ab,ao,none⟩ n c L (fun x hx=>by obtain⟨i,hi,e⟩:=List.mem_iff_getElem.1 hx;rw[<-e];exact(hc i hi).1) hn hl w (fun j u hj=>?_)).mono ?_;rw[jK];refine E9 mI 33 (by decide) L hlen (fun i x hi=>?_) j u hj;obtain⟨h1,h2⟩:=bk.1 hi;rw[<-h2];exact(hc i h1).2;rintro e w' ⟨v',rfl,ho,hb⟩;obtain⟨a',c',rfl,_,h3⟩:=xV mI 33 L hlen ho hn;obtain⟨g,rfl,h4,h5,h6⟩:=h3 (by omega);exact⟨_,c',rfl,⟨fun _=>⟨g,0,rfl,h5,fun i hi=>⟨(hc i hi).1,by rw[cy];exact h6 i _ (aQ hi)⟩⟩,fun _ ad e=>by cases e;exact h4⟩,hb⟩;obtain rfl:L=[]:=gE (by omega);refine(Ky ad n c [] (fun x hx=>by cases hx) hn hl w (fun j u hj=>by simp at hj)).mono ?_;rintro e w' ⟨v',rfl,ho,hb⟩;obtain⟨a',c',rfl,_⟩:=xV mI 33 [] (fun x hx=>by cases hx) ho hn;exact⟨a',c',rfl,⟨fun h=>by simp at h,fun h=>by simp at h⟩,hb⟩
variable{p:NN.Pr}{t:Tl}
theorem xM(tt:p.tl=t.C)(a:Option Addr)(n c:Nat):(NN.aV p).setIfInBounds 5 (.slice a n c)=NN.aV { p with tl:=({ t with ga:=a,gn:=n,gc:=c }:Tl).C }:=by unfold NN.aV NN.f_;rw[tt,da];rfl
theorem yb(tt:p.tl=t.C)(a:Option Addr)(n c:Nat):(NN.aV p).setIfInBounds 6 (.slice a n c)=NN.aV { p with tl:=({ t with ca:=a,cn:=n,cc:=c }:Tl).C }:=by unfold NN.aV NN.f_;rw[tt,da];rfl
variable{w:World}{k:Nat}
theorem Fw(h:NN.aK w k p)(tt:p.tl=t.C)(a:Option Addr)(n c:Nat):NN.aK (w.setCell ⟨k,5,none⟩ (.slice a n c)) k { p with tl:=({ t with ga:=a,gn:=n,gc:=c }:Tl).C }:=by have:=NN.Has.set (i:=5) h (.slice a n c);rwa[xM tt]at this
theorem Fe(h:NN.aK w k p)(tt:p.tl=t.C)(a:Option Addr)(n c:Nat):NN.aK (w.setCell ⟨k,6,none⟩ (.slice a n c)) k { p with tl:=({ t with ca:=a,cn:=n,cc:=c }:Tl).C }:=by have:=NN.Has.set (i:=6) h (.slice a n c);rwa[yb tt]at this
def kJ(p:NN.Pr)(t:Tl)(ga:Option Addr)(gc:Nat)(ca:Option Addr)(cc:Nat):NN.Pr:={ p with tl:=({ t with ga:=ga,gc:=gc,ca:=ca,cc:=cc }:Tl).C }
def F3(t:Tl)(ga:Option Addr)(gc:Nat)(ca:Option Addr)(cc:Nat):Tl:={ t with ga:=ga,gc:=gc,ca:=ca,cc:=cc }
theorem J2(t:Tl)(h:t.ok):t.C.length=78:=by unfold Tl.C;simp[h.1,gQ h.2]
theorem Mj(p:NN.Pr)(t:Tl)(h:t.ok)(ga:Option Addr)(gc:Nat)(ca:Option Addr)(cc:Nat):(kJ p t ga gc ca cc).ok:=J2 _ h
variable{a:Act}
theorem PM{ops:Array Oper}{rest:List Oper}{o:Oper}{Q:Exit->Act->World->Prop}(hgd:o.guard=none)(x y:Operand)(ho:o.op=.store 32 x y)(g:Nat)(cz:Array Value)(p':NN.Pr)(h1:p'.one)(hx:a.eval x=af g)(hy:a.eval y=.agg cz)(e:cz=NN.aV p')(hs':(NN.aV p').size=83)(hg:NN.aK w g p)(hs:(NN.aV p).size=83)(hk:wpList Tryz.prog ops Q rest (a.put o.dst undef) (w.setRow g (NN.aV p'))):wpList Tryz.prog ops Q (o::rest) a w:=by subst e;exact eI hgd 32 x y ho g (NN.aV p') hx hy 32 (NN.aV p) (Has.out hg) (NN.jg.trans (by rw[hs'])) (by rw[hs,hs']) (all_oneCell_toArray (NN.AG h1)) hk
theorem JY(w:World)(ob:Obj):NN.aK ((w.alloc ob).alloc (.cells Tryz.zeroCells32 32)) (w.heap.size+1) tP:=Has.Vt ob (NN.aV tP) _
theorem UD{fn:Func}{q:Tmp}(hf:fn.results=#[.cell q 32])(tmps:Array Value)(g:Nat)(hp:tmps.getD q undef=af g)(hg:NN.aK w g p)(hs:(NN.aV p).size=83):(results fn tmps).run Tryz.prog w=.ok (.agg (NN.aV p)) w:=
 results_cell_row hf tmps w g 32 (NN.aV p) (0,0) _ hp (Has.out hg) Tryz.underlying32 rfl (NN.jg.trans (by rw[hs]))
theorem Lw{B:Nat}{w':World}(h:Below B w w')(p:Addr)(v:Value)(hp:B<=p.block):Below B w (w'.setCell p v):=h.setCell hp v
theorem Hz(p:NN.Pr)(hp:p.ok)(h1:p.one)(t:Tl)(tt:p.tl=t.C)(ht:t.ok)(G K:World->Option Addr->Prop)(w:World)(KG:Hid (∀w',Below w.heap.size w w'->w.heap.size+2<=w'.heap.size->aU 171 #[.slice t.ga t.gn t.gc] w' fun e w''=>∃a' c',e=.returned (.slice a' t.gn c')/\G w'' a'/\Below w'.heap.size w' w''))(KC:Hid (∀w',Below w.heap.size w w'->w.heap.size+2<=w'.heap.size->aU 172 #[.slice t.ca t.cn t.cc] w' fun e w''=>∃a' c',e=.returned (.slice a' t.cn c')/\K w'' a'/\Below w'.heap.size w' w'')):aU 139 #[.agg (NN.aV p)] w fun e w'=>∃ga gc ca cc,e=.returned (.agg (NN.aV (kJ p t ga gc ca cc)))/\(∃w1,G w1 ga/\Kp (fun i=>i=w.heap.size\/i=w.heap.size+1) w1 w')/\(∃w1,K w1 ca/\Kp (fun i=>i=w.heap.size\/i=w.heap.size+1) w1 w')/\Below w.heap.size w w':=by
 have hz:=NN.gT hp;have z0:=NN.gT sS;go_enter Tryz.func139,Tryz.ntmps139;go_upto_region 1 with fail
 generalize hw0:World.alloc _ _=v0;have hB:Below w.heap.size w v0:=by rw[<-hw0];exact cu.alloc (by simp) _
 have hP:NN.aK v0 w.heap.size p:=by rw[<-hw0];exact(NN.Has.new _ _).alloc _
 have hsz0:w.heap.size+2<=v0.heap.size:=by rw[<-hw0];simp
 have hR:NN.aK v0 (w.heap.size+1) tP:=by rw[<-hw0];exact JY w _
 clear hw0;obtain⟨bP,VF⟩:∃x,x=w.heap.size:=⟨_,rfl⟩;obtain⟨bR,hbR⟩:∃x,x=w.heap.size+1:=⟨_,rfl⟩;rw[<-hbR]at hR|-;rw[<-VF]at hP|-;have HP:Hid (bP=w.heap.size):=h_ VF;have HR:Hid (bR=w.heap.size+1):=h_ hbR;have n1:bP≠bR:=by omega
 clear VF hbR;have c5:=r8 hP tt;go_wp2_with fail
 refine(KG.out _ hB hsz0).mono ?_;rintro e v1 ⟨ga,gc,rfl,hg,hb⟩;replace hP:=hP.on hb;replace hR:=hR.on hb;replace hB:=ai hB hb;have hsz1:w.heap.size+2<=v1.heap.size:=ax hsz0 hb.size;clear hb c5 hsz0;have c5:=r8 hP tt;have f5:=Has.free hP 5;go_upto_region 2 with fail
 have hP2:=Fw hP tt ga t.gn gc;have hR2:NN.aK (v1.setCell ⟨bP,5,none⟩ (.slice ga t.gn gc)) bR tP:=Has.other hR _ _ (fun e=>n1 e.symm);have hB2:Below w.heap.size w (v1.setCell ⟨bP,5,none⟩ (.slice ga t.gn gc)):=Lw hB _ _ (by rw[<-HP.out];exact au _);have hk2:Kp (fun i=>i=bP\/i=bR) v1 (v1.setCell ⟨bP,5,none⟩ (.slice ga t.gn gc)):=Kp.gb (jl v1 bP 5 _) (fun k hk=>.inl (Option.some.inj hk).symm);have hsz2:w.heap.size+2<=(v1.setCell ⟨bP,5,none⟩ (.slice ga t.gn gc)).heap.size:=ax hsz1 hk2.size;clear hsz1;generalize World.setCell _ _ _=v2 at*;clear c5 f5 hP hR hB;have c6:=sc hP2 (t:={ t with ga:=ga,gc:=gc }) rfl;simp only at c6;go_wp2_with fail
 refine(KC.out _ hB2 hsz2).mono ?_;rintro e v3 ⟨ca,cc,rfl,hk,hb⟩;replace hP2:=hP2.on hb;replace hR2:=hR2.on hb;replace hB2:=ai hB2 hb;replace hk2:Kp (fun i=>i=bP\/i=bR) v1 v3:=hk2.trans (Kp.of (F:=fun i=>i=bP\/i=bR) hb) (fun i hi _=>hi);clear hb c6;have c6:=sc hP2 (t:={ t with ga:=ga,gc:=gc }) rfl;simp only at c6;have f6:=Has.free hP2 6;go_upto_region 3 with fail
 have XQ:=Fe hP2 (t:={ t with ga:=ga,gc:=gc }) rfl ca t.cn cc;have hR4:NN.aK (v3.setCell ⟨bP,6,none⟩ (.slice ca t.cn cc)) bR tP:=Has.other hR2 _ _ (fun e=>n1 e.symm);have hB4:Below w.heap.size w (v3.setCell ⟨bP,6,none⟩ (.slice ca t.cn cc)):=Lw hB2 _ _ (by rw[<-HP.out];exact au _);have hk3:Kp (fun i=>i=bP\/i=bR) v3 (v3.setCell ⟨bP,6,none⟩ (.slice ca t.cn cc)):=Kp.gb (jl v3 bP 6 _) (fun k hk=>.inl (Option.some.inj hk).symm);generalize World.setCell _ _ _=v4 at*;replace hk2:=hk2.trans hk3 (fun i hi _=>hi);clear c6 f6 hP2 hR2 hB2;have Yj:NN.aK v4 bP (kJ p t ga gc ca cc):=XQ;clear XQ;have z5:=NN.gT (Mj p t ht ga gc ca cc)
 have o5:(kJ p t ga gc ca cc).one:=by
  intro v hv;have hv':v∈(Value.slice ga t.gn gc::Value.slice ca t.cn cc::(t.nn++cP t.g)):=hv;simp only[cJ]at hv';rcases hv' with rfl|rfl|hv'
  rfl;rfl;exact h1 v (by rw[tt];unfold Tl.C;simp only[cJ];exact .inr (.inr hv'))
 obtain⟨q,hq⟩:∃q,q=kJ p t ga gc ca cc:=⟨_,rfl⟩;rw[<-hq]at Yj z5 o5;have HQ:=h_ hq;clear hq;have aj0:Hid (w.heap.size<=bR):=h_ (by rw[HR.out];omega)
 go_wp2_with (first
  | (with_reducible refine NN.fK rfl _ rfl _ rfl Yj z5 ?_)
  | (with_reducible refine PM rfl _ _ rfl _ _ q o5 rfl rfl rfl z5 hR4 z0 ?_))
 have hk5:Kp (fun i=>i=bP\/i=bR) v4 (v4.setRow bR (NN.aV q)):=⟨rfl,rfl,rfl,by rw[setRow_size];exact au _,fun k _ hn=>iE v4 bR k _ (fun e=>hn (.inr e))⟩;refine ay (UD Tryz.results139 _ _ rfl (Has.row hR4 _) z5) rfl ⟨ga,gc,ca,cc,HQ.out▸rfl,⟨v1,hg,?_⟩,⟨v3,hk,?_⟩,below_setRow hB4 aj0.out _⟩;exact(hk2.trans hk5 (fun i hi _=>hi)).mono (fun i hi _=>hi.elim (fun h=>.inl (h.trans HP.out)) (fun h=>.inr (h.trans HR.out)));exact(hk3.trans hk5 (fun i hi _=>hi)).mono (fun i hi _=>hi.elim (fun h=>.inl (h.trans HP.out)) (fun h=>.inr (h.trans HR.out)))
theorem I9(p:NN.Pr)(hp:p.ok)(h1:p.one)(t:Tl)(tt:p.tl=t.C)(ht:t.ok)(gs:List Gt)(cs:List Ck)(hgn:t.gn=gs.length)(hcn:t.cn=cs.length)(hgl:t.gn<=1000)(hcl:t.cn<=1000)(w:World)(hG:bc w t.ga gs)(hC:aI w t.ca cs):aU 139 #[.agg (NN.aV p)] w fun e w'=>∃ga gc ca cc,e=.returned (.agg (NN.aV (kJ p t ga gc ca cc)))/\jD (fun i=>w.heap.size<=i) (fun w=>bc w ga gs) w'/\jD (fun i=>w.heap.size<=i) (fun w=>aI w ca cs) w'/\Bl w w':=by
 refine(Hz p hp h1 t tt ht (fun w1 a=>bc w1 a gs/\(0<gs.length->∀ad,a=some ad->w.heap.size+2<=ad.block)) (fun w1 a=>aI w1 a cs/\(0<cs.length->∀ad,a=some ad->w.heap.size+2<=ad.block)) w ?_ ?_).mono ?_
 ·refine h_ fun w' hb hs=>(T3 t.ga t.gn t.gc gs hgn hgl w' (hG.below hb)).mono ?_
  rintro e w2 ⟨a',c',rfl,⟨q1,q2⟩,q3⟩;exact⟨a',c',rfl,⟨q1,fun h0 ad e=>ax hs (q2 h0 ad e)⟩,q3⟩
 ·refine h_ fun w' hb hs=>(Q4 t.ca t.cn t.cc cs hcn hcl w' (hC.below hb)).mono ?_
  rintro e w2 ⟨a',c',rfl,⟨q1,q2⟩,q3⟩;exact⟨a',c',rfl,⟨q1,fun h0 ad e=>ax hs (q2 h0 ad e)⟩,q3⟩
 ·rintro e w' ⟨ga,gc,ca,cc,rfl,⟨w1,⟨q1,q2⟩,q3⟩,⟨w2,⟨q4,q5⟩,q6⟩,hb⟩;refine⟨ga,gc,ca,cc,rfl,?_,?_,hb⟩
  ·refine(jD.on (JL (I:=fun i=>w.heap.size+2<=i) q1 q2) q3 (fun i hi h=>?_)).wide fun i hi=>by omega
   rcases h with h|h<;>omega
  ·refine(jD.on (P3 (I:=fun i=>w.heap.size+2<=i) q4 q5) q6 (fun i hi h=>?_)).wide fun i hi=>by omega
   rcases h with h|h<;>omega
open NN.VI
def U7(b:Nat)(v:Value)(e:En)(s:Sp)(bE bS:Nat):Nat->Value->Prop
 | 0,u=>u=af b
 | 1,u=>u=af b
 | 2,u=>u=af b
 | 3,u=>u=.pointer (some ⟨b,84,none⟩)
 | 4,u=>u=v
 | 5,u=>u=.agg (dc e)
 | 6,u=>u=.agg (cU s)
 | 7,u=>u=.agg (mO e s).toArray
 | 10,u=>u=af b
 | 11,u=>u=.pointer (some ⟨b,84,none⟩)
 | _,_=>bE=bE/\bS=bS
def U_(b mb bE:Nat)(e:En)(n:Nat):Nat->Value->Prop
 | 0,u=>u=af b
 | 1,u=>u=af b
 | 2,u=>u=.pointer (some ⟨b,85,none⟩)
 | 3,u=>u=.map (some mb)
 | 4,u=>u=.pointer (some ⟨bE,68,none⟩)
 | 5,u=>u=.agg (ae e.id)
 | 6,u=>u=i_ n
 | _,_=>n=n
def I8(v1:World)(b:Nat)(p:NN.Pr)(room:Nat)(v:Value)(mb n:Nat)(xs:List Value)(e:En)(s:Sp)(l:Array Bool)(a:Act)(w:World):Prop:=
 (l.getD 8 false=true->l.getD 9 false=false->∃g,a.eval (.tmp 21)=.slice (bs g) 1 1/\Has w g (mO e s).toArray 143)/\
 (l.getD 9 false=false->w.ownsRow 0 143 144 v n xs)/\
 (l.getD 9 false=true->l.getD 12 false=false->∃v',a.eval (.tmp 22)=v'/\w.ownsRow 0 143 144 v' (n+1) (xs++mO e s)/\(v'.ownBlock=v.ownBlock\/∃g,v'.ownBlock=some g/\v1.heap.size<=g))/\
 (l.getD 12 false=false->Has w b (mW p room v mb) 147)/\
 (l.getD 12 false=true->∃v',Has w b (mW p room v' mb) 147/\w.ownsRow 0 143 144 v' (n+1) (xs++mO e s)/\(v'.ownBlock=v.ownBlock\/∃g,v'.ownBlock=some g/\v1.heap.size<=g))
theorem I8.keep{v1:World}{b:Nat}{room:Nat}{v:Value}{mb n:Nat}{xs:List Value}{e:En}{s:Sp}{l:Array Bool}(h:I8 v1 b p room v mb n xs e s l a w)(i:Nat)(hi:i<l.size)(h8:i≠8:=by decide)(h9:i≠9:=by decide)(h12:i≠12:=by decide){d:Option Tmp}{u:Value}(hd:d≠some 21:=by decide)(hd2:d≠some 22:=by decide):I8 v1 b p room v mb n xs e s (l.setIfInBounds i true) (a.put d u) w:=by obtain⟨p1,p2,p3,p4,p5⟩:=h;unfold I8;rw[kk l i 8 hi h8,kk l i 9 hi h9,kk l i 12 hi h12,fV (fun d' hdd e=>hd (by rw[hdd];cases e;rfl)),fV (fun d' hdd e=>hd2 (by rw[hdd];cases e;rfl))];exact⟨p1,p2,p3,p4,p5⟩
theorem Bf(b:Nat)(p:NN.Pr)(hp:p.ok)(room:Nat)(sa:Option Addr)(n c:Nat)(mb:Nat)(xs:List Value)(e:En)(he:e.ok)(s:Sp)(hs:s.ok)(hn:n<=900)(w:World)(hA:Has w b (mW p room (.slice sa n c) mb) 147)(hrow:w.ownsRow 0 143 144 (.slice sa n c) n xs)(hbv:∀k,(Value.slice sa n c).ownBlock=some k->k≠b)(hbm:b≠mb)(Q:World->World->Prop)(KM:Hid (∀v2:World,v2.heap[mb]?=w.heap[mb]?->∃v3,(Instr.mapUpdate 145 (.map (some mb)) (.agg (ae e.id)) (.int .i64 (n:Int))).run Tryz.prog v2=.ok () v3/\Q v2 v3/\v2.grownBy v3 (some mb)))(hmv:∀k,(Value.slice sa n c).ownBlock=some k->k≠mb)(Wm:mb<w.heap.size):aU 124 #[.pointer (some ⟨b,0,none⟩),.agg (dc e),.agg (cU s)] w fun r w'=>∃v' v2,r=.returned (.int .i64 (n:Int))/\Has w' b (mW p room v' mb) 147/\w'.ownsRow 0 143 144 v' (n+1) (xs++mO e s)/\(v'.ownBlock=(Value.slice sa n c).ownBlock\/∃g,v'.ownBlock=some g/\w.heap.size<=g)/\Kp (fun i=>i=b\/i=mb\/(Value.slice sa n c).ownBlock=some i) w w'/\Q v2 w':=by
 have z1:=ki he;have z2:=rC he;have z3:=mJ hs;have z4:=rq hs;go_enter Tryz.func124,Tryz.ntmps124;go_upto_region 1 with fail
 generalize hw0:World.alloc _ _=v0;have hB:Bl w v0:=by rw[<-hw0];exact cu.alloc (by simp) _
 have hE:cV v0 w.heap.size e:=by rw[<-hw0];exact(Has.new _ _).alloc _
 have hS:aY v0 (w.heap.size+1) s:=by rw[<-hw0];exact Has.Vt _ (cU s) _
 clear hw0;have VN:Has v0 b (mW p room (.slice sa n c) mb) 147:=dz hB hA (Has.lt hA);have Ya:=aF hrow (Kp.of (F:=fun _=>False) hB) (fun _ _ h=>h);have hbl:=Has.lt hA;have hrl:∀k,(Value.slice sa n c).ownBlock=some k->k<w.heap.size:=fun k hk=>(dM hrow hk).1
 have HML:=h_ Wm;have hMB:v0.heap[mb]?=w.heap[mb]?:=hB.block mb Wm;have HW:Hid (w.heap.size<=v0.heap.size):=h_ hB.size;obtain⟨bE,W5⟩:∃x,x=w.heap.size:=⟨_,rfl⟩;obtain⟨bS,hbS⟩:∃x,x=w.heap.size+1:=⟨_,rfl⟩;rw[<-hbS]at hS|-;have HB:=h_ hB;have Zw:∀k,k<w.heap.size->k≠bE:=fun k hk e=>by omega
 have Zx:∀k,k<w.heap.size->k≠bS:=fun k hk e=>by omega
 have HEE:Hid (bE=w.heap.size):=h_ W5;rw[<-W5]at hE;clear hrow hA hB Wm hbS W5;have hv0:=lM VN hp;rw[<-HEE.out];go_upto_region 2 with fail
 generalize hv1:v0=v1 at*;clear hv1;have nE1:∀k,(Value.slice sa n c).ownBlock=some k->k≠bE:=fun k hk=>Zw k (hrl k hk)
 have nS1:∀k,(Value.slice sa n c).ownBlock=some k->k≠bS:=fun k hk=>Zx k (hrl k hk)
 have nE2:=Zw b hbl;have nS2:=Zx b hbl;have hz:=lM VN hp;clear Zw Zx hrl;generalize hF:(fun i=>i=b\/(Value.slice sa n c).ownBlock=some i)=F;have fE:¬F bE:=by rw[<-hF];exact fun h=>h.elim (fun h=>nE2 h.symm) (fun h=>nE1 _ h rfl)
 have fS:¬F bS:=by rw[<-hF];exact fun h=>h.elim (fun h=>nS2 h.symm) (fun h=>nS1 _ h rfl)
 have fb:F b:=by rw[<-hF];exact .inl rfl
 have fv:∀k,(Value.slice sa n c).ownBlock=some k->F k:=fun k hk=>by rw[<-hF];exact .inr hk
 have fm:¬F mb:=by rw[<-hF];exact fun h=>h.elim (fun h=>hbm h.symm) (fun h=>hmv _ h rfl)
 have fl:∀i,F i->i<v1.heap.size:=fun i hi=>by
  rw[<-hF]at hi;rcases hi with rfl|hi
  exact Has.lt VN;exact(dM Ya hi).1
 have HFE:=h_ hF;clear hF;refine lG (by kernel_rfl) (fun w'=>Kp F v1 w') (fun i v' _=>U7 b (.slice sa n c) e s bE bS i v') (fun l a w'=>I8 v1 b p room (.slice sa n c) mb n xs e s l a w') (fun _ _=>True) (fun _ _=>trivial) (fun _ _ _ _ _ _ h=>h) (by kernel_rfl) (Kp.of cg.drew) ?_ ?_ ?_;exact fun l hl=>⟨fun h=>(by rw[hl]at h;cases h),fun _=>Ya,fun h=>(by rw[hl]at h;cases h),fun _=>Has.drew VN,fun h=>(by rw[hl]at h;cases h)⟩
 ·intro i o lz a wx ho' hnl dq Z;have hC:=Z.c;have hI:=Z.i;have hi:i<13:=(dA.1 ho').1;have ZU:Has wx bE (dc e) 60:=hC.has hE fE;have hSx:Has wx bS (cU s) 141:=hC.has hS fS
  have rE:wx.rangeAt bE 0 (kn e):=by
   have:=j4 (A:=[]) (cs:=kn e) (C:=[]) (o:=0) (w:=wx) (b:=bE) (t:=60) (by rw[dW];exact ZU) rfl;exact this
  have rS:wx.rangeAt bS 0 (kt s):=by
   have:=j4 (A:=[]) (cs:=kt s) (C:=[]) (o:=0) (w:=wx) (b:=bS) (t:=141) (by rw[dW];exact hSx) rfl;exact this
  have hlx:v1.heap.size<=wx.heap.size:=hC.size;obtain rfl|rfl|rfl|rfl|rfl|rfl|rfl|rfl|rfl|rfl|rfl|rfl|rfl:i=0\/i=1\/i=2\/i=3\/i=4\/i=5\/i=6\/i=7\/i=8\/i=9\/i=10\/i=11\/i=12:=by omega
  all_goals obtain rfl:=Option.some.inj ho'
  exact br 0 Z (aq rfl) (NN.fs rfl) (Z.old' 0) (hI.keep 0 (aC Z 0));exact br 1 Z (aq rfl) (NN.fs rfl) (Z.old' 0) (hI.keep 1 (aC Z 1));exact br 2 Z (aq rfl) (dR rfl (aw Z dq 1 14)) rfl (hI.keep 2 (aC Z 2));exact br 3 Z (aq rfl) (fg rfl (aw Z dq 2 15) (pH wx b)) rfl (hI.keep 3 (aC Z 3));have hsz:=aC Z 4;have h12:=fB Z hnl 12;have hAx:=hI.2.2.2.1 (by rw[<-kk lz 4 12 hsz (by decide)];exact h12);exact br 4 Z (aq rfl) (J_ rfl (aw Z dq 3 16) (lM hAx hp)) rfl (hI.keep 4 hsz);exact br 5 Z (aq rfl) (MK rfl (Z.old' 4) rE z2) rfl (hI.keep 5 (aC Z 5));exact br 6 Z (aq rfl) (N7 rfl (Z.old' 5) rS z4) rfl (hI.keep 6 (aC Z 6));exact br 7 Z (aq rfl) (T2 rfl (aw Z dq 5 18) (aw Z dq 6 19) he hs) rfl (hI.keep 7 (aC Z 7));have hsz:=aC Z 8;have h9:=fB Z hnl 9;have h12:=fB Z hnl 12;have hbx:Bl wx (wx.alloc (.cells (mO e s).toArray 143)):=cu;refine uC 8 Z (aq rfl) (UC rfl (aw Z dq 7 20) (by rw[iR,wU he hs])) (hC.trans (Kp.of (F:=F) hbx) (fun i hi _=>hi)) ⟨rfl,rfl⟩ ⟨fun _ _=>⟨wx.heap.size,?_,Has.new _ _⟩,fun _=>?_,fun h=>(by rw[h9]at h;cases h),fun _=>?_,fun h=>(by rw[h12]at h;cases h)⟩;exact oq a 21 _ (by rw[Z.Vr];exact(show 21<33 by decide));exact aF (hI.2.1 (by rw[<-kk lz 8 9 hsz (by decide)];exact h9)) (Kp.of (F:=fun _=>False) hbx) (fun _ _ h=>h);exact Has.alloc (hI.2.2.2.1 (by rw[<-kk lz 8 12 hsz (by decide)];exact h12)) _
  ·have hsz:=aC Z 9;have h8:lz.getD 8 false=true:=dq ⟨8,.data⟩ (by simp) rfl;have h9:lz.getD 9 false=false:=hnl;have h12:=fB Z hnl 12;have X5:lz.getD 12 false=false:=by rw[<-kk lz 9 12 hsz (by decide)];exact h12
   obtain⟨g,hg,hgh⟩:=hI.1 h8 h9;have hrx:=hI.2.1 h9;have hAx:=hI.2.2.2.1 X5;obtain⟨v',w',hr,g1,g2,g3⟩:=Ti (ρ:=a.eval) (x:=.tmp 17) (y:=.tmp 21) he hs (aw Z dq 4 17) hrx hg hgh (by omega);refine uC 9 Z (aq rfl) (hr _ rfl rfl) (hC.trans (Kp.gb (F:=F) g2 (fun k hk=>fv k hk)) (fun i hi _=>hi)) ⟨rfl,rfl⟩ ⟨fun _ h=>(by rw[ko _ _ _ hsz,aj rfl]at h;cases h),fun h=>(by rw[ko _ _ _ hsz,aj rfl]at h;cases h),fun _ _=>⟨v',?_,g1,?_⟩,fun _=>?_,fun h=>(by rw[h12]at h;cases h)⟩;exact oq a 22 _ (by rw[Z.Vr];exact(show 22<33 by decide))
   ·rcases g3 with g3|g3
    exact .inl g3;exact .inr ⟨_,g3,hlx⟩
   exact(g2.block b (Has.lt hAx) (fun hk=>hbv b hk.symm rfl)).trans hAx
  exact br 10 Z (aq rfl) (dR rfl (aw Z dq 0 13)) rfl (hI.keep 10 (aC Z 10));exact br 11 Z (aq rfl) (fg rfl (aw Z dq 10 23) (pH wx b)) rfl (hI.keep 11 (aC Z 11))
  ·have hsz:=aC Z 12;have h9:lz.getD 9 false=true:=dq ⟨9,.data⟩ (by simp) rfl;obtain⟨v',hv',hr',hl'⟩:=hI.2.2.1 h9 hnl;have hAx:=hI.2.2.2.1 hnl;obtain⟨a',m',c',rfl⟩:=S7 hr';have Xc:(lz.setIfInBounds 12 true).getD 9 false=true:=by rw[kk lz 12 9 hsz (by decide)];exact h9
   have e12:(lz.setIfInBounds 12 true).getD 12 false=true:=by rw[ko _ _ _ hsz,aj rfl]
   have nb:∀k,(Value.slice a' m' c').ownBlock=some k->k≠b:=fun k hk=>by
    rcases hl' with h|⟨g,h,hg⟩
    exact hbv k (h.symm.trans hk);rw[h]at hk;have hkg:g=k:=Option.some.inj hk;have:=Has.lt VN;omega
   have kb:Kp (fun i=>i=b) wx (wx.setCell ⟨b,84,none⟩ (.slice a' m' c')):=Kp.gb (jl wx b 84 _) (fun k hk=>(Option.some.inj hk).symm);refine uD 12 Z (aq rfl) (SW rfl (aw Z dq 11 24) hv' (Has.free hAx 84) (lM hAx hp)) (hC.trans kb (fun i hi _=>by rw[hi];exact fb)) ⟨rfl,rfl⟩ ⟨fun _ h=>(by rw[Xc]at h;cases h),fun h=>(by rw[Xc]at h;cases h),fun _ h=>(by rw[e12]at h;cases h),fun h=>(by rw[e12]at h;cases h),fun _=>⟨_,FM hAx hp _,?_,hl'⟩⟩;exact aF hr' kb fun i hi hib=>nb i hi hib
 intro lz a' v2 hall Z;have hC:=Z.c;obtain⟨v',hA2,hrow2,hl2⟩:=Z.i.2.2.2.2 (hall 12 (by decide));have e0:a'.eval (.tmp 0)=.pointer (some ⟨b,0,none⟩):=Z.old' 0;have e4:a'.eval (.tmp 4)=.pointer (some ⟨bE,0,none⟩):=Z.old' 4;have e7:a'.eval (.tmp 7)=.int .i64 (n:Int):=Z.old' 7;obtain⟨u,hu⟩:∃u:Nat->Value,∀t,u t=a'.eval (.tmp t):=⟨_,fun _=>rfl⟩;rw[iz a' 33 u Z.Vr Z.defers hu];rw[<-hu]at e0 e4 e7;clear hu Z hall;simp only[List.range,List.range.loop,bZ,cx];rw[e0,e4,e7];clear e0 e4 e7;have hE2:Has v2 bE (dc e) 60:=hC.has hE fE;have rI:v2.rangeAt bE 68 (Lib.byteCells e.id):=j4 (A:=cP e.h) (cs:=Lib.byteCells e.id) (C:=.int .i64 e.up :: .int .i64 e.ht::(NN.aa e.wk).toList) (o:=68) hE2 (gQ he.1);have hM2:v2.heap[mb]?=w.heap[mb]?:=(hC.block mb (b_ HML.out HW.out) fm).trans hMB;have aj1:∀k,v'.ownBlock=some k->k<v2.heap.size:=fun k hk=>(dM hrow2 hk).1
 have nbv:∀k,v'.ownBlock=some k->k≠mb:=fun k hk=>by
  rcases hl2 with h|⟨g,h,hg⟩
  exact hmv k (h.symm.trans hk);rw[h]at hk;have hkg:g=k:=Option.some.inj hk;have:=HML.out;have:=HW.out;omega
 have hl3:v'.ownBlock=(Value.slice sa n c).ownBlock\/∃g,v'.ownBlock=some g/\w.heap.size<=g:=by
  rcases hl2 with h|⟨g,h,hg⟩
  exact .inl h;exact .inr ⟨g,h,ax HW.out hg⟩
 have HA2:=h_ hA2;have HR2:=h_ hrow2;have HK:=h_ ((Kp.of (F:=F) HB.out).trans hC (fun i hi _=>hi));have cb:=K7 hA2 hp;clear hC VN Ya hz hl2 aj1 hE2 hS hrow2 hA2 hE;obtain⟨v3,hrun,hQ,hg3⟩:=KM.out v2.drew (by rw[<-hM2];rfl);go_upto_region 3 with fail
 refine lG (by kernel_rfl) (fun _=>True) (fun i v' _=>U_ b mb bE e n i v') (fun l _ w'=>Ph 7 (fun w'=>w'=v2.drew) (fun w'=>w'=v3) l w') (fun _ _=>True) (fun _ _=>trivial) (fun _ _ _ _ _ _ h=>h) (by kernel_rfl) trivial ?_ ?_ ?_;exact fun l hl=>Ph.zero hl rfl
 ·intro i o lz a wx ho' hnl dq Z;have hC:=Z.c;have hI:=Z.i;have hi:i<8:=(dA.1 ho').1;obtain rfl|rfl|rfl|rfl|rfl|rfl|rfl|rfl:i=0\/i=1\/i=2\/i=3\/i=4\/i=5\/i=6\/i=7:=by omega
  all_goals obtain rfl:=Option.some.inj ho'
  exact br 0 Z (aq rfl) (NN.fs rfl) (Z.old' 0) (hI.keep (aC Z 0));exact br 1 Z (aq rfl) (dR rfl (aw Z dq 0 25)) rfl (hI.keep (aC Z 1));exact br 2 Z (aq rfl) (fg rfl (aw Z dq 1 26) (zl wx b)) rfl (hI.keep (aC Z 2));have hsz:=aC Z 3;have hw:wx=v2.drew:=hI.pre (d_ Z hnl 7) hsz (by decide);exact br 3 Z (aq rfl) (SU rfl (aw Z dq 2 27) (by rw[hw];exact cb)) rfl (hI.keep hsz);exact br 4 Z (aq rfl) (fg rfl (Z.old' 4) (AQ wx bE)) rfl (hI.keep (aC Z 4));have hsz:=aC Z 5;have hw:wx=v2.drew:=hI.pre (d_ Z hnl 7) hsz (by decide);exact br 5 Z (aq rfl) (R1 rfl (aw Z dq 4 29) (by rw[hw];exact rI) he.2) rfl (hI.keep hsz);exact br 6 Z (aq rfl) (NN.fs rfl) (Z.old' 7) (hI.keep (aC Z 6));have hsz:=aC Z 7;have hw:wx=v2.drew:=hI.1 hnl;exact uD 7 Z (aq rfl) (Ob rfl (aw Z dq 3 28) (aw Z dq 5 30) (aw Z dq 6 31) (by rw[hw];exact hrun)) trivial rfl (Ph.last hsz rfl)
 intro lz a' w4 hall Z;obtain rfl:=Z.i.2 (hall 7 (by decide));have e7:a'.eval (.tmp 7)=.int .i64 (n:Int):=Z.old' 7;obtain⟨u,hu⟩:∃u:Nat->Value,∀t,u t=a'.eval (.tmp t):=⟨_,fun _=>rfl⟩;rw[iz a' 33 u Z.Vr Z.defers hu];rw[<-hu]at e7;clear hu Z hall;simp only[List.range,List.range.loop,bZ,cx];rw[e7];clear e7;have hK3:Kp (fun i=>i=mb) v2 w4:=(Kp.of (F:=fun i=>i=mb) (aA _ v2).drew).trans (Kp.gb hg3 (fun k hk=>(Option.some.inj hk).symm)) (fun i hi _=>hi);have hA4:=hK3.has HA2.out (fun e=>hbm e);have hR4:=aF HR2.out hK3 (fun i hi e=>nbv i hi e);have HK4:Kp (fun i=>i=b\/i=mb\/(Value.slice sa n c).ownBlock=some i) w w4:=(HK.out.mono (fun i hi _=>by rw[<-HFE.out]at hi;exact hi.elim .inl (fun h=>.inr (.inr h)))).trans hK3 (fun i hi _=>.inr (.inl hi));go_wp2_with fail
 go_ret;exact⟨v',_,rfl,hA4,hR4,hl3,HK4,hQ⟩
section
variable{ρ:Operand->Value}{o:Oper}{w:World}
variable{x:Operand}{g off:Nat}
theorem yo{T:TypeId}{n m:Nat}(ho:o.op=.fieldAddr T x n)(hx:ρ x=.pointer (some ⟨g,off,none⟩))(hf:(Instr.fieldAt T (.pointer (some ⟨g,off,none⟩)) n).run Tryz.prog w=.ok (.pointer (some ⟨g,m,none⟩)) w):(execOp ρ o).run Tryz.prog w=.ok (.value (.pointer (some ⟨g,m,none⟩))) w:=by unfold execOp;simp only[ho,hx,aB,hf,aM];rfl
theorem kj(w:World)(g:Nat):(Instr.fieldAt 32 (af g) 9).run Tryz.prog w=.ok (.pointer (some ⟨g,15,none⟩)) w:=by kernel_rfl
theorem rD(w:World)(g:Nat):(Instr.fieldAt 30 (.pointer (some ⟨g,15,none⟩)) 4).run Tryz.prog w=.ok (.pointer (some ⟨g,81,none⟩)) w:=by kernel_rfl
theorem rM{h:Hd}(ho:o.op=.load 30 x)(hx:ρ x=.pointer (some ⟨g,off,none⟩))(hg:w.rangeAt g off (cP h))(hs:(cP h).length=68):(execOp ρ o).run Tryz.prog w=.ok (.value (.agg (aS h))) w:=
 lq 30 ho hx Tryz.underlying30 rfl (kf.trans (by rw[hs])) hg
variable{e:En}
theorem R_{x0 x1 x2 x4:Operand}(ho:o.op=.build 60 #[(0,x0),(1,x1),(2,x2),(4,x4)])(he:e.ok)(h0:e.ht=0)(hx0:ρ x0=.agg (aS e.h))(hx1:ρ x1=.agg (ae e.id))(hx2:ρ x2=i_ e.up)(hx4:ρ x4=.agg (NN.aa e.wk)):(execOp ρ o).run Tryz.prog w=.ok (.value (.agg (dc e))) w:=by unfold execOp;simp only[ho,aB];rw[show(#[(0,x0),(1,x1),(2,x2),(4,x4)]:Array (Nat×Operand)).map (fun(i,x)=>(i,ρ x))=#[(0,.agg (aS e.h)),(1,.agg (ae e.id)),(2,i_ e.up),(4,.agg (NN.aa e.wk))] by simp[hx0,hx1,hx2,hx4],gw w 60 _ _ (Pq e he h0)];rfl
theorem NZ{y:Operand}{cs:Array Value}(ho:o.op=.store 60 x y)(hx:ρ x=af g)(hy:ρ y=.agg (dc e))(hg:Has w g cs 60)(hs:cs.size=106)(hs':(dc e).size=106):(execOp ρ o).run Tryz.prog w=.ok .skip (w.setRow g (dc e)):=by unfold execOp;simp only[ho,hx,hy,Instr.storeAt,Instr.sureAddr,aB,cr,aM,run_storeVar_row w g 60 60 cs (dc e) (Has.out hg) (mC.trans (by rw[hs'])) (by rw[hs,hs']) (Cp e)]
end
theorem Ln{w:World}{g o:Nat}{h:Hd}(ho:h.ok)(hr:w.rangeAt g o (cP h)):w.cell? ⟨g,o+66,none⟩=some (i_ h.bits):=hr 66 _ (zW ho 1)
def U9(bP bR:Nat)(e:En):Nat->Value->Prop
 | 0,u=>u=.pointer (some ⟨bP,15,none⟩)
 | 1,u=>u=.agg (aS e.h)
 | 2,u=>u=.pointer (some ⟨bP,15,none⟩)
 | 3,u=>u=.agg (aS e.h)
 | 4,u=>u=.agg (ae e.id)
 | 5,u=>u=.pointer (some ⟨bP,15,none⟩)
 | 6,u=>u=.pointer (some ⟨bP,81,none⟩)
 | 7,u=>u=i_ e.h.bits
 | 8,u=>u=.agg (NN.aa e.wk)
 | 9,u=>u=.agg (dc e)
 | _,_=>bR=bR
theorem L8(p:NN.Pr)(t:Tl)(tt:p.tl=t.C)(ht:t.ok)(e:En)(he:e.ok)(h0:e.ht=0)(hu:e.up = -1)(hg:e.h=t.g)(w:World)(KI:bG w 119 #[.agg (aS e.h)] (.agg (ae e.id)))(KW:Hid (∀w',ar 123 #[.int .i64 e.h.bits] w' (.agg (NN.aa e.wk)))):ar 140 #[.agg (NN.aV p)] w (.agg (dc e)):=by
 have z0:=ki eo;have z1:=ki he;have z2:=gQ he.1;go_enter Tryz.func140,Tryz.ntmps140;go_upto_region 1 with fail
 generalize hw0:World.alloc _ _=v0;have hB:Bl w v0:=by rw[<-hw0];exact cu.alloc (by simp) _
 have hP:NN.aK v0 w.heap.size p:=by rw[<-hw0];exact(NN.Has.new _ _).alloc _
 have hR:cV v0 (w.heap.size+1) ml:=by rw[<-hw0];exact Has.Vt _ (dc ml) _
 clear hw0;obtain⟨bP,VF⟩:∃x,x=w.heap.size:=⟨_,rfl⟩;obtain⟨bR,hbR⟩:∃x,x=w.heap.size+1:=⟨_,rfl⟩;rw[<-hbR]at hR|-;rw[<-VF]at hP|-;have hlt:bR<v0.heap.size:=Has.lt hR;have n1:bP≠bR:=by omega
 have XH:Hid (w.heap.size<=bR):=h_ (by omega);have ZT:Hid (bP=w.heap.size):=h_ VF;clear VF hbR;refine lG (by kernel_rfl) (fun w'=>Bl w w'/\NN.aK w' bP p) (fun i v' _=>U9 bP bR e i v') (fun l _ w'=>Ph 10 (fun w'=>cV w' bR ml) (fun w'=>cV w' bR e) l w') (fun _ _=>True) (fun _ _=>trivial) (fun _ _ _ _ _ _ h=>h) (by kernel_rfl) ⟨hB.trans (cg.drew.mono hB.size),Has.drew hP⟩ ?_ ?_ ?_;exact fun l hl=>Ph.zero hl (Has.drew hR)
 ·intro i o lz a wx ho' hnl dq Z;have hC:=Z.c;have hI:=Z.i;have hi:i<11:=(dA.1 ho').1;have rP:wx.rangeAt bP 15 (cP e.h):=by rw[hg];exact n7 hC.2 tt ht
  have rB:=Ln he.1 rP;obtain rfl|rfl|rfl|rfl|rfl|rfl|rfl|rfl|rfl|rfl|rfl:i=0\/i=1\/i=2\/i=3\/i=4\/i=5\/i=6\/i=7\/i=8\/i=9\/i=10:=by omega
  all_goals obtain rfl:=Option.some.inj ho'
  exact br 0 Z (aq rfl) (fg rfl (Z.old' 1) (kj wx bP)) rfl (hI.keep (aC Z 0));exact br 1 Z (aq rfl) (rM rfl (aw Z dq 0 3) rP z2) rfl (hI.keep (aC Z 1));exact br 2 Z (aq rfl) (fg rfl (Z.old' 1) (kj wx bP)) rfl (hI.keep (aC Z 2));exact br 3 Z (aq rfl) (rM rfl (aw Z dq 2 5) rP z2) rfl (hI.keep (aC Z 3))
  ·have hsz:=aC Z 4;have Vu:=fB Z hnl 10;have hpre:=hI.pre Vu hsz (by decide);exact qF (S:=rQ) 4 Z (aq rfl) (f:=119) (args:=#[a.eval (.tmp 6)]) (by kernel_rfl) (by rw[show a.eval (.tmp 6)=_ from(aw Z dq 3 6)];  exact KI.out wx hC.1) (fun w' hb=>⟨⟨ai hC.1 hb,NN.aK.on hC.2 hb⟩,trivial,rfl,Ph.made Vu (cV.on hpre hb)⟩)
  exact br 5 Z (aq rfl) (fg rfl (Z.old' 1) (kj wx bP)) rfl (hI.keep (aC Z 5));exact br 6 Z (aq rfl) (yo rfl (aw Z dq 5 8) (rD wx bP)) rfl (hI.keep (aC Z 6));exact br 7 Z (aq rfl) (NN.pg rfl (aw Z dq 6 9) rB) rfl (hI.keep (aC Z 7))
  ·have hsz:=aC Z 8;have Vu:=fB Z hnl 10;have hpre:=hI.pre Vu hsz (by decide);exact qF (S:=rQ) 8 Z (aq rfl) (f:=123) (args:=#[a.eval (.tmp 10)]) (by kernel_rfl) (by rw[show a.eval (.tmp 10)=_ from(aw Z dq 7 10)];  exact KW.out wx) (fun w' hb=>⟨⟨ai hC.1 hb,NN.aK.on hC.2 hb⟩,trivial,rfl,Ph.made Vu (cV.on hpre hb)⟩)
  exact br 9 Z (aq rfl) (R_ rfl he h0 (aw Z dq 1 4) (aw Z dq 4 7) (by rw[hu];rfl) (aw Z dq 8 11)) rfl (hI.keep (aC Z 9));have hsz:=aC Z 10;have hR0:=hI.1 hnl;exact uD 10 Z (aq rfl) (NZ rfl (Z.old' 2) (aw Z dq 9 12) hR0 z0 z1) ⟨below_setRow hC.1 XH.out _,NN.Has.Vo hC.2 _ _ n1⟩ rfl (Ph.last hsz (Has.row hR0 _))
 intro lz a' v1 hall Z;have hC:=Z.c;have hE:=Z.i.2 (hall 10 (by decide));have e2:a'.eval (.tmp 2)=.pointer (some ⟨bR,0,none⟩):=Z.old' 2;obtain⟨u,hu⟩:∃u:Nat->Value,∀t,u t=a'.eval (.tmp t):=⟨_,fun _=>rfl⟩;rw[iz a' 13 u Z.Vr Z.defers hu];rw[<-hu]at e2;clear hu Z hall;simp only[List.range,List.range.loop,bZ,cx];rw[e2];clear e2;go_wp2_with fail
 refine ay (TY Tryz.results140 _ _ rfl hE z1) rfl ⟨rfl,hC.1⟩
end An
namespace An
open Mem Sc
open Ar (av Ru aN)
variable{w:World}
theorem jD.clip{lo:Nat}{P:World->Prop}(h:jD (fun i=>lo<=i) P w):jD (fun i=>lo<=i/\i<w.heap.size) P w:=fun w' k=>h w' (k.mono fun _ hi hl=>fun h=>hi ⟨h,hl⟩)
variable{I:Nat->Prop}{b room mb:Nat}{p:NN.Pr}{t:Tl}{gs:List Gt}{cs:List Ck}
theorem Qk{v:Value}{L:List Bk}(h:jw w I b p t gs cs room v mb L)(x:Bk)(he:x.e.ok)(hs:x.s.ok)(J:Nat->Prop)(hJ:jD J (fun w=>gR w 0 x.s x.q) w)(hJl:∀i,J i->i<w.heap.size)(hJb:∀i,J i->¬(i=b\/i=mb\/v.ownBlock=some i))(hn:L.length<=900)(hf:(L.map (·.e.id)).findIdx? (· == x.e.id)=none):aU 124 #[af b,.agg (dc x.e),.agg (cU x.s)] w fun r w'=>∃v',r=.returned (i_ (L.length:Nat))/\jw w' (fun i=>I i\/J i) b p t gs cs room v' mb (L++[x])/\Kp (fun i=>i=b\/i=mb\/v.ownBlock=some i) w w'/\(v'.ownBlock=v.ownBlock\/∃g,v'.ownBlock=some g/\w.heap.size<=g):=by
 obtain⟨sa,c,rfl⟩:=h.slice;refine(Bf b p h.VQ room sa L.length c mb (rj L) x.e he x.s hs hn w h.has h.row (fun k hk=>h.Zu hk) h.YA (fun _ v3=>e_ v3 mb (L.map (·.e.id)++[x.e.id])) ?_ (fun k hk=>h.YB hk) h.map.lt).mono ?_
 ·refine h_ fun v2 hv2=>?_
  obtain⟨w',h1,h2,h3⟩:=(h.map.on hv2).put he.2 hf (by rw[dS];omega) L.length (by rw[dS]);exact⟨w',h1,h2,h3⟩
 ·rintro r w' ⟨v',v2,rfl,hA,hR,hl,hK,hM⟩
  have hI:∀i,I i->¬(i=b\/i=mb\/(Value.slice sa L.length c).ownBlock=some i):=fun i hi e=>by
   rcases e with rfl|rfl|e
   exact h.nb hi;exact h.nm hi;exact h.nv _ e hi
  refine⟨v',rfl,?_,hK,hl⟩;refine{ has:=hA,VQ:=h.VQ,one:=h.one,tt:=h.tt,tok:=h.tok,gn:=h.gn,cn:=h.cn,row:=?_,map:=?_,VL:=?_,checks:=?_,V7:=?_,nb:=?_,nm:=?_,nv:=?_,lt:=?_,du:=?_ };rw[Ji,aT];exact hR;rw[ic];exact hM;exact(h.VL.on hK hI).wide fun i hi=>.inl hi
  exact(h.checks.on hK hI).wide fun i hi=>.inl hi
  ·intro y hy;rcases dL.1 hy with hy|hy
   exact((h.V7 y hy).on hK hI).wide fun i hi=>.inl hi
   obtain rfl:y=x:=(by simpa using hy);exact(hJ.on hK hJb).wide fun i hi=>.inr hi
  exact fun e=>e.elim h.nb fun e=>hJb b e (.inl rfl)
  exact fun e=>e.elim h.nm fun e=>hJb mb e (.inr (.inl rfl))
  ·intro k hk e;rcases hl with hl|⟨g,hl,hg⟩
   exact e.elim (h.nv k (hl.symm.trans hk)) fun e=>hJb k e (.inr (.inr (hl.symm.trans hk)))
   rw[hl]at hk;have hkg:g=k:=Option.some.inj hk;have:k<w.heap.size:=e.elim (h.lt k) (hJl k);omega
  exact fun i hi=>b_ (hi.elim (h.lt i) (hJl i)) hK.size
  ·intro y hy;rcases dL.1 hy with hy|hy
   exact h.du y hy;obtain rfl:y=x:=(by simpa using hy);exact⟨he,hs⟩
theorem jw.made(hA:Has w b (mW p room (.slice none 0 0) mb) 147)(VQ:p.ok)(one:p.one)(tt:p.tl=t.C)(tok:t.ok)(gn:t.gn=gs.length)(cn:t.cn=cs.length)(hM:e_ w mb [])(hG:jD I (fun w=>bc w t.ga gs) w)(hC:jD I (fun w=>aI w t.ca cs) w)(nb:¬I b)(nm:¬I mb)(hl:∀i,I i->i<w.heap.size):jw w I b p t gs cs room (.slice none 0 0) mb []:=
 { has:=hA,VQ:=VQ,one:=one,tt:=tt,tok:=tok,gn:=gn,cn:=cn,row:=lf _ _ _ _,map:=hM,VL:=hG,checks:=hC,V7:=fun x hx=>(by cases hx),nb:=nb,nm:=nm,nv:=fun k hk=>(by cases hk),lt:=hl,du:=fun x hx=>(by cases hx) }
open NN.VI
variable{ops:Array Oper}{o:Oper}{a:Act}{Q:Exit->Act->World->Prop}
theorem I5{rest:List Oper}(hgd:o.guard=none)(x0 x1 x3:Operand)(ho:o.op=.build 147 #[(0,x0),(1,x1),(3,x3)])(p:NN.Pr)(hp:p.ok)(room mb:Nat)(h0:a.eval x0=.agg (NN.aV p))(h1:a.eval x1=i_ room)(h3:a.eval x3=.map (some mb))(hk:wpList Tryz.prog ops Q rest (a.put o.dst (.agg (mW p room (.slice none 0 0) mb))) w):wpList Tryz.prog ops Q (o::rest) a w:=
 gk hgd fun _ hK=>by
  unfold Oper.wp execOp;simp only[ho,aB];rw[show(#[(0,x0),(1,x1),(3,x3)]:Array (Nat×Operand)).map (fun(i,x)=>(i,a.eval x))=#[(0,.agg (NN.aV p)),(1,i_ room),(3,.map (some mb))] by simp[h0,h1,h3],gw w 147 _ _ (TR p hp room mb)];exact hK _ _ hk
variable{P:Program}{C:World->Prop}{S:World->World->Prop}{f:FuncId}{args:Array Value}
theorem Uv{R:Value->World->Prop}{J:Act->World->Prop}(hn:Region.wanted o (yielded ops a.tmps)=true)(h:(execOp a.eval o).run P w=.ok (.enter f args) w)(hcall:Calls P f args w fun e w'=>∃v,e=.returned v/\C w'/\S w w'/\R v w'/\J (a.put o.dst v) w'):if Region.wanted o (yielded ops a.tmps)=true then o.wp P a w (fun a' w'=>C w'/\S w w'/\∃v,a'=a.put o.dst v/\R v w'/\J a' w') Q else R undef w/\J (a.put o.dst undef) w:=by
 rw[aj hn];unfold Oper.wp;rw[h];refine Calls.mono hcall fun e w' he=>?_
 obtain⟨v,rfl,h1,h2,h3,h4⟩:=he;exact⟨h1,h2,v,rfl,h3,h4⟩
theorem CA{a0:Act}{R:Nat->Value->World->Prop}{I:Array Bool->Act->World->Prop}{lz:Array Bool}(i:Nat)(_hinv:eE .any ops a0 C R I lz a w)(hn:Region.wanted o (yielded ops a.tmps)=true)(h:(execOp a.eval o).run P w=.ok (.enter f args) w)(hcall:Calls P f args w fun e w'=>∃v,e=.returned v/\C w'/\S w w'/\R i v w'/\I (lz.setIfInBounds i true) (a.put o.dst v) w'):if Region.wanted o (yielded ops a.tmps)=true then o.wp P a w (fun a' w'=>C w'/\S w w'/\∃v,a'=a.put o.dst v/\R i v w'/\I (lz.setIfInBounds i true) a' w') Q else R i undef w/\I (lz.setIfInBounds i true) (a.put o.dst undef) w:=
 Uv (S:=S) (C:=C) (R:=R i) (J:=fun a' w'=>I (lz.setIfInBounds i true) a' w') hn h hcall
def QK(v1:World)(bA:Nat)(p:NN.Pr)(e:En)(q:Ps):Nat->Value->World->Prop
 | 0,u,_=>u=af bA
 | 1,u,_=>u=.agg (NN.aV p)
 | 2,u,_=>u=.agg (dc e)
 | 3,u,_=>u=.agg (NN.aV p)
 | 4,u,w=>∃s:Sp,u=.agg (cU s)/\s.ok/\jD (fun i=>v1.heap.size<=i) (fun w=>gR w 0 s q) w
 | _,_,_=>bA=bA
theorem Qy{v1:World}{bA:Nat}{e:En}{q:Ps}{G:Nat->Prop}(hG:∀i,G i->i<v1.heap.size):∀(i:Nat)(u:Value)(w w':World),Kp G w w'->QK v1 bA p e q i u w->QK v1 bA p e q i u w'
 | 0,_,_,_,_,h=>h
 | 1,_,_,_,_,h=>h
 | 2,_,_,_,_,h=>h
 | 3,_,_,_,_,h=>h
 | 4,_,_,_,hk,⟨s,h1,h2,h3⟩=>⟨s,h1,h2,h3.on hk fun i hi hg=>absurd (hG i hg) (by omega)⟩
 | _+5,_,_,_,_,h=>h
theorem PO(p:NN.Pr)(hp:p.ok)(t:Tl)(room m1:Int)(R:Nat)(hm1:m1=max room 1)(hR:(R:Int)=min m1 512)(gs:List Gt)(cs:List Ck)(e:En)(he:e.ok)(q:Ps)(q32:q.prev.length=32)(w:World)(KG:bG w 138 #[.agg (NN.aV p)] (.bool true))(KC:Hid (∀w',Below w.heap.size w w'->aU 139 #[.agg (NN.aV p)] w' fun e w''=>∃(p':NN.Pr)(t':Tl),e=.returned (.agg (NN.aV p'))/\(p'.ok/\p'.one/\p'.tl=t'.C/\t'.ok/\t'.gn=gs.length/\t'.cn=cs.length/\p'.lim=p.lim/\p'.Vv=p.Vv/\p'.VG=p.VG/\p'.Vz=p.Vz/\p'.VD=p.VD/\t'.g=t.g)/\jD (fun i=>w'.heap.size<=i) (fun w=>bc w t'.ga gs) w''/\jD (fun i=>w'.heap.size<=i) (fun w=>aI w t'.ca cs) w''/\Below w'.heap.size w' w''))(KE:Hid (∀w',Below w.heap.size w w'->ar 140 #[.agg (NN.aV p)] w' (.agg (dc e))))(KB:Hid (∀w',Below w.heap.size w w'->aU 141 #[.agg (NN.aV p)] w' fun r w''=>∃s,r=.returned (.agg (cU s))/\(cU s).size=38/\gR w'' w'.heap.size s q/\Below w'.heap.size w' w'')):aU 105 #[.agg (NN.aV p),.int .i64 room] w fun r w'=>∃b I p' t' v mb x,r=.returned (.tuple #[.pointer (some ⟨b,0,none⟩),.int .i64 0])/\jw w' I b p' t' gs cs R v mb [x]/\x.e=e/\x.q=q/\(p'.lim=p.lim/\p'.Vv=p.Vv/\p'.VG=p.VG/\p'.Vz=p.Vz/\p'.VD=p.VD/\t'.g=t.g)/\(∀i,n9 I b v mb i->w.heap.size<=i)/\Below w.heap.size w w':=by
 have hz:=NN.gT hp;go_enter Tryz.func105,Tryz.ntmps105;go_upto_region 1 with fail
 generalize hw0:World.alloc _ _=v0;have hB:Below w.heap.size w v0:=eT hw0;have hP:NN.aK v0 w.heap.size p:=by rw[<-hw0];exact NN.Has.new _ _
 have hs0:w.heap.size+1<=v0.heap.size:=by rw[<-hw0];simp
 clear hw0;obtain⟨bP,VF⟩:∃x,x=w.heap.size:=⟨_,rfl⟩;rw[<-VF]at hP|-;have ZT:Hid (bP=w.heap.size):=h_ VF;clear VF;go_wp2_with (first|fail|(with_reducible refine NN.fK rfl _ rfl _ rfl hP hz ?_))
 refine(KG.out _ hB).mono ?_;rintro r v1 ⟨rfl,hb⟩;replace hP:=hP.on hb;replace hB:=ai hB hb;have hs1:w.heap.size+1<=v1.heap.size:=ax hs0 hb.size;clear hb hs0;go_wp2_with (first|fail|(with_reducible refine NN.fK rfl _ rfl _ rfl hP hz ?_))
 refine(KC.out _ hB).mono ?_;rintro r v2 ⟨p',t',rfl,⟨p1,p2,p3,p4,p5,p6,a1,a2,a3,a4,a5,a6⟩,hG,hC,hb⟩;replace hP:=hP.on hb;replace hB:=ai hB hb;have hs2:w.heap.size+1<=v2.heap.size:=ax hs1 hb.size;have al9:Hid (v1.heap.size<=v2.heap.size):=h_ hb.size;have Wq:=h_ hs1;clear hb hs1;have hmax:=NN.p7 (P:=Tryz.prog) room 1 m1 hm1;have hmin:=NN.ln (P:=Tryz.prog) m1 512 (R:Int) hR;clear hm1 hR;have hmk:∀w:World,(Instr.makeMap 145 none).run Tryz.prog w=.ok (.map (some w.heap.size)) (w.alloc (.map #[] 0)):=fun _=>by kernel_rfl
 go_upto_region 4 with(with_reducible first|refine NN.fK rfl _ rfl _ rfl hP hz ?_|refine I5 rfl _ _ _ rfl p' p1 R v2.heap.size rfl rfl rfl ?_)
 have hMz:(v2.alloc (.map #[] 0)).heap.size=v2.heap.size+1:=by simp
 have hA3:Has ((v2.alloc (.map #[] 0)).alloc (.cells (mW p' R (.slice none 0 0) v2.heap.size) 147)) (v2.heap.size+1) (mW p' R (.slice none 0 0) v2.heap.size) 147:=by rw[<-hMz];exact Has.new _ _
 have hb3:Below v2.heap.size v2 ((v2.alloc (.map #[] 0)).alloc (.cells (mW p' R (.slice none 0 0) v2.heap.size) 147)):=cu.alloc (by simp) _;have hM3:e_ ((v2.alloc (.map #[] 0)).alloc (.cells (mW p' R (.slice none 0 0) v2.heap.size) 147)) v2.heap.size []:=(e_.made v2).on (heap_alloc_old _ _ (by simp));obtain⟨mb,hmb⟩:∃x,x=v2.heap.size:=⟨_,rfl⟩;obtain⟨bA,YV⟩:∃x,x=v2.heap.size+1:=⟨_,rfl⟩;rw[<-YV]at hA3|-;rw[<-hmb]at hA3 hM3 hb3|-;have hs3:((v2.alloc (.map #[] 0)).alloc (.cells (mW p' R (.slice none 0 0) mb) 147)).heap.size=v2.heap.size+2:=by simp
 generalize hv3:World.alloc (World.alloc v2 _) _=v3 at*;have hA:jw v3 (fun i=>v1.heap.size<=i/\i<v2.heap.size) bA p' t' gs cs R (.slice none 0 0) mb []:=jw.made hA3 p1 p2 p3 p4 p5 p6 hM3 (hG.clip.on (G:=fun _=>False) (Kp.of (by first|exact hmb▸hb3|(unfold Bl;exact hmb▸hb3))) (fun _ _ h=>h)) (hC.clip.on (G:=fun _=>False) (Kp.of (by first|exact hmb▸hb3|(unfold Bl;exact hmb▸hb3))) (fun _ _ h=>h)) (fun h=>by omega) (fun h=>by omega) (fun i hi=>by rw[hs3];omega);have hP3:NN.aK v3 bP p:=hP.on (by first|exact hmb▸hb3|(unfold Bl;exact hmb▸hb3));have hB3:Below w.heap.size w v3:=hB.trans (hb3.mono (by rw[hmb];exact hB.size));have HF:Hid (∀i,(i=bA\/i=mb)->i<v3.heap.size):=h_ fun i hi=>by rw[hs3];omega
 have HL:Hid (w.heap.size<=v1.heap.size/\w.heap.size<=mb/\w.heap.size<=bA/\w.heap.size<=v3.heap.size/\bP≠bA/\bP≠mb):=h_ (by rw[hs3];have:=Wq.out;have:=ZT.out;omega);clear hA3 hM3 hb3 hs3 hMz hmk hmax hmin hG hC hP hB hmb YV hv3;refine lG (by kernel_rfl) (fun w'=>(Below w.heap.size w w'/\v3.heap.size<=w'.heap.size)/\NN.aK w' bP p) (fun i v' w'=>QK v3 bA p e q i v' w') (fun l _ w'=>Ph 5 (fun w'=>jw w' (fun i=>v1.heap.size<=i/\i<v2.heap.size) bA p' t' gs cs R (.slice none 0 0) mb []) (fun w'=>∃I v x,jw w' I bA p' t' gs cs R v mb [x]/\x.e=e/\x.q=q/\∀i,n9 I bA v mb i->w.heap.size<=i) l w') (fun w w'=>Kp (fun i=>i=bA\/i=mb) w w') (fun w' _=>Kp.refl _ w') (fun i v w w' _ hs h=>Qy HF.out i v w w' hs h) (by kernel_rfl) ⟨⟨hB3.trans (cg.drew.mono hB3.size),(aA v3.heap.size v3).drew.size⟩,NN.Has.drew hP3⟩ ?_ ?_ ?_;exact fun l hl=>Ph.zero hl (hA.below cg.drew)
 ·intro i o lz a wx ho' hnl dq Z;have hC:=Z.c;have hI:=Z.i;have hi:i<6:=(dA.1 ho').1;obtain rfl|rfl|rfl|rfl|rfl|rfl:i=0\/i=1\/i=2\/i=3\/i=4\/i=5:=by omega
  all_goals obtain rfl:=Option.some.inj ho'
  exact fw (S:=fun w w'=>Kp (fun i=>i=bA\/i=mb) w w') (fun w' _=>Kp.refl _ w') 0 Z (aq rfl) (NN.fs rfl) (Z.old' 6) (hI.keep (aC Z 0));exact fw (S:=fun w w'=>Kp (fun i=>i=bA\/i=mb) w w') (fun w' _=>Kp.refl _ w') 1 Z (aq rfl) (NN.Ep rfl (Z.old' 2) hC.2 hz) rfl (hI.keep (aC Z 1))
  ·have hsz:=aC Z 2;have Vu:=fB Z hnl 5;have hpre:=hI.pre Vu hsz (by decide);exact qF (S:=fun w w'=>Kp (fun i=>i=bA\/i=mb) w w') 2 Z (aq rfl) (f:=140) (args:=#[a.eval (.tmp 19)]) (by kernel_rfl) (by rw[show a.eval (.tmp 19)=_ from(aw Z dq 1 19)];  exact KE.out wx hC.1.1) (fun w' hb=>⟨⟨⟨ai hC.1.1 hb,ax hC.1.2 hb.size⟩,NN.aK.on hC.2 hb⟩,Kp.of hb,rfl,Ph.made Vu (hpre.below hb)⟩)
  exact fw (S:=fun w w'=>Kp (fun i=>i=bA\/i=mb) w w') (fun w' _=>Kp.refl _ w') 3 Z (aq rfl) (NN.Ep rfl (Z.old' 2) hC.2 hz) rfl (hI.keep (aC Z 3))
  ·have hsz:=aC Z 4;have Vu:=fB Z hnl 5;have hpre:=hI.pre Vu hsz (by decide)
   exact DC (V:=fun v w'=>∃s,v=.agg (cU s)/\(cU s).size=38/\gR w' wx.heap.size s q) (C:=(fun w'=>(Below w.heap.size w w'/\v3.heap.size<=w'.heap.size)/\NN.aK w' bP p)) (S:=(fun w w'=>Kp (fun i=>i=bA\/i=mb) w w')) (R:=fun v' w'=>QK v3 bA p e q 4 v' w') (J:=fun _ w'=>Ph 5 (fun w'=>jw w' (fun i=>v1.heap.size<=i/\i<v2.heap.size) bA p' t' gs cs R (.slice none 0 0) mb []) (fun w'=>∃I v x,jw w' I bA p' t' gs cs R v mb [x]/\x.e=e/\x.q=q/\∀i,n9 I bA v mb i->w.heap.size<=i) (lz.setIfInBounds 4 true) w') (aq rfl) (f:=141) (args:=#[a.eval (.tmp 21)]) (by kernel_rfl) (by
    rw[show a.eval (.tmp 21)=_ from(aw Z dq 3 21)];refine(KB.out wx hC.1.1).mono ?_;rintro r w' ⟨s,rfl,h1,h2,h3⟩
    exact⟨_,rfl,⟨s,rfl,h1,h2⟩,h3⟩) (fun v w' hv hb=>⟨⟨⟨ai hC.1.1 hb,ax hC.1.2 hb.size⟩,NN.aK.on hC.2 hb⟩,Kp.of hb,(by
     obtain⟨s,rfl,h1,h2⟩:=hv;exact⟨s,rfl,(by unfold Sp.ok;rw[h2.2.1];exact q32),I1 h2 fun i hi _=>ax hC.1.2 hi⟩),Ph.made Vu (hpre.below hb)⟩)
  ·have hsz:=aC Z 5;have hpre:=hI.1 hnl;obtain⟨s,e22,so,hJ⟩:=(aw Z dq 4 22)
   exact CA (S:=fun w w'=>Kp (fun i=>i=bA\/i=mb) w w') 5 Z (aq rfl) (f:=124) (args:=#[a.eval (.tmp 18),a.eval (.tmp 20),a.eval (.tmp 22)]) (by kernel_rfl) (by
    rw[show a.eval (.tmp 18)=_ from(aw Z dq 0 18),show a.eval (.tmp 20)=_ from(aw Z dq 2 20),e22];have hJl:=HF.out;refine(Qk hpre ⟨e,s,q⟩ he so (fun i=>v3.heap.size<=i/\i<wx.heap.size) hJ.clip (fun i hi=>hi.2) (fun i hi h=>?_) (by decide) rfl).mono ?_
    ·rcases h with h|h|h
     have:=hJl i (.inl h);omega;have:=hJl i (.inr h);omega;cases h
    ·rintro r w' ⟨v',rfl,hA',hK,hl⟩;have Zy:Kp (fun i=>i=bA\/i=mb) wx w':=hK.mono fun i hi _=>hi.elim .inl (fun h=>h.elim .inr (fun h=>by cases h))
     obtain⟨l1,l2,l3,l4,l5,l6⟩:=HL.out;refine⟨_,rfl,⟨⟨hC.1.1.trans (Zy.below (fun i hi=>by rcases hi with rfl|rfl<;>assumption) hC.1.1.size),ax hC.1.2 Zy.size⟩,Zy.ah7 hC.2 (fun h=>h.elim l5 l6)⟩,Zy,rfl,Ph.last hsz ⟨_,v',_,hA',rfl,rfl,fun i hi=>?_⟩⟩;rcases hi with(hi|hi)|rfl|rfl|hi
     exact ax l1 hi.1;exact ax l4 hi.1;exact l3;exact l2
     ·rcases hl with hl|⟨g,hl,hg⟩
      rw[hl]at hi;cases hi;rw[hl]at hi;have hig:g=i:=Option.some.inj hi;have:=hC.1.2;omega)
 intro lz a' v4 hall Z;have hC:=Z.c.1;obtain⟨I,v,x,hE,x1,x2,hm⟩:=Z.i.2 (hall 5 (by decide));have e6:a'.eval (.tmp 6)=.pointer (some ⟨bA,0,none⟩):=Z.old' 6;obtain⟨u,hu⟩:∃u:Nat->Value,∀t,u t=a'.eval (.tmp t):=⟨_,fun _=>rfl⟩;rw[iz a' 25 u Z.Vr Z.defers hu];rw[<-hu]at e6;clear hu Z hall;simp only[List.range,List.range.loop,bZ,cx];rw[e6];clear e6;go_wp2_with fail
 go_ret2;exact⟨bA,I,p',t',v,mb,x,rfl,hE,x1,x2,⟨a1,a2,a3,a4,a5,a6⟩,hm,hC.1⟩
end An
namespace An
open Mem Sc
open Ar (av Ru aN)
def fZ(room:Int):Nat:=(min (max room 1) 512).toNat
theorem H9(room:Int):((fZ room:Nat):Int)=min (max room 1) 512:=by unfold fZ;omega
theorem Dy(p:NN.Pr)(hp:p.ok)(h1:p.one)(t:Tl)(tt:p.tl=t.C)(ht:t.ok)(gs:List Gt)(cs:List Ck)(hgn:t.gn=gs.length)(hcn:t.cn=cs.length)(hgl:t.gn<=1000)(hcl:t.cn<=1000)(room:Int)(hgood:na p t.g gs cs=true)(w:World)(hT:gj w)(hG:bc w t.ga gs)(hC:aI w t.ca cs):aU 105 #[.agg (NN.aV p),i_ room] w fun r w'=>∃b F,r=.returned (.tuple #[af b,i_ 0])/\k9 w' F b ⟨p,t.g,gs,cs,fZ room⟩ [aN]/\(∀i,F i->w.heap.size<=i)/\Bl w w':=by
 have e1:cX ⟨p,t.g,gs,cs,fZ room⟩ aN=⟨t.g,t.g.id,-1,0,NN.ofBits t.g.bits⟩:=rfl;refine(PO p hp t room (max room 1) (fZ room) rfl (H9 room) gs cs (cX ⟨p,t.g,gs,cs,fZ room⟩ aN) ⟨ht.2,lJ _⟩ (J' p t.g) (lJ _) w ?_ ?_ ?_ ?_).mono ?_
 ·refine h_ fun w' hb=>?_
  have:=Kx p hp t tt ht gs cs hgn hcn hgl hcl w' (hG.below hb) (hC.below hb);rwa[hgood]at this
 ·refine h_ fun w' hb=>(I9 p hp h1 t tt ht gs cs hgn hcn hgl hcl w' (hG.below hb) (hC.below hb)).mono ?_
  rintro e w2 ⟨ga,gc,ca,cc,rfl,q1,q2,q3⟩;refine⟨kJ p t ga gc ca cc,F3 t ga gc ca cc,rfl,⟨Mj p t ht ga gc ca cc,?_,rfl,ht,hgn,hcn,rfl,rfl,rfl,rfl,rfl,rfl⟩,q1,q2,q3⟩;intro v hv;have hv':v∈(Value.slice ga t.gn gc::Value.slice ca t.cn cc::(t.nn++cP t.g)):=hv;simp only[cJ]at hv';rcases hv' with rfl|rfl|hv'
  rfl;rfl;exact h1 v (by rw[tt];unfold Tl.C;simp only[cJ];exact .inr (.inr hv'))
 ·refine h_ fun w' hb=>L8 p t tt ht _ ⟨ht.2,lJ _⟩ rfl rfl rfl w' ?_ ?_
  exact h_ fun w2 hb2=>qL t.g ht.2 w2 (hT.below (ai hb hb2))
  exact h_ fun w2=>NN.BM t.g.bits w2
 exact h_ fun w' hb=>Ii p hp t tt ht w' (hT.below hb)
 rintro r w' ⟨b,I,p',t',v,mb,x,rfl,hA,x1,x2,ha,hm,hb⟩;refine⟨b,n9 I b v mb,rfl,⟨fun i hi=>hA.Wb hi,I,p',t',v,mb,[x],hA,ha,?_,fun i hi=>hi⟩,hm,hb⟩;unfold Lk;simp only[bZ,cx,x1,x2];rfl
end An
namespace NN
open VI An
theorem O5{C:World->Prop}{a:Act}{o:Oper}{K:Act->Prop}(T t':TypeId)(p:BinOp)(hT:Tryz.prog.eqGuardType Tryz.prog.depth T=false)(x y:Operand)(ho:o.op=.binOp p T x y t')(xs ys:Array Value)(v:Value)(hx:a.eval x=.agg xs)(hy:a.eval y=.agg ys)(hq:∀w,(binOp p T (.agg xs) (.agg ys)).run Tryz.prog w=.ok v w)(hk:K (a.put o.dst v)):o.quiet Tryz.prog a C K:=
 ⟨_,fun w' hw'=>by
  unfold Oper.quietAt
  have this:(execOp a.eval o).run Tryz.prog w'=.ok (.value v) w':=by
   unfold execOp;simp only[ho,hx,hy,aB,cr,run_eqGuard_agg w' p T x y xs ys hT,aM,hq]
  rw[this];exact⟨rfl,rfl⟩,hk⟩
theorem Lj:Tryz.prog.eqGuardType Tryz.prog.depth 26=false:=by kernel_rfl
theorem xg(x y:Nat)(hx:x<Nm.ak)(hy:y<Nm.ak):∃z c,z=(x+Nm.ak-y)%Nm.ak/\z<Nm.ak/\dx 146 #[.agg (aa x),.agg (aa y)] (.tuple #[.agg (aa z),.bool c]):=⟨_,_,rfl,bq _ ni,fun w=>zX x y hx hy w⟩
theorem vk(x y:Nat)(hx:x<Nm.ak)(hy:y<Nm.ak):∃z c,z=(x+y)%Nm.ak/\z<Nm.ak/\dx 115 #[.agg (aa x),.agg (aa y)] (.tuple #[.agg (aa z),.bool c]):=⟨_,_,rfl,bq _ ni,fun w=>vN x y hx hy w⟩
theorem lr:1<Nm.ak:=by rw[Nm.dj];exact b_ (by decide) (iW (by decide) (show 1<=256 by decide))
structure U4 (w wr:World) (b1 bR b3 b4 b6 b7 t m4 o r:Nat):Prop where
 be:Bl w wr
 a1:Has wr b1 (aa t) 26
 aR:Has wr bR (aa 0) 26
 a3:Has wr b3 (aa 1) 26
 a4:Has wr b4 (aa m4) 26
 a6:Has wr b6 (aa o) 26
 a7:Has wr b7 (aa r) 26
structure Cd (w wr:World) (b1 bR b3 b4 b7 t m4 r:Nat):Prop where
 be:Bl w wr
 a1:Has wr b1 (aa t) 26
 aR:Has wr bR (aa 0) 26
 a3:Has wr b3 (aa 1) 26
 a4:Has wr b4 (aa m4) 26
 a7:Has wr b7 (aa r) 26
variable{w wr:World}{b1 bR b3 b4 b7 t m4 r:Nat}
theorem Cd.on{w':World}(h:Cd w wr b1 bR b3 b4 b7 t m4 r)(hb:Bl wr w'):Cd w w' b1 bR b3 b4 b7 t m4 r:=⟨ai h.be hb,h.a1.on hb,h.aR.on hb,h.a3.on hb,h.a4.on hb,h.a7.on hb⟩
theorem Cd.row(h:Cd w wr b1 bR b3 b4 b7 t m4 r)(g z:Nat)(h0:w.heap.size<=g)(h1:b1≠g)(h2:bR≠g)(h3:b3≠g)(h4:b4≠g)(h5:b7≠g):Cd w (wr.setRow g (aa z)) b1 bR b3 b4 b7 t m4 r:=⟨below_setRow h.be h0 _,h.a1.Vo _ _ h1,h.aR.Vo _ _ h2,h.a3.Vo _ _ h3,h.a4.Vo _ _ h4,h.a7.Vo _ _ h5⟩
def Vm(o z m3 o2:Nat->Value)(b:Bool):Nat->Value->Prop
 | 0,u=>u=o 0
 | 1,u=>u=.agg (aa 1)
 | 2,u=>u=z 0
 | 3,u=>u=m3 0
 | 4,u=>u=.tuple #[o2 0,.bool b]
 | 5,u=>u=.tuple #[o2 0,.bool b]
 | 6,u=>u=o2 0
 | 7,u=>u=.bool b
 | _,_=>b=b
theorem Qe(t:Nat)(m4:Nat)(KA:Hid (dx 115 #[.agg (aa t),.agg (aa 1)] (.tuple #[.agg (aa m4),.bool true])))(HW:Hid (1=Nm.work t))(w:World):aU 110 #[.agg (aa t)] w fun e w'=>∃z,(z<Nm.ak/\z=Nm.work t)/\e=.returned (.agg (aa z))/\Bl w w':=by
 go_enter Tryz.func110,Tryz.ntmps110;go_upto_region 1 with fail
 generalize hw0:World.alloc _ _=v0;have bj:Bl w v0:=by rw[<-hw0];exact cu.alloc (by simp) _
 have h1:Has v0 w.heap.size (aa t) 26:=by rw[<-hw0];exact(Has.new _ _).alloc _
 have hR:Has v0 (w.heap.size+1) (aa 0) 26:=by rw[<-hw0];exact Has.Vt _ (aa 0) _
 clear hw0;obtain⟨Xu,Y1⟩:∃x,x=w.heap.size:=⟨_,rfl⟩;obtain⟨Wk,Yb⟩:∃x,x=w.heap.size+1:=⟨_,rfl⟩;rw[<-Yb]at hR|-;rw[<-Y1]at h1|-;have NR:Hid (w.heap.size<=Wk/\Xu<Wk):=h_ (by omega);clear Y1 Yb;have q1:=hR.lt;go_upto_region 2 with(with_reducible first|refine a_ rfl _ rfl _ rfl _ (by assumption) rfl ?_|refine qY rfl _ _ rfl _ 1 _ rfl rfl u' _ (Has.Vp _) rfl ?_)
 generalize hw1:World.setRow _ _ _=v1;have hb1:Bl v0 v1:=dZ hw1;have h3:Has v1 v0.heap.size (aa 1) 26:=by rw[<-hw1];exact(Has.Vp _).row _
 replace h1:=h1.on hb1;replace hR:=hR.on hb1;replace bj:=ai bj hb1;clear hw1 hb1;obtain⟨Wn,Wg⟩:∃x,x=v0.heap.size:=⟨_,rfl⟩;rw[<-Wg]at h3 q1|-;clear Wg;have Yc:=h_ q1;clear q1;go_wp2_with (first|fail|(with_reducible refine a_ rfl _ rfl _ rfl _ (by assumption) rfl ?_))
 refine az (KA.out _) fun v2 hb2=>?_;replace h1:=h1.on hb2;replace hR:=hR.on hb2;replace h3:=h3.on hb2;replace bj:=ai bj hb2;clear hb2;have q3:=h3.lt;go_upto_region 3 with(with_reducible first|refine a_ rfl _ rfl _ rfl _ (by assumption) rfl ?_|refine cB rfl _ _ rfl _ _ rfl rfl _ (Has.Vp _) rfl ?_)
 generalize hw3:World.setRow _ _ _=v3;have hb3:Bl v2 v3:=dZ hw3;have h4:Has v3 v2.heap.size (aa m4) 26:=by rw[<-hw3];exact(Has.Vp _).row _
 replace h1:=h1.on hb3;replace hR:=hR.on hb3;replace h3:=h3.on hb3;replace bj:=ai bj hb3;clear hw3 hb3;obtain⟨WB,WU⟩:∃x,x=v2.heap.size:=⟨_,rfl⟩;rw[<-WU]at h4 q3|-;clear WU;have YC:=h_ q3;clear q3;go_wp2_with (with_reducible first|refine a_ rfl _ rfl _ rfl _ (by assumption) rfl ?_|refine cB rfl _ _ rfl _ _ rfl rfl _ hR rfl ?_)
 exact ay (v:=.agg (aa (1))) (jm Tryz.results110 _ _ _ rfl (hR.row _)) rfl ⟨_,⟨lr,HW.out⟩,rfl,below_setRow bj NR.out.1 _⟩
theorem I4(t:Nat)(m4:Nat)(KA:Hid (dx 115 #[.agg (aa t),.agg (aa 1)] (.tuple #[.agg (aa m4),.bool false])))(HW:Hid (Nm.ak-1=Nm.work t))(hq:∀w,(binOp .eql 26 (.agg (aa t)) (.agg #[aH 0,aH 0,aH 0,aH 0])).run Tryz.prog w=.ok (.bool true) w)(w:World):aU 110 #[.agg (aa t)] w fun e w'=>∃z,(z<Nm.ak/\z=Nm.work t)/\e=.returned (.agg (aa z))/\Bl w w':=by
 have KM:=h_ vv;go_enter Tryz.func110,Tryz.ntmps110;go_upto_region 1 with fail
 generalize hw0:World.alloc _ _=v0;have bj:Bl w v0:=by rw[<-hw0];exact cu.alloc (by simp) _
 have h1:Has v0 w.heap.size (aa t) 26:=by rw[<-hw0];exact(Has.new _ _).alloc _
 have hR:Has v0 (w.heap.size+1) (aa 0) 26:=by rw[<-hw0];exact Has.Vt _ (aa 0) _
 clear hw0;obtain⟨Xu,Y1⟩:∃x,x=w.heap.size:=⟨_,rfl⟩;obtain⟨Wk,Yb⟩:∃x,x=w.heap.size+1:=⟨_,rfl⟩;rw[<-Yb]at hR|-;rw[<-Y1]at h1|-;have NR:Hid (w.heap.size<=Wk/\Xu<Wk):=h_ (by omega);clear Y1 Yb;have q1:=hR.lt;go_upto_region 2 with(with_reducible first|refine a_ rfl _ rfl _ rfl _ (by assumption) rfl ?_|refine qY rfl _ _ rfl _ 1 _ rfl rfl u' _ (Has.Vp _) rfl ?_)
 generalize hw1:World.setRow _ _ _=v1;have hb1:Bl v0 v1:=dZ hw1;have h3:Has v1 v0.heap.size (aa 1) 26:=by rw[<-hw1];exact(Has.Vp _).row _
 replace h1:=h1.on hb1;replace hR:=hR.on hb1;replace bj:=ai bj hb1;clear hw1 hb1;obtain⟨Wn,Wg⟩:∃x,x=v0.heap.size:=⟨_,rfl⟩;rw[<-Wg]at h3 q1|-;clear Wg;have Yc:=h_ q1;clear q1;go_wp2_with (first|fail|(with_reducible refine a_ rfl _ rfl _ rfl _ (by assumption) rfl ?_))
 refine az (KA.out _) fun v2 hb2=>?_;replace h1:=h1.on hb2;replace hR:=hR.on hb2;replace h3:=h3.on hb2;replace bj:=ai bj hb2;clear hb2;have q3:=h3.lt;go_upto_region 3 with(with_reducible first|refine a_ rfl _ rfl _ rfl _ (by assumption) rfl ?_|refine cB rfl _ _ rfl _ _ rfl rfl _ (Has.Vp _) rfl ?_)
 generalize hw3:World.setRow _ _ _=v3;have hb3:Bl v2 v3:=dZ hw3;have h4:Has v3 v2.heap.size (aa m4) 26:=by rw[<-hw3];exact(Has.Vp _).row _
 replace h1:=h1.on hb3;replace hR:=hR.on hb3;replace h3:=h3.on hb3;replace bj:=ai bj hb3;clear hw3 hb3;obtain⟨WB,WU⟩:∃x,x=v2.heap.size:=⟨_,rfl⟩;rw[<-WU]at h4 q3|-;clear WU;have YC:=h_ q3;clear q3;go_wp2_with (first|fail|(with_reducible refine a_ rfl _ rfl _ rfl _ (by assumption) rfl ?_))
 refine az (KM.out _) fun v4 hb4=>?_;replace h1:=h1.on hb4;replace hR:=hR.on hb4;replace h3:=h3.on hb4;replace h4:=h4.on hb4;replace bj:=ai bj hb4;clear hb4;go_wp2_with (with_reducible first|refine a_ rfl _ rfl _ rfl _ (by assumption) rfl ?_|refine cB rfl _ _ rfl _ _ rfl rfl _ hR rfl ?_)
 exact ay (v:=.agg (aa (Nm.ak-1))) (jm Tryz.results110 _ _ _ rfl (hR.row _)) rfl ⟨_,⟨(by have:=ni;omega),HW.out⟩,rfl,below_setRow bj NR.out.1 _⟩
theorem Me(t:Nat)(ht:t<Nm.ak)(m4:Nat)(KA:Hid (dx 115 #[.agg (aa t),.agg (aa 1)] (.tuple #[.agg (aa m4),.bool false])))(YR:m4<Nm.ak)(HE4:Hid (m4=t+1/\0<t))(hq:∀w,(binOp .eql 26 (.agg (aa t)) (.agg #[.int .u64 0,.int .u64 0,.int .u64 0,.int .u64 0])).run Tryz.prog w=.ok (.bool false) w)(w:World):aU 110 #[.agg (aa t)] w fun e w'=>∃z,(z<Nm.ak/\z=Nm.work t)/\e=.returned (.agg (aa z))/\Below w.heap.size w w':=by
 have KM:=h_ vv;go_enter Tryz.func110,Tryz.ntmps110;go_upto_region 1 with fail
 generalize hw0:World.alloc _ _=v0;have bj:Below w.heap.size w v0:=by rw[<-hw0];exact cu.alloc (by simp) _
 have h1:Has v0 w.heap.size (aa t) 26:=by rw[<-hw0];exact(Has.new _ _).alloc _
 have hR:Has v0 (w.heap.size+1) (aa 0) 26:=by rw[<-hw0];exact Has.Vt _ (aa 0) _
 clear hw0;obtain⟨Xu,Y1⟩:∃x,x=w.heap.size:=⟨_,rfl⟩;obtain⟨Wk,Yb⟩:∃x,x=w.heap.size+1:=⟨_,rfl⟩;rw[<-Yb]at hR|-;rw[<-Y1]at h1|-;have NR:Hid (w.heap.size<=Wk/\Xu<Wk):=h_ (by omega);clear Y1 Yb;have q1:=hR.lt;go_upto_region 2 with(with_reducible first|refine a_ rfl _ rfl _ rfl _ (by assumption) rfl ?_|refine qY rfl _ _ rfl _ 1 _ rfl rfl u' _ (Has.Vp _) rfl ?_)
 generalize hw1:World.setRow _ _ _=v1;have hb1:Below v0.heap.size v0 v1:=dZ hw1;have h3:Has v1 v0.heap.size (aa 1) 26:=by rw[<-hw1];exact(Has.Vp _).row _
 replace h1:=h1.on hb1;replace hR:=hR.on hb1;replace bj:=ai bj hb1;clear hw1 hb1;obtain⟨Wn,Wg⟩:∃x,x=v0.heap.size:=⟨_,rfl⟩;rw[<-Wg]at h3 q1|-;clear Wg;have Yc:=h_ q1;clear q1;go_wp2_with (first|fail|(with_reducible refine a_ rfl _ rfl _ rfl _ (by assumption) rfl ?_))
 refine az (KA.out _) fun v2 hb2=>?_;replace h1:=h1.on hb2;replace hR:=hR.on hb2;replace h3:=h3.on hb2;replace bj:=ai bj hb2;clear hb2;have q3:=h3.lt;go_upto_region 3 with(with_reducible first|refine a_ rfl _ rfl _ rfl _ (by assumption) rfl ?_|refine cB rfl _ _ rfl _ _ rfl rfl _ (Has.Vp _) rfl ?_)
 generalize hw3:World.setRow _ _ _=v3;have hb3:Below v2.heap.size v2 v3:=dZ hw3;have h4:Has v3 v2.heap.size (aa m4) 26:=by rw[<-hw3];exact(Has.Vp _).row _
 replace h1:=h1.on hb3;replace hR:=hR.on hb3;replace h3:=h3.on hb3;replace bj:=ai bj hb3;clear hw3 hb3;obtain⟨WB,WU⟩:∃x,x=v2.heap.size:=⟨_,rfl⟩;rw[<-WU]at h4 q3|-;clear WU;have YC:=h_ q3;clear q3;have q4:=h4.lt;go_upto_region 8 with(with_reducible first|refine a_ rfl _ rfl _ rfl _ (by assumption) rfl ?_|refine qY rfl _ _ rfl _ 0 _ rfl rfl jt _ (Has.Vp _) rfl ?_)
 generalize hw4:World.setRow _ _ _=v4;have hb4:Below v3.heap.size v3 v4:=dZ hw4;have h6:Has v4 v3.heap.size (aa 0) 26:=by rw[<-hw4];exact(Has.Vp _).row _
 replace h1:=h1.on hb4;replace hR:=hR.on hb4;replace h3:=h3.on hb4;replace h4:=h4.on hb4;replace bj:=ai bj hb4;clear hw4 hb4;obtain⟨WC,ac9⟩:∃x,x=v3.heap.size:=⟨_,rfl⟩;rw[<-ac9]at h6 q4|-;clear ac9;have ad1:=h_ q4;clear q4;go_wp2_with (first|fail|(with_reducible refine a_ rfl _ rfl _ rfl _ (by assumption) rfl ?_))
 refine az (KM.out _) fun v5 hb5=>?_;replace h1:=h1.on hb5;replace hR:=hR.on hb5;replace h3:=h3.on hb5;replace h4:=h4.on hb5;replace h6:=h6.on hb5;replace bj:=ai bj hb5;clear hb5;have q6:=h6.lt;go_upto_region 9 with(with_reducible first|refine a_ rfl _ rfl _ rfl _ (by assumption) rfl ?_|refine cB rfl _ _ rfl _ _ rfl rfl _ (Has.Vp _) rfl ?_)
 generalize ZR:World.setRow _ _ _=v6;have hb6:Below v5.heap.size v5 v6:=dZ ZR;have h7:Has v6 v5.heap.size (aa (Nm.ak-1)) 26:=by rw[<-ZR];exact(Has.Vp _).row _
 replace h1:=h1.on hb6;replace hR:=hR.on hb6;replace h3:=h3.on hb6;replace h4:=h4.on hb6;replace h6:=h6.on hb6;replace bj:=ai bj hb6;clear ZR hb6;obtain⟨V1,Yd⟩:∃x,x=v5.heap.size:=⟨_,rfl⟩;rw[<-Yd]at h7 q6|-;clear Yd;have ad5:=h_ q6;clear q6;have ND:Hid (Xu<Wk/\Wk<Wn/\Wn<WB/\WB<WC/\WC<V1/\w.heap.size<=Wk):=h_ ⟨NR.out.2,Yc.out,YC.out,ad1.out,ad5.out,NR.out.1⟩;have hs:U4 w v6 Xu Wk Wn WB WC V1 t m4 0 (Nm.ak-1):=⟨bj,h1,hR,h3,h4,h6,h7⟩;have HM4:=h_ YR;have HTT:=h_ ht;clear bj h1 hR h3 h4 h6 h7 Yc YC ad1 ad5 NR hq KA YR ht;go_wp2_with fail
 go_loopw [8] (fun i wr=>∃(k:Nat)(z:Int)(o r:Nat),k<=256/\i=.int .i64 z/\Hid (z=255-(k:Int)/\o<Nm.ak/\r<Nm.ak/\Nm.LD t k o r)/\U4 w wr Xu Wk Wn WB WC V1 t m4 o r) (fun i _=>((intOf i)+1).toNat)
 case atStart=>exact⟨0,255,0,Nm.ak-1,by omega,rfl,h_ ⟨by omega,ni,by have:=ni;omega,Nm.LD.start t⟩,hs⟩
 case round=>
  clear hs;obtain⟨k,z,o,r,hk,rfl,HZ,hs⟩:=hrel;obtain⟨bj,h1,hR,h3,h4,h6,h7⟩:=hs;by_cases hlt:k<256
  ·have hz0:¬z<0:=by have:=HZ.out.1;omega
   have hz1:0<=z:=by omega
   have hz2:z<=255:=by have:=HZ.out.1;omega
   obtain⟨d,ed,hd,KD0⟩:=FC m4 HM4.out z (by omega) (by omega);obtain⟨nz,hnz⟩:∃nz,nz = -z:=⟨_,rfl⟩;obtain⟨m2,em2,hm2,ad6⟩:=FC d hd nz (by omega) (by omega);obtain⟨s,c,es,hsb,KS0⟩:=xg d 1 hd lr;obtain⟨r2,c2,er2,hr2,ad7⟩:=xg r d HZ.out.2.2.1 hd;obtain⟨m3,em3,hm3,ad8⟩:=FC 1 lr z (by omega) (by omega);obtain⟨o2,c3,eo2,ho2,Ye⟩:=vk o m3 HZ.out.2.1 hm3
   have HX:Hid (((!decide (m2=m4))=true->Nm.LD t (k+1) o r)/\((!decide (m2=m4))=false->decide (r<s)=true->Nm.LD t (k+1) o r)/\((!decide (m2=m4))=false->decide (r<s)=false->decide (r2=Nm.ak-1)=false->Nm.LD t (k+1) o2 r2)/\((!decide (m2=m4))=false->decide (r<s)=false->decide (r2=Nm.ak-1)=true->o2=Nm.work t)):=h_ (by
    have e4:=HE4.out.1;have hm:=HM4.out;subst e4;rw[hnz]at em2;exact Nm.LD.step HE4.out.2 hm hlt HZ.out.1 HZ.out.2.2.1 HZ.out.2.2.2 ed em2 es er2 em3 eo2)
   clear ed em2 es er2 em3 eo2;have KD:=h_ KD0;have KM2:=h_ ad6;have KS:=h_ KS0;have KS2:=h_ ad7;have KM3:=h_ ad8;have XI:=h_ Ye;have KL:=h_ fun w=>sf r s HZ.out.2.2.1 hsb w
   have hq2:=fun w=>Am hm2 HM4.out w
   have hq3:=fun w=>wZ hr2 (show Nm.ak-1<Nm.ak by have:=ni;omega) w
   have am0:IntKind.i64.wrap (-z)=nz:=by rw[IntKind.wrap_i64];omega
   obtain⟨z1,hz3⟩:∃z1,z1=z-1:=⟨_,rfl⟩;have am1:IntKind.i64.wrap (z-1)=z1:=by rw[IntKind.wrap_i64];omega
   have HZ1:Hid (z1=255-((k+1:Nat):Int)):=h_ (by have:=HZ.out.1;omega);have XG:=h_ ho2;have HR2:=h_ hr2;have HME:Hid (((intOf (.int .i64 z1))+1).toNat<((intOf (.int .i64 z))+1).toNat):=h_ (by simp[intOf];omega);generalize hg2:(!decide (m2=m4))=g2 at*;generalize hg3:decide (r<s)=g3 at*;generalize hg4:decide (r2=Nm.ak-1)=g4 at*;clear KD0 ad6 KS0 ad7 ad8 Ye hnz hz3 hz2 hd hm2 hsb hr2 hm3 ho2 hg2 hg3 hg4;go_wp2_with (first|fail|(with_reducible refine a_ rfl _ rfl _ rfl _ (by assumption) rfl ?_))
   refine az (KD.out _) fun v21 WV=>?_;replace h1:=h1.on WV;replace hR:=hR.on WV;replace h3:=h3.on WV;replace h4:=h4.on WV;replace h6:=h6.on WV;replace h7:=h7.on WV;replace bj:=ai bj WV;clear WV;have q22:=h7.lt;go_upto_region 13 with(with_reducible first|refine a_ rfl _ rfl _ rfl _ (by assumption) rfl ?_|refine cB rfl _ _ rfl _ _ rfl rfl _ (Has.Vp _) rfl ?_)
   generalize Zz:World.setRow _ _ _=v22;have WW:Below v21.heap.size v21 v22:=dZ Zz;have h9:Has v22 v21.heap.size (aa d) 26:=by rw[<-Zz];exact(Has.Vp _).row _
   replace h1:=h1.on WW;replace hR:=hR.on WW;replace h3:=h3.on WW;replace h4:=h4.on WW;replace h6:=h6.on WW;replace h7:=h7.on WW;replace bj:=ai bj WW;clear Zz WW;obtain⟨am2,ad9⟩:∃x,x=v21.heap.size:=⟨_,rfl⟩;rw[<-ad9]at h9 q22|-;clear ad9;have ae0:=h_ q22;clear q22;simp only[Act.put];refine wp_region_quiet_below (by kernel_rfl) (by kernel_rfl) ?_
   repeat(first
    | (go_big_quiet_want;(with_reducible first|refine s_ _ rfl _ rfl _ h9.cls ?_|refine s_ _ rfl _ rfl _ h4.cls ?_|refine O5 26 _ .neq Lj _ _ rfl _ _ _ rfl rfl hq2 ?_);(simp only[Act.put,da,aZ,bg]);go_big_quiet_on)
    | go_big_quiet_step ((go_at_call 145;exact Calls.regrown_of (KM2.out _))))
   refine wpQuiet_nil ?_;intro v30 hw';obtain⟨rg,hw''⟩:=hw';have WD:Below v22.heap.size v22 v30:=by rw[hw''];exact below_regrown v22 rg.d rg.os
   clear hw'';replace h1:=h1.on WD;replace hR:=hR.on WD;replace h3:=h3.on WD;replace h4:=h4.on WD;replace h6:=h6.on WD;replace h7:=h7.on WD;replace h9:=h9.on WD;replace bj:=ai bj WD;clear WD hq2;cases g2
   case true=>
    (go_wp2_with fail);go_roundw
    case rel=>exact⟨k+1,z1,o,r,by omega,rfl,h_ ⟨HZ1.out,HZ.out.2.1,HZ.out.2.2.1,HX.out.1 (by simp)⟩,⟨bj,h1,hR,h3,h4,h6,h7⟩⟩
    case measure=>exact HME.out
   case false=>
    (go_wp2_with (first|fail|(with_reducible refine a_ rfl _ rfl _ rfl _ (by assumption) rfl ?_)));refine az (KS.out _) fun v31 WE=>?_;replace h1:=h1.on WE;replace hR:=hR.on WE;replace h3:=h3.on WE;replace h4:=h4.on WE;replace h6:=h6.on WE;replace h7:=h7.on WE;replace h9:=h9.on WE;replace bj:=ai bj WE;clear WE;have q32:=h9.lt;(go_upto_region 15 with(with_reducible first|refine a_ rfl _ rfl _ rfl _ (by assumption) rfl ?_|refine cB rfl _ _ rfl _ _ rfl rfl _ (Has.Vp _) rfl ?_));generalize hw32:World.setRow _ _ _=v32;have WG:Below v31.heap.size v31 v32:=dZ hw32;have h10:Has v32 v31.heap.size (aa s) 26:=(by rw[<-hw32];exact(Has.Vp _).row _);replace h1:=h1.on WG;replace hR:=hR.on WG;replace h3:=h3.on WG;replace h4:=h4.on WG;replace h6:=h6.on WG;replace h7:=h7.on WG;replace h9:=h9.on WG;replace bj:=ai bj WG;clear hw32 WG;obtain⟨ak8,Y2⟩:∃x,x=v31.heap.size:=⟨_,rfl⟩;rw[<-Y2]at h10 q32|-;clear Y2;have Y3:=h_ q32;clear q32;(go_wp2_with (first|fail|(with_reducible refine a_ rfl _ rfl _ rfl _ (by assumption) rfl ?_)));refine az (KL.out _) fun v33 Wo=>?_;replace h1:=h1.on Wo;replace hR:=hR.on Wo;replace h3:=h3.on Wo;replace h4:=h4.on Wo;replace h6:=h6.on Wo;replace h7:=h7.on Wo;replace h9:=h9.on Wo;replace h10:=h10.on Wo;replace bj:=ai bj Wo;clear Wo;cases g3
    case true=>
     (go_wp2_with fail);go_roundw
     case rel=>exact⟨k+1,z1,o,r,by omega,rfl,h_ ⟨HZ1.out,HZ.out.2.1,HZ.out.2.2.1,HX.out.2.1 (by simp) (by simp)⟩,⟨bj,h1,hR,h3,h4,h6,h7⟩⟩
     case measure=>exact HME.out
    case false=>
     (go_wp2_with (first|fail|(with_reducible refine a_ rfl _ rfl _ rfl _ (by assumption) rfl ?_)));refine az (KS2.out _) fun v41 Wp=>?_;replace h1:=h1.on Wp;replace hR:=hR.on Wp;replace h3:=h3.on Wp;replace h4:=h4.on Wp;replace h6:=h6.on Wp;replace h7:=h7.on Wp;replace h9:=h9.on Wp;replace h10:=h10.on Wp;replace bj:=ai bj Wp;clear Wp;obtain⟨n1,n2,n3,n4,n5,n6⟩:=ND.out;have u9:=ae0.out;have u10:=Y3.out;have h7':=h7;(go_upto_region 17 with(with_reducible first|refine a_ rfl _ rfl _ rfl _ (by assumption) rfl ?_|refine cB rfl _ _ rfl _ _ rfl rfl _ h7' rfl ?_));have We:Below w.heap.size w (v41.setRow V1 (aa r2)):=below_setRow bj (by omega) _;replace h1:=h1.Vo V1 (aa r2) (by omega);replace hR:=hR.Vo V1 (aa r2) (by omega);replace h3:=h3.Vo V1 (aa r2) (by omega);replace h4:=h4.Vo V1 (aa r2) (by omega);replace h6:=h6.Vo V1 (aa r2) (by omega);replace h7:=h7'.row (aa r2);clear h9 h10 h7' bj;have bj:=We;clear We ae0 Y3 u9 u10;generalize World.setRow _ _ _=v50 at*;have hP:Cd w v50 Xu Wk Wn WB V1 t m4 r2:=⟨bj,h1,hR,h3,h4,h7⟩;simp only[Act.put];clear bj h1 hR h3 h4 h7 KS2 KL KS KD KM2;refine lG (by kernel_rfl) (fun w'=>Cd w w' Xu Wk Wn WB V1 t m4 r2) (fun i v' _=>Vm (fun _=>.agg (aa o)) (fun _=>.int .i64 z) (fun _=>.agg (aa m3)) (fun _=>.agg (aa o2)) c3 i v') (fun l _ w'=>Ph 8 (fun w'=>Has w' WC (aa o) 26) (fun w'=>Has w' WC (aa o2) 26) l w') (fun _ _=>True) (fun _ _=>trivial) (fun _ _ _ _ _ _ h=>h) (by kernel_rfl) (hP.on cg.drew) ?_ ?_ ?_;exact fun l hl=>Ph.zero hl (h6.on cg.drew)
     ·intro i o lz a wx ho' hnl dq Z;have hC:=Z.c;have hI:=Z.i;have hi:i<9:=(dA.1 ho').1;obtain rfl|rfl|rfl|rfl|rfl|rfl|rfl|rfl|rfl:i=0\/i=1\/i=2\/i=3\/i=4\/i=5\/i=6\/i=7\/i=8:=(by omega);all_goals obtain rfl:=Option.some.inj ho'
      have hsz:=aC Z 0;have Vu:=fB Z hnl 8;have hpre:=hI.pre Vu hsz (by decide);exact br 0 Z (aq rfl) (kh rfl (Z.old' 6) hpre) rfl (hI.keep hsz);exact br 1 Z (aq rfl) (kh rfl (Z.old' 3) hC.a3) rfl (hI.keep (aC Z 1));exact br 2 Z (aq rfl) (NN.fs rfl) (Z.old' 8) (hI.keep (aC Z 2))
      ·have hsz:=aC Z 3;have Vu:=fB Z hnl 8;have hpre:=hI.pre Vu hsz (by decide);exact qF (S:=rQ) 3 Z (aq rfl) (f:=145) (args:=#[a.eval (.tmp 58),a.eval (.tmp 59)]) (by kernel_rfl) (by rw[show a.eval (.tmp 58)=_ from(aw Z dq 1 58)];rw[show a.eval (.tmp 59)=_ from(aw Z dq 2 59)];  exact KM3.out wx) (fun w' hb=>⟨hC.on hb,trivial,rfl,Ph.made Vu (hpre.on hb)⟩)
      ·have hsz:=aC Z 4;have Vu:=fB Z hnl 8;have hpre:=hI.pre Vu hsz (by decide);exact qF (S:=rQ) 4 Z (aq rfl) (f:=115) (args:=#[a.eval (.tmp 57),a.eval (.tmp 60)]) (by kernel_rfl) (by rw[show a.eval (.tmp 57)=_ from(aw Z dq 0 57)];rw[show a.eval (.tmp 60)=_ from(aw Z dq 3 60)];  exact XI.out wx) (fun w' hb=>⟨hC.on hb,trivial,rfl,Ph.made Vu (hpre.on hb)⟩)
      exact br 5 Z (aq rfl) (NN.fs rfl) (aw Z dq 4 61) (hI.keep (aC Z 5));exact br 6 Z (aq rfl) (iy rfl (aw Z dq 5 56) rfl) rfl (hI.keep (aC Z 6));exact br 7 Z (aq rfl) (iy rfl (aw Z dq 5 56) rfl) rfl (hI.keep (aC Z 7));have hsz:=aC Z 8;have hR0:=hI.1 hnl;exact uD 8 Z (aq rfl) (nk rfl (Z.old' 6) (aw Z dq 6 62) hR0 rfl) (hC.row _ _ (by omega) (by omega) (by omega) (by omega) (by omega) (by omega)) rfl (Ph.last hsz (hR0.row _))
     intro lz a' v51 hall Z;obtain⟨bj,h1,hR,h3,h4,h7⟩:=Z.c;have h6:=Z.i.2 (hall 8 (by decide));have e1:a'.eval (.tmp 1)=.pointer (some ⟨Xu,0,none⟩):=Z.old' 1;have e2:a'.eval (.tmp 2)=.pointer (some ⟨Wk,0,none⟩):=Z.old' 2;have e3:a'.eval (.tmp 3)=.pointer (some ⟨Wn,0,none⟩):=Z.old' 3;have e4:a'.eval (.tmp 4)=.pointer (some ⟨WB,0,none⟩):=Z.old' 4;have e6:a'.eval (.tmp 6)=.pointer (some ⟨WC,0,none⟩):=Z.old' 6;have e7:a'.eval (.tmp 7)=.pointer (some ⟨V1,0,none⟩):=Z.old' 7;have e8:a'.eval (.tmp 8)=.int .i64 z:=Z.old' 8;have e0:a'.eval (.tmp 0)=.agg (aa t):=Z.old' 0;have e5:a'.eval (.tmp 5)=.bool false:=Z.old' 5;have e12:a'.eval (.tmp 12)=.agg #[.int .u64 1,.int .u64 0,.int .u64 0,.int .u64 0]:=Z.old' 12;have e13:a'.eval (.tmp 13)=.tuple #[.agg (aa m4),.bool false]:=Z.old' 13;have e14:a'.eval (.tmp 14)=.agg (aa t):=Z.old' 14;have e15:a'.eval (.tmp 15)=.agg (aa 1):=Z.old' 15;have e16:a'.eval (.tmp 16)=.tuple #[.agg (aa m4),.bool false]:=Z.old' 16;have e17:a'.eval (.tmp 17)=.agg (aa m4):=Z.old' 17;have e18:a'.eval (.tmp 18)=.bool false:=Z.old' 18;have e19:a'.eval (.tmp 19)=.bool false:=Z.old' 19;have e20:a'.eval (.tmp 20)=undef:=Z.old' 20;have e21:a'.eval (.tmp 21)=.agg (aa t):=Z.old' 21;have e22:a'.eval (.tmp 22)=.agg #[.int .u64 0,.int .u64 0,.int .u64 0,.int .u64 0]:=Z.old' 22;have e23:a'.eval (.tmp 23)=.bool false:=Z.old' 23;have e24:a'.eval (.tmp 24)=undef:=Z.old' 24;have e25:a'.eval (.tmp 25)=.agg #[.int .u64 0,.int .u64 0,.int .u64 0,.int .u64 0]:=Z.old' 25;have e26:a'.eval (.tmp 26)=.agg (aa (Nm.ak-1)):=Z.old' 26;have Zp:a'.eval (.tmp 68)=undef:=Z.old' 68;have e69:a'.eval (.tmp 69)=undef:=Z.old' 69;have e70:a'.eval (.tmp 70)=undef:=Z.old' 70;have e71:a'.eval (.tmp 71)=undef:=Z.old' 71;have e72:a'.eval (.tmp 72)=undef:=Z.old' 72;have e73:a'.eval (.tmp 73)=undef:=Z.old' 73;have e74:a'.eval (.tmp 74)=undef:=Z.old' 74;have e75:a'.eval (.tmp 75)=undef:=Z.old' 75;have e76:a'.eval (.tmp 76)=undef:=Z.old' 76;have e77:a'.eval (.tmp 77)=undef:=Z.old' 77;have e78:a'.eval (.tmp 78)=undef:=Z.old' 78;clear hP;obtain⟨u,hu⟩:∃u:Nat->Value,∀t,u t=a'.eval (.tmp t):=⟨_,fun _=>rfl⟩;rw[iz a' 79 u Z.Vr Z.defers hu];rw[<-hu]at e1 e2 e3 e4 e6 e7 e8 e0 e5 e12 e13 e14 e15 e16 e17 e18 e19 e20 e21 e22 e23 e24 e25 e26 Zp e69 e70 e71 e72 e73 e74 e75 e76 e77 e78;clear hu Z hall;simp only[List.range,List.range.loop,bZ,cx];rw[e1,e2,e3,e4,e6,e7,e8,e0,e5,e12,e13,e14,e15,e16,e17,e18,e19,e20,e21,e22,e23,e24,e25,e26,Zp,e69,e70,e71,e72,e73,e74,e75,e76,e77,e78];clear e1 e2 e3 e4 e6 e7 e8 e0 e5 e12 e13 e14 e15 e16 e17 e18 e19 e20 e21 e22 e23 e24 e25 e26 Zp e69 e70 e71 e72 e73 e74 e75 e76 e77 e78;clear n1 n2 n3 n4 n5 n6;(go_upto_region 18 with fail);refine wp_region_quiet_below (by kernel_rfl) (by kernel_rfl) ?_
     repeat(first
      | (go_big_quiet_want;(with_reducible first|refine s_ _ rfl _ rfl _ h7.cls ?_|refine O5 26 _ .eql Lj _ _ rfl _ _ _ rfl rfl hq3 ?_);(simp only[Act.put,da,aZ,bg]);go_big_quiet_on)
      | go_big_quiet_step ((go_at_call 116;exact Calls.regrown_of (KM.out _))))
     refine wpQuiet_nil ?_;intro v52 hw';obtain⟨rg,hw''⟩:=hw';have WX:Below v51.heap.size v51 v52:=(by rw[hw''];exact below_regrown v51 rg.d rg.os);clear hw'';replace h1:=h1.on WX;replace hR:=hR.on WX;replace h3:=h3.on WX;replace h4:=h4.on WX;replace h6:=h6.on WX;replace h7:=h7.on WX;replace bj:=ai bj WX;clear WX hq3;cases g4
     case false=>
      (go_wp2_with fail);go_roundw
      case rel=>(repeat(apply Exists.intro (α:=Value)));exact⟨k+1,z1,o2,r2,by omega,rfl,h_ ⟨HZ1.out,XG.out,HR2.out,HX.out.2.2.1 (by simp) (by simp) (by simp)⟩,⟨bj,h1,hR,h3,h4,h6,h7⟩⟩
      case measure=>exact HME.out
     case true=>
      have NR:Hid (w.heap.size<=Wk/\Xu<Wk):=h_ ⟨ND.out.2.2.2.2.2,ND.out.1⟩;(go_wp2_with (with_reducible first|refine a_ rfl _ rfl _ rfl _ (by assumption) rfl ?_|refine cB rfl _ _ rfl _ _ rfl rfl _ hR rfl ?_));exact ay (v:=.agg (aa (o2))) (jm Tryz.results110 _ _ _ rfl (hR.row _)) rfl ⟨_,⟨XG.out,HX.out.2.2.2 (by simp) (by simp) (by simp)⟩,rfl,below_setRow bj NR.out.1 _⟩
  ·have hz0:z<0:=by have:=HZ.out.1;omega
   have NR:Hid (w.heap.size<=Wk/\Xu<Wk):=h_ ⟨ND.out.2.2.2.2.2,ND.out.1⟩;have KL:=h_ fun w=>sf r t HZ.out.2.2.1 HTT.out w
   obtain⟨o2,c3,eo2,ho2,Ye⟩:=vk o 1 HZ.out.2.1 lr;have hk6:k=256:=by omega
   have HY:Hid ((decide (r<t)=true->o=Nm.work t)/\(decide (r<t)=false->o2=Nm.work t)):=h_ (by
    have:=Nm.LD.last HE4.out.2 (hk6▸HZ.out.2.2.2);rwa[<-eo2]at this)
   clear eo2 hk6;have XI:=h_ Ye;have XG:=h_ ho2;generalize hg3:decide (r<t)=g3 at*;clear Ye ho2 hg3;go_wp2_with (first|fail|(with_reducible refine a_ rfl _ rfl _ rfl _ (by assumption) rfl ?_))
   refine az (KL.out _) fun v71 WY=>?_;replace h1:=h1.on WY;replace hR:=hR.on WY;replace h3:=h3.on WY;replace h4:=h4.on WY;replace h6:=h6.on WY;replace h7:=h7.on WY;replace bj:=ai bj WY;clear WY;cases g3
   case true=>
    (go_wp2_with (with_reducible first|refine a_ rfl _ rfl _ rfl _ (by assumption) rfl ?_|refine cB rfl _ _ rfl _ _ rfl rfl _ hR rfl ?_));exact ay (v:=.agg (aa (o))) (jm Tryz.results110 _ _ _ rfl (hR.row _)) rfl ⟨_,⟨HZ.out.2.1,HY.out.1 (by simp)⟩,rfl,below_setRow bj NR.out.1 _⟩
   case false=>
    (go_wp2_with (first|fail|(with_reducible refine a_ rfl _ rfl _ rfl _ (by assumption) rfl ?_)));refine az (XI.out _) fun v81 WZ=>?_;replace h1:=h1.on WZ;replace hR:=hR.on WZ;replace h3:=h3.on WZ;replace h4:=h4.on WZ;replace h6:=h6.on WZ;replace h7:=h7.on WZ;replace bj:=ai bj WZ;clear WZ;obtain⟨n1,n2,n3,n4,n5,n6⟩:=ND.out;have h6':=h6;(go_upto_region 22 with(with_reducible first|refine a_ rfl _ rfl _ rfl _ (by assumption) rfl ?_|refine cB rfl _ _ rfl _ _ rfl rfl _ h6' rfl ?_));have We:Below w.heap.size w (v81.setRow WC (aa o2)):=below_setRow bj (by omega) _;replace hR:=hR.Vo WC (aa o2) (by omega);replace h6:=h6'.row (aa o2);clear h6' bj h1 h3 h4 h7;have bj:=We;clear We;generalize World.setRow _ _ _=v90 at*;(go_wp2_with (with_reducible first|refine a_ rfl _ rfl _ rfl _ (by assumption) rfl ?_|refine cB rfl _ _ rfl _ _ rfl rfl _ hR rfl ?_));exact ay (v:=.agg (aa (o2))) (jm Tryz.results110 _ _ _ rfl (hR.row _)) rfl ⟨_,⟨XG.out,HY.out.2 (by simp)⟩,rfl,below_setRow bj NR.out.1 _⟩
def Bn(f:FuncId)(args:Array Value)(x:Nat):Prop:=∀w,aU f args w fun e w'=>∃z,(z<Nm.ak/\z=x)/\e=.returned (.agg (aa z))/\Bl w w'
theorem x9(t:Nat)(ht:t<Nm.ak):Bn 110 #[.agg (aa t)] (Nm.work t):=by intro w;cases h:decide (Nm.ak<=t+1);cases h0:decide (t=0);have h1:=fc h;have h2:=fc h0;exact Me t ht _ (h_ fun w=>As t 1 ht lr _ _ rfl h.symm w) (bq _ ni) (h_ ⟨bp (by omega),by omega⟩) (fun w=>Ax t ht _ h0 w) w;have h2:=dX h0;exact I4 t _ (h_ fun w=>As t 1 ht lr _ _ rfl h.symm w) (h_ (by rw[h2,Nm.JZ])) (fun w=>Ax t ht _ h0 w) w;have h1:=dX h;exact Qe t _ (h_ fun w=>As t 1 ht lr _ _ rfl h.symm w) (h_ (Nm.Oj (by omega)).symm) w
theorem MT(b:Int):∃z lo ov,ofBits b=(if(lo||ov||decide (z=0))=true then 0 else Nm.work z)/\z<Nm.ak/\dx 109 #[i_ b] (.tuple #[.agg (aa z),.bool lo,.bool ov]):=by by_cases h:0<=b/\b<=4294967295;obtain⟨n,rfl⟩:∃n:Nat,b=(n:Int):=⟨b.toNat,by omega⟩;exact⟨_,_,_,by unfold ofBits;rw[aj h,bU],Nm.Wa,fun w=>Qq n (by omega) w⟩;exact⟨0,false,false,by unfold ofBits;rw[ah h];rfl,ni,fun w=>Iy b h w⟩
theorem Pp(b:Int):Bn 76 #[i_ b] (ofBits b):=by
 intro w;obtain⟨z,lo,ov,he0,hz,KD0⟩:=MT b;have KD:=h_ KD0;have KO:=h_ (x9 z hz);obtain⟨g,hg⟩:∃g,decide (z=0)=g:=⟨_,rfl⟩;have hq:=fun w=>Ax z hz g hg w
 have HZ:=h_ hz;rw[hg]at he0;obtain⟨X,hX⟩:∃X,X=ofBits b:=⟨_,rfl⟩;rw[<-hX]at he0|-;have HE:=h_ he0;clear KD0 hz hg he0 hX;go_enter Tryz.func76,Tryz.ntmps76;go_upto_region 1 with fail
 generalize hw0:World.alloc _ _=v0;have bj:Bl w v0:=eT hw0;have hR:Has v0 w.heap.size (aa 0) 26:=by rw[<-hw0];exact Has.Vp _
 clear hw0;obtain⟨Wk,Yb⟩:∃x,x=w.heap.size:=⟨_,rfl⟩;have NR:Hid (w.heap.size<=Wk):=h_ (by omega);rw[<-Yb]at hR|-;clear Yb;go_wp2_with (first|fail|(with_reducible refine a_ rfl _ rfl _ rfl _ hR rfl ?_))
 refine az (KD.out _) fun v1 hb1=>?_;replace hR:=hR.on hb1;replace bj:=ai bj hb1;clear hb1;have q2:=hR.lt;go_upto_region 2 with(with_reducible first|refine a_ rfl _ rfl _ rfl _ hR rfl ?_|refine cB rfl _ _ rfl _ _ rfl rfl _ (Has.Vp _) rfl ?_)
 generalize hw2:World.setRow _ _ _=v2;have hb2:Bl v1 v2:=dZ hw2;have h3:Has v2 v1.heap.size (aa z) 26:=by rw[<-hw2];exact(Has.Vp _).row _
 replace hR:=hR.on hb2;replace bj:=ai bj hb2;clear hw2 hb2;obtain⟨Wn,Wg⟩:∃x,x=v1.heap.size:=⟨_,rfl⟩;rw[<-Wg]at h3 q2|-;clear Wg;have Yc:=h_ q2;clear q2;cases lo
 case true=>
  go_wp2_with (with_reducible first|refine a_ rfl _ rfl _ rfl _ (by assumption) rfl ?_|refine fM (by with_unfolding_all rfl) _ rfl _ rfl _ (by assumption) rfl ?_|refine qY rfl _ _ rfl _ 0 _ rfl rfl jt _ hR rfl ?_)
  exact ay (v:=.agg (aa 0)) (jm Tryz.results76 _ _ _ rfl (hR.row _)) rfl ⟨_,⟨ni,by have:=HE.out;simpa using this.symm⟩,rfl,below_setRow bj NR.out _⟩
 case false=>
  cases ov
  case true=>
   go_wp2_with (with_reducible first|refine a_ rfl _ rfl _ rfl _ (by assumption) rfl ?_|refine fM (by with_unfolding_all rfl) _ rfl _ rfl _ (by assumption) rfl ?_|refine qY rfl _ _ rfl _ 0 _ rfl rfl jt _ hR rfl ?_)
   exact ay (v:=.agg (aa 0)) (jm Tryz.results76 _ _ _ rfl (hR.row _)) rfl ⟨_,⟨ni,by have:=HE.out;simpa using this.symm⟩,rfl,below_setRow bj NR.out _⟩
  case false=>
   cases g
   case true=>
    (go_wp2_with (with_reducible first|refine a_ rfl _ rfl _ rfl _ (by assumption) rfl ?_|refine fM (by with_unfolding_all rfl) _ rfl _ rfl _ (by assumption) rfl ?_|refine qY rfl _ _ rfl _ 0 _ rfl rfl jt _ hR rfl ?_));exact ay (v:=.agg (aa 0)) (jm Tryz.results76 _ _ _ rfl (hR.row _)) rfl ⟨_,⟨ni,by have:=HE.out;simpa using this.symm⟩,rfl,below_setRow bj NR.out _⟩
   case false=>
    (go_wp2_with (with_reducible first|refine a_ rfl _ rfl _ rfl _ (by assumption) rfl ?_|refine fM (by with_unfolding_all rfl) _ rfl _ rfl _ (by assumption) rfl ?_));refine(KO.out _).mono ?_;rintro e v9 ⟨y,hy,rfl,VE⟩;have HY:=h_ hy;clear hy;replace hR:=hR.on VE;replace h3:=h3.on VE;replace bj:=ai bj VE;clear VE;(go_wp2_with (with_reducible first|refine a_ rfl _ rfl _ rfl _ (by assumption) rfl ?_|refine cB rfl _ _ rfl _ _ rfl rfl _ hR rfl ?_));exact ay (v:=.agg (aa y)) (jm Tryz.results76 _ _ _ rfl (hR.row _)) rfl ⟨_,⟨HY.out.1,by have:=HE.out;rw[HY.out.2];simpa using this.symm⟩,rfl,below_setRow bj NR.out _⟩
end NN
namespace An
open Mem Sc NN.VI
theorem kX.mine{k s:Nat}{Pre:World->Prop}{Post:Value->World->Prop}{l:Array Bool}{a:Act}{w':World}(u:Value)(hi:k<l.size)(hs:s<a.tmps.size)(hp:Post u w'):kX k s Pre Post (l.setIfInBounds k true) (a.put (some s) u) w':=⟨fun h=>(by rw[ko _ _ _ hi,aj rfl]at h;cases h),fun _=>by rw[oq a s u hs];exact hp⟩
theorem J0:∃i z,Tryz.prog.info? 26=some i/\i.zero=some z/\i.size=4/\i.bytes=32/\z.cells.size=4:=vU (by kernel_rfl) (by kernel_rfl) (by kernel_rfl)
theorem IV(cs:Array Value)(h:cs.size=4)(w:World):(Instr.buildSlice 70 1 #[(0,.agg cs)]).run Tryz.prog w=.ok (.slice (some ⟨w.heap.size,0,none⟩) 1 1) (w.alloc (.cells cs 26)):=by obtain⟨i,z,hi,hz,h1,h2,h3⟩:=J0;refine run_buildSlice w 70 26 1 _ cs i z Tryz.underlying70 hi hz (by rw[h1];decide) (by rw[h1];decide) ?_;rw[h1];exact zE 4 _ cs (by simp) h
section
variable{ρ:Operand->Value}{o:Oper}{w:World}
variable{x:Operand}
theorem DE{y:Operand}{a b m:Int}(ho:o.op=.call { callee:=.builtin .max,args:=#[x,y],argTypes:=#[3,3] })(hx:ρ x=i_ a)(hy:ρ y=i_ b)(hm:m=max a b):(execOp ρ o).run Tryz.prog w=.ok (.value (i_ m)) w:=by have hr:=NN.p7 (P:=Tryz.prog) a b m hm #[3,3] o.type w;unfold execOp;simp only[ho,resolve,invoke,builtin,aB,cr,aM,im,bZ,cx,hx,hy,hr]
theorem vm{T:TypeId}{cs:Array Value}(ho:o.op=.box T x)(hx:ρ x=.agg cs):(execOp ρ o).run Tryz.prog w=.ok (.value (.pointer (some ⟨w.heap.size,0,none⟩))) (w.alloc (.cells cs T)):=by unfold execOp;simp only[ho,hx];rfl
theorem TM{x0 x1 x2 x3 x4 x5:Operand}{p:NN.Pr}(ho:o.op=.build 72 #[(0,x0),(1,x1),(2,x2),(3,x3),(4,x4),(5,x5)])(hp:p.ok)(h0:ρ x0=.agg (NN.aV p)){a1 a2 a3 a4:Option Addr}{n1 n2 n3 n4 c1 c2 c3 c4 room:Nat}(h1:ρ x1=.slice a1 n1 c1)(h2:ρ x2=.slice a2 n2 c2)(h3:ρ x3=.slice a3 n3 c3)(h4:ρ x4=.slice a4 n4 c4)(h5:ρ x5=i_ room):(execOp ρ o).run Tryz.prog w=.ok (.value (.agg (lU p (.slice a1 n1 c1) (.slice a2 n2 c2) (.slice a3 n3 c3) (.slice a4 n4 c4) room))) w:=by unfold execOp;simp only[ho,aB];rw[show(#[(0,x0),(1,x1),(2,x2),(3,x3),(4,x4),(5,x5)]:Array (Nat×Operand)).map (fun(i,x)=>(i,ρ x))=#[(0,.agg (NN.aV p)),(1,.slice a1 n1 c1),(2,.slice a2 n2 c2),(3,.slice a3 n3 c3),(4,.slice a4 n4 c4),(5,Value.int .i64 (room:Int))] by simp[h0,h1,h2,h3,h4,h5],gw w 72 _ _ (J6 p hp a1 a2 a3 a4 n1 n2 n3 n4 c1 c2 c3 c4 room)];rfl
end
def ku(B:Nat)(cs:Array Value)(T:TypeId)(u:Value)(w:World):Prop:=∃g,u=.slice (bs g) 1 1/\B<=g/\Has w g cs T
variable{B R:Nat}{cs:Array Value}{u:Value}{w w':World}
theorem ku.on{T:TypeId}(h:ku B cs T u w)(hb:Bl w w'):ku B cs T u w':=by obtain⟨g,h1,h2,h3⟩:=h;exact⟨g,h1,h2,dz hb h3 h3.lt⟩
def wu(x:Nat)(u:Value):Prop:=∃z,(z<NN.Nm.ak/\z=x)/\u=.agg (NN.aa z)
def uf(B x:Nat)(u:Value)(w:World):Prop:=∃z,(z<NN.Nm.ak/\z=x)/\ku B (NN.aa z) 26 u w
theorem uf.on{x:Nat}(h:uf B x u w)(hb:Bl w w'):uf B x u w':=by obtain⟨z,h1,h2⟩:=h;exact⟨z,h1,h2.on hb⟩
def Qr(B:Nat)(p:NN.Pr)(h:Hd)(id:List UInt8)(R:Nat)(cs:Array Value)(w:World):Prop:=∃vH vI vA vW,cs=lU p vH vI vA vW R/\ku B (aS h) 30 vH w/\ku B (ae id) 28 vI w/\ku B #[i_ (-1)] 3 vA w/\uf B (NN.ofBits h.bits) vW w
variable{p:NN.Pr}{h:Hd}{id:List UInt8}
theorem Qr.on(hv:Qr B p h id R cs w)(hb:Bl w w'):Qr B p h id R cs w':=by obtain⟨vH,vI,vA,vW,h1,h2,h3,h4,h5⟩:=hv;exact⟨vH,vI,vA,vW,h1,h2.on hb,h3.on hb,h4.on hb,h5.on hb⟩
def zP(B:Nat)(p:NN.Pr)(h:Hd)(id:List UInt8)(R:Nat)(u:Value)(w:World):Prop:=∃g cs,u=af g/\B<=g/\Has w g cs 72/\Qr B p h id R cs w
theorem zP.on(hv:zP B p h id R u w)(hb:Bl w w'):zP B p h id R u w':=by obtain⟨g,cs,h1,h2,h3,h4⟩:=hv;exact⟨g,cs,h1,h2,dz hb h3 h3.lt,h4.on hb⟩
def Ry(B bP:Nat)(p:NN.Pr)(h:Hd)(id:List UInt8)(room m1:Int)(R:Nat):Nat->Value->World->Prop
 | 0,u,_=>u=.agg (NN.aV p)
 | 1,u,_=>u=.pointer (some ⟨bP,15,none⟩)
 | 2,u,_=>u=.agg (aS h)
 | 3,u,w=>ku B (aS h) 30 u w
 | 4,u,_=>u=.pointer (some ⟨bP,15,none⟩)
 | 5,u,_=>u=.agg (aS h)
 | 6,u,_=>u=.agg (ae id)
 | 7,u,w=>ku B (ae id) 28 u w
 | 8,u,w=>ku B #[i_ (-1)] 3 u w
 | 9,u,_=>u=.pointer (some ⟨bP,15,none⟩)
 | 10,u,_=>u=.pointer (some ⟨bP,81,none⟩)
 | 11,u,_=>u=i_ h.bits
 | 12,u,_=>wu (NN.ofBits h.bits) u
 | 13,u,w=>uf B (NN.ofBits h.bits) u w
 | 14,u,_=>u=i_ room
 | 15,u,_=>u=i_ m1
 | 16,u,_=>u=i_ R
 | 17,u,w=>∃cs,u=.agg cs/\Qr B p h id R cs w
 | 18,u,w=>zP B p h id R u w
 | 19,u,w=>zP B p h id R u w
 | _,_,_=>B=B
theorem NW{bP:Nat}{room m1:Int}:∀(i:Nat)(u:Value)(w w':World),Bl w w'->Ry B bP p h id room m1 R i u w->Ry B bP p h id room m1 R i u w'
 | 0,_,_,_,_,h|1,_,_,_,_,h|2,_,_,_,_,h|4,_,_,_,_,h|5,_,_,_,_,h|6,_,_,_,_,h|9,_,_,_,_,h|10,_,_,_,_,h|11,_,_,_,_,h|12,_,_,_,_,h|14,_,_,_,_,h|15,_,_,_,_,h|16,_,_,_,_,h=>h
 | 3,_,_,_,hb,h=>ku.on h hb
 | 7,_,_,_,hb,h=>ku.on h hb
 | 8,_,_,_,hb,h=>ku.on h hb
 | 13,_,_,_,hb,h=>uf.on h hb
 | 17,_,_,_,hb,⟨cs,h1,h2⟩=>⟨cs,h1,h2.on hb⟩
 | 18,_,_,_,hb,h=>zP.on h hb
 | 19,_,_,_,hb,h=>zP.on h hb
 | _+20,_,_,_,_,_=>rfl
theorem zL(p:NN.Pr)(hp:p.ok)(t:Tl)(tt:p.tl=t.C)(ht:t.ok)(h:Hd)(hg:t.g=h)(ho:h.ok)(id:List UInt8)(i32:id.length=32)(room:Int)(w:World)(KI:bG w 75 #[.agg (aS h)] (.agg (ae id))):aU 39 #[.agg (NN.aV p),.int .i64 room] w fun e w'=>∃u,e=.returned u/\zP w.heap.size p h id (fZ room) u w'/\Bl w w':=by
 have KO:=h_ (NN.Pp h.bits);have z2:=gQ ho;have zA:(aS h).size=68:=by rw[aS,iR,z2]
 have zI:(ae id).size=32:=by simp[ae,i32]
 obtain⟨m1,hm1⟩:∃m1,m1=max room 1:=⟨_,rfl⟩;obtain⟨R,hR⟩:∃R,R=fZ room:=⟨_,rfl⟩;have hR2:(R:Int)=min m1 512:=by rw[hR,hm1,H9]
 have HM:=h_ (dQ hm1 hR2);rw[<-hR];clear hR hm1 hR2;go_enter Tryz.func39,Tryz.ntmps39;go_upto_region 1 with fail
 generalize hw0:World.alloc _ _=v0;have hB:Bl w v0:=eT hw0;have hP:NN.aK v0 w.heap.size p:=by rw[<-hw0];exact NN.Has.new _ _
 clear hw0;obtain⟨bP,VF⟩:∃x,x=w.heap.size:=⟨_,rfl⟩;have ZT:=h_ VF;rw[<-VF]at hP|-;clear VF;refine lG (by kernel_rfl) (fun w'=>Bl w w'/\NN.aK w' bP p) (fun i v' w'=>Ry w.heap.size bP p h id room m1 R i v' w') (fun l a w'=>kX 19 4 (fun _=>True) (fun u w'=>zP w.heap.size p h id R u w') l a w') (fun w w'=>Bl w w') (fun _ _=>aA _ _) (fun i v w w' _ hs h=>NW i v w w' hs h) (by kernel_rfl) ⟨hB.trans (cg.drew.mono hB.size),Has.drew hP⟩ ?_ ?_ ?_;exact fun l hl=>kX.zero hl trivial
 ·intro i o lz a wx ho' hnl dq Z;have hC:=Z.c;have hI:=Z.i;have hi:i<20:=(dA.1 ho').1;have rP:wx.rangeAt bP 15 (cP h):=by rw[<-hg];exact n7 hC.2 tt ht
  have rB:=Ln ho rP;have rA:wx.rangeAt bP 0 (NN.f_ p):=j4 (A:=[]) (C:=[]) (t:=32) (by rw[dW];exact hC.2) rfl;obtain rfl|rfl|rfl|rfl|rfl|rfl|rfl|rfl|rfl|rfl|rfl|rfl|rfl|rfl|rfl|rfl|rfl|rfl|rfl|rfl:i=0\/i=1\/i=2\/i=3\/i=4\/i=5\/i=6\/i=7\/i=8\/i=9\/i=10\/i=11\/i=12\/i=13\/i=14\/i=15\/i=16\/i=17\/i=18\/i=19:=by omega
  all_goals obtain rfl:=Option.some.inj ho'
  exact fw (S:=fun w w'=>Bl w w') (fun _ _=>aA _ _) 0 Z (aq rfl) (Fv rfl (Z.old' 2) rA (nc hp)) rfl (hI.keep (aC Z 0));exact fw (S:=fun w w'=>Bl w w') (fun _ _=>aA _ _) 1 Z (aq rfl) (fg rfl (Z.old' 2) (kj wx bP)) rfl (hI.keep (aC Z 1));exact fw (S:=fun w w'=>Bl w w') (fun _ _=>aA _ _) 2 Z (aq rfl) (rM rfl (aw Z dq 1 6) rP z2) rfl (hI.keep (aC Z 2));have hsz:=aC Z 3;have Vu:=fB Z hnl 19;have hb:Bl wx (wx.alloc _):=cg.alloc (au _) (.cells (aS h) 30);exact Eo (S:=fun w w'=>Bl w w') 3 Z (aq rfl) (NN.VI.ny rfl (aw Z dq 2 7) (DI _ zA wx)) ⟨ai hC.1 hb,NN.aK.on hC.2 hb⟩ hb (⟨wx.heap.size,rfl,hC.1.size,Has.new _ _⟩) (kX.made Vu trivial);exact fw (S:=fun w w'=>Bl w w') (fun _ _=>aA _ _) 4 Z (aq rfl) (fg rfl (Z.old' 2) (kj wx bP)) rfl (hI.keep (aC Z 4));exact fw (S:=fun w w'=>Bl w w') (fun _ _=>aA _ _) 5 Z (aq rfl) (rM rfl (aw Z dq 4 9) rP z2) rfl (hI.keep (aC Z 5))
  ·have hsz:=aC Z 6;have Vu:=fB Z hnl 19;have hpre:=hI.pre Vu hsz (by decide);exact qF (S:=fun w w'=>Bl w w') 6 Z (aq rfl) (f:=75) (args:=#[a.eval (.tmp 10)]) (by kernel_rfl) (by rw[show a.eval (.tmp 10)=_ from(aw Z dq 5 10)];  exact KI.out wx hC.1) (fun w' hb=>⟨⟨ai hC.1 hb,NN.aK.on hC.2 hb⟩,hb,rfl,kX.made Vu (trivial)⟩)
  have hsz:=aC Z 7;have Vu:=fB Z hnl 19;have hb:Bl wx (wx.alloc _):=cg.alloc (au _) (.cells (ae id) 28);exact Eo (S:=fun w w'=>Bl w w') 7 Z (aq rfl) (NN.VI.ny rfl (aw Z dq 6 11) (NL _ zI wx)) ⟨ai hC.1 hb,NN.aK.on hC.2 hb⟩ hb (⟨wx.heap.size,rfl,hC.1.size,Has.new _ _⟩) (kX.made Vu trivial);have hsz:=aC Z 8;have Vu:=fB Z hnl 19;have hb:Bl wx (wx.alloc _):=cg.alloc (au _) (.cells #[.int .i64 (-1)] 3);exact Eo (S:=fun w w'=>Bl w w') 8 Z (aq rfl) (NN.VI.ny rfl rfl (sj wx (-1))) ⟨ai hC.1 hb,NN.aK.on hC.2 hb⟩ hb (⟨wx.heap.size,rfl,hC.1.size,Has.new _ _⟩) (kX.made Vu trivial);exact fw (S:=fun w w'=>Bl w w') (fun _ _=>aA _ _) 9 Z (aq rfl) (fg rfl (Z.old' 2) (kj wx bP)) rfl (hI.keep (aC Z 9));exact fw (S:=fun w w'=>Bl w w') (fun _ _=>aA _ _) 10 Z (aq rfl) (yo rfl (aw Z dq 9 14) (rD wx bP)) rfl (hI.keep (aC Z 10));exact fw (S:=fun w w'=>Bl w w') (fun _ _=>aA _ _) 11 Z (aq rfl) (NN.pg rfl (aw Z dq 10 15) rB) rfl (hI.keep (aC Z 11))
  ·have hsz:=aC Z 12;have Vu:=fB Z hnl 19;have e16:=(aw Z dq 11 16);refine CA (S:=fun w w'=>Bl w w') 12 Z (aq rfl) (f:=76) (args:=#[a.eval (.tmp 16)]) (by kernel_rfl) ?_;rw[e16];refine(KO.out wx).mono ?_;rintro e w' ⟨z,hz,rfl,hb⟩;exact⟨_,rfl,⟨ai hC.1 hb,NN.aK.on hC.2 hb⟩,hb,⟨z,hz,rfl⟩,kX.made Vu trivial⟩
  have hsz:=aC Z 13;have Vu:=fB Z hnl 19;obtain⟨z,hz,e17⟩:=(aw Z dq 12 17);have hb:Bl wx (wx.alloc _):=cg.alloc (au _) (.cells (NN.aa z) 26);exact Eo (S:=fun w w'=>Bl w w') 13 Z (aq rfl) (NN.VI.ny rfl e17 (IV _ (NN.jE z) wx)) ⟨ai hC.1 hb,NN.aK.on hC.2 hb⟩ hb (⟨z,hz,wx.heap.size,rfl,hC.1.size,Has.new _ _⟩) (kX.made Vu trivial);exact fw (S:=fun w w'=>Bl w w') (fun _ _=>aA _ _) 14 Z (aq rfl) (NN.fs rfl) (Z.old' 1) (hI.keep (aC Z 14));exact fw (S:=fun w w'=>Bl w w') (fun _ _=>aA _ _) 15 Z (aq rfl) (DE rfl (aw Z dq 14 19) rfl HM.out.1) rfl (hI.keep (aC Z 15));exact fw (S:=fun w w'=>Bl w w') (fun _ _=>aA _ _) 16 Z (aq rfl) (vX rfl (aw Z dq 15 20) rfl HM.out.2) rfl (hI.keep (aC Z 16));have hsz:=aC Z 17;obtain⟨g1,e8,k8,m8⟩:=(aw Z dq 3 8);obtain⟨g2,e12,k12,m12⟩:=(aw Z dq 7 12);obtain⟨g3,e13,k13,m13⟩:=(aw Z dq 8 13);obtain⟨z,hz,g4,e18,k18,m18⟩:=(aw Z dq 13 18);exact fw (S:=fun w w'=>Bl w w') (fun _ _=>aA _ _) 17 Z (aq rfl) (TM rfl hp (aw Z dq 0 5) e8 e12 e13 e18 (aw Z dq 16 21)) ⟨_,rfl,_,_,_,_,rfl,⟨g1,rfl,k8,m8⟩,⟨g2,rfl,k12,m12⟩,⟨g3,rfl,k13,m13⟩,z,hz,g4,rfl,k18,m18⟩ (hI.keep hsz);have hsz:=aC Z 18;have Vu:=fB Z hnl 19;obtain⟨cs,e22,hv⟩:=(aw Z dq 17 22);have hb:Bl wx (wx.alloc _):=cg.alloc (au _) (.cells cs 72);exact Eo (S:=fun w w'=>Bl w w') 18 Z (aq rfl) (vm rfl e22) ⟨ai hC.1 hb,NN.aK.on hC.2 hb⟩ hb (⟨wx.heap.size,cs,rfl,hC.1.size,Has.new _ _,hv.on hb⟩) (kX.made Vu trivial);exact fw (S:=fun w w'=>Bl w w') (fun _ _=>aA _ _) 19 Z (aq rfl) (NN.iX rfl) (aw Z dq 18 23) (kX.mine _ (aC Z 19) (by rw[Z.Vr];exact(show 4<24 by decide)) (aw Z dq 18 23))
 intro lz a' v1 hall Z;have hC:=Z.c;obtain⟨g,cs,e4,hg4,hh4,hv4⟩:=Z.i.2 (hall 19 (by decide));obtain⟨u,hu⟩:∃u:Nat->Value,∀t,u t=a'.eval (.tmp t):=⟨_,fun _=>rfl⟩;rw[iz a' 24 u Z.Vr Z.defers hu];rw[<-hu]at e4;clear hu Z hall;simp only[List.range,List.range.loop,bZ,cx];rw[e4];clear e4;go_wp2_with fail
 go_ret;exact⟨_,rfl,⟨g,cs,rfl,hg4,hh4,hv4⟩,hC.1⟩
open Ar (av Ru aN)
theorem ye(b:Nat)(h:Hd)(ho:h.ok)(now:Int)(w:World)(KG:bG w 118 #[.agg (aS h)] (.bool false)):ar 84 #[.pointer (some ⟨b,0,none⟩),.agg (aS h),.int .i64 now] w (.tuple #[.int .i64 (-1),.int .i64 1,.int .i64 8]):=by
 have za:=jI ho;go_enter Tryz.func84,Tryz.ntmps84;go_upto_region 1 with fail
 generalize hw0:World.alloc _ _=v0;have hB:Below w.heap.size w v0:=eT hw0;have hH:aX v0 w.heap.size h:=by rw[<-hw0];exact Has.new _ _
 clear hw0;obtain⟨bH,Vy⟩:∃x,x=w.heap.size:=⟨_,rfl⟩;rw[<-Vy]at hH|-;have Yf:Hid (bH=w.heap.size):=h_ Vy;clear Vy;go_wp2_with (first|fail|(with_reducible refine dU rfl _ rfl _ rfl hH za ?_))
 refine az (KG.out _ hB) fun v1 hb=>?_;replace hH:=hH.on hb;replace hB:=ai hB hb;clear hb;go_wp2_with fail
 go_ret3
 exact⟨rfl,hB⟩
theorem G2(b:Nat)(h:Hd)(ho:h.ok)(now:Int)(w:World)(KG:bG w 118 #[.agg (aS h)] (.bool true))(id:List UInt8)(i32:id.length=32)(KI:bG w 119 #[.agg (aS h)] (.agg (ae id)))(i:Nat)(KF:bG w 120 #[.pointer (some ⟨b,0,none⟩),.agg (ae id)] (.int .i64 (i:Int))):ar 84 #[.pointer (some ⟨b,0,none⟩),.agg (aS h),.int .i64 now] w (.tuple #[.int .i64 (i:Int),.int .i64 0,.int .i64 0]):=by
 have za:=jI ho;go_enter Tryz.func84,Tryz.ntmps84;go_upto_region 1 with fail
 generalize hw0:World.alloc _ _=v0;have hB:Below w.heap.size w v0:=eT hw0;have hH:aX v0 w.heap.size h:=by rw[<-hw0];exact Has.new _ _
 clear hw0;obtain⟨bH,Vy⟩:∃x,x=w.heap.size:=⟨_,rfl⟩;rw[<-Vy]at hH|-;have Yf:Hid (bH=w.heap.size):=h_ Vy;clear Vy;go_wp2_with (first|fail|(with_reducible refine dU rfl _ rfl _ rfl hH za ?_))
 refine az (KG.out _ hB) fun v1 hb=>?_;replace hH:=hH.on hb;replace hB:=ai hB hb;clear hb;go_wp2_with (first|fail|(with_reducible refine dU rfl _ rfl _ rfl hH za ?_))
 refine az (KI.out _ hB) fun v2 hb=>?_;replace hH:=hH.on hb;replace hB:=ai hB hb;clear hb;have s1:(ae id).size=32:=by rw[nF];exact i32
 have o1:=oD id;have HW2:Hid (w.heap.size<=v2.heap.size):=h_ hB.size;go_upto_region 6 with(with_reducible refine nt rfl _ _ rfl _ (ae id) (ae id) rfl rfl rfl s1 o1 h0 (er v2 _) rfl ?_)
 generalize hw4:World.setRow _ _ _=v3;have hb2:Below v2.heap.size v2 v3:=dZ hw4;have hI:Has v3 v2.heap.size (ae id) 28:=by rw[<-hw4];exact Has.row (er v2 _) _
 replace hH:=hH.on hb2;replace hB:=ai hB hb2;clear hw4 hb2 o1;obtain⟨bI,WR⟩:∃b,b=v2.heap.size:=⟨_,rfl⟩;rw[<-WR]at hI HW2|-;clear WR;go_wp2_with (first|fail|(with_reducible refine oM rfl _ rfl _ rfl _ hI s1 ?_))
 refine az (KF.out _ hB) fun v4 hb=>?_;replace hH:=hH.on hb;replace hI:=dz hb hI (Has.lt hI);replace hB:=ai hB hb;clear hb;go_wp2_with fail
 go_ret3
 exact⟨rfl,hB⟩
theorem Nr(b:Nat)(h:Hd)(ho:h.ok)(now:Int)(w:World)(KG:bG w 118 #[.agg (aS h)] (.bool true))(id:List UInt8)(i32:id.length=32)(KI:bG w 119 #[.agg (aS h)] (.agg (ae id)))(KF:bG w 120 #[.pointer (some ⟨b,0,none⟩),.agg (ae id)] (.int .i64 (-1)))(KP:bG w 120 #[.pointer (some ⟨b,0,none⟩),.agg (ae h.prev)] (.int .i64 (-1))):ar 84 #[.pointer (some ⟨b,0,none⟩),.agg (aS h),.int .i64 now] w (.tuple #[.int .i64 (-1),.int .i64 2,.int .i64 5]):=by
 have za:=jI ho;go_enter Tryz.func84,Tryz.ntmps84;go_upto_region 1 with fail
 generalize hw0:World.alloc _ _=v0;have hB:Below w.heap.size w v0:=eT hw0;have hH:aX v0 w.heap.size h:=by rw[<-hw0];exact Has.new _ _
 clear hw0;obtain⟨bH,Vy⟩:∃x,x=w.heap.size:=⟨_,rfl⟩;rw[<-Vy]at hH|-;have Yf:Hid (bH=w.heap.size):=h_ Vy;clear Vy;go_wp2_with (first|fail|(with_reducible refine dU rfl _ rfl _ rfl hH za ?_))
 refine az (KG.out _ hB) fun v1 hb=>?_;replace hH:=hH.on hb;replace hB:=ai hB hb;clear hb;go_wp2_with (first|fail|(with_reducible refine dU rfl _ rfl _ rfl hH za ?_))
 refine az (KI.out _ hB) fun v2 hb=>?_;replace hH:=hH.on hb;replace hB:=ai hB hb;clear hb;have s1:(ae id).size=32:=by rw[nF];exact i32
 have o1:=oD id;have HW2:Hid (w.heap.size<=v2.heap.size):=h_ hB.size;go_upto_region 6 with(with_reducible refine nt rfl _ _ rfl _ (ae id) (ae id) rfl rfl rfl s1 o1 h0 (er v2 _) rfl ?_)
 generalize hw4:World.setRow _ _ _=v3;have hb2:Below v2.heap.size v2 v3:=dZ hw4;have hI:Has v3 v2.heap.size (ae id) 28:=by rw[<-hw4];exact Has.row (er v2 _) _
 replace hH:=hH.on hb2;replace hB:=ai hB hb2;clear hw4 hb2 o1;obtain⟨bI,WR⟩:∃b,b=v2.heap.size:=⟨_,rfl⟩;rw[<-WR]at hI HW2|-;clear WR;go_wp2_with (first|fail|(with_reducible refine oM rfl _ rfl _ rfl _ hI s1 ?_))
 refine az (KF.out _ hB) fun v4 hb=>?_;replace hH:=hH.on hb;replace hI:=dz hb hI (Has.lt hI);replace hB:=ai hB hb;clear hb;have rp:=hH.prev;have s2:=lj ho.1;go_wp2_with (first|fail|(with_reducible refine jL rfl _ rfl bH 1 rfl h.prev rp s2 ?_))
 refine az (KP.out _ hB) fun v5 hb=>?_;replace hH:=hH.on hb;replace hI:=dz hb hI (Has.lt hI);replace hB:=ai hB hb;clear hb;clear rp;go_wp2_with fail
 go_ret3
 exact⟨rfl,hB⟩
theorem Ih(b:Nat)(h:Hd)(ho:h.ok)(now:Int)(w:World)(KG:bG w 118 #[.agg (aS h)] (.bool true))(id:List UInt8)(i32:id.length=32)(KI:bG w 119 #[.agg (aS h)] (.agg (ae id)))(KF:bG w 120 #[.pointer (some ⟨b,0,none⟩),.agg (ae id)] (.int .i64 (-1))){I:Nat->Prop}{p:NN.Pr}{t:Tl}{gs:List Gt}{cs:List Ck}{room g n c mb:Nat}{L:List Bk}(HA:Hid (∀w',Below w.heap.size w w'->jw w' I b p t gs cs room (.slice (some ⟨g,0,none⟩) n c) mb L))(x:Bk)(xe:x.e.ok)(xs:x.s.ok)(j:Nat)(hj:j<n)(HR:Hid (∀w',Below w.heap.size w w'->w'.rangeAt g (j*144) (mO x.e x.s)))(KP:bG w 120 #[.pointer (some ⟨b,0,none⟩),.agg (ae h.prev)] (.int .i64 (j:Int)))(y:Int)(hy:(y==0)=false)(KC:bG w 121 #[.agg (NN.aV p),.agg (cU x.s),.agg (aS h),.int .i64 now] (.int .i64 y)):ar 84 #[.pointer (some ⟨b,0,none⟩),.agg (aS h),.int .i64 now] w (.tuple #[.int .i64 (-1),.int .i64 y,.int .i64 8]):=by
 have za:=jI ho;go_enter Tryz.func84,Tryz.ntmps84;go_upto_region 1 with fail
 generalize hw0:World.alloc _ _=v0;have hB:Below w.heap.size w v0:=eT hw0;have hH:aX v0 w.heap.size h:=by rw[<-hw0];exact Has.new _ _
 clear hw0;obtain⟨bH,Vy⟩:∃x,x=w.heap.size:=⟨_,rfl⟩;rw[<-Vy]at hH|-;have Yf:Hid (bH=w.heap.size):=h_ Vy;clear Vy;go_wp2_with (first|fail|(with_reducible refine dU rfl _ rfl _ rfl hH za ?_))
 refine az (KG.out _ hB) fun v1 hb=>?_;replace hH:=hH.on hb;replace hB:=ai hB hb;clear hb;go_wp2_with (first|fail|(with_reducible refine dU rfl _ rfl _ rfl hH za ?_))
 refine az (KI.out _ hB) fun v2 hb=>?_;replace hH:=hH.on hb;replace hB:=ai hB hb;clear hb;have s1:(ae id).size=32:=by rw[nF];exact i32
 have o1:=oD id;have HW2:Hid (w.heap.size<=v2.heap.size):=h_ hB.size;go_upto_region 6 with(with_reducible refine nt rfl _ _ rfl _ (ae id) (ae id) rfl rfl rfl s1 o1 h0 (er v2 _) rfl ?_)
 generalize hw4:World.setRow _ _ _=v3;have hb2:Below v2.heap.size v2 v3:=dZ hw4;have hI:Has v3 v2.heap.size (ae id) 28:=by rw[<-hw4];exact Has.row (er v2 _) _
 replace hH:=hH.on hb2;replace hB:=ai hB hb2;clear hw4 hb2 o1;obtain⟨bI,WR⟩:∃b,b=v2.heap.size:=⟨_,rfl⟩;rw[<-WR]at hI HW2|-;clear WR;go_wp2_with (first|fail|(with_reducible refine oM rfl _ rfl _ rfl _ hI s1 ?_))
 refine az (KF.out _ hB) fun v4 hb=>?_;replace hH:=hH.on hb;replace hI:=dz hb hI (Has.lt hI);replace hB:=ai hB hb;clear hb;have rp:=hH.prev;have s2:=lj ho.1;go_wp2_with (first|fail|(with_reducible refine jL rfl _ rfl bH 1 rfl h.prev rp s2 ?_))
 refine az (KP.out _ hB) fun v5 hb=>?_;replace hH:=hH.on hb;replace hI:=dz hb hI (Has.lt hI);replace hB:=ai hB hb;clear hb;clear rp;have WJ:=HA.out _ hB;have Xv:=lM WJ.has WJ.VQ;have rs:=EB xe (HR.out _ hB);have z3:=rq xs;have z4:=mJ xs;have z0:=mJ mS;have hp:=WJ.VQ;clear WJ;have ZV:Hid (w.heap.size<=v5.heap.size):=h_ hB.size
 go_upto_region 13 with(first
  | (with_reducible refine DP rfl _ rfl g (j*144+106) rfl x.s rs z3 ?_)
  | (with_reducible refine wW rfl _ _ rfl _ _ x.s rfl rfl rfl z4 (sQ v5) z0 ?_))
 generalize hw4:World.setRow _ _ _=v6;have hb2:Below v5.heap.size v5 v6:=dZ hw4;have hS:aY v6 v5.heap.size x.s:=by rw[<-hw4];exact Has.row (sQ v5) _
 replace hH:=hH.on hb2;replace hI:=dz hb2 hI (Has.lt hI);replace hB:=ai hB hb2;clear hw4 hb2 Xv rs;obtain⟨bS,hbS⟩:∃b,b=v5.heap.size:=⟨_,rfl⟩;rw[<-hbS]at hS ZV|-;clear hbS;simp only[Act.put];have hz:=nc hp;have ra:=jW (tG (HA.out _ hB).has) (by rw[hz];omega);have qS:=hS.cls;have qH:=jW hH.range (ou h);have sh:=gQ ho;have Yg:∀d os,Below w.heap.size w (Sort.grow (redrawn v6 d) os):=fun d os=>hB.trans ((below_regrown v6 d os).mono hB.size)
 refine wp_region_quiet_below (by kernel_rfl) (by kernel_rfl) ?_
 repeat(first
  | (go_big_quiet_want;(with_reducible first|refine DL 32 _ rfl b 0 rfl (NN.f_ p) _ Tryz.underlying32 rfl (NN.jg.trans (by rw[hz])) ra ?_|refine El _ rfl bS rfl z4 qS ?_|refine oS _ rfl bH 0 rfl h sh qH ?_);(simp only[Act.put,da,aZ,bg]);go_big_quiet_on)
  | go_big_quiet_step ((go_at_call 121;exact Calls.regrown_of (KC.out _ (Yg _ _)))))
 refine wpQuiet_nil ?_;intro v7 hw';have hb:=rO v7 hw';replace hH:=hH.on hb;replace hI:=dz hb hI (Has.lt hI);replace hS:=hS.on hb;replace hB:=ai hB hb;clear hw' hb ra qS qH sh Yg;go_wp2_with fail
 go_ret3
 exact⟨rfl,hB⟩
