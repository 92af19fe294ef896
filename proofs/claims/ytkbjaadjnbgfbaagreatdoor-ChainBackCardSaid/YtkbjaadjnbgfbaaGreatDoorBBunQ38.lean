import Derived.Test.YtkbjaadjnbgfbaaGreatDoorBAnMap
import Derived.Test.YtkbjaadjnbgfbaaGreatDoorBBunQ33
import Derived.Test.YtkbjaadjnbgfbaaGreatDoorBBunQ37
set_option maxRecDepth 100000
set_option maxHeartbeats 4000000
namespace Go.Proofs.YtkbjaadjnbgfbaaGreatDoor
open Go.RowKit
namespace An
open Mem Sc
open Ar (aq Ru aB)
structure En where
 h:Hd
 id:List UInt8
 up:Int
 ht:Int
 wk:Nat
def En.ok(e:En):Prop:=e.h.ok/\e.id.length=32
def gB(e:En):List Value:=bq e.h++(Lib.byteCells e.id++(i_ e.up::i_ e.ht::(NN.aa e.wk).toList))
def bT(e:En):Array Value:=(gB e).toArray
def je:En:=⟨du,kL,0,0,0⟩
def lg:En:=⟨du,kL,-1,0,0⟩
variable{e:En}
theorem me(h:e.ok):(gB e).length=106:=by simp only[gB,List.length_append,er h.1,il h.2,List.length_cons,Array.length_toList,NN.fU]
theorem gE(h:e.ok):(bT e).size=106:=by show(gB e).toArray.size=106;rw[List.size_toArray];exact me h
theorem zp(n:Nat):∀v∈(NN.aa n).toList,v.oneCell'=true:=fun v hv=>by
 have:=NN.Di n;rw[Array.all_eq_true_iff_forall_mem]at this;exact this v (by simpa using hv)
theorem zw(e:En):∀v∈gB e,v.oneCell'=true:=by
 intro v hv;simp only[gB,List.mem_cons,List.mem_append]at hv;rcases hv with hv|hv|rfl|rfl|hv
 exact oQ _ v hv;exact Lib.byteCells_one _ v hv;rfl;rfl;exact zp _ v hv
theorem yW(e:En):(bT e).all (·.oneCell')=true:=all_oneCell_toArray (zw e)
theorem iY:(Tryz.prog.info? 60).map (·.size)=some 106:=by kernel_rfl
theorem cZ:je.ok:=⟨fe,rfl⟩
theorem ee:lg.ok:=⟨fe,rfl⟩
def bB(w:World)(k:Nat)(e:En):Prop:=Has w k (bT e) 60
def jc(e:En)(s:Sp):List Value:=gB e++gJ s
theorem sL{s:Sp}(h:e.ok)(hs:s.ok):(jc e s).length=144:=by simp only[jc,List.length_append,me h,mE hs]
theorem tV(e:En)(s:Sp):∀v∈jc e s,v.oneCell'=true:=fun v hv=>by
 rcases List.mem_append.1 hv with h|h
 exact zw e v h;exact yJ s v h
def Du(p:NN.Pr)(room:Nat)(v:Value)(mb:Nat):List Value:=NN.dR p++[i_ room,v,.map (some mb)]
def jn(p:NN.Pr)(room:Nat)(v:Value)(mb:Nat):Array Value:=(Du p room v mb).toArray
theorem jz{p:NN.Pr}(h:p.ok):(NN.dR p).length=83:=by have:=NN.eH h;unfold NN.aE at this;simpa using this
theorem GK:(Lib.byteCells kL).length=32:=rfl
theorem J9(parts:List (Nat×Value)):Tryz.prog.built 60 parts=Instr.fill ((#[(0,68),(68,32),(100,1),(101,1),(102,4)]:Array (Nat×Nat))[·]?) (bT je) parts:=by kernel_rfl
theorem GR(e:En)(h:e.ok):Tryz.prog.built 60 [(0,.agg (aD e.h)),(1,.agg (ae e.id)),(2,Value.int .i64 e.up),(3,Value.int .i64 e.ht),(4,.agg (NN.aa e.wk))]=some (bT e):=by
 rw[J9];have h0:=er h.1;have h1:=il h.2;have z0:=er fe;have z1:=GK;unfold bT gB
 rw[show bq je.h++(Lib.byteCells je.id++(Value.int .i64 je.up::Value.int .i64 je.ht::(NN.aa je.wk).toList))=[]++(bq du++(Lib.byteCells kL++(Value.int .i64 0::Value.int .i64 0::(NN.aa 0).toList)))from rfl,
  gG (off:=0) (n:=68) [] (bq du) _ (bq e.h) rfl rfl z0 rfl h0,List.nil_append,
  gG (off:=68) (n:=32) (bq e.h) (Lib.byteCells kL) _ (Lib.byteCells e.id) rfl h0 z1 (iD e.id▸rfl) h1,
  show bq e.h++(Lib.byteCells e.id++(Value.int .i64 0::Value.int .i64 0::(NN.aa 0).toList))=(bq e.h++Lib.byteCells e.id)++([Value.int .i64 0]++([Value.int .i64 0]++(NN.aa 0).toList)) by simp,
  gG (off:=100) (n:=1) (bq e.h++Lib.byteCells e.id) [Value.int .i64 0] _ [Value.int .i64 e.up] rfl (by simp[h0,h1]) rfl rfl rfl,
  show(bq e.h++Lib.byteCells e.id)++([Value.int .i64 e.up]++([Value.int .i64 0]++(NN.aa 0).toList))=(bq e.h++Lib.byteCells e.id++[Value.int .i64 e.up])++([Value.int .i64 0]++(NN.aa 0).toList) by simp,
  gG (off:=101) (n:=1) (bq e.h++Lib.byteCells e.id++[Value.int .i64 e.up]) [Value.int .i64 0] _ [Value.int .i64 e.ht] rfl (by simp[h0,h1]) rfl rfl rfl,
  show(bq e.h++Lib.byteCells e.id++[Value.int .i64 e.up])++([Value.int .i64 e.ht]++(NN.aa 0).toList)=(bq e.h++Lib.byteCells e.id++[Value.int .i64 e.up,Value.int .i64 e.ht])++((NN.aa 0).toList++[]) by simp,
  gG (off:=102) (n:=4) (bq e.h++Lib.byteCells e.id++[Value.int .i64 e.up,Value.int .i64 e.ht]) (NN.aa 0).toList [] (NN.aa e.wk).toList rfl (by simp[h0,h1]) rfl (by simp[Value.cells]) rfl,uo]
 simp
theorem Ks(e:En)(h:e.ok)(h0:e.ht=0):Tryz.prog.built 60 [(0,.agg (aD e.h)),(1,.agg (ae e.id)),(2,Value.int .i64 e.up),(4,.agg (NN.aa e.wk))]=some (bT e):=by
 have hh:=GR e h;rw[J9]at hh|-;rw[<-hh,h0];have e0:=er h.1;have e1:=il h.2;have z0:=er fe;have z1:=GK
 have st:∀rest,Instr.fill ((#[(0,68),(68,32),(100,1),(101,1),(102,4)]:Array (Nat×Nat))[·]?) (bT je) ((0,.agg (aD e.h))::(1,.agg (ae e.id))::(2,Value.int .i64 e.up)::rest)=Instr.fill ((#[(0,68),(68,32),(100,1),(101,1),(102,4)]:Array (Nat×Nat))[·]?) (bq e.h++(Lib.byteCells e.id++([Value.int .i64 e.up]++([Value.int .i64 0]++(NN.aa 0).toList)))).toArray rest:=fun rest=>by
  unfold bT gB
  rw[show bq je.h++(Lib.byteCells je.id++(Value.int .i64 je.up::Value.int .i64 je.ht::(NN.aa je.wk).toList))=[]++(bq du++(Lib.byteCells kL++(Value.int .i64 0::Value.int .i64 0::(NN.aa 0).toList)))from rfl,
   gG (off:=0) (n:=68) [] (bq du) _ (bq e.h) rfl rfl z0 rfl e0,List.nil_append,
   gG (off:=68) (n:=32) (bq e.h) (Lib.byteCells kL) _ (Lib.byteCells e.id) rfl e0 z1 (iD e.id▸rfl) e1,
   show bq e.h++(Lib.byteCells e.id++(Value.int .i64 0::Value.int .i64 0::(NN.aa 0).toList))=(bq e.h++Lib.byteCells e.id)++([Value.int .i64 0]++([Value.int .i64 0]++(NN.aa 0).toList)) by simp,
   gG (off:=100) (n:=1) (bq e.h++Lib.byteCells e.id) [Value.int .i64 0] _ [Value.int .i64 e.up] rfl (by simp[e0,e1]) rfl rfl rfl]
  simp
 rw[st,st]
 rw[show bq e.h++(Lib.byteCells e.id++([Value.int .i64 e.up]++([Value.int .i64 0]++(NN.aa 0).toList)))=(bq e.h++Lib.byteCells e.id++[Value.int .i64 e.up])++([Value.int .i64 0]++(NN.aa 0).toList) by simp,
  gG (i:=3) (off:=101) (n:=1) (bq e.h++Lib.byteCells e.id++[Value.int .i64 e.up]) [Value.int .i64 0] _ [Value.int .i64 0] rfl (by simp[e0,e1]) rfl rfl rfl]
theorem Nv:Tryz.prog.built 60 [(2,Value.int .i64 (-1))]=some (bT lg):=by kernel_rfl
theorem GH(parts:List (Nat×Value)):Tryz.prog.built 143 parts=Instr.fill ((#[(0,106),(106,38)]:Array (Nat×Nat))[·]?) (jc je mn).toArray parts:=by kernel_rfl
theorem Pd(e:En)(s:Sp)(h:e.ok)(hs:s.ok):Tryz.prog.built 143 [(0,.agg (bT e)),(1,.agg (br s))]=some (jc e s).toArray:=by
 rw[GH];have h0:=me h;have h1:=mE hs;unfold jc
 rw[show gB je++gJ mn=[]++(gB je++gJ mn)from rfl,
  gG (off:=0) (n:=106) [] (gB je) _ (gB e) rfl rfl (me cZ) rfl h0,
  show[]++(gB e++gJ mn)=gB e++(gJ mn++[]) by simp,
  gG (off:=106) (n:=38) (gB e) (gJ mn) [] (gJ s) rfl h0 (mE ji) rfl h1,uo]
 simp
def oq:NN.Pr:=⟨0,0,0,0,false,Value.slice none 0 0::Value.slice none 0 0::((NN.aa 0).toList++((NN.aa 0).toList++bq du))⟩
theorem n0:oq.ok:=rfl
theorem I8(parts:List (Nat×Value)):Tryz.prog.built 147 parts=Instr.fill ((#[(0,83),(83,1),(84,1),(85,1)]:Array (Nat×Nat))[·]?) (NN.dR oq++[Value.int .i64 0,Value.slice none 0 0,Value.map none]).toArray parts:=by kernel_rfl
theorem Qw(p:NN.Pr)(h:p.ok)(room mb:Nat):Tryz.prog.built 147 [(0,.agg (NN.aE p)),(1,Value.int .i64 (room:Int)),(3,.map (some mb))]=some (jn p room (.slice none 0 0) mb):=by
 rw[I8];have h0:=jz h;unfold jn Du
 rw[show NN.dR oq++[Value.int .i64 0,Value.slice none 0 0,Value.map none]=[]++(NN.dR oq++[Value.int .i64 0,Value.slice none 0 0,Value.map none])from rfl,
  gG (off:=0) (n:=83) [] (NN.dR oq) _ (NN.dR p) rfl rfl (jz n0) rfl h0,
  show[]++(NN.dR p++[Value.int .i64 0,Value.slice none 0 0,Value.map none])=NN.dR p++([Value.int .i64 0]++[Value.slice none 0 0,Value.map none]) by simp,
  gG (off:=83) (n:=1) (NN.dR p) [Value.int .i64 0] _ [Value.int .i64 (room:Int)] rfl h0 rfl rfl rfl,
  show NN.dR p++([Value.int .i64 (room:Int)]++[Value.slice none 0 0,Value.map none])=(NN.dR p++[Value.int .i64 (room:Int),Value.slice none 0 0])++([Value.map none]++[]) by simp,
  gG (off:=85) (n:=1) (NN.dR p++[Value.int .i64 (room:Int),Value.slice none 0 0]) [Value.map none] [] [Value.map (some mb)] rfl (by simp[h0]) rfl rfl rfl,uo]
 simp
def fR(I:Nat->Prop)(P:World->Prop)(w:World):Prop:=∀w',Kp (fun i=>¬I i) w w'->P w'
section
variable{w w':World}{I J G:Nat->Prop}{P P':World->Prop}
theorem fR.now(h:fR I P w):P w:=h w (Kp.refl _ w)
theorem fR.on(h:fR I P w)(k:Kp G w w')(hG:∀i,I i->¬G i):fR I P w':=fun w2 k2=>h w2 ((k.mono (fun i hi _=>fun h=>hG i h hi)).trans k2 (fun _ hi _=>hi))
theorem fR.wide(h:fR I P w)(hI:∀i,I i->J i):fR J P w:=fun w2 k2=>h w2 (k2.mono fun i hi _=>fun h=>hi (hI i h))
theorem fR.imp(h:fR I P w)(hP:∀w',P w'->P' w'):fR I P' w:=fun w2 k2=>hP w2 (h w2 k2)
theorem fR.and(h:fR I P w)(h':fR I P' w):fR I (fun w=>P w/\P' w) w:=fun w2 k2=>⟨h w2 k2,h' w2 k2⟩
end
variable{w w':World}{F I:Nat->Prop}
theorem Fx{b o:Nat}{cs:List Value}(h:w.rangeAt b o cs)(k:Kp F w w')(hb:b<w.heap.size)(hn:¬F b):w'.rangeAt b o cs:=fun j u hu=>(World.cell?_of_block (k.block b hb hn)).trans (h j u hu)
variable{a:Option Addr}
theorem Nc{gs:List Gt}(h:aJ w a gs)(hI:0<gs.length->∀ad,a=some ad->I ad.block):fR I (fun w=>aJ w a gs) w:=fun w' k h0=>by
 obtain⟨ab,ao,ha,hlt,hc⟩:=h h0;have:=hI h0 _ ha;exact⟨ab,ao,ha,Nat.lt_of_lt_of_le hlt k.size,fun i hi=>Fx (hc i hi) k hlt (fun hn=>hn this)⟩
theorem I3{gs:List Ck}(h:az w a gs)(hI:0<gs.length->∀ad,a=some ad->I ad.block):fR I (fun w=>az w a gs) w:=fun w' k h0=>by
 obtain⟨ab,ao,ha,hlt,hc⟩:=h h0;have:=hI h0 _ ha;exact⟨ab,ao,ha,Nat.lt_of_lt_of_le hlt k.size,fun i hi=>⟨(hc i hi).1,Fx (hc i hi).2 k hlt (fun hn=>hn this)⟩⟩
theorem Mb{s:Sp}{q:Ps}{lo:Nat}(h:eE w lo s q)(hI:∀i,lo<=i->i<w.heap.size->I i):fR I (fun w=>eE w 0 s q) w:=fun w' k=>by
 obtain⟨h1,h2,h3,h4,h5,h6⟩:=h;refine⟨h1,h2,h3,h4,h5,fun h0=>?_⟩;obtain⟨b,off,e,g1,g2,hc⟩:=h6 h0;exact⟨b,off,e,Nat.zero_le _,Nat.lt_of_lt_of_le g2 k.size,fun j hj=>(World.cell?_of_block (w:=w) (a:=⟨b,off+j,none⟩) (k.block b g2 (fun hn=>hn (hI b g1 g2)))).trans (hc j hj)⟩
variable{base e size n:Nat}{v:Value}{xs:List Value}
theorem ax(h:w.ownsRow base e size v n xs)(k:Kp F w w')(hF:∀i,v.ownBlock=some i->¬F i):w'.ownsRow base e size v n xs:=by
 refine⟨h.1,?_⟩;rcases h.2 with h|⟨g,c,cur,rfl,h1,h2,h3⟩
 exact .inl h;have hg:g<w.heap.size:=(Array.getElem?_eq_some_iff.1 h2).1;exact .inr ⟨g,c,cur,rfl,h1,(k.block g hg (hF g rfl)).trans h2,h3⟩
theorem cK(h:w.ownsRow base e size v n xs){i:Nat}(hi:v.ownBlock=some i):i<w.heap.size/\base<=i:=by
 rcases h.2 with⟨rfl,_⟩|⟨g,c,cur,rfl,h1,h2,h3⟩
 cases hi;cases hi;exact⟨(Array.getElem?_eq_some_iff.1 h2).1,h1⟩
theorem eP(h:w.ownsRow base e size v n xs){i:Nat}(hi:v.ownBlock=some i):∃cs,w.heap[i]?=some (.cells cs e (0,0)):=by
 rcases h.2 with⟨rfl,_⟩|⟨g,c,cur,rfl,h1,h2,h3⟩
 cases hi;cases hi;exact⟨_,h2⟩
structure Bk where
 e:En
 s:Sp
 q:Ps
def l_(L:List Bk):List Value:=L.flatMap fun x=>jc x.e x.s
theorem FB(L:List Bk)(x:Bk):l_ (L++[x])=l_ L++jc x.e x.s:=by simp[l_]
structure fM (w:World) (I:Nat->Prop) (b:Nat) (p:NN.Pr) (t:Tl) (gs:List Gt) (cs:List Ck) (room:Nat) (v:Value) (mb:Nat) (L:List Bk):Prop where
 has:Has w b (jn p room v mb) 147
 Su:p.ok
 one:p.one
 tt:p.tl=t.C
 tok:t.ok
 gn:t.gn=gs.length
 cn:t.cn=cs.length
 row:w.ownsRow 0 143 144 v L.length (l_ L)
 map:dr w mb (L.map (·.e.id))
 Sl:fR I (fun w=>aJ w t.ga gs) w
 checks:fR I (fun w=>az w t.ca cs) w
 SM:∀x∈L,fR I (fun w=>eE w 0 x.s x.q) w
 nb:¬I b
 nm:¬I mb
 nv:∀k,v.ownBlock=some k->¬I k
 lt:∀i,I i->i<w.heap.size
 bZ:∀x∈L,x.e.ok/\x.s.ok
def jJ(I:Nat->Prop)(b:Nat)(v:Value)(mb:Nat):Nat->Prop:=fun i=>I i\/i=b\/i=mb\/v.ownBlock=some i
section
variable{w w':World}{I G:Nat->Prop}{b:Nat}{p:NN.Pr}{t:Tl}{gs:List Gt}{cs:List Ck}{room:Nat}{v:Value}{mb:Nat}{L:List Bk}
theorem fM.on(h:fM w I b p t gs cs room v mb L)(k:Kp G w w')(hG:∀i,jJ I b v mb i->¬G i):fM w' I b p t gs cs room v mb L where
 has:=k.has h.has (hG b (.inr (.inl rfl)))
 Su:=h.Su
 one:=h.one
 tt:=h.tt
 tok:=h.tok
 gn:=h.gn
 cn:=h.cn
 row:=ax h.row k fun i hi=>hG i (.inr (.inr (.inr hi)))
 map:=h.map.on (k.block mb h.map.lt (hG mb (.inr (.inr (.inl rfl)))))
 Sl:=h.Sl.on k fun i hi=>hG i (.inl hi)
 checks:=h.checks.on k fun i hi=>hG i (.inl hi)
 SM:=fun x hx=>(h.SM x hx).on k fun i hi=>hG i (.inl hi)
 nb:=h.nb
 nm:=h.nm
 nv:=h.nv
 lt:=fun i hi=>Nat.lt_of_lt_of_le (h.lt i hi) k.size
 bZ:=h.bZ
theorem fM.SS(h:fM w I b p t gs cs room v mb L){i:Nat}(hi:jJ I b v mb i):i<w.heap.size:=by
 rcases hi with hi|rfl|rfl|hi
 exact h.lt i hi;exact h.has.lt;exact h.map.lt;exact(cK h.row hi).1
theorem fM.below(h:fM w I b p t gs cs room v mb L)(hb:Bl w w'):fM w' I b p t gs cs room v mb L:=h.on (G:=fun _=>False) (Kp.of hb) fun _ _ hf=>hf
theorem fM.Va(h:fM w I b p t gs cs room v mb L):b≠mb:=h.map.Sd h.has
theorem fM.V7(h:fM w I b p t gs cs room v mb L){i:Nat}(hi:v.ownBlock=some i):i≠b:=by
 rintro rfl;obtain⟨c,hc⟩:=eP h.row hi;have:=h.has.out;rw[hc]at this;injection this with this
 injection this with _ this
 exact absurd this (by decide)
theorem fM.Vb(h:fM w I b p t gs cs room v mb L){i:Nat}(hi:v.ownBlock=some i):i≠mb:=by obtain⟨c,hc⟩:=eP h.row hi;exact h.map.Sd hc
end
def fu(r:Ru)(hs:List Hd):Nat:=hs.foldl (fun n h=>NN.Nm.cap (n+NN.ofBits h.bits)) (NN.ofBits r.g.bits)
theorem Cr(r:Ru)(hs:List Hd)(h:Hd):fu r (hs++[h])=NN.Nm.cap (fu r hs+NN.ofBits h.bits):=by simp[fu]
theorem si(r:Ru)(hs:List Hd):fu r hs<NN.Nm.ai:=by
 rcases List.eq_nil_or_concat hs with rfl|⟨l,x,rfl⟩
 exact NN.IS _;rw[List.concat_eq_append,Cr];exact NN.Nm.nc _
def bs(r:Ru)(e:aq):En:=⟨e.h r.g,(e.h r.g).id,e.up,(e.hs.length:Nat),fu r e.hs⟩
def Lk(r:Ru)(M:List aq)(L:List Bk):Prop:=L.map (fun x=>(x.e,x.q))=M.map (fun e=>(bs r e,Ar.spot r e))
variable{r:Ru}{M:List aq}{L:List Bk}
theorem Lk.length(h:Lk r M L):L.length=M.length:=by have:=congrArg List.length h;simpa using this
theorem Lk.at(h:Lk r M L){i:Nat}{e:aq}(he:M[i]?=some e):∃s,L[i]?=some ⟨bs r e,s,Ar.spot r e⟩:=by
 have h1:(L.map (fun x=>(x.e,x.q)))[i]?=(M.map (fun e=>(bs r e,Ar.spot r e)))[i]?:=by rw[h]
 rw[List.getElem?_map,List.getElem?_map,he]at h1;cases hL:L[i]? with
 | none=>rw[hL]at h1;cases h1
 | some x=>
  rw[hL]at h1;obtain⟨xe,xs,xq⟩:=x;simp only[Option.map_some,Option.some.injEq,Prod.mk.injEq]at h1;obtain⟨rfl,rfl⟩:=h1;exact⟨xs,rfl⟩
theorem Lk.ids(h:Lk r M L):L.map (·.e.id)=M.map fun e=>(e.h r.g).id:=by have:=congrArg (List.map fun x:En×Ps=>x.1.id) h;rw[List.map_map,List.map_map]at this;exact this
theorem Lk.find(h:Lk r M L)(id:List UInt8):(L.map (·.e.id)).findIdx? (· == id)=Ar.j7 r.g M id:=by rw[h.ids,List.findIdx?_map];rfl
theorem Lk.put(h:Lk r M L)(e:aq)(s:Sp):Lk r (M++[e]) (L++[⟨bs r e,s,Ar.spot r e⟩]):=by unfold Lk at*;rw[List.map_append,List.map_append,h];rfl
def Alike(p:NN.Pr)(t:Tl)(r:Ru):Prop:=p.lim=r.p.lim/\p.R8=r.p.R8/\p.Sg=r.p.Sg/\p.Sb=r.p.Sb/\p.Se=r.p.Se/\t.g=r.g
def iq(w:World)(F:Nat->Prop)(b:Nat)(r:Ru)(M:List aq):Prop:=(∀i,F i->i<w.heap.size)/\∃I p t v mb L,fM w I b p t r.gs r.cs r.room v mb L/\Alike p t r/\Lk r M L/\∀i,jJ I b v mb i->F i
section
variable{w w':World}{F G:Nat->Prop}{b:Nat}{r:Ru}{M:List aq}
theorem iq.on(h:iq w F b r M)(k:Kp G w w')(hG:∀i,F i->¬G i):iq w' F b r M:=by obtain⟨hl,I,p,t,v,mb,L,h1,h2,h3,h4⟩:=h;exact⟨fun i hi=>Nat.lt_of_lt_of_le (hl i hi) k.size,I,p,t,v,mb,L,h1.on k fun i hi=>hG i (h4 i hi),h2,h3,h4⟩
theorem iq.below(h:iq w F b r M)(hb:Bl w w'):iq w' F b r M:=h.on (G:=fun _=>False) (Kp.of hb) fun _ _ hf=>hf
theorem iq.wide(h:iq w F b r M)(hF:∀i,F i->G i)(hG:∀i,G i->i<w.heap.size):iq w G b r M:=by obtain⟨_,I,p,t,v,mb,L,h1,h2,h3,h4⟩:=h;exact⟨hG,I,p,t,v,mb,L,h1,h2,h3,fun i hi=>hF i (h4 i hi)⟩
end
theorem lf{F:Nat->Prop}{w w':World}(h:∀i,F i->i<w.heap.size)(hs:w.heap.size<=w'.heap.size):∀i,iQ F w w' i->i<w'.heap.size:=fun i hi=>by
 rcases hi with hi|hi
 exact Nat.lt_of_lt_of_le (h i hi) hs;exact hi.2
variable{p:NN.Pr}{t:Tl}{r:Ru}
theorem Jm(h:Alike p t r)(q:Ps)(hd:Hd)(now:Int):qy p r.gs r.cs q hd now=qy r.p r.gs r.cs q hd now:=by obtain⟨pl,pi,ps,pf,pe,pt⟩:=p;obtain⟨⟨rl,ri,rs,rf,re,rt⟩,_,_,_,_⟩:=r;obtain⟨h1,h2,h3,h4,h5,h6⟩:=h;simp only at h1 h2 h3 h4 h5;subst h1 h2 h3 h4 h5;rfl
theorem LC(h:Alike p t r)(q:Ps)(hd:Hd):bh p q hd=bh r.p q hd:=by obtain⟨pl,pi,ps,pf,pe,pt⟩:=p;obtain⟨⟨rl,ri,rs,rf,re,rt⟩,_,_,_,_⟩:=r;obtain⟨h1,h2,h3,h4,h5,h6⟩:=h;simp only at h1 h2 h3 h4 h5;subst h1 h2 h3 h4 h5;rfl
section
variable{w w':World}{b:Nat}{p:NN.Pr}{room mb:Nat}{v:Value}
theorem nG(j:Nat):(jn p room v mb)[j]?=(Du p room v mb)[j]?:=by unfold jn;rw[List.getElem?_toArray]
theorem A2(hp:p.ok)(j:Nat):(Du p room v mb)[83+j]?=([i_ room,v,.map (some mb)]:List Value)[j]?:=by unfold Du;rw[List.getElem?_append_right (by rw[jz hp];omega),jz hp,show 83+j-83=j by omega]
theorem IJ(h:Has w b (jn p room v mb) 147)(hp:p.ok):w.cell? ⟨b,83,none⟩=some (i_ room):=(Has.cell h 83).trans ((nG 83).trans (A2 hp 0))
theorem iB(h:Has w b (jn p room v mb) 147)(hp:p.ok):w.cell? ⟨b,84,none⟩=some v:=(Has.cell h 84).trans ((nG 84).trans (A2 hp 1))
theorem IT(h:Has w b (jn p room v mb) 147)(hp:p.ok):w.cell? ⟨b,85,none⟩=some (.map (some mb)):=(Has.cell h 85).trans ((nG 85).trans (A2 hp 2))
theorem oI(h:Has w b (jn p room v mb) 147):w.rangeAt b 0 (NN.dR p):=by have:=gd (A:=[]) (cs:=NN.dR p) (C:=[i_ room,v,.map (some mb)]) (o:=0) (w:=w) (b:=b) (t:=147) h rfl;exact this
theorem AM(h:Has w b (jn p room v mb) 147)(hp:p.ok)(v':Value):Has (w.setCell ⟨b,84,none⟩ v') b (jn p room v' mb) 147:=by
 have:=Has.set (i:=84) h v'
 have e:(jn p room v mb).setIfInBounds 84 v'=jn p room v' mb:=by
  unfold jn Du;rw[List.setIfInBounds_toArray];congr 1;rw[List.set_append_right _ _ (by rw[jz hp];omega),jz hp];rfl
 rwa[e]at this
end
section
variable{w:World}{k:Nat}{e:En}{ops:Array Oper}{rest:List Oper}{o:Oper}{a:Act}{Q:Exit->Act->World->Prop}
theorem bB.on{w':World}(h:bB w k e)(hb:Bl w w'):bB w' k e:=cg hb h (Has.lt h)
theorem gL(w:World):bB (w.alloc (.cells Tryz.zeroCells60 60)) w.heap.size je:=Has.new (bT je) _
theorem Oj(hgd:o.guard=none)(x:Operand)(ho:o.op=.load 60 x)(g off:Nat)(hx:a.eval x=.pointer (some ⟨g,off,none⟩))(e:En)(hg:w.rangeAt g off (gB e))(hs:(gB e).length=106)(hk:wpList Tryz.prog ops Q rest (a.put o.dst (.agg (bT e))) w):wpList Tryz.prog ops Q (o::rest) a w:=
 wpList_load_mid hgd 60 x ho g off hx (gB e) _ hg Tryz.underlying60 rfl (iY.trans (by rw[hs])) hk
theorem BH(hgd:o.guard=none)(x:Operand)(ho:o.op=.load 141 x)(g off:Nat)(hx:a.eval x=.pointer (some ⟨g,off,none⟩))(s:Sp)(hg:w.rangeAt g off (gJ s))(hs:(gJ s).length=38)(hk:wpList Tryz.prog ops Q rest (a.put o.dst (.agg (br s))) w):wpList Tryz.prog ops Q (o::rest) a w:=
 wpList_load_mid hgd 141 x ho g off hx (gJ s) _ hg Tryz.underlying141 rfl (ie.trans (by rw[hs])) hk
theorem gX(hgd:o.guard=none)(x y:Operand)(ho:o.op=.store 60 x y)(g:Nat)(cz:Array Value)(e':En)(hx:a.eval x=af g)(hy:a.eval y=.agg cz)(he:cz=bT e')(hs':(bT e').size=106)(hg:bB w g e)(hs:(bT e).size=106)(hk:wpList Tryz.prog ops Q rest (a.put o.dst undef) (w.setRow g (bT e'))):wpList Tryz.prog ops Q (o::rest) a w:=by subst he;exact wpList_store_row hgd 60 x y ho g (bT e') hx hy 60 (bT e) (Has.out hg) (iY.trans (by rw[hs'])) (by rw[hs,hs']) (yW e') hk
theorem ve(hgd:o.guard=none)(x:Operand)(ho:o.op=.build 60 #[(2,x)])(hx:a.eval x=i_ (-1))(hk:wpList Tryz.prog ops Q rest (a.put o.dst (.agg (bT lg))) w):wpList Tryz.prog ops Q (o::rest) a w:=
 wpList_plain hgd fun _ hK=>by
  unfold Oper.wp execOp;simp only[ho,Sem.run_bind];rw[show(#[(2,x)]:Array (Nat×Operand)).map (fun(i,x)=>(i,a.eval x))=#[(2,i_ (-1))] by simp[hx],run_build w 60 _ _ Nv];exact hK _ _ hk
theorem IY(hgd:o.guard=none)(x0 x1 x2 x3 x4:Operand)(ho:o.op=.build 60 #[(0,x0),(1,x1),(2,x2),(3,x3),(4,x4)])(e:En)(he:e.ok)(h0:a.eval x0=.agg (aD e.h))(h1:a.eval x1=.agg (ae e.id))(h2:a.eval x2=i_ e.up)(h3:a.eval x3=i_ e.ht)(h4:a.eval x4=.agg (NN.aa e.wk))(hk:wpList Tryz.prog ops Q rest (a.put o.dst (.agg (bT e))) w):wpList Tryz.prog ops Q (o::rest) a w:=
 wpList_plain hgd fun _ hK=>by
  unfold Oper.wp execOp;simp only[ho,Sem.run_bind];rw[show(#[(0,x0),(1,x1),(2,x2),(3,x3),(4,x4)]:Array (Nat×Operand)).map (fun(i,x)=>(i,a.eval x))=#[(0,.agg (aD e.h)),(1,.agg (ae e.id)),(2,i_ e.up),(3,i_ e.ht),(4,.agg (NN.aa e.wk))] by simp[h0,h1,h2,h3,h4],run_build w 60 _ _ (GR e he)];exact hK _ _ hk
variable{fn:Func}{p:Tmp}
theorem NK(hf:fn.results=#[.cell p 60])(tmps:Array Value)(g:Nat)(hp:tmps.getD p undef=af g)(hg:bB w g e)(hs:(bT e).size=106):(results fn tmps).run Tryz.prog w=.ok (.agg (bT e)) w:=
 results_cell_row hf tmps w g 60 (bT e) (0,0) _ hp (Has.out hg) Tryz.underlying60 rfl (iY.trans (by rw[hs]))
theorem BQ{q:Tmp}(hf:fn.results=#[.cell p 60,.tmp q])(tmps:Array Value)(g:Nat)(c:Value)(hp:tmps.getD p undef=af g)(hc:tmps.getD q undef=c)(hg:bB w g e)(hs:(bT e).size=106):(results fn tmps).run Tryz.prog w=.ok (.tuple #[.agg (bT e),c]) w:=by rw[results_cell_tmp hf,hp,hc];have hl:(loadVar 60 ⟨g,0,none⟩).run Tryz.prog w=.ok (.agg (bT e)) w:=run_loadVar_row w g 60 60 (bT e) (0,0) _ (Has.out hg) Tryz.underlying60 rfl (iY.trans (by rw[hs]));simp[asAddr,hl,Result.andThen]
end
theorem Lx(L:List Bk)(h:∀x∈L,x.e.ok/\x.s.ok)(i j:Nat)(x:Bk)(hi:L[i]?=some x)(hj:j<144):(l_ L)[i*144+j]?=(jc x.e x.s)[j]?:=by
 induction L generalizing i with
 | nil=>simp at hi
 | cons y L ih=>
  have hy:=h y (by simp);have hl:=sL hy.1 hy.2;have e:l_ (y::L)=jc y.e y.s++l_ L:=rfl;rw[e];cases i with
  | zero=>
   obtain rfl:y=x:=by simpa using hi
   rw[List.getElem?_append_left (by omega)];simp
  | succ i=>
   rw[List.getElem?_append_right (by omega),hl,show(i+1)*144+j-144=i*144+j by omega];exact ih (fun z hz=>h z (by simp[hz])) i (by simpa using hi)
section
variable{w:World}{I:Nat->Prop}{b:Nat}{p:NN.Pr}{t:Tl}{gs:List Gt}{cs:List Ck}{room:Nat}{v:Value}{mb:Nat}{L:List Bk}
theorem fM.range(h:fM w I b p t gs cs room v mb L){i:Nat}{x:Bk}(hi:L[i]?=some x):∃g c,v=.slice (aT g) L.length c/\g<w.heap.size/\w.rangeAt g (i*144) (jc x.e x.s):=by
 have hlt:=(List.getElem?_eq_some_iff.1 hi).1;have hx:=h.bZ x (List.mem_of_getElem? hi);rcases h.row.2 with⟨_,h0⟩|⟨g,c,cur,rfl,h1,h2,h3,h4,h5,h6⟩
 omega
 ·refine⟨g,c,rfl,(Array.getElem?_eq_some_iff.1 h2).1,fun j u hu=>?_⟩
  have hj:j<144:=by
   have:=(List.getElem?_eq_some_iff.1 hu).1;rwa[sL hx.1 hx.2]at this
  rw[<-Lx L h.bZ i j x hi hj,<-h6]at hu;have hH:Has w g cur 143:=h2;rw[hH.cell,<-hu,List.getElem?_take_of_lt (by omega),Array.getElem?_toList]
theorem fM.slice(h:fM w I b p t gs cs room v mb L):∃a c,v=.slice a L.length c:=by
 rcases h.row.2 with⟨rfl,h0⟩|⟨g,c,cur,rfl,_⟩
 exact⟨none,0,by rw[h0]⟩;exact⟨_,c,rfl⟩
variable{g o:Nat}{e:En}{s:Sp}
theorem tE{w:World}(hr:w.rangeAt g o (jc e s)):w.rangeAt g o (gB e):=by have:=Ba (A:=[]) (cs:=gB e) (C:=gJ s) (k:=0) (w:=w) (b:=g) (o:=o) hr rfl;exact this
theorem AV{w:World}(he:e.ok)(hr:w.rangeAt g o (jc e s)):w.rangeAt g (o+106) (gJ s):=
 Ba (A:=gB e) (cs:=gJ s) (C:=[]) (k:=106) (w:=w) (b:=g) (o:=o) (by rw[List.append_nil];exact hr) (me he)
theorem AA{w:World}(he:e.ok)(hr:w.rangeAt g o (gB e)):w.rangeAt g (o+102) (NN.aa e.wk).toList:=
 Ba (A:=bq e.h++(Lib.byteCells e.id++[i_ e.up,i_ e.ht])) (cs:=(NN.aa e.wk).toList) (C:=[]) (k:=102) (w:=w) (b:=g) (o:=o) (by rw[List.append_nil];unfold gB at hr;simpa using hr) (by simp[er he.1,il he.2])
end
theorem PR{C:World->Prop}{K:Act->Prop}{o:Oper}{a:Act}(x y:Operand)(ho:o.op=.lookup 145 x y true)(m:Value)(hx:a.eval x=m)(k:Value)(hy:a.eval y=k)(r:Value)(hC:∀w',C w'->(Instr.lookup 145 m k true).run Tryz.prog w'=.ok r w')(hk:K (a.put o.dst r)):o.quiet Tryz.prog a C K:=
 ⟨_,fun w' hw'=>by
  unfold Oper.quietAt
  have this:(execOp a.eval o).run Tryz.prog w'=.ok (.value r) w':=by
   unfold execOp;simp only[ho,hx,hy,Sem.run_bind,hC w' hw',Result.andThen_ok];rfl
  rw[this];exact⟨rfl,rfl⟩,hk⟩
variable{w:World}
theorem G8{b:Nat}{l:List UInt8}{t:TypeId}(h:Has w b (ae l) t):w.rangeAt b 0 (Lib.byteCells l):=fun j u hu=>by
 rw[Nat.zero_add,h.cell j,<-Array.getElem?_toList,iD];exact hu
theorem mT:∀w',(∃r:Regrown,w'=Sort.grow (redrawn w r.d) r.os)->Bl w w':=fun w' ⟨r,e⟩=>by rw[e];exact below_regrown w r.d r.os
theorem yu(k:Int)(w:World):ak 103 #[.pointer none,i_ k] w (.bool false):=by
 have hB:=Below.refl w.heap.size w;go_enter Tryz.func103,Tryz.ntmps103;go_wp2_with fail
 go_ret;exact⟨rfl,hB⟩
theorem MC(b n:Nat)(p:Option Addr)(c:Nat)(k:Int)(g1 g2:Bool)(h1:decide ((0:Int)<=k)=g1)(h2:decide (k<(n:Int))=g2)(w:World)(hv:w.cell? ⟨b,84,none⟩=some (.slice p n c)):ak 103 #[af b,i_ k] w (.bool (g1&&g2)):=by
 have hB:=Below.refl w.heap.size w;cases g1
 ·go_enter Tryz.func103,Tryz.ntmps103;go_wp2_with fail
  go_ret;exact⟨rfl,hB⟩
 ·go_enter Tryz.func103,Tryz.ntmps103;go_wp2_with fail
  go_ret;exact⟨by cases g2<;>rfl,hB⟩
theorem len_nil(w:World):ak 92 #[.pointer none] w (i_ 0):=by
 have hB:=Below.refl w.heap.size w;go_enter Tryz.func92,Tryz.ntmps92;go_wp2_with fail
 go_ret;exact⟨rfl,hB⟩
theorem EO(b n:Nat)(p:Option Addr)(c:Nat)(w:World)(hv:w.cell? ⟨b,84,none⟩=some (.slice p n c)):ak 92 #[af b] w (i_ n):=by
 have hB:=Below.refl w.heap.size w;go_enter Tryz.func92,Tryz.ntmps92;go_wp2_with fail
 go_ret;exact⟨rfl,hB⟩
theorem AP(b mb:Nat)(id:List UInt8)(hid:id.length=32)(w:World)(c:Int)(g:Bool)(z:Int)(hz:z=if g then c else -1)(hv:w.cell? ⟨b,85,none⟩=some (.map (some mb)))(hL:∀w',Bl w w'->(Instr.lookup 145 (.map (some mb)) (.agg (ae id)) true).run Tryz.prog w'=.ok (.tuple #[i_ c,.bool g]) w'):ak 120 #[af b,.agg (ae id)] w (i_ z):=by
 go_enter Tryz.func120,Tryz.ntmps120;go_upto_region 1 with fail
 generalize hw0:World.alloc _ _=v0;have hB:Bl w v0:=dd hw0;have hI:Has v0 w.heap.size (ae id) 28:=by rw[<-hw0];exact Has.new _ _
 clear hw0;have hv0:=(hB.cell (p:=⟨b,85,none⟩) (block_lt_of_cell hv)).trans hv;have q1:∀d os,(Sort.grow (redrawn v0 d) os).cell? ⟨b,85,none⟩=some (.map (some mb)):=cell_regrown hv0;obtain⟨bI,TF⟩:∃x,x=w.heap.size:=⟨_,rfl⟩;rw[<-TF]at hI|-;clear TF;have qI:=gv (G8 hI) (by rw[Lib.byteCells_length];omega);have s1:=il hid;have hL0:∀w',(∃r:Regrown,w'=Sort.grow (redrawn v0 r.d) r.os)->(Instr.lookup 145 (.map (some mb)) (.agg (ae id)) true).run Tryz.prog w'=.ok (.tuple #[i_ c,.bool g]) w':=fun w' h=>hL w' (hB.trans ((mT w' h).mono hB.size))
 go_upto_region 3 with fail
 refine wp_region_quiet_below (by kernel_rfl) (by kernel_rfl) ?_
 repeat(first
  | (go_big_quiet_want;(with_reducible first|refine nB _ rfl bI 0 rfl id s1 qI ?_|refine PR _ _ rfl (.map (some mb)) rfl (.agg (ae id)) rfl _ hL0 ?_);(simp only[Act.put,List.setIfInBounds_toArray,List.set_cons_zero,List.set_cons_succ]);go_big_quiet_on)
  | go_big_quiet_step (fail))
 refine wpQuiet_nil ?_;intro v1 hw';have hB1:=hB.trans ((mT v1 hw').mono hB.size);cases g
 ·subst hz;go_wp2_with fail
  go_ret;exact⟨rfl,hB1⟩
 ·subst hz;go_wp2_with fail
  go_ret;exact⟨rfl,hB1⟩
theorem sk(p:Value)(k:Int)(w:World)(KH:aQ w 103 #[p,i_ k] (.bool false)):ak 65 #[p,i_ k] w (.tuple #[.agg (bT lg),.bool false]):=by
 have z0:=gE cZ;have z1:=gE ee;go_enter Tryz.func65,Tryz.ntmps65;go_upto_region 1 with fail
 generalize hw0:World.alloc _ _=v0;have hB:Bl w v0:=dd hw0;have hR:bB v0 w.heap.size je:=by rw[<-hw0];exact gL w
 clear hw0;obtain⟨bR,hbR⟩:∃x,x=w.heap.size:=⟨_,rfl⟩;rw[<-hbR]at hR|-;have TS:Hid (w.heap.size<=bR):=h_ (by omega);clear hbR;go_wp2_with fail
 refine au (KH.out _ hB) fun v1 hb=>?_;replace hR:=hR.on hb;replace hB:=ah hB hb;clear hb
 go_wp2_with (first
  | (with_reducible refine ve rfl _ rfl rfl ?_)
  | (with_reducible refine gX rfl _ _ rfl _ _ lg rfl rfl rfl z1 hR z0 ?_))
 refine bodyPost_ret (BQ Tryz.results65 _ _ _ rfl rfl (Has.row hR _) z1) rfl ⟨rfl,below_setRow hB TS.out _⟩
theorem LB(b g n c k:Nat)(e:En)(he:e.ok)(hk:k<n)(w:World)(hv:w.cell? ⟨b,84,none⟩=some (.slice (aT g) n c))(hr:w.rangeAt g (k*144) (gB e))(KH:aQ w 103 #[af b,i_ k] (.bool true)):ak 65 #[af b,i_ k] w (.tuple #[.agg (bT e),.bool true]):=by
 have z0:=gE cZ;have z1:=gE he;have z2:=me he;go_enter Tryz.func65,Tryz.ntmps65;go_upto_region 1 with fail
 generalize hw0:World.alloc _ _=v0;have hB:Bl w v0:=dd hw0;have hR:bB v0 w.heap.size je:=by rw[<-hw0];exact gL w
 clear hw0;obtain⟨bR,hbR⟩:∃x,x=w.heap.size:=⟨_,rfl⟩;rw[<-hbR]at hR|-;have TS:Hid (w.heap.size<=bR):=h_ (by omega);clear hbR;go_wp2_with fail
 refine(KH.out _ hB).mono ?_;rintro r v1 ⟨rfl,hb⟩;replace hR:=hR.on hb;replace hB:=ah hB hb;clear hb;have hv1:=(hB.cell (p:=⟨b,84,none⟩) (block_lt_of_cell hv)).trans hv;have hr1:v1.rangeAt g (k*144) (gB e):=iE hr hB (by omega);clear hv hr
 go_wp2_with (first
  | (with_reducible refine Oj rfl _ rfl g (k*144) rfl e hr1 z2 ?_)
  | (with_reducible refine gX rfl _ _ rfl _ _ e rfl rfl rfl z1 hR z0 ?_))
 refine bodyPost_ret (BQ Tryz.results65 _ _ _ rfl rfl (Has.row hR _) z1) rfl ⟨rfl,below_setRow hB TS.out _⟩
def JV:Option Nat->Int
 | some i=>(i:Int)
 | none=>-1
section
variable{w:World}{F:Nat->Prop}{b:Nat}{r:Ru}{M:List aq}
theorem BP(h:iq w F b r M):ak 92 #[af b] w (i_ (M.length:Nat)):=by obtain⟨_,I,p,t,v,mb,L,h1,h2,h3,h4⟩:=h;obtain⟨a,c,rfl⟩:=h1.slice;have:=EO b L.length a c w (iB h1.has h1.Su);rwa[h3.length]at this
theorem xC(h:iq w F b r M)(id:List UInt8)(hid:id.length=32):ak 120 #[af b,.agg (ae id)] w (i_ (JV (Ar.j7 r.g M id))):=by
 obtain⟨_,I,p,t,v,mb,L,h1,h2,h3,h4⟩:=h;have hf:=h3.find id;obtain⟨c,hc,hi⟩:=h1.map.look hid;rw[hf]at hc hi;refine AP b mb id hid w c (Ar.j7 r.g M id).isSome _ ?_ (IT h1.has h1.Su) fun w' hb=>?_
 ·cases hq:Ar.j7 r.g M id with
  | none=>rfl
  | some i=>exact(hi i hq).symm
 exact hc w' (hb.block mb h1.map.lt)
theorem jy(h:iq w F b r M){i:Nat}{e:aq}(he:M[i]?=some e):(bs r e).ok:=by obtain⟨_,I,p,t,v,mb,L,h1,h2,h3,h4⟩:=h;obtain⟨s,hs⟩:=h3.at he;exact(h1.bZ _ (List.mem_of_getElem? hs)).1
theorem kZ(h:iq w F b r M)(k:Int)(g:Bool)(hg:(decide (0<=k)&&decide (k<(M.length:Nat)))=g):ak 103 #[af b,i_ k] w (.bool g):=by obtain⟨_,I,p,t,v,mb,L,h1,h2,h3,h4⟩:=h;obtain⟨a,c,rfl⟩:=h1.slice;have:=MC b L.length a c k _ _ rfl rfl w (iB h1.has h1.Su);rwa[h3.length,hg]at this
theorem Ek(h:iq w F b r M){i:Nat}{e:aq}(he:M[i]?=some e)(k:Int)(hk:k=(i:Nat)):ak 65 #[af b,i_ k] w (.tuple #[.agg (bT (bs r e)),.bool true]):=by
 subst hk;have hi:=(List.getElem?_eq_some_iff.1 he).1;have KH:aQ w 103 #[af b,i_ (i:Nat)] (.bool true):=h_ fun w' hb=>kZ (h.below hb) _ true (by rw[Bool.and_eq_true];exact⟨decide_eq_true (by omega),decide_eq_true (by omega)⟩)
 have ho:=jy h he;obtain⟨_,I,p,t,v,mb,L,h1,h2,h3,h4⟩:=h;obtain⟨s,hs⟩:=h3.at he;obtain⟨g,c,rfl,hg,hr⟩:=h1.range hs;exact LB b g L.length c i (bs r e) ho (by rw[h3.length];exact hi) w (iB h1.has h1.Su) (tE hr) KH
theorem Dl(h:iq w F b r M)(k:Int)(hk:¬(0<=k/\k<(M.length:Nat))):ak 65 #[af b,i_ k] w (.tuple #[.agg (bT lg),.bool false]):=
 sk _ k w (h_ fun w' hb=>kZ (h.below hb) k false (by
  rw[Bool.and_eq_false_iff];by_cases h0:0<=k;exact .inr (decide_eq_false (by omega));exact .inl (decide_eq_false h0)))
end
theorem CF(k:Int)(w:World):ak 65 #[.pointer none,i_ k] w (.tuple #[.agg (bT lg),.bool false]):=
 sk _ k w (h_ fun w' _=>yu k w')
open NN.Si
def Ph(k:Nat)(Pre Post:World->Prop)(l:Array Bool)(w:World):Prop:=(l.getD k false=false->Pre w)/\(l.getD k false=true->Post w)
section
variable{k i:Nat}{Pre Post:World->Prop}{l:Array Bool}{w w':World}
theorem Ph.keep(h:Ph k Pre Post l w)(hi:i<l.size)(hk:i≠k:=by decide):Ph k Pre Post (l.setIfInBounds i true) w:=by unfold Ph at*;rwa[gz l i k hi hk]
theorem Ph.pre(h:Ph k Pre Post l w)(hl:(l.setIfInBounds i true).getD k false=false)(hi:i<l.size)(hk:i≠k):Pre w:=h.1 (by rw[<-gz l i k hi hk];exact hl)
theorem Ph.made(hl:(l.setIfInBounds i true).getD k false=false)(hp:Pre w'):Ph k Pre Post (l.setIfInBounds i true) w':=⟨fun _=>hp,fun h=>by rw[hl]at h;cases h⟩
theorem Ph.last(hi:k<l.size)(hp:Post w'):Ph k Pre Post (l.setIfInBounds k true) w':=⟨fun h=>(by rw[gF _ _ _ hi,if_pos rfl]at h;cases h),fun _=>hp⟩
theorem Ph.zero(hl:∀i,l.getD i false=false)(hp:Pre w):Ph k Pre Post l w:=⟨fun _=>hp,fun h=>by rw[hl]at h;cases h⟩
end
def ir(k s:Nat)(Pre:World->Prop)(Post:Value->World->Prop)(l:Array Bool)(a:Act)(w:World):Prop:=(l.getD k false=false->Pre w)/\(l.getD k false=true->Post (a.eval (.tmp s)) w)
section
variable{k i s:Nat}{Pre:World->Prop}{Post:Value->World->Prop}{l:Array Bool}{a:Act}{w w':World}
theorem ir.keep(h:ir k s Pre Post l a w)(hi:i<l.size)(hk:i≠k:=by decide){d:Option Tmp}{u:Value}(hd:d≠some s:=by decide):ir k s Pre Post (l.setIfInBounds i true) (a.put d u) w:=by unfold ir at*;rwa[gz l i k hi hk,Act.eval_put (fun d' hdd e=>hd (by rw[hdd];cases e;rfl))]
theorem ir.pre(h:ir k s Pre Post l a w)(hl:(l.setIfInBounds i true).getD k false=false)(hi:i<l.size)(hk:i≠k):Pre w:=h.1 (by rw[<-gz l i k hi hk];exact hl)
theorem ir.made{a':Act}(hl:(l.setIfInBounds i true).getD k false=false)(hp:Pre w'):ir k s Pre Post (l.setIfInBounds i true) a' w':=⟨fun _=>hp,fun h=>by rw[hl]at h;cases h⟩
theorem ir.last(u:Value)(hi:k<l.size)(hp:Post (a.eval (.tmp s)) w'):ir k s Pre Post (l.setIfInBounds k true) (a.put none u) w':=⟨fun h=>(by rw[gF _ _ _ hi,if_pos rfl]at h;cases h),fun _=>hp⟩
theorem ir.zero(hl:∀i,l.getD i false=false)(hp:Pre w):ir k s Pre Post l a w:=⟨fun _=>hp,fun h=>by rw[hl]at h;cases h⟩
end
section
variable{ρ:Operand->Value}{o:Oper}{w:World}
variable{x y:Operand}{p:Addr}
theorem cG(ho:o.op=.nilCheck x)(hx:ρ x=.pointer (some p)):(execOp ρ o).run Tryz.prog w=.ok (.value (.pointer (some p))) w:=by unfold execOp;simp only[ho,hx];rfl
theorem xJ(w:World)(g:Nat):(Instr.fieldAt 147 (af g) 0).run Tryz.prog w=.ok (af g) w:=by kernel_rfl
theorem ln(w:World)(g:Nat):(Instr.fieldAt 147 (af g) 2).run Tryz.prog w=.ok (.pointer (some ⟨g,84,none⟩)) w:=by kernel_rfl
theorem wF(w:World)(g:Nat):(Instr.fieldAt 147 (af g) 3).run Tryz.prog w=.ok (.pointer (some ⟨g,85,none⟩)) w:=by kernel_rfl
theorem vL(w:World)(g:Nat):(Instr.fieldAt 60 (af g) 1).run Tryz.prog w=.ok (.pointer (some ⟨g,68,none⟩)) w:=by kernel_rfl
variable{T:TypeId}{n g m c:Nat}
theorem dm(ho:o.op=.fieldAddr T x n)(hx:ρ x=af g)(hf:(Instr.fieldAt T (af g) n).run Tryz.prog w=.ok (.pointer (some ⟨g,m,none⟩)) w):(execOp ρ o).run Tryz.prog w=.ok (.value (.pointer (some ⟨g,m,none⟩))) w:=by unfold execOp;simp only[ho,hx,Sem.run_bind,hf,Result.andThen_ok];rfl
variable{a:Option Addr}
theorem Jo(h:w.cell? p=some (.slice a n c)):(loadVar 144 p).run Tryz.prog w=.ok (.slice a n c) w:=by go_simp
theorem K6(ho:o.op=.load 144 x)(hx:ρ x=.pointer (some p))(hc:w.cell? p=some (.slice a n c)):(execOp ρ o).run Tryz.prog w=.ok (.value (.slice a n c)) w:=by unfold execOp;simp only[ho,hx,Instr.loadAt,Instr.sureAddr,Sem.run_bind,Sem.run_pure,Result.andThen_ok,Jo hc]
variable{u v:Value}
theorem MV(hf:w.frozen? p=false)(hc:w.cell? p=some u):(storeVar 144 p (.slice a n c)).run Tryz.prog w=.ok () (w.setCell p (.slice a n c)):=by go_simp
theorem PG(ho:o.op=.store 144 x y)(hx:ρ x=.pointer (some p))(hy:ρ y=.slice a n c)(hf:w.frozen? p=false)(hc:w.cell? p=some u):(execOp ρ o).run Tryz.prog w=.ok .skip (w.setCell p (.slice a n c)):=by unfold execOp;simp only[ho,hx,hy,Instr.storeAt,Instr.sureAddr,Sem.run_bind,Sem.run_pure,Result.andThen_ok,MV hf hc]
theorem LO{m:Option Nat}(h:w.cell? p=some (.map m)):(loadVar 145 p).run Tryz.prog w=.ok (.map m) w:=by go_simp
theorem Og{m:Option Nat}(ho:o.op=.load 145 x)(hx:ρ x=.pointer (some p))(hc:w.cell? p=some (.map m)):(execOp ρ o).run Tryz.prog w=.ok (.value (.map m)) w:=by unfold execOp;simp only[ho,hx,Instr.loadAt,Instr.sureAddr,Sem.run_bind,Sem.run_pure,Result.andThen_ok,LO hc]
variable{e:En}
theorem Gu(ho:o.op=.load 60 x)(hx:ρ x=af g)(hg:w.rangeAt g 0 (gB e))(hs:(gB e).length=106):(execOp ρ o).run Tryz.prog w=.ok (.value (.agg (bT e))) w:=
 ic 60 ho hx Tryz.underlying60 rfl (iY.trans (by rw[hs])) hg
variable{s:Sp}
theorem JS(ho:o.op=.load 141 x)(hx:ρ x=af g)(hg:w.rangeAt g 0 (gJ s))(hs:(gJ s).length=38):(execOp ρ o).run Tryz.prog w=.ok (.value (.agg (br s))) w:=
 ic 141 ho hx Tryz.underlying141 rfl (ie.trans (by rw[hs])) hg
theorem Qb{off:Nat}{l:List UInt8}(ho:o.op=.load 28 x)(hx:ρ x=.pointer (some ⟨g,off,none⟩))(hg:w.rangeAt g off (Lib.byteCells l))(hs:l.length=32):(execOp ρ o).run Tryz.prog w=.ok (.value (.agg (ae l))) w:=by have:=ic (P:=Tryz.prog) (ρ:=ρ) (o:=o) (w:=w) 28 ho hx (cs:=Lib.byteCells l) Tryz.underlying28 rfl (iy.trans (by rw[il hs])) hg;rw[this,<-iD]
theorem CW{p:NN.Pr}(ho:o.op=.load 32 x)(hx:ρ x=af g)(hg:w.rangeAt g 0 (NN.dR p))(hs:(NN.dR p).length=83):(execOp ρ o).run Tryz.prog w=.ok (.value (.agg (NN.aE p))) w:=
 ic 32 ho hx Tryz.underlying32 rfl (NN.fG.trans (by rw[hs])) hg
theorem OM(ho:o.op=.build 143 #[(0,x),(1,y)])(hx:ρ x=.agg (bT e))(hy:ρ y=.agg (br s))(he:e.ok)(hs:s.ok):(execOp ρ o).run Tryz.prog w=.ok (.value (.agg (jc e s).toArray)) w:=by unfold execOp;simp only[ho,Sem.run_bind];rw[show(#[(0,x),(1,y)]:Array (Nat×Operand)).map (fun(i,x)=>(i,ρ x))=#[(0,.agg (bT e)),(1,.agg (br s))] by simp[hx,hy],run_build w 143 _ _ (Pd e s he hs)];rfl
theorem ym:∃i z,Tryz.prog.info? 143=some i/\i.zero=some z/\i.size=144/\i.bytes=272/\z.cells.size=144:=sJ (by kernel_rfl) (by kernel_rfl) (by kernel_rfl)
theorem GM(cs:Array Value)(h:cs.size=144)(w:World):(Instr.buildSlice 144 1 #[(0,.agg cs)]).run Tryz.prog w=.ok (.slice (some ⟨w.heap.size,0,none⟩) 1 1) (w.alloc (.cells cs 143)):=by obtain⟨i,z,hi,hz,h1,h2,h3⟩:=ym;refine run_buildSlice w 144 143 1 _ cs i z Tryz.underlying144 hi hz (by rw[h1];decide) (by rw[h1];decide) ?_;rw[h1];exact tS 144 _ cs (by simp) h
theorem Oz{cs:Array Value}(ho:o.op=.buildSlice 144 1 #[(0,x)])(hx:ρ x=.agg cs)(h:cs.size=144):(execOp ρ o).run Tryz.prog w=.ok (.value (.slice (some ⟨w.heap.size,0,none⟩) 1 1)) (w.alloc (.cells cs 143)):=
 jO ho hx (GM cs h w)
theorem Q_{xs:List Value}(he:e.ok)(hs:s.ok)(hx:ρ x=v)(hown:w.ownsRow 0 143 144 v n xs)(hy:ρ y=.slice (aT g) 1 1)(hg:Has w g (jc e s).toArray 143)(hn:n<=1000):∃v' w',(∀o:Oper,o.op=.call { callee:=.builtin .append,args:=#[x,y],argTypes:=#[144,144] }->o.type=144->(execOp ρ o).run Tryz.prog w=.ok (.value v') w')/\w'.ownsRow 0 143 144 v' (n+1) (xs++jc e s)/\w.grownBy w' v.ownBlock/\(v'.ownBlock=v.ownBlock\/v'.ownBlock=some w.heap.size):=by
 obtain⟨i,z,hi,hz,h1,h2,h3⟩:=ym
 obtain⟨v',w',hr,g1,g2,_,g4⟩:=run_append_own_at (P:=Tryz.prog) w 0 144 144 143 i z 144 272 Tryz.underlying144 hi hz h1 h2 h3 (by decide) v n xs hown ⟨g,0,none⟩ 1 1 (jc e s) (by rw[sL he hs]) (fun j u hj=>by
  rw[Addr.add_lit,Nat.zero_add,hg.cell j,List.getElem?_toArray];exact hj) (tV e s) (by unfold maxLen;omega) (by omega) (Nat.zero_le _)
 refine⟨v',w',fun o ho hty=>?_,g1,g2,g4⟩;unfold execOp;simp only[ho,hty,resolve,invoke,builtin,Sem.run_bind,Sem.run_pure,Result.andThen_ok,List.map_toArray,List.map_cons,List.map_nil,hx,hy,hr]
theorem Gc{z:Operand}{b:Nat}{k:Value}{w':World}(ho:o.op=.mapUpdate 145 x y z)(hx:ρ x=.map (some b))(hy:ρ y=k)(hz:ρ z=v)(hr:(Instr.mapUpdate 145 (.map (some b)) k v).run Tryz.prog w=.ok () w'):(execOp ρ o).run Tryz.prog w=.ok .skip w':=by unfold execOp;simp only[ho,hx,hy,hz,Sem.run_bind,Sem.run_pure,Result.andThen_ok,hr]
theorem gw{j:Nat}(ho:o.op=.indexAddr T x y)(hx:ρ x=.slice (aT g) n c)(hy:ρ y=i_ j)(hf:(Instr.indexAt T (.slice (aT g) n c) (i_ j)).run Tryz.prog w=.ok (.pointer (some ⟨g,m,none⟩)) w):(execOp ρ o).run Tryz.prog w=.ok (.value (.pointer (some ⟨g,m,none⟩))) w:=by unfold execOp;simp only[ho,hx,hy,Sem.run_bind,hf,Result.andThen_ok];rfl
theorem Cv(w:World)(g j n c:Nat)(hj:j<n):(Instr.indexAt 144 (.slice (aT g) n c) (i_ j)).run Tryz.prog w=.ok (.pointer (some ⟨g,j*144,none⟩)) w:=by go_simp
end
end An
namespace An
open Mem Sc
def Ce(p:NN.Pr)(vH vI vA vW:Value)(room:Nat):List Value:=NN.dR p++[vH,vI,vA,vW,i_ room]
def iz(p:NN.Pr)(vH vI vA vW:Value)(room:Nat):Array Value:=(Ce p vH vI vA vW room).toArray
theorem FA(parts:List (Nat×Value)):Tryz.prog.built 72 parts=Instr.fill ((#[(0,83),(83,1),(84,1),(85,1),(86,1),(87,1)]:Array (Nat×Nat))[·]?) (NN.dR oq++[Value.slice none 0 0,Value.slice none 0 0,Value.slice none 0 0,Value.slice none 0 0,Value.int .i64 0]).toArray parts:=by kernel_rfl
theorem qG{V8:Nat->Option (Nat×Nat)}(k off:Nat)(A:List Value)(x y:Value)(B:List Value)(parts:List (Nat×Value))(ho:V8 k=some (off,1))(hA:A.length=off)(hy:y.cells=#[y]):Instr.fill V8 (A++(x::B)).toArray ((k,y)::parts)=Instr.fill V8 ((A++[y])++B).toArray parts:=by rw[show A++(x::B)=A++([x]++B) by simp,gG (off:=off) (n:=1) A [x] B [y] ho hA rfl hy rfl];simp
theorem IE(p:NN.Pr)(h:p.ok)(a1 a2 a3 a4:Option Addr)(n1 n2 n3 n4 c1 c2 c3 c4 room:Nat):Tryz.prog.built 72 [(0,.agg (NN.aE p)),(1,.slice a1 n1 c1),(2,.slice a2 n2 c2),(3,.slice a3 n3 c3),(4,.slice a4 n4 c4),(5,Value.int .i64 (room:Int))]=some (iz p (.slice a1 n1 c1) (.slice a2 n2 c2) (.slice a3 n3 c3) (.slice a4 n4 c4) room):=by
 rw[FA];have h0:=jz h;unfold iz Ce
 rw[show NN.dR oq++[Value.slice none 0 0,Value.slice none 0 0,Value.slice none 0 0,Value.slice none 0 0,Value.int .i64 0]=[]++(NN.dR oq++[Value.slice none 0 0,Value.slice none 0 0,Value.slice none 0 0,Value.slice none 0 0,Value.int .i64 0])from rfl,
  gG (off:=0) (n:=83) [] (NN.dR oq) _ (NN.dR p) rfl rfl (jz n0) rfl h0,List.nil_append,
  qG 1 83 (NN.dR p) _ _ _ _ rfl h0 rfl,qG 2 84 _ _ _ _ _ rfl (by simp[h0]) rfl,qG 3 85 _ _ _ _ _ rfl (by simp[h0]) rfl,qG 4 86 _ _ _ _ _ rfl (by simp[h0]) rfl,qG 5 87 _ _ _ _ _ rfl (by simp[h0]) rfl,uo]
 simp
structure sV (w:World) (I:Nat->Prop) (b:Nat) (p:NN.Pr) (t:Tl) (gs:List Gt) (cs:List Ck) (room:Nat) (vH vI vA vW:Value) (hs:List Hd) (ids:List (List UInt8)) (up:List Int) (ws:List Nat):Prop where
 has:Has w b (iz p vH vI vA vW room) 72
 Su:p.ok
 one:p.one
 tt:p.tl=t.C
 tok:t.ok
 gn:t.gn=gs.length
 cn:t.cn=cs.length
 TG:w.ownsRow 0 30 68 vH hs.length (hs.flatMap bq)
 TU:w.ownsRow 0 28 32 vI ids.length (ids.flatMap Lib.byteCells)
 TH:w.ownsRow 0 3 1 vA up.length (up.map (Value.int .i64))
 TV:w.ownsRow 0 26 4 vW ws.length (ws.flatMap fun z=>(NN.aa z).toList)
 Sl:fR I (fun w=>aJ w t.ga gs) w
 checks:fR I (fun w=>az w t.ca cs) w
 nb:¬I b
 nH:∀k,vH.ownBlock=some k->¬I k
 nI:∀k,vI.ownBlock=some k->¬I k
 nA:∀k,vA.ownBlock=some k->¬I k
 nW:∀k,vW.ownBlock=some k->¬I k
 lt:∀i,I i->i<w.heap.size
 bZ:∀h∈hs,h.ok
 name:∀l∈ids,l.length=32
 small:∀z∈ws,z<NN.Nm.ai
def y6(I:Nat->Prop)(b:Nat)(vH vI vA vW:Value):Nat->Prop:=fun i=>I i\/i=b\/vH.ownBlock=some i\/vI.ownBlock=some i\/vA.ownBlock=some i\/vW.ownBlock=some i
section
variable{w w':World}{I G:Nat->Prop}{b:Nat}{p:NN.Pr}{t:Tl}{gs:List Gt}{cs:List Ck}{room:Nat}{vH vI vA vW:Value}{hs:List Hd}{ids:List (List UInt8)}{up:List Int}{ws:List Nat}
theorem sV.on(h:sV w I b p t gs cs room vH vI vA vW hs ids up ws)(k:Kp G w w')(hG:∀i,y6 I b vH vI vA vW i->¬G i):sV w' I b p t gs cs room vH vI vA vW hs ids up ws:=
 { h with
  has:=k.has h.has (hG b (.inr (.inl rfl)))
  TG:=ax h.TG k fun i hi=>hG i (.inr (.inr (.inl hi)))
  TU:=ax h.TU k fun i hi=>hG i (.inr (.inr (.inr (.inl hi))))
  TH:=ax h.TH k fun i hi=>hG i (.inr (.inr (.inr (.inr (.inl hi)))))
  TV:=ax h.TV k fun i hi=>hG i (.inr (.inr (.inr (.inr (.inr hi)))))
  Sl:=h.Sl.on k fun i hi=>hG i (.inl hi)
  checks:=h.checks.on k fun i hi=>hG i (.inl hi)
  lt:=fun i hi=>Nat.lt_of_lt_of_le (h.lt i hi) k.size }
theorem sV.below(h:sV w I b p t gs cs room vH vI vA vW hs ids up ws)(hb:Bl w w'):sV w' I b p t gs cs room vH vI vA vW hs ids up ws:=h.on (G:=fun _=>False) (Kp.of hb) fun _ _ hf=>hf
theorem sV.SS(h:sV w I b p t gs cs room vH vI vA vW hs ids up ws){i:Nat}(hi:y6 I b vH vI vA vW i):i<w.heap.size:=by
 rcases hi with hi|rfl|hi|hi|hi|hi
 exact h.lt i hi;exact h.has.lt;exact(cK h.TG hi).1;exact(cK h.TU hi).1;exact(cK h.TH hi).1;exact(cK h.TV hi).1
theorem cC{w:World}{i j:Nat}{xs ys:Array Value}{t u:TypeId}(hi:w.heap[i]?=some (.cells xs t (0,0)))(hj:w.heap[j]?=some (.cells ys u (0,0)))(h:t≠u):i≠j:=by
 rintro rfl;rw[hi]at hj;injection hj with hj
 injection hj with _ hj
 exact h hj
end
open Ar (aq Ru aB)
theorem OK(a:Option Addr)(n c:Nat)(L:List Gt)(hn:n=L.length)(hl:n<=1000)(w:World)(hA:aJ w a L):aG 171 #[.slice a n c] w fun e w'=>∃a' c',e=.returned (.slice a' n c')/\(aJ w' a' L/\(0<L.length->∀ad,a'=some ad->w.heap.size<=ad.block))/\Bl w w':=by
 cases a with
 | none=>
  have h0:n=0:=by
   by_cases h:0<L.length;obtain⟨_,_,e,_⟩:=hA h;cases e;omega
  refine(N0 n c w).mono ?_;rintro e w' ⟨rfl,rfl⟩;exact⟨none,0,by rw[h0],⟨fun h=>absurd h (by omega),fun _ ad e=>by cases e⟩,bf⟩
 | some ad=>
  by_cases h0:0<L.length;obtain⟨ab,ao,e,hlt,hc⟩:=hA h0;cases e;have hlen:∀x∈L,(j8 x).length=2:=(fun _ _=>rfl);refine(FG ⟨ab,ao,none⟩ n c L hn hl w (fun j u hj=>?_)).mono ?_;rw[Addr.add_lit];refine A6 j8 2 (by decide) L hlen (fun i x hi=>?_) j u hj;obtain⟨h1,h2⟩:=List.getElem?_eq_some_iff.1 hi;rw[<-h2];exact hc i h1;rintro e w' ⟨v',rfl,ho,hb⟩;obtain⟨a',c',rfl,_,h3⟩:=wX j8 2 L hlen ho hn;obtain⟨g,rfl,h4,h5,h6⟩:=h3 (by omega);exact⟨_,c',rfl,⟨fun _=>⟨g,0,rfl,h5,fun i hi=>by rw[Nat.zero_add];exact h6 i _ (List.getElem?_eq_getElem hi)⟩,fun _ ad e=>by cases e;exact h4⟩,hb⟩;obtain rfl:L=[]:=List.eq_nil_of_length_eq_zero (by omega);refine(FG ad n c [] hn hl w (fun j u hj=>by simp at hj)).mono ?_;rintro e w' ⟨v',rfl,ho,hb⟩;obtain⟨a',c',rfl,_⟩:=wX j8 2 [] (fun x hx=>by cases hx) ho hn;exact⟨a',c',rfl,⟨fun h=>by simp at h,fun h=>by simp at h⟩,hb⟩
theorem PK(a:Option Addr)(n c:Nat)(L:List Ck)(hn:n=L.length)(hl:n<=1000)(w:World)(hA:az w a L):aG 172 #[.slice a n c] w fun e w'=>∃a' c',e=.returned (.slice a' n c')/\(az w' a' L/\(0<L.length->∀ad,a'=some ad->w.heap.size<=ad.block))/\Bl w w':=by
 cases a with
 | none=>
  have h0:n=0:=by
   by_cases h:0<L.length;obtain⟨_,_,e,_⟩:=hA h;cases e;omega
  refine(Oa n c w).mono ?_;rintro e w' ⟨rfl,rfl⟩;exact⟨none,0,by rw[h0],⟨fun h=>absurd h (by omega),fun _ ad e=>by cases e⟩,bf⟩
 | some ad=>
  by_cases h0:0<L.length;obtain⟨ab,ao,e,hlt,hc⟩:=hA h0;cases e;have hlen:∀x∈L,(jd x).length=33:=(fun x hx=>nJ (by obtain⟨i,hi,e⟩:=List.mem_iff_getElem.1 hx;rw[<-e];exact(hc i hi).1));refine(D0 ⟨ab,ao,none⟩ n c L (fun x hx=>by obtain⟨i,hi,e⟩:=List.mem_iff_getElem.1 hx;rw[<-e];exact(hc i hi).1) hn hl w (fun j u hj=>?_)).mono ?_;rw[Addr.add_lit];refine A6 jd 33 (by decide) L hlen (fun i x hi=>?_) j u hj;obtain⟨h1,h2⟩:=List.getElem?_eq_some_iff.1 hi;rw[<-h2];exact(hc i h1).2;rintro e w' ⟨v',rfl,ho,hb⟩;obtain⟨a',c',rfl,_,h3⟩:=wX jd 33 L hlen ho hn;obtain⟨g,rfl,h4,h5,h6⟩:=h3 (by omega);exact⟨_,c',rfl,⟨fun _=>⟨g,0,rfl,h5,fun i hi=>⟨(hc i hi).1,by rw[Nat.zero_add];exact h6 i _ (List.getElem?_eq_getElem hi)⟩⟩,fun _ ad e=>by cases e;exact h4⟩,hb⟩;obtain rfl:L=[]:=List.eq_nil_of_length_eq_zero (by omega);refine(D0 ad n c [] (fun x hx=>by cases hx) hn hl w (fun j u hj=>by simp at hj)).mono ?_;rintro e w' ⟨v',rfl,ho,hb⟩;obtain⟨a',c',rfl,_⟩:=wX jd 33 [] (fun x hx=>by cases hx) ho hn;exact⟨a',c',rfl,⟨fun h=>by simp at h,fun h=>by simp at h⟩,hb⟩
variable{p:NN.Pr}{t:Tl}
theorem uz(tt:p.tl=t.C)(a:Option Addr)(n c:Nat):(NN.aE p).setIfInBounds 5 (.slice a n c)=NN.aE { p with tl:=({ t with ga:=a,gn:=n,gc:=c }:Tl).C }:=by unfold NN.aE NN.dR;rw[tt,List.setIfInBounds_toArray];rfl
theorem xg(tt:p.tl=t.C)(a:Option Addr)(n c:Nat):(NN.aE p).setIfInBounds 6 (.slice a n c)=NN.aE { p with tl:=({ t with ca:=a,cn:=n,cc:=c }:Tl).C }:=by unfold NN.aE NN.dR;rw[tt,List.setIfInBounds_toArray];rfl
variable{w:World}{k:Nat}
theorem Cx(h:NN.aA w k p)(tt:p.tl=t.C)(a:Option Addr)(n c:Nat):NN.aA (w.setCell ⟨k,5,none⟩ (.slice a n c)) k { p with tl:=({ t with ga:=a,gn:=n,gc:=c }:Tl).C }:=by have:=NN.Has.set (i:=5) h (.slice a n c);rwa[uz tt]at this
theorem z_(h:NN.aA w k p)(tt:p.tl=t.C)(a:Option Addr)(n c:Nat):NN.aA (w.setCell ⟨k,6,none⟩ (.slice a n c)) k { p with tl:=({ t with ca:=a,cn:=n,cc:=c }:Tl).C }:=by have:=NN.Has.set (i:=6) h (.slice a n c);rwa[xg tt]at this
def gR(p:NN.Pr)(t:Tl)(ga:Option Addr)(gc:Nat)(ca:Option Addr)(cc:Nat):NN.Pr:={ p with tl:=({ t with ga:=ga,gc:=gc,ca:=ca,cc:=cc }:Tl).C }
def AU(t:Tl)(ga:Option Addr)(gc:Nat)(ca:Option Addr)(cc:Nat):Tl:={ t with ga:=ga,gc:=gc,ca:=ca,cc:=cc }
theorem Fe(t:Tl)(h:t.ok):t.C.length=78:=by unfold Tl.C;simp[h.1,er h.2]
theorem DF(p:NN.Pr)(t:Tl)(h:t.ok)(ga:Option Addr)(gc:Nat)(ca:Option Addr)(cc:Nat):(gR p t ga gc ca cc).ok:=Fe _ h
variable{a:Act}
theorem Kf{ops:Array Oper}{rest:List Oper}{o:Oper}{Q:Exit->Act->World->Prop}(hgd:o.guard=none)(x y:Operand)(ho:o.op=.store 32 x y)(g:Nat)(cz:Array Value)(p':NN.Pr)(h1:p'.one)(hx:a.eval x=af g)(hy:a.eval y=.agg cz)(e:cz=NN.aE p')(hs':(NN.aE p').size=83)(hg:NN.aA w g p)(hs:(NN.aE p).size=83)(hk:wpList Tryz.prog ops Q rest (a.put o.dst undef) (w.setRow g (NN.aE p'))):wpList Tryz.prog ops Q (o::rest) a w:=by subst e;exact wpList_store_row hgd 32 x y ho g (NN.aE p') hx hy 32 (NN.aE p) (Has.out hg) (NN.fG.trans (by rw[hs'])) (by rw[hs,hs']) (all_oneCell_toArray (NN.vO h1)) hk
theorem F5(w:World)(ob:Obj):NN.aA ((w.alloc ob).alloc (.cells Tryz.zeroCells32 32)) (w.heap.size+1) oq:=Has.R6 ob (NN.aE oq) _
theorem O1{fn:Func}{q:Tmp}(hf:fn.results=#[.cell q 32])(tmps:Array Value)(g:Nat)(hp:tmps.getD q undef=af g)(hg:NN.aA w g p)(hs:(NN.aE p).size=83):(results fn tmps).run Tryz.prog w=.ok (.agg (NN.aE p)) w:=
 results_cell_row hf tmps w g 32 (NN.aE p) (0,0) _ hp (Has.out hg) Tryz.underlying32 rfl (NN.fG.trans (by rw[hs]))
theorem D4{B:Nat}{w':World}(h:Below B w w')(p:Addr)(v:Value)(hp:B<=p.block):Below B w (w'.setCell p v):=h.setCell hp v
theorem Hc(p:NN.Pr)(hp:p.ok)(h1:p.one)(t:Tl)(tt:p.tl=t.C)(ht:t.ok)(G K:World->Option Addr->Prop)(w:World)(KG:Hid (∀w',Below w.heap.size w w'->w.heap.size+2<=w'.heap.size->aG 171 #[.slice t.ga t.gn t.gc] w' fun e w''=>∃a' c',e=.returned (.slice a' t.gn c')/\G w'' a'/\Below w'.heap.size w' w''))(KC:Hid (∀w',Below w.heap.size w w'->w.heap.size+2<=w'.heap.size->aG 172 #[.slice t.ca t.cn t.cc] w' fun e w''=>∃a' c',e=.returned (.slice a' t.cn c')/\K w'' a'/\Below w'.heap.size w' w'')):aG 139 #[.agg (NN.aE p)] w fun e w'=>∃ga gc ca cc,e=.returned (.agg (NN.aE (gR p t ga gc ca cc)))/\(∃w1,G w1 ga/\Kp (fun i=>i=w.heap.size\/i=w.heap.size+1) w1 w')/\(∃w1,K w1 ca/\Kp (fun i=>i=w.heap.size\/i=w.heap.size+1) w1 w')/\Below w.heap.size w w':=by
 have hz:=NN.eH hp;have z0:=NN.eH n0;go_enter Tryz.func139,Tryz.ntmps139;go_upto_region 1 with fail
 generalize hw0:World.alloc _ _=v0;have hB:Below w.heap.size w v0:=by rw[<-hw0];exact aY.alloc (by simp) _
 have hP:NN.aA v0 w.heap.size p:=by rw[<-hw0];exact(NN.Has.new _ _).alloc _
 have hsz0:w.heap.size+2<=v0.heap.size:=by rw[<-hw0];simp
 have hR:NN.aA v0 (w.heap.size+1) oq:=by rw[<-hw0];exact F5 w _
 clear hw0;obtain⟨bP,Sf⟩:∃x,x=w.heap.size:=⟨_,rfl⟩;obtain⟨bR,hbR⟩:∃x,x=w.heap.size+1:=⟨_,rfl⟩;rw[<-hbR]at hR|-;rw[<-Sf]at hP|-;have HP:Hid (bP=w.heap.size):=h_ Sf;have HR:Hid (bR=w.heap.size+1):=h_ hbR;have n1:bP≠bR:=by omega
 clear Sf hbR;have c5:=ni hP tt;go_wp2_with fail
 refine(KG.out _ hB hsz0).mono ?_;rintro e v1 ⟨ga,gc,rfl,hg,hb⟩;replace hP:=hP.on hb;replace hR:=hR.on hb;replace hB:=ah hB hb;have hsz1:w.heap.size+2<=v1.heap.size:=Nat.le_trans hsz0 hb.size;clear hb c5 hsz0;have c5:=ni hP tt;have f5:=Has.free hP 5;go_upto_region 2 with fail
 have hP2:=Cx hP tt ga t.gn gc;have hR2:NN.aA (v1.setCell ⟨bP,5,none⟩ (.slice ga t.gn gc)) bR oq:=Has.other hR _ _ (fun e=>n1 e.symm);have hB2:Below w.heap.size w (v1.setCell ⟨bP,5,none⟩ (.slice ga t.gn gc)):=D4 hB _ _ (by rw[<-HP.out];exact Nat.le_refl _);have hk2:Kp (fun i=>i=bP\/i=bR) v1 (v1.setCell ⟨bP,5,none⟩ (.slice ga t.gn gc)):=Kp.gb (fJ v1 bP 5 _) (fun k hk=>.inl (Option.some.inj hk).symm);have hsz2:w.heap.size+2<=(v1.setCell ⟨bP,5,none⟩ (.slice ga t.gn gc)).heap.size:=Nat.le_trans hsz1 hk2.size;clear hsz1;generalize World.setCell _ _ _=v2 at*;clear c5 f5 hP hR hB;have c6:=mV hP2 (t:={ t with ga:=ga,gc:=gc }) rfl;simp only at c6;go_wp2_with fail
 refine(KC.out _ hB2 hsz2).mono ?_;rintro e v3 ⟨ca,cc,rfl,hk,hb⟩;replace hP2:=hP2.on hb;replace hR2:=hR2.on hb;replace hB2:=ah hB2 hb;replace hk2:Kp (fun i=>i=bP\/i=bR) v1 v3:=hk2.trans (Kp.of (F:=fun i=>i=bP\/i=bR) hb) (fun i hi _=>hi);clear hb c6;have c6:=mV hP2 (t:={ t with ga:=ga,gc:=gc }) rfl;simp only at c6;have f6:=Has.free hP2 6;go_upto_region 3 with fail
 have Us:=z_ hP2 (t:={ t with ga:=ga,gc:=gc }) rfl ca t.cn cc;have YA:NN.aA (v3.setCell ⟨bP,6,none⟩ (.slice ca t.cn cc)) bR oq:=Has.other hR2 _ _ (fun e=>n1 e.symm);have hB4:Below w.heap.size w (v3.setCell ⟨bP,6,none⟩ (.slice ca t.cn cc)):=D4 hB2 _ _ (by rw[<-HP.out];exact Nat.le_refl _);have hk3:Kp (fun i=>i=bP\/i=bR) v3 (v3.setCell ⟨bP,6,none⟩ (.slice ca t.cn cc)):=Kp.gb (fJ v3 bP 6 _) (fun k hk=>.inl (Option.some.inj hk).symm);generalize World.setCell _ _ _=v4 at*;replace hk2:=hk2.trans hk3 (fun i hi _=>hi);clear c6 f6 hP2 hR2 hB2;have UW:NN.aA v4 bP (gR p t ga gc ca cc):=Us;clear Us;have z5:=NN.eH (DF p t ht ga gc ca cc)
 have o5:(gR p t ga gc ca cc).one:=by
  intro v hv;have hv':v∈(Value.slice ga t.gn gc::Value.slice ca t.cn cc::(t.nn++bq t.g)):=hv;simp only[List.mem_cons]at hv';rcases hv' with rfl|rfl|hv'
  rfl;rfl;exact h1 v (by rw[tt];unfold Tl.C;simp only[List.mem_cons];exact .inr (.inr hv'))
 obtain⟨q,hq⟩:∃q,q=gR p t ga gc ca cc:=⟨_,rfl⟩;rw[<-hq]at UW z5 o5;have HQ:=h_ hq;clear hq;have ZD:Hid (w.heap.size<=bR):=h_ (by rw[HR.out];omega)
 go_wp2_with (first
  | (with_reducible refine NN.dH rfl _ rfl _ rfl UW z5 ?_)
  | (with_reducible refine Kf rfl _ _ rfl _ _ q o5 rfl rfl rfl z5 YA z0 ?_))
 have hk5:Kp (fun i=>i=bP\/i=bR) v4 (v4.setRow bR (NN.aE q)):=⟨rfl,rfl,rfl,by rw[setRow_size];exact Nat.le_refl _,fun k _ hn=>setRow_other v4 bR k _ (fun e=>hn (.inr e))⟩;refine bodyPost_ret (O1 Tryz.results139 _ _ rfl (Has.row YA _) z5) rfl ⟨ga,gc,ca,cc,HQ.out▸rfl,⟨v1,hg,?_⟩,⟨v3,hk,?_⟩,below_setRow hB4 ZD.out _⟩;exact(hk2.trans hk5 (fun i hi _=>hi)).mono (fun i hi _=>hi.elim (fun h=>.inl (h.trans HP.out)) (fun h=>.inr (h.trans HR.out)));exact(hk3.trans hk5 (fun i hi _=>hi)).mono (fun i hi _=>hi.elim (fun h=>.inl (h.trans HP.out)) (fun h=>.inr (h.trans HR.out)))
theorem MO(p:NN.Pr)(hp:p.ok)(h1:p.one)(t:Tl)(tt:p.tl=t.C)(ht:t.ok)(gs:List Gt)(cs:List Ck)(hgn:t.gn=gs.length)(hcn:t.cn=cs.length)(hgl:t.gn<=1000)(hcl:t.cn<=1000)(w:World)(hG:aJ w t.ga gs)(hC:az w t.ca cs):aG 139 #[.agg (NN.aE p)] w fun e w'=>∃ga gc ca cc,e=.returned (.agg (NN.aE (gR p t ga gc ca cc)))/\fR (fun i=>w.heap.size<=i) (fun w=>aJ w ga gs) w'/\fR (fun i=>w.heap.size<=i) (fun w=>az w ca cs) w'/\Bl w w':=by
 refine(Hc p hp h1 t tt ht (fun w1 a=>aJ w1 a gs/\(0<gs.length->∀ad,a=some ad->w.heap.size+2<=ad.block)) (fun w1 a=>az w1 a cs/\(0<cs.length->∀ad,a=some ad->w.heap.size+2<=ad.block)) w ?_ ?_).mono ?_
 ·refine h_ fun w' hb hs=>(OK t.ga t.gn t.gc gs hgn hgl w' (hG.below hb)).mono ?_
  rintro e w2 ⟨a',c',rfl,⟨q1,q2⟩,q3⟩;exact⟨a',c',rfl,⟨q1,fun h0 ad e=>Nat.le_trans hs (q2 h0 ad e)⟩,q3⟩
 ·refine h_ fun w' hb hs=>(PK t.ca t.cn t.cc cs hcn hcl w' (hC.below hb)).mono ?_
  rintro e w2 ⟨a',c',rfl,⟨q1,q2⟩,q3⟩;exact⟨a',c',rfl,⟨q1,fun h0 ad e=>Nat.le_trans hs (q2 h0 ad e)⟩,q3⟩
 ·rintro e w' ⟨ga,gc,ca,cc,rfl,⟨w1,⟨q1,q2⟩,q3⟩,⟨w2,⟨q4,q5⟩,q6⟩,hb⟩;refine⟨ga,gc,ca,cc,rfl,?_,?_,hb⟩
  ·refine(fR.on (Nc (I:=fun i=>w.heap.size+2<=i) q1 q2) q3 (fun i hi h=>?_)).wide fun i hi=>by omega
   rcases h with h|h<;>omega
  ·refine(fR.on (I3 (I:=fun i=>w.heap.size+2<=i) q4 q5) q6 (fun i hi h=>?_)).wide fun i hi=>by omega
   rcases h with h|h<;>omega
open NN.Si
def RH(b:Nat)(v:Value)(e:En)(s:Sp)(bE bS:Nat):Nat->Value->Prop
 | 0,u=>u=af b
 | 1,u=>u=af b
 | 2,u=>u=af b
 | 3,u=>u=.pointer (some ⟨b,84,none⟩)
 | 4,u=>u=v
 | 5,u=>u=.agg (bT e)
 | 6,u=>u=.agg (br s)
 | 7,u=>u=.agg (jc e s).toArray
 | 10,u=>u=af b
 | 11,u=>u=.pointer (some ⟨b,84,none⟩)
 | _,_=>bE=bE/\bS=bS
def RP(b mb bE:Nat)(e:En)(n:Nat):Nat->Value->Prop
 | 0,u=>u=af b
 | 1,u=>u=af b
 | 2,u=>u=.pointer (some ⟨b,85,none⟩)
 | 3,u=>u=.map (some mb)
 | 4,u=>u=.pointer (some ⟨bE,68,none⟩)
 | 5,u=>u=.agg (ae e.id)
 | 6,u=>u=i_ n
 | _,_=>n=n
def Mj(v1:World)(b:Nat)(p:NN.Pr)(room:Nat)(v:Value)(mb n:Nat)(xs:List Value)(e:En)(s:Sp)(l:Array Bool)(a:Act)(w:World):Prop:=
 (l.getD 8 false=true->l.getD 9 false=false->∃g,a.eval (.tmp 21)=.slice (aT g) 1 1/\Has w g (jc e s).toArray 143)/\
 (l.getD 9 false=false->w.ownsRow 0 143 144 v n xs)/\
 (l.getD 9 false=true->l.getD 12 false=false->∃v',a.eval (.tmp 22)=v'/\w.ownsRow 0 143 144 v' (n+1) (xs++jc e s)/\(v'.ownBlock=v.ownBlock\/∃g,v'.ownBlock=some g/\v1.heap.size<=g))/\
 (l.getD 12 false=false->Has w b (jn p room v mb) 147)/\
 (l.getD 12 false=true->∃v',Has w b (jn p room v' mb) 147/\w.ownsRow 0 143 144 v' (n+1) (xs++jc e s)/\(v'.ownBlock=v.ownBlock\/∃g,v'.ownBlock=some g/\v1.heap.size<=g))
theorem Mj.keep{v1:World}{b:Nat}{room:Nat}{v:Value}{mb n:Nat}{xs:List Value}{e:En}{s:Sp}{l:Array Bool}(h:Mj v1 b p room v mb n xs e s l a w)(i:Nat)(hi:i<l.size)(h8:i≠8:=by decide)(h9:i≠9:=by decide)(h12:i≠12:=by decide){d:Option Tmp}{u:Value}(hd:d≠some 21:=by decide)(hd2:d≠some 22:=by decide):Mj v1 b p room v mb n xs e s (l.setIfInBounds i true) (a.put d u) w:=by obtain⟨p1,p2,p3,p4,p5⟩:=h;unfold Mj;rw[gz l i 8 hi h8,gz l i 9 hi h9,gz l i 12 hi h12,Act.eval_put (fun d' hdd e=>hd (by rw[hdd];cases e;rfl)),Act.eval_put (fun d' hdd e=>hd2 (by rw[hdd];cases e;rfl))];exact⟨p1,p2,p3,p4,p5⟩
theorem uH(b:Nat)(p:NN.Pr)(hp:p.ok)(room:Nat)(sa:Option Addr)(n c:Nat)(mb:Nat)(xs:List Value)(e:En)(he:e.ok)(s:Sp)(hs:s.ok)(hn:n<=900)(w:World)(hA:Has w b (jn p room (.slice sa n c) mb) 147)(hrow:w.ownsRow 0 143 144 (.slice sa n c) n xs)(hbv:∀k,(Value.slice sa n c).ownBlock=some k->k≠b)(hbm:b≠mb)(Q:World->World->Prop)(KM:Hid (∀v2:World,v2.heap[mb]?=w.heap[mb]?->∃v3,(Instr.mapUpdate 145 (.map (some mb)) (.agg (ae e.id)) (.int .i64 (n:Int))).run Tryz.prog v2=.ok () v3/\Q v2 v3/\v2.grownBy v3 (some mb)))(hmv:∀k,(Value.slice sa n c).ownBlock=some k->k≠mb)(Tj:mb<w.heap.size):aG 124 #[.pointer (some ⟨b,0,none⟩),.agg (bT e),.agg (br s)] w fun r w'=>∃v' v2,r=.returned (.int .i64 (n:Int))/\Has w' b (jn p room v' mb) 147/\w'.ownsRow 0 143 144 v' (n+1) (xs++jc e s)/\(v'.ownBlock=(Value.slice sa n c).ownBlock\/∃g,v'.ownBlock=some g/\w.heap.size<=g)/\Kp (fun i=>i=b\/i=mb\/(Value.slice sa n c).ownBlock=some i) w w'/\Q v2 w':=by
 have z1:=gE he;have z2:=me he;have z3:=iW hs;have z4:=mE hs;go_enter Tryz.func124,Tryz.ntmps124;go_upto_region 1 with fail
 generalize hw0:World.alloc _ _=v0;have hB:Bl w v0:=by rw[<-hw0];exact aY.alloc (by simp) _
 have hE:bB v0 w.heap.size e:=by rw[<-hw0];exact(Has.new _ _).alloc _
 have hS:aI v0 (w.heap.size+1) s:=by rw[<-hw0];exact Has.R6 _ (br s) _
 clear hw0;have Sn:Has v0 b (jn p room (.slice sa n c) mb) 147:=cg hB hA (Has.lt hA);have UM:=ax hrow (Kp.of (F:=fun _=>False) hB) (fun _ _ h=>h);have hbl:=Has.lt hA;have hrl:∀k,(Value.slice sa n c).ownBlock=some k->k<w.heap.size:=fun k hk=>(cK hrow hk).1
 have HML:=h_ Tj;have hMB:v0.heap[mb]?=w.heap[mb]?:=hB.block mb Tj;have HW:Hid (w.heap.size<=v0.heap.size):=h_ hB.size;obtain⟨bE,TO⟩:∃x,x=w.heap.size:=⟨_,rfl⟩;obtain⟨bS,hbS⟩:∃x,x=w.heap.size+1:=⟨_,rfl⟩;rw[<-hbS]at hS|-;have HB:=h_ hB;have V9:∀k,k<w.heap.size->k≠bE:=fun k hk e=>by omega
 have V_:∀k,k<w.heap.size->k≠bS:=fun k hk e=>by omega
 have HEE:Hid (bE=w.heap.size):=h_ TO;rw[<-TO]at hE;clear hrow hA hB Tj hbS TO;have hv0:=iB Sn hp;rw[<-HEE.out];go_upto_region 2 with fail
 generalize hv1:v0=v1 at*;clear hv1;have nE1:∀k,(Value.slice sa n c).ownBlock=some k->k≠bE:=fun k hk=>V9 k (hrl k hk)
 have nS1:∀k,(Value.slice sa n c).ownBlock=some k->k≠bS:=fun k hk=>V_ k (hrl k hk)
 have nE2:=V9 b hbl;have nS2:=V_ b hbl;have hz:=iB Sn hp;clear V9 V_ hrl;generalize hF:(fun i=>i=b\/(Value.slice sa n c).ownBlock=some i)=F;have fE:¬F bE:=by rw[<-hF];exact fun h=>h.elim (fun h=>nE2 h.symm) (fun h=>nE1 _ h rfl)
 have fS:¬F bS:=by rw[<-hF];exact fun h=>h.elim (fun h=>nS2 h.symm) (fun h=>nS1 _ h rfl)
 have fb:F b:=by rw[<-hF];exact .inl rfl
 have fv:∀k,(Value.slice sa n c).ownBlock=some k->F k:=fun k hk=>by rw[<-hF];exact .inr hk
 have fm:¬F mb:=by rw[<-hF];exact fun h=>h.elim (fun h=>hbm h.symm) (fun h=>hmv _ h rfl)
 have fl:∀i,F i->i<v1.heap.size:=fun i hi=>by
  rw[<-hF]at hi;rcases hi with rfl|hi
  exact Has.lt Sn;exact(cK UM hi).1
 have Xy:=h_ hF;clear hF;refine ix (by kernel_rfl) (fun w'=>Kp F v1 w') (fun i v' _=>RH b (.slice sa n c) e s bE bS i v') (fun l a w'=>Mj v1 b p room (.slice sa n c) mb n xs e s l a w') (fun _ _=>True) (fun _ _=>trivial) (fun _ _ _ _ _ _ h=>h) (by kernel_rfl) (Kp.of bf.drew) ?_ ?_ ?_;exact fun l hl=>⟨fun h=>(by rw[hl]at h;cases h),fun _=>UM,fun h=>(by rw[hl]at h;cases h),fun _=>Has.drew Sn,fun h=>(by rw[hl]at h;cases h)⟩
 ·intro i o lz a wx ho' hnl dq Z;have hC:=Z.c;have hI:=Z.i;have hi:i<13:=(Array.getElem?_eq_some_iff.1 ho').1;have WA:Has wx bE (bT e) 60:=hC.has hE fE;have ZE:Has wx bS (br s) 141:=hC.has hS fS
  have rE:wx.rangeAt bE 0 (gB e):=by
   have:=gd (A:=[]) (cs:=gB e) (C:=[]) (o:=0) (w:=wx) (b:=bE) (t:=60) (by rw[List.append_nil];exact WA) rfl;exact this
  have rS:wx.rangeAt bS 0 (gJ s):=by
   have:=gd (A:=[]) (cs:=gJ s) (C:=[]) (o:=0) (w:=wx) (b:=bS) (t:=141) (by rw[List.append_nil];exact ZE) rfl;exact this
  have hlx:v1.heap.size<=wx.heap.size:=hC.size;obtain rfl|rfl|rfl|rfl|rfl|rfl|rfl|rfl|rfl|rfl|rfl|rfl|rfl:i=0\/i=1\/i=2\/i=3\/i=4\/i=5\/i=6\/i=7\/i=8\/i=9\/i=10\/i=11\/i=12:=by omega
  all_goals obtain rfl:=Option.some.inj ho'
  exact aP 0 Z (an rfl) (NN.dy rfl) (Z.old' 0) (hI.keep 0 (av Z 0));exact aP 1 Z (an rfl) (NN.dy rfl) (Z.old' 0) (hI.keep 1 (av Z 1));exact aP 2 Z (an rfl) (cG rfl (ar Z dq 1 14)) rfl (hI.keep 2 (av Z 2));exact aP 3 Z (an rfl) (dm rfl (ar Z dq 2 15) (ln wx b)) rfl (hI.keep 3 (av Z 3));have hsz:=av Z 4;have h12:=dz Z hnl 12;have hAx:=hI.2.2.2.1 (by rw[<-gz lz 4 12 hsz (by decide)];exact h12);exact aP 4 Z (an rfl) (K6 rfl (ar Z dq 3 16) (iB hAx hp)) rfl (hI.keep 4 hsz);exact aP 5 Z (an rfl) (Gu rfl (Z.old' 4) rE z2) rfl (hI.keep 5 (av Z 5));exact aP 6 Z (an rfl) (JS rfl (Z.old' 5) rS z4) rfl (hI.keep 6 (av Z 6));exact aP 7 Z (an rfl) (OM rfl (ar Z dq 5 18) (ar Z dq 6 19) he hs) rfl (hI.keep 7 (av Z 7));have hsz:=av Z 8;have h9:=dz Z hnl 9;have h12:=dz Z hnl 12;have hbx:Bl wx (wx.alloc (.cells (jc e s).toArray 143)):=aY;refine pw 8 Z (an rfl) (Oz rfl (ar Z dq 7 20) (by rw[List.size_toArray,sL he hs])) (hC.trans (Kp.of (F:=F) hbx) (fun i hi _=>hi)) ⟨rfl,rfl⟩ ⟨fun _ _=>⟨wx.heap.size,?_,Has.new _ _⟩,fun _=>?_,fun h=>(by rw[h9]at h;cases h),fun _=>?_,fun h=>(by rw[h12]at h;cases h)⟩;exact jQ a 21 _ (by rw[Z.R4];exact(show 21<33 by decide));exact ax (hI.2.1 (by rw[<-gz lz 8 9 hsz (by decide)];exact h9)) (Kp.of (F:=fun _=>False) hbx) (fun _ _ h=>h);exact Has.alloc (hI.2.2.2.1 (by rw[<-gz lz 8 12 hsz (by decide)];exact h12)) _
  ·have hsz:=av Z 9;have h8:lz.getD 8 false=true:=dq ⟨8,.data⟩ (by simp) rfl;have h9:lz.getD 9 false=false:=hnl;have h12:=dz Z hnl 12;have UF:lz.getD 12 false=false:=by rw[<-gz lz 9 12 hsz (by decide)];exact h12
   obtain⟨g,hg,hgh⟩:=hI.1 h8 h9;have hrx:=hI.2.1 h9;have hAx:=hI.2.2.2.1 UF;obtain⟨v',w',hr,g1,g2,g3⟩:=Q_ (ρ:=a.eval) (x:=.tmp 17) (y:=.tmp 21) he hs (ar Z dq 4 17) hrx hg hgh (by omega);refine pw 9 Z (an rfl) (hr _ rfl rfl) (hC.trans (Kp.gb (F:=F) g2 (fun k hk=>fv k hk)) (fun i hi _=>hi)) ⟨rfl,rfl⟩ ⟨fun _ h=>(by rw[gF _ _ _ hsz,if_pos rfl]at h;cases h),fun h=>(by rw[gF _ _ _ hsz,if_pos rfl]at h;cases h),fun _ _=>⟨v',?_,g1,?_⟩,fun _=>?_,fun h=>(by rw[h12]at h;cases h)⟩;exact jQ a 22 _ (by rw[Z.R4];exact(show 22<33 by decide))
   ·rcases g3 with g3|g3
    exact .inl g3;exact .inr ⟨_,g3,hlx⟩
   exact(g2.block b (Has.lt hAx) (fun hk=>hbv b hk.symm rfl)).trans hAx
  exact aP 10 Z (an rfl) (cG rfl (ar Z dq 0 13)) rfl (hI.keep 10 (av Z 10));exact aP 11 Z (an rfl) (dm rfl (ar Z dq 10 23) (ln wx b)) rfl (hI.keep 11 (av Z 11))
  ·have hsz:=av Z 12;have h9:lz.getD 9 false=true:=dq ⟨9,.data⟩ (by simp) rfl;obtain⟨v',hv',hr',hl'⟩:=hI.2.2.1 h9 hnl;have hAx:=hI.2.2.2.1 hnl;obtain⟨a',m',c',rfl⟩:=OV hr';have TW:(lz.setIfInBounds 12 true).getD 9 false=true:=by rw[gz lz 12 9 hsz (by decide)];exact h9
   have e12:(lz.setIfInBounds 12 true).getD 12 false=true:=by rw[gF _ _ _ hsz,if_pos rfl]
   have nb:∀k,(Value.slice a' m' c').ownBlock=some k->k≠b:=fun k hk=>by
    rcases hl' with h|⟨g,h,hg⟩
    exact hbv k (h.symm.trans hk);rw[h]at hk;have hkg:g=k:=Option.some.inj hk;have:=Has.lt Sn;omega
   have kb:Kp (fun i=>i=b) wx (wx.setCell ⟨b,84,none⟩ (.slice a' m' c')):=Kp.gb (fJ wx b 84 _) (fun k hk=>(Option.some.inj hk).symm);refine pr 12 Z (an rfl) (PG rfl (ar Z dq 11 24) hv' (Has.free hAx 84) (iB hAx hp)) (hC.trans kb (fun i hi _=>by rw[hi];exact fb)) ⟨rfl,rfl⟩ ⟨fun _ h=>(by rw[TW]at h;cases h),fun h=>(by rw[TW]at h;cases h),fun _ h=>(by rw[e12]at h;cases h),fun h=>(by rw[e12]at h;cases h),fun _=>⟨_,AM hAx hp _,?_,hl'⟩⟩;exact ax hr' kb fun i hi hib=>nb i hi hib
 intro lz a' v2 hall Z;have hC:=Z.c;obtain⟨v',hA2,hrow2,hl2⟩:=Z.i.2.2.2.2 (hall 12 (by decide));have e0:a'.eval (.tmp 0)=.pointer (some ⟨b,0,none⟩):=Z.old' 0;have e4:a'.eval (.tmp 4)=.pointer (some ⟨bE,0,none⟩):=Z.old' 4;have e7:a'.eval (.tmp 7)=.int .i64 (n:Int):=Z.old' 7;obtain⟨u,hu⟩:∃u:Nat->Value,∀t,u t=a'.eval (.tmp t):=⟨_,fun _=>rfl⟩;rw[e_ a' 33 u Z.R4 Z.defers hu];rw[<-hu]at e0 e4 e7;clear hu Z hall;simp only[List.range,List.range.loop,List.map_cons,List.map_nil];rw[e0,e4,e7];clear e0 e4 e7;have hE2:Has v2 bE (bT e) 60:=hC.has hE fE;have rI:v2.rangeAt bE 68 (Lib.byteCells e.id):=gd (A:=bq e.h) (cs:=Lib.byteCells e.id) (C:=.int .i64 e.up :: .int .i64 e.ht::(NN.aa e.wk).toList) (o:=68) hE2 (er he.1);have hM2:v2.heap[mb]?=w.heap[mb]?:=(hC.block mb (Nat.lt_of_lt_of_le HML.out HW.out) fm).trans hMB;have ZF:∀k,v'.ownBlock=some k->k<v2.heap.size:=fun k hk=>(cK hrow2 hk).1
 have nbv:∀k,v'.ownBlock=some k->k≠mb:=fun k hk=>by
  rcases hl2 with h|⟨g,h,hg⟩
  exact hmv k (h.symm.trans hk);rw[h]at hk;have hkg:g=k:=Option.some.inj hk;have:=HML.out;have:=HW.out;omega
 have hl3:v'.ownBlock=(Value.slice sa n c).ownBlock\/∃g,v'.ownBlock=some g/\w.heap.size<=g:=by
  rcases hl2 with h|⟨g,h,hg⟩
  exact .inl h;exact .inr ⟨g,h,Nat.le_trans HW.out hg⟩
 have HA2:=h_ hA2;have HR2:=h_ hrow2;have HK:=h_ ((Kp.of (F:=F) HB.out).trans hC (fun i hi _=>hi));have cb:=IT hA2 hp;clear hC Sn UM hz hl2 ZF hE2 hS hrow2 hA2 hE;obtain⟨v3,hrun,hQ,hg3⟩:=KM.out v2.drew (by rw[<-hM2];rfl);go_upto_region 3 with fail
 refine ix (by kernel_rfl) (fun _=>True) (fun i v' _=>RP b mb bE e n i v') (fun l _ w'=>Ph 7 (fun w'=>w'=v2.drew) (fun w'=>w'=v3) l w') (fun _ _=>True) (fun _ _=>trivial) (fun _ _ _ _ _ _ h=>h) (by kernel_rfl) trivial ?_ ?_ ?_;exact fun l hl=>Ph.zero hl rfl
 ·intro i o lz a wx ho' hnl dq Z;have hC:=Z.c;have hI:=Z.i;have hi:i<8:=(Array.getElem?_eq_some_iff.1 ho').1;obtain rfl|rfl|rfl|rfl|rfl|rfl|rfl|rfl:i=0\/i=1\/i=2\/i=3\/i=4\/i=5\/i=6\/i=7:=by omega
  all_goals obtain rfl:=Option.some.inj ho'
  exact aP 0 Z (an rfl) (NN.dy rfl) (Z.old' 0) (hI.keep (av Z 0));exact aP 1 Z (an rfl) (cG rfl (ar Z dq 0 25)) rfl (hI.keep (av Z 1));exact aP 2 Z (an rfl) (dm rfl (ar Z dq 1 26) (wF wx b)) rfl (hI.keep (av Z 2));have hsz:=av Z 3;have hw:wx=v2.drew:=hI.pre (cX Z hnl 7) hsz (by decide);exact aP 3 Z (an rfl) (Og rfl (ar Z dq 2 27) (by rw[hw];exact cb)) rfl (hI.keep hsz);exact aP 4 Z (an rfl) (dm rfl (Z.old' 4) (vL wx bE)) rfl (hI.keep (av Z 4));have hsz:=av Z 5;have hw:wx=v2.drew:=hI.pre (cX Z hnl 7) hsz (by decide);exact aP 5 Z (an rfl) (Qb rfl (ar Z dq 4 29) (by rw[hw];exact rI) he.2) rfl (hI.keep hsz);exact aP 6 Z (an rfl) (NN.dy rfl) (Z.old' 7) (hI.keep (av Z 6));have hsz:=av Z 7;have hw:wx=v2.drew:=hI.1 hnl;exact pr 7 Z (an rfl) (Gc rfl (ar Z dq 3 28) (ar Z dq 5 30) (ar Z dq 6 31) (by rw[hw];exact hrun)) trivial rfl (Ph.last hsz rfl)
 intro lz a' w4 hall Z;obtain rfl:=Z.i.2 (hall 7 (by decide));have e7:a'.eval (.tmp 7)=.int .i64 (n:Int):=Z.old' 7;obtain⟨u,hu⟩:∃u:Nat->Value,∀t,u t=a'.eval (.tmp t):=⟨_,fun _=>rfl⟩;rw[e_ a' 33 u Z.R4 Z.defers hu];rw[<-hu]at e7;clear hu Z hall;simp only[List.range,List.range.loop,List.map_cons,List.map_nil];rw[e7];clear e7;have hK3:Kp (fun i=>i=mb) v2 w4:=(Kp.of (F:=fun i=>i=mb) (Below.refl _ v2).drew).trans (Kp.gb hg3 (fun k hk=>(Option.some.inj hk).symm)) (fun i hi _=>hi);have hA4:=hK3.has HA2.out (fun e=>hbm e);have YA:=ax HR2.out hK3 (fun i hi e=>nbv i hi e);have HK4:Kp (fun i=>i=b\/i=mb\/(Value.slice sa n c).ownBlock=some i) w w4:=(HK.out.mono (fun i hi _=>by rw[<-Xy.out]at hi;exact hi.elim .inl (fun h=>.inr (.inr h)))).trans hK3 (fun i hi _=>.inr (.inl hi));go_wp2_with fail
 go_ret;exact⟨v',_,rfl,hA4,YA,hl3,HK4,hQ⟩
section
variable{ρ:Operand->Value}{o:Oper}{w:World}
variable{x:Operand}{g off:Nat}
theorem xG{T:TypeId}{n m:Nat}(ho:o.op=.fieldAddr T x n)(hx:ρ x=.pointer (some ⟨g,off,none⟩))(hf:(Instr.fieldAt T (.pointer (some ⟨g,off,none⟩)) n).run Tryz.prog w=.ok (.pointer (some ⟨g,m,none⟩)) w):(execOp ρ o).run Tryz.prog w=.ok (.value (.pointer (some ⟨g,m,none⟩))) w:=by unfold execOp;simp only[ho,hx,Sem.run_bind,hf,Result.andThen_ok];rfl
theorem gD(w:World)(g:Nat):(Instr.fieldAt 32 (af g) 9).run Tryz.prog w=.ok (.pointer (some ⟨g,15,none⟩)) w:=by kernel_rfl
theorem mm(w:World)(g:Nat):(Instr.fieldAt 30 (.pointer (some ⟨g,15,none⟩)) 4).run Tryz.prog w=.ok (.pointer (some ⟨g,81,none⟩)) w:=by kernel_rfl
theorem mC{h:Hd}(ho:o.op=.load 30 x)(hx:ρ x=.pointer (some ⟨g,off,none⟩))(hg:w.rangeAt g off (bq h))(hs:(bq h).length=68):(execOp ρ o).run Tryz.prog w=.ok (.value (.agg (aD h))) w:=
 ic 30 ho hx Tryz.underlying30 rfl (fY.trans (by rw[hs])) hg
variable{e:En}
theorem PH{x0 x1 x2 x4:Operand}(ho:o.op=.build 60 #[(0,x0),(1,x1),(2,x2),(4,x4)])(he:e.ok)(h0:e.ht=0)(hx0:ρ x0=.agg (aD e.h))(hx1:ρ x1=.agg (ae e.id))(hx2:ρ x2=i_ e.up)(hx4:ρ x4=.agg (NN.aa e.wk)):(execOp ρ o).run Tryz.prog w=.ok (.value (.agg (bT e))) w:=by unfold execOp;simp only[ho,Sem.run_bind];rw[show(#[(0,x0),(1,x1),(2,x2),(4,x4)]:Array (Nat×Operand)).map (fun(i,x)=>(i,ρ x))=#[(0,.agg (aD e.h)),(1,.agg (ae e.id)),(2,i_ e.up),(4,.agg (NN.aa e.wk))] by simp[hx0,hx1,hx2,hx4],run_build w 60 _ _ (Ks e he h0)];rfl
theorem Jh{y:Operand}{cs:Array Value}(ho:o.op=.store 60 x y)(hx:ρ x=af g)(hy:ρ y=.agg (bT e))(hg:Has w g cs 60)(hs:cs.size=106)(hs':(bT e).size=106):(execOp ρ o).run Tryz.prog w=.ok .skip (w.setRow g (bT e)):=by unfold execOp;simp only[ho,hx,hy,Instr.storeAt,Instr.sureAddr,Sem.run_bind,Sem.run_pure,Result.andThen_ok,run_storeVar_row w g 60 60 cs (bT e) (Has.out hg) (iY.trans (by rw[hs'])) (by rw[hs,hs']) (yW e)]
end
theorem Iy{w:World}{g o:Nat}{h:Hd}(ho:h.ok)(hr:w.rangeAt g o (bq h)):w.cell? ⟨g,o+66,none⟩=some (i_ h.bits):=hr 66 _ (tx ho 1)
def RR(bP bR:Nat)(e:En):Nat->Value->Prop
 | 0,u=>u=.pointer (some ⟨bP,15,none⟩)
 | 1,u=>u=.agg (aD e.h)
 | 2,u=>u=.pointer (some ⟨bP,15,none⟩)
 | 3,u=>u=.agg (aD e.h)
 | 4,u=>u=.agg (ae e.id)
 | 5,u=>u=.pointer (some ⟨bP,15,none⟩)
 | 6,u=>u=.pointer (some ⟨bP,81,none⟩)
 | 7,u=>u=i_ e.h.bits
 | 8,u=>u=.agg (NN.aa e.wk)
 | 9,u=>u=.agg (bT e)
 | _,_=>bR=bR
theorem Ik(p:NN.Pr)(t:Tl)(tt:p.tl=t.C)(ht:t.ok)(e:En)(he:e.ok)(h0:e.ht=0)(hu:e.up = -1)(hg:e.h=t.g)(w:World)(KI:aQ w 119 #[.agg (aD e.h)] (.agg (ae e.id)))(KW:Hid (∀w',ak 123 #[.int .i64 e.h.bits] w' (.agg (NN.aa e.wk)))):ak 140 #[.agg (NN.aE p)] w (.agg (bT e)):=by
 have z0:=gE cZ;have z1:=gE he;have z2:=er he.1;go_enter Tryz.func140,Tryz.ntmps140;go_upto_region 1 with fail
 generalize hw0:World.alloc _ _=v0;have hB:Bl w v0:=by rw[<-hw0];exact aY.alloc (by simp) _
 have hP:NN.aA v0 w.heap.size p:=by rw[<-hw0];exact(NN.Has.new _ _).alloc _
 have hR:bB v0 (w.heap.size+1) je:=by rw[<-hw0];exact Has.R6 _ (bT je) _
 clear hw0;obtain⟨bP,Sf⟩:∃x,x=w.heap.size:=⟨_,rfl⟩;obtain⟨bR,hbR⟩:∃x,x=w.heap.size+1:=⟨_,rfl⟩;rw[<-hbR]at hR|-;rw[<-Sf]at hP|-;have hlt:bR<v0.heap.size:=Has.lt hR;have n1:bP≠bR:=by omega
 have TS:Hid (w.heap.size<=bR):=h_ (by omega);have Wz:Hid (bP=w.heap.size):=h_ Sf;clear Sf hbR;refine ix (by kernel_rfl) (fun w'=>Bl w w'/\NN.aA w' bP p) (fun i v' _=>RR bP bR e i v') (fun l _ w'=>Ph 10 (fun w'=>bB w' bR je) (fun w'=>bB w' bR e) l w') (fun _ _=>True) (fun _ _=>trivial) (fun _ _ _ _ _ _ h=>h) (by kernel_rfl) ⟨hB.trans (bf.drew.mono hB.size),Has.drew hP⟩ ?_ ?_ ?_;exact fun l hl=>Ph.zero hl (Has.drew hR)
 ·intro i o lz a wx ho' hnl dq Z;have hC:=Z.c;have hI:=Z.i;have hi:i<11:=(Array.getElem?_eq_some_iff.1 ho').1;have rP:wx.rangeAt bP 15 (bq e.h):=by rw[hg];exact jP hC.2 tt ht
  have rB:=Iy he.1 rP;obtain rfl|rfl|rfl|rfl|rfl|rfl|rfl|rfl|rfl|rfl|rfl:i=0\/i=1\/i=2\/i=3\/i=4\/i=5\/i=6\/i=7\/i=8\/i=9\/i=10:=by omega
  all_goals obtain rfl:=Option.some.inj ho'
  exact aP 0 Z (an rfl) (dm rfl (Z.old' 1) (gD wx bP)) rfl (hI.keep (av Z 0));exact aP 1 Z (an rfl) (mC rfl (ar Z dq 0 3) rP z2) rfl (hI.keep (av Z 1));exact aP 2 Z (an rfl) (dm rfl (Z.old' 1) (gD wx bP)) rfl (hI.keep (av Z 2));exact aP 3 Z (an rfl) (mC rfl (ar Z dq 2 5) rP z2) rfl (hI.keep (av Z 3))
  ·have hsz:=av Z 4;have R7:=dz Z hnl 10;have hpre:=hI.pre R7 hsz (by decide);exact mf (S:=mQ) 4 Z (an rfl) (f:=119) (args:=#[a.eval (.tmp 6)]) (by kernel_rfl) (by rw[show a.eval (.tmp 6)=_ from(ar Z dq 3 6)];  exact KI.out wx hC.1) (fun w' hb=>⟨⟨ah hC.1 hb,NN.aA.on hC.2 hb⟩,trivial,rfl,Ph.made R7 (bB.on hpre hb)⟩)
  exact aP 5 Z (an rfl) (dm rfl (Z.old' 1) (gD wx bP)) rfl (hI.keep (av Z 5));exact aP 6 Z (an rfl) (xG rfl (ar Z dq 5 8) (mm wx bP)) rfl (hI.keep (av Z 6));exact aP 7 Z (an rfl) (NN.lC rfl (ar Z dq 6 9) rB) rfl (hI.keep (av Z 7))
  ·have hsz:=av Z 8;have R7:=dz Z hnl 10;have hpre:=hI.pre R7 hsz (by decide);exact mf (S:=mQ) 8 Z (an rfl) (f:=123) (args:=#[a.eval (.tmp 10)]) (by kernel_rfl) (by rw[show a.eval (.tmp 10)=_ from(ar Z dq 7 10)];  exact KW.out wx) (fun w' hb=>⟨⟨ah hC.1 hb,NN.aA.on hC.2 hb⟩,trivial,rfl,Ph.made R7 (bB.on hpre hb)⟩)
  exact aP 9 Z (an rfl) (PH rfl he h0 (ar Z dq 1 4) (ar Z dq 4 7) (by rw[hu];rfl) (ar Z dq 8 11)) rfl (hI.keep (av Z 9));have hsz:=av Z 10;have hR0:=hI.1 hnl;exact pr 10 Z (an rfl) (Jh rfl (Z.old' 2) (ar Z dq 9 12) hR0 z0 z1) ⟨below_setRow hC.1 TS.out _,NN.Has.R1 hC.2 _ _ n1⟩ rfl (Ph.last hsz (Has.row hR0 _))
 intro lz a' v1 hall Z;have hC:=Z.c;have hE:=Z.i.2 (hall 10 (by decide));have e2:a'.eval (.tmp 2)=.pointer (some ⟨bR,0,none⟩):=Z.old' 2;obtain⟨u,hu⟩:∃u:Nat->Value,∀t,u t=a'.eval (.tmp t):=⟨_,fun _=>rfl⟩;rw[e_ a' 13 u Z.R4 Z.defers hu];rw[<-hu]at e2;clear hu Z hall;simp only[List.range,List.range.loop,List.map_cons,List.map_nil];rw[e2];clear e2;go_wp2_with fail
 refine bodyPost_ret (NK Tryz.results140 _ _ rfl hE z1) rfl ⟨rfl,hC.1⟩
end An
namespace An
open Mem Sc
open Ar (aq Ru aB)
variable{w:World}
theorem fR.clip{lo:Nat}{P:World->Prop}(h:fR (fun i=>lo<=i) P w):fR (fun i=>lo<=i/\i<w.heap.size) P w:=fun w' k=>h w' (k.mono fun _ hi hl=>fun h=>hi ⟨h,hl⟩)
variable{I:Nat->Prop}{b room mb:Nat}{p:NN.Pr}{t:Tl}{gs:List Gt}{cs:List Ck}
theorem Hu{v:Value}{L:List Bk}(h:fM w I b p t gs cs room v mb L)(x:Bk)(he:x.e.ok)(hs:x.s.ok)(J:Nat->Prop)(hJ:fR J (fun w=>eE w 0 x.s x.q) w)(Xz:∀i,J i->i<w.heap.size)(YB:∀i,J i->¬(i=b\/i=mb\/v.ownBlock=some i))(hn:L.length<=900)(hf:(L.map (·.e.id)).findIdx? (· == x.e.id)=none):aG 124 #[af b,.agg (bT x.e),.agg (br x.s)] w fun r w'=>∃v',r=.returned (i_ (L.length:Nat))/\fM w' (fun i=>I i\/J i) b p t gs cs room v' mb (L++[x])/\Kp (fun i=>i=b\/i=mb\/v.ownBlock=some i) w w'/\(v'.ownBlock=v.ownBlock\/∃g,v'.ownBlock=some g/\w.heap.size<=g):=by
 obtain⟨sa,c,rfl⟩:=h.slice;refine(uH b p h.Su room sa L.length c mb (l_ L) x.e he x.s hs hn w h.has h.row (fun k hk=>h.V7 hk) h.Va (fun _ v3=>dr v3 mb (L.map (·.e.id)++[x.e.id])) ?_ (fun k hk=>h.Vb hk) h.map.lt).mono ?_
 ·refine h_ fun v2 hv2=>?_
  obtain⟨w',h1,h2,h3⟩:=(h.map.on hv2).put he.2 hf (by rw[List.length_map];omega) L.length (by rw[List.length_map]);exact⟨w',h1,h2,h3⟩
 ·rintro r w' ⟨v',v2,rfl,hA,hR,hl,hK,hM⟩
  have hI:∀i,I i->¬(i=b\/i=mb\/(Value.slice sa L.length c).ownBlock=some i):=fun i hi e=>by
   rcases e with rfl|rfl|e
   exact h.nb hi;exact h.nm hi;exact h.nv _ e hi
  refine⟨v',rfl,?_,hK,hl⟩;refine{ has:=hA,Su:=h.Su,one:=h.one,tt:=h.tt,tok:=h.tok,gn:=h.gn,cn:=h.cn,row:=?_,map:=?_,Sl:=?_,checks:=?_,SM:=?_,nb:=?_,nm:=?_,nv:=?_,lt:=?_,bZ:=?_ };rw[FB,List.length_append];exact hR;rw[List.map_append];exact hM;exact(h.Sl.on hK hI).wide fun i hi=>.inl hi
  exact(h.checks.on hK hI).wide fun i hi=>.inl hi
  ·intro y hy;rcases List.mem_append.1 hy with hy|hy
   exact((h.SM y hy).on hK hI).wide fun i hi=>.inl hi
   obtain rfl:y=x:=(by simpa using hy);exact(hJ.on hK YB).wide fun i hi=>.inr hi
  exact fun e=>e.elim h.nb fun e=>YB b e (.inl rfl)
  exact fun e=>e.elim h.nm fun e=>YB mb e (.inr (.inl rfl))
  ·intro k hk e;rcases hl with hl|⟨g,hl,hg⟩
   exact e.elim (h.nv k (hl.symm.trans hk)) fun e=>YB k e (.inr (.inr (hl.symm.trans hk)))
   rw[hl]at hk;have hkg:g=k:=Option.some.inj hk;have:k<w.heap.size:=e.elim (h.lt k) (Xz k);omega
  exact fun i hi=>Nat.lt_of_lt_of_le (hi.elim (h.lt i) (Xz i)) hK.size
  ·intro y hy;rcases List.mem_append.1 hy with hy|hy
   exact h.bZ y hy;obtain rfl:y=x:=(by simpa using hy);exact⟨he,hs⟩
theorem fM.made(hA:Has w b (jn p room (.slice none 0 0) mb) 147)(Su:p.ok)(one:p.one)(tt:p.tl=t.C)(tok:t.ok)(gn:t.gn=gs.length)(cn:t.cn=cs.length)(hM:dr w mb [])(hG:fR I (fun w=>aJ w t.ga gs) w)(hC:fR I (fun w=>az w t.ca cs) w)(nb:¬I b)(nm:¬I mb)(hl:∀i,I i->i<w.heap.size):fM w I b p t gs cs room (.slice none 0 0) mb []:=
 { has:=hA,Su:=Su,one:=one,tt:=tt,tok:=tok,gn:=gn,cn:=cn,row:=World.ownsRow_nil _ _ _ _,map:=hM,Sl:=hG,checks:=hC,SM:=fun x hx=>(by cases hx),nb:=nb,nm:=nm,nv:=fun k hk=>(by cases hk),lt:=hl,bZ:=fun x hx=>(by cases hx) }
open NN.Si
variable{ops:Array Oper}{o:Oper}{a:Act}{Q:Exit->Act->World->Prop}
theorem Gv{rest:List Oper}(hgd:o.guard=none)(x0 x1 x3:Operand)(ho:o.op=.build 147 #[(0,x0),(1,x1),(3,x3)])(p:NN.Pr)(hp:p.ok)(room mb:Nat)(h0:a.eval x0=.agg (NN.aE p))(h1:a.eval x1=i_ room)(h3:a.eval x3=.map (some mb))(hk:wpList Tryz.prog ops Q rest (a.put o.dst (.agg (jn p room (.slice none 0 0) mb))) w):wpList Tryz.prog ops Q (o::rest) a w:=
 wpList_plain hgd fun _ hK=>by
  unfold Oper.wp execOp;simp only[ho,Sem.run_bind];rw[show(#[(0,x0),(1,x1),(3,x3)]:Array (Nat×Operand)).map (fun(i,x)=>(i,a.eval x))=#[(0,.agg (NN.aE p)),(1,i_ room),(3,.map (some mb))] by simp[h0,h1,h3],run_build w 147 _ _ (Qw p hp room mb)];exact hK _ _ hk
variable{P:Program}{C:World->Prop}{S:World->World->Prop}{f:FuncId}{args:Array Value}
theorem O3{R:Value->World->Prop}{J:Act->World->Prop}(hn:Region.wanted o (yielded ops a.tmps)=true)(h:(execOp a.eval o).run P w=.ok (.enter f args) w)(hcall:Calls P f args w fun e w'=>∃v,e=.returned v/\C w'/\S w w'/\R v w'/\J (a.put o.dst v) w'):if Region.wanted o (yielded ops a.tmps)=true then o.wp P a w (fun a' w'=>C w'/\S w w'/\∃v,a'=a.put o.dst v/\R v w'/\J a' w') Q else R undef w/\J (a.put o.dst undef) w:=by
 rw[if_pos hn];unfold Oper.wp;rw[h];refine Calls.mono hcall fun e w' he=>?_
 obtain⟨v,rfl,h1,h2,h3,h4⟩:=he;exact⟨h1,h2,v,rfl,h3,h4⟩
theorem zL{a0:Act}{R:Nat->Value->World->Prop}{I:Array Bool->Act->World->Prop}{lz:Array Bool}(i:Nat)(_hinv:cY .any ops a0 C R I lz a w)(hn:Region.wanted o (yielded ops a.tmps)=true)(h:(execOp a.eval o).run P w=.ok (.enter f args) w)(hcall:Calls P f args w fun e w'=>∃v,e=.returned v/\C w'/\S w w'/\R i v w'/\I (lz.setIfInBounds i true) (a.put o.dst v) w'):if Region.wanted o (yielded ops a.tmps)=true then o.wp P a w (fun a' w'=>C w'/\S w w'/\∃v,a'=a.put o.dst v/\R i v w'/\I (lz.setIfInBounds i true) a' w') Q else R i undef w/\I (lz.setIfInBounds i true) (a.put o.dst undef) w:=
 O3 (S:=S) (C:=C) (R:=R i) (J:=fun a' w'=>I (lz.setIfInBounds i true) a' w') hn h hcall
def Np(v1:World)(bA:Nat)(p:NN.Pr)(e:En)(q:Ps):Nat->Value->World->Prop
 | 0,u,_=>u=af bA
 | 1,u,_=>u=.agg (NN.aE p)
 | 2,u,_=>u=.agg (bT e)
 | 3,u,_=>u=.agg (NN.aE p)
 | 4,u,w=>∃s:Sp,u=.agg (br s)/\s.ok/\fR (fun i=>v1.heap.size<=i) (fun w=>eE w 0 s q) w
 | _,_,_=>bA=bA
theorem DE{v1:World}{bA:Nat}{e:En}{q:Ps}{G:Nat->Prop}(hG:∀i,G i->i<v1.heap.size):∀(i:Nat)(u:Value)(w w':World),Kp G w w'->Np v1 bA p e q i u w->Np v1 bA p e q i u w'
 | 0,_,_,_,_,h=>h
 | 1,_,_,_,_,h=>h
 | 2,_,_,_,_,h=>h
 | 3,_,_,_,_,h=>h
 | 4,_,_,_,hk,⟨s,h1,h2,h3⟩=>⟨s,h1,h2,h3.on hk fun i hi hg=>absurd (hG i hg) (by omega)⟩
 | _+5,_,_,_,_,h=>h
theorem GX(p:NN.Pr)(hp:p.ok)(t:Tl)(room m1:Int)(R:Nat)(hm1:m1=max room 1)(hR:(R:Int)=min m1 512)(gs:List Gt)(cs:List Ck)(e:En)(he:e.ok)(q:Ps)(q32:q.prev.length=32)(w:World)(KG:aQ w 138 #[.agg (NN.aE p)] (.bool true))(KC:Hid (∀w',Below w.heap.size w w'->aG 139 #[.agg (NN.aE p)] w' fun e w''=>∃(p':NN.Pr)(t':Tl),e=.returned (.agg (NN.aE p'))/\(p'.ok/\p'.one/\p'.tl=t'.C/\t'.ok/\t'.gn=gs.length/\t'.cn=cs.length/\p'.lim=p.lim/\p'.R8=p.R8/\p'.Sg=p.Sg/\p'.Sb=p.Sb/\p'.Se=p.Se/\t'.g=t.g)/\fR (fun i=>w'.heap.size<=i) (fun w=>aJ w t'.ga gs) w''/\fR (fun i=>w'.heap.size<=i) (fun w=>az w t'.ca cs) w''/\Below w'.heap.size w' w''))(KE:Hid (∀w',Below w.heap.size w w'->ak 140 #[.agg (NN.aE p)] w' (.agg (bT e))))(KB:Hid (∀w',Below w.heap.size w w'->aG 141 #[.agg (NN.aE p)] w' fun r w''=>∃s,r=.returned (.agg (br s))/\(br s).size=38/\eE w'' w'.heap.size s q/\Below w'.heap.size w' w'')):aG 105 #[.agg (NN.aE p),.int .i64 room] w fun r w'=>∃b I p' t' v mb x,r=.returned (.tuple #[.pointer (some ⟨b,0,none⟩),.int .i64 0])/\fM w' I b p' t' gs cs R v mb [x]/\x.e=e/\x.q=q/\(p'.lim=p.lim/\p'.R8=p.R8/\p'.Sg=p.Sg/\p'.Sb=p.Sb/\p'.Se=p.Se/\t'.g=t.g)/\(∀i,jJ I b v mb i->w.heap.size<=i)/\Below w.heap.size w w':=by
 have hz:=NN.eH hp;go_enter Tryz.func105,Tryz.ntmps105;go_upto_region 1 with fail
 generalize hw0:World.alloc _ _=v0;have hB:Below w.heap.size w v0:=dd hw0;have hP:NN.aA v0 w.heap.size p:=by rw[<-hw0];exact NN.Has.new _ _
 have hs0:w.heap.size+1<=v0.heap.size:=by rw[<-hw0];simp
 clear hw0;obtain⟨bP,Sf⟩:∃x,x=w.heap.size:=⟨_,rfl⟩;rw[<-Sf]at hP|-;have Wz:Hid (bP=w.heap.size):=h_ Sf;clear Sf;go_wp2_with (first|fail|(with_reducible refine NN.dH rfl _ rfl _ rfl hP hz ?_))
 refine(KG.out _ hB).mono ?_;rintro r v1 ⟨rfl,hb⟩;replace hP:=hP.on hb;replace hB:=ah hB hb;have hs1:w.heap.size+1<=v1.heap.size:=Nat.le_trans hs0 hb.size;clear hb hs0;go_wp2_with (first|fail|(with_reducible refine NN.dH rfl _ rfl _ rfl hP hz ?_))
 refine(KC.out _ hB).mono ?_;rintro r v2 ⟨p',t',rfl,⟨p1,p2,p3,p4,p5,p6,a1,a2,a3,a4,a5,a6⟩,hG,hC,hb⟩;replace hP:=hP.on hb;replace hB:=ah hB hb;have hs2:w.heap.size+1<=v2.heap.size:=Nat.le_trans hs1 hb.size;have ab9:Hid (v1.heap.size<=v2.heap.size):=h_ hb.size;have S_:=h_ hs1;clear hb hs1;have hmax:=NN.k6 (P:=Tryz.prog) room 1 m1 hm1;have hmin:=NN.g_ (P:=Tryz.prog) m1 512 (R:Int) hR;clear hm1 hR;have hmk:∀w:World,(Instr.makeMap 145 none).run Tryz.prog w=.ok (.map (some w.heap.size)) (w.alloc (.map #[] 0)):=fun _=>by kernel_rfl
 go_upto_region 4 with(with_reducible first|refine NN.dH rfl _ rfl _ rfl hP hz ?_|refine Gv rfl _ _ _ rfl p' p1 R v2.heap.size rfl rfl rfl ?_)
 have hMz:(v2.alloc (.map #[] 0)).heap.size=v2.heap.size+1:=by simp
 have hA3:Has ((v2.alloc (.map #[] 0)).alloc (.cells (jn p' R (.slice none 0 0) v2.heap.size) 147)) (v2.heap.size+1) (jn p' R (.slice none 0 0) v2.heap.size) 147:=by rw[<-hMz];exact Has.new _ _
 have hb3:Below v2.heap.size v2 ((v2.alloc (.map #[] 0)).alloc (.cells (jn p' R (.slice none 0 0) v2.heap.size) 147)):=aY.alloc (by simp) _;have ZG:dr ((v2.alloc (.map #[] 0)).alloc (.cells (jn p' R (.slice none 0 0) v2.heap.size) 147)) v2.heap.size []:=(dr.made v2).on (heap_alloc_old _ _ (by simp));obtain⟨mb,hmb⟩:∃x,x=v2.heap.size:=⟨_,rfl⟩;obtain⟨bA,Vt⟩:∃x,x=v2.heap.size+1:=⟨_,rfl⟩;rw[<-Vt]at hA3|-;rw[<-hmb]at hA3 ZG hb3|-;have hs3:((v2.alloc (.map #[] 0)).alloc (.cells (jn p' R (.slice none 0 0) mb) 147)).heap.size=v2.heap.size+2:=by simp
 generalize hv3:World.alloc (World.alloc v2 _) _=v3 at*;have hA:fM v3 (fun i=>v1.heap.size<=i/\i<v2.heap.size) bA p' t' gs cs R (.slice none 0 0) mb []:=fM.made hA3 p1 p2 p3 p4 p5 p6 ZG (hG.clip.on (G:=fun _=>False) (Kp.of (by first|exact hmb▸hb3|(unfold Bl;exact hmb▸hb3))) (fun _ _ h=>h)) (hC.clip.on (G:=fun _=>False) (Kp.of (by first|exact hmb▸hb3|(unfold Bl;exact hmb▸hb3))) (fun _ _ h=>h)) (fun h=>by omega) (fun h=>by omega) (fun i hi=>by rw[hs3];omega);have hP3:NN.aA v3 bP p:=hP.on (by first|exact hmb▸hb3|(unfold Bl;exact hmb▸hb3));have hB3:Below w.heap.size w v3:=hB.trans (hb3.mono (by rw[hmb];exact hB.size));have HF:Hid (∀i,(i=bA\/i=mb)->i<v3.heap.size):=h_ fun i hi=>by rw[hs3];omega
 have HL:Hid (w.heap.size<=v1.heap.size/\w.heap.size<=mb/\w.heap.size<=bA/\w.heap.size<=v3.heap.size/\bP≠bA/\bP≠mb):=h_ (by rw[hs3];have:=S_.out;have:=Wz.out;omega);clear hA3 ZG hb3 hs3 hMz hmk hmax hmin hG hC hP hB hmb Vt hv3;refine ix (by kernel_rfl) (fun w'=>(Below w.heap.size w w'/\v3.heap.size<=w'.heap.size)/\NN.aA w' bP p) (fun i v' w'=>Np v3 bA p e q i v' w') (fun l _ w'=>Ph 5 (fun w'=>fM w' (fun i=>v1.heap.size<=i/\i<v2.heap.size) bA p' t' gs cs R (.slice none 0 0) mb []) (fun w'=>∃I v x,fM w' I bA p' t' gs cs R v mb [x]/\x.e=e/\x.q=q/\∀i,jJ I bA v mb i->w.heap.size<=i) l w') (fun w w'=>Kp (fun i=>i=bA\/i=mb) w w') (fun w' _=>Kp.refl _ w') (fun i v w w' _ hs h=>DE HF.out i v w w' hs h) (by kernel_rfl) ⟨⟨hB3.trans (bf.drew.mono hB3.size),(Below.refl v3.heap.size v3).drew.size⟩,NN.Has.drew hP3⟩ ?_ ?_ ?_;exact fun l hl=>Ph.zero hl (hA.below bf.drew)
 ·intro i o lz a wx ho' hnl dq Z;have hC:=Z.c;have hI:=Z.i;have hi:i<6:=(Array.getElem?_eq_some_iff.1 ho').1;obtain rfl|rfl|rfl|rfl|rfl|rfl:i=0\/i=1\/i=2\/i=3\/i=4\/i=5:=by omega
  all_goals obtain rfl:=Option.some.inj ho'
  exact dA (S:=fun w w'=>Kp (fun i=>i=bA\/i=mb) w w') (fun w' _=>Kp.refl _ w') 0 Z (an rfl) (NN.dy rfl) (Z.old' 6) (hI.keep (av Z 0));exact dA (S:=fun w w'=>Kp (fun i=>i=bA\/i=mb) w w') (fun w' _=>Kp.refl _ w') 1 Z (an rfl) (NN.B6 rfl (Z.old' 2) hC.2 hz) rfl (hI.keep (av Z 1))
  ·have hsz:=av Z 2;have R7:=dz Z hnl 5;have hpre:=hI.pre R7 hsz (by decide);exact mf (S:=fun w w'=>Kp (fun i=>i=bA\/i=mb) w w') 2 Z (an rfl) (f:=140) (args:=#[a.eval (.tmp 19)]) (by kernel_rfl) (by rw[show a.eval (.tmp 19)=_ from(ar Z dq 1 19)];  exact KE.out wx hC.1.1) (fun w' hb=>⟨⟨⟨ah hC.1.1 hb,Nat.le_trans hC.1.2 hb.size⟩,NN.aA.on hC.2 hb⟩,Kp.of hb,rfl,Ph.made R7 (hpre.below hb)⟩)
  exact dA (S:=fun w w'=>Kp (fun i=>i=bA\/i=mb) w w') (fun w' _=>Kp.refl _ w') 3 Z (an rfl) (NN.B6 rfl (Z.old' 2) hC.2 hz) rfl (hI.keep (av Z 3))
  ·have hsz:=av Z 4;have R7:=dz Z hnl 5;have hpre:=hI.pre R7 hsz (by decide)
   exact B3 (V:=fun v w'=>∃s,v=.agg (br s)/\(br s).size=38/\eE w' wx.heap.size s q) (C:=(fun w'=>(Below w.heap.size w w'/\v3.heap.size<=w'.heap.size)/\NN.aA w' bP p)) (S:=(fun w w'=>Kp (fun i=>i=bA\/i=mb) w w')) (R:=fun v' w'=>Np v3 bA p e q 4 v' w') (J:=fun _ w'=>Ph 5 (fun w'=>fM w' (fun i=>v1.heap.size<=i/\i<v2.heap.size) bA p' t' gs cs R (.slice none 0 0) mb []) (fun w'=>∃I v x,fM w' I bA p' t' gs cs R v mb [x]/\x.e=e/\x.q=q/\∀i,jJ I bA v mb i->w.heap.size<=i) (lz.setIfInBounds 4 true) w') (an rfl) (f:=141) (args:=#[a.eval (.tmp 21)]) (by kernel_rfl) (by
    rw[show a.eval (.tmp 21)=_ from(ar Z dq 3 21)];refine(KB.out wx hC.1.1).mono ?_;rintro r w' ⟨s,rfl,h1,h2,h3⟩
    exact⟨_,rfl,⟨s,rfl,h1,h2⟩,h3⟩) (fun v w' hv hb=>⟨⟨⟨ah hC.1.1 hb,Nat.le_trans hC.1.2 hb.size⟩,NN.aA.on hC.2 hb⟩,Kp.of hb,(by
     obtain⟨s,rfl,h1,h2⟩:=hv;exact⟨s,rfl,(by unfold Sp.ok;rw[h2.2.1];exact q32),Mb h2 fun i hi _=>Nat.le_trans hC.1.2 hi⟩),Ph.made R7 (hpre.below hb)⟩)
  ·have hsz:=av Z 5;have hpre:=hI.1 hnl;obtain⟨s,e22,so,hJ⟩:=(ar Z dq 4 22)
   exact zL (S:=fun w w'=>Kp (fun i=>i=bA\/i=mb) w w') 5 Z (an rfl) (f:=124) (args:=#[a.eval (.tmp 18),a.eval (.tmp 20),a.eval (.tmp 22)]) (by kernel_rfl) (by
    rw[show a.eval (.tmp 18)=_ from(ar Z dq 0 18),show a.eval (.tmp 20)=_ from(ar Z dq 2 20),e22];have Xz:=HF.out;refine(Hu hpre ⟨e,s,q⟩ he so (fun i=>v3.heap.size<=i/\i<wx.heap.size) hJ.clip (fun i hi=>hi.2) (fun i hi h=>?_) (by decide) rfl).mono ?_
    ·rcases h with h|h|h
     have:=Xz i (.inl h);omega;have:=Xz i (.inr h);omega;cases h
    ·rintro r w' ⟨v',rfl,hA',hK,hl⟩;have V':Kp (fun i=>i=bA\/i=mb) wx w':=hK.mono fun i hi _=>hi.elim .inl (fun h=>h.elim .inr (fun h=>by cases h))
     obtain⟨l1,l2,l3,l4,l5,l6⟩:=HL.out;refine⟨_,rfl,⟨⟨hC.1.1.trans (V'.below (fun i hi=>by rcases hi with rfl|rfl<;>assumption) hC.1.1.size),Nat.le_trans hC.1.2 V'.size⟩,V'.Zh hC.2 (fun h=>h.elim l5 l6)⟩,V',rfl,Ph.last hsz ⟨_,v',_,hA',rfl,rfl,fun i hi=>?_⟩⟩;rcases hi with(hi|hi)|rfl|rfl|hi
     exact Nat.le_trans l1 hi.1;exact Nat.le_trans l4 hi.1;exact l3;exact l2
     ·rcases hl with hl|⟨g,hl,hg⟩
      rw[hl]at hi;cases hi;rw[hl]at hi;have hig:g=i:=Option.some.inj hi;have:=hC.1.2;omega)
 intro lz a' v4 hall Z;have hC:=Z.c.1;obtain⟨I,v,x,hE,x1,x2,hm⟩:=Z.i.2 (hall 5 (by decide));have e6:a'.eval (.tmp 6)=.pointer (some ⟨bA,0,none⟩):=Z.old' 6;obtain⟨u,hu⟩:∃u:Nat->Value,∀t,u t=a'.eval (.tmp t):=⟨_,fun _=>rfl⟩;rw[e_ a' 25 u Z.R4 Z.defers hu];rw[<-hu]at e6;clear hu Z hall;simp only[List.range,List.range.loop,List.map_cons,List.map_nil];rw[e6];clear e6;go_wp2_with fail
 go_ret2;exact⟨bA,I,p',t',v,mb,x,rfl,hE,x1,x2,⟨a1,a2,a3,a4,a5,a6⟩,hm,hC.1⟩
end An
namespace An
open Mem Sc
open Ar (aq Ru aB)
def dO(room:Int):Nat:=(min (max room 1) 512).toNat
theorem F'(room:Int):((dO room:Nat):Int)=min (max room 1) 512:=by unfold dO;omega
theorem Bi(p:NN.Pr)(hp:p.ok)(h1:p.one)(t:Tl)(tt:p.tl=t.C)(ht:t.ok)(gs:List Gt)(cs:List Ck)(hgn:t.gn=gs.length)(hcn:t.cn=cs.length)(hgl:t.gn<=1000)(hcl:t.cn<=1000)(room:Int)(hgood:jo p t.g gs cs=true)(w:World)(hT:dQ w)(hG:aJ w t.ga gs)(hC:az w t.ca cs):aG 105 #[.agg (NN.aE p),i_ room] w fun r w'=>∃b F,r=.returned (.tuple #[af b,i_ 0])/\iq w' F b ⟨p,t.g,gs,cs,dO room⟩ [aB]/\(∀i,F i->w.heap.size<=i)/\Bl w w':=by
 have e1:bs ⟨p,t.g,gs,cs,dO room⟩ aB=⟨t.g,t.g.id,-1,0,NN.ofBits t.g.bits⟩:=rfl;refine(GX p hp t room (max room 1) (dO room) rfl (F' room) gs cs (bs ⟨p,t.g,gs,cs,dO room⟩ aB) ⟨ht.2,iv _⟩ (K0 p t.g) (iv _) w ?_ ?_ ?_ ?_).mono ?_
 ·refine h_ fun w' hb=>?_
  have:=D5 p hp t tt ht gs cs hgn hcn hgl hcl w' (hG.below hb) (hC.below hb);rwa[hgood]at this
 ·refine h_ fun w' hb=>(MO p hp h1 t tt ht gs cs hgn hcn hgl hcl w' (hG.below hb) (hC.below hb)).mono ?_
  rintro e w2 ⟨ga,gc,ca,cc,rfl,q1,q2,q3⟩;refine⟨gR p t ga gc ca cc,AU t ga gc ca cc,rfl,⟨DF p t ht ga gc ca cc,?_,rfl,ht,hgn,hcn,rfl,rfl,rfl,rfl,rfl,rfl⟩,q1,q2,q3⟩;intro v hv;have hv':v∈(Value.slice ga t.gn gc::Value.slice ca t.cn cc::(t.nn++bq t.g)):=hv;simp only[List.mem_cons]at hv';rcases hv' with rfl|rfl|hv'
  rfl;rfl;exact h1 v (by rw[tt];unfold Tl.C;simp only[List.mem_cons];exact .inr (.inr hv'))
 ·refine h_ fun w' hb=>Ik p t tt ht _ ⟨ht.2,iv _⟩ rfl rfl rfl w' ?_ ?_
  exact h_ fun w2 hb2=>mK t.g ht.2 w2 (hT.below (ah hb hb2))
  exact h_ fun w2=>NN.xQ t.g.bits w2
 exact h_ fun w' hb=>MA p hp t tt ht w' (hT.below hb)
 rintro r w' ⟨b,I,p',t',v,mb,x,rfl,hA,x1,x2,ha,hm,hb⟩;refine⟨b,jJ I b v mb,rfl,⟨fun i hi=>hA.SS hi,I,p',t',v,mb,[x],hA,ha,?_,fun i hi=>hi⟩,hm,hb⟩;unfold Lk;simp only[List.map_cons,List.map_nil,x1,x2];rfl
end An
namespace NN
open Si An
theorem FJ{C:World->Prop}{a:Act}{o:Oper}{K:Act->Prop}(T t':TypeId)(p:BinOp)(hT:Tryz.prog.eqGuardType Tryz.prog.depth T=false)(x y:Operand)(ho:o.op=.binOp p T x y t')(xs ys:Array Value)(v:Value)(hx:a.eval x=.agg xs)(hy:a.eval y=.agg ys)(hq:∀w,(binOp p T (.agg xs) (.agg ys)).run Tryz.prog w=.ok v w)(hk:K (a.put o.dst v)):o.quiet Tryz.prog a C K:=
 ⟨_,fun w' hw'=>by
  unfold Oper.quietAt
  have this:(execOp a.eval o).run Tryz.prog w'=.ok (.value v) w':=by
   unfold execOp;simp only[ho,hx,hy,Sem.run_bind,Sem.run_pure,run_eqGuard_agg w' p T x y xs ys hT,Result.andThen_ok,hq]
  rw[this];exact⟨rfl,rfl⟩,hk⟩
theorem G1:Tryz.prog.eqGuardType Tryz.prog.depth 26=false:=by kernel_rfl
theorem qT(x y:Nat)(hx:x<Nm.ai)(hy:y<Nm.ai):∃z c,z=(x+Nm.ai-y)%Nm.ai/\z<Nm.ai/\b_ 146 #[.agg (aa x),.agg (aa y)] (.tuple #[.agg (aa z),.bool c]):=⟨_,_,rfl,Nat.mod_lt _ jx,fun w=>vD x y hx hy w⟩
theorem sM(x y:Nat)(hx:x<Nm.ai)(hy:y<Nm.ai):∃z c,z=(x+y)%Nm.ai/\z<Nm.ai/\b_ 115 #[.agg (aa x),.agg (aa y)] (.tuple #[.agg (aa z),.bool c]):=⟨_,_,rfl,Nat.mod_lt _ jx,fun w=>pG x y hx hy w⟩
theorem ik:1<Nm.ai:=by rw[Nm.bU];exact Nat.lt_of_lt_of_le (by decide) (Nat.pow_le_pow_right (by decide) (show 1<=256 by decide))
structure RC (w wr:World) (b1 bR b3 b4 b6 b7 t m4 o r:Nat):Prop where
 be:Bl w wr
 a1:Has wr b1 (aa t) 26
 aR:Has wr bR (aa 0) 26
 a3:Has wr b3 (aa 1) 26
 a4:Has wr b4 (aa m4) 26
 a6:Has wr b6 (aa o) 26
 a7:Has wr b7 (aa r) 26
structure yc (w wr:World) (b1 bR b3 b4 b7 t m4 r:Nat):Prop where
 be:Bl w wr
 a1:Has wr b1 (aa t) 26
 aR:Has wr bR (aa 0) 26
 a3:Has wr b3 (aa 1) 26
 a4:Has wr b4 (aa m4) 26
 a7:Has wr b7 (aa r) 26
variable{w wr:World}{b1 bR b3 b4 b7 t m4 r:Nat}
theorem yc.on{w':World}(h:yc w wr b1 bR b3 b4 b7 t m4 r)(hb:Bl wr w'):yc w w' b1 bR b3 b4 b7 t m4 r:=⟨ah h.be hb,h.a1.on hb,h.aR.on hb,h.a3.on hb,h.a4.on hb,h.a7.on hb⟩
theorem yc.row(h:yc w wr b1 bR b3 b4 b7 t m4 r)(g z:Nat)(h0:w.heap.size<=g)(h1:b1≠g)(h2:bR≠g)(h3:b3≠g)(h4:b4≠g)(h5:b7≠g):yc w (wr.setRow g (aa z)) b1 bR b3 b4 b7 t m4 r:=⟨below_setRow h.be h0 _,h.a1.R1 _ _ h1,h.aR.R1 _ _ h2,h.a3.R1 _ _ h3,h.a4.R1 _ _ h4,h.a7.R1 _ _ h5⟩
def RZ(o z m3 o2:Nat->Value)(b:Bool):Nat->Value->Prop
 | 0,u=>u=o 0
 | 1,u=>u=.agg (aa 1)
 | 2,u=>u=z 0
 | 3,u=>u=m3 0
 | 4,u=>u=.tuple #[o2 0,.bool b]
 | 5,u=>u=.tuple #[o2 0,.bool b]
 | 6,u=>u=o2 0
 | 7,u=>u=.bool b
 | _,_=>b=b
theorem Hi(t:Nat)(m4:Nat)(KA:Hid (b_ 115 #[.agg (aa t),.agg (aa 1)] (.tuple #[.agg (aa m4),.bool true])))(HW:Hid (1=Nm.work t))(w:World):aG 110 #[.agg (aa t)] w fun e w'=>∃z,(z<Nm.ai/\z=Nm.work t)/\e=.returned (.agg (aa z))/\Bl w w':=by
 go_enter Tryz.func110,Tryz.ntmps110;go_upto_region 1 with fail
 generalize hw0:World.alloc _ _=v0;have bj:Bl w v0:=by rw[<-hw0];exact aY.alloc (by simp) _
 have h1:Has v0 w.heap.size (aa t) 26:=by rw[<-hw0];exact(Has.new _ _).alloc _
 have hR:Has v0 (w.heap.size+1) (aa 0) 26:=by rw[<-hw0];exact Has.R6 _ (aa 0) _
 clear hw0;obtain⟨Uc,Vz⟩:∃x,x=w.heap.size:=⟨_,rfl⟩;obtain⟨S0,UN⟩:∃x,x=w.heap.size+1:=⟨_,rfl⟩;rw[<-UN]at hR|-;rw[<-Vz]at h1|-;have NR:Hid (w.heap.size<=S0/\Uc<S0):=h_ (by omega);clear Vz UN;have q1:=hR.lt;go_upto_region 2 with(with_reducible first|refine aK rfl _ rfl _ rfl _ (by assumption) rfl ?_|refine lY rfl _ _ rfl _ 1 _ rfl rfl sE _ (Has.R2 _) rfl ?_)
 generalize hw1:World.setRow _ _ _=v1;have hb1:Bl v0 v1:=cU hw1;have h3:Has v1 v0.heap.size (aa 1) 26:=by rw[<-hw1];exact(Has.R2 _).row _
 replace h1:=h1.on hb1;replace hR:=hR.on hb1;replace bj:=ah bj hb1;clear hw1 hb1;obtain⟨S5,SW⟩:∃x,x=v0.heap.size:=⟨_,rfl⟩;rw[<-SW]at h3 q1|-;clear SW;have UO:=h_ q1;clear q1;go_wp2_with (first|fail|(with_reducible refine aK rfl _ rfl _ rfl _ (by assumption) rfl ?_))
 refine au (KA.out _) fun v2 hb2=>?_;replace h1:=h1.on hb2;replace hR:=hR.on hb2;replace h3:=h3.on hb2;replace bj:=ah bj hb2;clear hb2;have q3:=h3.lt;go_upto_region 3 with(with_reducible first|refine aK rfl _ rfl _ rfl _ (by assumption) rfl ?_|refine bg rfl _ _ rfl _ _ rfl rfl _ (Has.R2 _) rfl ?_)
 generalize hw3:World.setRow _ _ _=v3;have hb3:Bl v2 v3:=cU hw3;have h4:Has v3 v2.heap.size (aa m4) 26:=by rw[<-hw3];exact(Has.R2 _).row _
 replace h1:=h1.on hb3;replace hR:=hR.on hb3;replace h3:=h3.on hb3;replace bj:=ah bj hb3;clear hw3 hb3;obtain⟨Tk,TI⟩:∃x,x=v2.heap.size:=⟨_,rfl⟩;rw[<-TI]at h4 q3|-;clear TI;have Vc:=h_ q3;clear q3;go_wp2_with (with_reducible first|refine aK rfl _ rfl _ rfl _ (by assumption) rfl ?_|refine bg rfl _ _ rfl _ _ rfl rfl _ hR rfl ?_)
 exact bodyPost_ret (v:=.agg (aa (1))) (fw Tryz.results110 _ _ _ rfl (hR.row _)) rfl ⟨_,⟨ik,HW.out⟩,rfl,below_setRow bj NR.out.1 _⟩
theorem GP(t:Nat)(m4:Nat)(KA:Hid (b_ 115 #[.agg (aa t),.agg (aa 1)] (.tuple #[.agg (aa m4),.bool false])))(HW:Hid (Nm.ai-1=Nm.work t))(hq:∀w,(binOp .eql 26 (.agg (aa t)) (.agg #[ay 0,ay 0,ay 0,ay 0])).run Tryz.prog w=.ok (.bool true) w)(w:World):aG 110 #[.agg (aa t)] w fun e w'=>∃z,(z<Nm.ai/\z=Nm.work t)/\e=.returned (.agg (aa z))/\Bl w w':=by
 have KM:=h_ ry;go_enter Tryz.func110,Tryz.ntmps110;go_upto_region 1 with fail
 generalize hw0:World.alloc _ _=v0;have bj:Bl w v0:=by rw[<-hw0];exact aY.alloc (by simp) _
 have h1:Has v0 w.heap.size (aa t) 26:=by rw[<-hw0];exact(Has.new _ _).alloc _
 have hR:Has v0 (w.heap.size+1) (aa 0) 26:=by rw[<-hw0];exact Has.R6 _ (aa 0) _
 clear hw0;obtain⟨Uc,Vz⟩:∃x,x=w.heap.size:=⟨_,rfl⟩;obtain⟨S0,UN⟩:∃x,x=w.heap.size+1:=⟨_,rfl⟩;rw[<-UN]at hR|-;rw[<-Vz]at h1|-;have NR:Hid (w.heap.size<=S0/\Uc<S0):=h_ (by omega);clear Vz UN;have q1:=hR.lt;go_upto_region 2 with(with_reducible first|refine aK rfl _ rfl _ rfl _ (by assumption) rfl ?_|refine lY rfl _ _ rfl _ 1 _ rfl rfl sE _ (Has.R2 _) rfl ?_)
 generalize hw1:World.setRow _ _ _=v1;have hb1:Bl v0 v1:=cU hw1;have h3:Has v1 v0.heap.size (aa 1) 26:=by rw[<-hw1];exact(Has.R2 _).row _
 replace h1:=h1.on hb1;replace hR:=hR.on hb1;replace bj:=ah bj hb1;clear hw1 hb1;obtain⟨S5,SW⟩:∃x,x=v0.heap.size:=⟨_,rfl⟩;rw[<-SW]at h3 q1|-;clear SW;have UO:=h_ q1;clear q1;go_wp2_with (first|fail|(with_reducible refine aK rfl _ rfl _ rfl _ (by assumption) rfl ?_))
 refine au (KA.out _) fun v2 hb2=>?_;replace h1:=h1.on hb2;replace hR:=hR.on hb2;replace h3:=h3.on hb2;replace bj:=ah bj hb2;clear hb2;have q3:=h3.lt;go_upto_region 3 with(with_reducible first|refine aK rfl _ rfl _ rfl _ (by assumption) rfl ?_|refine bg rfl _ _ rfl _ _ rfl rfl _ (Has.R2 _) rfl ?_)
 generalize hw3:World.setRow _ _ _=v3;have hb3:Bl v2 v3:=cU hw3;have h4:Has v3 v2.heap.size (aa m4) 26:=by rw[<-hw3];exact(Has.R2 _).row _
 replace h1:=h1.on hb3;replace hR:=hR.on hb3;replace h3:=h3.on hb3;replace bj:=ah bj hb3;clear hw3 hb3;obtain⟨Tk,TI⟩:∃x,x=v2.heap.size:=⟨_,rfl⟩;rw[<-TI]at h4 q3|-;clear TI;have Vc:=h_ q3;clear q3;go_wp2_with (first|fail|(with_reducible refine aK rfl _ rfl _ rfl _ (by assumption) rfl ?_))
 refine au (KM.out _) fun v4 hb4=>?_;replace h1:=h1.on hb4;replace hR:=hR.on hb4;replace h3:=h3.on hb4;replace h4:=h4.on hb4;replace bj:=ah bj hb4;clear hb4;go_wp2_with (with_reducible first|refine aK rfl _ rfl _ rfl _ (by assumption) rfl ?_|refine bg rfl _ _ rfl _ _ rfl rfl _ hR rfl ?_)
 exact bodyPost_ret (v:=.agg (aa (Nm.ai-1))) (fw Tryz.results110 _ _ _ rfl (hR.row _)) rfl ⟨_,⟨(by have:=jx;omega),HW.out⟩,rfl,below_setRow bj NR.out.1 _⟩
theorem I1(t:Nat)(ht:t<Nm.ai)(m4:Nat)(KA:Hid (b_ 115 #[.agg (aa t),.agg (aa 1)] (.tuple #[.agg (aa m4),.bool false])))(Vp:m4<Nm.ai)(ZH:Hid (m4=t+1/\0<t))(hq:∀w,(binOp .eql 26 (.agg (aa t)) (.agg #[.int .u64 0,.int .u64 0,.int .u64 0,.int .u64 0])).run Tryz.prog w=.ok (.bool false) w)(w:World):aG 110 #[.agg (aa t)] w fun e w'=>∃z,(z<Nm.ai/\z=Nm.work t)/\e=.returned (.agg (aa z))/\Below w.heap.size w w':=by
 have KM:=h_ ry;go_enter Tryz.func110,Tryz.ntmps110;go_upto_region 1 with fail
 generalize hw0:World.alloc _ _=v0;have bj:Below w.heap.size w v0:=by rw[<-hw0];exact aY.alloc (by simp) _
 have h1:Has v0 w.heap.size (aa t) 26:=by rw[<-hw0];exact(Has.new _ _).alloc _
 have hR:Has v0 (w.heap.size+1) (aa 0) 26:=by rw[<-hw0];exact Has.R6 _ (aa 0) _
 clear hw0;obtain⟨Uc,Vz⟩:∃x,x=w.heap.size:=⟨_,rfl⟩;obtain⟨S0,UN⟩:∃x,x=w.heap.size+1:=⟨_,rfl⟩;rw[<-UN]at hR|-;rw[<-Vz]at h1|-;have NR:Hid (w.heap.size<=S0/\Uc<S0):=h_ (by omega);clear Vz UN;have q1:=hR.lt;go_upto_region 2 with(with_reducible first|refine aK rfl _ rfl _ rfl _ (by assumption) rfl ?_|refine lY rfl _ _ rfl _ 1 _ rfl rfl sE _ (Has.R2 _) rfl ?_)
 generalize hw1:World.setRow _ _ _=v1;have hb1:Below v0.heap.size v0 v1:=cU hw1;have h3:Has v1 v0.heap.size (aa 1) 26:=by rw[<-hw1];exact(Has.R2 _).row _
 replace h1:=h1.on hb1;replace hR:=hR.on hb1;replace bj:=ah bj hb1;clear hw1 hb1;obtain⟨S5,SW⟩:∃x,x=v0.heap.size:=⟨_,rfl⟩;rw[<-SW]at h3 q1|-;clear SW;have UO:=h_ q1;clear q1;go_wp2_with (first|fail|(with_reducible refine aK rfl _ rfl _ rfl _ (by assumption) rfl ?_))
 refine au (KA.out _) fun v2 hb2=>?_;replace h1:=h1.on hb2;replace hR:=hR.on hb2;replace h3:=h3.on hb2;replace bj:=ah bj hb2;clear hb2;have q3:=h3.lt;go_upto_region 3 with(with_reducible first|refine aK rfl _ rfl _ rfl _ (by assumption) rfl ?_|refine bg rfl _ _ rfl _ _ rfl rfl _ (Has.R2 _) rfl ?_)
 generalize hw3:World.setRow _ _ _=v3;have hb3:Below v2.heap.size v2 v3:=cU hw3;have h4:Has v3 v2.heap.size (aa m4) 26:=by rw[<-hw3];exact(Has.R2 _).row _
 replace h1:=h1.on hb3;replace hR:=hR.on hb3;replace h3:=h3.on hb3;replace bj:=ah bj hb3;clear hw3 hb3;obtain⟨Tk,TI⟩:∃x,x=v2.heap.size:=⟨_,rfl⟩;rw[<-TI]at h4 q3|-;clear TI;have Vc:=h_ q3;clear q3;have q4:=h4.lt;go_upto_region 8 with(with_reducible first|refine aK rfl _ rfl _ rfl _ (by assumption) rfl ?_|refine lY rfl _ _ rfl _ 0 _ rfl rfl fN _ (Has.R2 _) rfl ?_)
 generalize hw4:World.setRow _ _ _=v4;have hb4:Below v3.heap.size v3 v4:=cU hw4;have h6:Has v4 v3.heap.size (aa 0) 26:=by rw[<-hw4];exact(Has.R2 _).row _
 replace h1:=h1.on hb4;replace hR:=hR.on hb4;replace h3:=h3.on hb4;replace h4:=h4.on hb4;replace bj:=ah bj hb4;clear hw4 hb4;obtain⟨Tn,XA⟩:∃x,x=v3.heap.size:=⟨_,rfl⟩;rw[<-XA]at h6 q4|-;clear XA;have XB:=h_ q4;clear q4;go_wp2_with (first|fail|(with_reducible refine aK rfl _ rfl _ rfl _ (by assumption) rfl ?_))
 refine au (KM.out _) fun v5 hb5=>?_;replace h1:=h1.on hb5;replace hR:=hR.on hb5;replace h3:=h3.on hb5;replace h4:=h4.on hb5;replace h6:=h6.on hb5;replace bj:=ah bj hb5;clear hb5;have q6:=h6.lt;go_upto_region 9 with(with_reducible first|refine aK rfl _ rfl _ rfl _ (by assumption) rfl ?_|refine bg rfl _ _ rfl _ _ rfl rfl _ (Has.R2 _) rfl ?_)
 generalize Ww:World.setRow _ _ _=v6;have hb6:Below v5.heap.size v5 v6:=cU Ww;have h7:Has v6 v5.heap.size (aa (Nm.ai-1)) 26:=by rw[<-Ww];exact(Has.R2 _).row _
 replace h1:=h1.on hb6;replace hR:=hR.on hb6;replace h3:=h3.on hb6;replace h4:=h4.on hb6;replace h6:=h6.on hb6;replace bj:=ah bj hb6;clear Ww hb6;obtain⟨SF,UP⟩:∃x,x=v5.heap.size:=⟨_,rfl⟩;rw[<-UP]at h7 q6|-;clear UP;have XC:=h_ q6;clear q6;have ND:Hid (Uc<S0/\S0<S5/\S5<Tk/\Tk<Tn/\Tn<SF/\w.heap.size<=S0):=h_ ⟨NR.out.2,UO.out,Vc.out,XB.out,XC.out,NR.out.1⟩;have hs:RC w v6 Uc S0 S5 Tk Tn SF t m4 0 (Nm.ai-1):=⟨bj,h1,hR,h3,h4,h6,h7⟩;have ZI:=h_ Vp;have Xt:=h_ ht;clear bj h1 hR h3 h4 h6 h7 UO Vc XB XC NR hq KA Vp ht;go_wp2_with fail
 go_loopw [8] (fun i wr=>∃(k:Nat)(z:Int)(o r:Nat),k<=256/\i=.int .i64 z/\Hid (z=255-(k:Int)/\o<Nm.ai/\r<Nm.ai/\Nm.LD t k o r)/\RC w wr Uc S0 S5 Tk Tn SF t m4 o r) (fun i _=>((intOf i)+1).toNat)
 case atStart=>exact⟨0,255,0,Nm.ai-1,by omega,rfl,h_ ⟨by omega,jx,by have:=jx;omega,Nm.LD.start t⟩,hs⟩
 case round=>
  clear hs;obtain⟨k,z,o,r,hk,rfl,HZ,hs⟩:=hrel;obtain⟨bj,h1,hR,h3,h4,h6,h7⟩:=hs;by_cases hlt:k<256
  ·have hz0:¬z<0:=by have:=HZ.out.1;omega
   have hz1:0<=z:=by omega
   have hz2:z<=255:=by have:=HZ.out.1;omega
   obtain⟨d,ed,hd,XD⟩:=Bn m4 ZI.out z (by omega) (by omega);obtain⟨nz,hnz⟩:∃nz,nz = -z:=⟨_,rfl⟩;obtain⟨m2,ZJ,hm2,XE⟩:=Bn d hd nz (by omega) (by omega);obtain⟨s,c,es,hsb,KS0⟩:=qT d 1 hd ik;obtain⟨r2,c2,er2,hr2,XF⟩:=qT r d HZ.out.2.2.1 hd;obtain⟨m3,em3,Yz,XG⟩:=Bn 1 ik z (by omega) (by omega);obtain⟨o2,c3,XH,ho2,UQ⟩:=sM o m3 HZ.out.2.1 Yz
   have HX:Hid (((!decide (m2=m4))=true->Nm.LD t (k+1) o r)/\((!decide (m2=m4))=false->decide (r<s)=true->Nm.LD t (k+1) o r)/\((!decide (m2=m4))=false->decide (r<s)=false->decide (r2=Nm.ai-1)=false->Nm.LD t (k+1) o2 r2)/\((!decide (m2=m4))=false->decide (r<s)=false->decide (r2=Nm.ai-1)=true->o2=Nm.work t)):=h_ (by
    have e4:=ZH.out.1;have hm:=ZI.out;subst e4;rw[hnz]at ZJ;exact Nm.LD.step ZH.out.2 hm hlt HZ.out.1 HZ.out.2.2.1 HZ.out.2.2.2 ed ZJ es er2 em3 XH)
   clear ed ZJ es er2 em3 XH;have KD:=h_ XD;have KM2:=h_ XE;have KS:=h_ KS0;have KS2:=h_ XF;have KM3:=h_ XG;have Un:=h_ UQ;have KL:=h_ fun w=>ny r s HZ.out.2.2.1 hsb w
   have hq2:=fun w=>tc hm2 ZI.out w
   have hq3:=fun w=>rQ hr2 (show Nm.ai-1<Nm.ai by have:=jx;omega) w
   have ac0:IntKind.i64.wrap (-z)=nz:=by rw[IntKind.wrap_i64];omega
   obtain⟨z1,hz3⟩:∃z1,z1=z-1:=⟨_,rfl⟩;have ac1:IntKind.i64.wrap (z-1)=z1:=by rw[IntKind.wrap_i64];omega
   have HZ1:Hid (z1=255-((k+1:Nat):Int)):=h_ (by have:=HZ.out.1;omega);have Ul:=h_ ho2;have HR2:=h_ hr2;have ZK:Hid (((intOf (.int .i64 z1))+1).toNat<((intOf (.int .i64 z))+1).toNat):=h_ (by simp[intOf];omega);generalize hg2:(!decide (m2=m4))=g2 at*;generalize hg3:decide (r<s)=g3 at*;generalize hg4:decide (r2=Nm.ai-1)=g4 at*;clear XD XE KS0 XF XG UQ hnz hz3 hz2 hd hm2 hsb hr2 Yz ho2 hg2 hg3 hg4;go_wp2_with (first|fail|(with_reducible refine aK rfl _ rfl _ rfl _ (by assumption) rfl ?_))
   refine au (KD.out _) fun v21 TJ=>?_;replace h1:=h1.on TJ;replace hR:=hR.on TJ;replace h3:=h3.on TJ;replace h4:=h4.on TJ;replace h6:=h6.on TJ;replace h7:=h7.on TJ;replace bj:=ah bj TJ;clear TJ;have q22:=h7.lt;go_upto_region 13 with(with_reducible first|refine aK rfl _ rfl _ rfl _ (by assumption) rfl ?_|refine bg rfl _ _ rfl _ _ rfl rfl _ (Has.R2 _) rfl ?_)
   generalize Wa:World.setRow _ _ _=v22;have TK:Below v21.heap.size v21 v22:=cU Wa;have h9:Has v22 v21.heap.size (aa d) 26:=by rw[<-Wa];exact(Has.R2 _).row _
   replace h1:=h1.on TK;replace hR:=hR.on TK;replace h3:=h3.on TK;replace h4:=h4.on TK;replace h6:=h6.on TK;replace h7:=h7.on TK;replace bj:=ah bj TK;clear Wa TK;obtain⟨ac2,XI⟩:∃x,x=v21.heap.size:=⟨_,rfl⟩;rw[<-XI]at h9 q22|-;clear XI;have XJ:=h_ q22;clear q22;simp only[Act.put];refine wp_region_quiet_below (by kernel_rfl) (by kernel_rfl) ?_
   repeat(first
    | (go_big_quiet_want;(with_reducible first|refine og _ rfl _ rfl _ h9.cls ?_|refine og _ rfl _ rfl _ h4.cls ?_|refine FJ 26 _ .neq G1 _ _ rfl _ _ _ rfl rfl hq2 ?_);(simp only[Act.put,List.setIfInBounds_toArray,List.set_cons_zero,List.set_cons_succ]);go_big_quiet_on)
    | go_big_quiet_step ((go_at_call 145;exact Calls.regrown_of (KM2.out _))))
   refine wpQuiet_nil ?_;intro v30 hw';obtain⟨rg,hw''⟩:=hw';have To:Below v22.heap.size v22 v30:=by rw[hw''];exact below_regrown v22 rg.d rg.os
   clear hw'';replace h1:=h1.on To;replace hR:=hR.on To;replace h3:=h3.on To;replace h4:=h4.on To;replace h6:=h6.on To;replace h7:=h7.on To;replace h9:=h9.on To;replace bj:=ah bj To;clear To hq2;cases g2
   case true=>
    (go_wp2_with fail);go_roundw
    case rel=>exact⟨k+1,z1,o,r,by omega,rfl,h_ ⟨HZ1.out,HZ.out.2.1,HZ.out.2.2.1,HX.out.1 (by simp)⟩,⟨bj,h1,hR,h3,h4,h6,h7⟩⟩
    case measure=>exact ZK.out
   case false=>
    (go_wp2_with (first|fail|(with_reducible refine aK rfl _ rfl _ rfl _ (by assumption) rfl ?_)));refine au (KS.out _) fun v31 Tq=>?_;replace h1:=h1.on Tq;replace hR:=hR.on Tq;replace h3:=h3.on Tq;replace h4:=h4.on Tq;replace h6:=h6.on Tq;replace h7:=h7.on Tq;replace h9:=h9.on Tq;replace bj:=ah bj Tq;clear Tq;have q32:=h9.lt;(go_upto_region 15 with(with_reducible first|refine aK rfl _ rfl _ rfl _ (by assumption) rfl ?_|refine bg rfl _ _ rfl _ _ rfl rfl _ (Has.R2 _) rfl ?_));generalize hw32:World.setRow _ _ _=v32;have Tr:Below v31.heap.size v31 v32:=cU hw32;have h10:Has v32 v31.heap.size (aa s) 26:=(by rw[<-hw32];exact(Has.R2 _).row _);replace h1:=h1.on Tr;replace hR:=hR.on Tr;replace h3:=h3.on Tr;replace h4:=h4.on Tr;replace h6:=h6.on Tr;replace h7:=h7.on Tr;replace h9:=h9.on Tr;replace bj:=ah bj Tr;clear hw32 Tr;obtain⟨aa8,VA⟩:∃x,x=v31.heap.size:=⟨_,rfl⟩;rw[<-VA]at h10 q32|-;clear VA;have VB:=h_ q32;clear q32;(go_wp2_with (first|fail|(with_reducible refine aK rfl _ rfl _ rfl _ (by assumption) rfl ?_)));refine au (KL.out _) fun v33 S6=>?_;replace h1:=h1.on S6;replace hR:=hR.on S6;replace h3:=h3.on S6;replace h4:=h4.on S6;replace h6:=h6.on S6;replace h7:=h7.on S6;replace h9:=h9.on S6;replace h10:=h10.on S6;replace bj:=ah bj S6;clear S6;cases g3
    case true=>
     (go_wp2_with fail);go_roundw
     case rel=>exact⟨k+1,z1,o,r,by omega,rfl,h_ ⟨HZ1.out,HZ.out.2.1,HZ.out.2.2.1,HX.out.2.1 (by simp) (by simp)⟩,⟨bj,h1,hR,h3,h4,h6,h7⟩⟩
     case measure=>exact ZK.out
    case false=>
     (go_wp2_with (first|fail|(with_reducible refine aK rfl _ rfl _ rfl _ (by assumption) rfl ?_)));refine au (KS2.out _) fun v41 S7=>?_;replace h1:=h1.on S7;replace hR:=hR.on S7;replace h3:=h3.on S7;replace h4:=h4.on S7;replace h6:=h6.on S7;replace h7:=h7.on S7;replace h9:=h9.on S7;replace h10:=h10.on S7;replace bj:=ah bj S7;clear S7;obtain⟨n1,n2,n3,n4,n5,n6⟩:=ND.out;have u9:=XJ.out;have u10:=VB.out;have ZL:=h7;(go_upto_region 17 with(with_reducible first|refine aK rfl _ rfl _ rfl _ (by assumption) rfl ?_|refine bg rfl _ _ rfl _ _ rfl rfl _ ZL rfl ?_));have SV:Below w.heap.size w (v41.setRow SF (aa r2)):=below_setRow bj (by omega) _;replace h1:=h1.R1 SF (aa r2) (by omega);replace hR:=hR.R1 SF (aa r2) (by omega);replace h3:=h3.R1 SF (aa r2) (by omega);replace h4:=h4.R1 SF (aa r2) (by omega);replace h6:=h6.R1 SF (aa r2) (by omega);replace h7:=ZL.row (aa r2);clear h9 h10 ZL bj;have bj:=SV;clear SV XJ VB u9 u10;generalize World.setRow _ _ _=v50 at*;have hP:yc w v50 Uc S0 S5 Tk SF t m4 r2:=⟨bj,h1,hR,h3,h4,h7⟩;simp only[Act.put];clear bj h1 hR h3 h4 h7 KS2 KL KS KD KM2;refine ix (by kernel_rfl) (fun w'=>yc w w' Uc S0 S5 Tk SF t m4 r2) (fun i v' _=>RZ (fun _=>.agg (aa o)) (fun _=>.int .i64 z) (fun _=>.agg (aa m3)) (fun _=>.agg (aa o2)) c3 i v') (fun l _ w'=>Ph 8 (fun w'=>Has w' Tn (aa o) 26) (fun w'=>Has w' Tn (aa o2) 26) l w') (fun _ _=>True) (fun _ _=>trivial) (fun _ _ _ _ _ _ h=>h) (by kernel_rfl) (hP.on bf.drew) ?_ ?_ ?_;exact fun l hl=>Ph.zero hl (h6.on bf.drew)
     ·intro i o lz a wx ho' hnl dq Z;have hC:=Z.c;have hI:=Z.i;have hi:i<9:=(Array.getElem?_eq_some_iff.1 ho').1;obtain rfl|rfl|rfl|rfl|rfl|rfl|rfl|rfl|rfl:i=0\/i=1\/i=2\/i=3\/i=4\/i=5\/i=6\/i=7\/i=8:=(by omega);all_goals obtain rfl:=Option.some.inj ho'
      have hsz:=av Z 0;have R7:=dz Z hnl 8;have hpre:=hI.pre R7 hsz (by decide);exact aP 0 Z (an rfl) (fZ rfl (Z.old' 6) hpre) rfl (hI.keep hsz);exact aP 1 Z (an rfl) (fZ rfl (Z.old' 3) hC.a3) rfl (hI.keep (av Z 1));exact aP 2 Z (an rfl) (NN.dy rfl) (Z.old' 8) (hI.keep (av Z 2))
      ·have hsz:=av Z 3;have R7:=dz Z hnl 8;have hpre:=hI.pre R7 hsz (by decide);exact mf (S:=mQ) 3 Z (an rfl) (f:=145) (args:=#[a.eval (.tmp 58),a.eval (.tmp 59)]) (by kernel_rfl) (by rw[show a.eval (.tmp 58)=_ from(ar Z dq 1 58)];rw[show a.eval (.tmp 59)=_ from(ar Z dq 2 59)];  exact KM3.out wx) (fun w' hb=>⟨hC.on hb,trivial,rfl,Ph.made R7 (hpre.on hb)⟩)
      ·have hsz:=av Z 4;have R7:=dz Z hnl 8;have hpre:=hI.pre R7 hsz (by decide);exact mf (S:=mQ) 4 Z (an rfl) (f:=115) (args:=#[a.eval (.tmp 57),a.eval (.tmp 60)]) (by kernel_rfl) (by rw[show a.eval (.tmp 57)=_ from(ar Z dq 0 57)];rw[show a.eval (.tmp 60)=_ from(ar Z dq 3 60)];  exact Un.out wx) (fun w' hb=>⟨hC.on hb,trivial,rfl,Ph.made R7 (hpre.on hb)⟩)
      exact aP 5 Z (an rfl) (NN.dy rfl) (ar Z dq 4 61) (hI.keep (av Z 5));exact aP 6 Z (an rfl) (fc rfl (ar Z dq 5 56) rfl) rfl (hI.keep (av Z 6));exact aP 7 Z (an rfl) (fc rfl (ar Z dq 5 56) rfl) rfl (hI.keep (av Z 7));have hsz:=av Z 8;have hR0:=hI.1 hnl;exact pr 8 Z (an rfl) (jC rfl (Z.old' 6) (ar Z dq 6 62) hR0 rfl) (hC.row _ _ (by omega) (by omega) (by omega) (by omega) (by omega) (by omega)) rfl (Ph.last hsz (hR0.row _))
     intro lz a' v51 hall Z;obtain⟨bj,h1,hR,h3,h4,h7⟩:=Z.c;have h6:=Z.i.2 (hall 8 (by decide));have e1:a'.eval (.tmp 1)=.pointer (some ⟨Uc,0,none⟩):=Z.old' 1;have e2:a'.eval (.tmp 2)=.pointer (some ⟨S0,0,none⟩):=Z.old' 2;have e3:a'.eval (.tmp 3)=.pointer (some ⟨S5,0,none⟩):=Z.old' 3;have e4:a'.eval (.tmp 4)=.pointer (some ⟨Tk,0,none⟩):=Z.old' 4;have e6:a'.eval (.tmp 6)=.pointer (some ⟨Tn,0,none⟩):=Z.old' 6;have e7:a'.eval (.tmp 7)=.pointer (some ⟨SF,0,none⟩):=Z.old' 7;have e8:a'.eval (.tmp 8)=.int .i64 z:=Z.old' 8;have e0:a'.eval (.tmp 0)=.agg (aa t):=Z.old' 0;have e5:a'.eval (.tmp 5)=.bool false:=Z.old' 5;have e12:a'.eval (.tmp 12)=.agg #[.int .u64 1,.int .u64 0,.int .u64 0,.int .u64 0]:=Z.old' 12;have e13:a'.eval (.tmp 13)=.tuple #[.agg (aa m4),.bool false]:=Z.old' 13;have e14:a'.eval (.tmp 14)=.agg (aa t):=Z.old' 14;have e15:a'.eval (.tmp 15)=.agg (aa 1):=Z.old' 15;have e16:a'.eval (.tmp 16)=.tuple #[.agg (aa m4),.bool false]:=Z.old' 16;have e17:a'.eval (.tmp 17)=.agg (aa m4):=Z.old' 17;have e18:a'.eval (.tmp 18)=.bool false:=Z.old' 18;have e19:a'.eval (.tmp 19)=.bool false:=Z.old' 19;have e20:a'.eval (.tmp 20)=undef:=Z.old' 20;have e21:a'.eval (.tmp 21)=.agg (aa t):=Z.old' 21;have e22:a'.eval (.tmp 22)=.agg #[.int .u64 0,.int .u64 0,.int .u64 0,.int .u64 0]:=Z.old' 22;have e23:a'.eval (.tmp 23)=.bool false:=Z.old' 23;have e24:a'.eval (.tmp 24)=undef:=Z.old' 24;have e25:a'.eval (.tmp 25)=.agg #[.int .u64 0,.int .u64 0,.int .u64 0,.int .u64 0]:=Z.old' 25;have e26:a'.eval (.tmp 26)=.agg (aa (Nm.ai-1)):=Z.old' 26;have V3:a'.eval (.tmp 68)=undef:=Z.old' 68;have ZM:a'.eval (.tmp 69)=undef:=Z.old' 69;have ZN:a'.eval (.tmp 70)=undef:=Z.old' 70;have ZO:a'.eval (.tmp 71)=undef:=Z.old' 71;have ZP:a'.eval (.tmp 72)=undef:=Z.old' 72;have ZQ:a'.eval (.tmp 73)=undef:=Z.old' 73;have ZR:a'.eval (.tmp 74)=undef:=Z.old' 74;have ZS:a'.eval (.tmp 75)=undef:=Z.old' 75;have ZT:a'.eval (.tmp 76)=undef:=Z.old' 76;have ZU:a'.eval (.tmp 77)=undef:=Z.old' 77;have XK:a'.eval (.tmp 78)=undef:=Z.old' 78;clear hP;obtain⟨u,hu⟩:∃u:Nat->Value,∀t,u t=a'.eval (.tmp t):=⟨_,fun _=>rfl⟩;rw[e_ a' 79 u Z.R4 Z.defers hu];rw[<-hu]at e1 e2 e3 e4 e6 e7 e8 e0 e5 e12 e13 e14 e15 e16 e17 e18 e19 e20 e21 e22 e23 e24 e25 e26 V3 ZM ZN ZO ZP ZQ ZR ZS ZT ZU XK;clear hu Z hall;simp only[List.range,List.range.loop,List.map_cons,List.map_nil];rw[e1,e2,e3,e4,e6,e7,e8,e0,e5,e12,e13,e14,e15,e16,e17,e18,e19,e20,e21,e22,e23,e24,e25,e26,V3,ZM,ZN,ZO,ZP,ZQ,ZR,ZS,ZT,ZU,XK];clear e1 e2 e3 e4 e6 e7 e8 e0 e5 e12 e13 e14 e15 e16 e17 e18 e19 e20 e21 e22 e23 e24 e25 e26 V3 ZM ZN ZO ZP ZQ ZR ZS ZT ZU XK;clear n1 n2 n3 n4 n5 n6;(go_upto_region 18 with fail);refine wp_region_quiet_below (by kernel_rfl) (by kernel_rfl) ?_
     repeat(first
      | (go_big_quiet_want;(with_reducible first|refine og _ rfl _ rfl _ h7.cls ?_|refine FJ 26 _ .eql G1 _ _ rfl _ _ _ rfl rfl hq3 ?_);(simp only[Act.put,List.setIfInBounds_toArray,List.set_cons_zero,List.set_cons_succ]);go_big_quiet_on)
      | go_big_quiet_step ((go_at_call 116;exact Calls.regrown_of (KM.out _))))
     refine wpQuiet_nil ?_;intro v52 hw';obtain⟨rg,hw''⟩:=hw';have TL:Below v51.heap.size v51 v52:=(by rw[hw''];exact below_regrown v51 rg.d rg.os);clear hw'';replace h1:=h1.on TL;replace hR:=hR.on TL;replace h3:=h3.on TL;replace h4:=h4.on TL;replace h6:=h6.on TL;replace h7:=h7.on TL;replace bj:=ah bj TL;clear TL hq3;cases g4
     case false=>
      (go_wp2_with fail);go_roundw
      case rel=>(repeat(apply Exists.intro (α:=Value)));exact⟨k+1,z1,o2,r2,by omega,rfl,h_ ⟨HZ1.out,Ul.out,HR2.out,HX.out.2.2.1 (by simp) (by simp) (by simp)⟩,⟨bj,h1,hR,h3,h4,h6,h7⟩⟩
      case measure=>exact ZK.out
     case true=>
      have NR:Hid (w.heap.size<=S0/\Uc<S0):=h_ ⟨ND.out.2.2.2.2.2,ND.out.1⟩;(go_wp2_with (with_reducible first|refine aK rfl _ rfl _ rfl _ (by assumption) rfl ?_|refine bg rfl _ _ rfl _ _ rfl rfl _ hR rfl ?_));exact bodyPost_ret (v:=.agg (aa (o2))) (fw Tryz.results110 _ _ _ rfl (hR.row _)) rfl ⟨_,⟨Ul.out,HX.out.2.2.2 (by simp) (by simp) (by simp)⟩,rfl,below_setRow bj NR.out.1 _⟩
  ·have hz0:z<0:=by have:=HZ.out.1;omega
   have NR:Hid (w.heap.size<=S0/\Uc<S0):=h_ ⟨ND.out.2.2.2.2.2,ND.out.1⟩;have KL:=h_ fun w=>ny r t HZ.out.2.2.1 Xt.out w
   obtain⟨o2,c3,XH,ho2,UQ⟩:=sM o 1 HZ.out.2.1 ik;have hk6:k=256:=by omega
   have HY:Hid ((decide (r<t)=true->o=Nm.work t)/\(decide (r<t)=false->o2=Nm.work t)):=h_ (by
    have:=Nm.LD.last ZH.out.2 (hk6▸HZ.out.2.2.2);rwa[<-XH]at this)
   clear XH hk6;have Un:=h_ UQ;have Ul:=h_ ho2;generalize hg3:decide (r<t)=g3 at*;clear UQ ho2 hg3;go_wp2_with (first|fail|(with_reducible refine aK rfl _ rfl _ rfl _ (by assumption) rfl ?_))
   refine au (KL.out _) fun v71 TM=>?_;replace h1:=h1.on TM;replace hR:=hR.on TM;replace h3:=h3.on TM;replace h4:=h4.on TM;replace h6:=h6.on TM;replace h7:=h7.on TM;replace bj:=ah bj TM;clear TM;cases g3
   case true=>
    (go_wp2_with (with_reducible first|refine aK rfl _ rfl _ rfl _ (by assumption) rfl ?_|refine bg rfl _ _ rfl _ _ rfl rfl _ hR rfl ?_));exact bodyPost_ret (v:=.agg (aa (o))) (fw Tryz.results110 _ _ _ rfl (hR.row _)) rfl ⟨_,⟨HZ.out.2.1,HY.out.1 (by simp)⟩,rfl,below_setRow bj NR.out.1 _⟩
   case false=>
    (go_wp2_with (first|fail|(with_reducible refine aK rfl _ rfl _ rfl _ (by assumption) rfl ?_)));refine au (Un.out _) fun v81 TN=>?_;replace h1:=h1.on TN;replace hR:=hR.on TN;replace h3:=h3.on TN;replace h4:=h4.on TN;replace h6:=h6.on TN;replace h7:=h7.on TN;replace bj:=ah bj TN;clear TN;obtain⟨n1,n2,n3,n4,n5,n6⟩:=ND.out;have h6':=h6;(go_upto_region 22 with(with_reducible first|refine aK rfl _ rfl _ rfl _ (by assumption) rfl ?_|refine bg rfl _ _ rfl _ _ rfl rfl _ h6' rfl ?_));have SV:Below w.heap.size w (v81.setRow Tn (aa o2)):=below_setRow bj (by omega) _;replace hR:=hR.R1 Tn (aa o2) (by omega);replace h6:=h6'.row (aa o2);clear h6' bj h1 h3 h4 h7;have bj:=SV;clear SV;generalize World.setRow _ _ _=v90 at*;(go_wp2_with (with_reducible first|refine aK rfl _ rfl _ rfl _ (by assumption) rfl ?_|refine bg rfl _ _ rfl _ _ rfl rfl _ hR rfl ?_));exact bodyPost_ret (v:=.agg (aa (o2))) (fw Tryz.results110 _ _ _ rfl (hR.row _)) rfl ⟨_,⟨Ul.out,HY.out.2 (by simp)⟩,rfl,below_setRow bj NR.out.1 _⟩
def tQ(f:FuncId)(args:Array Value)(x:Nat):Prop:=∀w,aG f args w fun e w'=>∃z,(z<Nm.ai/\z=x)/\e=.returned (.agg (aa z))/\Bl w w'
theorem vr(t:Nat)(ht:t<Nm.ai):tQ 110 #[.agg (aa t)] (Nm.work t):=by intro w;cases h:decide (Nm.ai<=t+1);cases h0:decide (t=0);have h1:=of_decide_eq_false h;have h2:=of_decide_eq_false h0;exact I1 t ht _ (h_ fun w=>uS t 1 ht ik _ _ rfl h.symm w) (Nat.mod_lt _ jx) (h_ ⟨Nat.mod_eq_of_lt (by omega),by omega⟩) (fun w=>uY t ht _ h0 w) w;have h2:=of_decide_eq_true h0;exact GP t _ (h_ fun w=>uS t 1 ht ik _ _ rfl h.symm w) (h_ (by rw[h2,Nm.Hf])) (fun w=>uY t ht _ h0 w) w;have h1:=of_decide_eq_true h;exact Hi t _ (h_ fun w=>uS t 1 ht ik _ _ rfl h.symm w) (h_ (Nm.Ib (by omega)).symm) w
theorem DH(b:Int):∃z lo ov,ofBits b=(if(lo||ov||decide (z=0))=true then 0 else Nm.work z)/\z<Nm.ai/\b_ 109 #[i_ b] (.tuple #[.agg (aa z),.bool lo,.bool ov]):=by by_cases h:0<=b/\b<=4294967295;obtain⟨n,rfl⟩:∃n:Nat,b=(n:Int):=⟨b.toNat,by omega⟩;exact⟨_,_,_,by unfold ofBits;rw[if_pos h,Int.toNat_natCast],Nm.SR,fun w=>JC n (by omega) w⟩;exact⟨0,false,false,by unfold ofBits;rw[if_neg h];rfl,jx,fun w=>GF b h w⟩
theorem J1(b:Int):tQ 76 #[i_ b] (ofBits b):=by
 intro w;obtain⟨z,lo,ov,he0,hz,XD⟩:=DH b;have KD:=h_ XD;have KO:=h_ (vr z hz);obtain⟨g,hg⟩:∃g,decide (z=0)=g:=⟨_,rfl⟩;have hq:=fun w=>uY z hz g hg w
 have HZ:=h_ hz;rw[hg]at he0;obtain⟨X,hX⟩:∃X,X=ofBits b:=⟨_,rfl⟩;rw[<-hX]at he0|-;have HE:=h_ he0;clear XD hz hg he0 hX;go_enter Tryz.func76,Tryz.ntmps76;go_upto_region 1 with fail
 generalize hw0:World.alloc _ _=v0;have bj:Bl w v0:=dd hw0;have hR:Has v0 w.heap.size (aa 0) 26:=by rw[<-hw0];exact Has.R2 _
 clear hw0;obtain⟨S0,UN⟩:∃x,x=w.heap.size:=⟨_,rfl⟩;have NR:Hid (w.heap.size<=S0):=h_ (by omega);rw[<-UN]at hR|-;clear UN;go_wp2_with (first|fail|(with_reducible refine aK rfl _ rfl _ rfl _ hR rfl ?_))
 refine au (KD.out _) fun v1 hb1=>?_;replace hR:=hR.on hb1;replace bj:=ah bj hb1;clear hb1;have q2:=hR.lt;go_upto_region 2 with(with_reducible first|refine aK rfl _ rfl _ rfl _ hR rfl ?_|refine bg rfl _ _ rfl _ _ rfl rfl _ (Has.R2 _) rfl ?_)
 generalize hw2:World.setRow _ _ _=v2;have hb2:Bl v1 v2:=cU hw2;have h3:Has v2 v1.heap.size (aa z) 26:=by rw[<-hw2];exact(Has.R2 _).row _
 replace hR:=hR.on hb2;replace bj:=ah bj hb2;clear hw2 hb2;obtain⟨S5,SW⟩:∃x,x=v1.heap.size:=⟨_,rfl⟩;rw[<-SW]at h3 q2|-;clear SW;have UO:=h_ q2;clear q2;cases lo
 case true=>
  go_wp2_with (with_reducible first|refine aK rfl _ rfl _ rfl _ (by assumption) rfl ?_|refine dG (by with_unfolding_all rfl) _ rfl _ rfl _ (by assumption) rfl ?_|refine lY rfl _ _ rfl _ 0 _ rfl rfl fN _ hR rfl ?_)
  exact bodyPost_ret (v:=.agg (aa 0)) (fw Tryz.results76 _ _ _ rfl (hR.row _)) rfl ⟨_,⟨jx,by have:=HE.out;simpa using this.symm⟩,rfl,below_setRow bj NR.out _⟩
 case false=>
  cases ov
  case true=>
   go_wp2_with (with_reducible first|refine aK rfl _ rfl _ rfl _ (by assumption) rfl ?_|refine dG (by with_unfolding_all rfl) _ rfl _ rfl _ (by assumption) rfl ?_|refine lY rfl _ _ rfl _ 0 _ rfl rfl fN _ hR rfl ?_)
   exact bodyPost_ret (v:=.agg (aa 0)) (fw Tryz.results76 _ _ _ rfl (hR.row _)) rfl ⟨_,⟨jx,by have:=HE.out;simpa using this.symm⟩,rfl,below_setRow bj NR.out _⟩
  case false=>
   cases g
   case true=>
    (go_wp2_with (with_reducible first|refine aK rfl _ rfl _ rfl _ (by assumption) rfl ?_|refine dG (by with_unfolding_all rfl) _ rfl _ rfl _ (by assumption) rfl ?_|refine lY rfl _ _ rfl _ 0 _ rfl rfl fN _ hR rfl ?_));exact bodyPost_ret (v:=.agg (aa 0)) (fw Tryz.results76 _ _ _ rfl (hR.row _)) rfl ⟨_,⟨jx,by have:=HE.out;simpa using this.symm⟩,rfl,below_setRow bj NR.out _⟩
   case false=>
    (go_wp2_with (with_reducible first|refine aK rfl _ rfl _ rfl _ (by assumption) rfl ?_|refine dG (by with_unfolding_all rfl) _ rfl _ rfl _ (by assumption) rfl ?_));refine(KO.out _).mono ?_;rintro e v9 ⟨y,hy,rfl,SC⟩;have HY:=h_ hy;clear hy;replace hR:=hR.on SC;replace h3:=h3.on SC;replace bj:=ah bj SC;clear SC;(go_wp2_with (with_reducible first|refine aK rfl _ rfl _ rfl _ (by assumption) rfl ?_|refine bg rfl _ _ rfl _ _ rfl rfl _ hR rfl ?_));exact bodyPost_ret (v:=.agg (aa y)) (fw Tryz.results76 _ _ _ rfl (hR.row _)) rfl ⟨_,⟨HY.out.1,by have:=HE.out;rw[HY.out.2];simpa using this.symm⟩,rfl,below_setRow bj NR.out _⟩
end NN
namespace An
open Mem Sc NN.Si
theorem ir.mine{k s:Nat}{Pre:World->Prop}{Post:Value->World->Prop}{l:Array Bool}{a:Act}{w':World}(u:Value)(hi:k<l.size)(hs:s<a.tmps.size)(hp:Post u w'):ir k s Pre Post (l.setIfInBounds k true) (a.put (some s) u) w':=⟨fun h=>(by rw[gF _ _ _ hi,if_pos rfl]at h;cases h),fun _=>by rw[jQ a s u hs];exact hp⟩
theorem Lw:∃i z,Tryz.prog.info? 26=some i/\i.zero=some z/\i.size=4/\i.bytes=32/\z.cells.size=4:=sJ (by kernel_rfl) (by kernel_rfl) (by kernel_rfl)
theorem Lg(cs:Array Value)(h:cs.size=4)(w:World):(Instr.buildSlice 70 1 #[(0,.agg cs)]).run Tryz.prog w=.ok (.slice (some ⟨w.heap.size,0,none⟩) 1 1) (w.alloc (.cells cs 26)):=by obtain⟨i,z,hi,hz,h1,h2,h3⟩:=Lw;refine run_buildSlice w 70 26 1 _ cs i z Tryz.underlying70 hi hz (by rw[h1];decide) (by rw[h1];decide) ?_;rw[h1];exact tS 4 _ cs (by simp) h
section
variable{ρ:Operand->Value}{o:Oper}{w:World}
variable{x:Operand}
theorem zW{y:Operand}{a b m:Int}(ho:o.op=.call { callee:=.builtin .max,args:=#[x,y],argTypes:=#[3,3] })(hx:ρ x=i_ a)(hy:ρ y=i_ b)(hm:m=max a b):(execOp ρ o).run Tryz.prog w=.ok (.value (i_ m)) w:=by have hr:=NN.k6 (P:=Tryz.prog) a b m hm #[3,3] o.type w;unfold execOp;simp only[ho,resolve,invoke,builtin,Sem.run_bind,Sem.run_pure,Result.andThen_ok,List.map_toArray,List.map_cons,List.map_nil,hx,hy,hr]
theorem qP{T:TypeId}{cs:Array Value}(ho:o.op=.box T x)(hx:ρ x=.agg cs):(execOp ρ o).run Tryz.prog w=.ok (.value (.pointer (some ⟨w.heap.size,0,none⟩))) (w.alloc (.cells cs T)):=by unfold execOp;simp only[ho,hx];rfl
theorem QZ{x0 x1 x2 x3 x4 x5:Operand}{p:NN.Pr}(ho:o.op=.build 72 #[(0,x0),(1,x1),(2,x2),(3,x3),(4,x4),(5,x5)])(hp:p.ok)(h0:ρ x0=.agg (NN.aE p)){a1 a2 a3 a4:Option Addr}{n1 n2 n3 n4 c1 c2 c3 c4 room:Nat}(h1:ρ x1=.slice a1 n1 c1)(h2:ρ x2=.slice a2 n2 c2)(h3:ρ x3=.slice a3 n3 c3)(h4:ρ x4=.slice a4 n4 c4)(h5:ρ x5=i_ room):(execOp ρ o).run Tryz.prog w=.ok (.value (.agg (iz p (.slice a1 n1 c1) (.slice a2 n2 c2) (.slice a3 n3 c3) (.slice a4 n4 c4) room))) w:=by unfold execOp;simp only[ho,Sem.run_bind];rw[show(#[(0,x0),(1,x1),(2,x2),(3,x3),(4,x4),(5,x5)]:Array (Nat×Operand)).map (fun(i,x)=>(i,ρ x))=#[(0,.agg (NN.aE p)),(1,.slice a1 n1 c1),(2,.slice a2 n2 c2),(3,.slice a3 n3 c3),(4,.slice a4 n4 c4),(5,Value.int .i64 (room:Int))] by simp[h0,h1,h2,h3,h4,h5],run_build w 72 _ _ (IE p hp a1 a2 a3 a4 n1 n2 n3 n4 c1 c2 c3 c4 room)];rfl
end
def gM(B:Nat)(cs:Array Value)(T:TypeId)(u:Value)(w:World):Prop:=∃g,u=.slice (aT g) 1 1/\B<=g/\Has w g cs T
variable{B R:Nat}{cs:Array Value}{u:Value}{w w':World}
theorem gM.on{T:TypeId}(h:gM B cs T u w)(hb:Bl w w'):gM B cs T u w':=by obtain⟨g,h1,h2,h3⟩:=h;exact⟨g,h1,h2,cg hb h3 h3.lt⟩
def pR(x:Nat)(u:Value):Prop:=∃z,(z<NN.Nm.ai/\z=x)/\u=.agg (NN.aa z)
def o6(B x:Nat)(u:Value)(w:World):Prop:=∃z,(z<NN.Nm.ai/\z=x)/\gM B (NN.aa z) 26 u w
theorem o6.on{x:Nat}(h:o6 B x u w)(hb:Bl w w'):o6 B x u w':=by obtain⟨z,h1,h2⟩:=h;exact⟨z,h1,h2.on hb⟩
def Kq(B:Nat)(p:NN.Pr)(h:Hd)(id:List UInt8)(R:Nat)(cs:Array Value)(w:World):Prop:=∃vH vI vA vW,cs=iz p vH vI vA vW R/\gM B (aD h) 30 vH w/\gM B (ae id) 28 vI w/\gM B #[i_ (-1)] 3 vA w/\o6 B (NN.ofBits h.bits) vW w
variable{p:NN.Pr}{h:Hd}{id:List UInt8}
theorem Kq.on(hv:Kq B p h id R cs w)(hb:Bl w w'):Kq B p h id R cs w':=by obtain⟨vH,vI,vA,vW,h1,h2,h3,h4,h5⟩:=hv;exact⟨vH,vI,vA,vW,h1,h2.on hb,h3.on hb,h4.on hb,h5.on hb⟩
def uK(B:Nat)(p:NN.Pr)(h:Hd)(id:List UInt8)(R:Nat)(u:Value)(w:World):Prop:=∃g cs,u=af g/\B<=g/\Has w g cs 72/\Kq B p h id R cs w
theorem uK.on(hv:uK B p h id R u w)(hb:Bl w w'):uK B p h id R u w':=by obtain⟨g,cs,h1,h2,h3,h4⟩:=hv;exact⟨g,cs,h1,h2,cg hb h3 h3.lt,h4.on hb⟩
def OE(B bP:Nat)(p:NN.Pr)(h:Hd)(id:List UInt8)(room m1:Int)(R:Nat):Nat->Value->World->Prop
 | 0,u,_=>u=.agg (NN.aE p)
 | 1,u,_=>u=.pointer (some ⟨bP,15,none⟩)
 | 2,u,_=>u=.agg (aD h)
 | 3,u,w=>gM B (aD h) 30 u w
 | 4,u,_=>u=.pointer (some ⟨bP,15,none⟩)
 | 5,u,_=>u=.agg (aD h)
 | 6,u,_=>u=.agg (ae id)
 | 7,u,w=>gM B (ae id) 28 u w
 | 8,u,w=>gM B #[i_ (-1)] 3 u w
 | 9,u,_=>u=.pointer (some ⟨bP,15,none⟩)
 | 10,u,_=>u=.pointer (some ⟨bP,81,none⟩)
 | 11,u,_=>u=i_ h.bits
 | 12,u,_=>pR (NN.ofBits h.bits) u
 | 13,u,w=>o6 B (NN.ofBits h.bits) u w
 | 14,u,_=>u=i_ room
 | 15,u,_=>u=i_ m1
 | 16,u,_=>u=i_ R
 | 17,u,w=>∃cs,u=.agg cs/\Kq B p h id R cs w
 | 18,u,w=>uK B p h id R u w
 | 19,u,w=>uK B p h id R u w
 | _,_,_=>B=B
theorem IF{bP:Nat}{room m1:Int}:∀(i:Nat)(u:Value)(w w':World),Bl w w'->OE B bP p h id room m1 R i u w->OE B bP p h id room m1 R i u w'
 | 0,_,_,_,_,h|1,_,_,_,_,h|2,_,_,_,_,h|4,_,_,_,_,h|5,_,_,_,_,h|6,_,_,_,_,h|9,_,_,_,_,h|10,_,_,_,_,h|11,_,_,_,_,h|12,_,_,_,_,h|14,_,_,_,_,h|15,_,_,_,_,h|16,_,_,_,_,h=>h
 | 3,_,_,_,hb,h=>gM.on h hb
 | 7,_,_,_,hb,h=>gM.on h hb
 | 8,_,_,_,hb,h=>gM.on h hb
 | 13,_,_,_,hb,h=>o6.on h hb
 | 17,_,_,_,hb,⟨cs,h1,h2⟩=>⟨cs,h1,h2.on hb⟩
 | 18,_,_,_,hb,h=>uK.on h hb
 | 19,_,_,_,hb,h=>uK.on h hb
 | _+20,_,_,_,_,_=>rfl
theorem uM(p:NN.Pr)(hp:p.ok)(t:Tl)(tt:p.tl=t.C)(ht:t.ok)(h:Hd)(hg:t.g=h)(ho:h.ok)(id:List UInt8)(i32:id.length=32)(room:Int)(w:World)(KI:aQ w 75 #[.agg (aD h)] (.agg (ae id))):aG 39 #[.agg (NN.aE p),.int .i64 room] w fun e w'=>∃u,e=.returned u/\uK w.heap.size p h id (dO room) u w'/\Bl w w':=by
 have KO:=h_ (NN.J1 h.bits);have z2:=er ho;have zA:(aD h).size=68:=by rw[aD,List.size_toArray,z2]
 have zI:(ae id).size=32:=by simp[ae,i32]
 obtain⟨m1,hm1⟩:∃m1,m1=max room 1:=⟨_,rfl⟩;obtain⟨R,hR⟩:∃R,R=dO room:=⟨_,rfl⟩;have hR2:(R:Int)=min m1 512:=by rw[hR,hm1,F']
 have HM:=h_ (And.intro hm1 hR2);rw[<-hR];clear hR hm1 hR2;go_enter Tryz.func39,Tryz.ntmps39;go_upto_region 1 with fail
 generalize hw0:World.alloc _ _=v0;have hB:Bl w v0:=dd hw0;have hP:NN.aA v0 w.heap.size p:=by rw[<-hw0];exact NN.Has.new _ _
 clear hw0;obtain⟨bP,Sf⟩:∃x,x=w.heap.size:=⟨_,rfl⟩;have Wz:=h_ Sf;rw[<-Sf]at hP|-;clear Sf;refine ix (by kernel_rfl) (fun w'=>Bl w w'/\NN.aA w' bP p) (fun i v' w'=>OE w.heap.size bP p h id room m1 R i v' w') (fun l a w'=>ir 19 4 (fun _=>True) (fun u w'=>uK w.heap.size p h id R u w') l a w') (fun w w'=>Bl w w') (fun _ _=>Below.refl _ _) (fun i v w w' _ hs h=>IF i v w w' hs h) (by kernel_rfl) ⟨hB.trans (bf.drew.mono hB.size),Has.drew hP⟩ ?_ ?_ ?_;exact fun l hl=>ir.zero hl trivial
 ·intro i o lz a wx ho' hnl dq Z;have hC:=Z.c;have hI:=Z.i;have hi:i<20:=(Array.getElem?_eq_some_iff.1 ho').1;have rP:wx.rangeAt bP 15 (bq h):=by rw[<-hg];exact jP hC.2 tt ht
  have rB:=Iy ho rP;have rA:wx.rangeAt bP 0 (NN.dR p):=gd (A:=[]) (C:=[]) (t:=32) (by rw[List.append_nil];exact hC.2) rfl;obtain rfl|rfl|rfl|rfl|rfl|rfl|rfl|rfl|rfl|rfl|rfl|rfl|rfl|rfl|rfl|rfl|rfl|rfl|rfl|rfl:i=0\/i=1\/i=2\/i=3\/i=4\/i=5\/i=6\/i=7\/i=8\/i=9\/i=10\/i=11\/i=12\/i=13\/i=14\/i=15\/i=16\/i=17\/i=18\/i=19:=by omega
  all_goals obtain rfl:=Option.some.inj ho'
  exact dA (S:=fun w w'=>Bl w w') (fun _ _=>Below.refl _ _) 0 Z (an rfl) (CW rfl (Z.old' 2) rA (jz hp)) rfl (hI.keep (av Z 0));exact dA (S:=fun w w'=>Bl w w') (fun _ _=>Below.refl _ _) 1 Z (an rfl) (dm rfl (Z.old' 2) (gD wx bP)) rfl (hI.keep (av Z 1));exact dA (S:=fun w w'=>Bl w w') (fun _ _=>Below.refl _ _) 2 Z (an rfl) (mC rfl (ar Z dq 1 6) rP z2) rfl (hI.keep (av Z 2));have hsz:=av Z 3;have R7:=dz Z hnl 19;have hb:Bl wx (wx.alloc _):=bf.alloc (Nat.le_refl _) (.cells (aD h) 30);exact Ci (S:=fun w w'=>Bl w w') 3 Z (an rfl) (NN.Si.jO rfl (ar Z dq 2 7) (AY _ zA wx)) ⟨ah hC.1 hb,NN.aA.on hC.2 hb⟩ hb (⟨wx.heap.size,rfl,hC.1.size,Has.new _ _⟩) (ir.made R7 trivial);exact dA (S:=fun w w'=>Bl w w') (fun _ _=>Below.refl _ _) 4 Z (an rfl) (dm rfl (Z.old' 2) (gD wx bP)) rfl (hI.keep (av Z 4));exact dA (S:=fun w w'=>Bl w w') (fun _ _=>Below.refl _ _) 5 Z (an rfl) (mC rfl (ar Z dq 4 9) rP z2) rfl (hI.keep (av Z 5))
  ·have hsz:=av Z 6;have R7:=dz Z hnl 19;have hpre:=hI.pre R7 hsz (by decide);exact mf (S:=fun w w'=>Bl w w') 6 Z (an rfl) (f:=75) (args:=#[a.eval (.tmp 10)]) (by kernel_rfl) (by rw[show a.eval (.tmp 10)=_ from(ar Z dq 5 10)];  exact KI.out wx hC.1) (fun w' hb=>⟨⟨ah hC.1 hb,NN.aA.on hC.2 hb⟩,hb,rfl,ir.made R7 (trivial)⟩)
  have hsz:=av Z 7;have R7:=dz Z hnl 19;have hb:Bl wx (wx.alloc _):=bf.alloc (Nat.le_refl _) (.cells (ae id) 28);exact Ci (S:=fun w w'=>Bl w w') 7 Z (an rfl) (NN.Si.jO rfl (ar Z dq 6 11) (Ki _ zI wx)) ⟨ah hC.1 hb,NN.aA.on hC.2 hb⟩ hb (⟨wx.heap.size,rfl,hC.1.size,Has.new _ _⟩) (ir.made R7 trivial);have hsz:=av Z 8;have R7:=dz Z hnl 19;have hb:Bl wx (wx.alloc _):=bf.alloc (Nat.le_refl _) (.cells #[.int .i64 (-1)] 3);exact Ci (S:=fun w w'=>Bl w w') 8 Z (an rfl) (NN.Si.jO rfl rfl (nK wx (-1))) ⟨ah hC.1 hb,NN.aA.on hC.2 hb⟩ hb (⟨wx.heap.size,rfl,hC.1.size,Has.new _ _⟩) (ir.made R7 trivial);exact dA (S:=fun w w'=>Bl w w') (fun _ _=>Below.refl _ _) 9 Z (an rfl) (dm rfl (Z.old' 2) (gD wx bP)) rfl (hI.keep (av Z 9));exact dA (S:=fun w w'=>Bl w w') (fun _ _=>Below.refl _ _) 10 Z (an rfl) (xG rfl (ar Z dq 9 14) (mm wx bP)) rfl (hI.keep (av Z 10));exact dA (S:=fun w w'=>Bl w w') (fun _ _=>Below.refl _ _) 11 Z (an rfl) (NN.lC rfl (ar Z dq 10 15) rB) rfl (hI.keep (av Z 11))
  ·have hsz:=av Z 12;have R7:=dz Z hnl 19;have e16:=(ar Z dq 11 16);refine zL (S:=fun w w'=>Bl w w') 12 Z (an rfl) (f:=76) (args:=#[a.eval (.tmp 16)]) (by kernel_rfl) ?_;rw[e16];refine(KO.out wx).mono ?_;rintro e w' ⟨z,hz,rfl,hb⟩;exact⟨_,rfl,⟨ah hC.1 hb,NN.aA.on hC.2 hb⟩,hb,⟨z,hz,rfl⟩,ir.made R7 trivial⟩
  have hsz:=av Z 13;have R7:=dz Z hnl 19;obtain⟨z,hz,e17⟩:=(ar Z dq 12 17);have hb:Bl wx (wx.alloc _):=bf.alloc (Nat.le_refl _) (.cells (NN.aa z) 26);exact Ci (S:=fun w w'=>Bl w w') 13 Z (an rfl) (NN.Si.jO rfl e17 (Lg _ (NN.fU z) wx)) ⟨ah hC.1 hb,NN.aA.on hC.2 hb⟩ hb (⟨z,hz,wx.heap.size,rfl,hC.1.size,Has.new _ _⟩) (ir.made R7 trivial);exact dA (S:=fun w w'=>Bl w w') (fun _ _=>Below.refl _ _) 14 Z (an rfl) (NN.dy rfl) (Z.old' 1) (hI.keep (av Z 14));exact dA (S:=fun w w'=>Bl w w') (fun _ _=>Below.refl _ _) 15 Z (an rfl) (zW rfl (ar Z dq 14 19) rfl HM.out.1) rfl (hI.keep (av Z 15));exact dA (S:=fun w w'=>Bl w w') (fun _ _=>Below.refl _ _) 16 Z (an rfl) (sv rfl (ar Z dq 15 20) rfl HM.out.2) rfl (hI.keep (av Z 16));have hsz:=av Z 17;obtain⟨g1,e8,k8,m8⟩:=(ar Z dq 3 8);obtain⟨g2,e12,k12,m12⟩:=(ar Z dq 7 12);obtain⟨g3,e13,k13,m13⟩:=(ar Z dq 8 13);obtain⟨z,hz,g4,e18,k18,m18⟩:=(ar Z dq 13 18);exact dA (S:=fun w w'=>Bl w w') (fun _ _=>Below.refl _ _) 17 Z (an rfl) (QZ rfl hp (ar Z dq 0 5) e8 e12 e13 e18 (ar Z dq 16 21)) ⟨_,rfl,_,_,_,_,rfl,⟨g1,rfl,k8,m8⟩,⟨g2,rfl,k12,m12⟩,⟨g3,rfl,k13,m13⟩,z,hz,g4,rfl,k18,m18⟩ (hI.keep hsz);have hsz:=av Z 18;have R7:=dz Z hnl 19;obtain⟨cs,e22,hv⟩:=(ar Z dq 17 22);have hb:Bl wx (wx.alloc _):=bf.alloc (Nat.le_refl _) (.cells cs 72);exact Ci (S:=fun w w'=>Bl w w') 18 Z (an rfl) (qP rfl e22) ⟨ah hC.1 hb,NN.aA.on hC.2 hb⟩ hb (⟨wx.heap.size,cs,rfl,hC.1.size,Has.new _ _,hv.on hb⟩) (ir.made R7 trivial);exact dA (S:=fun w w'=>Bl w w') (fun _ _=>Below.refl _ _) 19 Z (an rfl) (NN.fp rfl) (ar Z dq 18 23) (ir.mine _ (av Z 19) (by rw[Z.R4];exact(show 4<24 by decide)) (ar Z dq 18 23))
 intro lz a' v1 hall Z;have hC:=Z.c;obtain⟨g,cs,e4,hg4,hh4,hv4⟩:=Z.i.2 (hall 19 (by decide));obtain⟨u,hu⟩:∃u:Nat->Value,∀t,u t=a'.eval (.tmp t):=⟨_,fun _=>rfl⟩;rw[e_ a' 24 u Z.R4 Z.defers hu];rw[<-hu]at e4;clear hu Z hall;simp only[List.range,List.range.loop,List.map_cons,List.map_nil];rw[e4];clear e4;go_wp2_with fail
 go_ret;exact⟨_,rfl,⟨g,cs,rfl,hg4,hh4,hv4⟩,hC.1⟩
open Ar (aq Ru aB)
theorem xA(b:Nat)(h:Hd)(ho:h.ok)(now:Int)(w:World)(KG:aQ w 118 #[.agg (aD h)] (.bool false)):ak 84 #[.pointer (some ⟨b,0,none⟩),.agg (aD h),.int .i64 now] w (.tuple #[.int .i64 (-1),.int .i64 1,.int .i64 8]):=by
 have za:=fX ho;go_enter Tryz.func84,Tryz.ntmps84;go_upto_region 1 with fail
 generalize hw0:World.alloc _ _=v0;have hB:Below w.heap.size w v0:=dd hw0;have hH:aH v0 w.heap.size h:=by rw[<-hw0];exact Has.new _ _
 clear hw0;obtain⟨bH,R'⟩:∃x,x=w.heap.size:=⟨_,rfl⟩;rw[<-R']at hH|-;have UR:Hid (bH=w.heap.size):=h_ R';clear R';go_wp2_with (first|fail|(with_reducible refine cP rfl _ rfl _ rfl hH za ?_))
 refine au (KG.out _ hB) fun v1 hb=>?_;replace hH:=hH.on hb;replace hB:=ah hB hb;clear hb;go_wp2_with fail
 go_ret3
 exact⟨rfl,hB⟩
theorem Eb(b:Nat)(h:Hd)(ho:h.ok)(now:Int)(w:World)(KG:aQ w 118 #[.agg (aD h)] (.bool true))(id:List UInt8)(i32:id.length=32)(KI:aQ w 119 #[.agg (aD h)] (.agg (ae id)))(i:Nat)(KF:aQ w 120 #[.pointer (some ⟨b,0,none⟩),.agg (ae id)] (.int .i64 (i:Int))):ak 84 #[.pointer (some ⟨b,0,none⟩),.agg (aD h),.int .i64 now] w (.tuple #[.int .i64 (i:Int),.int .i64 0,.int .i64 0]):=by
 have za:=fX ho;go_enter Tryz.func84,Tryz.ntmps84;go_upto_region 1 with fail
 generalize hw0:World.alloc _ _=v0;have hB:Below w.heap.size w v0:=dd hw0;have hH:aH v0 w.heap.size h:=by rw[<-hw0];exact Has.new _ _
 clear hw0;obtain⟨bH,R'⟩:∃x,x=w.heap.size:=⟨_,rfl⟩;rw[<-R']at hH|-;have UR:Hid (bH=w.heap.size):=h_ R';clear R';go_wp2_with (first|fail|(with_reducible refine cP rfl _ rfl _ rfl hH za ?_))
 refine au (KG.out _ hB) fun v1 hb=>?_;replace hH:=hH.on hb;replace hB:=ah hB hb;clear hb;go_wp2_with (first|fail|(with_reducible refine cP rfl _ rfl _ rfl hH za ?_))
 refine au (KI.out _ hB) fun v2 hb=>?_;replace hH:=hH.on hb;replace hB:=ah hB hb;clear hb;have s1:(ae id).size=32:=by rw[jH];exact i32
 have o1:=j6 id;have HW2:Hid (w.heap.size<=v2.heap.size):=h_ hB.size;go_upto_region 6 with(with_reducible refine jD rfl _ _ rfl _ (ae id) (ae id) rfl rfl rfl s1 o1 h0 (c_ v2 _) rfl ?_)
 generalize hw4:World.setRow _ _ _=v3;have hb2:Below v2.heap.size v2 v3:=cU hw4;have hI:Has v3 v2.heap.size (ae id) 28:=by rw[<-hw4];exact Has.row (c_ v2 _) _
 replace hH:=hH.on hb2;replace hB:=ah hB hb2;clear hw4 hb2 o1;obtain⟨bI,TF⟩:∃b,b=v2.heap.size:=⟨_,rfl⟩;rw[<-TF]at hI HW2|-;clear TF;go_wp2_with (first|fail|(with_reducible refine ku rfl _ rfl _ rfl _ hI s1 ?_))
 refine au (KF.out _ hB) fun v4 hb=>?_;replace hH:=hH.on hb;replace hI:=cg hb hI (Has.lt hI);replace hB:=ah hB hb;clear hb;go_wp2_with fail
 go_ret3
 exact⟨rfl,hB⟩
theorem EN(b:Nat)(h:Hd)(ho:h.ok)(now:Int)(w:World)(KG:aQ w 118 #[.agg (aD h)] (.bool true))(id:List UInt8)(i32:id.length=32)(KI:aQ w 119 #[.agg (aD h)] (.agg (ae id)))(KF:aQ w 120 #[.pointer (some ⟨b,0,none⟩),.agg (ae id)] (.int .i64 (-1)))(KP:aQ w 120 #[.pointer (some ⟨b,0,none⟩),.agg (ae h.prev)] (.int .i64 (-1))):ak 84 #[.pointer (some ⟨b,0,none⟩),.agg (aD h),.int .i64 now] w (.tuple #[.int .i64 (-1),.int .i64 2,.int .i64 5]):=by
 have za:=fX ho;go_enter Tryz.func84,Tryz.ntmps84;go_upto_region 1 with fail
 generalize hw0:World.alloc _ _=v0;have hB:Below w.heap.size w v0:=dd hw0;have hH:aH v0 w.heap.size h:=by rw[<-hw0];exact Has.new _ _
 clear hw0;obtain⟨bH,R'⟩:∃x,x=w.heap.size:=⟨_,rfl⟩;rw[<-R']at hH|-;have UR:Hid (bH=w.heap.size):=h_ R';clear R';go_wp2_with (first|fail|(with_reducible refine cP rfl _ rfl _ rfl hH za ?_))
 refine au (KG.out _ hB) fun v1 hb=>?_;replace hH:=hH.on hb;replace hB:=ah hB hb;clear hb;go_wp2_with (first|fail|(with_reducible refine cP rfl _ rfl _ rfl hH za ?_))
 refine au (KI.out _ hB) fun v2 hb=>?_;replace hH:=hH.on hb;replace hB:=ah hB hb;clear hb;have s1:(ae id).size=32:=by rw[jH];exact i32
 have o1:=j6 id;have HW2:Hid (w.heap.size<=v2.heap.size):=h_ hB.size;go_upto_region 6 with(with_reducible refine jD rfl _ _ rfl _ (ae id) (ae id) rfl rfl rfl s1 o1 h0 (c_ v2 _) rfl ?_)
 generalize hw4:World.setRow _ _ _=v3;have hb2:Below v2.heap.size v2 v3:=cU hw4;have hI:Has v3 v2.heap.size (ae id) 28:=by rw[<-hw4];exact Has.row (c_ v2 _) _
 replace hH:=hH.on hb2;replace hB:=ah hB hb2;clear hw4 hb2 o1;obtain⟨bI,TF⟩:∃b,b=v2.heap.size:=⟨_,rfl⟩;rw[<-TF]at hI HW2|-;clear TF;go_wp2_with (first|fail|(with_reducible refine ku rfl _ rfl _ rfl _ hI s1 ?_))
 refine au (KF.out _ hB) fun v4 hb=>?_;replace hH:=hH.on hb;replace hI:=cg hb hI (Has.lt hI);replace hB:=ah hB hb;clear hb;have rp:=hH.prev;have s2:=il ho.1;go_wp2_with (first|fail|(with_reducible refine gu rfl _ rfl bH 1 rfl h.prev rp s2 ?_))
 refine au (KP.out _ hB) fun v5 hb=>?_;replace hH:=hH.on hb;replace hI:=cg hb hI (Has.lt hI);replace hB:=ah hB hb;clear hb;clear rp;go_wp2_with fail
 go_ret3
 exact⟨rfl,hB⟩
theorem E'(b:Nat)(h:Hd)(ho:h.ok)(now:Int)(w:World)(KG:aQ w 118 #[.agg (aD h)] (.bool true))(id:List UInt8)(i32:id.length=32)(KI:aQ w 119 #[.agg (aD h)] (.agg (ae id)))(KF:aQ w 120 #[.pointer (some ⟨b,0,none⟩),.agg (ae id)] (.int .i64 (-1))){I:Nat->Prop}{p:NN.Pr}{t:Tl}{gs:List Gt}{cs:List Ck}{room g n c mb:Nat}{L:List Bk}(HA:Hid (∀w',Below w.heap.size w w'->fM w' I b p t gs cs room (.slice (some ⟨g,0,none⟩) n c) mb L))(x:Bk)(xe:x.e.ok)(xs:x.s.ok)(j:Nat)(hj:j<n)(HR:Hid (∀w',Below w.heap.size w w'->w'.rangeAt g (j*144) (jc x.e x.s)))(KP:aQ w 120 #[.pointer (some ⟨b,0,none⟩),.agg (ae h.prev)] (.int .i64 (j:Int)))(y:Int)(hy:(y==0)=false)(KC:aQ w 121 #[.agg (NN.aE p),.agg (br x.s),.agg (aD h),.int .i64 now] (.int .i64 y)):ak 84 #[.pointer (some ⟨b,0,none⟩),.agg (aD h),.int .i64 now] w (.tuple #[.int .i64 (-1),.int .i64 y,.int .i64 8]):=by
 have za:=fX ho;go_enter Tryz.func84,Tryz.ntmps84;go_upto_region 1 with fail
 generalize hw0:World.alloc _ _=v0;have hB:Below w.heap.size w v0:=dd hw0;have hH:aH v0 w.heap.size h:=by rw[<-hw0];exact Has.new _ _
 clear hw0;obtain⟨bH,R'⟩:∃x,x=w.heap.size:=⟨_,rfl⟩;rw[<-R']at hH|-;have UR:Hid (bH=w.heap.size):=h_ R';clear R';go_wp2_with (first|fail|(with_reducible refine cP rfl _ rfl _ rfl hH za ?_))
 refine au (KG.out _ hB) fun v1 hb=>?_;replace hH:=hH.on hb;replace hB:=ah hB hb;clear hb;go_wp2_with (first|fail|(with_reducible refine cP rfl _ rfl _ rfl hH za ?_))
 refine au (KI.out _ hB) fun v2 hb=>?_;replace hH:=hH.on hb;replace hB:=ah hB hb;clear hb;have s1:(ae id).size=32:=by rw[jH];exact i32
 have o1:=j6 id;have HW2:Hid (w.heap.size<=v2.heap.size):=h_ hB.size;go_upto_region 6 with(with_reducible refine jD rfl _ _ rfl _ (ae id) (ae id) rfl rfl rfl s1 o1 h0 (c_ v2 _) rfl ?_)
 generalize hw4:World.setRow _ _ _=v3;have hb2:Below v2.heap.size v2 v3:=cU hw4;have hI:Has v3 v2.heap.size (ae id) 28:=by rw[<-hw4];exact Has.row (c_ v2 _) _
 replace hH:=hH.on hb2;replace hB:=ah hB hb2;clear hw4 hb2 o1;obtain⟨bI,TF⟩:∃b,b=v2.heap.size:=⟨_,rfl⟩;rw[<-TF]at hI HW2|-;clear TF;go_wp2_with (first|fail|(with_reducible refine ku rfl _ rfl _ rfl _ hI s1 ?_))
 refine au (KF.out _ hB) fun v4 hb=>?_;replace hH:=hH.on hb;replace hI:=cg hb hI (Has.lt hI);replace hB:=ah hB hb;clear hb;have rp:=hH.prev;have s2:=il ho.1;go_wp2_with (first|fail|(with_reducible refine gu rfl _ rfl bH 1 rfl h.prev rp s2 ?_))
 refine au (KP.out _ hB) fun v5 hb=>?_;replace hH:=hH.on hb;replace hI:=cg hb hI (Has.lt hI);replace hB:=ah hB hb;clear hb;clear rp;have Tv:=HA.out _ hB;have Ud:=iB Tv.has Tv.Su;have rs:=AV xe (HR.out _ hB);have z3:=mE xs;have z4:=iW xs;have z0:=iW ji;have hp:=Tv.Su;clear Tv;have WB:Hid (w.heap.size<=v5.heap.size):=h_ hB.size
 go_upto_region 13 with(first
  | (with_reducible refine BH rfl _ rfl g (j*144+106) rfl x.s rs z3 ?_)
  | (with_reducible refine sB rfl _ _ rfl _ _ x.s rfl rfl rfl z4 (np v5) z0 ?_))
 generalize hw4:World.setRow _ _ _=v6;have hb2:Below v5.heap.size v5 v6:=cU hw4;have hS:aI v6 v5.heap.size x.s:=by rw[<-hw4];exact Has.row (np v5) _
 replace hH:=hH.on hb2;replace hI:=cg hb2 hI (Has.lt hI);replace hB:=ah hB hb2;clear hw4 hb2 Ud rs;obtain⟨bS,hbS⟩:∃b,b=v5.heap.size:=⟨_,rfl⟩;rw[<-hbS]at hS WB|-;clear hbS;simp only[Act.put];have hz:=jz hp;have ra:=gv (oI (HA.out _ hB).has) (by rw[hz];omega);have qS:=hS.cls;have qH:=gv hH.range (j3 h);have sh:=er ho;have VC:∀d os,Below w.heap.size w (Sort.grow (redrawn v6 d) os):=fun d os=>hB.trans ((below_regrown v6 d os).mono hB.size)
 refine wp_region_quiet_below (by kernel_rfl) (by kernel_rfl) ?_
 repeat(first
  | (go_big_quiet_want;(with_reducible first|refine Df 32 _ rfl b 0 rfl (NN.dR p) _ Tryz.underlying32 rfl (NN.fG.trans (by rw[hz])) ra ?_|refine CU _ rfl bS rfl z4 qS ?_|refine kt _ rfl bH 0 rfl h sh qH ?_);(simp only[Act.put,List.setIfInBounds_toArray,List.set_cons_zero,List.set_cons_succ]);go_big_quiet_on)
  | go_big_quiet_step ((go_at_call 121;exact Calls.regrown_of (KC.out _ (VC _ _)))))
 refine wpQuiet_nil ?_;intro v7 hw';have hb:=mT v7 hw';replace hH:=hH.on hb;replace hI:=cg hb hI (Has.lt hI);replace hS:=hS.on hb;replace hB:=ah hB hb;clear hw' hb ra qS qH sh VC;go_wp2_with fail
 go_ret3
 exact⟨rfl,hB⟩
