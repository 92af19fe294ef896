import Derived.Test.YtkbjaadjnbgfbaaGreatDoorWAnMap
import Derived.Test.YtkbjaadjnbgfbaaGreatDoorWBunQ33
import Derived.Test.YtkbjaadjnbgfbaaGreatDoorWBunQ37
set_option maxRecDepth 100000
set_option maxHeartbeats 4000000
namespace Go.Proofs.YtkbjaadjnbgfbaaGreatDoor.An
open Go.RowKit Mem Sc
open Ar (Ent Ru entZ)
structure En where
 h:Hd
 id:List UInt8
 up:Int
 ht:Int
 wk:Nat
def En.ok (e:En):Prop:=e.h.ok/\e.id.length=32
def enC (e:En):List Value:=hdC e.h ++ (Lib.byteCells e.id ++ (i_ e.up :: i_ e.ht :: (NN.numC e.wk).toList))
def enA (e:En):Array Value:=(enC e).toArray
def enZ:En:=⟨hdZ,z32,0,0,0⟩
def enN:En:=⟨hdZ,z32,-1,0,0⟩
variable {e:En}
theorem qcb_ (h:e.ok):(enC e).length=106:=by
 simp only[enC,List.length_append,qh_ h.1,qk_ h.2,List.length_cons,Array.length_toList,NN.qau_]
theorem qm_ (h:e.ok):(enA e).size=106:=by show (enC e).toArray.size=106;rw[List.size_toArray];exact qcb_ h
theorem qads_ (n:Nat):∀ v ∈ (NN.numC n).toList,v.oneCell'=true:=fun v hv=>by
 have:=NN.qma_ n;rw[Array.all_eq_true_iff_forall_mem] at this;exact this v (by simpa using hv)
theorem qadt_ (e:En):∀ v ∈ enC e,v.oneCell'=true:=by
 intro v hv;simp only[enC,List.mem_cons,List.mem_append] at hv;rcases hv with hv|hv|rfl|rfl|hv
 exact qhu_ _ v hv;exact Lib.byteCells_one _ v hv;rfl;rfl;exact qads_ _ v hv
theorem qadu_ (e:En):(enA e).all (·.oneCell')=true:=all_oneCell_toArray (qadt_ e)
theorem eninfo:(Tryz.prog.info? 60).map (·.size)=some 106:=by kernel_rfl
theorem enZ_ok:enZ.ok:=⟨hdZ_ok,rfl⟩
theorem enN_ok:enN.ok:=⟨hdZ_ok,rfl⟩
def EnAt (w:World) (k:Nat) (e:En):Prop:=Has w k (enA e) 60
def bkC (e:En) (s:Sp):List Value:=enC e ++ spC s
theorem qdq_ {s:Sp} (h:e.ok) (hs:s.ok):(bkC e s).length=144:=by simp only[bkC,List.length_append,qcb_ h,qca_ hs]
theorem bkC_one (e:En) (s:Sp):∀ v ∈ bkC e s,v.oneCell'=true:=fun v hv=>by
 rcases List.mem_append.1 hv with h|h
 exact qadt_ e v h;exact qadh_ s v h
def arC (p:NN.Pr) (room:Nat) (v:Value) (mb:Nat):List Value:=NN.prC p ++ [i_ room,v,.map (some mb)]
def arA (p:NN.Pr) (room:Nat) (v:Value) (mb:Nat):Array Value:=(arC p room v mb).toArray
theorem qs_ {p:NN.Pr} (h:p.ok):(NN.prC p).length=83:=by
 have:=NN.qav_ h;unfold NN.prA at this;simpa using this
theorem qid_:(Lib.byteCells z32).length=32:=rfl
theorem qvo_ (parts:List (Nat × Value)):Tryz.prog.built 60 parts=Instr.fill ((#[(0,68),(68,32),(100,1),(101,1),(102,4)]:Array (Nat × Nat))[·]?) (enA enZ) parts:=by kernel_rfl
theorem qie_ (e:En) (h:e.ok):Tryz.prog.built 60 [(0,.agg (hdA e.h)),(1,.agg (bytesV e.id)),(2,Value.int .i64 e.up),(3,Value.int .i64 e.ht),(4,.agg (NN.numC e.wk))]=some (enA e):=by
 rw[qvo_];have h0:=qh_ h.1;have h1:=qk_ h.2;have z0:=qh_ hdZ_ok;have z1:=qid_;unfold enA enC
 rw[show hdC enZ.h ++ (Lib.byteCells enZ.id ++ (Value.int .i64 enZ.up :: Value.int .i64 enZ.ht :: (NN.numC enZ.wk).toList))=[] ++ (hdC hdZ ++ (Lib.byteCells z32 ++ (Value.int .i64 0 :: Value.int .i64 0 :: (NN.numC 0).toList))) from rfl,
  qbb_ (off:=0) (n:=68) [] (hdC hdZ) _ (hdC e.h) rfl rfl z0 rfl h0,List.nil_append,
  qbb_ (off:=68) (n:=32) (hdC e.h) (Lib.byteCells z32) _ (Lib.byteCells e.id) rfl h0 z1 (qal_ e.id ▸ rfl) h1,
  show hdC e.h ++ (Lib.byteCells e.id ++ (Value.int .i64 0 :: Value.int .i64 0 :: (NN.numC 0).toList))=(hdC e.h ++ Lib.byteCells e.id) ++ ([Value.int .i64 0] ++ ([Value.int .i64 0] ++ (NN.numC 0).toList)) by simp,
  qbb_ (off:=100) (n:=1) (hdC e.h ++ Lib.byteCells e.id) [Value.int .i64 0] _ [Value.int .i64 e.up] rfl (by simp[h0,h1]) rfl rfl rfl,
  show (hdC e.h ++ Lib.byteCells e.id) ++ ([Value.int .i64 e.up] ++ ([Value.int .i64 0] ++ (NN.numC 0).toList))=(hdC e.h ++ Lib.byteCells e.id ++ [Value.int .i64 e.up]) ++ ([Value.int .i64 0] ++ (NN.numC 0).toList) by simp,
  qbb_ (off:=101) (n:=1) (hdC e.h ++ Lib.byteCells e.id ++ [Value.int .i64 e.up]) [Value.int .i64 0] _ [Value.int .i64 e.ht] rfl (by simp[h0,h1]) rfl rfl rfl,
  show (hdC e.h ++ Lib.byteCells e.id ++ [Value.int .i64 e.up]) ++ ([Value.int .i64 e.ht] ++ (NN.numC 0).toList)=(hdC e.h ++ Lib.byteCells e.id ++ [Value.int .i64 e.up,Value.int .i64 e.ht]) ++ ((NN.numC 0).toList ++ []) by simp,
  qbb_ (off:=102) (n:=4) (hdC e.h ++ Lib.byteCells e.id ++ [Value.int .i64 e.up,Value.int .i64 e.ht]) (NN.numC 0).toList [] (NN.numC e.wk).toList rfl (by simp[h0,h1]) rfl (by simp[Value.cells]) rfl,qiy_]
 simp
theorem qaad_ (e:En) (h:e.ok) (h0:e.ht=0):Tryz.prog.built 60 [(0,.agg (hdA e.h)),(1,.agg (bytesV e.id)),(2,Value.int .i64 e.up),(4,.agg (NN.numC e.wk))]=some (enA e):=by
 have hh:=qie_ e h;rw[qvo_] at hh |-;rw[<-hh,h0];have e0:=qh_ h.1;have e1:=qk_ h.2;have z0:=qh_ hdZ_ok;have z1:=qid_
 have st:∀ rest,Instr.fill ((#[(0,68),(68,32),(100,1),(101,1),(102,4)]:Array (Nat × Nat))[·]?) (enA enZ) ((0,.agg (hdA e.h)) :: (1,.agg (bytesV e.id)) :: (2,Value.int .i64 e.up) :: rest)=Instr.fill ((#[(0,68),(68,32),(100,1),(101,1),(102,4)]:Array (Nat × Nat))[·]?) (hdC e.h ++ (Lib.byteCells e.id ++ ([Value.int .i64 e.up] ++ ([Value.int .i64 0] ++ (NN.numC 0).toList)))).toArray rest:=fun rest=>by
  unfold enA enC
  rw[show hdC enZ.h ++ (Lib.byteCells enZ.id ++ (Value.int .i64 enZ.up :: Value.int .i64 enZ.ht :: (NN.numC enZ.wk).toList))=[] ++ (hdC hdZ ++ (Lib.byteCells z32 ++ (Value.int .i64 0 :: Value.int .i64 0 :: (NN.numC 0).toList))) from rfl,
   qbb_ (off:=0) (n:=68) [] (hdC hdZ) _ (hdC e.h) rfl rfl z0 rfl e0,List.nil_append,
   qbb_ (off:=68) (n:=32) (hdC e.h) (Lib.byteCells z32) _ (Lib.byteCells e.id) rfl e0 z1 (qal_ e.id ▸ rfl) e1,
   show hdC e.h ++ (Lib.byteCells e.id ++ (Value.int .i64 0 :: Value.int .i64 0 :: (NN.numC 0).toList))=(hdC e.h ++ Lib.byteCells e.id) ++ ([Value.int .i64 0] ++ ([Value.int .i64 0] ++ (NN.numC 0).toList)) by simp,
   qbb_ (off:=100) (n:=1) (hdC e.h ++ Lib.byteCells e.id) [Value.int .i64 0] _ [Value.int .i64 e.up] rfl (by simp[e0,e1]) rfl rfl rfl]
  simp
 rw[st,st]
 rw[show hdC e.h ++ (Lib.byteCells e.id ++ ([Value.int .i64 e.up] ++ ([Value.int .i64 0] ++ (NN.numC 0).toList)))=(hdC e.h ++ Lib.byteCells e.id ++ [Value.int .i64 e.up]) ++ ([Value.int .i64 0] ++ (NN.numC 0).toList) by simp,
  qbb_ (i:=3) (off:=101) (n:=1) (hdC e.h ++ Lib.byteCells e.id ++ [Value.int .i64 e.up]) [Value.int .i64 0] _ [Value.int .i64 0] rfl (by simp[e0,e1]) rfl rfl rfl]
theorem qvp_:Tryz.prog.built 60 [(2,Value.int .i64 (-1))]=some (enA enN):=by kernel_rfl
theorem qahy_ (parts:List (Nat × Value)):Tryz.prog.built 143 parts=Instr.fill ((#[(0,106),(106,38)]:Array (Nat × Nat))[·]?) (bkC enZ spZ).toArray parts:=by kernel_rfl
theorem qrb_ (e:En) (s:Sp) (h:e.ok) (hs:s.ok):Tryz.prog.built 143 [(0,.agg (enA e)),(1,.agg (spA s))]=some (bkC e s).toArray:=by
 rw[qahy_];have h0:=qcb_ h;have h1:=qca_ hs;unfold bkC
 rw[show enC enZ ++ spC spZ=[] ++ (enC enZ ++ spC spZ) from rfl,
  qbb_ (off:=0) (n:=106) [] (enC enZ) _ (enC e) rfl rfl (qcb_ enZ_ok) rfl h0,
  show [] ++ (enC e ++ spC spZ)=enC e ++ (spC spZ ++ []) by simp,
  qbb_ (off:=106) (n:=38) (enC e) (spC spZ) [] (spC s) rfl h0 (qca_ spZ_ok) rfl h1,qiy_]
 simp
def prZ:NN.Pr:=⟨0,0,0,0,false,Value.slice none 0 0 :: Value.slice none 0 0 :: ((NN.numC 0).toList ++ ((NN.numC 0).toList ++ hdC hdZ))⟩
theorem prZ_ok:prZ.ok:=rfl
theorem qahz_ (parts:List (Nat × Value)):Tryz.prog.built 147 parts=Instr.fill ((#[(0,83),(83,1),(84,1),(85,1)]:Array (Nat × Nat))[·]?) (NN.prC prZ ++ [Value.int .i64 0,Value.slice none 0 0,Value.map none]).toArray parts:=by kernel_rfl
theorem qrc_ (p:NN.Pr) (h:p.ok) (room mb:Nat):Tryz.prog.built 147 [(0,.agg (NN.prA p)),(1,Value.int .i64 (room:Int)),(3,.map (some mb))]=some (arA p room (.slice none 0 0) mb):=by
 rw[qahz_];have h0:=qs_ h;unfold arA arC
 rw[show NN.prC prZ ++ [Value.int .i64 0,Value.slice none 0 0,Value.map none]=[] ++ (NN.prC prZ ++ [Value.int .i64 0,Value.slice none 0 0,Value.map none]) from rfl,
  qbb_ (off:=0) (n:=83) [] (NN.prC prZ) _ (NN.prC p) rfl rfl (qs_ prZ_ok) rfl h0,
  show [] ++ (NN.prC p ++ [Value.int .i64 0,Value.slice none 0 0,Value.map none])=NN.prC p ++ ([Value.int .i64 0] ++ [Value.slice none 0 0,Value.map none]) by simp,
  qbb_ (off:=83) (n:=1) (NN.prC p) [Value.int .i64 0] _ [Value.int .i64 (room:Int)] rfl h0 rfl rfl rfl,
  show NN.prC p ++ ([Value.int .i64 (room:Int)] ++ [Value.slice none 0 0,Value.map none])=(NN.prC p ++ [Value.int .i64 (room:Int),Value.slice none 0 0]) ++ ([Value.map none] ++ []) by simp,
  qbb_ (off:=85) (n:=1) (NN.prC p ++ [Value.int .i64 (room:Int),Value.slice none 0 0]) [Value.map none] [] [Value.map (some mb)] rfl (by simp[h0]) rfl rfl rfl,qiy_]
 simp
def Sup (I:Nat->Prop) (P:World->Prop) (w:World):Prop:=∀ w',Kp (fun i=>¬I i) w w'->P w'
section
variable {w w':World} {I J G:Nat->Prop} {P P':World->Prop}
theorem Sup.now (h:Sup I P w):P w:=h w (Kp.refl _ w)
theorem Sup.on (h:Sup I P w) (k:Kp G w w') (hG:∀ i,I i->¬G i):Sup I P w':=fun w2 k2=>h w2 ((k.mono (fun i hi _=>fun h=>hG i h hi)).trans k2 (fun _ hi _=>hi))
theorem Sup.wide (h:Sup I P w) (hI:∀ i,I i->J i):Sup J P w:=fun w2 k2=>h w2 (k2.mono fun i hi _=>fun h=>hi (hI i h))
theorem Sup.imp (h:Sup I P w) (hP:∀ w',P w'->P' w'):Sup I P' w:=fun w2 k2=>hP w2 (h w2 k2)
theorem Sup.and (h:Sup I P w) (h':Sup I P' w):Sup I (fun w=>P w/\P' w) w:=fun w2 k2=>⟨h w2 k2,h' w2 k2⟩
end
variable {w w':World} {F I:Nat->Prop}
theorem qvq_ {b o:Nat} {cs:List Value} (h:w.rangeAt b o cs) (k:Kp F w w') (hb:b<w.heap.size) (hn:¬F b):w'.rangeAt b o cs:=fun j u hu=>(World.cell?_of_block (k.block b hb hn)).trans (h j u hu)
variable {a:Option Addr}
theorem qpi_ {gs:List Gt} (h:GatesAt w a gs) (hI:0<gs.length->∀ ad,a=some ad->I ad.block):Sup I (fun w=>GatesAt w a gs) w:=fun w' k h0=>by
 obtain ⟨ab,ao,ha,hlt,hc⟩:=h h0;have:=hI h0 _ ha;exact ⟨ab,ao,ha,Nat.lt_of_lt_of_le hlt k.size,fun i hi=>qvq_ (hc i hi) k hlt (fun hn=>hn this)⟩
theorem qky_ {gs:List Ck} (h:ChecksAt w a gs) (hI:0<gs.length->∀ ad,a=some ad->I ad.block):Sup I (fun w=>ChecksAt w a gs) w:=fun w' k h0=>by
 obtain ⟨ab,ao,ha,hlt,hc⟩:=h h0;have:=hI h0 _ ha;exact ⟨ab,ao,ha,Nat.lt_of_lt_of_le hlt k.size,fun i hi=>⟨(hc i hi).1,qvq_ (hc i hi).2 k hlt (fun hn=>hn this)⟩⟩
theorem qvr_ {s:Sp} {q:Ps} {lo:Nat} (h:SpIs w lo s q) (hI:∀ i,lo<=i->i<w.heap.size->I i):Sup I (fun w=>SpIs w 0 s q) w:=fun w' k=>by
 obtain ⟨h1,h2,h3,h4,h5,h6⟩:=h;refine ⟨h1,h2,h3,h4,h5,fun h0=>?_⟩;obtain ⟨b,off,e,g1,g2,hc⟩:=h6 h0;exact ⟨b,off,e,Nat.zero_le _,Nat.lt_of_lt_of_le g2 k.size,fun j hj=>(World.cell?_of_block (w:=w) (a:=⟨b,off+j,none⟩) (k.block b g2 (fun hn=>hn (hI b g1 g2)))).trans (hc j hj)⟩
variable {base e size n:Nat} {v:Value} {xs:List Value}
theorem kp_row (h:w.ownsRow base e size v n xs) (k:Kp F w w') (hF:∀ i,v.ownBlock=some i->¬F i):w'.ownsRow base e size v n xs:=by
 refine ⟨h.1,?_⟩;rcases h.2 with h|⟨g,c,cur,rfl,h1,h2,h3⟩
 exact .inl h;have hg:g<w.heap.size:=(Array.getElem?_eq_some_iff.1 h2).1;exact .inr ⟨g,c,cur,rfl,h1,(k.block g hg (hF g rfl)).trans h2,h3⟩
theorem row_lt (h:w.ownsRow base e size v n xs) {i:Nat} (hi:v.ownBlock=some i):i<w.heap.size/\base<=i:=by
 rcases h.2 with ⟨rfl,_⟩|⟨g,c,cur,rfl,h1,h2,h3⟩
 cases hi;cases hi;exact ⟨(Array.getElem?_eq_some_iff.1 h2).1,h1⟩
theorem qbn_ (h:w.ownsRow base e size v n xs) {i:Nat} (hi:v.ownBlock=some i):∃ cs,w.heap[i]?=some (.cells cs e (0,0)):=by
 rcases h.2 with ⟨rfl,_⟩|⟨g,c,cur,rfl,h1,h2,h3⟩
 cases hi;cases hi;exact ⟨_,h2⟩
structure Bk where
 e:En
 s:Sp
 q:Ps
def rowC (L:List Bk):List Value:=L.flatMap fun x=>bkC x.e x.s
theorem qaia_ (L:List Bk) (x:Bk):rowC (L ++ [x])=rowC L ++ bkC x.e x.s:=by simp[rowC]
structure Ara (w:World) (I:Nat->Prop) (b:Nat) (p:NN.Pr) (t:Tl) (gs:List Gt) (cs:List Ck) (room:Nat) (v:Value) (mb:Nat) (L:List Bk):Prop where
 has:Has w b (arA p room v mb) 147
 pok:p.ok
 one:p.one
 tt:p.tl=t.C
 tok:t.ok
 gn:t.gn=gs.length
 cn:t.cn=cs.length
 row:w.ownsRow 0 143 144 v L.length (rowC L)
 map:MapIs w mb (L.map (·.e.id))
 gates:Sup I (fun w=>GatesAt w t.ga gs) w
 checks:Sup I (fun w=>ChecksAt w t.ca cs) w
 spots:∀ x ∈ L,Sup I (fun w=>SpIs w 0 x.s x.q) w
 nb:¬I b
 nm:¬I mb
 nv:∀ k,v.ownBlock=some k->¬I k
 lt:∀ i,I i->i<w.heap.size
 good:∀ x ∈ L,x.e.ok/\x.s.ok
def Mine (I:Nat->Prop) (b:Nat) (v:Value) (mb:Nat):Nat->Prop:=fun i=>I i\/i=b\/i=mb\/v.ownBlock=some i
section
variable {w w':World} {I G:Nat->Prop} {b:Nat} {p:NN.Pr} {t:Tl} {gs:List Gt} {cs:List Ck} {room:Nat} {v:Value} {mb:Nat} {L:List Bk}
theorem Ara.on (h:Ara w I b p t gs cs room v mb L) (k:Kp G w w') (hG:∀ i,Mine I b v mb i->¬G i):Ara w' I b p t gs cs room v mb L where
 has:=k.has h.has (hG b (.inr (.inl rfl)))
 pok:=h.pok
 one:=h.one
 tt:=h.tt
 tok:=h.tok
 gn:=h.gn
 cn:=h.cn
 row:=kp_row h.row k fun i hi=>hG i (.inr (.inr (.inr hi)))
 map:=h.map.on (k.block mb h.map.lt (hG mb (.inr (.inr (.inl rfl)))))
 gates:=h.gates.on k fun i hi=>hG i (.inl hi)
 checks:=h.checks.on k fun i hi=>hG i (.inl hi)
 spots:=fun x hx=>(h.spots x hx).on k fun i hi=>hG i (.inl hi)
 nb:=h.nb
 nm:=h.nm
 nv:=h.nv
 lt:=fun i hi=>Nat.lt_of_lt_of_le (h.lt i hi) k.size
 good:=h.good
theorem Ara.mine_lt (h:Ara w I b p t gs cs room v mb L) {i:Nat} (hi:Mine I b v mb i):i<w.heap.size:=by
 rcases hi with hi|rfl|rfl|hi
 exact h.lt i hi;exact h.has.lt;exact h.map.lt;exact (row_lt h.row hi).1
theorem Ara.below (h:Ara w I b p t gs cs room v mb L) (hb:Bl w w'):Ara w' I b p t gs cs room v mb L:=h.on (G:=fun _=>False) (Kp.of hb) fun _ _ hf=>hf
theorem Ara.b_ne_mb (h:Ara w I b p t gs cs room v mb L):b ≠ mb:=h.map.not_cells h.has
theorem Ara.b_ne_v (h:Ara w I b p t gs cs room v mb L) {i:Nat} (hi:v.ownBlock=some i):i ≠ b:=by
 rintro rfl;obtain ⟨c,hc⟩:=qbn_ h.row hi;have:=h.has.out;rw[hc] at this;injection this with this
 injection this with _ this
 exact absurd this (by decide)
theorem Ara.mb_ne_v (h:Ara w I b p t gs cs room v mb L) {i:Nat} (hi:v.ownBlock=some i):i ≠ mb:=by
 obtain ⟨c,hc⟩:=qbn_ h.row hi;exact h.map.not_cells hc
end
def wkOf (r:Ru) (hs:List Hd):Nat:=hs.foldl (fun n h=>NN.Nm.cap (n+NN.ofBits h.bits)) (NN.ofBits r.g.bits)
theorem qmx_ (r:Ru) (hs:List Hd) (h:Hd):wkOf r (hs ++ [h])=NN.Nm.cap (wkOf r hs+NN.ofBits h.bits):=by simp[wkOf]
theorem qkz_ (r:Ru) (hs:List Hd):wkOf r hs<NN.Nm.big:=by
 rcases List.eq_nil_or_concat hs with rfl|⟨l,x,rfl⟩
 exact NN.qpg_ _;rw[List.concat_eq_append,qmx_];exact NN.Nm.cap_lt _
def enOf (r:Ru) (e:Ent):En:=⟨e.h r.g,(e.h r.g).id,e.up,(e.hs.length:Nat),wkOf r e.hs⟩
def Lk (r:Ru) (M:List Ent) (L:List Bk):Prop:=L.map (fun x=>(x.e,x.q))=M.map (fun e=>(enOf r e,Ar.spot r e))
variable {r:Ru} {M:List Ent} {L:List Bk}
theorem Lk.length (h:Lk r M L):L.length=M.length:=by
 have:=congrArg List.length h;simpa using this
theorem Lk.at (h:Lk r M L) {i:Nat} {e:Ent} (he:M[i]?=some e):∃ s,L[i]?=some ⟨enOf r e,s,Ar.spot r e⟩:=by
 have h1:(L.map (fun x=>(x.e,x.q)))[i]?=(M.map (fun e=>(enOf r e,Ar.spot r e)))[i]?:=by rw[h]
 rw[List.getElem?_map,List.getElem?_map,he] at h1;cases hL:L[i]? with
 | none=>rw[hL] at h1;cases h1
 | some x=>
  rw[hL] at h1;obtain ⟨xe,xs,xq⟩:=x;simp only[Option.map_some,Option.some.injEq,Prod.mk.injEq] at h1;obtain ⟨rfl,rfl⟩:=h1;exact ⟨xs,rfl⟩
theorem Lk.ids (h:Lk r M L):L.map (·.e.id)=M.map fun e=>(e.h r.g).id:=by
 have:=congrArg (List.map fun x:En × Ps=>x.1.id) h;rw[List.map_map,List.map_map] at this;exact this
theorem Lk.find (h:Lk r M L) (id:List UInt8):(L.map (·.e.id)).findIdx? (· == id)=Ar.fnd r.g M id:=by
 rw[h.ids,List.findIdx?_map];rfl
theorem Lk.put (h:Lk r M L) (e:Ent) (s:Sp):Lk r (M ++ [e]) (L ++ [⟨enOf r e,s,Ar.spot r e⟩]):=by
 unfold Lk at *;rw[List.map_append,List.map_append,h];rfl
def Alike (p:NN.Pr) (t:Tl) (r:Ru):Prop:=p.lim=r.p.lim/\p.ivl=r.p.ivl/\p.spc=r.p.spc/\p.fut=r.p.fut/\p.easy=r.p.easy/\t.g=r.g
def ArS (w:World) (F:Nat->Prop) (b:Nat) (r:Ru) (M:List Ent):Prop :=
 (∀i,F i->i<w.heap.size)/\∃ I p t v mb L,Ara w I b p t r.gs r.cs r.room v mb L/\Alike p t r/\Lk r M L/\∀ i,Mine I b v mb i->F i
section
variable {w w':World} {F G:Nat->Prop} {b:Nat} {r:Ru} {M:List Ent}
theorem ArS.on (h:ArS w F b r M) (k:Kp G w w') (hG:∀ i,F i->¬G i):ArS w' F b r M:=by
 obtain ⟨hl,I,p,t,v,mb,L,h1,h2,h3,h4⟩:=h;exact ⟨fun i hi=>Nat.lt_of_lt_of_le (hl i hi) k.size,I,p,t,v,mb,L,h1.on k fun i hi=>hG i (h4 i hi),h2,h3,h4⟩
theorem ArS.below (h:ArS w F b r M) (hb:Bl w w'):ArS w' F b r M:=h.on (G:=fun _=>False) (Kp.of hb) fun _ _ hf=>hf
theorem ArS.wide (h:ArS w F b r M) (hF:∀ i,F i->G i) (hG:∀ i,G i->i<w.heap.size):ArS w G b r M:=by
 obtain ⟨_,I,p,t,v,mb,L,h1,h2,h3,h4⟩:=h;exact ⟨hG,I,p,t,v,mb,L,h1,h2,h3,fun i hi=>hF i (h4 i hi)⟩
end
theorem nxt_lt {F:Nat->Prop} {w w':World} (h:∀ i,F i->i<w.heap.size) (hs:w.heap.size<=w'.heap.size):∀ i,Nxt F w w' i->i<w'.heap.size:=fun i hi=>by
 rcases hi with hi|hi
 exact Nat.lt_of_lt_of_le (h i hi) hs;exact hi.2
variable {p:NN.Pr} {t:Tl} {r:Ru}
theorem qaae_ (h:Alike p t r) (q:Ps) (hd:Hd) (now:Int):chk p r.gs r.cs q hd now=chk r.p r.gs r.cs q hd now:=by
 obtain ⟨pl,pi,ps,pf,pe,pt⟩:=p;obtain ⟨⟨rl,ri,rs,rf,re,rt⟩,_,_,_,_⟩:=r;obtain ⟨h1,h2,h3,h4,h5,h6⟩:=h;simp only at h1 h2 h3 h4 h5;subst h1 h2 h3 h4 h5;rfl
theorem qaib_ (h:Alike p t r) (q:Ps) (hd:Hd):bh p q hd=bh r.p q hd:=by
 obtain ⟨pl,pi,ps,pf,pe,pt⟩:=p;obtain ⟨⟨rl,ri,rs,rf,re,rt⟩,_,_,_,_⟩:=r;obtain ⟨h1,h2,h3,h4,h5,h6⟩:=h;simp only at h1 h2 h3 h4 h5;subst h1 h2 h3 h4 h5;rfl
section
variable {w w':World} {b:Nat} {p:NN.Pr} {room mb:Nat} {v:Value}
theorem arA_at (j:Nat):(arA p room v mb)[j]?=(arC p room v mb)[j]?:=by unfold arA;rw[List.getElem?_toArray]
theorem qvs_ (hp:p.ok) (j:Nat):(arC p room v mb)[83+j]?=([i_ room,v,.map (some mb)]:List Value)[j]?:=by
 unfold arC;rw[List.getElem?_append_right (by rw[qs_ hp];omega),qs_ hp,show 83+j - 83=j by omega]
theorem ar83 (h:Has w b (arA p room v mb) 147) (hp:p.ok):w.cell? ⟨b,83,none⟩=some (i_ room):=(Has.cell h 83).trans ((arA_at 83).trans (qvs_ hp 0))
theorem ar84 (h:Has w b (arA p room v mb) 147) (hp:p.ok):w.cell? ⟨b,84,none⟩=some v:=(Has.cell h 84).trans ((arA_at 84).trans (qvs_ hp 1))
theorem ar85 (h:Has w b (arA p room v mb) 147) (hp:p.ok):w.cell? ⟨b,85,none⟩=some (.map (some mb)):=(Has.cell h 85).trans ((arA_at 85).trans (qvs_ hp 2))
theorem ar_pr (h:Has w b (arA p room v mb) 147):w.rangeAt b 0 (NN.prC p):=by
 have:=qbh_ (A:=[]) (cs:=NN.prC p) (C:=[i_ room,v,.map (some mb)]) (o:=0) (w:=w) (b:=b) (t:=147) h rfl;exact this
theorem ar_set (h:Has w b (arA p room v mb) 147) (hp:p.ok) (v':Value):Has (w.setCell ⟨b,84,none⟩ v') b (arA p room v' mb) 147:=by
 have:=Has.set (i:=84) h v'
 have e:(arA p room v mb).setIfInBounds 84 v'=arA p room v' mb:=by
  unfold arA arC;rw[List.setIfInBounds_toArray];congr 1;rw[List.set_append_right _ _ (by rw[qs_ hp];omega),qs_ hp];rfl
 rwa [e] at this
end
section
variable {w:World} {k:Nat} {e:En} {ops:Array Oper} {rest:List Oper} {o:Oper} {a:Act} {Q:Exit->Act->World->Prop}
theorem EnAt.on {w':World} (h:EnAt w k e) (hb:Bl w w'):EnAt w' k e:=qd_ hb h (Has.lt h)
theorem qbm_ (w:World):EnAt (w.alloc (.cells Tryz.zeroCells60 60)) w.heap.size enZ:=Has.new (enA enZ) _
theorem qrd_ (hgd:o.guard=none) (x:Operand) (ho:o.op = .load 60 x) (g off:Nat) (hx:a.eval x = .pointer (some ⟨g,off,none⟩)) (e:En) (hg:w.rangeAt g off (enC e)) (hs:(enC e).length=106)
  (hk:wpList Tryz.prog ops Q rest (a.put o.dst (.agg (enA e))) w):wpList Tryz.prog ops Q (o :: rest) a w :=
 wpList_load_mid hgd 60 x ho g off hx (enC e) _ hg Tryz.underlying60 rfl (eninfo.trans (by rw[hs])) hk
theorem qev_ (hgd:o.guard=none) (x:Operand) (ho:o.op = .load 141 x) (g off:Nat) (hx:a.eval x = .pointer (some ⟨g,off,none⟩)) (s:Sp) (hg:w.rangeAt g off (spC s)) (hs:(spC s).length=38)
  (hk:wpList Tryz.prog ops Q rest (a.put o.dst (.agg (spA s))) w):wpList Tryz.prog ops Q (o :: rest) a w :=
 wpList_load_mid hgd 141 x ho g off hx (spC s) _ hg Tryz.underlying141 rfl (spinfo.trans (by rw[hs])) hk
theorem qba_ (hgd:o.guard=none) (x y:Operand) (ho:o.op = .store 60 x y) (g:Nat) (cz:Array Value) (e':En) (hx:a.eval x = pp_ g) (hy:a.eval y = .agg cz) (he:cz=enA e') (hs':(enA e').size=106) (hg:EnAt w g e) (hs:(enA e).size=106)
  (hk:wpList Tryz.prog ops Q rest (a.put o.dst undef) (w.setRow g (enA e'))):wpList Tryz.prog ops Q (o :: rest) a w:=by
 subst he;exact wpList_store_row hgd 60 x y ho g (enA e') hx hy 60 (enA e) (Has.out hg) (eninfo.trans (by rw[hs'])) (by rw[hs,hs']) (qadu_ e') hk
theorem en_none (hgd:o.guard=none) (x:Operand) (ho:o.op = .build 60 #[(2,x)]) (hx:a.eval x = i_ (-1))
  (hk:wpList Tryz.prog ops Q rest (a.put o.dst (.agg (enA enN))) w):wpList Tryz.prog ops Q (o :: rest) a w :=
 wpList_plain hgd fun _ hK=>by
  unfold Oper.wp execOp;simp only[ho,Sem.run_bind];rw[show (#[(2,x)]:Array (Nat × Operand)).map (fun (i,x)=>(i,a.eval x))=#[(2,i_ (-1))] by simp[hx],run_build w 60 _ _ qvp_];exact hK _ _ hk
theorem qaic_ (hgd:o.guard=none) (x0 x1 x2 x3 x4:Operand) (ho:o.op = .build 60 #[(0,x0),(1,x1),(2,x2),(3,x3),(4,x4)]) (e:En) (he:e.ok) (h0:a.eval x0 = .agg (hdA e.h)) (h1:a.eval x1 = .agg (bytesV e.id)) (h2:a.eval x2 = i_ e.up) (h3:a.eval x3 = i_ e.ht) (h4:a.eval x4 = .agg (NN.numC e.wk))
  (hk:wpList Tryz.prog ops Q rest (a.put o.dst (.agg (enA e))) w):wpList Tryz.prog ops Q (o :: rest) a w :=
 wpList_plain hgd fun _ hK=>by
  unfold Oper.wp execOp;simp only[ho,Sem.run_bind];rw[show (#[(0,x0),(1,x1),(2,x2),(3,x3),(4,x4)]:Array (Nat × Operand)).map (fun (i,x)=>(i,a.eval x))=#[(0,.agg (hdA e.h)),(1,.agg (bytesV e.id)),(2,i_ e.up),(3,i_ e.ht),(4,.agg (NN.numC e.wk))] by simp[h0,h1,h2,h3,h4],run_build w 60 _ _ (qie_ e he)];exact hK _ _ hk
variable {fn:Func} {p:Tmp}
theorem qvt_ (hf:fn.results=#[.cell p 60]) (tmps:Array Value) (g:Nat) (hp:tmps.getD p undef = pp_ g) (hg:EnAt w g e) (hs:(enA e).size=106) :
  (results fn tmps).run Tryz.prog w = .ok (.agg (enA e)) w :=
 results_cell_row hf tmps w g 60 (enA e) (0,0) _ hp (Has.out hg) Tryz.underlying60 rfl (eninfo.trans (by rw[hs]))
theorem qew_ {q:Tmp} (hf:fn.results=#[.cell p 60,.tmp q]) (tmps:Array Value) (g:Nat) (c:Value) (hp:tmps.getD p undef = pp_ g) (hc:tmps.getD q undef=c) (hg:EnAt w g e) (hs:(enA e).size=106) :
  (results fn tmps).run Tryz.prog w = .ok (.tuple #[.agg (enA e),c]) w:=by
 rw[results_cell_tmp hf,hp,hc];have hl:(loadVar 60 ⟨g,0,none⟩).run Tryz.prog w = .ok (.agg (enA e)) w:=run_loadVar_row w g 60 60 (enA e) (0,0) _ (Has.out hg) Tryz.underlying60 rfl (eninfo.trans (by rw[hs]));simp[asAddr,hl,Result.andThen]
end
theorem qaid_ (L:List Bk) (h:∀ x ∈ L,x.e.ok/\x.s.ok) (i j:Nat) (x:Bk) (hi:L[i]?=some x) (hj:j<144):(rowC L)[i*144+j]?=(bkC x.e x.s)[j]?:=by
 induction L generalizing i with
 | nil=>simp at hi
 | cons y L ih=>
  have hy:=h y (by simp);have hl:=qdq_ hy.1 hy.2;have e:rowC (y :: L)=bkC y.e y.s ++ rowC L:=rfl;rw[e];cases i with
  | zero=>
   obtain rfl:y=x:=by simpa using hi
   rw[List.getElem?_append_left (by omega)];simp
  | succ i=>
   rw[List.getElem?_append_right (by omega),hl,show (i+1)*144+j - 144=i*144+j by omega];exact ih (fun z hz=>h z (by simp[hz])) i (by simpa using hi)
section
variable {w:World} {I:Nat->Prop} {b:Nat} {p:NN.Pr} {t:Tl} {gs:List Gt} {cs:List Ck} {room:Nat} {v:Value} {mb:Nat} {L:List Bk}
theorem Ara.range (h:Ara w I b p t gs cs room v mb L) {i:Nat} {x:Bk} (hi:L[i]?=some x):∃ g c,v = .slice (sp_ g) L.length c/\g<w.heap.size/\w.rangeAt g (i*144) (bkC x.e x.s):=by
 have hlt:=(List.getElem?_eq_some_iff.1 hi).1;have hx:=h.good x (List.mem_of_getElem? hi);rcases h.row.2 with ⟨_,h0⟩|⟨g,c,cur,rfl,h1,h2,h3,h4,h5,h6⟩
 omega
 ·refine ⟨g,c,rfl,(Array.getElem?_eq_some_iff.1 h2).1,fun j u hu=>?_⟩
  have hj:j<144:=by
   have:=(List.getElem?_eq_some_iff.1 hu).1;rwa [qdq_ hx.1 hx.2] at this
  rw[<-qaid_ L h.good i j x hi hj,<-h6] at hu;have hH:Has w g cur 143:=h2;rw[hH.cell,<-hu,List.getElem?_take_of_lt (by omega),Array.getElem?_toList]
theorem Ara.slice (h:Ara w I b p t gs cs room v mb L):∃ a c,v = .slice a L.length c:=by
 rcases h.row.2 with ⟨rfl,h0⟩|⟨g,c,cur,rfl,_⟩
 exact ⟨none,0,by rw[h0]⟩;exact ⟨_,c,rfl⟩
variable {g o:Nat} {e:En} {s:Sp}
theorem qjh_ {w:World} (hr:w.rangeAt g o (bkC e s)):w.rangeAt g o (enC e):=by
 have:=qja_ (A:=[]) (cs:=enC e) (C:=spC s) (k:=0) (w:=w) (b:=g) (o:=o) hr rfl;exact this
theorem qmy_ {w:World} (he:e.ok) (hr:w.rangeAt g o (bkC e s)):w.rangeAt g (o+106) (spC s) :=
 qja_ (A:=enC e) (cs:=spC s) (C:=[]) (k:=106) (w:=w) (b:=g) (o:=o) (by rw[List.append_nil];exact hr) (qcb_ he)
theorem qmz_ {w:World} (he:e.ok) (hr:w.rangeAt g o (enC e)):w.rangeAt g (o+102) (NN.numC e.wk).toList :=
 qja_ (A:=hdC e.h ++ (Lib.byteCells e.id ++ [i_ e.up,i_ e.ht])) (cs:=(NN.numC e.wk).toList) (C:=[]) (k:=102) (w:=w) (b:=g) (o:=o) (by rw[List.append_nil];unfold enC at hr;simpa using hr) (by simp[qh_ he.1,qk_ he.2])
end
theorem qvu_ {C:World->Prop} {K:Act->Prop} {o:Oper} {a:Act} (x y:Operand) (ho:o.op = .lookup 145 x y true) (m:Value) (hx:a.eval x=m) (k:Value) (hy:a.eval y=k) (r:Value) (hC:∀ w',C w'->(Instr.lookup 145 m k true).run Tryz.prog w' = .ok r w')
  (hk:K (a.put o.dst r)):o.quiet Tryz.prog a C K :=
 ⟨_,fun w' hw'=>by
  unfold Oper.quietAt
  have this:(execOp a.eval o).run Tryz.prog w' = .ok (.value r) w':=by
   unfold execOp;simp only[ho,hx,hy,Sem.run_bind,hC w' hw',Result.andThen_ok];rfl
  rw[this];exact ⟨rfl,rfl⟩,hk⟩
variable {w:World}
theorem qaie_ {b:Nat} {l:List UInt8} {t:TypeId} (h:Has w b (bytesV l) t):w.rangeAt b 0 (Lib.byteCells l):=fun j u hu=>by
 rw[Nat.zero_add,h.cell j,<-Array.getElem?_toList,qal_];exact hu
theorem qae_ :∀ w',(∃r:Regrown,w'=Sort.grow (redrawn w r.d) r.os)->Bl w w':=fun w' ⟨r,e⟩=>by rw[e];exact below_regrown w r.d r.os
theorem qadv_ (k:Int) (w:World):Ca_ 103 #[.pointer none,i_ k] w (.bool false):=by
 have hB:=Below.refl w.heap.size w;go_enter Tryz.func103,Tryz.ntmps103;go_wp2_with fail
 go_ret;exact ⟨rfl,hB⟩
theorem has_w (b n:Nat) (p:Option Addr) (c:Nat) (k:Int) (g1 g2:Bool) (h1:decide ((0:Int)<=k)=g1) (h2:decide (k<(n:Int))=g2) (w:World) (hv:w.cell? ⟨b,84,none⟩=some (.slice p n c)) :
  Ca_ 103 #[pp_ b,i_ k] w (.bool (g1 && g2)):=by
 have hB:=Below.refl w.heap.size w;cases g1
 ·go_enter Tryz.func103,Tryz.ntmps103;go_wp2_with fail
  go_ret;exact ⟨rfl,hB⟩
 ·go_enter Tryz.func103,Tryz.ntmps103;go_wp2_with fail
  go_ret;exact ⟨by cases g2 <;> rfl,hB⟩
theorem len_nil (w:World):Ca_ 92 #[.pointer none] w (i_ 0):=by
 have hB:=Below.refl w.heap.size w;go_enter Tryz.func92,Tryz.ntmps92;go_wp2_with fail
 go_ret;exact ⟨rfl,hB⟩
theorem len_w (b n:Nat) (p:Option Addr) (c:Nat) (w:World) (hv:w.cell? ⟨b,84,none⟩=some (.slice p n c)) :
  Ca_ 92 #[pp_ b] w (i_ n):=by
 have hB:=Below.refl w.heap.size w;go_enter Tryz.func92,Tryz.ntmps92;go_wp2_with fail
 go_ret;exact ⟨rfl,hB⟩
theorem find_w (b mb:Nat) (id:List UInt8) (hid:id.length=32) (w:World) (c:Int) (g:Bool) (z:Int) (hz:z=if g then c else -1) (hv:w.cell? ⟨b,85,none⟩=some (.map (some mb)))
  (hL:∀ w',Bl w w'->(Instr.lookup 145 (.map (some mb)) (.agg (bytesV id)) true).run Tryz.prog w' = .ok (.tuple #[i_ c,.bool g]) w') :
  Ca_ 120 #[pp_ b,.agg (bytesV id)] w (i_ z):=by
 go_enter Tryz.func120,Tryz.ntmps120;go_upto_region 1 with fail
 generalize hw0:World.alloc _ _=v0;have hB:Bl w v0:=bl_ hw0;have hI:Has v0 w.heap.size (bytesV id) 28:=by rw[<-hw0];exact Has.new _ _
 clear hw0;have hv0:=(hB.cell (p:=⟨b,85,none⟩) (block_lt_of_cell hv)).trans hv;have q1:∀ d os,(Sort.grow (redrawn v0 d) os).cell? ⟨b,85,none⟩=some (.map (some mb)):=cell_regrown hv0;obtain ⟨bI,hbI⟩:∃ x,x=w.heap.size:=⟨_,rfl⟩;rw[<-hbI] at hI |-;clear hbI;have qI:=qaw_ (qaie_ hI) (by rw[Lib.byteCells_length];omega);have s1:=qk_ hid;have hL0:∀ w',(∃r:Regrown,w'=Sort.grow (redrawn v0 r.d) r.os)->(Instr.lookup 145 (.map (some mb)) (.agg (bytesV id)) true).run Tryz.prog w' = .ok (.tuple #[i_ c,.bool g]) w':=fun w' h=>hL w' (hB.trans ((qae_ w' h).mono hB.size))
 go_upto_region 3 with fail
 refine wp_region_quiet_below (by kernel_rfl) (by kernel_rfl) ?_
 repeat (first
  | (go_big_quiet_want;(with_reducible first|refine qbo_ _ rfl bI 0 rfl id s1 qI ?_|refine qvu_ _ _ rfl (.map (some mb)) rfl (.agg (bytesV id)) rfl _ hL0 ?_);(simp only[Act.put,List.setIfInBounds_toArray,List.set_cons_zero,List.set_cons_succ]);go_big_quiet_on)
  | go_big_quiet_step (fail))
 refine wpQuiet_nil ?_;intro v1 hw';have hB1:=hB.trans ((qae_ v1 hw').mono hB.size);cases g
 ·subst hz;go_wp2_with fail
  go_ret;exact ⟨rfl,hB1⟩
 ·subst hz;go_wp2_with fail
  go_ret;exact ⟨rfl,hB1⟩
theorem at_out (p:Value) (k:Int) (w:World) (KH:HK_ w 103 #[p,i_ k] (.bool false)) :
  Ca_ 65 #[p,i_ k] w (.tuple #[.agg (enA enN),.bool false]):=by
 have z0:=qm_ enZ_ok;have z1:=qm_ enN_ok;go_enter Tryz.func65,Tryz.ntmps65;go_upto_region 1 with fail
 generalize hw0:World.alloc _ _=v0;have hB:Bl w v0:=bl_ hw0;have hR:EnAt v0 w.heap.size enZ:=by rw[<-hw0];exact qbm_ w
 clear hw0;obtain ⟨bR,hbR⟩:∃ x,x=w.heap.size:=⟨_,rfl⟩;rw[<-hbR] at hR |-;have HBR:Hid (w.heap.size<=bR):=h_ (by omega);clear hbR;go_wp2_with fail
 refine (KH.out _ hB).mono ?_;rintro e v1 ⟨rfl,hb⟩;replace hR:=hR.on hb;replace hB:=tb_ hB hb;clear hb
 go_wp2_with (first
  | (with_reducible refine en_none rfl _ rfl rfl ?_)
  | (with_reducible refine qba_ rfl _ _ rfl _ _ enN rfl rfl rfl z1 hR z0 ?_))
 refine bodyPost_ret (qew_ Tryz.results65 _ _ _ rfl rfl (Has.row hR _) z1) rfl ⟨rfl,below_setRow hB HBR.out _⟩
theorem at_in (b g n c k:Nat) (e:En) (he:e.ok) (hk:k<n) (w:World) (hv:w.cell? ⟨b,84,none⟩=some (.slice (sp_ g) n c)) (hr:w.rangeAt g (k*144) (enC e))
  (KH:HK_ w 103 #[pp_ b,i_ k] (.bool true)) :
  Ca_ 65 #[pp_ b,i_ k] w (.tuple #[.agg (enA e),.bool true]):=by
 have z0:=qm_ enZ_ok;have z1:=qm_ he;have z2:=qcb_ he;go_enter Tryz.func65,Tryz.ntmps65;go_upto_region 1 with fail
 generalize hw0:World.alloc _ _=v0;have hB:Bl w v0:=bl_ hw0;have hR:EnAt v0 w.heap.size enZ:=by rw[<-hw0];exact qbm_ w
 clear hw0;obtain ⟨bR,hbR⟩:∃ x,x=w.heap.size:=⟨_,rfl⟩;rw[<-hbR] at hR |-;have HBR:Hid (w.heap.size<=bR):=h_ (by omega);clear hbR;go_wp2_with fail
 refine (KH.out _ hB).mono ?_;rintro r v1 ⟨rfl,hb⟩;replace hR:=hR.on hb;replace hB:=tb_ hB hb;clear hb;have hv1:=(hB.cell (p:=⟨b,84,none⟩) (block_lt_of_cell hv)).trans hv;have hr1:v1.rangeAt g (k*144) (enC e):=qam_ hr hB (by omega);clear hv hr
 go_wp2_with (first
  | (with_reducible refine qrd_ rfl _ rfl g (k*144) rfl e hr1 z2 ?_)
  | (with_reducible refine qba_ rfl _ _ rfl _ _ e rfl rfl rfl z1 hR z0 ?_))
 refine bodyPost_ret (qew_ Tryz.results65 _ _ _ rfl rfl (Has.row hR _) z1) rfl ⟨rfl,below_setRow hB HBR.out _⟩
def plc:Option Nat->Int
 | some i=>(i:Int)
 | none=>-1
section
variable {w:World} {F:Nat->Prop} {b:Nat} {r:Ru} {M:List Ent}
theorem len_at (h:ArS w F b r M):Ca_ 92 #[pp_ b] w (i_ (M.length:Nat)):=by
 obtain ⟨_,I,p,t,v,mb,L,h1,h2,h3,h4⟩:=h;obtain ⟨a,c,rfl⟩:=h1.slice;have:=len_w b L.length a c w (ar84 h1.has h1.pok);rwa [h3.length] at this
theorem qpj_ (h:ArS w F b r M) (id:List UInt8) (hid:id.length=32):Ca_ 120 #[pp_ b,.agg (bytesV id)] w (i_ (plc (Ar.fnd r.g M id))):=by
 obtain ⟨_,I,p,t,v,mb,L,h1,h2,h3,h4⟩:=h;have hf:=h3.find id;obtain ⟨c,hc,hi⟩:=h1.map.look hid;rw[hf] at hc hi;refine find_w b mb id hid w c (Ar.fnd r.g M id).isSome _ ?_ (ar85 h1.has h1.pok) fun w' hb=>?_
 ·cases hq:Ar.fnd r.g M id with
  | none=>rfl
  | some i=>exact (hi i hq).symm
 exact hc w' (hb.block mb h1.map.lt)
theorem qcz_ (h:ArS w F b r M) {i:Nat} {e:Ent} (he:M[i]?=some e):(enOf r e).ok:=by
 obtain ⟨_,I,p,t,v,mb,L,h1,h2,h3,h4⟩:=h;obtain ⟨s,hs⟩:=h3.at he;exact (h1.good _ (List.mem_of_getElem? hs)).1
theorem has_at (h:ArS w F b r M) (k:Int) (g:Bool) (hg:(decide (0<=k) && decide (k<(M.length:Nat)))=g):Ca_ 103 #[pp_ b,i_ k] w (.bool g):=by
 obtain ⟨_,I,p,t,v,mb,L,h1,h2,h3,h4⟩:=h;obtain ⟨a,c,rfl⟩:=h1.slice;have:=has_w b L.length a c k _ _ rfl rfl w (ar84 h1.has h1.pok);rwa [h3.length,hg] at this
theorem at_at (h:ArS w F b r M) {i:Nat} {e:Ent} (he:M[i]?=some e) (k:Int) (hk:k=(i:Nat)):Ca_ 65 #[pp_ b,i_ k] w (.tuple #[.agg (enA (enOf r e)),.bool true]):=by
 subst hk;have hi:=(List.getElem?_eq_some_iff.1 he).1;have KH:HK_ w 103 #[pp_ b,i_ (i:Nat)] (.bool true):=h_ fun w' hb=>has_at (h.below hb) _ true (by rw[Bool.and_eq_true];exact ⟨decide_eq_true (by omega),decide_eq_true (by omega)⟩)
 have ho:=qcz_ h he;obtain ⟨_,I,p,t,v,mb,L,h1,h2,h3,h4⟩:=h;obtain ⟨s,hs⟩:=h3.at he;obtain ⟨g,c,rfl,hg,hr⟩:=h1.range hs;exact at_in b g L.length c i (enOf r e) ho (by rw[h3.length];exact hi) w (ar84 h1.has h1.pok) (qjh_ hr) KH
theorem at_not (h:ArS w F b r M) (k:Int) (hk:¬(0<=k/\k<(M.length:Nat))):Ca_ 65 #[pp_ b,i_ k] w (.tuple #[.agg (enA enN),.bool false]) :=
 at_out _ k w (h_ fun w' hb=>has_at (h.below hb) k false (by
  rw[Bool.and_eq_false_iff];by_cases h0:0<=k;exact .inr (decide_eq_false (by omega));exact .inl (decide_eq_false h0)))
end
theorem at_nil (k:Int) (w:World):Ca_ 65 #[.pointer none,i_ k] w (.tuple #[.agg (enA enN),.bool false]) :=
 at_out _ k w (h_ fun w' _=>qadv_ k w')
open NN.Rg2
def Ph (k:Nat) (Pre Post:World->Prop) (l:Array Bool) (w:World):Prop:=(l.getD k false=false->Pre w)/\(l.getD k false=true->Post w)
section
variable {k i:Nat} {Pre Post:World->Prop} {l:Array Bool} {w w':World}
theorem Ph.keep (h:Ph k Pre Post l w) (hi:i<l.size) (hk:i ≠ k:=by decide):Ph k Pre Post (l.setIfInBounds i true) w:=by
 unfold Ph at *;rwa [qo_ l i k hi hk]
theorem Ph.pre (h:Ph k Pre Post l w) (hl:(l.setIfInBounds i true).getD k false=false) (hi:i<l.size) (hk:i ≠ k):Pre w:=h.1 (by rw[<-qo_ l i k hi hk];exact hl)
theorem Ph.made (hl:(l.setIfInBounds i true).getD k false=false) (hp:Pre w'):Ph k Pre Post (l.setIfInBounds i true) w':=⟨fun _=>hp,fun h=>by rw[hl] at h;cases h⟩
theorem Ph.last (hi:k<l.size) (hp:Post w'):Ph k Pre Post (l.setIfInBounds k true) w':=⟨fun h=>(by rw[qx_ _ _ _ hi,if_pos rfl] at h;cases h),fun _=>hp⟩
theorem Ph.zero (hl:∀ i,l.getD i false=false) (hp:Pre w):Ph k Pre Post l w:=⟨fun _=>hp,fun h=>by rw[hl] at h;cases h⟩
end
def PhA (k s:Nat) (Pre:World->Prop) (Post:Value->World->Prop) (l:Array Bool) (a:Act) (w:World):Prop:=(l.getD k false=false->Pre w)/\(l.getD k false=true->Post (a.eval (.tmp s)) w)
section
variable {k i s:Nat} {Pre:World->Prop} {Post:Value->World->Prop} {l:Array Bool} {a:Act} {w w':World}
theorem PhA.keep (h:PhA k s Pre Post l a w) (hi:i<l.size) (hk:i ≠ k:=by decide) {d:Option Tmp} {u:Value} (hd:d ≠ some s:=by decide):PhA k s Pre Post (l.setIfInBounds i true) (a.put d u) w:=by
 unfold PhA at *;rwa [qo_ l i k hi hk,Act.eval_put (fun d' hdd e=>hd (by rw[hdd];cases e;rfl))]
theorem PhA.pre (h:PhA k s Pre Post l a w) (hl:(l.setIfInBounds i true).getD k false=false) (hi:i<l.size) (hk:i ≠ k):Pre w:=h.1 (by rw[<-qo_ l i k hi hk];exact hl)
theorem PhA.made {a':Act} (hl:(l.setIfInBounds i true).getD k false=false) (hp:Pre w'):PhA k s Pre Post (l.setIfInBounds i true) a' w':=⟨fun _=>hp,fun h=>by rw[hl] at h;cases h⟩
theorem PhA.last (u:Value) (hi:k<l.size) (hp:Post (a.eval (.tmp s)) w'):PhA k s Pre Post (l.setIfInBounds k true) (a.put none u) w':=⟨fun h=>(by rw[qx_ _ _ _ hi,if_pos rfl] at h;cases h),fun _=>hp⟩
theorem PhA.zero (hl:∀ i,l.getD i false=false) (hp:Pre w):PhA k s Pre Post l a w:=⟨fun _=>hp,fun h=>by rw[hl] at h;cases h⟩
end
section
variable {ρ:Operand->Value} {o:Oper} {w:World}
variable {x y:Operand} {p:Addr}
theorem ex_nil (ho:o.op = .nilCheck x) (hx:ρ x = .pointer (some p)):(execOp ρ o).run Tryz.prog w = .ok (.value (.pointer (some p))) w:=by
 unfold execOp;simp only[ho,hx];rfl
theorem afield0 (w:World) (g:Nat):(Instr.fieldAt 147 (pp_ g) 0).run Tryz.prog w = .ok (pp_ g) w:=by kernel_rfl
theorem afield2 (w:World) (g:Nat):(Instr.fieldAt 147 (pp_ g) 2).run Tryz.prog w = .ok (.pointer (some ⟨g,84,none⟩)) w:=by kernel_rfl
theorem afield3 (w:World) (g:Nat):(Instr.fieldAt 147 (pp_ g) 3).run Tryz.prog w = .ok (.pointer (some ⟨g,85,none⟩)) w:=by kernel_rfl
theorem efield1 (w:World) (g:Nat):(Instr.fieldAt 60 (pp_ g) 1).run Tryz.prog w = .ok (.pointer (some ⟨g,68,none⟩)) w:=by kernel_rfl
variable {T:TypeId} {n g m c:Nat}
theorem qah_ (ho:o.op = .fieldAddr T x n) (hx:ρ x = pp_ g) (hf:(Instr.fieldAt T (pp_ g) n).run Tryz.prog w = .ok (.pointer (some ⟨g,m,none⟩)) w):(execOp ρ o).run Tryz.prog w = .ok (.value (.pointer (some ⟨g,m,none⟩))) w:=by
 unfold execOp;simp only[ho,hx,Sem.run_bind,hf,Result.andThen_ok];rfl
variable {a:Option Addr}
theorem qaif_ (h:w.cell? p=some (.slice a n c)):(loadVar 144 p).run Tryz.prog w = .ok (.slice a n c) w:=by
 go_simp
theorem qif_ (ho:o.op = .load 144 x) (hx:ρ x = .pointer (some p)) (hc:w.cell? p=some (.slice a n c)):(execOp ρ o).run Tryz.prog w = .ok (.value (.slice a n c)) w:=by
 unfold execOp;simp only[ho,hx,Instr.loadAt,Instr.sureAddr,Sem.run_bind,Sem.run_pure,Result.andThen_ok,qaif_ hc]
variable {u v:Value}
theorem qaaf_ (hf:w.frozen? p=false) (hc:w.cell? p=some u):(storeVar 144 p (.slice a n c)).run Tryz.prog w = .ok () (w.setCell p (.slice a n c)):=by
 go_simp
theorem qna_ (ho:o.op = .store 144 x y) (hx:ρ x = .pointer (some p)) (hy:ρ y = .slice a n c) (hf:w.frozen? p=false) (hc:w.cell? p=some u):(execOp ρ o).run Tryz.prog w = .ok .skip (w.setCell p (.slice a n c)):=by
 unfold execOp;simp only[ho,hx,hy,Instr.storeAt,Instr.sureAddr,Sem.run_bind,Sem.run_pure,Result.andThen_ok,qaaf_ hf hc]
theorem qaig_ {m:Option Nat} (h:w.cell? p=some (.map m)):(loadVar 145 p).run Tryz.prog w = .ok (.map m) w:=by
 go_simp
theorem qre_ {m:Option Nat} (ho:o.op = .load 145 x) (hx:ρ x = .pointer (some p)) (hc:w.cell? p=some (.map m)):(execOp ρ o).run Tryz.prog w = .ok (.value (.map m)) w:=by
 unfold execOp;simp only[ho,hx,Instr.loadAt,Instr.sureAddr,Sem.run_bind,Sem.run_pure,Result.andThen_ok,qaig_ hc]
variable {e:En}
theorem qla_ (ho:o.op = .load 60 x) (hx:ρ x = pp_ g) (hg:w.rangeAt g 0 (enC e)) (hs:(enC e).length=106):(execOp ρ o).run Tryz.prog w = .ok (.value (.agg (enA e))) w :=
 ex_mid 60 ho hx Tryz.underlying60 rfl (eninfo.trans (by rw[hs])) hg
variable {s:Sp}
theorem qlb_ (ho:o.op = .load 141 x) (hx:ρ x = pp_ g) (hg:w.rangeAt g 0 (spC s)) (hs:(spC s).length=38):(execOp ρ o).run Tryz.prog w = .ok (.value (.agg (spA s))) w :=
 ex_mid 141 ho hx Tryz.underlying141 rfl (spinfo.trans (by rw[hs])) hg
theorem qvv_ {off:Nat} {l:List UInt8} (ho:o.op = .load 28 x) (hx:ρ x = .pointer (some ⟨g,off,none⟩)) (hg:w.rangeAt g off (Lib.byteCells l)) (hs:l.length=32):(execOp ρ o).run Tryz.prog w = .ok (.value (.agg (bytesV l))) w:=by
 have:=ex_mid (P:=Tryz.prog) (ρ:=ρ) (o:=o) (w:=w) 28 ho hx (cs:=Lib.byteCells l) Tryz.underlying28 rfl (hinfo.trans (by rw[qk_ hs])) hg;rw[this,<-qal_]
theorem qex_ {p:NN.Pr} (ho:o.op = .load 32 x) (hx:ρ x = pp_ g) (hg:w.rangeAt g 0 (NN.prC p)) (hs:(NN.prC p).length=83):(execOp ρ o).run Tryz.prog w = .ok (.value (.agg (NN.prA p))) w :=
 ex_mid 32 ho hx Tryz.underlying32 rfl (NN.prinfo.trans (by rw[hs])) hg
theorem qrf_ (ho:o.op = .build 143 #[(0,x),(1,y)]) (hx:ρ x = .agg (enA e)) (hy:ρ y = .agg (spA s)) (he:e.ok) (hs:s.ok):(execOp ρ o).run Tryz.prog w = .ok (.value (.agg (bkC e s).toArray)) w:=by
 unfold execOp;simp only[ho,Sem.run_bind];rw[show (#[(0,x),(1,y)]:Array (Nat × Operand)).map (fun (i,x)=>(i,ρ x))=#[(0,.agg (enA e)),(1,.agg (spA s))] by simp[hx,hy],run_build w 143 _ _ (qrb_ e s he hs)];rfl
theorem qadw_:∃ i z,Tryz.prog.info? 143=some i/\i.zero=some z/\i.size=144/\i.bytes=272/\z.cells.size=144:=qks_ (by kernel_rfl) (by kernel_rfl) (by kernel_rfl)
theorem qaag_ (cs:Array Value) (h:cs.size=144) (w:World):(Instr.buildSlice 144 1 #[(0,.agg cs)]).run Tryz.prog w = .ok (.slice (some ⟨w.heap.size,0,none⟩) 1 1) (w.alloc (.cells cs 143)):=by
 obtain ⟨i,z,hi,hz,h1,h2,h3⟩:=qadw_;refine run_buildSlice w 144 143 1 _ cs i z Tryz.underlying144 hi hz (by rw[h1];decide) (by rw[h1];decide) ?_;rw[h1];exact qik_ 144 _ cs (by simp) h
theorem qrg_ {cs:Array Value} (ho:o.op = .buildSlice 144 1 #[(0,x)]) (hx:ρ x = .agg cs) (h:cs.size=144):(execOp ρ o).run Tryz.prog w = .ok (.value (.slice (some ⟨w.heap.size,0,none⟩) 1 1)) (w.alloc (.cells cs 143)) :=
 qbu_ ho hx (qaag_ cs h w)
theorem qnb_ {xs:List Value} (he:e.ok) (hs:s.ok) (hx:ρ x=v) (hown:w.ownsRow 0 143 144 v n xs) (hy:ρ y = .slice (sp_ g) 1 1) (hg:Has w g (bkC e s).toArray 143) (hn:n<=1000) :
  ∃ v' w',(∀o:Oper,o.op = .call { callee:=.builtin .append,args:=#[x,y],argTypes:=#[144,144] }->o.type=144->(execOp ρ o).run Tryz.prog w = .ok (.value v') w')/\w'.ownsRow 0 143 144 v' (n+1) (xs ++ bkC e s)/\w.grownBy w' v.ownBlock/\(v'.ownBlock=v.ownBlock\/v'.ownBlock=some w.heap.size):=by
 obtain ⟨i,z,hi,hz,h1,h2,h3⟩:=qadw_
 obtain ⟨v',w',hr,g1,g2,_,g4⟩:=run_append_own_at (P:=Tryz.prog) w 0 144 144 143 i z 144 272 Tryz.underlying144 hi hz h1 h2 h3 (by decide) v n xs hown ⟨g,0,none⟩ 1 1 (bkC e s) (by rw[qdq_ he hs]) (fun j u hj=>by
  rw[Addr.add_lit,Nat.zero_add,hg.cell j,List.getElem?_toArray];exact hj) (bkC_one e s) (by unfold maxLen;omega) (by omega) (Nat.zero_le _)
 refine ⟨v',w',fun o ho hty=>?_,g1,g2,g4⟩;unfold execOp;simp only[ho,hty,resolve,invoke,builtin,Sem.run_bind,Sem.run_pure,Result.andThen_ok,List.map_toArray,List.map_cons,List.map_nil,hx,hy,hr]
theorem qaah_ {z:Operand} {b:Nat} {k:Value} {w':World} (ho:o.op = .mapUpdate 145 x y z) (hx:ρ x = .map (some b)) (hy:ρ y=k) (hz:ρ z=v) (hr:(Instr.mapUpdate 145 (.map (some b)) k v).run Tryz.prog w = .ok () w'):(execOp ρ o).run Tryz.prog w = .ok .skip w':=by
 unfold execOp;simp only[ho,hx,hy,hz,Sem.run_bind,Sem.run_pure,Result.andThen_ok,hr]
theorem ex_idx {j:Nat} (ho:o.op = .indexAddr T x y) (hx:ρ x = .slice (sp_ g) n c) (hy:ρ y = i_ j) (hf:(Instr.indexAt T (.slice (sp_ g) n c) (i_ j)).run Tryz.prog w = .ok (.pointer (some ⟨g,m,none⟩)) w):(execOp ρ o).run Tryz.prog w = .ok (.value (.pointer (some ⟨g,m,none⟩))) w:=by
 unfold execOp;simp only[ho,hx,hy,Sem.run_bind,hf,Result.andThen_ok];rfl
theorem bk_idx (w:World) (g j n c:Nat) (hj:j<n):(Instr.indexAt 144 (.slice (sp_ g) n c) (i_ j)).run Tryz.prog w = .ok (.pointer (some ⟨g,j*144,none⟩)) w:=by
 go_simp
end
end Go.Proofs.YtkbjaadjnbgfbaaGreatDoor.An
namespace Go.Proofs.YtkbjaadjnbgfbaaGreatDoor.An
open Go.RowKit Mem Sc
def rfC (p:NN.Pr) (vH vI vA vW:Value) (room:Nat):List Value:=NN.prC p ++ [vH,vI,vA,vW,i_ room]
def rfA (p:NN.Pr) (vH vI vA vW:Value) (room:Nat):Array Value:=(rfC p vH vI vA vW room).toArray
theorem qaai_ (parts:List (Nat × Value)):Tryz.prog.built 72 parts=Instr.fill ((#[(0,83),(83,1),(84,1),(85,1),(86,1),(87,1)]:Array (Nat × Nat))[·]?) (NN.prC prZ ++ [Value.slice none 0 0,Value.slice none 0 0,Value.slice none 0 0,Value.slice none 0 0,Value.int .i64 0]).toArray parts:=by kernel_rfl
theorem qem_ {offs:Nat->Option (Nat × Nat)} (k off:Nat) (A:List Value) (x y:Value) (B:List Value) (parts:List (Nat × Value)) (ho:offs k=some (off,1)) (hA:A.length=off) (hy:y.cells=#[y]) :
  Instr.fill offs (A ++ (x :: B)).toArray ((k,y) :: parts)=Instr.fill offs ((A ++ [y]) ++ B).toArray parts:=by
 rw[show A ++ (x :: B)=A ++ ([x] ++ B) by simp,qbb_ (off:=off) (n:=1) A [x] B [y] ho hA rfl hy rfl];simp
theorem qaih_ (p:NN.Pr) (h:p.ok) (a1 a2 a3 a4:Option Addr) (n1 n2 n3 n4 c1 c2 c3 c4 room:Nat):Tryz.prog.built 72 [(0,.agg (NN.prA p)),(1,.slice a1 n1 c1),(2,.slice a2 n2 c2),(3,.slice a3 n3 c3),(4,.slice a4 n4 c4),(5,Value.int .i64 (room:Int))]=some (rfA p (.slice a1 n1 c1) (.slice a2 n2 c2) (.slice a3 n3 c3) (.slice a4 n4 c4) room):=by
 rw[qaai_];have h0:=qs_ h;unfold rfA rfC
 rw[show NN.prC prZ ++ [Value.slice none 0 0,Value.slice none 0 0,Value.slice none 0 0,Value.slice none 0 0,Value.int .i64 0]=[] ++ (NN.prC prZ ++ [Value.slice none 0 0,Value.slice none 0 0,Value.slice none 0 0,Value.slice none 0 0,Value.int .i64 0]) from rfl,
  qbb_ (off:=0) (n:=83) [] (NN.prC prZ) _ (NN.prC p) rfl rfl (qs_ prZ_ok) rfl h0,List.nil_append,
  qem_ 1 83 (NN.prC p) _ _ _ _ rfl h0 rfl,qem_ 2 84 _ _ _ _ _ rfl (by simp[h0]) rfl,qem_ 3 85 _ _ _ _ _ rfl (by simp[h0]) rfl,qem_ 4 86 _ _ _ _ _ rfl (by simp[h0]) rfl,qem_ 5 87 _ _ _ _ _ rfl (by simp[h0]) rfl,qiy_]
 simp
structure Rfa (w:World) (I:Nat->Prop) (b:Nat) (p:NN.Pr) (t:Tl) (gs:List Gt) (cs:List Ck) (room:Nat) (vH vI vA vW:Value) (hs:List Hd) (ids:List (List UInt8)) (up:List Int) (ws:List Nat):Prop where
 has:Has w b (rfA p vH vI vA vW room) 72
 pok:p.ok
 one:p.one
 tt:p.tl=t.C
 tok:t.ok
 gn:t.gn=gs.length
 cn:t.cn=cs.length
 rowH:w.ownsRow 0 30 68 vH hs.length (hs.flatMap hdC)
 rowI:w.ownsRow 0 28 32 vI ids.length (ids.flatMap Lib.byteCells)
 rowA:w.ownsRow 0 3 1 vA up.length (up.map (Value.int .i64))
 rowW:w.ownsRow 0 26 4 vW ws.length (ws.flatMap fun z=>(NN.numC z).toList)
 gates:Sup I (fun w=>GatesAt w t.ga gs) w
 checks:Sup I (fun w=>ChecksAt w t.ca cs) w
 nb:¬I b
 nH:∀ k,vH.ownBlock=some k->¬I k
 nI:∀ k,vI.ownBlock=some k->¬I k
 nA:∀ k,vA.ownBlock=some k->¬I k
 nW:∀ k,vW.ownBlock=some k->¬I k
 lt:∀ i,I i->i<w.heap.size
 good:∀ h ∈ hs,h.ok
 name:∀ l ∈ ids,l.length=32
 small:∀ z ∈ ws,z<NN.Nm.big
def RMine (I:Nat->Prop) (b:Nat) (vH vI vA vW:Value):Nat->Prop:=fun i=>I i\/i=b\/vH.ownBlock=some i\/vI.ownBlock=some i\/vA.ownBlock=some i\/vW.ownBlock=some i
section
variable {w w':World} {I G:Nat->Prop} {b:Nat} {p:NN.Pr} {t:Tl} {gs:List Gt} {cs:List Ck} {room:Nat} {vH vI vA vW:Value} {hs:List Hd} {ids:List (List UInt8)} {up:List Int} {ws:List Nat}
theorem Rfa.on (h:Rfa w I b p t gs cs room vH vI vA vW hs ids up ws) (k:Kp G w w') (hG:∀ i,RMine I b vH vI vA vW i->¬G i):Rfa w' I b p t gs cs room vH vI vA vW hs ids up ws :=
 { h with
  has:=k.has h.has (hG b (.inr (.inl rfl)))
  rowH:=kp_row h.rowH k fun i hi=>hG i (.inr (.inr (.inl hi)))
  rowI:=kp_row h.rowI k fun i hi=>hG i (.inr (.inr (.inr (.inl hi))))
  rowA:=kp_row h.rowA k fun i hi=>hG i (.inr (.inr (.inr (.inr (.inl hi)))))
  rowW:=kp_row h.rowW k fun i hi=>hG i (.inr (.inr (.inr (.inr (.inr hi)))))
  gates:=h.gates.on k fun i hi=>hG i (.inl hi)
  checks:=h.checks.on k fun i hi=>hG i (.inl hi)
  lt:=fun i hi=>Nat.lt_of_lt_of_le (h.lt i hi) k.size }
theorem Rfa.below (h:Rfa w I b p t gs cs room vH vI vA vW hs ids up ws) (hb:Bl w w'):Rfa w' I b p t gs cs room vH vI vA vW hs ids up ws:=h.on (G:=fun _=>False) (Kp.of hb) fun _ _ hf=>hf
theorem Rfa.mine_lt (h:Rfa w I b p t gs cs room vH vI vA vW hs ids up ws) {i:Nat} (hi:RMine I b vH vI vA vW i):i<w.heap.size:=by
 rcases hi with hi|rfl|hi|hi|hi|hi
 exact h.lt i hi;exact h.has.lt;exact (row_lt h.rowH hi).1;exact (row_lt h.rowI hi).1;exact (row_lt h.rowA hi).1;exact (row_lt h.rowW hi).1
theorem qaf_ {w:World} {i j:Nat} {xs ys:Array Value} {t u:TypeId} (hi:w.heap[i]?=some (.cells xs t (0,0))) (hj:w.heap[j]?=some (.cells ys u (0,0))) (h:t ≠ u):i ≠ j:=by
 rintro rfl;rw[hi] at hj;injection hj with hj
 injection hj with _ hj
 exact h hj
end
open Ar (Ent Ru entZ)
theorem qrh_ (a:Option Addr) (n c:Nat) (L:List Gt) (hn:n=L.length) (hl:n<=1000) (w:World) (hA:GatesAt w a L) :
  Cl_ 171 #[.slice a n c] w fun e w'=>∃ a' c',e = .returned (.slice a' n c')/\(GatesAt w' a' L/\(0<L.length->∀ ad,a'=some ad->w.heap.size<=ad.block))/\Bl w w':=by
 cases a with
 | none=>
  have h0:n=0:=by
   by_cases h:0<L.length;obtain ⟨_,_,e,_⟩:=hA h;cases e;omega
  refine (qhm_ n c w).mono ?_;rintro e w' ⟨rfl,rfl⟩;exact ⟨none,0,by rw[h0],⟨fun h=>absurd h (by omega),fun _ ad e=>by cases e⟩,br_⟩
 | some ad=>
  by_cases h0:0<L.length;obtain ⟨ab,ao,e,hlt,hc⟩:=hA h0;cases e;have hlen:∀ x ∈ L,(gtC x).length=2:=(fun _ _=>rfl);refine (qdn_ ⟨ab,ao,none⟩ n c L hn hl w (fun j u hj=>?_)).mono ?_;rw[Addr.add_lit];refine qgt_ gtC 2 (by decide) L hlen (fun i x hi=>?_) j u hj;obtain ⟨h1,h2⟩:=List.getElem?_eq_some_iff.1 hi;rw[<-h2];exact hc i h1;rintro e w' ⟨v',rfl,ho,hb⟩;obtain ⟨a',c',rfl,_,h3⟩:=qjb_ gtC 2 L hlen ho hn;obtain ⟨g,rfl,h4,h5,h6⟩:=h3 (by omega);exact ⟨_,c',rfl,⟨fun _=>⟨g,0,rfl,h5,fun i hi=>by rw[Nat.zero_add];exact h6 i _ (List.getElem?_eq_getElem hi)⟩,fun _ ad e=>by cases e;exact h4⟩,hb⟩;obtain rfl:L=[]:=List.eq_nil_of_length_eq_zero (by omega);refine (qdn_ ad n c [] hn hl w (fun j u hj=>by simp at hj)).mono ?_;rintro e w' ⟨v',rfl,ho,hb⟩;obtain ⟨a',c',rfl,_⟩:=qjb_ gtC 2 [] (fun x hx=>by cases hx) ho hn;exact ⟨a',c',rfl,⟨fun h=>by simp at h,fun h=>by simp at h⟩,hb⟩
theorem qnc_ (a:Option Addr) (n c:Nat) (L:List Ck) (hn:n=L.length) (hl:n<=1000) (w:World) (hA:ChecksAt w a L) :
  Cl_ 172 #[.slice a n c] w fun e w'=>∃ a' c',e = .returned (.slice a' n c')/\(ChecksAt w' a' L/\(0<L.length->∀ ad,a'=some ad->w.heap.size<=ad.block))/\Bl w w':=by
 cases a with
 | none=>
  have h0:n=0:=by
   by_cases h:0<L.length;obtain ⟨_,_,e,_⟩:=hA h;cases e;omega
  refine (qgu_ n c w).mono ?_;rintro e w' ⟨rfl,rfl⟩;exact ⟨none,0,by rw[h0],⟨fun h=>absurd h (by omega),fun _ ad e=>by cases e⟩,br_⟩
 | some ad=>
  by_cases h0:0<L.length;obtain ⟨ab,ao,e,hlt,hc⟩:=hA h0;cases e;have hlen:∀ x ∈ L,(ckC x).length=33:=(fun x hx=>qci_ (by obtain ⟨i,hi,e⟩:=List.mem_iff_getElem.1 hx;rw[<-e];exact (hc i hi).1));refine (qcx_ ⟨ab,ao,none⟩ n c L (fun x hx=>by obtain ⟨i,hi,e⟩:=List.mem_iff_getElem.1 hx;rw[<-e];exact (hc i hi).1) hn hl w (fun j u hj=>?_)).mono ?_;rw[Addr.add_lit];refine qgt_ ckC 33 (by decide) L hlen (fun i x hi=>?_) j u hj;obtain ⟨h1,h2⟩:=List.getElem?_eq_some_iff.1 hi;rw[<-h2];exact (hc i h1).2;rintro e w' ⟨v',rfl,ho,hb⟩;obtain ⟨a',c',rfl,_,h3⟩:=qjb_ ckC 33 L hlen ho hn;obtain ⟨g,rfl,h4,h5,h6⟩:=h3 (by omega);exact ⟨_,c',rfl,⟨fun _=>⟨g,0,rfl,h5,fun i hi=>⟨(hc i hi).1,by rw[Nat.zero_add];exact h6 i _ (List.getElem?_eq_getElem hi)⟩⟩,fun _ ad e=>by cases e;exact h4⟩,hb⟩;obtain rfl:L=[]:=List.eq_nil_of_length_eq_zero (by omega);refine (qcx_ ad n c [] (fun x hx=>by cases hx) hn hl w (fun j u hj=>by simp at hj)).mono ?_;rintro e w' ⟨v',rfl,ho,hb⟩;obtain ⟨a',c',rfl,_⟩:=qjb_ ckC 33 [] (fun x hx=>by cases hx) ho hn;exact ⟨a',c',rfl,⟨fun h=>by simp at h,fun h=>by simp at h⟩,hb⟩
variable {p:NN.Pr} {t:Tl}
theorem pr_set5 (tt:p.tl=t.C) (a:Option Addr) (n c:Nat):(NN.prA p).setIfInBounds 5 (.slice a n c)=NN.prA { p with tl:=({ t with ga:=a,gn:=n,gc:=c }:Tl).C }:=by
 unfold NN.prA NN.prC;rw[tt,List.setIfInBounds_toArray];rfl
theorem pr_set6 (tt:p.tl=t.C) (a:Option Addr) (n c:Nat):(NN.prA p).setIfInBounds 6 (.slice a n c)=NN.prA { p with tl:=({ t with ca:=a,cn:=n,cc:=c }:Tl).C }:=by
 unfold NN.prA NN.prC;rw[tt,List.setIfInBounds_toArray];rfl
variable {w:World} {k:Nat}
theorem pr_sl5 (h:NN.PrAt w k p) (tt:p.tl=t.C) (a:Option Addr) (n c:Nat):NN.PrAt (w.setCell ⟨k,5,none⟩ (.slice a n c)) k { p with tl:=({ t with ga:=a,gn:=n,gc:=c }:Tl).C }:=by
 have:=NN.Has.set (i:=5) h (.slice a n c);rwa [pr_set5 tt] at this
theorem pr_sl6 (h:NN.PrAt w k p) (tt:p.tl=t.C) (a:Option Addr) (n c:Nat):NN.PrAt (w.setCell ⟨k,6,none⟩ (.slice a n c)) k { p with tl:=({ t with ca:=a,cn:=n,cc:=c }:Tl).C }:=by
 have:=NN.Has.set (i:=6) h (.slice a n c);rwa [pr_set6 tt] at this
def moved (p:NN.Pr) (t:Tl) (ga:Option Addr) (gc:Nat) (ca:Option Addr) (cc:Nat):NN.Pr:={ p with tl:=({ t with ga:=ga,gc:=gc,ca:=ca,cc:=cc }:Tl).C }
def movedT (t:Tl) (ga:Option Addr) (gc:Nat) (ca:Option Addr) (cc:Nat):Tl:={ t with ga:=ga,gc:=gc,ca:=ca,cc:=cc }
theorem qaaj_ (t:Tl) (h:t.ok):t.C.length=78:=by unfold Tl.C;simp[h.1,qh_ h.2]
theorem qvw_ (p:NN.Pr) (t:Tl) (h:t.ok) (ga:Option Addr) (gc:Nat) (ca:Option Addr) (cc:Nat):(moved p t ga gc ca cc).ok:=qaaj_ _ h
variable {a:Act}
theorem qaii_ {ops:Array Oper} {rest:List Oper} {o:Oper} {Q:Exit->Act->World->Prop} (hgd:o.guard=none) (x y:Operand) (ho:o.op = .store 32 x y) (g:Nat) (cz:Array Value) (p':NN.Pr) (h1:p'.one) (hx:a.eval x = pp_ g) (hy:a.eval y = .agg cz) (e:cz=NN.prA p') (hs':(NN.prA p').size=83) (hg:NN.PrAt w g p) (hs:(NN.prA p).size=83)
  (hk:wpList Tryz.prog ops Q rest (a.put o.dst undef) (w.setRow g (NN.prA p'))):wpList Tryz.prog ops Q (o :: rest) a w:=by
 subst e;exact wpList_store_row hgd 32 x y ho g (NN.prA p') hx hy 32 (NN.prA p) (Has.out hg) (NN.prinfo.trans (by rw[hs'])) (by rw[hs,hs']) (all_oneCell_toArray (NN.prC_one h1)) hk
theorem qaij_ (w:World) (ob:Obj):NN.PrAt ((w.alloc ob).alloc (.cells Tryz.zeroCells32 32)) (w.heap.size+1) prZ:=Has.new1 ob (NN.prA prZ) _
theorem qvx_ {fn:Func} {q:Tmp} (hf:fn.results=#[.cell q 32]) (tmps:Array Value) (g:Nat) (hp:tmps.getD q undef = pp_ g) (hg:NN.PrAt w g p) (hs:(NN.prA p).size=83) :
  (results fn tmps).run Tryz.prog w = .ok (.agg (NN.prA p)) w :=
 results_cell_row hf tmps w g 32 (NN.prA p) (0,0) _ hp (Has.out hg) Tryz.underlying32 rfl (NN.prinfo.trans (by rw[hs]))
theorem qpk_ {B:Nat} {w':World} (h:Below B w w') (p:Addr) (v:Value) (hp:B<=p.block):Below B w (w'.setCell p v):=h.setCell hp v
theorem qaik_ (p:NN.Pr) (hp:p.ok) (h1:p.one) (t:Tl) (tt:p.tl=t.C) (ht:t.ok) (G K:World->Option Addr->Prop) (w:World)
  (KG:Hid (∀w',Below w.heap.size w w'->w.heap.size+2<=w'.heap.size->Cl_ 171 #[.slice t.ga t.gn t.gc] w' fun e w''=>∃ a' c',e = .returned (.slice a' t.gn c')/\G w'' a'/\Below w'.heap.size w' w''))
  (KC:Hid (∀w',Below w.heap.size w w'->w.heap.size+2<=w'.heap.size->Cl_ 172 #[.slice t.ca t.cn t.cc] w' fun e w''=>∃ a' c',e = .returned (.slice a' t.cn c')/\K w'' a'/\Below w'.heap.size w' w'')) :
  Cl_ 139 #[.agg (NN.prA p)] w fun e w'=>∃ ga gc ca cc,e = .returned (.agg (NN.prA (moved p t ga gc ca cc)))/\(∃w1,G w1 ga/\Kp (fun i=>i=w.heap.size\/i=w.heap.size+1) w1 w')/\(∃w1,K w1 ca/\Kp (fun i=>i=w.heap.size\/i=w.heap.size+1) w1 w')/\Below w.heap.size w w':=by
 have hz:=NN.qav_ hp;have z0:=NN.qav_ prZ_ok;go_enter Tryz.func139,Tryz.ntmps139;go_upto_region 1 with fail
 generalize hw0:World.alloc _ _=v0;have hB:Below w.heap.size w v0:=by rw[<-hw0];exact ba_.alloc (by simp) _
 have hP:NN.PrAt v0 w.heap.size p:=by rw[<-hw0];exact (NN.Has.new _ _).alloc _
 have hsz0:w.heap.size+2<=v0.heap.size:=by rw[<-hw0];simp
 have hR:NN.PrAt v0 (w.heap.size+1) prZ:=by rw[<-hw0];exact qaij_ w _
 clear hw0;obtain ⟨bP,hbP⟩:∃ x,x=w.heap.size:=⟨_,rfl⟩;obtain ⟨bR,hbR⟩:∃ x,x=w.heap.size+1:=⟨_,rfl⟩;rw[<-hbR] at hR |-;rw[<-hbP] at hP |-;have HP:Hid (bP=w.heap.size):=h_ hbP;have HR:Hid (bR=w.heap.size+1):=h_ hbR;have n1:bP ≠ bR:=by omega
 clear hbP hbR;have c5:=qef_ hP tt;go_wp2_with fail
 refine (KG.out _ hB hsz0).mono ?_;rintro e v1 ⟨ga,gc,rfl,hg,hb⟩;replace hP:=hP.on hb;replace hR:=hR.on hb;replace hB:=tb_ hB hb;have hsz1:w.heap.size+2<=v1.heap.size:=Nat.le_trans hsz0 hb.size;clear hb c5 hsz0;have c5:=qef_ hP tt;have f5:=Has.free hP 5;go_upto_region 2 with fail
 have hP2:=pr_sl5 hP tt ga t.gn gc;have hR2:NN.PrAt (v1.setCell ⟨bP,5,none⟩ (.slice ga t.gn gc)) bR prZ:=Has.other hR _ _ (fun e=>n1 e.symm);have hB2:Below w.heap.size w (v1.setCell ⟨bP,5,none⟩ (.slice ga t.gn gc)):=qpk_ hB _ _ (by rw[<-HP.out];exact Nat.le_refl _);have hk2:Kp (fun i=>i=bP\/i=bR) v1 (v1.setCell ⟨bP,5,none⟩ (.slice ga t.gn gc)):=Kp.gb (qax_ v1 bP 5 _) (fun k hk=>.inl (Option.some.inj hk).symm);have hsz2:w.heap.size+2<=(v1.setCell ⟨bP,5,none⟩ (.slice ga t.gn gc)).heap.size:=Nat.le_trans hsz1 hk2.size;clear hsz1;generalize World.setCell _ _ _=v2 at *;clear c5 f5 hP hR hB;have c6:=qcw_ hP2 (t:={ t with ga:=ga,gc:=gc }) rfl;simp only at c6;go_wp2_with fail
 refine (KC.out _ hB2 hsz2).mono ?_;rintro e v3 ⟨ca,cc,rfl,hk,hb⟩;replace hP2:=hP2.on hb;replace hR2:=hR2.on hb;replace hB2:=tb_ hB2 hb;replace hk2:Kp (fun i=>i=bP\/i=bR) v1 v3:=hk2.trans (Kp.of (F:=fun i=>i=bP\/i=bR) hb) (fun i hi _=>hi);clear hb c6;have c6:=qcw_ hP2 (t:={ t with ga:=ga,gc:=gc }) rfl;simp only at c6;have f6:=Has.free hP2 6;go_upto_region 3 with fail
 have hP4:=pr_sl6 hP2 (t:={ t with ga:=ga,gc:=gc }) rfl ca t.cn cc;have hR4:NN.PrAt (v3.setCell ⟨bP,6,none⟩ (.slice ca t.cn cc)) bR prZ:=Has.other hR2 _ _ (fun e=>n1 e.symm);have hB4:Below w.heap.size w (v3.setCell ⟨bP,6,none⟩ (.slice ca t.cn cc)):=qpk_ hB2 _ _ (by rw[<-HP.out];exact Nat.le_refl _);have hk3:Kp (fun i=>i=bP\/i=bR) v3 (v3.setCell ⟨bP,6,none⟩ (.slice ca t.cn cc)):=Kp.gb (qax_ v3 bP 6 _) (fun k hk=>.inl (Option.some.inj hk).symm);generalize World.setCell _ _ _=v4 at *;replace hk2:=hk2.trans hk3 (fun i hi _=>hi);clear c6 f6 hP2 hR2 hB2;have hP5:NN.PrAt v4 bP (moved p t ga gc ca cc):=hP4;clear hP4;have z5:=NN.qav_ (qvw_ p t ht ga gc ca cc)
 have o5:(moved p t ga gc ca cc).one:=by
  intro v hv;have hv':v ∈ (Value.slice ga t.gn gc :: Value.slice ca t.cn cc :: (t.nn ++ hdC t.g)):=hv;simp only[List.mem_cons] at hv';rcases hv' with rfl|rfl|hv'
  rfl;rfl;exact h1 v (by rw[tt];unfold Tl.C;simp only[List.mem_cons];exact .inr (.inr hv'))
 obtain ⟨q,hq⟩:∃ q,q=moved p t ga gc ca cc:=⟨_,rfl⟩;rw[<-hq] at hP5 z5 o5;have HQ:=h_ hq;clear hq;have HRle:Hid (w.heap.size<=bR):=h_ (by rw[HR.out];omega)
 go_wp2_with (first
  | (with_reducible refine NN.qq_ rfl _ rfl _ rfl hP5 z5 ?_)
  | (with_reducible refine qaii_ rfl _ _ rfl _ _ q o5 rfl rfl rfl z5 hR4 z0 ?_))
 have hk5:Kp (fun i=>i=bP\/i=bR) v4 (v4.setRow bR (NN.prA q)):=⟨rfl,rfl,rfl,by rw[setRow_size];exact Nat.le_refl _,fun k _ hn=>setRow_other v4 bR k _ (fun e=>hn (.inr e))⟩;refine bodyPost_ret (qvx_ Tryz.results139 _ _ rfl (Has.row hR4 _) z5) rfl ⟨ga,gc,ca,cc,HQ.out ▸ rfl,⟨v1,hg,?_⟩,⟨v3,hk,?_⟩,below_setRow hB4 HRle.out _⟩;exact (hk2.trans hk5 (fun i hi _=>hi)).mono (fun i hi _=>hi.elim (fun h=>.inl (h.trans HP.out)) (fun h=>.inr (h.trans HR.out)));exact (hk3.trans hk5 (fun i hi _=>hi)).mono (fun i hi _=>hi.elim (fun h=>.inl (h.trans HP.out)) (fun h=>.inr (h.trans HR.out)))
theorem qaak_ (p:NN.Pr) (hp:p.ok) (h1:p.one) (t:Tl) (tt:p.tl=t.C) (ht:t.ok) (gs:List Gt) (cs:List Ck) (hgn:t.gn=gs.length) (hcn:t.cn=cs.length) (hgl:t.gn<=1000) (hcl:t.cn<=1000) (w:World) (hG:GatesAt w t.ga gs) (hC:ChecksAt w t.ca cs) :
  Cl_ 139 #[.agg (NN.prA p)] w fun e w'=>∃ ga gc ca cc,e = .returned (.agg (NN.prA (moved p t ga gc ca cc)))/\Sup (fun i=>w.heap.size<=i) (fun w=>GatesAt w ga gs) w'/\Sup (fun i=>w.heap.size<=i) (fun w=>ChecksAt w ca cs) w'/\Bl w w':=by
 refine (qaik_ p hp h1 t tt ht (fun w1 a=>GatesAt w1 a gs/\(0<gs.length->∀ ad,a=some ad->w.heap.size+2<=ad.block)) (fun w1 a=>ChecksAt w1 a cs/\(0<cs.length->∀ ad,a=some ad->w.heap.size+2<=ad.block)) w ?_ ?_).mono ?_
 ·refine h_ fun w' hb hs=>(qrh_ t.ga t.gn t.gc gs hgn hgl w' (hG.below hb)).mono ?_
  rintro e w2 ⟨a',c',rfl,⟨q1,q2⟩,q3⟩;exact ⟨a',c',rfl,⟨q1,fun h0 ad e=>Nat.le_trans hs (q2 h0 ad e)⟩,q3⟩
 ·refine h_ fun w' hb hs=>(qnc_ t.ca t.cn t.cc cs hcn hcl w' (hC.below hb)).mono ?_
  rintro e w2 ⟨a',c',rfl,⟨q1,q2⟩,q3⟩;exact ⟨a',c',rfl,⟨q1,fun h0 ad e=>Nat.le_trans hs (q2 h0 ad e)⟩,q3⟩
 ·rintro e w' ⟨ga,gc,ca,cc,rfl,⟨w1,⟨q1,q2⟩,q3⟩,⟨w2,⟨q4,q5⟩,q6⟩,hb⟩;refine ⟨ga,gc,ca,cc,rfl,?_,?_,hb⟩
  ·refine (Sup.on (qpi_ (I:=fun i=>w.heap.size+2<=i) q1 q2) q3 (fun i hi h=>?_)).wide fun i hi=>by omega
   rcases h with h|h <;> omega
  ·refine (Sup.on (qky_ (I:=fun i=>w.heap.size+2<=i) q4 q5) q6 (fun i hi h=>?_)).wide fun i hi=>by omega
   rcases h with h|h <;> omega
open NN.Rg2
def StR (b:Nat) (v:Value) (e:En) (s:Sp) (bE bS:Nat):Nat->Value->Prop
 | 0,u=>u = pp_ b
 | 1,u=>u = pp_ b
 | 2,u=>u = pp_ b
 | 3,u=>u = .pointer (some ⟨b,84,none⟩)
 | 4,u=>u=v
 | 5,u=>u = .agg (enA e)
 | 6,u=>u = .agg (spA s)
 | 7,u=>u = .agg (bkC e s).toArray
 | 10,u=>u = pp_ b
 | 11,u=>u = .pointer (some ⟨b,84,none⟩)
 | _,_=>bE=bE/\bS=bS
def MuR (b mb bE:Nat) (e:En) (n:Nat):Nat->Value->Prop
 | 0,u=>u = pp_ b
 | 1,u=>u = pp_ b
 | 2,u=>u = .pointer (some ⟨b,85,none⟩)
 | 3,u=>u = .map (some mb)
 | 4,u=>u = .pointer (some ⟨bE,68,none⟩)
 | 5,u=>u = .agg (bytesV e.id)
 | 6,u=>u = i_ n
 | _,_=>n=n
def StI (v1:World) (b:Nat) (p:NN.Pr) (room:Nat) (v:Value) (mb n:Nat) (xs:List Value) (e:En) (s:Sp) (l:Array Bool) (a:Act) (w:World):Prop :=
 (l.getD 8 false=true->l.getD 9 false=false->∃ g,a.eval (.tmp 21) = .slice (sp_ g) 1 1/\Has w g (bkC e s).toArray 143)/\
 (l.getD 9 false=false->w.ownsRow 0 143 144 v n xs)/\
 (l.getD 9 false=true->l.getD 12 false=false->∃ v',a.eval (.tmp 22)=v'/\w.ownsRow 0 143 144 v' (n+1) (xs ++ bkC e s)/\(v'.ownBlock=v.ownBlock\/∃ g,v'.ownBlock=some g/\v1.heap.size<=g))/\
 (l.getD 12 false=false->Has w b (arA p room v mb) 147)/\
 (l.getD 12 false=true->∃ v',Has w b (arA p room v' mb) 147/\w.ownsRow 0 143 144 v' (n+1) (xs ++ bkC e s)/\(v'.ownBlock=v.ownBlock\/∃ g,v'.ownBlock=some g/\v1.heap.size<=g))
theorem StI.keep {v1:World} {b:Nat} {room:Nat} {v:Value} {mb n:Nat} {xs:List Value} {e:En} {s:Sp} {l:Array Bool} (h:StI v1 b p room v mb n xs e s l a w) (i:Nat) (hi:i<l.size) (h8:i ≠ 8:=by decide) (h9:i ≠ 9:=by decide) (h12:i ≠ 12:=by decide) {d:Option Tmp} {u:Value} (hd:d ≠ some 21:=by decide) (hd2:d ≠ some 22:=by decide) :
  StI v1 b p room v mb n xs e s (l.setIfInBounds i true) (a.put d u) w:=by
 obtain ⟨p1,p2,p3,p4,p5⟩:=h;unfold StI;rw[qo_ l i 8 hi h8,qo_ l i 9 hi h9,qo_ l i 12 hi h12,Act.eval_put (fun d' hdd e=>hd (by rw[hdd];cases e;rfl)),Act.eval_put (fun d' hdd e=>hd2 (by rw[hdd];cases e;rfl))];exact ⟨p1,p2,p3,p4,p5⟩
theorem store_w (b:Nat) (p:NN.Pr) (hp:p.ok) (room:Nat) (sa:Option Addr) (n c:Nat) (mb:Nat) (xs:List Value) (e:En) (he:e.ok) (s:Sp) (hs:s.ok) (hn:n<=900) (w:World) (hA:Has w b (arA p room (.slice sa n c) mb) 147) (hrow:w.ownsRow 0 143 144 (.slice sa n c) n xs) (hbv:∀ k,(Value.slice sa n c).ownBlock=some k->k ≠ b) (hbm:b ≠ mb)
  (Q:World->World->Prop)
  (KM:Hid (∀v2:World,v2.heap[mb]?=w.heap[mb]?->∃ v3,(Instr.mapUpdate 145 (.map (some mb)) (.agg (bytesV e.id)) (.int .i64 (n:Int))).run Tryz.prog v2 = .ok () v3/\Q v2 v3/\v2.grownBy v3 (some mb))) (hmv:∀ k,(Value.slice sa n c).ownBlock=some k->k ≠ mb) (hml:mb<w.heap.size) :
  Cl_ 124 #[.pointer (some ⟨b,0,none⟩),.agg (enA e),.agg (spA s)] w fun r w'=>∃ v' v2,r = .returned (.int .i64 (n:Int))/\Has w' b (arA p room v' mb) 147/\w'.ownsRow 0 143 144 v' (n+1) (xs ++ bkC e s)/\(v'.ownBlock=(Value.slice sa n c).ownBlock\/∃ g,v'.ownBlock=some g/\w.heap.size<=g)/\Kp (fun i=>i=b\/i=mb\/(Value.slice sa n c).ownBlock=some i) w w'/\Q v2 w':=by
 have z1:=qm_ he;have z2:=qcb_ he;have z3:=qby_ hs;have z4:=qca_ hs;go_enter Tryz.func124,Tryz.ntmps124;go_upto_region 1 with fail
 generalize hw0:World.alloc _ _=v0;have hB:Bl w v0:=by rw[<-hw0];exact ba_.alloc (by simp) _
 have hE:EnAt v0 w.heap.size e:=by rw[<-hw0];exact (Has.new _ _).alloc _
 have hS:SpAt v0 (w.heap.size+1) s:=by rw[<-hw0];exact Has.new1 _ (spA s) _
 clear hw0;have hA0:Has v0 b (arA p room (.slice sa n c) mb) 147:=qd_ hB hA (Has.lt hA);have hrow0:=kp_row hrow (Kp.of (F:=fun _=>False) hB) (fun _ _ h=>h);have hbl:=Has.lt hA;have hrl:∀ k,(Value.slice sa n c).ownBlock=some k->k<w.heap.size:=fun k hk=>(row_lt hrow hk).1
 have HML:=h_ hml;have hMB:v0.heap[mb]?=w.heap[mb]?:=hB.block mb hml;have HW:Hid (w.heap.size<=v0.heap.size):=h_ hB.size;obtain ⟨bE,hbE⟩:∃ x,x=w.heap.size:=⟨_,rfl⟩;obtain ⟨bS,hbS⟩:∃ x,x=w.heap.size+1:=⟨_,rfl⟩;rw[<-hbS] at hS |-;have HB:=h_ hB;have hbE':∀ k,k<w.heap.size->k ≠ bE:=fun k hk e=>by omega
 have hbS':∀ k,k<w.heap.size->k ≠ bS:=fun k hk e=>by omega
 have HEE:Hid (bE=w.heap.size):=h_ hbE;rw[<-hbE] at hE;clear hrow hA hB hml hbS hbE;have hv0:=ar84 hA0 hp;rw[<-HEE.out];go_upto_region 2 with fail
 generalize hv1:v0=v1 at *;clear hv1;have nE1:∀ k,(Value.slice sa n c).ownBlock=some k->k ≠ bE:=fun k hk=>hbE' k (hrl k hk)
 have nS1:∀ k,(Value.slice sa n c).ownBlock=some k->k ≠ bS:=fun k hk=>hbS' k (hrl k hk)
 have nE2:=hbE' b hbl;have nS2:=hbS' b hbl;have hz:=ar84 hA0 hp;clear hbE' hbS' hrl;generalize hF:(fun i=>i=b\/(Value.slice sa n c).ownBlock=some i)=F;have fE:¬F bE:=by rw[<-hF];exact fun h=>h.elim (fun h=>nE2 h.symm) (fun h=>nE1 _ h rfl)
 have fS:¬F bS:=by rw[<-hF];exact fun h=>h.elim (fun h=>nS2 h.symm) (fun h=>nS1 _ h rfl)
 have fb:F b:=by rw[<-hF];exact .inl rfl
 have fv:∀ k,(Value.slice sa n c).ownBlock=some k->F k:=fun k hk=>by rw[<-hF];exact .inr hk
 have fm:¬F mb:=by rw[<-hF];exact fun h=>h.elim (fun h=>hbm h.symm) (fun h=>hmv _ h rfl)
 have fl:∀ i,F i->i<v1.heap.size:=fun i hi=>by
  rw[<-hF] at hi;rcases hi with rfl|hi
  exact Has.lt hA0;exact (row_lt hrow0 hi).1
 have HFE:=h_ hF;clear hF;refine qj_ (by kernel_rfl) (fun w'=>Kp F v1 w') (fun i v' _=>StR b (.slice sa n c) e s bE bS i v') (fun l a w'=>StI v1 b p room (.slice sa n c) mb n xs e s l a w') (fun _ _=>True) (fun _ _=>trivial) (fun _ _ _ _ _ _ h=>h) (by kernel_rfl) (Kp.of br_.drew) ?_ ?_ ?_;exact fun l hl=>⟨fun h=>(by rw[hl] at h;cases h),fun _=>hrow0,fun h=>(by rw[hl] at h;cases h),fun _=>Has.drew hA0,fun h=>(by rw[hl] at h;cases h)⟩
 ·intro i o lz a wx ho' hnl dq Z;have hC:=Z.c;have hI:=Z.i;have hi:i<13:=(Array.getElem?_eq_some_iff.1 ho').1;have hEx:Has wx bE (enA e) 60:=hC.has hE fE;have hSx:Has wx bS (spA s) 141:=hC.has hS fS
  have rE:wx.rangeAt bE 0 (enC e):=by
   have:=qbh_ (A:=[]) (cs:=enC e) (C:=[]) (o:=0) (w:=wx) (b:=bE) (t:=60) (by rw[List.append_nil];exact hEx) rfl;exact this
  have rS:wx.rangeAt bS 0 (spC s):=by
   have:=qbh_ (A:=[]) (cs:=spC s) (C:=[]) (o:=0) (w:=wx) (b:=bS) (t:=141) (by rw[List.append_nil];exact hSx) rfl;exact this
  have hlx:v1.heap.size<=wx.heap.size:=hC.size;obtain rfl|rfl|rfl|rfl|rfl|rfl|rfl|rfl|rfl|rfl|rfl|rfl|rfl:i=0\/i=1\/i=2\/i=3\/i=4\/i=5\/i=6\/i=7\/i=8\/i=9\/i=10\/i=11\/i=12:=by omega
  all_goals obtain rfl:=Option.some.inj ho'
  exact dv_ 0 Z (qa_ rfl) (NN.qr_ rfl) (Z.old' 0) (hI.keep 0 (hz_ Z 0));exact dv_ 1 Z (qa_ rfl) (NN.qr_ rfl) (Z.old' 0) (hI.keep 1 (hz_ Z 1));exact dv_ 2 Z (qa_ rfl) (ex_nil rfl (gd_ Z dq 1 14)) rfl (hI.keep 2 (hz_ Z 2));exact dv_ 3 Z (qa_ rfl) (qah_ rfl (gd_ Z dq 2 15) (afield2 wx b)) rfl (hI.keep 3 (hz_ Z 3));have hsz:=hz_ Z 4;have h12:=ah_ Z hnl 12;have hAx:=hI.2.2.2.1 (by rw[<-qo_ lz 4 12 hsz (by decide)];exact h12);exact dv_ 4 Z (qa_ rfl) (qif_ rfl (gd_ Z dq 3 16) (ar84 hAx hp)) rfl (hI.keep 4 hsz);exact dv_ 5 Z (qa_ rfl) (qla_ rfl (Z.old' 4) rE z2) rfl (hI.keep 5 (hz_ Z 5));exact dv_ 6 Z (qa_ rfl) (qlb_ rfl (Z.old' 5) rS z4) rfl (hI.keep 6 (hz_ Z 6));exact dv_ 7 Z (qa_ rfl) (qrf_ rfl (gd_ Z dq 5 18) (gd_ Z dq 6 19) he hs) rfl (hI.keep 7 (hz_ Z 7));have hsz:=hz_ Z 8;have h9:=ah_ Z hnl 9;have h12:=ah_ Z hnl 12;have hbx:Bl wx (wx.alloc (.cells (bkC e s).toArray 143)):=ba_;refine dm_ 8 Z (qa_ rfl) (qrg_ rfl (gd_ Z dq 7 20) (by rw[List.size_toArray,qdq_ he hs])) (hC.trans (Kp.of (F:=F) hbx) (fun i hi _=>hi)) ⟨rfl,rfl⟩ ⟨fun _ _=>⟨wx.heap.size,?_,Has.new _ _⟩,fun _=>?_,fun h=>(by rw[h9] at h;cases h),fun _=>?_,fun h=>(by rw[h12] at h;cases h)⟩;exact qch_ a 21 _ (by rw[Z.tsize];exact (show 21<33 by decide));exact kp_row (hI.2.1 (by rw[<-qo_ lz 8 9 hsz (by decide)];exact h9)) (Kp.of (F:=fun _=>False) hbx) (fun _ _ h=>h);exact Has.alloc (hI.2.2.2.1 (by rw[<-qo_ lz 8 12 hsz (by decide)];exact h12)) _
  ·have hsz:=hz_ Z 9;have h8:lz.getD 8 false=true:=dq ⟨8,.data⟩ (by simp) rfl;have h9:lz.getD 9 false=false:=hnl;have h12:=ah_ Z hnl 12;have h12':lz.getD 12 false=false:=by rw[<-qo_ lz 9 12 hsz (by decide)];exact h12
   obtain ⟨g,hg,hgh⟩:=hI.1 h8 h9;have hrx:=hI.2.1 h9;have hAx:=hI.2.2.2.1 h12';obtain ⟨v',w',hr,g1,g2,g3⟩:=qnb_ (ρ:=a.eval) (x:=.tmp 17) (y:=.tmp 21) he hs (gd_ Z dq 4 17) hrx hg hgh (by omega);refine dm_ 9 Z (qa_ rfl) (hr _ rfl rfl) (hC.trans (Kp.gb (F:=F) g2 (fun k hk=>fv k hk)) (fun i hi _=>hi)) ⟨rfl,rfl⟩ ⟨fun _ h=>(by rw[qx_ _ _ _ hsz,if_pos rfl] at h;cases h),fun h=>(by rw[qx_ _ _ _ hsz,if_pos rfl] at h;cases h),fun _ _=>⟨v',?_,g1,?_⟩,fun _=>?_,fun h=>(by rw[h12] at h;cases h)⟩;exact qch_ a 22 _ (by rw[Z.tsize];exact (show 22<33 by decide))
   ·rcases g3 with g3|g3
    exact .inl g3;exact .inr ⟨_,g3,hlx⟩
   exact (g2.block b (Has.lt hAx) (fun hk=>hbv b hk.symm rfl)).trans hAx
  exact dv_ 10 Z (qa_ rfl) (ex_nil rfl (gd_ Z dq 0 13)) rfl (hI.keep 10 (hz_ Z 10));exact dv_ 11 Z (qa_ rfl) (qah_ rfl (gd_ Z dq 10 23) (afield2 wx b)) rfl (hI.keep 11 (hz_ Z 11))
  ·have hsz:=hz_ Z 12;have h9:lz.getD 9 false=true:=dq ⟨9,.data⟩ (by simp) rfl;obtain ⟨v',hv',hr',hl'⟩:=hI.2.2.1 h9 hnl;have hAx:=hI.2.2.2.1 hnl;obtain ⟨a',m',c',rfl⟩:=qjw_ hr';have hn9:(lz.setIfInBounds 12 true).getD 9 false=true:=by rw[qo_ lz 12 9 hsz (by decide)];exact h9
   have e12:(lz.setIfInBounds 12 true).getD 12 false=true:=by rw[qx_ _ _ _ hsz,if_pos rfl]
   have nb:∀ k,(Value.slice a' m' c').ownBlock=some k->k ≠ b:=fun k hk=>by
    rcases hl' with h|⟨g,h,hg⟩
    exact hbv k (h.symm.trans hk);rw[h] at hk;have hkg:g=k:=Option.some.inj hk;have:=Has.lt hA0;omega
   have kb:Kp (fun i=>i=b) wx (wx.setCell ⟨b,84,none⟩ (.slice a' m' c')):=Kp.gb (qax_ wx b 84 _) (fun k hk=>(Option.some.inj hk).symm);refine ds_ 12 Z (qa_ rfl) (qna_ rfl (gd_ Z dq 11 24) hv' (Has.free hAx 84) (ar84 hAx hp)) (hC.trans kb (fun i hi _=>by rw[hi];exact fb)) ⟨rfl,rfl⟩ ⟨fun _ h=>(by rw[hn9] at h;cases h),fun h=>(by rw[hn9] at h;cases h),fun _ h=>(by rw[e12] at h;cases h),fun h=>(by rw[e12] at h;cases h),fun _=>⟨_,ar_set hAx hp _,?_,hl'⟩⟩;exact kp_row hr' kb fun i hi hib=>nb i hi hib
 intro lz a' v2 hall Z;have hC:=Z.c;obtain ⟨v',hA2,hrow2,hl2⟩:=Z.i.2.2.2.2 (hall 12 (by decide));have e0:a'.eval (.tmp 0) = .pointer (some ⟨b,0,none⟩):=Z.old' 0;have e4:a'.eval (.tmp 4) = .pointer (some ⟨bE,0,none⟩):=Z.old' 4;have e7:a'.eval (.tmp 7) = .int .i64 (n:Int):=Z.old' 7;obtain ⟨u,hu⟩:∃ u:Nat->Value,∀ t,u t=a'.eval (.tmp t):=⟨_,fun _=>rfl⟩;rw[qbc_ a' 33 u Z.tsize Z.defers hu];rw[<-hu] at e0 e4 e7;clear hu Z hall;simp only[List.range,List.range.loop,List.map_cons,List.map_nil];rw[e0,e4,e7];clear e0 e4 e7;have hE2:Has v2 bE (enA e) 60:=hC.has hE fE;have rI:v2.rangeAt bE 68 (Lib.byteCells e.id):=qbh_ (A:=hdC e.h) (cs:=Lib.byteCells e.id) (C:=.int .i64 e.up :: .int .i64 e.ht :: (NN.numC e.wk).toList) (o:=68) hE2 (qh_ he.1);have hM2:v2.heap[mb]?=w.heap[mb]?:=(hC.block mb (Nat.lt_of_lt_of_le HML.out HW.out) fm).trans hMB;have hl2':∀ k,v'.ownBlock=some k->k<v2.heap.size:=fun k hk=>(row_lt hrow2 hk).1
 have nbv:∀ k,v'.ownBlock=some k->k ≠ mb:=fun k hk=>by
  rcases hl2 with h|⟨g,h,hg⟩
  exact hmv k (h.symm.trans hk);rw[h] at hk;have hkg:g=k:=Option.some.inj hk;have:=HML.out;have:=HW.out;omega
 have hl3:v'.ownBlock=(Value.slice sa n c).ownBlock\/∃ g,v'.ownBlock=some g/\w.heap.size<=g:=by
  rcases hl2 with h|⟨g,h,hg⟩
  exact .inl h;exact .inr ⟨g,h,Nat.le_trans HW.out hg⟩
 have HA2:=h_ hA2;have HR2:=h_ hrow2;have HK:=h_ ((Kp.of (F:=F) HB.out).trans hC (fun i hi _=>hi));have cb:=ar85 hA2 hp;clear hC hA0 hrow0 hz hl2 hl2' hE2 hS hrow2 hA2 hE;obtain ⟨v3,hrun,hQ,hg3⟩:=KM.out v2.drew (by rw[<-hM2];rfl);go_upto_region 3 with fail
 refine qj_ (by kernel_rfl) (fun _=>True) (fun i v' _=>MuR b mb bE e n i v') (fun l _ w'=>Ph 7 (fun w'=>w'=v2.drew) (fun w'=>w'=v3) l w') (fun _ _=>True) (fun _ _=>trivial) (fun _ _ _ _ _ _ h=>h) (by kernel_rfl) trivial ?_ ?_ ?_;exact fun l hl=>Ph.zero hl rfl
 ·intro i o lz a wx ho' hnl dq Z;have hC:=Z.c;have hI:=Z.i;have hi:i<8:=(Array.getElem?_eq_some_iff.1 ho').1;obtain rfl|rfl|rfl|rfl|rfl|rfl|rfl|rfl:i=0\/i=1\/i=2\/i=3\/i=4\/i=5\/i=6\/i=7:=by omega
  all_goals obtain rfl:=Option.some.inj ho'
  exact dv_ 0 Z (qa_ rfl) (NN.qr_ rfl) (Z.old' 0) (hI.keep (hz_ Z 0));exact dv_ 1 Z (qa_ rfl) (ex_nil rfl (gd_ Z dq 0 25)) rfl (hI.keep (hz_ Z 1));exact dv_ 2 Z (qa_ rfl) (qah_ rfl (gd_ Z dq 1 26) (afield3 wx b)) rfl (hI.keep (hz_ Z 2));have hsz:=hz_ Z 3;have hw:wx=v2.drew:=hI.pre (ai_ Z hnl 7) hsz (by decide);exact dv_ 3 Z (qa_ rfl) (qre_ rfl (gd_ Z dq 2 27) (by rw[hw];exact cb)) rfl (hI.keep hsz);exact dv_ 4 Z (qa_ rfl) (qah_ rfl (Z.old' 4) (efield1 wx bE)) rfl (hI.keep (hz_ Z 4));have hsz:=hz_ Z 5;have hw:wx=v2.drew:=hI.pre (ai_ Z hnl 7) hsz (by decide);exact dv_ 5 Z (qa_ rfl) (qvv_ rfl (gd_ Z dq 4 29) (by rw[hw];exact rI) he.2) rfl (hI.keep hsz);exact dv_ 6 Z (qa_ rfl) (NN.qr_ rfl) (Z.old' 7) (hI.keep (hz_ Z 6));have hsz:=hz_ Z 7;have hw:wx=v2.drew:=hI.1 hnl;exact ds_ 7 Z (qa_ rfl) (qaah_ rfl (gd_ Z dq 3 28) (gd_ Z dq 5 30) (gd_ Z dq 6 31) (by rw[hw];exact hrun)) trivial rfl (Ph.last hsz rfl)
 intro lz a' w4 hall Z;obtain rfl:=Z.i.2 (hall 7 (by decide));have e7:a'.eval (.tmp 7) = .int .i64 (n:Int):=Z.old' 7;obtain ⟨u,hu⟩:∃ u:Nat->Value,∀ t,u t=a'.eval (.tmp t):=⟨_,fun _=>rfl⟩;rw[qbc_ a' 33 u Z.tsize Z.defers hu];rw[<-hu] at e7;clear hu Z hall;simp only[List.range,List.range.loop,List.map_cons,List.map_nil];rw[e7];clear e7;have hK3:Kp (fun i=>i=mb) v2 w4:=(Kp.of (F:=fun i=>i=mb) (Below.refl _ v2).drew).trans (Kp.gb hg3 (fun k hk=>(Option.some.inj hk).symm)) (fun i hi _=>hi);have hA4:=hK3.has HA2.out (fun e=>hbm e);have hR4:=kp_row HR2.out hK3 (fun i hi e=>nbv i hi e);have HK4:Kp (fun i=>i=b\/i=mb\/(Value.slice sa n c).ownBlock=some i) w w4:=(HK.out.mono (fun i hi _=>by rw[<-HFE.out] at hi;exact hi.elim .inl (fun h=>.inr (.inr h)))).trans hK3 (fun i hi _=>.inr (.inl hi));go_wp2_with fail
 go_ret;exact ⟨v',_,rfl,hA4,hR4,hl3,HK4,hQ⟩
section
variable {ρ:Operand->Value} {o:Oper} {w:World}
variable {x:Operand} {g off:Nat}
theorem qft_ {T:TypeId} {n m:Nat} (ho:o.op = .fieldAddr T x n) (hx:ρ x = .pointer (some ⟨g,off,none⟩)) (hf:(Instr.fieldAt T (.pointer (some ⟨g,off,none⟩)) n).run Tryz.prog w = .ok (.pointer (some ⟨g,m,none⟩)) w):(execOp ρ o).run Tryz.prog w = .ok (.value (.pointer (some ⟨g,m,none⟩))) w:=by
 unfold execOp;simp only[ho,hx,Sem.run_bind,hf,Result.andThen_ok];rfl
theorem pfield9 (w:World) (g:Nat):(Instr.fieldAt 32 (pp_ g) 9).run Tryz.prog w = .ok (.pointer (some ⟨g,15,none⟩)) w:=by kernel_rfl
theorem hfield4o (w:World) (g:Nat):(Instr.fieldAt 30 (.pointer (some ⟨g,15,none⟩)) 4).run Tryz.prog w = .ok (.pointer (some ⟨g,81,none⟩)) w:=by kernel_rfl
theorem qbr_ {h:Hd} (ho:o.op = .load 30 x) (hx:ρ x = .pointer (some ⟨g,off,none⟩)) (hg:w.rangeAt g off (hdC h)) (hs:(hdC h).length=68):(execOp ρ o).run Tryz.prog w = .ok (.value (.agg (hdA h))) w :=
 ex_mid 30 ho hx Tryz.underlying30 rfl (hdinfo.trans (by rw[hs])) hg
variable {e:En}
theorem qnd_ {x0 x1 x2 x4:Operand} (ho:o.op = .build 60 #[(0,x0),(1,x1),(2,x2),(4,x4)]) (he:e.ok) (h0:e.ht=0) (hx0:ρ x0 = .agg (hdA e.h)) (hx1:ρ x1 = .agg (bytesV e.id)) (hx2:ρ x2 = i_ e.up) (hx4:ρ x4 = .agg (NN.numC e.wk)):(execOp ρ o).run Tryz.prog w = .ok (.value (.agg (enA e))) w:=by
 unfold execOp;simp only[ho,Sem.run_bind];rw[show (#[(0,x0),(1,x1),(2,x2),(4,x4)]:Array (Nat × Operand)).map (fun (i,x)=>(i,ρ x))=#[(0,.agg (hdA e.h)),(1,.agg (bytesV e.id)),(2,i_ e.up),(4,.agg (NN.numC e.wk))] by simp[hx0,hx1,hx2,hx4],run_build w 60 _ _ (qaad_ e he h0)];rfl
theorem qig_ {y:Operand} {cs:Array Value} (ho:o.op = .store 60 x y) (hx:ρ x = pp_ g) (hy:ρ y = .agg (enA e)) (hg:Has w g cs 60) (hs:cs.size=106) (hs':(enA e).size=106):(execOp ρ o).run Tryz.prog w = .ok .skip (w.setRow g (enA e)):=by
 unfold execOp;simp only[ho,hx,hy,Instr.storeAt,Instr.sureAddr,Sem.run_bind,Sem.run_pure,Result.andThen_ok,run_storeVar_row w g 60 60 cs (enA e) (Has.out hg) (eninfo.trans (by rw[hs'])) (by rw[hs,hs']) (qadu_ e)]
end
theorem qlc_ {w:World} {g o:Nat} {h:Hd} (ho:h.ok) (hr:w.rangeAt g o (hdC h)):w.cell? ⟨g,o+66,none⟩=some (i_ h.bits):=hr 66 _ (qim_ ho 1)
def GnR (bP bR:Nat) (e:En):Nat->Value->Prop
 | 0,u=>u = .pointer (some ⟨bP,15,none⟩)
 | 1,u=>u = .agg (hdA e.h)
 | 2,u=>u = .pointer (some ⟨bP,15,none⟩)
 | 3,u=>u = .agg (hdA e.h)
 | 4,u=>u = .agg (bytesV e.id)
 | 5,u=>u = .pointer (some ⟨bP,15,none⟩)
 | 6,u=>u = .pointer (some ⟨bP,81,none⟩)
 | 7,u=>u = i_ e.h.bits
 | 8,u=>u = .agg (NN.numC e.wk)
 | 9,u=>u = .agg (enA e)
 | _,_=>bR=bR
theorem qaal_ (p:NN.Pr) (t:Tl) (tt:p.tl=t.C) (ht:t.ok) (e:En) (he:e.ok) (h0:e.ht=0) (hu:e.up = -1) (hg:e.h=t.g) (w:World)
  (KI:HK_ w 119 #[.agg (hdA e.h)] (.agg (bytesV e.id)))
  (KW:Hid (∀w',Ca_ 123 #[.int .i64 e.h.bits] w' (.agg (NN.numC e.wk)))) :
  Ca_ 140 #[.agg (NN.prA p)] w (.agg (enA e)):=by
 have z0:=qm_ enZ_ok;have z1:=qm_ he;have z2:=qh_ he.1;go_enter Tryz.func140,Tryz.ntmps140;go_upto_region 1 with fail
 generalize hw0:World.alloc _ _=v0;have hB:Bl w v0:=by rw[<-hw0];exact ba_.alloc (by simp) _
 have hP:NN.PrAt v0 w.heap.size p:=by rw[<-hw0];exact (NN.Has.new _ _).alloc _
 have hR:EnAt v0 (w.heap.size+1) enZ:=by rw[<-hw0];exact Has.new1 _ (enA enZ) _
 clear hw0;obtain ⟨bP,hbP⟩:∃ x,x=w.heap.size:=⟨_,rfl⟩;obtain ⟨bR,hbR⟩:∃ x,x=w.heap.size+1:=⟨_,rfl⟩;rw[<-hbR] at hR |-;rw[<-hbP] at hP |-;have hlt:bR<v0.heap.size:=Has.lt hR;have n1:bP ≠ bR:=by omega
 have HBR:Hid (w.heap.size<=bR):=h_ (by omega);have HBP:Hid (bP=w.heap.size):=h_ hbP;clear hbP hbR;refine qj_ (by kernel_rfl) (fun w'=>Bl w w'/\NN.PrAt w' bP p) (fun i v' _=>GnR bP bR e i v') (fun l _ w'=>Ph 10 (fun w'=>EnAt w' bR enZ) (fun w'=>EnAt w' bR e) l w') (fun _ _=>True) (fun _ _=>trivial) (fun _ _ _ _ _ _ h=>h) (by kernel_rfl) ⟨hB.trans (br_.drew.mono hB.size),Has.drew hP⟩ ?_ ?_ ?_;exact fun l hl=>Ph.zero hl (Has.drew hR)
 ·intro i o lz a wx ho' hnl dq Z;have hC:=Z.c;have hI:=Z.i;have hi:i<11:=(Array.getElem?_eq_some_iff.1 ho').1;have rP:wx.rangeAt bP 15 (hdC e.h):=by rw[hg];exact pr_gen hC.2 tt ht
  have rB:=qlc_ he.1 rP;obtain rfl|rfl|rfl|rfl|rfl|rfl|rfl|rfl|rfl|rfl|rfl:i=0\/i=1\/i=2\/i=3\/i=4\/i=5\/i=6\/i=7\/i=8\/i=9\/i=10:=by omega
  all_goals obtain rfl:=Option.some.inj ho'
  exact dv_ 0 Z (qa_ rfl) (qah_ rfl (Z.old' 1) (pfield9 wx bP)) rfl (hI.keep (hz_ Z 0));exact dv_ 1 Z (qa_ rfl) (qbr_ rfl (gd_ Z dq 0 3) rP z2) rfl (hI.keep (hz_ Z 1));exact dv_ 2 Z (qa_ rfl) (qah_ rfl (Z.old' 1) (pfield9 wx bP)) rfl (hI.keep (hz_ Z 2));exact dv_ 3 Z (qa_ rfl) (qbr_ rfl (gd_ Z dq 2 5) rP z2) rfl (hI.keep (hz_ Z 3))
  ·have hsz:=hz_ Z 4;have hnK:=ah_ Z hnl 10;have hpre:=hI.pre hnK hsz (by decide);exact dC_ (S:=T2_) 4 Z (qa_ rfl) (f:=119) (args:=#[a.eval (.tmp 6)]) (by kernel_rfl) (by rw[show a.eval (.tmp 6)=_ from (gd_ Z dq 3 6)];  exact KI.out wx hC.1) (fun w' hb=>⟨⟨tb_ hC.1 hb,NN.PrAt.on hC.2 hb⟩,trivial,rfl,Ph.made hnK (EnAt.on hpre hb)⟩)
  exact dv_ 5 Z (qa_ rfl) (qah_ rfl (Z.old' 1) (pfield9 wx bP)) rfl (hI.keep (hz_ Z 5));exact dv_ 6 Z (qa_ rfl) (qft_ rfl (gd_ Z dq 5 8) (hfield4o wx bP)) rfl (hI.keep (hz_ Z 6));exact dv_ 7 Z (qa_ rfl) (NN.qbj_ rfl (gd_ Z dq 6 9) rB) rfl (hI.keep (hz_ Z 7))
  ·have hsz:=hz_ Z 8;have hnK:=ah_ Z hnl 10;have hpre:=hI.pre hnK hsz (by decide);exact dC_ (S:=T2_) 8 Z (qa_ rfl) (f:=123) (args:=#[a.eval (.tmp 10)]) (by kernel_rfl) (by rw[show a.eval (.tmp 10)=_ from (gd_ Z dq 7 10)];  exact KW.out wx) (fun w' hb=>⟨⟨tb_ hC.1 hb,NN.PrAt.on hC.2 hb⟩,trivial,rfl,Ph.made hnK (EnAt.on hpre hb)⟩)
  exact dv_ 9 Z (qa_ rfl) (qnd_ rfl he h0 (gd_ Z dq 1 4) (gd_ Z dq 4 7) (by rw[hu];rfl) (gd_ Z dq 8 11)) rfl (hI.keep (hz_ Z 9));have hsz:=hz_ Z 10;have hR0:=hI.1 hnl;exact ds_ 10 Z (qa_ rfl) (qig_ rfl (Z.old' 2) (gd_ Z dq 9 12) hR0 z0 z1) ⟨below_setRow hC.1 HBR.out _,NN.Has.otherRow hC.2 _ _ n1⟩ rfl (Ph.last hsz (Has.row hR0 _))
 intro lz a' v1 hall Z;have hC:=Z.c;have hE:=Z.i.2 (hall 10 (by decide));have e2:a'.eval (.tmp 2) = .pointer (some ⟨bR,0,none⟩):=Z.old' 2;obtain ⟨u,hu⟩:∃ u:Nat->Value,∀ t,u t=a'.eval (.tmp t):=⟨_,fun _=>rfl⟩;rw[qbc_ a' 13 u Z.tsize Z.defers hu];rw[<-hu] at e2;clear hu Z hall;simp only[List.range,List.range.loop,List.map_cons,List.map_nil];rw[e2];clear e2;go_wp2_with fail
 refine bodyPost_ret (qvt_ Tryz.results140 _ _ rfl hE z1) rfl ⟨rfl,hC.1⟩
end Go.Proofs.YtkbjaadjnbgfbaaGreatDoor.An
namespace Go.Proofs.YtkbjaadjnbgfbaaGreatDoor.An
open Go.RowKit Mem Sc
open Ar (Ent Ru entZ)
variable {w:World}
theorem Sup.clip {lo:Nat} {P:World->Prop} (h:Sup (fun i=>lo<=i) P w):Sup (fun i=>lo<=i/\i<w.heap.size) P w:=fun w' k=>h w' (k.mono fun _ hi hl=>fun h=>hi ⟨h,hl⟩)
variable {I:Nat->Prop} {b room mb:Nat} {p:NN.Pr} {t:Tl} {gs:List Gt} {cs:List Ck}
theorem qvy_ {v:Value} {L:List Bk} (h:Ara w I b p t gs cs room v mb L) (x:Bk) (he:x.e.ok) (hs:x.s.ok) (J:Nat->Prop) (hJ:Sup J (fun w=>SpIs w 0 x.s x.q) w) (hJl:∀ i,J i->i<w.heap.size) (hJb:∀ i,J i->¬(i=b\/i=mb\/v.ownBlock=some i)) (hn:L.length<=900) (hf:(L.map (·.e.id)).findIdx? (· == x.e.id)=none) :
  Cl_ 124 #[pp_ b,.agg (enA x.e),.agg (spA x.s)] w fun r w'=>∃ v',r = .returned (i_ (L.length:Nat))/\Ara w' (fun i=>I i\/J i) b p t gs cs room v' mb (L ++ [x])/\Kp (fun i=>i=b\/i=mb\/v.ownBlock=some i) w w'/\(v'.ownBlock=v.ownBlock\/∃ g,v'.ownBlock=some g/\w.heap.size<=g):=by
 obtain ⟨sa,c,rfl⟩:=h.slice;refine (store_w b p h.pok room sa L.length c mb (rowC L) x.e he x.s hs hn w h.has h.row (fun k hk=>h.b_ne_v hk) h.b_ne_mb (fun _ v3=>MapIs v3 mb (L.map (·.e.id) ++ [x.e.id])) ?_ (fun k hk=>h.mb_ne_v hk) h.map.lt).mono ?_
 ·refine h_ fun v2 hv2=>?_
  obtain ⟨w',h1,h2,h3⟩:=(h.map.on hv2).put he.2 hf (by rw[List.length_map];omega) L.length (by rw[List.length_map]);exact ⟨w',h1,h2,h3⟩
 ·rintro r w' ⟨v',v2,rfl,hA,hR,hl,hK,hM⟩
  have hI:∀ i,I i->¬(i=b\/i=mb\/(Value.slice sa L.length c).ownBlock=some i):=fun i hi e=>by
   rcases e with rfl|rfl|e
   exact h.nb hi;exact h.nm hi;exact h.nv _ e hi
  refine ⟨v',rfl,?_,hK,hl⟩;refine { has:=hA,pok:=h.pok,one:=h.one,tt:=h.tt,tok:=h.tok,gn:=h.gn,cn:=h.cn,row:=?_,map:=?_,gates:=?_,checks:=?_,spots:=?_,nb:=?_,nm:=?_,nv:=?_,lt:=?_,good:=?_ };rw[qaia_,List.length_append];exact hR;rw[List.map_append];exact hM;exact (h.gates.on hK hI).wide fun i hi=>.inl hi
  exact (h.checks.on hK hI).wide fun i hi=>.inl hi
  ·intro y hy;rcases List.mem_append.1 hy with hy|hy
   exact ((h.spots y hy).on hK hI).wide fun i hi=>.inl hi
   obtain rfl:y=x:=(by simpa using hy);exact (hJ.on hK hJb).wide fun i hi=>.inr hi
  exact fun e=>e.elim h.nb fun e=>hJb b e (.inl rfl)
  exact fun e=>e.elim h.nm fun e=>hJb mb e (.inr (.inl rfl))
  ·intro k hk e;rcases hl with hl|⟨g,hl,hg⟩
   exact e.elim (h.nv k (hl.symm.trans hk)) fun e=>hJb k e (.inr (.inr (hl.symm.trans hk)))
   rw[hl] at hk;have hkg:g=k:=Option.some.inj hk;have:k<w.heap.size:=e.elim (h.lt k) (hJl k);omega
  exact fun i hi=>Nat.lt_of_lt_of_le (hi.elim (h.lt i) (hJl i)) hK.size
  ·intro y hy;rcases List.mem_append.1 hy with hy|hy
   exact h.good y hy;obtain rfl:y=x:=(by simpa using hy);exact ⟨he,hs⟩
theorem Ara.made (hA:Has w b (arA p room (.slice none 0 0) mb) 147) (pok:p.ok) (one:p.one) (tt:p.tl=t.C) (tok:t.ok) (gn:t.gn=gs.length) (cn:t.cn=cs.length) (hM:MapIs w mb []) (hG:Sup I (fun w=>GatesAt w t.ga gs) w) (hC:Sup I (fun w=>ChecksAt w t.ca cs) w) (nb:¬I b) (nm:¬I mb) (hl:∀ i,I i->i<w.heap.size):Ara w I b p t gs cs room (.slice none 0 0) mb [] :=
 { has:=hA,pok:=pok,one:=one,tt:=tt,tok:=tok,gn:=gn,cn:=cn,row:=World.ownsRow_nil _ _ _ _,map:=hM,gates:=hG,checks:=hC,spots:=fun x hx=>(by cases hx),nb:=nb,nm:=nm,nv:=fun k hk=>(by cases hk),lt:=hl,good:=fun x hx=>(by cases hx) }
open NN.Rg2
variable {ops:Array Oper} {o:Oper} {a:Act} {Q:Exit->Act->World->Prop}
theorem qail_ {rest:List Oper} (hgd:o.guard=none) (x0 x1 x3:Operand) (ho:o.op = .build 147 #[(0,x0),(1,x1),(3,x3)]) (p:NN.Pr) (hp:p.ok) (room mb:Nat) (h0:a.eval x0 = .agg (NN.prA p)) (h1:a.eval x1 = i_ room) (h3:a.eval x3 = .map (some mb))
  (hk:wpList Tryz.prog ops Q rest (a.put o.dst (.agg (arA p room (.slice none 0 0) mb))) w):wpList Tryz.prog ops Q (o :: rest) a w :=
 wpList_plain hgd fun _ hK=>by
  unfold Oper.wp execOp;simp only[ho,Sem.run_bind];rw[show (#[(0,x0),(1,x1),(3,x3)]:Array (Nat × Operand)).map (fun (i,x)=>(i,a.eval x))=#[(0,.agg (NN.prA p)),(1,i_ room),(3,.map (some mb))] by simp[h0,h1,h3],run_build w 147 _ _ (qrc_ p hp room mb)];exact hK _ _ hk
variable {P:Program} {C:World->Prop} {S:World->World->Prop} {f:FuncId} {args:Array Value}
theorem qld_ {R:Value->World->Prop} {J:Act->World->Prop} (hn:Region.wanted o (yielded ops a.tmps)=true) (h:(execOp a.eval o).run P w = .ok (.enter f args) w) (hcall:Calls P f args w fun e w'=>∃ v,e = .returned v/\C w'/\S w w'/\R v w'/\J (a.put o.dst v) w') :
  if Region.wanted o (yielded ops a.tmps)=true then o.wp P a w (fun a' w'=>C w'/\S w w'/\∃ v,a'=a.put o.dst v/\R v w'/\J a' w') Q else R undef w/\J (a.put o.dst undef) w:=by
 rw[if_pos hn];unfold Oper.wp;rw[h];refine Calls.mono hcall fun e w' he=>?_
 obtain ⟨v,rfl,h1,h2,h3,h4⟩:=he;exact ⟨h1,h2,v,rfl,h3,h4⟩
theorem dA_ {a0:Act} {R:Nat->Value->World->Prop} {I:Array Bool->Act->World->Prop} {lz:Array Bool} (i:Nat) (_hinv:RInv .any ops a0 C R I lz a w) (hn:Region.wanted o (yielded ops a.tmps)=true) (h:(execOp a.eval o).run P w = .ok (.enter f args) w) (hcall:Calls P f args w fun e w'=>∃ v,e = .returned v/\C w'/\S w w'/\R i v w'/\I (lz.setIfInBounds i true) (a.put o.dst v) w'):if Region.wanted o (yielded ops a.tmps)=true then o.wp P a w (fun a' w'=>C w'/\S w w'/\∃ v,a'=a.put o.dst v/\R i v w'/\I (lz.setIfInBounds i true) a' w') Q else R i undef w/\I (lz.setIfInBounds i true) (a.put o.dst undef) w :=
 qld_ (S:=S) (C:=C) (R:=R i) (J:=fun a' w'=>I (lz.setIfInBounds i true) a' w') hn h hcall
def NwR (v1:World) (bA:Nat) (p:NN.Pr) (e:En) (q:Ps):Nat->Value->World->Prop
 | 0,u,_=>u = pp_ bA
 | 1,u,_=>u = .agg (NN.prA p)
 | 2,u,_=>u = .agg (enA e)
 | 3,u,_=>u = .agg (NN.prA p)
 | 4,u,w=>∃ s:Sp,u = .agg (spA s)/\s.ok/\Sup (fun i=>v1.heap.size<=i) (fun w=>SpIs w 0 s q) w
 | _,_,_=>bA=bA
theorem qaam_ {v1:World} {bA:Nat} {e:En} {q:Ps} {G:Nat->Prop} (hG:∀ i,G i->i<v1.heap.size):∀ (i:Nat) (u:Value) (w w':World),Kp G w w'->NwR v1 bA p e q i u w->NwR v1 bA p e q i u w'
 | 0,_,_,_,_,h=>h
 | 1,_,_,_,_,h=>h
 | 2,_,_,_,_,h=>h
 | 3,_,_,_,_,h=>h
 | 4,_,_,_,hk,⟨s,h1,h2,h3⟩=>⟨s,h1,h2,h3.on hk fun i hi hg=>absurd (hG i hg) (by omega)⟩
 | _+5,_,_,_,_,h=>h
theorem new_w (p:NN.Pr) (hp:p.ok) (t:Tl) (room m1:Int) (R:Nat) (hm1:m1=max room 1) (hR:(R:Int)=min m1 512) (gs:List Gt) (cs:List Ck) (e:En) (he:e.ok) (q:Ps) (q32:q.prev.length=32) (w:World)
  (KG:HK_ w 138 #[.agg (NN.prA p)] (.bool true))
  (KC:Hid (∀w',Below w.heap.size w w'->Cl_ 139 #[.agg (NN.prA p)] w' fun e w''=>∃ (p':NN.Pr) (t':Tl),e = .returned (.agg (NN.prA p'))/\(p'.ok/\p'.one/\p'.tl=t'.C/\t'.ok/\t'.gn=gs.length/\t'.cn=cs.length/\p'.lim=p.lim/\p'.ivl=p.ivl/\p'.spc=p.spc/\p'.fut=p.fut/\p'.easy=p.easy/\t'.g=t.g)/\Sup (fun i=>w'.heap.size<=i) (fun w=>GatesAt w t'.ga gs) w''/\Sup (fun i=>w'.heap.size<=i) (fun w=>ChecksAt w t'.ca cs) w''/\Below w'.heap.size w' w''))
  (KE:Hid (∀w',Below w.heap.size w w'->Ca_ 140 #[.agg (NN.prA p)] w' (.agg (enA e))))
  (KB:Hid (∀w',Below w.heap.size w w'->Cl_ 141 #[.agg (NN.prA p)] w' fun r w''=>∃ s,r = .returned (.agg (spA s))/\(spA s).size=38/\SpIs w'' w'.heap.size s q/\Below w'.heap.size w' w'')) :
  Cl_ 105 #[.agg (NN.prA p),.int .i64 room] w fun r w'=>∃ b I p' t' v mb x,r = .returned (.tuple #[.pointer (some ⟨b,0,none⟩),.int .i64 0])/\Ara w' I b p' t' gs cs R v mb [x]/\x.e=e/\x.q=q/\(p'.lim=p.lim/\p'.ivl=p.ivl/\p'.spc=p.spc/\p'.fut=p.fut/\p'.easy=p.easy/\t'.g=t.g)/\(∀i,Mine I b v mb i->w.heap.size<=i)/\Below w.heap.size w w':=by
 have hz:=NN.qav_ hp;go_enter Tryz.func105,Tryz.ntmps105;go_upto_region 1 with fail
 generalize hw0:World.alloc _ _=v0;have hB:Below w.heap.size w v0:=bl_ hw0;have hP:NN.PrAt v0 w.heap.size p:=by rw[<-hw0];exact NN.Has.new _ _
 have hs0:w.heap.size+1<=v0.heap.size:=by rw[<-hw0];simp
 clear hw0;obtain ⟨bP,hbP⟩:∃ x,x=w.heap.size:=⟨_,rfl⟩;rw[<-hbP] at hP |-;have HBP:Hid (bP=w.heap.size):=h_ hbP;clear hbP;go_wp2_with (first|fail|(with_reducible refine NN.qq_ rfl _ rfl _ rfl hP hz ?_))
 refine (KG.out _ hB).mono ?_;rintro r v1 ⟨rfl,hb⟩;replace hP:=hP.on hb;replace hB:=tb_ hB hb;have hs1:w.heap.size+1<=v1.heap.size:=Nat.le_trans hs0 hb.size;clear hb hs0;go_wp2_with (first|fail|(with_reducible refine NN.qq_ rfl _ rfl _ rfl hP hz ?_))
 refine (KC.out _ hB).mono ?_;rintro r v2 ⟨p',t',rfl,⟨p1,p2,p3,p4,p5,p6,a1,a2,a3,a4,a5,a6⟩,hG,hC,hb⟩;replace hP:=hP.on hb;replace hB:=tb_ hB hb;have hs2:w.heap.size+1<=v2.heap.size:=Nat.le_trans hs1 hb.size;have HS12:Hid (v1.heap.size<=v2.heap.size):=h_ hb.size;have HS1:=h_ hs1;clear hb hs1;have hmax:=NN.max_is (P:=Tryz.prog) room 1 m1 hm1;have hmin:=NN.min_is (P:=Tryz.prog) m1 512 (R:Int) hR;clear hm1 hR;have hmk:∀ w:World,(Instr.makeMap 145 none).run Tryz.prog w = .ok (.map (some w.heap.size)) (w.alloc (.map #[] 0)):=fun _=>by kernel_rfl
 go_upto_region 4 with (with_reducible first|refine NN.qq_ rfl _ rfl _ rfl hP hz ?_|refine qail_ rfl _ _ _ rfl p' p1 R v2.heap.size rfl rfl rfl ?_)
 have hMz:(v2.alloc (.map #[] 0)).heap.size=v2.heap.size+1:=by simp
 have hA3:Has ((v2.alloc (.map #[] 0)).alloc (.cells (arA p' R (.slice none 0 0) v2.heap.size) 147)) (v2.heap.size+1) (arA p' R (.slice none 0 0) v2.heap.size) 147:=by rw[<-hMz];exact Has.new _ _
 have hb3:Below v2.heap.size v2 ((v2.alloc (.map #[] 0)).alloc (.cells (arA p' R (.slice none 0 0) v2.heap.size) 147)):=ba_.alloc (by simp) _;have hM3:MapIs ((v2.alloc (.map #[] 0)).alloc (.cells (arA p' R (.slice none 0 0) v2.heap.size) 147)) v2.heap.size []:=(MapIs.made v2).on (heap_alloc_old _ _ (by simp));obtain ⟨mb,hmb⟩:∃ x,x=v2.heap.size:=⟨_,rfl⟩;obtain ⟨bA,hbA⟩:∃ x,x=v2.heap.size+1:=⟨_,rfl⟩;rw[<-hbA] at hA3 |-;rw[<-hmb] at hA3 hM3 hb3 |-;have hs3:((v2.alloc (.map #[] 0)).alloc (.cells (arA p' R (.slice none 0 0) mb) 147)).heap.size=v2.heap.size+2:=by simp
 generalize hv3:World.alloc (World.alloc v2 _) _=v3 at *;have hA:Ara v3 (fun i=>v1.heap.size<=i/\i<v2.heap.size) bA p' t' gs cs R (.slice none 0 0) mb []:=Ara.made hA3 p1 p2 p3 p4 p5 p6 hM3 (hG.clip.on (G:=fun _=>False) (Kp.of (by first|exact hmb ▸ hb3|(unfold Bl;exact hmb ▸ hb3))) (fun _ _ h=>h)) (hC.clip.on (G:=fun _=>False) (Kp.of (by first|exact hmb ▸ hb3|(unfold Bl;exact hmb ▸ hb3))) (fun _ _ h=>h)) (fun h=>by omega) (fun h=>by omega) (fun i hi=>by rw[hs3];omega);have hP3:NN.PrAt v3 bP p:=hP.on (by first|exact hmb ▸ hb3|(unfold Bl;exact hmb ▸ hb3));have hB3:Below w.heap.size w v3:=hB.trans (hb3.mono (by rw[hmb];exact hB.size));have HF:Hid (∀i,(i=bA\/i=mb)->i<v3.heap.size):=h_ fun i hi=>by rw[hs3];omega
 have HL:Hid (w.heap.size<=v1.heap.size/\w.heap.size<=mb/\w.heap.size<=bA/\w.heap.size<=v3.heap.size/\bP ≠ bA/\bP ≠ mb):=h_ (by rw[hs3];have:=HS1.out;have:=HBP.out;omega);clear hA3 hM3 hb3 hs3 hMz hmk hmax hmin hG hC hP hB hmb hbA hv3;refine qj_ (by kernel_rfl) (fun w'=>(Below w.heap.size w w'/\v3.heap.size<=w'.heap.size)/\NN.PrAt w' bP p) (fun i v' w'=>NwR v3 bA p e q i v' w') (fun l _ w'=>Ph 5 (fun w'=>Ara w' (fun i=>v1.heap.size<=i/\i<v2.heap.size) bA p' t' gs cs R (.slice none 0 0) mb []) (fun w'=>∃ I v x,Ara w' I bA p' t' gs cs R v mb [x]/\x.e=e/\x.q=q/\∀ i,Mine I bA v mb i->w.heap.size<=i) l w') (fun w w'=>Kp (fun i=>i=bA\/i=mb) w w') (fun w' _=>Kp.refl _ w') (fun i v w w' _ hs h=>qaam_ HF.out i v w w' hs h) (by kernel_rfl) ⟨⟨hB3.trans (br_.drew.mono hB3.size),(Below.refl v3.heap.size v3).drew.size⟩,NN.Has.drew hP3⟩ ?_ ?_ ?_;exact fun l hl=>Ph.zero hl (hA.below br_.drew)
 ·intro i o lz a wx ho' hnl dq Z;have hC:=Z.c;have hI:=Z.i;have hi:i<6:=(Array.getElem?_eq_some_iff.1 ho').1;obtain rfl|rfl|rfl|rfl|rfl|rfl:i=0\/i=1\/i=2\/i=3\/i=4\/i=5:=by omega
  all_goals obtain rfl:=Option.some.inj ho'
  exact dV_ (S:=fun w w'=>Kp (fun i=>i=bA\/i=mb) w w') (fun w' _=>Kp.refl _ w') 0 Z (qa_ rfl) (NN.qr_ rfl) (Z.old' 6) (hI.keep (hz_ Z 0));exact dV_ (S:=fun w w'=>Kp (fun i=>i=bA\/i=mb) w w') (fun w' _=>Kp.refl _ w') 1 Z (qa_ rfl) (NN.qgn_ rfl (Z.old' 2) hC.2 hz) rfl (hI.keep (hz_ Z 1))
  ·have hsz:=hz_ Z 2;have hnK:=ah_ Z hnl 5;have hpre:=hI.pre hnK hsz (by decide);exact dC_ (S:=fun w w'=>Kp (fun i=>i=bA\/i=mb) w w') 2 Z (qa_ rfl) (f:=140) (args:=#[a.eval (.tmp 19)]) (by kernel_rfl) (by rw[show a.eval (.tmp 19)=_ from (gd_ Z dq 1 19)];  exact KE.out wx hC.1.1) (fun w' hb=>⟨⟨⟨tb_ hC.1.1 hb,Nat.le_trans hC.1.2 hb.size⟩,NN.PrAt.on hC.2 hb⟩,Kp.of hb,rfl,Ph.made hnK (hpre.below hb)⟩)
  exact dV_ (S:=fun w w'=>Kp (fun i=>i=bA\/i=mb) w w') (fun w' _=>Kp.refl _ w') 3 Z (qa_ rfl) (NN.qgn_ rfl (Z.old' 2) hC.2 hz) rfl (hI.keep (hz_ Z 3))
  ·have hsz:=hz_ Z 4;have hnK:=ah_ Z hnl 5;have hpre:=hI.pre hnK hsz (by decide)
   exact qdo_ (V:=fun v w'=>∃ s,v = .agg (spA s)/\(spA s).size=38/\SpIs w' wx.heap.size s q) (C:=(fun w'=>(Below w.heap.size w w'/\v3.heap.size<=w'.heap.size)/\NN.PrAt w' bP p)) (S:=(fun w w'=>Kp (fun i=>i=bA\/i=mb) w w')) (R:=fun v' w'=>NwR v3 bA p e q 4 v' w') (J:=fun _ w'=>Ph 5 (fun w'=>Ara w' (fun i=>v1.heap.size<=i/\i<v2.heap.size) bA p' t' gs cs R (.slice none 0 0) mb []) (fun w'=>∃ I v x,Ara w' I bA p' t' gs cs R v mb [x]/\x.e=e/\x.q=q/\∀ i,Mine I bA v mb i->w.heap.size<=i) (lz.setIfInBounds 4 true) w') (qa_ rfl) (f:=141) (args:=#[a.eval (.tmp 21)]) (by kernel_rfl) (by
    rw[show a.eval (.tmp 21)=_ from (gd_ Z dq 3 21)];refine (KB.out wx hC.1.1).mono ?_;rintro r w' ⟨s,rfl,h1,h2,h3⟩
    exact ⟨_,rfl,⟨s,rfl,h1,h2⟩,h3⟩) (fun v w' hv hb=>⟨⟨⟨tb_ hC.1.1 hb,Nat.le_trans hC.1.2 hb.size⟩,NN.PrAt.on hC.2 hb⟩,Kp.of hb,(by
     obtain ⟨s,rfl,h1,h2⟩:=hv;exact ⟨s,rfl,(by unfold Sp.ok;rw[h2.2.1];exact q32),qvr_ h2 fun i hi _=>Nat.le_trans hC.1.2 hi⟩),Ph.made hnK (hpre.below hb)⟩)
  ·have hsz:=hz_ Z 5;have hpre:=hI.1 hnl;obtain ⟨s,e22,so,hJ⟩:=(gd_ Z dq 4 22)
   exact dA_ (S:=fun w w'=>Kp (fun i=>i=bA\/i=mb) w w') 5 Z (qa_ rfl) (f:=124) (args:=#[a.eval (.tmp 18),a.eval (.tmp 20),a.eval (.tmp 22)]) (by kernel_rfl) (by
    rw[show a.eval (.tmp 18)=_ from (gd_ Z dq 0 18),show a.eval (.tmp 20)=_ from (gd_ Z dq 2 20),e22];have hJl:=HF.out;refine (qvy_ hpre ⟨e,s,q⟩ he so (fun i=>v3.heap.size<=i/\i<wx.heap.size) hJ.clip (fun i hi=>hi.2) (fun i hi h=>?_) (by decide) rfl).mono ?_
    ·rcases h with h|h|h
     have:=hJl i (.inl h);omega;have:=hJl i (.inr h);omega;cases h
    ·rintro r w' ⟨v',rfl,hA',hK,hl⟩;have hKF:Kp (fun i=>i=bA\/i=mb) wx w':=hK.mono fun i hi _=>hi.elim .inl (fun h=>h.elim .inr (fun h=>by cases h))
     obtain ⟨l1,l2,l3,l4,l5,l6⟩:=HL.out;refine ⟨_,rfl,⟨⟨hC.1.1.trans (hKF.below (fun i hi=>by rcases hi with rfl|rfl <;> assumption) hC.1.1.size),Nat.le_trans hC.1.2 hKF.size⟩,hKF.nhas hC.2 (fun h=>h.elim l5 l6)⟩,hKF,rfl,Ph.last hsz ⟨_,v',_,hA',rfl,rfl,fun i hi=>?_⟩⟩;rcases hi with (hi|hi)|rfl|rfl|hi
     exact Nat.le_trans l1 hi.1;exact Nat.le_trans l4 hi.1;exact l3;exact l2
     ·rcases hl with hl|⟨g,hl,hg⟩
      rw[hl] at hi;cases hi;rw[hl] at hi;have hig:g=i:=Option.some.inj hi;have:=hC.1.2;omega)
 intro lz a' v4 hall Z;have hC:=Z.c.1;obtain ⟨I,v,x,hE,x1,x2,hm⟩:=Z.i.2 (hall 5 (by decide));have e6:a'.eval (.tmp 6) = .pointer (some ⟨bA,0,none⟩):=Z.old' 6;obtain ⟨u,hu⟩:∃ u:Nat->Value,∀ t,u t=a'.eval (.tmp t):=⟨_,fun _=>rfl⟩;rw[qbc_ a' 25 u Z.tsize Z.defers hu];rw[<-hu] at e6;clear hu Z hall;simp only[List.range,List.range.loop,List.map_cons,List.map_nil];rw[e6];clear e6;go_wp2_with fail
 go_ret2;exact ⟨bA,I,p',t',v,mb,x,rfl,hE,x1,x2,⟨a1,a2,a3,a4,a5,a6⟩,hm,hC.1⟩
end Go.Proofs.YtkbjaadjnbgfbaaGreatDoor.An
namespace Go.Proofs.YtkbjaadjnbgfbaaGreatDoor.An
open Go.RowKit Mem Sc
open Ar (Ent Ru entZ)
def clampR (room:Int):Nat:=(min (max room 1) 512).toNat
theorem qpl_ (room:Int):((clampR room:Nat):Int)=min (max room 1) 512:=by unfold clampR;omega
theorem new_at (p:NN.Pr) (hp:p.ok) (h1:p.one) (t:Tl) (tt:p.tl=t.C) (ht:t.ok) (gs:List Gt) (cs:List Ck) (hgn:t.gn=gs.length) (hcn:t.cn=cs.length) (hgl:t.gn<=1000) (hcl:t.cn<=1000) (room:Int) (hgood:ruleP p t.g gs cs=true) (w:World) (hT:Tab w) (hG:GatesAt w t.ga gs) (hC:ChecksAt w t.ca cs) :
  Cl_ 105 #[.agg (NN.prA p),i_ room] w fun r w'=>∃ b F,r = .returned (.tuple #[pp_ b,i_ 0])/\ArS w' F b ⟨p,t.g,gs,cs,clampR room⟩ [entZ]/\(∀i,F i->w.heap.size<=i)/\Bl w w':=by
 have e1:enOf ⟨p,t.g,gs,cs,clampR room⟩ entZ=⟨t.g,t.g.id,-1,0,NN.ofBits t.g.bits⟩:=rfl;refine (new_w p hp t room (max room 1) (clampR room) rfl (qpl_ room) gs cs (enOf ⟨p,t.g,gs,cs,clampR room⟩ entZ) ⟨ht.2,qt_ _⟩ (bgn p t.g) (qt_ _) w ?_ ?_ ?_ ?_).mono ?_
 ·refine h_ fun w' hb=>?_
  have:=qzt_ p hp t tt ht gs cs hgn hcn hgl hcl w' (hG.below hb) (hC.below hb);rwa [hgood] at this
 ·refine h_ fun w' hb=>(qaak_ p hp h1 t tt ht gs cs hgn hcn hgl hcl w' (hG.below hb) (hC.below hb)).mono ?_
  rintro e w2 ⟨ga,gc,ca,cc,rfl,q1,q2,q3⟩;refine ⟨moved p t ga gc ca cc,movedT t ga gc ca cc,rfl,⟨qvw_ p t ht ga gc ca cc,?_,rfl,ht,hgn,hcn,rfl,rfl,rfl,rfl,rfl,rfl⟩,q1,q2,q3⟩;intro v hv;have hv':v ∈ (Value.slice ga t.gn gc :: Value.slice ca t.cn cc :: (t.nn ++ hdC t.g)):=hv;simp only[List.mem_cons] at hv';rcases hv' with rfl|rfl|hv'
  rfl;rfl;exact h1 v (by rw[tt];unfold Tl.C;simp only[List.mem_cons];exact .inr (.inr hv'))
 ·refine h_ fun w' hb=>qaal_ p t tt ht _ ⟨ht.2,qt_ _⟩ rfl rfl rfl w' ?_ ?_
  exact h_ fun w2 hb2=>id_at t.g ht.2 w2 (hT.below (tb_ hb hb2))
  exact h_ fun w2=>NN.wbits t.g.bits w2
 exact h_ fun w' hb=>qahe_ p hp t tt ht w' (hT.below hb)
 rintro r w' ⟨b,I,p',t',v,mb,x,rfl,hA,x1,x2,ha,hm,hb⟩;refine ⟨b,Mine I b v mb,rfl,⟨fun i hi=>hA.mine_lt hi,I,p',t',v,mb,[x],hA,ha,?_,fun i hi=>hi⟩,hm,hb⟩;unfold Lk;simp only[List.map_cons,List.map_nil,x1,x2];rfl
end Go.Proofs.YtkbjaadjnbgfbaaGreatDoor.An
namespace Go.Proofs.YtkbjaadjnbgfbaaGreatDoor.NN
open Go.RowKit Rg2 An
theorem qpm_ {C:World->Prop} {a:Act} {o:Oper} {K:Act->Prop} (T t':TypeId) (p:BinOp) (hT:Tryz.prog.eqGuardType Tryz.prog.depth T=false) (x y:Operand) (ho:o.op = .binOp p T x y t') (xs ys:Array Value) (v:Value) (hx:a.eval x = .agg xs) (hy:a.eval y = .agg ys)
  (hq:∀ w,(binOp p T (.agg xs) (.agg ys)).run Tryz.prog w = .ok v w) (hk:K (a.put o.dst v)):o.quiet Tryz.prog a C K :=
 ⟨_,fun w' hw'=>by
  unfold Oper.quietAt
  have this:(execOp a.eval o).run Tryz.prog w' = .ok (.value v) w':=by
   unfold execOp;simp only[ho,hx,hy,Sem.run_bind,Sem.run_pure,run_eqGuard_agg w' p T x y xs ys hT,Result.andThen_ok,hq]
  rw[this];exact ⟨rfl,rfl⟩,hk⟩
theorem qpn_:Tryz.prog.eqGuardType Tryz.prog.depth 26=false:=by kernel_rfl
theorem sub_ex (x y:Nat) (hx:x<Nm.big) (hy:y<Nm.big):∃ z c,z=(x+Nm.big - y) % Nm.big/\z<Nm.big/\Gv_ 146 #[.agg (numC x),.agg (numC y)] (.tuple #[.agg (numC z),.bool c]):=⟨_,_,rfl,Nat.mod_lt _ qcy_,fun w=>ref_sub x y hx hy w⟩
theorem add_ex (x y:Nat) (hx:x<Nm.big) (hy:y<Nm.big):∃ z c,z=(x+y) % Nm.big/\z<Nm.big/\Gv_ 115 #[.agg (numC x),.agg (numC y)] (.tuple #[.agg (numC z),.bool c]):=⟨_,_,rfl,Nat.mod_lt _ qcy_,fun w=>qkk_ x y hx hy w⟩
theorem one_lt:1<Nm.big:=by rw[Nm.big_eq];exact Nat.lt_of_lt_of_le (by decide) (Nat.pow_le_pow_right (by decide) (show 1<=256 by decide))
structure OfS (w wr:World) (b1 bR b3 b4 b6 b7 t m4 o r:Nat):Prop where
 be:Bl w wr
 a1:Has wr b1 (numC t) 26
 aR:Has wr bR (numC 0) 26
 a3:Has wr b3 (numC 1) 26
 a4:Has wr b4 (numC m4) 26
 a6:Has wr b6 (numC o) 26
 a7:Has wr b7 (numC r) 26
structure OfC (w wr:World) (b1 bR b3 b4 b7 t m4 r:Nat):Prop where
 be:Bl w wr
 a1:Has wr b1 (numC t) 26
 aR:Has wr bR (numC 0) 26
 a3:Has wr b3 (numC 1) 26
 a4:Has wr b4 (numC m4) 26
 a7:Has wr b7 (numC r) 26
variable {w wr:World} {b1 bR b3 b4 b7 t m4 r:Nat}
theorem OfC.on {w':World} (h:OfC w wr b1 bR b3 b4 b7 t m4 r) (hb:Bl wr w'):OfC w w' b1 bR b3 b4 b7 t m4 r :=
 ⟨tb_ h.be hb,h.a1.on hb,h.aR.on hb,h.a3.on hb,h.a4.on hb,h.a7.on hb⟩
theorem OfC.row (h:OfC w wr b1 bR b3 b4 b7 t m4 r) (g z:Nat) (h0:w.heap.size<=g) (h1:b1 ≠ g) (h2:bR ≠ g) (h3:b3 ≠ g) (h4:b4 ≠ g) (h5:b7 ≠ g):OfC w (wr.setRow g (numC z)) b1 bR b3 b4 b7 t m4 r :=
 ⟨below_setRow h.be h0 _,h.a1.otherRow _ _ h1,h.aR.otherRow _ _ h2,h.a3.otherRow _ _ h3,h.a4.otherRow _ _ h4,h.a7.otherRow _ _ h5⟩
def OfR (o z m3 o2:Nat->Value) (b:Bool):Nat->Value->Prop
 | 0,u=>u=o 0
 | 1,u=>u = .agg (numC 1)
 | 2,u=>u=z 0
 | 3,u=>u=m3 0
 | 4,u=>u = .tuple #[o2 0,.bool b]
 | 5,u=>u = .tuple #[o2 0,.bool b]
 | 6,u=>u=o2 0
 | 7,u=>u = .bool b
 | _,_=>b=b
theorem qaim_ (t:Nat) (m4:Nat) (KA:Hid (Gv_ 115 #[.agg (numC t),.agg (numC 1)] (.tuple #[.agg (numC m4),.bool true]))) (HW:Hid (1=Nm.work t)) (w:World) :
  Cl_ 110 #[.agg (numC t)] w fun e w'=>∃ z,(z<Nm.big/\z=Nm.work t)/\e = .returned (.agg (numC z))/\Bl w w':=by
 go_enter Tryz.func110,Tryz.ntmps110;go_upto_region 1 with fail
 generalize hw0:World.alloc _ _=v0;have bj:Bl w v0:=by rw[<-hw0];exact ba_.alloc (by simp) _
 have h1:Has v0 w.heap.size (numC t) 26:=by rw[<-hw0];exact (Has.new _ _).alloc _
 have hR:Has v0 (w.heap.size+1) (numC 0) 26:=by rw[<-hw0];exact Has.new1 _ (numC 0) _
 clear hw0;obtain ⟨b_1,e_1⟩:∃ x,x=w.heap.size:=⟨_,rfl⟩;obtain ⟨b_R,e_R⟩:∃ x,x=w.heap.size+1:=⟨_,rfl⟩;rw[<-e_R] at hR |-;rw[<-e_1] at h1 |-;have NR:Hid (w.heap.size<=b_R/\b_1<b_R):=h_ (by omega);clear e_1 e_R;have q1:=hR.lt;go_upto_region 2 with (with_reducible first|refine qb_ rfl _ rfl _ rfl _ (by assumption) rfl ?_|refine qw_ rfl _ _ rfl _ 1 _ rfl rfl one4w _ (Has.newz _) rfl ?_)
 generalize hw1:World.setRow _ _ _=v1;have hb1:Bl v0 v1:=bw_ hw1;have h3:Has v1 v0.heap.size (numC 1) 26:=by rw[<-hw1];exact (Has.newz _).row _
 replace h1:=h1.on hb1;replace hR:=hR.on hb1;replace bj:=tb_ bj hb1;clear hw1 hb1;obtain ⟨b_h3,e_h3⟩:∃ x,x=v0.heap.size:=⟨_,rfl⟩;rw[<-e_h3] at h3 q1 |-;clear e_h3;have N_h3:=h_ q1;clear q1;go_wp2_with (first|fail|(with_reducible refine qb_ rfl _ rfl _ rfl _ (by assumption) rfl ?_))
 refine (KA.out _).mono ?_;rintro e v2 ⟨rfl,hb2⟩;replace h1:=h1.on hb2;replace hR:=hR.on hb2;replace h3:=h3.on hb2;replace bj:=tb_ bj hb2;clear hb2;have q3:=h3.lt;go_upto_region 3 with (with_reducible first|refine qb_ rfl _ rfl _ rfl _ (by assumption) rfl ?_|refine qc_ rfl _ _ rfl _ _ rfl rfl _ (Has.newz _) rfl ?_)
 generalize hw3:World.setRow _ _ _=v3;have hb3:Bl v2 v3:=bw_ hw3;have h4:Has v3 v2.heap.size (numC m4) 26:=by rw[<-hw3];exact (Has.newz _).row _
 replace h1:=h1.on hb3;replace hR:=hR.on hb3;replace h3:=h3.on hb3;replace bj:=tb_ bj hb3;clear hw3 hb3;obtain ⟨b_h4,e_h4⟩:∃ x,x=v2.heap.size:=⟨_,rfl⟩;rw[<-e_h4] at h4 q3 |-;clear e_h4;have N_h4:=h_ q3;clear q3;go_wp2_with (with_reducible first|refine qb_ rfl _ rfl _ rfl _ (by assumption) rfl ?_|refine qc_ rfl _ _ rfl _ _ rfl rfl _ hR rfl ?_)
 exact bodyPost_ret (v:=.agg (numC (1))) (qi_ Tryz.results110 _ _ _ rfl (hR.row _)) rfl ⟨_,⟨one_lt,HW.out⟩,rfl,below_setRow bj NR.out.1 _⟩
theorem qain_ (t:Nat) (m4:Nat) (KA:Hid (Gv_ 115 #[.agg (numC t),.agg (numC 1)] (.tuple #[.agg (numC m4),.bool false]))) (HW:Hid (Nm.big - 1=Nm.work t)) (hq:∀ w,(binOp .eql 26 (.agg (numC t)) (.agg #[iu_ 0,iu_ 0,iu_ 0,iu_ 0])).run Tryz.prog w = .ok (.bool true) w) (w:World) :
  Cl_ 110 #[.agg (numC t)] w fun e w'=>∃ z,(z<Nm.big/\z=Nm.work t)/\e = .returned (.agg (numC z))/\Bl w w':=by
 have KM:=h_ rmost;go_enter Tryz.func110,Tryz.ntmps110;go_upto_region 1 with fail
 generalize hw0:World.alloc _ _=v0;have bj:Bl w v0:=by rw[<-hw0];exact ba_.alloc (by simp) _
 have h1:Has v0 w.heap.size (numC t) 26:=by rw[<-hw0];exact (Has.new _ _).alloc _
 have hR:Has v0 (w.heap.size+1) (numC 0) 26:=by rw[<-hw0];exact Has.new1 _ (numC 0) _
 clear hw0;obtain ⟨b_1,e_1⟩:∃ x,x=w.heap.size:=⟨_,rfl⟩;obtain ⟨b_R,e_R⟩:∃ x,x=w.heap.size+1:=⟨_,rfl⟩;rw[<-e_R] at hR |-;rw[<-e_1] at h1 |-;have NR:Hid (w.heap.size<=b_R/\b_1<b_R):=h_ (by omega);clear e_1 e_R;have q1:=hR.lt;go_upto_region 2 with (with_reducible first|refine qb_ rfl _ rfl _ rfl _ (by assumption) rfl ?_|refine qw_ rfl _ _ rfl _ 1 _ rfl rfl one4w _ (Has.newz _) rfl ?_)
 generalize hw1:World.setRow _ _ _=v1;have hb1:Bl v0 v1:=bw_ hw1;have h3:Has v1 v0.heap.size (numC 1) 26:=by rw[<-hw1];exact (Has.newz _).row _
 replace h1:=h1.on hb1;replace hR:=hR.on hb1;replace bj:=tb_ bj hb1;clear hw1 hb1;obtain ⟨b_h3,e_h3⟩:∃ x,x=v0.heap.size:=⟨_,rfl⟩;rw[<-e_h3] at h3 q1 |-;clear e_h3;have N_h3:=h_ q1;clear q1;go_wp2_with (first|fail|(with_reducible refine qb_ rfl _ rfl _ rfl _ (by assumption) rfl ?_))
 refine (KA.out _).mono ?_;rintro e v2 ⟨rfl,hb2⟩;replace h1:=h1.on hb2;replace hR:=hR.on hb2;replace h3:=h3.on hb2;replace bj:=tb_ bj hb2;clear hb2;have q3:=h3.lt;go_upto_region 3 with (with_reducible first|refine qb_ rfl _ rfl _ rfl _ (by assumption) rfl ?_|refine qc_ rfl _ _ rfl _ _ rfl rfl _ (Has.newz _) rfl ?_)
 generalize hw3:World.setRow _ _ _=v3;have hb3:Bl v2 v3:=bw_ hw3;have h4:Has v3 v2.heap.size (numC m4) 26:=by rw[<-hw3];exact (Has.newz _).row _
 replace h1:=h1.on hb3;replace hR:=hR.on hb3;replace h3:=h3.on hb3;replace bj:=tb_ bj hb3;clear hw3 hb3;obtain ⟨b_h4,e_h4⟩:∃ x,x=v2.heap.size:=⟨_,rfl⟩;rw[<-e_h4] at h4 q3 |-;clear e_h4;have N_h4:=h_ q3;clear q3;go_wp2_with (first|fail|(with_reducible refine qb_ rfl _ rfl _ rfl _ (by assumption) rfl ?_))
 refine (KM.out _).mono ?_;rintro e v4 ⟨rfl,hb4⟩;replace h1:=h1.on hb4;replace hR:=hR.on hb4;replace h3:=h3.on hb4;replace h4:=h4.on hb4;replace bj:=tb_ bj hb4;clear hb4;go_wp2_with (with_reducible first|refine qb_ rfl _ rfl _ rfl _ (by assumption) rfl ?_|refine qc_ rfl _ _ rfl _ _ rfl rfl _ hR rfl ?_)
 exact bodyPost_ret (v:=.agg (numC (Nm.big - 1))) (qi_ Tryz.results110 _ _ _ rfl (hR.row _)) rfl ⟨_,⟨(by have:=qcy_;omega),HW.out⟩,rfl,below_setRow bj NR.out.1 _⟩
theorem qaio_ (t:Nat) (ht:t<Nm.big) (m4:Nat) (KA:Hid (Gv_ 115 #[.agg (numC t),.agg (numC 1)] (.tuple #[.agg (numC m4),.bool false]))) (hm4:m4<Nm.big) (HE4:Hid (m4=t+1/\0<t)) (hq:∀ w,(binOp .eql 26 (.agg (numC t)) (.agg #[.int .u64 0,.int .u64 0,.int .u64 0,.int .u64 0])).run Tryz.prog w = .ok (.bool false) w) (w:World) :
  Cl_ 110 #[.agg (numC t)] w fun e w'=>∃ z,(z<Nm.big/\z=Nm.work t)/\e = .returned (.agg (numC z))/\Below w.heap.size w w':=by
 have KM:=h_ rmost;go_enter Tryz.func110,Tryz.ntmps110;go_upto_region 1 with fail
 generalize hw0:World.alloc _ _=v0;have bj:Below w.heap.size w v0:=by rw[<-hw0];exact ba_.alloc (by simp) _
 have h1:Has v0 w.heap.size (numC t) 26:=by rw[<-hw0];exact (Has.new _ _).alloc _
 have hR:Has v0 (w.heap.size+1) (numC 0) 26:=by rw[<-hw0];exact Has.new1 _ (numC 0) _
 clear hw0;obtain ⟨b_1,e_1⟩:∃ x,x=w.heap.size:=⟨_,rfl⟩;obtain ⟨b_R,e_R⟩:∃ x,x=w.heap.size+1:=⟨_,rfl⟩;rw[<-e_R] at hR |-;rw[<-e_1] at h1 |-;have NR:Hid (w.heap.size<=b_R/\b_1<b_R):=h_ (by omega);clear e_1 e_R;have q1:=hR.lt;go_upto_region 2 with (with_reducible first|refine qb_ rfl _ rfl _ rfl _ (by assumption) rfl ?_|refine qw_ rfl _ _ rfl _ 1 _ rfl rfl one4w _ (Has.newz _) rfl ?_)
 generalize hw1:World.setRow _ _ _=v1;have hb1:Below v0.heap.size v0 v1:=bw_ hw1;have h3:Has v1 v0.heap.size (numC 1) 26:=by rw[<-hw1];exact (Has.newz _).row _
 replace h1:=h1.on hb1;replace hR:=hR.on hb1;replace bj:=tb_ bj hb1;clear hw1 hb1;obtain ⟨b_h3,e_h3⟩:∃ x,x=v0.heap.size:=⟨_,rfl⟩;rw[<-e_h3] at h3 q1 |-;clear e_h3;have N_h3:=h_ q1;clear q1;go_wp2_with (first|fail|(with_reducible refine qb_ rfl _ rfl _ rfl _ (by assumption) rfl ?_))
 refine (KA.out _).mono ?_;rintro e v2 ⟨rfl,hb2⟩;replace h1:=h1.on hb2;replace hR:=hR.on hb2;replace h3:=h3.on hb2;replace bj:=tb_ bj hb2;clear hb2;have q3:=h3.lt;go_upto_region 3 with (with_reducible first|refine qb_ rfl _ rfl _ rfl _ (by assumption) rfl ?_|refine qc_ rfl _ _ rfl _ _ rfl rfl _ (Has.newz _) rfl ?_)
 generalize hw3:World.setRow _ _ _=v3;have hb3:Below v2.heap.size v2 v3:=bw_ hw3;have h4:Has v3 v2.heap.size (numC m4) 26:=by rw[<-hw3];exact (Has.newz _).row _
 replace h1:=h1.on hb3;replace hR:=hR.on hb3;replace h3:=h3.on hb3;replace bj:=tb_ bj hb3;clear hw3 hb3;obtain ⟨b_h4,e_h4⟩:∃ x,x=v2.heap.size:=⟨_,rfl⟩;rw[<-e_h4] at h4 q3 |-;clear e_h4;have N_h4:=h_ q3;clear q3;have q4:=h4.lt;go_upto_region 8 with (with_reducible first|refine qb_ rfl _ rfl _ rfl _ (by assumption) rfl ?_|refine qw_ rfl _ _ rfl _ 0 _ rfl rfl zero4 _ (Has.newz _) rfl ?_)
 generalize hw4:World.setRow _ _ _=v4;have hb4:Below v3.heap.size v3 v4:=bw_ hw4;have h6:Has v4 v3.heap.size (numC 0) 26:=by rw[<-hw4];exact (Has.newz _).row _
 replace h1:=h1.on hb4;replace hR:=hR.on hb4;replace h3:=h3.on hb4;replace h4:=h4.on hb4;replace bj:=tb_ bj hb4;clear hw4 hb4;obtain ⟨b_h6,e_h6⟩:∃ x,x=v3.heap.size:=⟨_,rfl⟩;rw[<-e_h6] at h6 q4 |-;clear e_h6;have N_h6:=h_ q4;clear q4;go_wp2_with (first|fail|(with_reducible refine qb_ rfl _ rfl _ rfl _ (by assumption) rfl ?_))
 refine (KM.out _).mono ?_;rintro e v5 ⟨rfl,hb5⟩;replace h1:=h1.on hb5;replace hR:=hR.on hb5;replace h3:=h3.on hb5;replace h4:=h4.on hb5;replace h6:=h6.on hb5;replace bj:=tb_ bj hb5;clear hb5;have q6:=h6.lt;go_upto_region 9 with (with_reducible first|refine qb_ rfl _ rfl _ rfl _ (by assumption) rfl ?_|refine qc_ rfl _ _ rfl _ _ rfl rfl _ (Has.newz _) rfl ?_)
 generalize hw6:World.setRow _ _ _=v6;have hb6:Below v5.heap.size v5 v6:=bw_ hw6;have h7:Has v6 v5.heap.size (numC (Nm.big - 1)) 26:=by rw[<-hw6];exact (Has.newz _).row _
 replace h1:=h1.on hb6;replace hR:=hR.on hb6;replace h3:=h3.on hb6;replace h4:=h4.on hb6;replace h6:=h6.on hb6;replace bj:=tb_ bj hb6;clear hw6 hb6;obtain ⟨b_h7,e_h7⟩:∃ x,x=v5.heap.size:=⟨_,rfl⟩;rw[<-e_h7] at h7 q6 |-;clear e_h7;have N_h7:=h_ q6;clear q6;have ND:Hid (b_1<b_R/\b_R<b_h3/\b_h3<b_h4/\b_h4<b_h6/\b_h6<b_h7/\w.heap.size<=b_R):=h_ ⟨NR.out.2,N_h3.out,N_h4.out,N_h6.out,N_h7.out,NR.out.1⟩;have hs:OfS w v6 b_1 b_R b_h3 b_h4 b_h6 b_h7 t m4 0 (Nm.big - 1):=⟨bj,h1,hR,h3,h4,h6,h7⟩;have HM4:=h_ hm4;have HTT:=h_ ht;clear bj h1 hR h3 h4 h6 h7 N_h3 N_h4 N_h6 N_h7 NR hq KA hm4 ht;go_wp2_with fail
 go_loopw [8] (fun i wr=>∃ (k:Nat) (z:Int) (o r:Nat),k<=256/\i = .int .i64 z/\Hid (z=255 - (k:Int)/\o<Nm.big/\r<Nm.big/\Nm.LD t k o r)/\OfS w wr b_1 b_R b_h3 b_h4 b_h6 b_h7 t m4 o r) (fun i _=>((intOf i)+1).toNat)
 case atStart=>exact ⟨0,255,0,Nm.big - 1,by omega,rfl,h_ ⟨by omega,qcy_,by have:=qcy_;omega,Nm.LD.start t⟩,hs⟩
 case round=>
  clear hs;obtain ⟨k,z,o,r,hk,rfl,HZ,hs⟩:=hrel;obtain ⟨bj,h1,hR,h3,h4,h6,h7⟩:=hs;by_cases hlt:k<256
  ·have hz0:¬z<0:=by have:=HZ.out.1;omega
   have hz1:0<=z:=by omega
   have hz2:z<=255:=by have:=HZ.out.1;omega
   obtain ⟨d,ed,hd,KD0⟩:=qvn_ m4 HM4.out z (by omega) (by omega);obtain ⟨nz,hnz⟩:∃ nz,nz = -z:=⟨_,rfl⟩;obtain ⟨m2,em2,hm2,KM20⟩:=qvn_ d hd nz (by omega) (by omega);obtain ⟨s,c,es,hsb,KS0⟩:=sub_ex d 1 hd one_lt;obtain ⟨r2,c2,er2,hr2,KS20⟩:=sub_ex r d HZ.out.2.2.1 hd;obtain ⟨m3,em3,hm3,KM30⟩:=qvn_ 1 one_lt z (by omega) (by omega);obtain ⟨o2,c3,eo2,ho2,KA20⟩:=add_ex o m3 HZ.out.2.1 hm3
   have HX:Hid (((!decide (m2=m4))=true->Nm.LD t (k+1) o r)/\((!decide (m2=m4))=false->decide (r<s)=true->Nm.LD t (k+1) o r)/\((!decide (m2=m4))=false->decide (r<s)=false->decide (r2=Nm.big - 1)=false->Nm.LD t (k+1) o2 r2)/\((!decide (m2=m4))=false->decide (r<s)=false->decide (r2=Nm.big - 1)=true->o2=Nm.work t)):=h_ (by
    have e4:=HE4.out.1;have hm:=HM4.out;subst e4;rw[hnz] at em2;exact Nm.LD.step HE4.out.2 hm hlt HZ.out.1 HZ.out.2.2.1 HZ.out.2.2.2 ed em2 es er2 em3 eo2)
   clear ed em2 es er2 em3 eo2;have KD:=h_ KD0;have KM2:=h_ KM20;have KS:=h_ KS0;have KS2:=h_ KS20;have KM3:=h_ KM30;have KA2:=h_ KA20;have KL:=h_ fun w=>qee_ r s HZ.out.2.2.1 hsb w
   have hq2:=fun w=>neq_num hm2 HM4.out w
   have hq3:=fun w=>qkh_ hr2 (show Nm.big - 1<Nm.big by have:=qcy_;omega) w
   have wneg:IntKind.i64.wrap (-z)=nz:=by rw[IntKind.wrap_i64];omega
   obtain ⟨z1,hz3⟩:∃ z1,z1=z - 1:=⟨_,rfl⟩;have wsub:IntKind.i64.wrap (z - 1)=z1:=by rw[IntKind.wrap_i64];omega
   have HZ1:Hid (z1=255 - ((k+1:Nat):Int)):=h_ (by have:=HZ.out.1;omega);have HO2:=h_ ho2;have HR2:=h_ hr2;have HME:Hid (((intOf (.int .i64 z1))+1).toNat<((intOf (.int .i64 z))+1).toNat):=h_ (by simp[intOf];omega);generalize hg2:(!decide (m2=m4))=g2 at *;generalize hg3:decide (r<s)=g3 at *;generalize hg4:decide (r2=Nm.big - 1)=g4 at *;clear KD0 KM20 KS0 KS20 KM30 KA20 hnz hz3 hz2 hd hm2 hsb hr2 hm3 ho2 hg2 hg3 hg4;go_wp2_with (first|fail|(with_reducible refine qb_ rfl _ rfl _ rfl _ (by assumption) rfl ?_))
   refine (KD.out _).mono ?_;rintro e v21 ⟨rfl,hb21⟩;replace h1:=h1.on hb21;replace hR:=hR.on hb21;replace h3:=h3.on hb21;replace h4:=h4.on hb21;replace h6:=h6.on hb21;replace h7:=h7.on hb21;replace bj:=tb_ bj hb21;clear hb21;have q22:=h7.lt;go_upto_region 13 with (with_reducible first|refine qb_ rfl _ rfl _ rfl _ (by assumption) rfl ?_|refine qc_ rfl _ _ rfl _ _ rfl rfl _ (Has.newz _) rfl ?_)
   generalize hw22:World.setRow _ _ _=v22;have hb22:Below v21.heap.size v21 v22:=bw_ hw22;have h9:Has v22 v21.heap.size (numC d) 26:=by rw[<-hw22];exact (Has.newz _).row _
   replace h1:=h1.on hb22;replace hR:=hR.on hb22;replace h3:=h3.on hb22;replace h4:=h4.on hb22;replace h6:=h6.on hb22;replace h7:=h7.on hb22;replace bj:=tb_ bj hb22;clear hw22 hb22;obtain ⟨b_h9,e_h9⟩:∃ x,x=v21.heap.size:=⟨_,rfl⟩;rw[<-e_h9] at h9 q22 |-;clear e_h9;have N_h9:=h_ q22;clear q22;simp only[Act.put];refine wp_region_quiet_below (by kernel_rfl) (by kernel_rfl) ?_
   repeat (first
    | (go_big_quiet_want;(with_reducible first|refine qu_ _ rfl _ rfl _ h9.cls ?_|refine qu_ _ rfl _ rfl _ h4.cls ?_|refine qpm_ 26 _ .neq qpn_ _ _ rfl _ _ _ rfl rfl hq2 ?_);(simp only[Act.put,List.setIfInBounds_toArray,List.set_cons_zero,List.set_cons_succ]);go_big_quiet_on)
    | go_big_quiet_step ((go_at_call 145;exact Calls.regrown_of (KM2.out _))))
   refine wpQuiet_nil ?_;intro v30 hw';obtain ⟨rg,hw''⟩:=hw';have hb30:Below v22.heap.size v22 v30:=by rw[hw''];exact below_regrown v22 rg.d rg.os
   clear hw'';replace h1:=h1.on hb30;replace hR:=hR.on hb30;replace h3:=h3.on hb30;replace h4:=h4.on hb30;replace h6:=h6.on hb30;replace h7:=h7.on hb30;replace h9:=h9.on hb30;replace bj:=tb_ bj hb30;clear hb30 hq2;cases g2
   case true=>
    (go_wp2_with fail);go_roundw
    case rel=>exact ⟨k+1,z1,o,r,by omega,rfl,h_ ⟨HZ1.out,HZ.out.2.1,HZ.out.2.2.1,HX.out.1 (by simp)⟩,⟨bj,h1,hR,h3,h4,h6,h7⟩⟩
    case measure=>exact HME.out
   case false=>
    (go_wp2_with (first|fail|(with_reducible refine qb_ rfl _ rfl _ rfl _ (by assumption) rfl ?_)));refine (KS.out _).mono ?_;rintro e v31 ⟨rfl,hb31⟩;replace h1:=h1.on hb31;replace hR:=hR.on hb31;replace h3:=h3.on hb31;replace h4:=h4.on hb31;replace h6:=h6.on hb31;replace h7:=h7.on hb31;replace h9:=h9.on hb31;replace bj:=tb_ bj hb31;clear hb31;have q32:=h9.lt;(go_upto_region 15 with (with_reducible first|refine qb_ rfl _ rfl _ rfl _ (by assumption) rfl ?_|refine qc_ rfl _ _ rfl _ _ rfl rfl _ (Has.newz _) rfl ?_));generalize hw32:World.setRow _ _ _=v32;have hb32:Below v31.heap.size v31 v32:=bw_ hw32;have h10:Has v32 v31.heap.size (numC s) 26:=(by rw[<-hw32];exact (Has.newz _).row _);replace h1:=h1.on hb32;replace hR:=hR.on hb32;replace h3:=h3.on hb32;replace h4:=h4.on hb32;replace h6:=h6.on hb32;replace h7:=h7.on hb32;replace h9:=h9.on hb32;replace bj:=tb_ bj hb32;clear hw32 hb32;obtain ⟨b_h10,e_h10⟩:∃ x,x=v31.heap.size:=⟨_,rfl⟩;rw[<-e_h10] at h10 q32 |-;clear e_h10;have N_h10:=h_ q32;clear q32;(go_wp2_with (first|fail|(with_reducible refine qb_ rfl _ rfl _ rfl _ (by assumption) rfl ?_)));refine (KL.out _).mono ?_;rintro e v33 ⟨rfl,hb33⟩;replace h1:=h1.on hb33;replace hR:=hR.on hb33;replace h3:=h3.on hb33;replace h4:=h4.on hb33;replace h6:=h6.on hb33;replace h7:=h7.on hb33;replace h9:=h9.on hb33;replace h10:=h10.on hb33;replace bj:=tb_ bj hb33;clear hb33;cases g3
    case true=>
     (go_wp2_with fail);go_roundw
     case rel=>exact ⟨k+1,z1,o,r,by omega,rfl,h_ ⟨HZ1.out,HZ.out.2.1,HZ.out.2.2.1,HX.out.2.1 (by simp) (by simp)⟩,⟨bj,h1,hR,h3,h4,h6,h7⟩⟩
     case measure=>exact HME.out
    case false=>
     (go_wp2_with (first|fail|(with_reducible refine qb_ rfl _ rfl _ rfl _ (by assumption) rfl ?_)));refine (KS2.out _).mono ?_;rintro e v41 ⟨rfl,hb41⟩;replace h1:=h1.on hb41;replace hR:=hR.on hb41;replace h3:=h3.on hb41;replace h4:=h4.on hb41;replace h6:=h6.on hb41;replace h7:=h7.on hb41;replace h9:=h9.on hb41;replace h10:=h10.on hb41;replace bj:=tb_ bj hb41;clear hb41;obtain ⟨n1,n2,n3,n4,n5,n6⟩:=ND.out;have u9:=N_h9.out;have u10:=N_h10.out;have h7':=h7;(go_upto_region 17 with (with_reducible first|refine qb_ rfl _ rfl _ rfl _ (by assumption) rfl ?_|refine qc_ rfl _ _ rfl _ _ rfl rfl _ h7' rfl ?_));have hbel2:Below w.heap.size w (v41.setRow b_h7 (numC r2)):=below_setRow bj (by omega) _;replace h1:=h1.otherRow b_h7 (numC r2) (by omega);replace hR:=hR.otherRow b_h7 (numC r2) (by omega);replace h3:=h3.otherRow b_h7 (numC r2) (by omega);replace h4:=h4.otherRow b_h7 (numC r2) (by omega);replace h6:=h6.otherRow b_h7 (numC r2) (by omega);replace h7:=h7'.row (numC r2);clear h9 h10 h7' bj;have bj:=hbel2;clear hbel2 N_h9 N_h10 u9 u10;generalize World.setRow _ _ _=v50 at *;have hP:OfC w v50 b_1 b_R b_h3 b_h4 b_h7 t m4 r2:=⟨bj,h1,hR,h3,h4,h7⟩;simp only[Act.put];clear bj h1 hR h3 h4 h7 KS2 KL KS KD KM2;refine qj_ (by kernel_rfl) (fun w'=>OfC w w' b_1 b_R b_h3 b_h4 b_h7 t m4 r2) (fun i v' _=>OfR (fun _=>.agg (numC o)) (fun _=>.int .i64 z) (fun _=>.agg (numC m3)) (fun _=>.agg (numC o2)) c3 i v') (fun l _ w'=>Ph 8 (fun w'=>Has w' b_h6 (numC o) 26) (fun w'=>Has w' b_h6 (numC o2) 26) l w') (fun _ _=>True) (fun _ _=>trivial) (fun _ _ _ _ _ _ h=>h) (by kernel_rfl) (hP.on br_.drew) ?_ ?_ ?_;exact fun l hl=>Ph.zero hl (h6.on br_.drew)
     ·intro i o lz a wx ho' hnl dq Z;have hC:=Z.c;have hI:=Z.i;have hi:i<9:=(Array.getElem?_eq_some_iff.1 ho').1;obtain rfl|rfl|rfl|rfl|rfl|rfl|rfl|rfl|rfl:i=0\/i=1\/i=2\/i=3\/i=4\/i=5\/i=6\/i=7\/i=8:=(by omega);all_goals obtain rfl:=Option.some.inj ho'
      have hsz:=hz_ Z 0;have hnK:=ah_ Z hnl 8;have hpre:=hI.pre hnK hsz (by decide);exact dv_ 0 Z (qa_ rfl) (qad_ rfl (Z.old' 6) hpre) rfl (hI.keep hsz);exact dv_ 1 Z (qa_ rfl) (qad_ rfl (Z.old' 3) hC.a3) rfl (hI.keep (hz_ Z 1));exact dv_ 2 Z (qa_ rfl) (NN.qr_ rfl) (Z.old' 8) (hI.keep (hz_ Z 2))
      ·have hsz:=hz_ Z 3;have hnK:=ah_ Z hnl 8;have hpre:=hI.pre hnK hsz (by decide);exact dC_ (S:=T2_) 3 Z (qa_ rfl) (f:=145) (args:=#[a.eval (.tmp 58),a.eval (.tmp 59)]) (by kernel_rfl) (by rw[show a.eval (.tmp 58)=_ from (gd_ Z dq 1 58)];rw[show a.eval (.tmp 59)=_ from (gd_ Z dq 2 59)];  exact KM3.out wx) (fun w' hb=>⟨hC.on hb,trivial,rfl,Ph.made hnK (hpre.on hb)⟩)
      ·have hsz:=hz_ Z 4;have hnK:=ah_ Z hnl 8;have hpre:=hI.pre hnK hsz (by decide);exact dC_ (S:=T2_) 4 Z (qa_ rfl) (f:=115) (args:=#[a.eval (.tmp 57),a.eval (.tmp 60)]) (by kernel_rfl) (by rw[show a.eval (.tmp 57)=_ from (gd_ Z dq 0 57)];rw[show a.eval (.tmp 60)=_ from (gd_ Z dq 3 60)];  exact KA2.out wx) (fun w' hb=>⟨hC.on hb,trivial,rfl,Ph.made hnK (hpre.on hb)⟩)
      exact dv_ 5 Z (qa_ rfl) (NN.qr_ rfl) (gd_ Z dq 4 61) (hI.keep (hz_ Z 5));exact dv_ 6 Z (qa_ rfl) (qz_ rfl (gd_ Z dq 5 56) rfl) rfl (hI.keep (hz_ Z 6));exact dv_ 7 Z (qa_ rfl) (qz_ rfl (gd_ Z dq 5 56) rfl) rfl (hI.keep (hz_ Z 7));have hsz:=hz_ Z 8;have hR0:=hI.1 hnl;exact ds_ 8 Z (qa_ rfl) (qap_ rfl (Z.old' 6) (gd_ Z dq 6 62) hR0 rfl) (hC.row _ _ (by omega) (by omega) (by omega) (by omega) (by omega) (by omega)) rfl (Ph.last hsz (hR0.row _))
     intro lz a' v51 hall Z;obtain ⟨bj,h1,hR,h3,h4,h7⟩:=Z.c;have h6:=Z.i.2 (hall 8 (by decide));have e1:a'.eval (.tmp 1) = .pointer (some ⟨b_1,0,none⟩):=Z.old' 1;have e2:a'.eval (.tmp 2) = .pointer (some ⟨b_R,0,none⟩):=Z.old' 2;have e3:a'.eval (.tmp 3) = .pointer (some ⟨b_h3,0,none⟩):=Z.old' 3;have e4:a'.eval (.tmp 4) = .pointer (some ⟨b_h4,0,none⟩):=Z.old' 4;have e6:a'.eval (.tmp 6) = .pointer (some ⟨b_h6,0,none⟩):=Z.old' 6;have e7:a'.eval (.tmp 7) = .pointer (some ⟨b_h7,0,none⟩):=Z.old' 7;have e8:a'.eval (.tmp 8) = .int .i64 z:=Z.old' 8;have e0:a'.eval (.tmp 0) = .agg (numC t):=Z.old' 0;have e5:a'.eval (.tmp 5) = .bool false:=Z.old' 5;have e12:a'.eval (.tmp 12) = .agg #[.int .u64 1,.int .u64 0,.int .u64 0,.int .u64 0]:=Z.old' 12;have e13:a'.eval (.tmp 13) = .tuple #[.agg (numC m4),.bool false]:=Z.old' 13;have e14:a'.eval (.tmp 14) = .agg (numC t):=Z.old' 14;have e15:a'.eval (.tmp 15) = .agg (numC 1):=Z.old' 15;have e16:a'.eval (.tmp 16) = .tuple #[.agg (numC m4),.bool false]:=Z.old' 16;have e17:a'.eval (.tmp 17) = .agg (numC m4):=Z.old' 17;have e18:a'.eval (.tmp 18) = .bool false:=Z.old' 18;have e19:a'.eval (.tmp 19) = .bool false:=Z.old' 19;have e20:a'.eval (.tmp 20)=undef:=Z.old' 20;have e21:a'.eval (.tmp 21) = .agg (numC t):=Z.old' 21;have e22:a'.eval (.tmp 22) = .agg #[.int .u64 0,.int .u64 0,.int .u64 0,.int .u64 0]:=Z.old' 22;have e23:a'.eval (.tmp 23) = .bool false:=Z.old' 23;have e24:a'.eval (.tmp 24)=undef:=Z.old' 24;have e25:a'.eval (.tmp 25) = .agg #[.int .u64 0,.int .u64 0,.int .u64 0,.int .u64 0]:=Z.old' 25;have e26:a'.eval (.tmp 26) = .agg (numC (Nm.big - 1)):=Z.old' 26;have e68:a'.eval (.tmp 68)=undef:=Z.old' 68;have e69:a'.eval (.tmp 69)=undef:=Z.old' 69;have e70:a'.eval (.tmp 70)=undef:=Z.old' 70;have e71:a'.eval (.tmp 71)=undef:=Z.old' 71;have e72:a'.eval (.tmp 72)=undef:=Z.old' 72;have e73:a'.eval (.tmp 73)=undef:=Z.old' 73;have e74:a'.eval (.tmp 74)=undef:=Z.old' 74;have e75:a'.eval (.tmp 75)=undef:=Z.old' 75;have e76:a'.eval (.tmp 76)=undef:=Z.old' 76;have e77:a'.eval (.tmp 77)=undef:=Z.old' 77;have e78:a'.eval (.tmp 78)=undef:=Z.old' 78;clear hP;obtain ⟨u,hu⟩:∃ u:Nat->Value,∀ t,u t=a'.eval (.tmp t):=⟨_,fun _=>rfl⟩;rw[qbc_ a' 79 u Z.tsize Z.defers hu];rw[<-hu] at e1 e2 e3 e4 e6 e7 e8 e0 e5 e12 e13 e14 e15 e16 e17 e18 e19 e20 e21 e22 e23 e24 e25 e26 e68 e69 e70 e71 e72 e73 e74 e75 e76 e77 e78;clear hu Z hall;simp only[List.range,List.range.loop,List.map_cons,List.map_nil];rw[e1,e2,e3,e4,e6,e7,e8,e0,e5,e12,e13,e14,e15,e16,e17,e18,e19,e20,e21,e22,e23,e24,e25,e26,e68,e69,e70,e71,e72,e73,e74,e75,e76,e77,e78];clear e1 e2 e3 e4 e6 e7 e8 e0 e5 e12 e13 e14 e15 e16 e17 e18 e19 e20 e21 e22 e23 e24 e25 e26 e68 e69 e70 e71 e72 e73 e74 e75 e76 e77 e78;clear n1 n2 n3 n4 n5 n6;(go_upto_region 18 with fail);refine wp_region_quiet_below (by kernel_rfl) (by kernel_rfl) ?_
     repeat (first
      | (go_big_quiet_want;(with_reducible first|refine qu_ _ rfl _ rfl _ h7.cls ?_|refine qpm_ 26 _ .eql qpn_ _ _ rfl _ _ _ rfl rfl hq3 ?_);(simp only[Act.put,List.setIfInBounds_toArray,List.set_cons_zero,List.set_cons_succ]);go_big_quiet_on)
      | go_big_quiet_step ((go_at_call 116;exact Calls.regrown_of (KM.out _))))
     refine wpQuiet_nil ?_;intro v52 hw';obtain ⟨rg,hw''⟩:=hw';have hb52:Below v51.heap.size v51 v52:=(by rw[hw''];exact below_regrown v51 rg.d rg.os);clear hw'';replace h1:=h1.on hb52;replace hR:=hR.on hb52;replace h3:=h3.on hb52;replace h4:=h4.on hb52;replace h6:=h6.on hb52;replace h7:=h7.on hb52;replace bj:=tb_ bj hb52;clear hb52 hq3;cases g4
     case false=>
      (go_wp2_with fail);go_roundw
      case rel=>(repeat (apply Exists.intro (α:=Value)));exact ⟨k+1,z1,o2,r2,by omega,rfl,h_ ⟨HZ1.out,HO2.out,HR2.out,HX.out.2.2.1 (by simp) (by simp) (by simp)⟩,⟨bj,h1,hR,h3,h4,h6,h7⟩⟩
      case measure=>exact HME.out
     case true=>
      have NR:Hid (w.heap.size<=b_R/\b_1<b_R):=h_ ⟨ND.out.2.2.2.2.2,ND.out.1⟩;(go_wp2_with (with_reducible first|refine qb_ rfl _ rfl _ rfl _ (by assumption) rfl ?_|refine qc_ rfl _ _ rfl _ _ rfl rfl _ hR rfl ?_));exact bodyPost_ret (v:=.agg (numC (o2))) (qi_ Tryz.results110 _ _ _ rfl (hR.row _)) rfl ⟨_,⟨HO2.out,HX.out.2.2.2 (by simp) (by simp) (by simp)⟩,rfl,below_setRow bj NR.out.1 _⟩
  ·have hz0:z<0:=by have:=HZ.out.1;omega
   have NR:Hid (w.heap.size<=b_R/\b_1<b_R):=h_ ⟨ND.out.2.2.2.2.2,ND.out.1⟩;have KL:=h_ fun w=>qee_ r t HZ.out.2.2.1 HTT.out w
   obtain ⟨o2,c3,eo2,ho2,KA20⟩:=add_ex o 1 HZ.out.2.1 one_lt;have hk6:k=256:=by omega
   have HY:Hid ((decide (r<t)=true->o=Nm.work t)/\(decide (r<t)=false->o2=Nm.work t)):=h_ (by
    have:=Nm.LD.last HE4.out.2 (hk6 ▸ HZ.out.2.2.2);rwa [<-eo2] at this)
   clear eo2 hk6;have KA2:=h_ KA20;have HO2:=h_ ho2;generalize hg3:decide (r<t)=g3 at *;clear KA20 ho2 hg3;go_wp2_with (first|fail|(with_reducible refine qb_ rfl _ rfl _ rfl _ (by assumption) rfl ?_))
   refine (KL.out _).mono ?_;rintro e v71 ⟨rfl,hb71⟩;replace h1:=h1.on hb71;replace hR:=hR.on hb71;replace h3:=h3.on hb71;replace h4:=h4.on hb71;replace h6:=h6.on hb71;replace h7:=h7.on hb71;replace bj:=tb_ bj hb71;clear hb71;cases g3
   case true=>
    (go_wp2_with (with_reducible first|refine qb_ rfl _ rfl _ rfl _ (by assumption) rfl ?_|refine qc_ rfl _ _ rfl _ _ rfl rfl _ hR rfl ?_));exact bodyPost_ret (v:=.agg (numC (o))) (qi_ Tryz.results110 _ _ _ rfl (hR.row _)) rfl ⟨_,⟨HZ.out.2.1,HY.out.1 (by simp)⟩,rfl,below_setRow bj NR.out.1 _⟩
   case false=>
    (go_wp2_with (first|fail|(with_reducible refine qb_ rfl _ rfl _ rfl _ (by assumption) rfl ?_)));refine (KA2.out _).mono ?_;rintro e v81 ⟨rfl,hb81⟩;replace h1:=h1.on hb81;replace hR:=hR.on hb81;replace h3:=h3.on hb81;replace h4:=h4.on hb81;replace h6:=h6.on hb81;replace h7:=h7.on hb81;replace bj:=tb_ bj hb81;clear hb81;obtain ⟨n1,n2,n3,n4,n5,n6⟩:=ND.out;have h6':=h6;(go_upto_region 22 with (with_reducible first|refine qb_ rfl _ rfl _ rfl _ (by assumption) rfl ?_|refine qc_ rfl _ _ rfl _ _ rfl rfl _ h6' rfl ?_));have hbel2:Below w.heap.size w (v81.setRow b_h6 (numC o2)):=below_setRow bj (by omega) _;replace hR:=hR.otherRow b_h6 (numC o2) (by omega);replace h6:=h6'.row (numC o2);clear h6' bj h1 h3 h4 h7;have bj:=hbel2;clear hbel2;generalize World.setRow _ _ _=v90 at *;(go_wp2_with (with_reducible first|refine qb_ rfl _ rfl _ rfl _ (by assumption) rfl ?_|refine qc_ rfl _ _ rfl _ _ rfl rfl _ hR rfl ?_));exact bodyPost_ret (v:=.agg (numC (o2))) (qi_ Tryz.results110 _ _ _ rfl (hR.row _)) rfl ⟨_,⟨HO2.out,HY.out.2 (by simp)⟩,rfl,below_setRow bj NR.out.1 _⟩
def NumW (f:FuncId) (args:Array Value) (x:Nat):Prop:=∀ w,Cl_ f args w fun e w'=>∃ z,(z<Nm.big/\z=x)/\e = .returned (.agg (numC z))/\Bl w w'
theorem rof_any (t:Nat) (ht:t<Nm.big):NumW 110 #[.agg (numC t)] (Nm.work t):=by
 intro w;cases h:decide (Nm.big<=t+1);cases h0:decide (t=0);have h1:=of_decide_eq_false h;have h2:=of_decide_eq_false h0;exact qaio_ t ht _ (h_ fun w=>qfr_ t 1 ht one_lt _ _ rfl h.symm w) (Nat.mod_lt _ qcy_) (h_ ⟨Nat.mod_eq_of_lt (by omega),by omega⟩) (fun w=>qiv_ t ht _ h0 w) w;have h2:=of_decide_eq_true h0;exact qain_ t _ (h_ fun w=>qfr_ t 1 ht one_lt _ _ rfl h.symm w) (h_ (by rw[h2,Nm.qaab_])) (fun w=>qiv_ t ht _ h0 w) w;have h1:=of_decide_eq_true h;exact qaim_ t _ (h_ fun w=>qfr_ t 1 ht one_lt _ _ rfl h.symm w) (h_ (Nm.qvl_ (by omega)).symm) w
theorem qaan_ (b:Int):∃ z lo ov,ofBits b=(if (lo || ov || decide (z=0))=true then 0 else Nm.work z)/\z<Nm.big/\Gv_ 109 #[i_ b] (.tuple #[.agg (numC z),.bool lo,.bool ov]):=by
 by_cases h:0<=b/\b<=4294967295;obtain ⟨n,rfl⟩:∃ n:Nat,b=(n:Int):=⟨b.toNat,by omega⟩;exact ⟨_,_,_,by unfold ofBits;rw[if_pos h,Int.toNat_natCast],Nm.decN_lt,fun w=>qei_ n (by omega) w⟩;exact ⟨0,false,false,by unfold ofBits;rw[if_neg h];rfl,qcy_,fun w=>qfc_ b h w⟩
theorem qle_ (b:Int):NumW 76 #[i_ b] (ofBits b):=by
 intro w;obtain ⟨z,lo,ov,he0,hz,KD0⟩:=qaan_ b;have KD:=h_ KD0;have KO:=h_ (rof_any z hz);obtain ⟨g,hg⟩:∃ g,decide (z=0)=g:=⟨_,rfl⟩;have hq:=fun w=>qiv_ z hz g hg w
 have HZ:=h_ hz;rw[hg] at he0;obtain ⟨X,hX⟩:∃ X,X=ofBits b:=⟨_,rfl⟩;rw[<-hX] at he0 |-;have HE:=h_ he0;clear KD0 hz hg he0 hX;go_enter Tryz.func76,Tryz.ntmps76;go_upto_region 1 with fail
 generalize hw0:World.alloc _ _=v0;have bj:Bl w v0:=bl_ hw0;have hR:Has v0 w.heap.size (numC 0) 26:=by rw[<-hw0];exact Has.newz _
 clear hw0;obtain ⟨b_R,e_R⟩:∃ x,x=w.heap.size:=⟨_,rfl⟩;have NR:Hid (w.heap.size<=b_R):=h_ (by omega);rw[<-e_R] at hR |-;clear e_R;go_wp2_with (first|fail|(with_reducible refine qb_ rfl _ rfl _ rfl _ hR rfl ?_))
 refine (KD.out _).mono ?_;rintro e v1 ⟨rfl,hb1⟩;replace hR:=hR.on hb1;replace bj:=tb_ bj hb1;clear hb1;have q2:=hR.lt;go_upto_region 2 with (with_reducible first|refine qb_ rfl _ rfl _ rfl _ hR rfl ?_|refine qc_ rfl _ _ rfl _ _ rfl rfl _ (Has.newz _) rfl ?_)
 generalize hw2:World.setRow _ _ _=v2;have hb2:Bl v1 v2:=bw_ hw2;have h3:Has v2 v1.heap.size (numC z) 26:=by rw[<-hw2];exact (Has.newz _).row _
 replace hR:=hR.on hb2;replace bj:=tb_ bj hb2;clear hw2 hb2;obtain ⟨b_h3,e_h3⟩:∃ x,x=v1.heap.size:=⟨_,rfl⟩;rw[<-e_h3] at h3 q2 |-;clear e_h3;have N_h3:=h_ q2;clear q2;cases lo
 case true=>
  go_wp2_with (with_reducible first|refine qb_ rfl _ rfl _ rfl _ (by assumption) rfl ?_|refine qf_ (by with_unfolding_all rfl) _ rfl _ rfl _ (by assumption) rfl ?_|refine qw_ rfl _ _ rfl _ 0 _ rfl rfl zero4 _ hR rfl ?_)
  exact bodyPost_ret (v:=.agg (numC 0)) (qi_ Tryz.results76 _ _ _ rfl (hR.row _)) rfl ⟨_,⟨qcy_,by have:=HE.out;simpa using this.symm⟩,rfl,below_setRow bj NR.out _⟩
 case false=>
  cases ov
  case true=>
   go_wp2_with (with_reducible first|refine qb_ rfl _ rfl _ rfl _ (by assumption) rfl ?_|refine qf_ (by with_unfolding_all rfl) _ rfl _ rfl _ (by assumption) rfl ?_|refine qw_ rfl _ _ rfl _ 0 _ rfl rfl zero4 _ hR rfl ?_)
   exact bodyPost_ret (v:=.agg (numC 0)) (qi_ Tryz.results76 _ _ _ rfl (hR.row _)) rfl ⟨_,⟨qcy_,by have:=HE.out;simpa using this.symm⟩,rfl,below_setRow bj NR.out _⟩
  case false=>
   cases g
   case true=>
    (go_wp2_with (with_reducible first|refine qb_ rfl _ rfl _ rfl _ (by assumption) rfl ?_|refine qf_ (by with_unfolding_all rfl) _ rfl _ rfl _ (by assumption) rfl ?_|refine qw_ rfl _ _ rfl _ 0 _ rfl rfl zero4 _ hR rfl ?_));exact bodyPost_ret (v:=.agg (numC 0)) (qi_ Tryz.results76 _ _ _ rfl (hR.row _)) rfl ⟨_,⟨qcy_,by have:=HE.out;simpa using this.symm⟩,rfl,below_setRow bj NR.out _⟩
   case false=>
    (go_wp2_with (with_reducible first|refine qb_ rfl _ rfl _ rfl _ (by assumption) rfl ?_|refine qf_ (by with_unfolding_all rfl) _ rfl _ rfl _ (by assumption) rfl ?_));refine (KO.out _).mono ?_;rintro e v9 ⟨y,hy,rfl,hb9⟩;have HY:=h_ hy;clear hy;replace hR:=hR.on hb9;replace h3:=h3.on hb9;replace bj:=tb_ bj hb9;clear hb9;(go_wp2_with (with_reducible first|refine qb_ rfl _ rfl _ rfl _ (by assumption) rfl ?_|refine qc_ rfl _ _ rfl _ _ rfl rfl _ hR rfl ?_));exact bodyPost_ret (v:=.agg (numC y)) (qi_ Tryz.results76 _ _ _ rfl (hR.row _)) rfl ⟨_,⟨HY.out.1,by have:=HE.out;rw[HY.out.2];simpa using this.symm⟩,rfl,below_setRow bj NR.out _⟩
end Go.Proofs.YtkbjaadjnbgfbaaGreatDoor.NN
namespace Go.Proofs.YtkbjaadjnbgfbaaGreatDoor.An
open Go.RowKit Mem Sc NN.Rg2
theorem PhA.mine {k s:Nat} {Pre:World->Prop} {Post:Value->World->Prop} {l:Array Bool} {a:Act} {w':World} (u:Value) (hi:k<l.size) (hs:s<a.tmps.size) (hp:Post u w'):PhA k s Pre Post (l.setIfInBounds k true) (a.put (some s) u) w' :=
 ⟨fun h=>(by rw[qx_ _ _ _ hi,if_pos rfl] at h;cases h),fun _=>by rw[qch_ a s u hs];exact hp⟩
theorem qvz_:∃ i z,Tryz.prog.info? 26=some i/\i.zero=some z/\i.size=4/\i.bytes=32/\z.cells.size=4:=qks_ (by kernel_rfl) (by kernel_rfl) (by kernel_rfl)
theorem qlf_ (cs:Array Value) (h:cs.size=4) (w:World):(Instr.buildSlice 70 1 #[(0,.agg cs)]).run Tryz.prog w = .ok (.slice (some ⟨w.heap.size,0,none⟩) 1 1) (w.alloc (.cells cs 26)):=by
 obtain ⟨i,z,hi,hz,h1,h2,h3⟩:=qvz_;refine run_buildSlice w 70 26 1 _ cs i z Tryz.underlying70 hi hz (by rw[h1];decide) (by rw[h1];decide) ?_;rw[h1];exact qik_ 4 _ cs (by simp) h
section
variable {ρ:Operand->Value} {o:Oper} {w:World}
variable {x:Operand}
theorem ex_max {y:Operand} {a b m:Int} (ho:o.op = .call { callee:=.builtin .max,args:=#[x,y],argTypes:=#[3,3] }) (hx:ρ x = i_ a) (hy:ρ y = i_ b) (hm:m=max a b):(execOp ρ o).run Tryz.prog w = .ok (.value (i_ m)) w:=by
 have hr:=NN.max_is (P:=Tryz.prog) a b m hm #[3,3] o.type w;unfold execOp;simp only[ho,resolve,invoke,builtin,Sem.run_bind,Sem.run_pure,Result.andThen_ok,List.map_toArray,List.map_cons,List.map_nil,hx,hy,hr]
theorem ex_box {T:TypeId} {cs:Array Value} (ho:o.op = .box T x) (hx:ρ x = .agg cs):(execOp ρ o).run Tryz.prog w = .ok (.value (.pointer (some ⟨w.heap.size,0,none⟩))) (w.alloc (.cells cs T)):=by
 unfold execOp;simp only[ho,hx];rfl
theorem qri_ {x0 x1 x2 x3 x4 x5:Operand} {p:NN.Pr} (ho:o.op = .build 72 #[(0,x0),(1,x1),(2,x2),(3,x3),(4,x4),(5,x5)]) (hp:p.ok) (h0:ρ x0 = .agg (NN.prA p)) {a1 a2 a3 a4:Option Addr} {n1 n2 n3 n4 c1 c2 c3 c4 room:Nat} (h1:ρ x1 = .slice a1 n1 c1) (h2:ρ x2 = .slice a2 n2 c2) (h3:ρ x3 = .slice a3 n3 c3) (h4:ρ x4 = .slice a4 n4 c4) (h5:ρ x5 = i_ room):(execOp ρ o).run Tryz.prog w = .ok (.value (.agg (rfA p (.slice a1 n1 c1) (.slice a2 n2 c2) (.slice a3 n3 c3) (.slice a4 n4 c4) room))) w:=by
 unfold execOp;simp only[ho,Sem.run_bind];rw[show (#[(0,x0),(1,x1),(2,x2),(3,x3),(4,x4),(5,x5)]:Array (Nat × Operand)).map (fun (i,x)=>(i,ρ x))=#[(0,.agg (NN.prA p)),(1,.slice a1 n1 c1),(2,.slice a2 n2 c2),(3,.slice a3 n3 c3),(4,.slice a4 n4 c4),(5,Value.int .i64 (room:Int))] by simp[h0,h1,h2,h3,h4,h5],run_build w 72 _ _ (qaih_ p hp a1 a2 a3 a4 n1 n2 n3 n4 c1 c2 c3 c4 room)];rfl
end
def Row1 (B:Nat) (cs:Array Value) (T:TypeId) (u:Value) (w:World):Prop:=∃ g,u = .slice (sp_ g) 1 1/\B<=g/\Has w g cs T
variable {B R:Nat} {cs:Array Value} {u:Value} {w w':World}
theorem Row1.on {T:TypeId} (h:Row1 B cs T u w) (hb:Bl w w'):Row1 B cs T u w':=by
 obtain ⟨g,h1,h2,h3⟩:=h;exact ⟨g,h1,h2,qd_ hb h3 h3.lt⟩
def NumV (x:Nat) (u:Value):Prop:=∃ z,(z<NN.Nm.big/\z=x)/\u = .agg (NN.numC z)
def RowN (B x:Nat) (u:Value) (w:World):Prop:=∃ z,(z<NN.Nm.big/\z=x)/\Row1 B (NN.numC z) 26 u w
theorem RowN.on {x:Nat} (h:RowN B x u w) (hb:Bl w w'):RowN B x u w':=by
 obtain ⟨z,h1,h2⟩:=h;exact ⟨z,h1,h2.on hb⟩
def RfV (B:Nat) (p:NN.Pr) (h:Hd) (id:List UInt8) (R:Nat) (cs:Array Value) (w:World):Prop:=∃ vH vI vA vW,cs=rfA p vH vI vA vW R/\Row1 B (hdA h) 30 vH w/\Row1 B (bytesV id) 28 vI w/\Row1 B #[i_ (-1)] 3 vA w/\RowN B (NN.ofBits h.bits) vW w
variable {p:NN.Pr} {h:Hd} {id:List UInt8}
theorem RfV.on (hv:RfV B p h id R cs w) (hb:Bl w w'):RfV B p h id R cs w':=by
 obtain ⟨vH,vI,vA,vW,h1,h2,h3,h4,h5⟩:=hv;exact ⟨vH,vI,vA,vW,h1,h2.on hb,h3.on hb,h4.on hb,h5.on hb⟩
def RfP (B:Nat) (p:NN.Pr) (h:Hd) (id:List UInt8) (R:Nat) (u:Value) (w:World):Prop:=∃ g cs,u = pp_ g/\B<=g/\Has w g cs 72/\RfV B p h id R cs w
theorem RfP.on (hv:RfP B p h id R u w) (hb:Bl w w'):RfP B p h id R u w':=by
 obtain ⟨g,cs,h1,h2,h3,h4⟩:=hv;exact ⟨g,cs,h1,h2,qd_ hb h3 h3.lt,h4.on hb⟩
def RnR (B bP:Nat) (p:NN.Pr) (h:Hd) (id:List UInt8) (room m1:Int) (R:Nat):Nat->Value->World->Prop
 | 0,u,_=>u = .agg (NN.prA p)
 | 1,u,_=>u = .pointer (some ⟨bP,15,none⟩)
 | 2,u,_=>u = .agg (hdA h)
 | 3,u,w=>Row1 B (hdA h) 30 u w
 | 4,u,_=>u = .pointer (some ⟨bP,15,none⟩)
 | 5,u,_=>u = .agg (hdA h)
 | 6,u,_=>u = .agg (bytesV id)
 | 7,u,w=>Row1 B (bytesV id) 28 u w
 | 8,u,w=>Row1 B #[i_ (-1)] 3 u w
 | 9,u,_=>u = .pointer (some ⟨bP,15,none⟩)
 | 10,u,_=>u = .pointer (some ⟨bP,81,none⟩)
 | 11,u,_=>u = i_ h.bits
 | 12,u,_=>NumV (NN.ofBits h.bits) u
 | 13,u,w=>RowN B (NN.ofBits h.bits) u w
 | 14,u,_=>u = i_ room
 | 15,u,_=>u = i_ m1
 | 16,u,_=>u = i_ R
 | 17,u,w=>∃ cs,u = .agg cs/\RfV B p h id R cs w
 | 18,u,w=>RfP B p h id R u w
 | 19,u,w=>RfP B p h id R u w
 | _,_,_=>B=B
theorem qaao_ {bP:Nat} {room m1:Int} :∀ (i:Nat) (u:Value) (w w':World),Bl w w'->RnR B bP p h id room m1 R i u w->RnR B bP p h id room m1 R i u w'
 | 0,_,_,_,_,h|1,_,_,_,_,h|2,_,_,_,_,h|4,_,_,_,_,h|5,_,_,_,_,h|6,_,_,_,_,h|9,_,_,_,_,h|10,_,_,_,_,h|11,_,_,_,_,h|12,_,_,_,_,h|14,_,_,_,_,h|15,_,_,_,_,h|16,_,_,_,_,h=>h
 | 3,_,_,_,hb,h=>Row1.on h hb
 | 7,_,_,_,hb,h=>Row1.on h hb
 | 8,_,_,_,hb,h=>Row1.on h hb
 | 13,_,_,_,hb,h=>RowN.on h hb
 | 17,_,_,_,hb,⟨cs,h1,h2⟩=>⟨cs,h1,h2.on hb⟩
 | 18,_,_,_,hb,h=>RfP.on h hb
 | 19,_,_,_,hb,h=>RfP.on h hb
 | _+20,_,_,_,_,_=>rfl
theorem rfnew_w (p:NN.Pr) (hp:p.ok) (t:Tl) (tt:p.tl=t.C) (ht:t.ok) (h:Hd) (hg:t.g=h) (ho:h.ok) (id:List UInt8) (i32:id.length=32) (room:Int) (w:World)
  (KI:HK_ w 75 #[.agg (hdA h)] (.agg (bytesV id))) :
  Cl_ 39 #[.agg (NN.prA p),.int .i64 room] w fun e w'=>∃ u,e = .returned u/\RfP w.heap.size p h id (clampR room) u w'/\Bl w w':=by
 have KO:=h_ (NN.qle_ h.bits);have z2:=qh_ ho;have zA:(hdA h).size=68:=by rw[hdA,List.size_toArray,z2]
 have zI:(bytesV id).size=32:=by simp[bytesV,i32]
 obtain ⟨m1,hm1⟩:∃ m1,m1=max room 1:=⟨_,rfl⟩;obtain ⟨R,hR⟩:∃ R,R=clampR room:=⟨_,rfl⟩;have hR2:(R:Int)=min m1 512:=by rw[hR,hm1,qpl_]
 have HM:=h_ (And.intro hm1 hR2);rw[<-hR];clear hR hm1 hR2;go_enter Tryz.func39,Tryz.ntmps39;go_upto_region 1 with fail
 generalize hw0:World.alloc _ _=v0;have hB:Bl w v0:=bl_ hw0;have hP:NN.PrAt v0 w.heap.size p:=by rw[<-hw0];exact NN.Has.new _ _
 clear hw0;obtain ⟨bP,hbP⟩:∃ x,x=w.heap.size:=⟨_,rfl⟩;have HBP:=h_ hbP;rw[<-hbP] at hP |-;clear hbP;refine qj_ (by kernel_rfl) (fun w'=>Bl w w'/\NN.PrAt w' bP p) (fun i v' w'=>RnR w.heap.size bP p h id room m1 R i v' w') (fun l a w'=>PhA 19 4 (fun _=>True) (fun u w'=>RfP w.heap.size p h id R u w') l a w') (fun w w'=>Bl w w') (fun _ _=>Below.refl _ _) (fun i v w w' _ hs h=>qaao_ i v w w' hs h) (by kernel_rfl) ⟨hB.trans (br_.drew.mono hB.size),Has.drew hP⟩ ?_ ?_ ?_;exact fun l hl=>PhA.zero hl trivial
 ·intro i o lz a wx ho' hnl dq Z;have hC:=Z.c;have hI:=Z.i;have hi:i<20:=(Array.getElem?_eq_some_iff.1 ho').1;have rP:wx.rangeAt bP 15 (hdC h):=by rw[<-hg];exact pr_gen hC.2 tt ht
  have rB:=qlc_ ho rP;have rA:wx.rangeAt bP 0 (NN.prC p):=qbh_ (A:=[]) (C:=[]) (t:=32) (by rw[List.append_nil];exact hC.2) rfl;obtain rfl|rfl|rfl|rfl|rfl|rfl|rfl|rfl|rfl|rfl|rfl|rfl|rfl|rfl|rfl|rfl|rfl|rfl|rfl|rfl:i=0\/i=1\/i=2\/i=3\/i=4\/i=5\/i=6\/i=7\/i=8\/i=9\/i=10\/i=11\/i=12\/i=13\/i=14\/i=15\/i=16\/i=17\/i=18\/i=19:=by omega
  all_goals obtain rfl:=Option.some.inj ho'
  exact dV_ (S:=fun w w'=>Bl w w') (fun _ _=>Below.refl _ _) 0 Z (qa_ rfl) (qex_ rfl (Z.old' 2) rA (qs_ hp)) rfl (hI.keep (hz_ Z 0));exact dV_ (S:=fun w w'=>Bl w w') (fun _ _=>Below.refl _ _) 1 Z (qa_ rfl) (qah_ rfl (Z.old' 2) (pfield9 wx bP)) rfl (hI.keep (hz_ Z 1));exact dV_ (S:=fun w w'=>Bl w w') (fun _ _=>Below.refl _ _) 2 Z (qa_ rfl) (qbr_ rfl (gd_ Z dq 1 6) rP z2) rfl (hI.keep (hz_ Z 2));have hsz:=hz_ Z 3;have hnK:=ah_ Z hnl 19;have hb:Bl wx (wx.alloc _):=br_.alloc (Nat.le_refl _) (.cells (hdA h) 30);exact dM_ (S:=fun w w'=>Bl w w') 3 Z (qa_ rfl) (NN.Rg2.qbu_ rfl (gd_ Z dq 2 7) (qin_ _ zA wx)) ⟨tb_ hC.1 hb,NN.PrAt.on hC.2 hb⟩ hb (⟨wx.heap.size,rfl,hC.1.size,Has.new _ _⟩) (PhA.made hnK trivial);exact dV_ (S:=fun w w'=>Bl w w') (fun _ _=>Below.refl _ _) 4 Z (qa_ rfl) (qah_ rfl (Z.old' 2) (pfield9 wx bP)) rfl (hI.keep (hz_ Z 4));exact dV_ (S:=fun w w'=>Bl w w') (fun _ _=>Below.refl _ _) 5 Z (qa_ rfl) (qbr_ rfl (gd_ Z dq 4 9) rP z2) rfl (hI.keep (hz_ Z 5))
  ·have hsz:=hz_ Z 6;have hnK:=ah_ Z hnl 19;have hpre:=hI.pre hnK hsz (by decide);exact dC_ (S:=fun w w'=>Bl w w') 6 Z (qa_ rfl) (f:=75) (args:=#[a.eval (.tmp 10)]) (by kernel_rfl) (by rw[show a.eval (.tmp 10)=_ from (gd_ Z dq 5 10)];  exact KI.out wx hC.1) (fun w' hb=>⟨⟨tb_ hC.1 hb,NN.PrAt.on hC.2 hb⟩,hb,rfl,PhA.made hnK (trivial)⟩)
  have hsz:=hz_ Z 7;have hnK:=ah_ Z hnl 19;have hb:Bl wx (wx.alloc _):=br_.alloc (Nat.le_refl _) (.cells (bytesV id) 28);exact dM_ (S:=fun w w'=>Bl w w') 7 Z (qa_ rfl) (NN.Rg2.qbu_ rfl (gd_ Z dq 6 11) (qjv_ _ zI wx)) ⟨tb_ hC.1 hb,NN.PrAt.on hC.2 hb⟩ hb (⟨wx.heap.size,rfl,hC.1.size,Has.new _ _⟩) (PhA.made hnK trivial);have hsz:=hz_ Z 8;have hnK:=ah_ Z hnl 19;have hb:Bl wx (wx.alloc _):=br_.alloc (Nat.le_refl _) (.cells #[.int .i64 (-1)] 3);exact dM_ (S:=fun w w'=>Bl w w') 8 Z (qa_ rfl) (NN.Rg2.qbu_ rfl rfl (qdw_ wx (-1))) ⟨tb_ hC.1 hb,NN.PrAt.on hC.2 hb⟩ hb (⟨wx.heap.size,rfl,hC.1.size,Has.new _ _⟩) (PhA.made hnK trivial);exact dV_ (S:=fun w w'=>Bl w w') (fun _ _=>Below.refl _ _) 9 Z (qa_ rfl) (qah_ rfl (Z.old' 2) (pfield9 wx bP)) rfl (hI.keep (hz_ Z 9));exact dV_ (S:=fun w w'=>Bl w w') (fun _ _=>Below.refl _ _) 10 Z (qa_ rfl) (qft_ rfl (gd_ Z dq 9 14) (hfield4o wx bP)) rfl (hI.keep (hz_ Z 10));exact dV_ (S:=fun w w'=>Bl w w') (fun _ _=>Below.refl _ _) 11 Z (qa_ rfl) (NN.qbj_ rfl (gd_ Z dq 10 15) rB) rfl (hI.keep (hz_ Z 11))
  ·have hsz:=hz_ Z 12;have hnK:=ah_ Z hnl 19;have e16:=(gd_ Z dq 11 16);refine dA_ (S:=fun w w'=>Bl w w') 12 Z (qa_ rfl) (f:=76) (args:=#[a.eval (.tmp 16)]) (by kernel_rfl) ?_;rw[e16];refine (KO.out wx).mono ?_;rintro e w' ⟨z,hz,rfl,hb⟩;exact ⟨_,rfl,⟨tb_ hC.1 hb,NN.PrAt.on hC.2 hb⟩,hb,⟨z,hz,rfl⟩,PhA.made hnK trivial⟩
  have hsz:=hz_ Z 13;have hnK:=ah_ Z hnl 19;obtain ⟨z,hz,e17⟩:=(gd_ Z dq 12 17);have hb:Bl wx (wx.alloc _):=br_.alloc (Nat.le_refl _) (.cells (NN.numC z) 26);exact dM_ (S:=fun w w'=>Bl w w') 13 Z (qa_ rfl) (NN.Rg2.qbu_ rfl e17 (qlf_ _ (NN.qau_ z) wx)) ⟨tb_ hC.1 hb,NN.PrAt.on hC.2 hb⟩ hb (⟨z,hz,wx.heap.size,rfl,hC.1.size,Has.new _ _⟩) (PhA.made hnK trivial);exact dV_ (S:=fun w w'=>Bl w w') (fun _ _=>Below.refl _ _) 14 Z (qa_ rfl) (NN.qr_ rfl) (Z.old' 1) (hI.keep (hz_ Z 14));exact dV_ (S:=fun w w'=>Bl w w') (fun _ _=>Below.refl _ _) 15 Z (qa_ rfl) (ex_max rfl (gd_ Z dq 14 19) rfl HM.out.1) rfl (hI.keep (hz_ Z 15));exact dV_ (S:=fun w w'=>Bl w w') (fun _ _=>Below.refl _ _) 16 Z (qa_ rfl) (ex_min rfl (gd_ Z dq 15 20) rfl HM.out.2) rfl (hI.keep (hz_ Z 16));have hsz:=hz_ Z 17;obtain ⟨g1,e8,k8,m8⟩:=(gd_ Z dq 3 8);obtain ⟨g2,e12,k12,m12⟩:=(gd_ Z dq 7 12);obtain ⟨g3,e13,k13,m13⟩:=(gd_ Z dq 8 13);obtain ⟨z,hz,g4,e18,k18,m18⟩:=(gd_ Z dq 13 18);exact dV_ (S:=fun w w'=>Bl w w') (fun _ _=>Below.refl _ _) 17 Z (qa_ rfl) (qri_ rfl hp (gd_ Z dq 0 5) e8 e12 e13 e18 (gd_ Z dq 16 21)) ⟨_,rfl,_,_,_,_,rfl,⟨g1,rfl,k8,m8⟩,⟨g2,rfl,k12,m12⟩,⟨g3,rfl,k13,m13⟩,z,hz,g4,rfl,k18,m18⟩ (hI.keep hsz);have hsz:=hz_ Z 18;have hnK:=ah_ Z hnl 19;obtain ⟨cs,e22,hv⟩:=(gd_ Z dq 17 22);have hb:Bl wx (wx.alloc _):=br_.alloc (Nat.le_refl _) (.cells cs 72);exact dM_ (S:=fun w w'=>Bl w w') 18 Z (qa_ rfl) (ex_box rfl e22) ⟨tb_ hC.1 hb,NN.PrAt.on hC.2 hb⟩ hb (⟨wx.heap.size,cs,rfl,hC.1.size,Has.new _ _,hv.on hb⟩) (PhA.made hnK trivial);exact dV_ (S:=fun w w'=>Bl w w') (fun _ _=>Below.refl _ _) 19 Z (qa_ rfl) (NN.qan_ rfl) (gd_ Z dq 18 23) (PhA.mine _ (hz_ Z 19) (by rw[Z.tsize];exact (show 4<24 by decide)) (gd_ Z dq 18 23))
 intro lz a' v1 hall Z;have hC:=Z.c;obtain ⟨g,cs,e4,hg4,hh4,hv4⟩:=Z.i.2 (hall 19 (by decide));obtain ⟨u,hu⟩:∃ u:Nat->Value,∀ t,u t=a'.eval (.tmp t):=⟨_,fun _=>rfl⟩;rw[qbc_ a' 24 u Z.tsize Z.defers hu];rw[<-hu] at e4;clear hu Z hall;simp only[List.range,List.range.loop,List.map_cons,List.map_nil];rw[e4];clear e4;go_wp2_with fail
 go_ret;exact ⟨_,rfl,⟨g,cs,rfl,hg4,hh4,hv4⟩,hC.1⟩
open Ar (Ent Ru entZ)
theorem add_bad (b:Nat) (h:Hd) (ho:h.ok) (now:Int) (w:World) (KG:HK_ w 118 #[.agg (hdA h)] (.bool false)) :
  Ca_ 84 #[.pointer (some ⟨b,0,none⟩),.agg (hdA h),.int .i64 now] w (.tuple #[.int .i64 (-1),.int .i64 1,.int .i64 8]):=by
 have za:=qv_ ho;go_enter Tryz.func84,Tryz.ntmps84;go_upto_region 1 with fail
 generalize hw0:World.alloc _ _=v0;have hB:Below w.heap.size w v0:=bl_ hw0;have hH:HdAt v0 w.heap.size h:=by rw[<-hw0];exact Has.new _ _
 clear hw0;obtain ⟨bH,hbH⟩:∃ x,x=w.heap.size:=⟨_,rfl⟩;rw[<-hbH] at hH |-;have HBH:Hid (bH=w.heap.size):=h_ hbH;clear hbH;go_wp2_with (first|fail|(with_reducible refine qai_ rfl _ rfl _ rfl hH za ?_))
 refine (KG.out _ hB).mono ?_;rintro e v1 ⟨rfl,hb⟩;replace hH:=hH.on hb;replace hB:=tb_ hB hb;clear hb;go_wp2_with fail
 go_ret3
 exact ⟨rfl,hB⟩
theorem qaap_ (b:Nat) (h:Hd) (ho:h.ok) (now:Int) (w:World) (KG:HK_ w 118 #[.agg (hdA h)] (.bool true)) (id:List UInt8) (i32:id.length=32) (KI:HK_ w 119 #[.agg (hdA h)] (.agg (bytesV id))) (i:Nat) (KF:HK_ w 120 #[.pointer (some ⟨b,0,none⟩),.agg (bytesV id)] (.int .i64 (i:Int))) :
  Ca_ 84 #[.pointer (some ⟨b,0,none⟩),.agg (hdA h),.int .i64 now] w (.tuple #[.int .i64 (i:Int),.int .i64 0,.int .i64 0]):=by
 have za:=qv_ ho;go_enter Tryz.func84,Tryz.ntmps84;go_upto_region 1 with fail
 generalize hw0:World.alloc _ _=v0;have hB:Below w.heap.size w v0:=bl_ hw0;have hH:HdAt v0 w.heap.size h:=by rw[<-hw0];exact Has.new _ _
 clear hw0;obtain ⟨bH,hbH⟩:∃ x,x=w.heap.size:=⟨_,rfl⟩;rw[<-hbH] at hH |-;have HBH:Hid (bH=w.heap.size):=h_ hbH;clear hbH;go_wp2_with (first|fail|(with_reducible refine qai_ rfl _ rfl _ rfl hH za ?_))
 refine (KG.out _ hB).mono ?_;rintro e v1 ⟨rfl,hb⟩;replace hH:=hH.on hb;replace hB:=tb_ hB hb;clear hb;go_wp2_with (first|fail|(with_reducible refine qai_ rfl _ rfl _ rfl hH za ?_))
 refine (KI.out _ hB).mono ?_;rintro e v2 ⟨rfl,hb⟩;replace hH:=hH.on hb;replace hB:=tb_ hB hb;clear hb;have s1:(bytesV id).size=32:=by rw[qn_];exact i32
 have o1:=qy_ id;have HW2:Hid (w.heap.size<=v2.heap.size):=h_ hB.size;go_upto_region 6 with (with_reducible refine qcc_ rfl _ _ rfl _ (bytesV id) (bytesV id) rfl rfl rfl s1 o1 h0 (h0_new v2 _) rfl ?_)
 generalize hw4:World.setRow _ _ _=v3;have hb2:Below v2.heap.size v2 v3:=bw_ hw4;have hI:Has v3 v2.heap.size (bytesV id) 28:=by rw[<-hw4];exact Has.row (h0_new v2 _) _
 replace hH:=hH.on hb2;replace hB:=tb_ hB hb2;clear hw4 hb2 o1;obtain ⟨bI,hbI⟩:∃ b,b=v2.heap.size:=⟨_,rfl⟩;rw[<-hbI] at hI HW2 |-;clear hbI;go_wp2_with (first|fail|(with_reducible refine qeb_ rfl _ rfl _ rfl _ hI s1 ?_))
 refine (KF.out _ hB).mono ?_;rintro e v4 ⟨rfl,hb⟩;replace hH:=hH.on hb;replace hI:=qd_ hb hI (Has.lt hI);replace hB:=tb_ hB hb;clear hb;go_wp2_with fail
 go_ret3
 exact ⟨rfl,hB⟩
theorem qaip_ (b:Nat) (h:Hd) (ho:h.ok) (now:Int) (w:World) (KG:HK_ w 118 #[.agg (hdA h)] (.bool true)) (id:List UInt8) (i32:id.length=32) (KI:HK_ w 119 #[.agg (hdA h)] (.agg (bytesV id))) (KF:HK_ w 120 #[.pointer (some ⟨b,0,none⟩),.agg (bytesV id)] (.int .i64 (-1))) (KP:HK_ w 120 #[.pointer (some ⟨b,0,none⟩),.agg (bytesV h.prev)] (.int .i64 (-1))) :
  Ca_ 84 #[.pointer (some ⟨b,0,none⟩),.agg (hdA h),.int .i64 now] w (.tuple #[.int .i64 (-1),.int .i64 2,.int .i64 5]):=by
 have za:=qv_ ho;go_enter Tryz.func84,Tryz.ntmps84;go_upto_region 1 with fail
 generalize hw0:World.alloc _ _=v0;have hB:Below w.heap.size w v0:=bl_ hw0;have hH:HdAt v0 w.heap.size h:=by rw[<-hw0];exact Has.new _ _
 clear hw0;obtain ⟨bH,hbH⟩:∃ x,x=w.heap.size:=⟨_,rfl⟩;rw[<-hbH] at hH |-;have HBH:Hid (bH=w.heap.size):=h_ hbH;clear hbH;go_wp2_with (first|fail|(with_reducible refine qai_ rfl _ rfl _ rfl hH za ?_))
 refine (KG.out _ hB).mono ?_;rintro e v1 ⟨rfl,hb⟩;replace hH:=hH.on hb;replace hB:=tb_ hB hb;clear hb;go_wp2_with (first|fail|(with_reducible refine qai_ rfl _ rfl _ rfl hH za ?_))
 refine (KI.out _ hB).mono ?_;rintro e v2 ⟨rfl,hb⟩;replace hH:=hH.on hb;replace hB:=tb_ hB hb;clear hb;have s1:(bytesV id).size=32:=by rw[qn_];exact i32
 have o1:=qy_ id;have HW2:Hid (w.heap.size<=v2.heap.size):=h_ hB.size;go_upto_region 6 with (with_reducible refine qcc_ rfl _ _ rfl _ (bytesV id) (bytesV id) rfl rfl rfl s1 o1 h0 (h0_new v2 _) rfl ?_)
 generalize hw4:World.setRow _ _ _=v3;have hb2:Below v2.heap.size v2 v3:=bw_ hw4;have hI:Has v3 v2.heap.size (bytesV id) 28:=by rw[<-hw4];exact Has.row (h0_new v2 _) _
 replace hH:=hH.on hb2;replace hB:=tb_ hB hb2;clear hw4 hb2 o1;obtain ⟨bI,hbI⟩:∃ b,b=v2.heap.size:=⟨_,rfl⟩;rw[<-hbI] at hI HW2 |-;clear hbI;go_wp2_with (first|fail|(with_reducible refine qeb_ rfl _ rfl _ rfl _ hI s1 ?_))
 refine (KF.out _ hB).mono ?_;rintro e v4 ⟨rfl,hb⟩;replace hH:=hH.on hb;replace hI:=qd_ hb hI (Has.lt hI);replace hB:=tb_ hB hb;clear hb;have rp:=hH.prev;have s2:=qk_ ho.1;go_wp2_with (first|fail|(with_reducible refine qac_ rfl _ rfl bH 1 rfl h.prev rp s2 ?_))
 refine (KP.out _ hB).mono ?_;rintro e v5 ⟨rfl,hb⟩;replace hH:=hH.on hb;replace hI:=qd_ hb hI (Has.lt hI);replace hB:=tb_ hB hb;clear hb;clear rp;go_wp2_with fail
 go_ret3
 exact ⟨rfl,hB⟩
theorem qaaq_ (b:Nat) (h:Hd) (ho:h.ok) (now:Int) (w:World) (KG:HK_ w 118 #[.agg (hdA h)] (.bool true)) (id:List UInt8) (i32:id.length=32) (KI:HK_ w 119 #[.agg (hdA h)] (.agg (bytesV id))) (KF:HK_ w 120 #[.pointer (some ⟨b,0,none⟩),.agg (bytesV id)] (.int .i64 (-1))) {I:Nat->Prop} {p:NN.Pr} {t:Tl} {gs:List Gt} {cs:List Ck} {room g n c mb:Nat} {L:List Bk} (HA:Hid (∀w',Below w.heap.size w w'->Ara w' I b p t gs cs room (.slice (some ⟨g,0,none⟩) n c) mb L)) (x:Bk) (xe:x.e.ok) (xs:x.s.ok) (j:Nat) (hj:j<n) (HR:Hid (∀w',Below w.heap.size w w'->w'.rangeAt g (j*144) (bkC x.e x.s))) (KP:HK_ w 120 #[.pointer (some ⟨b,0,none⟩),.agg (bytesV h.prev)] (.int .i64 (j:Int))) (y:Int) (hy:(y==0)=false) (KC:HK_ w 121 #[.agg (NN.prA p),.agg (spA x.s),.agg (hdA h),.int .i64 now] (.int .i64 y)) :
  Ca_ 84 #[.pointer (some ⟨b,0,none⟩),.agg (hdA h),.int .i64 now] w (.tuple #[.int .i64 (-1),.int .i64 y,.int .i64 8]):=by
 have za:=qv_ ho;go_enter Tryz.func84,Tryz.ntmps84;go_upto_region 1 with fail
 generalize hw0:World.alloc _ _=v0;have hB:Below w.heap.size w v0:=bl_ hw0;have hH:HdAt v0 w.heap.size h:=by rw[<-hw0];exact Has.new _ _
 clear hw0;obtain ⟨bH,hbH⟩:∃ x,x=w.heap.size:=⟨_,rfl⟩;rw[<-hbH] at hH |-;have HBH:Hid (bH=w.heap.size):=h_ hbH;clear hbH;go_wp2_with (first|fail|(with_reducible refine qai_ rfl _ rfl _ rfl hH za ?_))
 refine (KG.out _ hB).mono ?_;rintro e v1 ⟨rfl,hb⟩;replace hH:=hH.on hb;replace hB:=tb_ hB hb;clear hb;go_wp2_with (first|fail|(with_reducible refine qai_ rfl _ rfl _ rfl hH za ?_))
 refine (KI.out _ hB).mono ?_;rintro e v2 ⟨rfl,hb⟩;replace hH:=hH.on hb;replace hB:=tb_ hB hb;clear hb;have s1:(bytesV id).size=32:=by rw[qn_];exact i32
 have o1:=qy_ id;have HW2:Hid (w.heap.size<=v2.heap.size):=h_ hB.size;go_upto_region 6 with (with_reducible refine qcc_ rfl _ _ rfl _ (bytesV id) (bytesV id) rfl rfl rfl s1 o1 h0 (h0_new v2 _) rfl ?_)
 generalize hw4:World.setRow _ _ _=v3;have hb2:Below v2.heap.size v2 v3:=bw_ hw4;have hI:Has v3 v2.heap.size (bytesV id) 28:=by rw[<-hw4];exact Has.row (h0_new v2 _) _
 replace hH:=hH.on hb2;replace hB:=tb_ hB hb2;clear hw4 hb2 o1;obtain ⟨bI,hbI⟩:∃ b,b=v2.heap.size:=⟨_,rfl⟩;rw[<-hbI] at hI HW2 |-;clear hbI;go_wp2_with (first|fail|(with_reducible refine qeb_ rfl _ rfl _ rfl _ hI s1 ?_))
 refine (KF.out _ hB).mono ?_;rintro e v4 ⟨rfl,hb⟩;replace hH:=hH.on hb;replace hI:=qd_ hb hI (Has.lt hI);replace hB:=tb_ hB hb;clear hb;have rp:=hH.prev;have s2:=qk_ ho.1;go_wp2_with (first|fail|(with_reducible refine qac_ rfl _ rfl bH 1 rfl h.prev rp s2 ?_))
 refine (KP.out _ hB).mono ?_;rintro e v5 ⟨rfl,hb⟩;replace hH:=hH.on hb;replace hI:=qd_ hb hI (Has.lt hI);replace hB:=tb_ hB hb;clear hb;clear rp;have hA5:=HA.out _ hB;have c84:=ar84 hA5.has hA5.pok;have rs:=qmy_ xe (HR.out _ hB);have z3:=qca_ xs;have z4:=qby_ xs;have z0:=qby_ spZ_ok;have hp:=hA5.pok;clear hA5;have HW5:Hid (w.heap.size<=v5.heap.size):=h_ hB.size
 go_upto_region 13 with (first
  | (with_reducible refine qev_ rfl _ rfl g (j*144+106) rfl x.s rs z3 ?_)
  | (with_reducible refine qgr_ rfl _ _ rfl _ _ x.s rfl rfl rfl z4 (qgq_ v5) z0 ?_))
 generalize hw4:World.setRow _ _ _=v6;have hb2:Below v5.heap.size v5 v6:=bw_ hw4;have hS:SpAt v6 v5.heap.size x.s:=by rw[<-hw4];exact Has.row (qgq_ v5) _
 replace hH:=hH.on hb2;replace hI:=qd_ hb2 hI (Has.lt hI);replace hB:=tb_ hB hb2;clear hw4 hb2 c84 rs;obtain ⟨bS,hbS⟩:∃ b,b=v5.heap.size:=⟨_,rfl⟩;rw[<-hbS] at hS HW5 |-;clear hbS;simp only[Act.put];have hz:=qs_ hp;have ra:=qaw_ (ar_pr (HA.out _ hB).has) (by rw[hz];omega);have qS:=hS.cls;have qH:=qaw_ hH.range (qdg_ h);have sh:=qh_ ho;have HBr:∀ d os,Below w.heap.size w (Sort.grow (redrawn v6 d) os):=fun d os=>hB.trans ((below_regrown v6 d os).mono hB.size)
 refine wp_region_quiet_below (by kernel_rfl) (by kernel_rfl) ?_
 repeat (first
  | (go_big_quiet_want;(with_reducible first|refine qiz_ 32 _ rfl b 0 rfl (NN.prC p) _ Tryz.underlying32 rfl (NN.prinfo.trans (by rw[hz])) ra ?_|refine qdl_ _ rfl bS rfl z4 qS ?_|refine qaz_ _ rfl bH 0 rfl h sh qH ?_);(simp only[Act.put,List.setIfInBounds_toArray,List.set_cons_zero,List.set_cons_succ]);go_big_quiet_on)
  | go_big_quiet_step ((go_at_call 121;exact Calls.regrown_of (KC.out _ (HBr _ _)))))
 refine wpQuiet_nil ?_;intro v7 hw';have hb:=qae_ v7 hw';replace hH:=hH.on hb;replace hI:=qd_ hb hI (Has.lt hI);replace hS:=hS.on hb;replace hB:=tb_ hB hb;clear hw' hb ra qS qH sh HBr;go_wp2_with fail
 go_ret3
 exact ⟨rfl,hB⟩
end Go.Proofs.YtkbjaadjnbgfbaaGreatDoor.An
