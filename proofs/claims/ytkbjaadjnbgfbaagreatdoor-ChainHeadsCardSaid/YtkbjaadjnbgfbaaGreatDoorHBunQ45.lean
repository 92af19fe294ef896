import Derived.Test.YtkbjaadjnbgfbaaGreatDoorHBunQ44
set_option maxRecDepth 100000
set_option maxHeartbeats 8000000
namespace Go.Proofs.YtkbjaadjnbgfbaaGreatDoor.An
open Go.RowKit Mem Sc NN.VI
open Ar (av Ru aN Ok dB Row dV Up fR gS)
open Mk (ik jS aP pb verdict cZ cG iH word fX)
theorem Jn(r:Ru)(M:List av)(h:Hd)(now:Int):∃X,(Ar.add r M h now).2=M++X:=by
 unfold Ar.add;repeat' (first|split|dsimp only)
 all_goals first|exact⟨[],(dW _).symm⟩|exact⟨_,rfl⟩
noncomputable def dP(M:List av)(S:Mk.St)(y:Ac):Mk.St:=if y.kind=1 then(verdict M.length S y.n y.rt).2 else if y.kind=2 then(cZ M.length S y.n).2 else if y.kind=3 then(cG M S y.n).2 else S
def cQ(r:Ru)(M:List av)(y:Ac):List av:=if y.kind=0 then(Ar.add r M y.h y.now).2 else M
def gU(K L:List Int)(y:Ac):List Int:=if y.kind=4 then Ch.l_ K L else if y.kind=5 then K else L
def tN(w0 w:World)(r:Ru)(bb cb mr bt mb mg bm rb:Nat)(M:List av)(S:Mk.St)(L:List Int):Prop:=∃tip:Nat,Row M (tip:Int) L/\bF w0 w r bb cb mr bt mb mg bm rb [] M M S S tip L
variable{w0 w w':World}{r:Ru}{bb cb mr bt mb mg bm rb B:Nat}{M:List av}{S:Mk.St}{L:List Int}
theorem tN.below(h:tN w0 w r bb cb mr bt mb mg bm rb M S L)(hb:Bl w w'):tN w0 w' r bb cb mr bt mb mg bm rb M S L:=by obtain⟨tip,h1,h2⟩:=h;exact⟨tip,h1,h2.below hb⟩
def uc(B:Nat)(r:Ru)(cb bt mb mg:Nat)(F:Nat->Prop)(w:World):Prop:=iI w F mb mg (bs bt) r [aN] Mk.oC/\Has w cb (QJ bt mb 0) 88/\(∀i,F i->B<=i/\i≠cb)/\B<=mb/\B<=mg/\B<=cb/\mb≠cb/\mg≠cb
variable{F:Nat->Prop}
theorem uc.below(h:uc B r cb bt mb mg F w)(hb:Bl w w'):uc B r cb bt mb mg F w':=⟨h.1.below hb,(si hb).has h.2.1 (fun h=>h),h.2.2⟩
theorem vw(p:NN.Pr)(hp:p.ok)(z:Int)(r:Ru)(w:World)(KN:og w fun w'=>aU 70 #[.agg (NN.aV p),i_ z] w' fun e w''=>∃b F,e=.returned (.tuple #[af b,i_ 0])/\jU w'' F b r [aN] [-1]/\(∀i,F i->w'.heap.size<=i)/\Bl w' w''):aU 36 #[.agg (NN.aV p),i_ z] w fun e w'=>∃cb bt mb mg F,e=.returned (.tuple #[af cb,i_ 0])/\uc w.heap.size r cb bt mb mg F w'/\Bl w w':=by
 have hz:=NN.gT hp;go_enter Tryz.func36,Tryz.ntmps36;go_upto_region 1 with fail
 generalize hw0:World.alloc _ _=v0;have hB:Bl w v0:=eT hw0;have hP:NN.aK v0 w.heap.size p:=by rw[<-hw0];exact NN.Has.new _ _
 clear hw0;go_wp2_with (first|fail|(with_reducible refine NN.fK rfl _ rfl _ rfl hP hz ?_))
 refine(KN.out _ hB).mono ?_;rintro e v1 ⟨bt,F,rfl,hS,hF,hb⟩;have hB1:=ai hB hb;have HF:Hid (∀i,F i->w.heap.size<=i):=h_ fun i hi=>ax hB.size (hF i hi)
 have HS:=h_ hS;have HB1:=h_ hB1;clear hb hF hB hB1 hP hS KN;go_wp2_with fail
 refine(Gg (bs bt) v1).mono ?_;rintro e v2 ⟨mb,mg,rfl,h1,h2,h3,h4,hb⟩;have hM:iI v2 F mb mg (bs bt) r [aN] Mk.oC:=⟨.inl ⟨bt,[-1],rfl,HS.out.below hb,rfl⟩,h3,h4,fun hf=>by have:=HS.out.1 _ hf;omega,fun hf=>by have:=HS.out.1 _ hf;omega⟩;have HMl:Hid (mb<v2.heap.size/\mg<v2.heap.size/\w.heap.size<=mb/\w.heap.size<=mg):=h_ ⟨Has.lt h3,h4.lt,ax HB1.out.size h2,ax HB1.out.size h1⟩;have HM:=h_ hM;have HB2:=h_ (ai HB1.out hb);have Hb:=h_ hb;clear h1 h2 h3 h4 hb hM;go_wp2_with fail
 go_ret2;have hb3:Bl v2 (v2.alloc (.cells (QJ bt mb 0) 88)):=cu;exact⟨v2.heap.size,bt,mb,mg,F,rfl,⟨HM.out.below hb3,Has.new _ _,fun i hi=>⟨HF.out i hi,jR (b_ (HS.out.1 i hi) Hb.out.size)⟩,HMl.out.2.2.1,HMl.out.2.2.2,HB2.out.size,jR HMl.out.1,jR HMl.out.2.1⟩,ai HB2.out hb3⟩
theorem yU(bm:Nat)(w:World):aU 38 #[af bm] w fun e w'=>∃mr rb ag,e=.returned (af mr)/\w.heap.size<=mr/\w.heap.size<=rb/\w.heap.size<=ag/\gO w' rb Mk.oC/\Has w' ag #[i_ 0] 3/\Has w' mr (MP bm rb (.slice (bs ag) 1 1)) 66/\Bl w w':=by
 go_enter Tryz.func38,Tryz.ntmps38;go_wp2_with fail
 refine(yK w).mono ?_;rintro e v1 ⟨rb,rfl,h1,h2,hb⟩;have H1:=h_ h1;have H2:=h_ h2;have Hb:=h_ hb;clear h1 h2 hb;go_wp2_with fail
 go_ret;have hb1:Bl v1 (v1.alloc (.cells #[i_ 0] 3)):=cu;have hA:=Has.new (w:=v1) #[i_ 0] 3;have hs:=eZ v1 (.cells #[i_ 0] 3);have ha:v1.heap.size<=(v1.alloc (.cells #[i_ 0] 3)).heap.size:=hb1.size;generalize(v1.alloc (.cells #[i_ 0] 3))=v2 at*;have hb2:Bl v2 (v2.alloc (.cells (MP bm rb (.slice (some ⟨v1.heap.size,0,none⟩) 1 1)) 66)):=cu;have h12:=ai hb1 hb2;have hn:=Hb.out.size;exact⟨v2.heap.size,rb,v1.heap.size,aJ (fun b=>Ending.returned (af b)) hs.symm,by omega,H1.out,hn,H2.out.below h12,(si hb2).has hA (fun h=>h),Has.new _ _,Hb.out.trans (h12.mono hn)⟩
theorem Lb(p:NN.Pr)(hp:p.ok)(h1:p.one)(t:Tl)(tt:p.tl=t.C)(ht:t.ok)(gs:List Gt)(cs:List Ck)(hgn:t.gn=gs.length)(hcn:t.cn=cs.length)(am6:gs.length<=1000)(am7:cs.length<=1000)(hr:na p t.g gs cs=true)(w:World)(hT:gj w)(hG:bc w t.ga gs)(hC:aI w t.ca cs):aU 11 #[.agg (NN.aV p)] w fun e w'=>∃bb cb mr bt mb mg bm rb,e=.returned (af bb)/\tN w w' ⟨p,t.g,gs,cs,100⟩ bb cb mr bt mb mg bm rb [aN] Mk.oC [0]:=by
 have KN:Hid (∀w',Bl w w'->aU 36 #[.agg (NN.aV p),i_ 100] w' fun e w''=>∃cb bt mb mg F,e=.returned (.tuple #[af cb,i_ 0])/\uc w'.heap.size ⟨p,t.g,gs,cs,100⟩ cb bt mb mg F w''/\Bl w' w''):=h_ fun w' hb=>vw p hp 100 _ w' (h_ fun w2 hb2=>by
  have hb3:=ai hb hb2;exact CF p hp h1 t tt ht gs cs hgn hcn (by omega) (by omega) 100 hr w2 (hT.below hb3) (hG.below hb3) (hC.below hb3))
 have KF:Hid (∀w',Bl w w'->aU 39 #[.agg (NN.aV p),i_ 100] w' fun e w''=>∃b,e=.returned (af b)/\km w'' w.heap.size (fun i=>w'.heap.size<=i/\i<w''.heap.size) b ⟨p,t.g,gs,cs,100⟩ [aN]/\Bl w' w''):=h_ fun w' hb=>Jt p hp h1 t tt ht gs cs hgn hcn 100 w w' hb hG hC
 generalize(⟨p,t.g,gs,cs,100⟩:Ru)=r at*;have hz:=NN.gT hp;clear hT hG hC hr;go_enter Tryz.func11,Tryz.ntmps11;go_upto_region 1 with fail
 generalize hw0:World.alloc _ _=v0;have hB:Bl w v0:=eT hw0;have hP:NN.aK v0 w.heap.size p:=by rw[<-hw0];exact NN.Has.new _ _
 clear hw0;obtain⟨bP,VF⟩:∃x,x=w.heap.size:=⟨_,rfl⟩;rw[<-VF]at hP|-;clear VF;go_wp2_with (first|fail|(with_reducible refine NN.fK rfl _ rfl _ rfl hP hz ?_))
 refine(KN.out _ hB).mono ?_;rintro e v1 ⟨cb,bt,mb,mg,F,rfl,hS,hb⟩;replace hP:=hP.on hb;have H0:=h_ hB.size;have HS:=h_ hS;replace hB:=ai hB hb;clear hb hS KN;go_wp2_with (first|fail|(with_reducible refine NN.fK rfl _ rfl _ rfl hP hz ?_))
 refine(KF.out _ hB).mono ?_;rintro e v2 ⟨bm,rfl,hR,hb⟩;have H1:=h_ hB.size;have HR:=h_ hR;have HS2:=h_ (HS.out.below hb);have HL:Hid (mb<v1.heap.size/\mg<v1.heap.size/\cb<v1.heap.size/\∀i,F i->i<v1.heap.size):=h_ ⟨Has.lt HS.out.1.2.1,HS.out.1.2.2.1.lt,HS.out.2.1.lt,fun i hi=>HS.out.1.tlt hi⟩;have H12:=h_ hb.size;replace hB:=ai hB hb;clear hb hR KF hP HS;go_wp2_with fail
 refine(yU bm v2).mono ?_;rintro e v3 ⟨mr,rb,ag,rfl,r1,r2,r3,r4,r5,r6,hb⟩;have H23:=h_ hb.size;have YL:=h_ (HS2.out.below hb);have HR3:=h_ (HR.out.below hb);have HQ:Hid (v2.heap.size<=mr/\v2.heap.size<=rb/\v2.heap.size<=ag):=h_ ⟨r1,r2,r3⟩;have HK:=h_ r4;have HA:=h_ r5;have HM:=h_ r6;have HB:=h_ (ai hB hb);clear hB hb r1 r2 r3 r4 r5 r6 HS2 HR;go_wp2_with fail
 go_ret;have hb:Bl v3 (v3.alloc (.cells (U3 cb mr) 58)):=cu;obtain⟨s1,s2,s3,s4,s5,s6,s7,s8⟩:=YL.out.below hb;have hR:=HR3.out.below hb;have hA:=(si hb).has HA.out (fun h=>h);have hM:=(si hb).has HM.out (fun h=>h);have hK:=HK.out.below hb;obtain⟨l1,l2,l3,l4⟩:=HL.out;obtain⟨m1,m2,m3⟩:=HQ.out;have k0:=H0.out;have k1:=H1.out;have k2:=H12.out;have k3:=H23.out;have kw:=HB.out.size;have n1:rb<v3.heap.size:=Has.lt HK.out;have n2:mr<v3.heap.size:=HM.out.lt;have n3:ag<v3.heap.size:=HA.out.lt;have d1:mr≠rb:=dK hM hK (by decide);have d2:ag≠rb:=dK hA hK (by decide);refine⟨v3.heap.size,cb,mr,bt,mb,mg,bm,rb,rfl,0,.snoc 0 aN [] rfl .nil,fun _ h=>(by cases h),ag,#[i_ 0],⟨au _,fun k z hk=>?_⟩,⟨F,_,s1,hR,hK,fun i hi=>⟨by have:=(s3 i hi).1;omega,by have:=l4 i hi;omega,by have:=l4 i hi;omega⟩,fun i hi=>⟨by omega,by omega,by omega⟩,⟨by omega,by omega,by omega,by omega,by omega⟩,fun i c T hx=>?_⟩,HB.out.trans (hb.mono kw)⟩
 ·match k,hk with
  | 0,hk=>cases hk;rfl
  | k+1,hk=>simp at hk
 ·have nf:∀i,v1.heap.size<=i->¬F i:=fun i hi hf=>by have:=l4 i hf;omega
  cases hx with
  | bb=>exact⟨Has.new _ _,by omega,nf _ (by omega),fun hf=>by omega,by omega,by omega,by omega⟩
  | cb=>exact⟨s2,by omega,fun hf=>(s3 _ hf).2 rfl,fun hf=>by omega,s7.symm,s8.symm,by omega⟩
  | mr=>exact⟨hM,by omega,nf _ (by omega),fun hf=>by omega,by omega,by omega,d1⟩
  | ag=>exact⟨hA,by omega,nf _ (by omega),fun hf=>by omega,by omega,by omega,d2⟩
  | act p hp=>cases hp
theorem uc.h(h:uc B r cb bt mb mg F w):Hid (QO w cb bt 0 (cX r aN)):=h_ ⟨fun w' hb=>Has.cell (h.below hb).2.1 0,fun w' hb=>⟨Has.cell (h.below hb).2.1 2,Has.free (h.below hb).2.1 2⟩,fun w' hb=>pr (Has.cell (h.below hb).2.1 2),fun w' hb=>by
 obtain⟨⟨b,ls,e,h1,_⟩|⟨e,_⟩,_⟩:=(h.below hb).1;cases e;exact iq h1 rfl _ rfl;cases e⟩
theorem Km(h:uc B r cb bt mb mg F w):ar 19 #[af cb] w (i_ 0):=
 LN (bs cb) (bs mb) _ (h_ fun w' hb=>QG (Has.cell (h.below hb).2.1 1)) (h_ fun w' hb=>by
  have:=((h.below hb).1.rd (.inr (Ok.one r)) (by decide)).jj (Ok.one r) (Ci (Ok.one r) (Mk.Good.start 1 (by decide)))
  rwa[show Mk.top (Hv r [aN]) (fun i=>aP [aN] Mk.oC (i:Int)) ([aN]:List av).length=0 from by
   show(if _/\_ then 0 else 0)=0;split<;>rfl] at this)
theorem Qu(h:uc B r cb bt mb mg F w):aU 22 #[af cb] w fun e w'=>e=.returned (i_ 0)/\uc B r cb bt mb mg F w'/\Bl w w':=
 (Jv (bs cb) 0 (h_ fun w' hb=>Km (h.below hb)) 0 (by decide) (fun w' n=>n=0/\uc B r cb bt mb mg F w'/\Bl w w') (fun w' hb=>⟨rfl,h.below hb,hb⟩) (h_ fun w' n hn=>by
  obtain⟨rfl,h1,h2⟩:=hn;exact(De h1.h).mono fun e w'' h3=>⟨h3.1,rfl,h1.below h3.2,ai h2 h3.2⟩)).mono fun e w' h1=>⟨h1.1,h1.2.2⟩
theorem J7(h:uc B r cb bt mb mg F w):aU 23 #[af cb] w fun e w'=>∃p c,e=.returned (.slice p 1 c)/\Bl w w':=by refine(I0 (cb:=cb) (bt:=bt) (tip:=0) 0 [] rfl (by decide) (h_ fun w' hb=>⟨Has.cell (h.below hb).2.1 0,Has.cell (h.below hb).2.1 2⟩) (h_ fun w' hb=>?_)).mono ?_;obtain⟨⟨b,ls,e,h1,_⟩|⟨e,_⟩,_⟩:=(h.below hb).1;cases e;exact AV h1 (Ok.one r) (by decide) 0 aN rfl [0] (.snoc 0 aN [] rfl .nil);cases e;rintro e w' ⟨v,rfl,hv,hb⟩;obtain⟨g,c,rfl,_⟩:=xC hv (by decide);exact⟨_,c,rfl,hb⟩
theorem yC(w:World)(hT:gj w):ar 9 #[] w (.bool true):=by
 have KN:Hid (aU 36 #[.agg (NN.aV NN.Bq),i_ 5] w fun e w''=>∃cb bt mb mg F,e=.returned (.tuple #[af cb,i_ 0])/\uc w.heap.size ⟨NN.Bq,Po.g,[],[],fZ 5⟩ cb bt mb mg F w''/\Bl w w''):=h_ (vw NN.Bq (NN.wR _ _ _ _ _) 5 _ w (h_ fun w2 hb2=>CF NN.Bq (NN.wR _ _ _ _ _) (NN.yc _ _ _ _ _) Po Ea GF [] [] rfl rfl (by decide) (by decide) 5 (by decide +kernel) w2 (hT.below hb2) (fun h=>by simp at h) (fun h=>by simp at h)));generalize(⟨NN.Bq,Po.g,[],[],fZ 5⟩:Ru)=r at*;clear hT;go_enter Tryz.func9,Tryz.ntmps9;go_wp2_with (with_reducible refine Qg rfl rfl ?_)
 refine KN.out.mono ?_;rintro e v1 ⟨cb,bt,mb,mg,F,rfl,h,hB⟩;have K1:=h_ (pr (Has.cell h.2.1 2));have H:=h_ h;clear h KN;go_wp2_with fail
 refine K1.out.mono ?_;rintro e v2 ⟨rfl,hb⟩;have K2:=h_ (Km (H.out.below hb));have H2:=h_ (H.out.below hb);replace hB:=ai hB hb;clear hb K1 H;go_wp2_with fail
 refine K2.out.mono ?_;rintro e v3 ⟨rfl,hb⟩;have K3:=h_ (Qu (H2.out.below hb));replace hB:=ai hB hb;clear hb K2 H2;go_wp2_with fail
 refine K3.out.mono ?_;rintro e v4 ⟨rfl,h,hb⟩;have K4:=h_ (J7 h);replace hB:=ai hB hb;clear hb h K3;go_wp2_with fail
 refine K4.out.mono ?_;rintro e v5 ⟨p,c,rfl,hb⟩;replace hB:=ai hB hb;clear hb K4;go_wp2_with fail
 go_ret;exact⟨rfl,hB⟩
theorem tT{ops:Array Oper}{rest:List Oper}{o:Oper}{a:Act}{Q:Exit->Act->World->Prop}(hgd:o.guard=none)(x:Operand)(ho:o.op=.load 39 x)(g:Nat)(hx:a.eval x=af g)(c:Ac)(hg:fC w g c)(hs:(eL c).size=72)(hk:wpList Tryz.prog ops Q rest (a.put o.dst (.agg (eL c))) w):wpList Tryz.prog ops Q (o::rest) a w:=
 iQ hgd 39 x ho g hx 39 (eL c) (0,0) _ (Has.out hg) Tryz.underlying39 rfl (rT.trans (by rw[hs])) hk
theorem zc(r:Ru)(M:List av)(h:Hd)(now:Int):(Ar.add r M h now).2.length<=M.length+1:=by unfold Ar.add;repeat' (first|split|(dsimp only;simp))
theorem mN{k:Nat}(hM:Ok r M)(hl:M.length<=k+1)(hG:Mk.Good M.length S)(y:Ac)(q0:y.h.ok):Ok r (cQ r M y)/\(cQ r M y).length<=k+1+1/\Mk.Good (cQ r M y).length (dP M S y):=by
 unfold cQ dP;by_cases k0:y.kind=0;rw[aj k0,ah (by omega),ah (by omega),ah (by omega)];have h1:=zc r M y.h y.now;obtain⟨X,hX⟩:=Jn r M y.h y.now;exact⟨hM.add q0 y.now,by omega,hG.more (by rw[hX,aT];omega)⟩
 ·rw[ah k0];refine⟨hM,by omega,?_⟩;split;exact hG.verdict y.n y.rt
  ·split;exact hG.cZ y.n
   ·split;exact hG.cG y.n;exact hG
theorem tN.Xm(h:tN w0 w r bb cb mr bt mb mg bm rb M S L):Bl w0 w:=by obtain⟨tip,h1,h2⟩:=h;exact h2.Xm
def nR(w0 w:World)(r:Ru)(bb cb mr bt mb mg bm rb:Nat)(x:pd)(M:List av)(S:Mk.St)(L:List Int):Prop:=∃tip:Nat,Row M (tip:Int) L/\bF w0 w r bb cb mr bt mb mg bm rb x M M S S tip L
theorem fa{bx:Nat}{x:pd}{Mt Mr:List av}{Sp Sr:Mk.St}{tip:Nat}{La:List Int}{y:Ac}(h:bF w0 w r bb cb mr bt mb mg bm rb ((bx,eL y,39)::x) Mt Mr Sp Sr tip La):fC w bx y:=h.has (p:=(bx,eL y,39)) nT
theorem DM(w0 w:World)(r:Ru)(bb cb mr bt mb mg bm rb:Nat)(M:List av)(S:Mk.St)(tip:Nat)(VC:pd)(L K:List Int)(hL:Row M (tip:Int) L)(h:bF w0 w r bb cb mr bt mb mg bm rb VC M M S S tip L)(hg:Gd r M S)(HG:Hid (r.gs.length<=1000/\r.cs.length<=1000/\2<=r.p.Vv))(HT:og w0 fun w'=>gj w')(y:Ac)(q0:y.h.ok)(Y7:Hid (-9223372036854775808<=y.now/\y.now<=9223372036854775807))(hk:y.kind=0):aU 12 #[af bb,.agg (eL y)] w fun e w'=>e=.returned (.bool true)/\nR w0 w' r bb cb mr bt mb mg bm rb VC (cQ r M y) (dP M S y) (gU K L y):=by
 have e1:cQ r M y=(Ar.add r M y.h y.now).2:=by unfold cQ;rw[aj hk]
 have e2:dP M S y=S:=by unfold dP;rw[hk];rfl
 have e3:gU K L y=L:=by unfold gU;rw[ah (by omega),ah (by omega)]
 rw[e1,e2,e3];have HK:=h_ hk;clear e1 e2 e3 hk;have Wm:=hg.2.1;have ZM:=gQ q0;have hza:=n_ q0;have hb0:Bl w (w.alloc (.cells (eL y) 39)):=cu;obtain⟨bx,hbx⟩:∃bx,bx=w.heap.size:=⟨_,rfl⟩;have hY:fC (w.alloc (.cells (eL y) 39)) bx y:=by rw[hbx];exact Has.new _ _
 have hC:=h.put hb0 (jd hbx.symm) hY (by decide) (by decide);have W6:=h_ hbx;clear h hb0 hY hbx;go_enter Tryz.func12,Tryz.ntmps12;go_upto_region 1 with fail
 rw[<-W6.out];generalize World.alloc _ _=v1 at*;have c0:=(fa hC).kind;rw[HK.out]at c0;go_wp2_with fail
 refine eX (fun b1 _ w'=>bF w0 w' r bb cb mr bt mb mg bm rb ((bx,eL y,39)::VC) (bif b1 then(Ar.add r M y.h y.now).2 else M) M S S tip L) 8 99 [3,5,7,8] [af bb,af bb,af bb,af cb,.pointer (some ⟨bx,1,none⟩),.agg (aS y.h),.pointer (some ⟨bx,69,none⟩),i_ y.now,.tuple #[i_ (Ar.add r M y.h y.now).1.1,i_ (Ar.add r M y.h y.now).1.2.1,i_ (Ar.add r M y.h y.now).1.2.2],.tuple #[i_ (Ar.add r M y.h y.now).1.1,i_ (Ar.add r M y.h y.now).1.2.1,i_ (Ar.add r M y.h y.now).1.2.2],i_ (Ar.add r M y.h y.now).1.1,i_ (Ar.add r M y.h y.now).1.2.1,i_ (Ar.add r M y.h y.now).1.2.2,i_ (Ar.add r M y.h y.now).1.1,i_ (Ar.add r M y.h y.now).1.2.1,i_ (Ar.add r M y.h y.now).1.2.2] (hC.below cg.drew) ⟨fun _ _ _ _ _ hC=>.val (dy rfl rfl (lB hC.b0)) hC,fun _ _ _ _ _ hC=>.val (rM rfl rfl (fa hC).head ZM) hC,fun _ _ _ _ _ hC=>.val (dy rfl rfl (fh ((fa hC).now q0))) hC,fun b1 _ w' f1 _ hC=>?_,trivial⟩ ?_
 ·obtain rfl:=f1.no (by kernel_rfl);exact .call (FH (show bF w0 w' r bb cb mr bt mb mg bm rb ((bx,eL y,39)::VC) M M S S tip L from hC) hg.1 (ax Wm (by decide)) HG.out.1 HG.out.2.1 (fun w2 hb=>HT.out w2 (ai hC.Xm hb)) y.h q0 y.now)
 intro v2 hC;replace hC:bF w0 v2 r bb cb mr bt mb mg bm rb ((bx,eL y,39)::VC) (Ar.add r M y.h y.now).2 M S S tip L:=hC;simp only[dD,aZ,bg,de,dh];go_wp2_with fail
 refine eX (fun b1 _ w'=>bF w0 w' r bb cb mr bt mb mg bm rb ((bx,eL y,39)::VC) (Ar.add r M y.h y.now).2 (bif b1 then(Ar.add r M y.h y.now).2 else M) S S tip L) 11 99 [3,6,8,10,11] [af bb,af bb,.pointer (some ⟨bb,1,none⟩),af mr,af mr,af mr,af bm,.pointer (some ⟨bx,1,none⟩),.agg (aS y.h),.pointer (some ⟨bx,69,none⟩),i_ y.now,.tuple #[i_ (Ar.add r M y.h y.now).1.1,i_ (Ar.add r M y.h y.now).1.2.1,i_ (Ar.add r M y.h y.now).1.2.2],.tuple #[i_ (Ar.add r M y.h y.now).1.1,i_ (Ar.add r M y.h y.now).1.2.1,i_ (Ar.add r M y.h y.now).1.2.2],i_ (Ar.add r M y.h y.now).1.1,i_ (Ar.add r M y.h y.now).1.2.1,i_ (Ar.add r M y.h y.now).1.2.2,i_ (Ar.add r M y.h y.now).1.1,i_ (Ar.add r M y.h y.now).1.2.1,i_ (Ar.add r M y.h y.now).1.2.2] (hC.below cg.drew) ⟨fun _ _ _ _ _ hC=>.val (dy rfl rfl (ix hC.b1)) hC,fun _ _ _ _ _ hC=>.val (dy rfl rfl (eR hC.m0)) hC,fun _ _ _ _ _ hC=>.val (rM rfl rfl (fa hC).head ZM) hC,fun _ _ _ _ _ hC=>.val (dy rfl rfl (fh ((fa hC).now q0))) hC,fun b1 _ w' f1 _ hC=>?_,trivial⟩ ?_
 ·obtain rfl:=f1.no (by kernel_rfl);exact .call ((show bF w0 w' r bb cb mr bt mb mg bm rb ((bx,eL y,39)::VC) (Ar.add r M y.h y.now).2 M S S tip L from hC).lift fun X hX=>JH hX hg.1 (ax Wm (by decide)) HG.out.1 HG.out.2.1 HG.out.2.2 y.h q0 y.now Y7.out.1 Y7.out.2)
 intro v3 hC;replace hC:bF w0 v3 r bb cb mr bt mb mg bm rb ((bx,eL y,39)::VC) (Ar.add r M y.h y.now).2 (Ar.add r M y.h y.now).2 S S tip L:=hC;have HC:=h_ (hC.less fun _ hq=>iL _ hq);have HR:Hid (Row (Ar.add r M y.h y.now).2 (tip:Int) L):=h_ (by obtain⟨X,hX⟩:=Jn r M y.h y.now;rw[hX];exact hL.more X);clear hC hL;simp only[dD,aZ,bg,de,dh];go_wp2_with fail
 go_ret;exact⟨rfl,tip,HR.out,HC.out⟩
theorem GA(w0 w:World)(r:Ru)(bb cb mr bt mb mg bm rb:Nat)(M:List av)(S:Mk.St)(tip:Nat)(VC:pd)(L K:List Int)(hL:Row M (tip:Int) L)(h:bF w0 w r bb cb mr bt mb mg bm rb VC M M S S tip L)(hg:Gd r M S)(y:Ac)(q0:y.h.ok)(hk:y.kind=1):aU 12 #[af bb,.agg (eL y)] w fun e w'=>e=.returned (.bool true)/\nR w0 w' r bb cb mr bt mb mg bm rb VC (cQ r M y) (dP M S y) (gU K L y):=by
 have e1:cQ r M y=M:=by unfold cQ;rw[ah (by omega)]
 have e2:dP M S y=(verdict M.length S y.n y.rt).2:=by unfold dP;rw[aj hk]
 have e3:gU K L y=L:=by unfold gU;rw[ah (by omega),ah (by omega)]
 rw[e1,e2,e3];have HK:=h_ hk;clear e1 e2 e3 hk;have Wm:=hg.2.1;have ZM:=gQ q0;have hza:=n_ q0;have hb0:Bl w (w.alloc (.cells (eL y) 39)):=cu;obtain⟨bx,hbx⟩:∃bx,bx=w.heap.size:=⟨_,rfl⟩;have hY:fC (w.alloc (.cells (eL y) 39)) bx y:=by rw[hbx];exact Has.new _ _
 have hC:=h.put hb0 (jd hbx.symm) hY (by decide) (by decide);have W6:=h_ hbx;clear h hb0 hY hbx;go_enter Tryz.func12,Tryz.ntmps12;go_upto_region 1 with fail
 rw[<-W6.out];generalize World.alloc _ _=v1 at*;have c0:=(fa hC).kind;rw[HK.out]at c0;obtain⟨S1,hS1⟩:∃S1,(verdict M.length S y.n y.rt).2=S1:=⟨_,rfl⟩;obtain⟨z,hz⟩:∃z,(verdict M.length S y.n y.rt).1=z:=⟨_,rfl⟩;have Wq:=h_ hS1;have HZ:=h_ hz;clear hS1 hz;go_wp2_with fail
 refine eX (fun b1 b2 w'=>bF w0 w' r bb cb mr bt mb mg bm rb ((bx,eL y,39)::VC) M M (bif b1 then S1 else S) (bif b2 then S1 else S) tip L) 8 27 [3,5,7,8,12,15,19,22,24,26,27,28] [af bb,af bb,af bb,af cb,.pointer (some ⟨bx,70,none⟩),i_ y.n,.pointer (some ⟨bx,71,none⟩),.bool y.rt,i_ z,af bb,af bb,.pointer (some ⟨bb,1,none⟩),af mr,af mr,.pointer (some ⟨mr,1,none⟩),af rb,af bb,af bb,.pointer (some ⟨bb,1,none⟩),af mr,af mr,af mr,af bm,.pointer (some ⟨bx,70,none⟩),i_ y.n,.pointer (some ⟨bx,71,none⟩),.bool y.rt,i_ z,.bool true,.bool true] (hC.below cg.drew) ⟨fun _ _ _ _ _ hC=>.val (dy rfl rfl (lB hC.b0)) hC,fun _ _ _ _ _ hC=>.val (dy rfl rfl (fh ((fa hC).num q0))) hC,fun _ _ _ _ _ hC=>.val (dy rfl rfl (PT ((fa hC).right q0))) hC,fun b1 b2 w' f1 _ hC=>?_,fun _ _ _ _ _ hC=>.val (dy rfl rfl (ix hC.b1)) hC,fun _ _ _ _ _ hC=>.val (dy rfl rfl (gL hC.m1)) hC,fun _ _ _ _ _ hC=>.val (dy rfl rfl (ix hC.b1)) hC,fun _ _ _ _ _ hC=>.val (dy rfl rfl (eR hC.m0)) hC,fun _ _ _ _ _ hC=>.val (dy rfl rfl (fh ((fa hC).num q0))) hC,fun _ _ _ _ _ hC=>.val (dy rfl rfl (PT ((fa hC).right q0))) hC,fun b1 b2 w' _ f2 hC=>?_,fun _ _ _ _ _ hC=>.val (mG rfl rfl rfl (by simp)) hC,trivial⟩ ?_
 ·obtain rfl:=f1.no (by kernel_rfl);have:=Tb (show bF w0 w' r bb cb mr bt mb mg bm rb ((bx,eL y,39)::VC) M M S (bif b2 then S1 else S) tip L from hC) Wm y.n y.rt;rw[Wq.out,HZ.out]at this;exact .call this
 ·obtain rfl:=f2.no (by kernel_rfl);have:=(show bF w0 w' r bb cb mr bt mb mg bm rb ((bx,eL y,39)::VC) M M (bif b1 then S1 else S) S tip L from hC).lift fun X hX=>Rt hX (ax Wm (by decide)) y.n y.rt
  rw[Wq.out,HZ.out]at this;exact .call this
 intro v2 hC;replace hC:bF w0 v2 r bb cb mr bt mb mg bm rb ((bx,eL y,39)::VC) M M S1 S1 tip L:=hC;have HC:=h_ (hC.less fun _ hq=>iL _ hq);clear hC;simp only[dD,aZ,bg,de,dh];go_wp2_with fail
 go_ret;exact⟨rfl,tip,hL,by rw[Wq.out];exact HC.out⟩
theorem Gu(w0 w:World)(r:Ru)(bb cb mr bt mb mg bm rb:Nat)(M:List av)(S:Mk.St)(tip:Nat)(VC:pd)(L K:List Int)(hL:Row M (tip:Int) L)(h:bF w0 w r bb cb mr bt mb mg bm rb VC M M S S tip L)(hg:Gd r M S)(y:Ac)(q0:y.h.ok)(hk:y.kind=2):aU 12 #[af bb,.agg (eL y)] w fun e w'=>e=.returned (.bool true)/\nR w0 w' r bb cb mr bt mb mg bm rb VC (cQ r M y) (dP M S y) (gU K L y):=by
 have e1:cQ r M y=M:=by unfold cQ;rw[ah (by omega)]
 have e2:dP M S y=(cZ M.length S y.n).2:=by unfold dP;rw[ah (by omega),aj hk]
 have e3:gU K L y=L:=by unfold gU;rw[ah (by omega),ah (by omega)]
 rw[e1,e2,e3];have HK:=h_ hk;clear e1 e2 e3 hk;have Wm:=hg.2.1;have ZM:=gQ q0;have hza:=n_ q0;have hb0:Bl w (w.alloc (.cells (eL y) 39)):=cu;obtain⟨bx,hbx⟩:∃bx,bx=w.heap.size:=⟨_,rfl⟩;have hY:fC (w.alloc (.cells (eL y) 39)) bx y:=by rw[hbx];exact Has.new _ _
 have hC:=h.put hb0 (jd hbx.symm) hY (by decide) (by decide);have W6:=h_ hbx;clear h hb0 hY hbx;go_enter Tryz.func12,Tryz.ntmps12;go_upto_region 1 with fail
 rw[<-W6.out];generalize World.alloc _ _=v1 at*;have c0:=(fa hC).kind;rw[HK.out]at c0;obtain⟨S1,hS1⟩:∃S1,(cZ M.length S y.n).2=S1:=⟨_,rfl⟩;obtain⟨z,hz⟩:∃z,(cZ M.length S y.n).1=z:=⟨_,rfl⟩;have Wq:=h_ hS1;have HZ:=h_ hz;clear hS1 hz;go_wp2_with fail
 refine eX (fun b1 b2 w'=>bF w0 w' r bb cb mr bt mb mg bm rb ((bx,eL y,39)::VC) M M (bif b1 then S1 else S) (bif b2 then S1 else S) tip L) 6 23 [3,5,6,10,13,17,20,22,23,24] [af bb,af bb,af bb,af cb,.pointer (some ⟨bx,70,none⟩),i_ y.n,i_ z,af bb,af bb,.pointer (some ⟨bb,1,none⟩),af mr,af mr,.pointer (some ⟨mr,1,none⟩),af rb,af bb,af bb,.pointer (some ⟨bb,1,none⟩),af mr,af mr,af mr,af bm,.pointer (some ⟨bx,70,none⟩),i_ y.n,i_ z,.bool true,.bool true] (hC.below cg.drew) ⟨fun _ _ _ _ _ hC=>.val (dy rfl rfl (lB hC.b0)) hC,fun _ _ _ _ _ hC=>.val (dy rfl rfl (fh ((fa hC).num q0))) hC,fun b1 b2 w' f1 _ hC=>?_,fun _ _ _ _ _ hC=>.val (dy rfl rfl (ix hC.b1)) hC,fun _ _ _ _ _ hC=>.val (dy rfl rfl (gL hC.m1)) hC,fun _ _ _ _ _ hC=>.val (dy rfl rfl (ix hC.b1)) hC,fun _ _ _ _ _ hC=>.val (dy rfl rfl (eR hC.m0)) hC,fun _ _ _ _ _ hC=>.val (dy rfl rfl (fh ((fa hC).num q0))) hC,fun b1 b2 w' _ f2 hC=>?_,fun _ _ _ _ _ hC=>.val (mG rfl rfl rfl (by simp)) hC,trivial⟩ ?_
 ·obtain rfl:=f1.no (by kernel_rfl);have:=PI (show bF w0 w' r bb cb mr bt mb mg bm rb ((bx,eL y,39)::VC) M M S (bif b2 then S1 else S) tip L from hC) Wm y.n;rw[Wq.out,HZ.out]at this;exact .call this
 ·obtain rfl:=f2.no (by kernel_rfl);have:=(show bF w0 w' r bb cb mr bt mb mg bm rb ((bx,eL y,39)::VC) M M (bif b1 then S1 else S) S tip L from hC).lift fun X hX=>UU hX (ax Wm (by decide)) y.n
  rw[Wq.out,HZ.out]at this;exact .call this
 intro v2 hC;replace hC:bF w0 v2 r bb cb mr bt mb mg bm rb ((bx,eL y,39)::VC) M M S1 S1 tip L:=hC;have HC:=h_ (hC.less fun _ hq=>iL _ hq);clear hC;simp only[dD,aZ,bg,de,dh];go_wp2_with fail
 go_ret;exact⟨rfl,tip,hL,by rw[Wq.out];exact HC.out⟩
theorem E5(w0 w:World)(r:Ru)(bb cb mr bt mb mg bm rb:Nat)(M:List av)(S:Mk.St)(tip:Nat)(VC:pd)(L K:List Int)(hL:Row M (tip:Int) L)(h:bF w0 w r bb cb mr bt mb mg bm rb VC M M S S tip L)(hg:Gd r M S)(y:Ac)(q0:y.h.ok)(hk:y.kind=3):aU 12 #[af bb,.agg (eL y)] w fun e w'=>e=.returned (.bool true)/\nR w0 w' r bb cb mr bt mb mg bm rb VC (cQ r M y) (dP M S y) (gU K L y):=by
 have e1:cQ r M y=M:=by unfold cQ;rw[ah (by omega)]
 have e2:dP M S y=(cG M S y.n).2:=by unfold dP;rw[ah (by omega),ah (by omega),aj hk]
 have e3:gU K L y=L:=by unfold gU;rw[ah (by omega),ah (by omega)]
 rw[e1,e2,e3];have HK:=h_ hk;clear e1 e2 e3 hk;have Wm:=hg.2.1;have ZM:=gQ q0;have hza:=n_ q0;have hb0:Bl w (w.alloc (.cells (eL y) 39)):=cu;obtain⟨bx,hbx⟩:∃bx,bx=w.heap.size:=⟨_,rfl⟩;have hY:fC (w.alloc (.cells (eL y) 39)) bx y:=by rw[hbx];exact Has.new _ _
 have hC:=h.put hb0 (jd hbx.symm) hY (by decide) (by decide);have W6:=h_ hbx;clear h hb0 hY hbx;go_enter Tryz.func12,Tryz.ntmps12;go_upto_region 1 with fail
 rw[<-W6.out];generalize World.alloc _ _=v1 at*;have c0:=(fa hC).kind;rw[HK.out]at c0;obtain⟨S1,hS1⟩:∃S1,(cG M S y.n).2=S1:=⟨_,rfl⟩;obtain⟨z,hz⟩:∃z,(cG M S y.n).1=z:=⟨_,rfl⟩;have Wq:=h_ hS1;have HZ:=h_ hz;clear hS1 hz;go_wp2_with fail
 refine eX (fun b1 b2 w'=>bF w0 w' r bb cb mr bt mb mg bm rb ((bx,eL y,39)::VC) M M (bif b1 then S1 else S) (bif b2 then S1 else S) tip L) 6 23 [3,5,6,10,13,17,20,22,23,24] [af bb,af bb,af bb,af cb,.pointer (some ⟨bx,70,none⟩),i_ y.n,i_ z,af bb,af bb,.pointer (some ⟨bb,1,none⟩),af mr,af mr,.pointer (some ⟨mr,1,none⟩),af rb,af bb,af bb,.pointer (some ⟨bb,1,none⟩),af mr,af mr,af mr,af bm,.pointer (some ⟨bx,70,none⟩),i_ y.n,i_ z,.bool true,.bool true] (hC.below cg.drew) ⟨fun _ _ _ _ _ hC=>.val (dy rfl rfl (lB hC.b0)) hC,fun _ _ _ _ _ hC=>.val (dy rfl rfl (fh ((fa hC).num q0))) hC,fun b1 b2 w' f1 _ hC=>?_,fun _ _ _ _ _ hC=>.val (dy rfl rfl (ix hC.b1)) hC,fun _ _ _ _ _ hC=>.val (dy rfl rfl (gL hC.m1)) hC,fun _ _ _ _ _ hC=>.val (dy rfl rfl (ix hC.b1)) hC,fun _ _ _ _ _ hC=>.val (dy rfl rfl (eR hC.m0)) hC,fun _ _ _ _ _ hC=>.val (dy rfl rfl (fh ((fa hC).num q0))) hC,fun b1 b2 w' _ f2 hC=>?_,fun _ _ _ _ _ hC=>.val (mG rfl rfl rfl (by simp)) hC,trivial⟩ ?_
 ·obtain rfl:=f1.no (by kernel_rfl);have:=G3 (show bF w0 w' r bb cb mr bt mb mg bm rb ((bx,eL y,39)::VC) M M S (bif b2 then S1 else S) tip L from hC) hg.1 Wm y.n;rw[Wq.out,HZ.out]at this;exact .call this
 ·obtain rfl:=f2.no (by kernel_rfl);have:=(show bF w0 w' r bb cb mr bt mb mg bm rb ((bx,eL y,39)::VC) M M (bif b1 then S1 else S) S tip L from hC).lift fun X hX=>Rp hX hg.1 (ax Wm (by decide)) y.n
  rw[Wq.out,HZ.out]at this;exact .call this
 intro v2 hC;replace hC:bF w0 v2 r bb cb mr bt mb mg bm rb ((bx,eL y,39)::VC) M M S1 S1 tip L:=hC;have HC:=h_ (hC.less fun _ hq=>iL _ hq);clear hC;simp only[dD,aZ,bg,de,dh];go_wp2_with fail
 go_ret;exact⟨rfl,tip,hL,by rw[Wq.out];exact HC.out⟩
theorem Eu(w0 w:World)(r:Ru)(bb cb mr bt mb mg bm rb:Nat)(M:List av)(S:Mk.St)(tip:Nat)(VC:pd)(L K:List Int)(hL:Row M (tip:Int) L)(hK:Row M (oE r M S:Int) K)(h:bF w0 w r bb cb mr bt mb mg bm rb VC M M S S tip L)(hg:Gd r M S)(y:Ac)(q0:y.h.ok)(hk:y.kind=4):aU 12 #[af bb,.agg (eL y)] w fun e w'=>e=.returned (.bool true)/\nR w0 w' r bb cb mr bt mb mg bm rb VC (cQ r M y) (dP M S y) (gU K L y):=by
 have e1:cQ r M y=M:=by unfold cQ;rw[ah (by omega)]
 have e2:dP M S y=S:=by unfold dP;rw[hk];rfl
 have e3:gU K L y=Ch.l_ K L:=by unfold gU;rw[aj hk]
 rw[e1,e2,e3];have HK:=h_ hk;clear e1 e2 e3 hk;have Wm:=hg.2.1;have ZM:=gQ q0;have hza:=n_ q0;have hb0:Bl w (w.alloc (.cells (eL y) 39)):=cu;obtain⟨bx,hbx⟩:∃bx,bx=w.heap.size:=⟨_,rfl⟩;have hY:fC (w.alloc (.cells (eL y) 39)) bx y:=by rw[hbx];exact Has.new _ _
 have hC:=h.put hb0 (jd hbx.symm) hY (by decide) (by decide);have W6:=h_ hbx;clear h hb0 hY hbx;go_enter Tryz.func12,Tryz.ntmps12;go_upto_region 1 with fail
 rw[<-W6.out];generalize World.alloc _ _=v1 at*;have c0:=(fa hC).kind;rw[HK.out]at c0;go_wp2_with fail
 refine eX (fun b1 b2 w'=>∃t2:Nat,Row M (t2:Int) (bif b1 then(Ch.l_ K L)else L)/\bF w0 w' r bb cb mr bt mb mg bm rb ((bx,eL y,39)::VC) M M S S t2 (bif b2 then(Ch.l_ K L)else L)) 4 9 [3,4,8,9,10] [af bb,af bb,af bb,af cb,.bool (decide (0<Ch.lF K L)),af bb,af bb,.pointer (some ⟨bb,1,none⟩),af mr,.bool (decide (0<Ch.lF K L)),.bool true,.bool true] ⟨tip,hL,hC.below cg.drew⟩ ⟨fun _ _ _ _ _ hC=>.val (dy rfl rfl (lB hC.choose_spec.2.b0)) hC,fun b1 b2 w' f1 _ hC=>?_,fun _ _ _ _ _ hC=>.val (dy rfl rfl (ix hC.choose_spec.2.b1)) hC,fun b1 b2 w' _ f2 hC=>?_,fun _ _ _ _ _ hC=>.val (EO rfl rfl rfl (by simp)) hC,trivial⟩ ?_
 ·obtain rfl:=f1.no (by kernel_rfl);obtain⟨t2,h1,h2⟩:=hC;exact .call (xQ h2 hg h1 hK)
 ·obtain rfl:=f2.no (by kernel_rfl);obtain⟨t2,h1,h2⟩:=hC;exact .call ((zd h2 hg hL hK).mono fun _ _ h=>⟨h.1,t2,h1,h.2⟩)
 rintro v2 ⟨t2,h1,hC⟩;have HC:=h_ (hC.less fun _ hq=>iL _ hq);have H1:=h_ h1;clear hC h1 hL hK;simp only[dD,aZ,bg,de,dh];go_wp2_with fail
 go_ret;exact⟨rfl,t2,H1.out,HC.out⟩
theorem Gx(w0 w:World)(r:Ru)(bb cb mr bt mb mg bm rb:Nat)(M:List av)(S:Mk.St)(tip:Nat)(VC:pd)(L K:List Int)(hL:Row M (tip:Int) L)(hK:Row M (oE r M S:Int) K)(h:bF w0 w r bb cb mr bt mb mg bm rb VC M M S S tip L)(hg:Gd r M S)(y:Ac)(q0:y.h.ok)(hk:y.kind=5):aU 12 #[af bb,.agg (eL y)] w fun e w'=>e=.returned (.bool true)/\nR w0 w' r bb cb mr bt mb mg bm rb VC (cQ r M y) (dP M S y) (gU K L y):=by
 have e1:cQ r M y=M:=by unfold cQ;rw[ah (by omega)]
 have e2:dP M S y=S:=by unfold dP;rw[hk];rfl
 have e3:gU K L y=K:=by unfold gU;rw[ah (by omega),aj hk]
 rw[e1,e2,e3];have HK:=h_ hk;clear e1 e2 e3 hk;have Wm:=hg.2.1;have ZM:=gQ q0;have hza:=n_ q0;have hb0:Bl w (w.alloc (.cells (eL y) 39)):=cu;obtain⟨bx,hbx⟩:∃bx,bx=w.heap.size:=⟨_,rfl⟩;have hY:fC (w.alloc (.cells (eL y) 39)) bx y:=by rw[hbx];exact Has.new _ _
 have hC:=h.put hb0 (jd hbx.symm) hY (by decide) (by decide);have W6:=h_ hbx;clear h hb0 hY hbx;go_enter Tryz.func12,Tryz.ntmps12;go_upto_region 1 with fail
 rw[<-W6.out];generalize World.alloc _ _=v1 at*;have c0:=(fa hC).kind;rw[HK.out]at c0;go_wp2_with fail
 refine eX (fun b1 b2 w'=>∃t2:Nat,Row M (t2:Int) (bif b1 then K else L)/\bF w0 w' r bb cb mr bt mb mg bm rb ((bx,eL y,39)::VC) M M S S t2 (bif b2 then K else L)) 4 9 [3,4,8,9,10] [af bb,af bb,af bb,af cb,i_ (Ch.lF K L:Int),af bb,af bb,.pointer (some ⟨bb,1,none⟩),af mr,i_ (Ch.lF K L:Int),.bool true,.bool true] ⟨tip,hL,hC.below cg.drew⟩ ⟨fun _ _ _ _ _ hC=>.val (dy rfl rfl (lB hC.choose_spec.2.b0)) hC,fun b1 b2 w' f1 _ hC=>?_,fun _ _ _ _ _ hC=>.val (dy rfl rfl (ix hC.choose_spec.2.b1)) hC,fun b1 b2 w' _ f2 hC=>?_,fun _ _ _ _ _ hC=>.val (mG rfl rfl rfl (by simp)) hC,trivial⟩ ?_
 ·obtain rfl:=f1.no (by kernel_rfl);obtain⟨t2,h1,h2⟩:=hC;exact .call ((MC h2 hg h1 hK).mono fun _ _ h=>⟨h.1,_,hK,h.2⟩)
 ·obtain rfl:=f2.no (by kernel_rfl);obtain⟨t2,h1,h2⟩:=hC;exact .call ((IT h2 hg hL hK).mono fun _ _ h=>⟨h.1,t2,h1,h.2⟩)
 rintro v2 ⟨t2,h1,hC⟩;have HC:=h_ (hC.less fun _ hq=>iL _ hq);have H1:=h_ h1;clear hC h1 hL hK;simp only[dD,aZ,bg,de,dh];go_wp2_with fail
 go_ret;exact⟨rfl,t2,H1.out,HC.out⟩
theorem Fs(w0 w:World)(r:Ru)(bb cb mr bt mb mg bm rb:Nat)(M:List av)(S:Mk.St)(tip:Nat)(VC:pd)(L K:List Int)(hL:Row M (tip:Int) L)(h:bF w0 w r bb cb mr bt mb mg bm rb VC M M S S tip L)(y:Ac)(q0:y.h.ok)(k0:¬y.kind=0)(k1:¬y.kind=1)(k2:¬y.kind=2)(k3:¬y.kind=3)(k4:¬y.kind=4)(k5:¬y.kind=5):aU 12 #[af bb,.agg (eL y)] w fun e w'=>e=.returned (.bool true)/\nR w0 w' r bb cb mr bt mb mg bm rb VC (cQ r M y) (dP M S y) (gU K L y):=by
 have e1:cQ r M y=M:=ah k0;have e2:dP M S y=S:=by unfold dP;rw[ah k1,ah k2,ah k3]
 have e3:gU K L y=L:=by unfold gU;rw[ah k4,ah k5]
 rw[e1,e2,e3];have f0:(y.kind==0)=false:=by simpa using k0
 have f1:(y.kind==1)=false:=by simpa using k1
 have f2:(y.kind==2)=false:=by simpa using k2
 have f3:(y.kind==3)=false:=by simpa using k3
 have f4:(y.kind==4)=false:=by simpa using k4
 have f5:(y.kind==5)=false:=by simpa using k5
 clear e1 e2 e3 k0 k1 k2 k3 k4 k5;have hza:=n_ q0;have hb0:Bl w (w.alloc (.cells (eL y) 39)):=cu;obtain⟨bx,hbx⟩:∃bx,bx=w.heap.size:=⟨_,rfl⟩;have hY:fC (w.alloc (.cells (eL y) 39)) bx y:=by rw[hbx];exact Has.new _ _
 have hC:=h.put hb0 (jd hbx.symm) hY (by decide) (by decide);have W6:=h_ hbx;clear h hb0 hY hbx;go_enter Tryz.func12,Tryz.ntmps12;go_upto_region 1 with fail
 rw[<-W6.out];generalize World.alloc _ _=v1 at*;have c0:=(fa hC).kind;generalize y.kind=kd at*;have HC:=h_ hC;clear hC;go_wp2_with fail
 go_ret;exact⟨rfl,tip,hL,(HC.out.less fun _ hq=>iL _ hq)⟩
theorem Kg(w0 w:World)(r:Ru)(bb cb mr bt mb mg bm rb:Nat)(M:List av)(S:Mk.St)(tip:Nat)(VC:pd)(L K:List Int)(hL:Row M (tip:Int) L)(hK:Row M (oE r M S:Int) K)(h:bF w0 w r bb cb mr bt mb mg bm rb VC M M S S tip L)(hg:Gd r M S)(HG:Hid (r.gs.length<=1000/\r.cs.length<=1000/\2<=r.p.Vv))(HT:og w0 fun w'=>gj w')(y:Ac)(q0:y.h.ok)(Y7:Hid (-9223372036854775808<=y.now/\y.now<=9223372036854775807)):aU 12 #[af bb,.agg (eL y)] w fun e w'=>e=.returned (.bool true)/\nR w0 w' r bb cb mr bt mb mg bm rb VC (cQ r M y) (dP M S y) (gU K L y):=by by_cases k0:y.kind=0;exact DM w0 w r bb cb mr bt mb mg bm rb M S tip VC L K hL h hg HG HT y q0 Y7 k0;by_cases k1:y.kind=1;exact GA w0 w r bb cb mr bt mb mg bm rb M S tip VC L K hL h hg y q0 k1;by_cases k2:y.kind=2;exact Gu w0 w r bb cb mr bt mb mg bm rb M S tip VC L K hL h hg y q0 k2;by_cases k3:y.kind=3;exact E5 w0 w r bb cb mr bt mb mg bm rb M S tip VC L K hL h hg y q0 k3;by_cases k4:y.kind=4;exact Eu w0 w r bb cb mr bt mb mg bm rb M S tip VC L K hL hK h hg y q0 k4;by_cases k5:y.kind=5;exact Gx w0 w r bb cb mr bt mb mg bm rb M S tip VC L K hL hK h hg y q0 k5;exact Fs w0 w r bb cb mr bt mb mg bm rb M S tip VC L K hL h y q0 k0 k1 k2 k3 k4 k5
