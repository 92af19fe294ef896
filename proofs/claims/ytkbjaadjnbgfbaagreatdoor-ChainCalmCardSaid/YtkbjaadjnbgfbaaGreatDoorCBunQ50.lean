import Derived.Test.YtkbjaadjnbgfbaaGreatDoorCBunQ45
import Derived.Test.YtkbjaadjnbgfbaaGreatDoorCBunQ49
set_option maxRecDepth 100000
set_option maxHeartbeats 8000000
namespace Go.Proofs.YtkbjaadjnbgfbaaGreatDoor.An
open Go.RowKit Mem Sc NN.Rz
open Ar (aq Ru aB Ok bV Row cY Up dG d_)
open Mk (bT fX aO pb verdict dC dc iD word da)
theorem BR{w0 w:World}{r:Ru}{bb cb mr bt mb mg bm rb:Nat}{M:List aq}(h:mX w0 w r bb cb mr bt mb mg bm rb M Mk.dy [0])(hg:Gd r M Mk.dy)(HG:Hid (r.gs.length<=1000/\r.cs.length<=1000/\2<=r.p.Rj))(HT:lJ w0 fun w'=>dM w')(y:Ac)(q0:y.h.ok)(VR:Hid (-9223372036854775808<=y.now/\y.now<=9223372036854775807))(hk:y.kind=0\/3<y.kind):aN 12 #[ah bb,.agg (eY y)] w fun e w'=>e=.returned (.bool true)/\mX w0 w' r bb cb mr bt mb mg bm rb (fg r M y) Mk.dy [0]:=by
 obtain⟨tip,h1,h2⟩:=h;obtain⟨K,hK⟩:=ym hg;obtain rfl:=yX h1;have US:=hK;rw[yF hg]at US;obtain rfl:[0]=K:=(Ch.rO h1 US).2 rfl
 have:aN 12 #[ah bb,.agg (eY y)] w fun e w'=>e=.returned (.bool true)/\mX w0 w' r bb cb mr bt mb mg bm rb (fg r M y) (f_ M Mk.dy y) (gT [0] [0] y):=by
  by_cases k0:y.kind=0;exact GH w0 w r bb cb mr bt mb mg bm rb M Mk.dy 0 [0] [0] h1 h2 hg HG HT y q0 VR k0;by_cases k4:y.kind=4;exact G2 w0 w r bb cb mr bt mb mg bm rb M Mk.dy 0 [0] [0] h1 hK h2 hg y q0 k4;by_cases k5:y.kind=5;exact Lb w0 w r bb cb mr bt mb mg bm rb M Mk.dy 0 [0] [0] h1 hK h2 hg y q0 k5;exact JG w0 w r bb cb mr bt mb mg bm rb M Mk.dy 0 [0] [0] h1 h2 y q0 (by omega) (by omega) (by omega) (by omega) k4 k5
 have e1:f_ M Mk.dy y=Mk.dy:=by
  unfold f_;rw[if_neg (by omega),if_neg (by omega),if_neg (by omega)]
 have e2:gT [0] [0] y=[0]:=by
  unfold gT;split;exact Ch.rT rfl
  ·split<;>rfl
 rwa[e1,e2]at this
theorem N8(p:NN.Pr)(hp:p.ok)(a:Option Addr)(n c:Nat)(w:World)(KA:aV w 9 #[] (.bool true))(KG:aV w 10 #[.agg (NN.aE p),.slice a n c] (.bool true)):an 8 #[.agg (NN.aE p),.slice a n c] w (.bool true):=by
 have hz:=NN.ef hp;go_enter Tryz.func8,Tryz.ntmps8;go_upto_region 1 with fail
 generalize hw0:World.alloc _ _=v0;have hB:Bl w v0:=db hw0;have hP:NN.aA v0 w.heap.size p:=by rw[<-hw0];exact NN.Has.new _ _
 clear hw0;obtain⟨bP,Rv⟩:∃x,x=w.heap.size:=⟨_,rfl⟩;rw[<-Rv]at hP|-;have VF:Hid (bP=w.heap.size):=h_ Rv;clear Rv;go_wp2_with (first|fail)
 refine au (KA.out _ hB) fun v1 hb=>?_;replace hP:=hP.on hb;replace hB:=af hB hb;clear hb;go_wp2_with (with_reducible first|refine NN.dA rfl _ rfl _ rfl hP hz ?_|refine NN.fL (by with_unfolding_all rfl) _ rfl _ rfl hP hz ?_)
 refine au (KG.out _ hB) fun v2 hb=>?_;replace hP:=hP.on hb;replace hB:=af hB hb;clear hb;go_wp2_with fail
 go_ret;exact⟨rfl,hB⟩
theorem P4(p:NN.Pr)(hp:p.ok)(r:Ru)(a:Option Addr)(n c:Nat)(w:World)(ls:List Ac)(HA:lJ w fun w'=>fR w' a ls)(HN:Hid (n=ls.length))(ac4:n<=50)(HT:lJ w fun w'=>dM w')(HG:Hid (r.gs.length<=1000/\r.cs.length<=1000/\2<=r.p.Rj))(XJ:Hid (∀x∈ls,-9223372036854775808<=x.now/\x.now<=9223372036854775807))(KA:aV w 9 #[] (.bool true))(KG:aV w 10 #[.agg (NN.aE p),.slice a n c] (.bool false))(KS:lJ w fun w'=>aN 11 #[.agg (NN.aE p)] w' fun e w''=>∃bb cb mr bt mb mg bm rb,e=.returned (ah bb)/\mX w' w'' r bb cb mr bt mb mg bm rb [aB] Mk.dy [0]):an 8 #[.agg (NN.aE p),.slice a n c] w (.bool true):=by
 have hz:=NN.ef hp;go_enter Tryz.func8,Tryz.ntmps8;go_upto_region 1 with fail
 generalize hw0:World.alloc _ _=v0;have hB:Bl w v0:=db hw0;have hP:NN.aA v0 w.heap.size p:=by rw[<-hw0];exact NN.Has.new _ _
 clear hw0;obtain⟨bP,Rv⟩:∃x,x=w.heap.size:=⟨_,rfl⟩;rw[<-Rv]at hP|-;have VF:Hid (bP=w.heap.size):=h_ Rv;clear Rv;go_wp2_with (first|fail)
 refine au (KA.out _ hB) fun v1 hb=>?_;replace hP:=hP.on hb;replace hB:=af hB hb;clear hb;go_wp2_with (with_reducible first|refine NN.dA rfl _ rfl _ rfl hP hz ?_|refine NN.fL (by with_unfolding_all rfl) _ rfl _ rfl hP hz ?_)
 refine au (KG.out _ hB) fun v2 hb=>?_;replace hP:=hP.on hb;replace hB:=af hB hb;clear hb;go_wp2_with (first|fail|(with_reducible refine NN.dA rfl _ rfl _ rfl hP hz ?_))
 refine(KS.out _ hB).mono ?_;rintro e v3 ⟨bb,cb,mr,bt,mb,mg,bm,rb,rfl,hC⟩;have VB:=h_ hB;have XR:Hid (∀w',Bl v2 w'->dM w'):=h_ fun w' hb=>HT.out w' (af hB hb)
 clear hB hP KA KG KS;go_wp2_with fail
 go_loopw [19] (fun u wr=>∃(k:Nat)(M:List aq),k<=n/\u=i_ k/\mX v2 wr r bb cb mr bt mb mg bm rb M Mk.dy [0]/\Hid (Ok r M/\M.length<=k+1/\Mk.Good M.length Mk.dy)) (fun u _=>n-(intOf u).toNat)
 case atStart=>exact⟨0,[aB],by omega,rfl,hC,h_ ⟨Ok.one r,Nat.le_refl _,Mk.Good.start 1 (by decide)⟩⟩
 case round=>
  clear hC;obtain⟨k,M,hk,rfl,hC,HM⟩:=hrel;have hM9:M.length<=60:=by have:=HM.out.2.1;omega
  have hB:=af VB.out hC.SZ;by_cases hlt:k<n
  ·obtain⟨ab,ao,hae,RH,hc⟩:=(HA.out _ hB) (by rw[<-HN.out];omega);subst hae;have hk2:k<ls.length:=by rw[<-HN.out];exact hlt
   obtain⟨q0,q1⟩:=hc k hk2;have VR:=h_ (XJ.out _ (List.getElem_mem hk2));clear hc hB;generalize ls[k]=y at*;clear hk2;have z1:=CK q0;have z2:=mB q0;have z0:=mB (c:=Jf) eH;have hb2:Bl wr ((wr.alloc (.cells Tryz.zeroCells39 39)).setRow wr.heap.size (eY y)):=below_setRow aY (Nat.le_refl _) _;have hnew:=zF wr;have hY:=ya wr y;have Xh:=hC.below hb2;have hgd:Gd r M Mk.dy:=⟨HM.out.1,by omega,HM.out.2.2⟩;obtain⟨gb,hgb⟩:∃gb,gb=wr.heap.size:=⟨_,rfl⟩
   have Uq:∀b,Hid (Ok r (bif b then fg r M y else M)/\(bif b then fg r M y else M).length<=k+1+1/\Mk.Good (bif b then fg r M y else M).length Mk.dy):=fun b=>by
    have h1:=Cz (S:=Mk.dy) HM.out.1 HM.out.2.1 HM.out.2.2 y q0;cases b;exact h_ ⟨HM.out.1,by have:=HM.out.2.1;simp only[cond_false];omega,HM.out.2.2⟩;exact h_ ⟨h1.1,h1.2.1,Mk.Good.start _ (h1.1.pos)⟩
   clear hb2 hC HM;go_upto_region 9 with(with_reducible first|refine Aa rfl _ rfl ab (ao+k*72) rfl y q1 z1 ?_|refine B5 rfl _ _ rfl _ _ y rfl rfl rfl z2 hnew z0 ?_)
   rw[<-hgb]at hY Xh|-;generalize World.setRow _ _ _=v5 at*;have KD:=h_ (BR Xh hgd HG XR y q0 VR);have ck:=hY.kind;clear hnew z0 z1 q1 hgd hgb;by_cases k0:y.kind=0
   ·have e0:(y.kind==(0:Int))=true:=(by rw[beq_iff_eq];exact k0);replace Uq:=Uq true;(go_wp2_with (first|(with_reducible refine yE rfl _ rfl _ rfl y hY z2 ?_)));refine(KD.out ?_).mono ?_;exact .inl k0;rintro e v6 ⟨rfl,hC⟩;clear KD hY z2 ck Xh;(go_wp2_with fail);go_roundw
    case rel=>exact⟨k+1,_,by omega,by go_num,hC,Uq⟩
    case measure=>simp[intOf];omega
   ·have e0:(y.kind==(0:Int))=false:=(by rw[beq_eq_false_iff_ne];exact k0);by_cases k3:3<y.kind
    ·have e3:decide ((3:Int)<y.kind)=true:=decide_eq_true k3;replace Uq:=Uq true;(go_wp2_with (first|(with_reducible refine yE rfl _ rfl _ rfl y hY z2 ?_)));refine(KD.out ?_).mono ?_;exact .inr k3;rintro e v6 ⟨rfl,hC⟩;clear KD hY z2 ck Xh;(go_wp2_with fail);go_roundw
     case rel=>exact⟨k+1,_,by omega,by go_num,hC,Uq⟩
     case measure=>simp[intOf];omega
    ·have e3:decide ((3:Int)<y.kind)=false:=decide_eq_false k3;replace Uq:=Uq false;clear KD hY z2;(go_wp2_with fail);go_roundw
     case rel=>exact⟨k+1,_,by omega,by go_num,Xh,Uq⟩
     case measure=>simp[intOf];omega
  ·obtain rfl:k=n:=by omega
   have hgd:Gd r M Mk.dy:=⟨HM.out.1,by omega,HM.out.2.2⟩;clear HA hM9;clear hB;obtain⟨tip,hL,hC⟩:=hC;obtain rfl:=yX hL;obtain⟨l,hl⟩:∃l,l=Mm r M Mk.dy:=⟨_,rfl⟩;have hlead:=vO hC hgd;rw[<-hl]at hlead;have HL:=h_ hl;have HLD:=h_ hlead;clear hl hlead;have c0:=hC.b0;go_wp2_with fail
   refine HLD.out.mono ?_;rintro e v7 ⟨rfl,hb⟩;replace hC:=hC.below hb;clear hb HLD c0;have c1:=hC.b1;have c2:=hC.m0;obtain⟨X0,hX0⟩:=hC.core;obtain⟨aL,cL,hLs⟩:=hX0.list;have T8:=hLs _ a_;obtain⟨m,hm⟩:∃m,m=M.length:=⟨_,rfl⟩;have HMm:=h_ hm;rw[<-hm]at T8;have UP:m<=100:=by rw[hm];exact hgd.2.1
   clear hm hLs hX0;have HC7:=h_ hC;clear hC;go_wp2_with fail
   go_loopw [51] (fun u wr=>∃i:Nat,i<=m/\u=i_ i/\bf v2 wr r bb cb mr bt mb mg bm rb [] M M Mk.dy Mk.dy 0 [0]) (fun u _=>m-(intOf u).toNat)
   case atStart=>exact⟨0,Nat.zero_le _,rfl,HC7.out⟩
   case round=>
    clear c1 c2 T8;obtain⟨i,hi,rfl,hC⟩:=hrel;rename World=>wq
    by_cases hlt:i<m
    ·have c0:=hC.b0;by_cases hil:i=l
     ·have e0:((i:Int) != (l:Int))=false:=(by rw[hil];simp);(go_wp2_with fail);go_roundw
      case rel=>exact⟨i+1,by omega,by go_num,hC⟩
      case measure=>simp[intOf];omega
     ·have e0:((i:Int) != (l:Int))=true:=by rw[bne_iff_ne];omega
      have hhv:ku r M (l:Int) (i:Int) true:=by
       have h1:=EY (r:=r) (M:=M) (i:=i) (by rw[<-HMm.out];exact hlt) (by rw[<-HL.out];exact hil);rw[<-HL.out]at h1;rw[<-h1,HL.out];exact ku.place (Mk.jG M.length hgd.1.pos) (by rw[<-HMm.out];exact hlt)
      have KT:=CP hC;have HHV:=h_ hhv;clear hhv;(go_wp2_with fail);refine au (KT.out _ a_) fun w8 hb=>?_;replace hC:=hC.below hb;clear hb KT c0;(go_wp2_with fail);refine au (O2 hC _ _ _ HHV.out) fun w9 hb=>?_;replace hC:=hC.below hb;clear hb;(go_wp2_with fail);go_roundw
      case rel=>exact⟨i+1,by omega,by go_num,hC⟩
      case measure=>simp[intOf];omega
    ·obtain rfl:i=m:=(by omega);obtain⟨K,hK⟩:=ym hgd;have ht0:=yF hgd;have US:=hK;rw[ht0]at US;obtain rfl:[0]=K:=(Ch.rO hL US).2 rfl;have hse:=JI hC hgd hL hK;rw[Ch.ry,ht0]at hse;have HSE:=h_ hse;have HT0:=h_ ht0;have c0:=hC.b0;clear hse hC ht0;(go_wp2_with fail);refine HSE.out.mono ?_;rintro e w7 ⟨rfl,hC⟩;have c0:=hC.b0;clear HSE;(go_wp2_with fail);refine au (jV hC.c2) fun w8 hb=>?_;replace hC:=hC.below hb;clear hb;have Zl:=A8 hC hgd;rw[HT0.out]at Zl;have HTG:=h_ Zl;have c0:=hC.b0;clear Zl;(go_wp2_with fail);refine HTG.out.mono ?_;rintro e w9 ⟨rfl,hb⟩;replace hC:=hC.below hb;clear hb HTG;have KA:=h_ (Eg hC hgd hL);have c0:=hC.b0;(go_wp2_with fail);refine KA.out.mono ?_;rintro e x1 ⟨v,rfl,hv,hb⟩;replace hC:=hC.below hb;obtain⟨p1,c1,rfl,_⟩:=hv;clear hb KA;have hh:=Hi hC hgd;rw[wM hgd]at hh;have KH:=h_ hh;have c0:=hC.b0;have HB:=h_ (af VB.out hC.SZ);clear hh;(go_wp2_with fail);refine KH.out.mono ?_;rintro e x2 ⟨v,rfl,hv,hb⟩;obtain⟨p2,c2,rfl,_⟩:=hv;have HB2:=h_ (af HB.out hb);clear hb hC KH;(go_wp2_with fail);go_ret;exact⟨rfl,HB2.out⟩
theorem M8(p:NN.Pr)(hp:p.ok)(h1:p.one)(t:Tl)(tt:p.tl=t.C)(ht:t.ok)(gs:List Gt)(cs:List Ck)(hgn:t.gn=gs.length)(hcn:t.cn=cs.length)(a:Option Addr)(ls:List Ac)(n c:Nat)(hn:n=ls.length)(hl:n<=4611686018427387904)(Zm:∀x∈ls,-9223372036854775808<=x.now/\x.now<=9223372036854775807)(w:World)(hT:dM w)(hA:fR w a ls)(hG:aI w t.ga gs)(hC:az w t.ca cs):an 8 #[.agg (NN.aE p),.slice a n c] w (.bool true):=by
 have KA:aV w 9 #[] (.bool true):=h_ fun w' hb=>vP w' (hT.below hb)
 have KG:∀g,mD p t gs cs ls=g->aV w 10 #[.agg (NN.aE p),.slice a n c] (.bool g):=fun g hg=>h_ fun w' hb=>D3 p hp t tt ht gs cs hgn hcn ls n a c hn hl g hg w' (hA.below hb) (hG.below hb) (hC.below hb)
 cases hg:mD p t gs cs ls
 ·have Ti:=KG false hg;unfold mD AE at hg;simp only[Bool.or_eq_false_iff,decide_eq_false_iff_not,Bool.not_eq_false']at hg;obtain⟨⟨⟨⟨hg0,hg1⟩,hg2⟩,hg3⟩,hr⟩:=hg
  have W0:2<=p.Rj:=by
   unfold jc NN.Pr.bK at hr;simp only[Bool.and_eq_true,decide_eq_true_eq]at hr;exact hr.1.1.1.1.1.1.1.1.2
  have HA:=h_ fun w' (hb:Bl w w')=>hA.below hb
  have HT:=h_ fun w' (hb:Bl w w')=>hT.below hb
  have VP:Hid (gs.length<=1000/\cs.length<=1000/\2<=p.Rj):=h_ ⟨by omega,by omega,W0⟩;have KS:=h_ fun w' (hb:Bl w w')=>I9 p hp h1 t tt ht gs cs hgn hcn (by omega) (by omega) hr w' (hT.below hb) (hG.below hb) (hC.below hb)
  exact P4 p hp ⟨p,t.g,gs,cs,100⟩ a n c w ls HA (h_ hn) (by omega) HT VP (h_ Zm) KA Ti KS
 have Ti:=KG true hg;exact N8 p hp a n c w KA Ti
