import Derived.Test.YtkbjaadjnbgfbaaGreatDoorBBunQ45
import Derived.Test.YtkbjaadjnbgfbaaGreatDoorBBunQ49
set_option maxRecDepth 100000
set_option maxHeartbeats 8000000
namespace Go.Proofs.YtkbjaadjnbgfbaaGreatDoor.An
open Go.RowKit Mem Sc NN.Si
open Ar (aq Ru aB Ok cp Row cB Up dK eJ)
open Mk (cF gk aM pb verdict a_ bc dP word bF)
variable{n:Nat}
theorem rM{w:World}{v:Value}{l:List Int}{g:Nat}{T:List Value}(h:jf w v l)(hb:Has w g (l.map (Value.int .i64)++T).toArray 3)(hn:l.length=n)(h9:l.length<=1000)(c:Nat):ak 27 #[v,.slice (aT g) n c] w (.bool true):=by subst hn;have:=Em h (jf.made (c:=c) hb) h9;rwa[decide_eq_true rfl]at this
variable{S:Mk.St}
theorem Qm{x:Int}(h:¬dP n x=0):a_ n S x=(dP n x,S):=by unfold Mk.a_;rw[if_pos h]
theorem JA{r:Ru}{M:List aq}{x:Nat}(hM:Ok r M)(hG:Mk.Good M.length S)(h1:1<=x)(h2:x<M.length)(h:∀i:Nat,i<M.length->Mk.On M (x:Int) i->bF S i=false):∃S1:Mk.St,a_ M.length S (x:Int)=(0,S1)/\bc M S1 (x:Int)=(0,S)/\Mk.Good M.length S1:=by
 have hx:dP M.length (x:Int)=0:=by
  unfold Mk.dP;rw[if_pos (by omega),if_neg (by omega)]
 have ha:cB M (x:Int) (x:Int):=Mk.H7 hM h2
 have hb:=Mk.back x hx (fun i hi=>h i (by
  rcases hi with hi|hi
  obtain⟨k,e,hk,hk2⟩:=Mk.sY hM hi;omega;exact Mk.Mg hi) hi) (.inl ha)
 exact⟨(a_ M.length S (x:Int)).2,by rw[<-hb.1],hb.2,hG.a_ _⟩
theorem OI(p:NN.Pr)(hp:p.ok)(a:Option Addr)(n c:Nat)(N:Int)(sb:Bool)(w:World)(KA:aQ w 9 #[] (.bool true))(KG:aQ w 10 #[.agg (NN.aE p),.slice a n c] (.bool true)):ak 7 #[.agg (NN.aE p),.slice a n c,i_ N,.bool sb] w (.bool true):=by
 have hz:=NN.eH hp;go_enter Tryz.func7,Tryz.ntmps7;go_upto_region 1 with fail
 generalize hw0:World.alloc _ _=v0;have hB:Bl w v0:=dd hw0;have hP:NN.aA v0 w.heap.size p:=by rw[<-hw0];exact NN.Has.new _ _
 clear hw0;obtain⟨bP,Sf⟩:∃x,x=w.heap.size:=⟨_,rfl⟩;rw[<-Sf]at hP|-;have Wz:Hid (bP=w.heap.size):=h_ Sf;clear Sf;go_wp2_with (first|fail)
 refine au (KA.out _ hB) fun v1 hb=>?_;replace hP:=hP.on hb;replace hB:=ah hB hb;clear hb;go_wp2_with (with_reducible first|refine NN.dH rfl _ rfl _ rfl hP hz ?_|refine NN.fV (by with_unfolding_all rfl) _ rfl _ rfl hP hz ?_)
 refine au (KG.out _ hB) fun v2 hb=>?_;replace hP:=hP.on hb;replace hB:=ah hB hb;clear hb;go_wp2_with fail
 go_ret;exact⟨rfl,hB⟩
theorem Qx(p:NN.Pr)(hp:p.ok)(r:Ru)(a:Option Addr)(n c:Nat)(N:Int)(sb:Bool)(w:World)(ls:List Ac)(HA:jR w fun w'=>gm w' a ls)(HN:Hid (n=ls.length))(ad5:n<=50)(HT:jR w fun w'=>dQ w')(HG:Hid (r.gs.length<=1000/\r.cs.length<=1000/\2<=r.p.R8))(YL:Hid (∀x∈ls,-9223372036854775808<=x.now/\x.now<=9223372036854775807))(KA:aQ w 9 #[] (.bool true))(KG:aQ w 10 #[.agg (NN.aE p),.slice a n c] (.bool false))(KS:jR w fun w'=>aG 11 #[.agg (NN.aE p)] w' fun e w''=>∃bb cb mr bt mb mg bm rb,e=.returned (af bb)/\lT w' w'' r bb cb mr bt mb mg bm rb [aB] Mk.j5 [0]):ak 7 #[.agg (NN.aE p),.slice a n c,i_ N,.bool sb] w (.bool true):=by
 have hz:=NN.eH hp;go_enter Tryz.func7,Tryz.ntmps7;go_upto_region 1 with fail
 generalize hw0:World.alloc _ _=v0;have hB:Bl w v0:=dd hw0;have hP:NN.aA v0 w.heap.size p:=by rw[<-hw0];exact NN.Has.new _ _
 clear hw0;obtain⟨bP,Sf⟩:∃x,x=w.heap.size:=⟨_,rfl⟩;rw[<-Sf]at hP|-;have Wz:Hid (bP=w.heap.size):=h_ Sf;clear Sf;go_wp2_with (first|fail)
 refine au (KA.out _ hB) fun v1 hb=>?_;replace hP:=hP.on hb;replace hB:=ah hB hb;clear hb;go_wp2_with (with_reducible first|refine NN.dH rfl _ rfl _ rfl hP hz ?_|refine NN.fV (by with_unfolding_all rfl) _ rfl _ rfl hP hz ?_)
 refine au (KG.out _ hB) fun v2 hb=>?_;replace hP:=hP.on hb;replace hB:=ah hB hb;clear hb;go_wp2_with (first|fail|(with_reducible refine NN.dH rfl _ rfl _ rfl hP hz ?_))
 refine(KS.out _ hB).mono ?_;rintro e v3 ⟨bb,cb,mr,bt,mb,mg,bm,rb,rfl,hC⟩;have Um:=h_ hB;have YS:Hid (∀w',Bl v2 w'->dQ w'):=h_ fun w' hb=>HT.out w' (ah hB hb)
 clear hB hP KA KG KS;go_wp2_with fail
 go_loopw [26] (fun u wr=>∃(k:Nat)(M:List aq)(S:Mk.St)(L:List Int),k<=n/\u=i_ k/\lT v2 wr r bb cb mr bt mb mg bm rb M S L/\Hid (Ok r M/\M.length<=k+1/\Mk.Good M.length S)) (fun u _=>n-(intOf u).toNat)
 case atStart=>exact⟨0,[aB],Mk.j5,[0],by omega,rfl,hC,h_ ⟨Ok.one r,Nat.le_refl _,Mk.Good.start 1 (by decide)⟩⟩
 case round=>
  clear hC;obtain⟨k,M,S,L,hk,rfl,hC,HM⟩:=hrel;have hM9:M.length<=60:=by have:=HM.out.2.1;omega
  have hB:=ah Um.out hC.S9;by_cases hlt:k<n
  ·obtain⟨ab,ao,hae,Sv,hc⟩:=(HA.out _ hB) (by rw[<-HN.out];omega);subst hae;have hk2:k<ls.length:=by rw[<-HN.out];exact hlt
   obtain⟨q0,q1⟩:=hc k hk2;have VI:=h_ (YL.out _ (List.getElem_mem hk2));clear hc hB;generalize ls[k]=y at*;clear hk2;have z1:=Bw q0;have z2:=jW q0;have z0:=jW (c:=Jc) fe;have hb2:Bl wr ((wr.alloc (.cells Tryz.zeroCells39 39)).setRow wr.heap.size (dh y)):=below_setRow aY (Nat.le_refl _) _;have hnew:=BZ wr;have hY:=yQ wr y;have hgd:Gd r M S:=⟨HM.out.1,by omega,HM.out.2.2⟩;have KD:=h_ (AL (hC.below hb2) hgd HG YS y q0 VI);clear hC hb2 hgd;go_wp2_with (with_reducible first|refine Bd rfl _ rfl ab (ao+k*72) rfl y q1 z1 ?_|refine Bv rfl _ _ rfl _ _ y rfl rfl rfl z2 hnew z0 ?_|refine wD rfl _ rfl _ rfl y hY z2 ?_)
   refine KD.out.mono ?_;rintro e v6 ⟨rfl,L',hC⟩;have HM7:Hid (Ok r (di r M y)/\(di r M y).length<=k+1+1/\Mk.Good (di r M y).length (dD M S y)):=h_ (Am HM.out.1 HM.out.2.1 HM.out.2.2 y q0);clear KD hY hnew z0 z1 z2 q1 HM;generalize World.setRow _ _ _=v5 at*;generalize di r M y=M' at*;generalize dD M S y=S' at*;go_wp2_with fail
   go_roundw
   case rel=>exact⟨k+1,M',S',L',by omega,by go_num,hC,HM7⟩
   case measure=>simp[intOf];omega
  ·obtain rfl:k=n:=by omega
   have hgd:Gd r M S:=⟨HM.out.1,by omega,HM.out.2.2⟩;clear HA hM9;clear hB;obtain⟨tip,hL,hC⟩:=hC;obtain⟨K,hK⟩:=AR hgd;obtain⟨t,ht⟩:∃t,t=jV r M S:=⟨_,rfl⟩;obtain⟨l,hl⟩:∃l,l=RE r M S:=⟨_,rfl⟩;have hse:=pW hC hgd hL hK;rw[<-ht]at hse;have U2:=h_ hse;have Yd:=h_ ht;have HL:=h_ hl;have c0:=hC.b0;clear hse hC ht hl;go_wp2_with fail
   refine U2.out.mono ?_;rintro e w6 ⟨rfl,hC⟩;have hse:=EK hC hgd hL hK;have U2:=h_ hse;have c1:=hC.b1;clear hse hC;go_wp2_with fail
   refine U2.out.mono ?_;rintro e w7 ⟨rfl,hC⟩;have HC:=h_ hC;have Yy:=ah Um.out hC.S9;have HB7:=h_ Yy;clear U2 hC hL Yy;go_wp2_with fail
   refine u7 (fun fl g w'=>Bl w7 w'/\(fl 9=true->nZ w7 w' g (zs (lQ r M (aM M S) M.length t)))) [9] [3,4,8,9,13,14] (fun g=>[af bb,af bb,af bb,af cb,i_ t,af bb,af bb,af bb,af cb,g,af bb,af bb,af bb,af cb,i_ l,i_ t,g,i_ l]) undef ⟨bf.drew,fun q=>by cases q⟩ ⟨fun fl g w' f hC=>.val (dj rfl rfl (fx (HC.out.below hC.1).b0)) hC,fun fl g w' f hC=>?_,fun fl g w' f hC=>.val (dj rfl rfl (fx (HC.out.below hC.1).b0)) hC,fun fl g w' f hC=>?_,fun fl g w' f hC=>.val (dj rfl rfl (fx (HC.out.below hC.1).b0)) hC,fun fl g w' f hC=>?_,trivial⟩ ?_;exact .call ((ij (HC.out.below hC.1).c2).mono fun _ _ h=>⟨h.1,ah hC.1 h.2,fun q=>(hC.2 q).on h.2⟩);refine .UB [9,16] ((JN (HC.out.below hC.1) hgd).mono fun e w2 q=>?_);obtain⟨v,e1,hv,hb⟩:=q;exact⟨v,rfl,e1,ah hC.1 hb,fun _=>⟨hv.1,fun k hk=>Nat.le_trans hC.1.size (hv.2 k hk)⟩⟩;have h1:=zY (HC.out.below hC.1) hgd;rw[<-HL.out]at h1;exact .call (h1.mono fun _ _ h=>⟨h.1,ah hC.1 h.2,fun q=>(hC.2 q).on h.2⟩);rintro v w8 ⟨Te,hv⟩;replace hv:=hv rfl;simp only[dg,List.set_cons_zero,List.set_cons_succ,List.tail_cons,List.headD_cons];have htl:t<M.length:=by rw[Yd.out];exact Mk.jU M.length hgd.1.pos
   have hvt:aM M S (t:Int)=true:=by
    rw[Yd.out];exact Mk.nE (H:=Hv r M) (P:=fun i=>aM M S (i:Int)) (Cb hgd.1 hgd.2.2) M.length
   have hsm:=Ho (r:=r) htl hvt;have hfe:=tF (r:=r) (V:=aM M S) htl;have Ye:Hid ((zs (lQ r M (aM M S) M.length t)).length<=1000):=h_ (Nat.le_trans hfe (Nat.le_trans hgd.2.1 (by decide)));rcases qR hv.1 with⟨_,h0⟩|⟨g,cv,T,rfl,hg,hcv,hmx⟩
   rw[h0]at hsm;exact absurd hsm (Nat.lt_irrefl _);have hC:=HC.out.put Te (hv.2 g rfl) hg (by decide) (by decide);obtain⟨nl,hnl⟩:∃nl,(zs (lQ r M (aM M S) M.length t)).length=nl:=⟨_,rfl⟩;have Yk:=h_ hnl;rw[hnl];clear hnl hsm hfe hg hv Te HC HB7 hcv hmx;have c0:=hC.b0;go_wp2_with fail
   refine au ((Al hC).out _ bf) fun w9 hb=>?_;replace hC:=hC.below hb;clear hb c0;have c1:=hC.b1;have c2:=hC.m0;obtain⟨X0,hX0⟩:=hC.core;obtain⟨aL,cL,hLs⟩:=hX0.list;have UZ:=hLs _ bf;obtain⟨m,hm⟩:∃m,m=M.length:=⟨_,rfl⟩;have Hm:=h_ hm;rw[<-hm]at UZ;have VD:m<=100:=by rw[hm];exact hgd.2.1
   clear hm hLs hX0;have HC:=h_ hC;clear hC;go_wp2_with fail
   go_loopw [75] (fun u wr=>∃q:Nat,q<=m/\u=i_ q/\aS v2 wr r bb cb mr bt mb mg bm rb [(g,((zs (lQ r M (aM M S) M.length t)).map (Value.int .i64)++T).toArray,3)] M M S S t K/\Hid (∀i:Nat,i<q->Mk.On M N i->bF S i=false)) (fun u _=>m-(intOf u).toNat)
   case atStart=>exact⟨0,Nat.zero_le _,rfl,HC.out,h_ fun i hi=>by omega⟩
   case round=>
    clear c1 c2 UZ;obtain⟨q,hq,rfl,hC,HIT⟩:=hrel;rename World=>wq
    have HBq:=h_ (ah Um.out hC.S9);by_cases hqm:q<m
    ·obtain⟨it,hit⟩:∃it,it=bF S q:=⟨_,rfl⟩;obtain⟨w1,hw1⟩:∃b,b=pb (cB M (q:Int) N):=⟨_,rfl⟩;obtain⟨w2,hw2⟩:∃b,b=pb (cB M N (q:Int)):=⟨_,rfl⟩;have c1:=hC.b1;have c3:=hC.m1;have Yf:=NA hC.rk (M:=M) (by rw[<-Hm.out];omega) q (by rw[<-Hm.out];exact hqm);rw[<-hit]at Yf;have Yf:=h_ Yf
     have HG9:Hid (it=false\/(w1=false/\w2=false)->∀i:Nat,i<q+1->Mk.On M N i->bF S i=false):=h_ fun hh i hi hon=>by
      rcases Nat.lt_or_ge i q with h|h
      exact HIT.out i h hon
      ·obtain rfl:i=q:=(by omega);rcases hh with hh|⟨hh1,VT⟩
       rw[<-hit];exact hh
       ·rcases hon with hon|hon
        rw[hh1]at hw1;exact absurd hon (Mk.qU.1 hw1.symm);rw[VT]at hw2;exact absurd hon (Mk.qU.1 hw2.symm)
     clear hit HIT;(go_wp2_with fail);refine Yf.out.mono ?_;rintro e w5 ⟨rfl,hb⟩;replace hC:=hC.below hb;clear hb Yf c1 c3;cases it
     ·clear hw1 hw2;(go_wp2_with fail);go_roundw
      case rel=>exact⟨q+1,by omega,by go_num,hC,h_ (HG9.out (by simp))⟩
      case measure=>simp[intOf];omega
     ·have VH:=B9 hC hgd.1 (Nat.le_trans hgd.2.1 (by decide)) (q:Int) N;rw[<-hw1]at VH;have VH:=h_ VH;clear hw1;(go_wp2_with fail);refine VH.out.mono ?_;rintro e w6 ⟨rfl,hb⟩;replace hC:=hC.below hb;clear hb VH;cases w1
      ·have Vg:=B9 hC hgd.1 (Nat.le_trans hgd.2.1 (by decide)) N (q:Int);rw[<-hw2]at Vg;have Vg:=h_ Vg;clear hw2;(go_wp2_with fail);refine Vg.out.mono ?_;rintro e w7 ⟨rfl,hb⟩;replace hC:=hC.below hb;clear hb Vg;cases w2
       ·(go_wp2_with fail);go_roundw
        case rel=>exact⟨q+1,by omega,by go_num,hC,h_ (HG9.out (by simp))⟩
        case measure=>simp[intOf];omega
       ·have HB:=h_ (ah Um.out hC.S9);clear hC;(go_wp2_with fail);go_ret;exact⟨rfl,HB.out⟩
      ·have HB:=h_ (ah Um.out hC.S9);clear hC hw2;(go_wp2_with fail);go_ret;exact⟨rfl,HB.out⟩
    ·obtain rfl:q=m:=(by omega);by_cases hz:dP M.length N=0
     ·obtain⟨z1,z2,z3⟩:=Mk.pg hz;generalize N.toNat=x at*;subst z3;obtain⟨S1,f1,f2,f3⟩:=JA hgd.1 hgd.2.2 (by omega) z2 fun i hi=>HIT.out i (by rw[Hm.out];exact hi)
      have hin:=Ca hC hgd.2.1 (x:Int);rw[f1]at hin;have Yg:=h_ hin;have Tz:=h_ f2;have hg1:Gd r M S1:=⟨hgd.1,hgd.2.1,f3⟩;have c0:=hC.b0;clear hin f1 f2 f3 hC HIT hz;(go_wp2_with fail);refine Yg.out.mono ?_;rintro e x1 ⟨rfl,hC⟩;clear Yg c0;have hK2:=hK;rw[<-Yd.out]at hK2;cases sb
      ·have c0:=hC.b0;have hre:=B8 hC hgd.1 hgd.2.1 (x:Int);rw[Tz.out]at hre;have Yh:=h_ hre;clear hre hC;(go_wp2_with fail);refine Yh.out.mono ?_;rintro e x3 ⟨rfl,hC⟩;have hse:=pW hC hgd hK2 hK;rw[<-Yd.out]at hse;have U2:=h_ hse;have c0:=hC.b0;clear hse hC Yh;(go_wp2_with fail);refine U2.out.mono ?_;rintro e x4 ⟨rfl,hC⟩;have c0:=hC.b0;clear U2;(go_wp2_with fail);refine au (ij hC.c2) fun x5 hb=>?_;replace hC:=hC.below hb;have KH:=h_ (Jf hC hgd);clear hb;have c0:=hC.b0;(go_wp2_with fail);refine KH.out.mono ?_;rintro e x6 ⟨v2,rfl,hv2,hb⟩;replace hC:=hC.below hb;clear hb KH;have hbx:=hC.has (p:=(g,((zs (lQ r M (aM M S) M.length t)).map (Value.int .i64)++T).toArray,3)) (List.mem_singleton.2 rfl);have hrw:=rM hv2 hbx Yk.out Ye.out cv;obtain⟨p9,c9,rfl,_⟩:=hv2;have HRW:=h_ hrw;clear hrw;(go_wp2_with fail);refine HRW.out.mono ?_;rintro e x7 ⟨rfl,hb⟩;replace hC:=hC.below hb;have hld:=zY hC hgd;rw[<-HL.out]at hld;have Yi:=h_ hld;clear hb HRW hld;have c0:=hC.b0;have HB:=h_ (ah Um.out hC.S9);clear hC;(go_wp2_with fail);refine Yi.out.mono ?_;rintro e x8 ⟨rfl,hb⟩;have HB2:=h_ (ah HB.out hb);clear hb Yi;(go_wp2_with fail);go_ret;exact⟨rfl,HB2.out⟩
      ·obtain⟨K1,hK1⟩:=AR hg1;have hs1:=pW hC hg1 hK2 hK1;have S_:=h_ hs1;have c0:=hC.b0;clear hs1 hC;(go_wp2_with fail);refine S_.out.mono ?_;rintro e x2 ⟨rfl,hC⟩;clear S_ c0;have c0:=hC.b0;have hre:=B8 hC hgd.1 hgd.2.1 (x:Int);rw[Tz.out]at hre;have Yh:=h_ hre;clear hre hC;(go_wp2_with fail);refine Yh.out.mono ?_;rintro e x3 ⟨rfl,hC⟩;have hse:=pW hC hgd hK1 hK;rw[<-Yd.out]at hse;have U2:=h_ hse;have c0:=hC.b0;clear hse hC Yh;(go_wp2_with fail);refine U2.out.mono ?_;rintro e x4 ⟨rfl,hC⟩;have c0:=hC.b0;clear U2;(go_wp2_with fail);refine au (ij hC.c2) fun x5 hb=>?_;replace hC:=hC.below hb;have KH:=h_ (Jf hC hgd);clear hb;have c0:=hC.b0;(go_wp2_with fail);refine KH.out.mono ?_;rintro e x6 ⟨v2,rfl,hv2,hb⟩;replace hC:=hC.below hb;clear hb KH;have hbx:=hC.has (p:=(g,((zs (lQ r M (aM M S) M.length t)).map (Value.int .i64)++T).toArray,3)) (List.mem_singleton.2 rfl);have hrw:=rM hv2 hbx Yk.out Ye.out cv;obtain⟨p9,c9,rfl,_⟩:=hv2;have HRW:=h_ hrw;clear hrw;(go_wp2_with fail);refine HRW.out.mono ?_;rintro e x7 ⟨rfl,hb⟩;replace hC:=hC.below hb;have hld:=zY hC hgd;rw[<-HL.out]at hld;have Yi:=h_ hld;clear hb HRW hld;have c0:=hC.b0;have HB:=h_ (ah Um.out hC.S9);clear hC;(go_wp2_with fail);refine Yi.out.mono ?_;rintro e x8 ⟨rfl,hb⟩;have HB2:=h_ (ah HB.out hb);clear hb Yi;(go_wp2_with fail);go_ret;exact⟨rfl,HB2.out⟩
     ·have hin:=Ca hC hgd.2.1 N;rw[Qm hz]at hin;have e1:(dP M.length N != 0)=true:=(by simpa using hz);obtain⟨z,hz2⟩:∃z,z=dP M.length N:=⟨_,rfl⟩;rw[<-hz2]at hin e1;have Yg:=h_ hin;have c0:=hC.b0;clear hin hC hz hz2;(go_wp2_with fail);refine Yg.out.mono ?_;rintro e x1 ⟨rfl,hC⟩;have HB:=h_ (ah Um.out hC.S9);clear hC Yg;(go_wp2_with fail);go_ret;exact⟨rfl,HB.out⟩
theorem Oe(p:NN.Pr)(hp:p.ok)(h1:p.one)(t:Tl)(tt:p.tl=t.C)(ht:t.ok)(gs:List Gt)(cs:List Ck)(hgn:t.gn=gs.length)(hcn:t.cn=cs.length)(a:Option Addr)(ls:List Ac)(n c:Nat)(hn:n=ls.length)(hl:n<=4611686018427387904)(aa3:∀x∈ls,-9223372036854775808<=x.now/\x.now<=9223372036854775807)(N:Int)(sb:Bool)(w:World)(hT:dQ w)(hA:gm w a ls)(hG:aJ w t.ga gs)(hC:az w t.ca cs):ak 7 #[.agg (NN.aE p),.slice a n c,i_ N,.bool sb] w (.bool true):=by
 have KA:aQ w 9 #[] (.bool true):=h_ fun w' hb=>tH w' (hT.below hb)
 have KG:∀g,mA p t gs cs ls=g->aQ w 10 #[.agg (NN.aE p),.slice a n c] (.bool g):=fun g hg=>h_ fun w' hb=>M_ p hp t tt ht gs cs hgn hcn ls n a c hn hl g hg w' (hA.below hb) (hG.below hb) (hC.below hb)
 cases hg:mA p t gs cs ls
 ·have Uf:=KG false hg;unfold mA C9 at hg;simp only[Bool.or_eq_false_iff,decide_eq_false_iff_not,Bool.not_eq_false']at hg;obtain⟨⟨⟨⟨hg0,hg1⟩,hg2⟩,hg3⟩,hr⟩:=hg
  have XV:2<=p.R8:=by
   unfold jo NN.Pr.bZ at hr;simp only[Bool.and_eq_true,decide_eq_true_eq]at hr;exact hr.1.1.1.1.1.1.1.1.2
  have HA:=h_ fun w' (hb:Bl w w')=>hA.below hb
  have HT:=h_ fun w' (hb:Bl w w')=>hT.below hb
  have WK:Hid (gs.length<=1000/\cs.length<=1000/\2<=p.R8):=h_ ⟨by omega,by omega,XV⟩;have KS:=h_ fun w' (hb:Bl w w')=>L4 p hp h1 t tt ht gs cs hgn hcn (by omega) (by omega) hr w' (hT.below hb) (hG.below hb) (hC.below hb)
  exact Qx p hp ⟨p,t.g,gs,cs,100⟩ a n c N sb w ls HA (h_ hn) (by omega) HT WK (h_ aa3) KA Uf KS
 have Uf:=KG true hg;exact OI p hp a n c N sb w KA Uf
