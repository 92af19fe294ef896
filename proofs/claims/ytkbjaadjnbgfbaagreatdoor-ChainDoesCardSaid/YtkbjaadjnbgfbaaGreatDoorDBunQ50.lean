import Derived.Test.YtkbjaadjnbgfbaaGreatDoorDBunQ45
import Derived.Test.YtkbjaadjnbgfbaaGreatDoorDBunQ49
set_option maxRecDepth 100000
set_option maxHeartbeats 8000000
namespace Go.Proofs.YtkbjaadjnbgfbaaGreatDoor.An
open Go.RowKit Mem Sc NN.Q8
open Ar (aq Ru aB Ok cg Row cG Up dO eE)
open Mk (bZ cZ aY pb verdict bB bk eZ word a_)
theorem Ou(p:NN.Pr)(hp:p.ok)(a:Option Addr)(n c:Nat)(w:World)(KA:aO w 9 #[] (.bool true))(KG:aO w 10 #[.agg (NN.aE p),.slice a n c] (.bool true)):ak 3 #[.agg (NN.aE p),.slice a n c] w (.bool true):=by
 have hz:=NN.eu hp;go_enter Tryz.func3,Tryz.ntmps3;go_upto_region 1 with fail
 generalize hw0:World.alloc _ _=v0;have hB:Bl w v0:=de hw0;have hP:NN.aA v0 w.heap.size p:=by rw[<-hw0];exact NN.Has.new _ _
 clear hw0;obtain⟨bP,Q5⟩:∃x,x=w.heap.size:=⟨_,rfl⟩;rw[<-Q5]at hP|-;have Vm:Hid (bP=w.heap.size):=h_ Q5;clear Q5;go_wp2_with (first|fail)
 refine ar (KA.out _ hB) fun v1 hb=>?_;replace hP:=hP.on hb;replace hB:=ah hB hb;clear hb;go_wp2_with (with_reducible first|refine NN.dK rfl _ rfl _ rfl hP hz ?_|refine NN.fM (by with_unfolding_all rfl) _ rfl _ rfl hP hz ?_)
 refine ar (KG.out _ hB) fun v2 hb=>?_;replace hP:=hP.on hb;replace hB:=ah hB hb;clear hb;go_wp2_with fail
 go_ret;exact⟨rfl,hB⟩
theorem Mw(p:NN.Pr)(hp:p.ok)(r:Ru)(a:Option Addr)(n c:Nat)(w:World)(ls:List Ac)(HA:j1 w fun w'=>f' w' a ls)(HN:Hid (n=ls.length))(ab9:n<=50)(HT:j1 w fun w'=>dS w')(HG:Hid (r.gs.length<=1000/\r.cs.length<=1000/\2<=r.p.QX))(Xq:Hid (∀x∈ls,-9223372036854775808<=x.now/\x.now<=9223372036854775807))(KA:aO w 9 #[] (.bool true))(KG:aO w 10 #[.agg (NN.aE p),.slice a n c] (.bool false))(KS:j1 w fun w'=>aK 11 #[.agg (NN.aE p)] w' fun e w''=>∃bb cb mr bt mb mg bm rb,e=.returned (af bb)/\lB w' w'' r bb cb mr bt mb mg bm rb [aB] Mk.jV [0]):ak 3 #[.agg (NN.aE p),.slice a n c] w (.bool true):=by
 have hz:=NN.eu hp;go_enter Tryz.func3,Tryz.ntmps3;go_upto_region 1 with fail
 generalize hw0:World.alloc _ _=v0;have hB:Bl w v0:=de hw0;have hP:NN.aA v0 w.heap.size p:=by rw[<-hw0];exact NN.Has.new _ _
 clear hw0;obtain⟨bP,Q5⟩:∃x,x=w.heap.size:=⟨_,rfl⟩;rw[<-Q5]at hP|-;have Vm:Hid (bP=w.heap.size):=h_ Q5;clear Q5;go_wp2_with (first|fail)
 refine ar (KA.out _ hB) fun v1 hb=>?_;replace hP:=hP.on hb;replace hB:=ah hB hb;clear hb;go_wp2_with (with_reducible first|refine NN.dK rfl _ rfl _ rfl hP hz ?_|refine NN.fM (by with_unfolding_all rfl) _ rfl _ rfl hP hz ?_)
 refine ar (KG.out _ hB) fun v2 hb=>?_;replace hP:=hP.on hb;replace hB:=ah hB hb;clear hb;go_wp2_with (first|fail|(with_reducible refine NN.dK rfl _ rfl _ rfl hP hz ?_))
 refine(KS.out _ hB).mono ?_;rintro e v3 ⟨bb,cb,mr,bt,mb,mg,bm,rb,rfl,hC⟩;have Vj:=h_ hB;have WZ:Hid (∀w',Bl v2 w'->dS w'):=h_ fun w' hb=>HT.out w' (ah hB hb)
 clear hB hP KA KG KS;go_wp2_with fail
 go_loopw [21] (fun u wr=>∃(k:Nat)(M:List aq)(S:Mk.St)(L:List Int),k<=n/\u=i_ k/\lB v2 wr r bb cb mr bt mb mg bm rb M S L/\Hid (Ok r M/\M.length<=k+1/\Mk.Good M.length S)) (fun u _=>n-(intOf u).toNat)
 case atStart=>exact⟨0,[aB],Mk.jV,[0],by omega,rfl,hC,h_ ⟨Ok.one r,Nat.le_refl _,Mk.Good.start 1 (by decide)⟩⟩
 case round=>
  clear hC;obtain⟨k,M,S,L,hk,rfl,hC,HM⟩:=hrel;have hM9:M.length<=60:=by have:=HM.out.2.1;omega
  have hB:=ah Vj.out hC.TQ;by_cases hlt:k<n
  ·obtain⟨ab,ao,hae,Rg,hc⟩:=(HA.out _ hB) (by rw[<-HN.out];omega);subst hae;have hk2:k<ls.length:=by rw[<-HN.out];exact hlt
   obtain⟨q0,q1⟩:=hc k hk2;have Ux:=h_ (Xq.out _ (List.getElem_mem hk2));clear hc hB;generalize ls[k]=y at*;clear hk2;have z1:=BC q0;have z2:=jB q0;have z0:=jB (c:=G2) dB;have hb2:Bl wr ((wr.alloc (.cells Tryz.zeroCells39 39)).setRow wr.heap.size (dk y)):=below_setRow aZ (Nat.le_refl _) _;have hnew:=Ce wr;have hY:=wY wr y;have hgd:Gd r M S:=⟨HM.out.1,by omega,HM.out.2.2⟩;have KD:=h_ (BX (hC.below hb2) hgd HG WZ y q0 Ux);clear hC hb2 hgd;go_wp2_with (with_reducible first|refine B6 rfl _ rfl ab (ao+k*72) rfl y q1 z1 ?_|refine Aj rfl _ _ rfl _ _ y rfl rfl rfl z2 hnew z0 ?_|refine vy rfl _ rfl _ rfl y hY z2 ?_)
   refine KD.out.mono ?_;rintro e v6 ⟨rfl,L',hC⟩;have HM7:Hid (Ok r (dm r M y)/\(dm r M y).length<=k+1+1/\Mk.Good (dm r M y).length (dE M S y)):=h_ (Co HM.out.1 HM.out.2.1 HM.out.2.2 y q0);clear KD hY hnew z0 z1 z2 q1 HM;generalize World.setRow _ _ _=v5 at*;generalize dm r M y=M' at*;generalize dE M S y=S' at*;obtain⟨tip,hL7,Y5⟩:=hC;have Y6:=HM7.out;have KS7:=h_ (tu hL7 Y5 ⟨Y6.1,by omega,Y6.2.2⟩);have hC:lB v2 v6 r bb cb mr bt mb mg bm rb M' S' L':=⟨tip,hL7,Y5⟩;clear hL7 Y5 Y6;go_wp2_with fail
   refine KS7.out.mono ?_;rintro e v7 ⟨rfl,hb⟩;replace hC:=hC.below hb;clear hb KS7;go_wp2_with fail
   go_roundw
   case rel=>exact⟨k+1,M',S',L',by omega,by go_num,hC,HM7⟩
   case measure=>simp[intOf];omega
  ·obtain rfl:k=n:=by omega
   have hgd:Gd r M S:=⟨HM.out.1,by omega,HM.out.2.2⟩;clear HA hM9;clear hC hgd WZ HM Vj;go_wp2_with fail
   refine ar (Oe _) fun x1 hb=>?_;replace hB:=ah hB hb;clear hb;go_wp2_with fail
   refine ar (pF _) fun x2 hb=>?_;replace hB:=ah hB hb;clear hb;go_wp2_with fail
   refine ar (Ad _) fun x3 hb=>?_;replace hB:=ah hB hb;clear hb;go_wp2_with fail
   refine ar (zD _) fun x4 hb=>?_;replace hB:=ah hB hb;clear hb;go_wp2_with fail
   refine ar (yM _) fun x5 hb=>?_;replace hB:=ah hB hb;clear hb;go_wp2_with fail
   refine ar (kD r _) fun x6 hb=>?_;replace hB:=ah hB hb;clear hb;go_wp2_with fail
   refine ar (IN r _) fun x7 hb=>?_;replace hB:=ah hB hb;clear hb;go_wp2_with fail
   refine ar (DL r _) fun x8 hb=>?_;replace hB:=ah hB hb;clear hb;go_wp2_with fail
   refine ar (vS r _) fun x9 hb=>?_;replace hB:=ah hB hb;clear hb;go_wp2_with fail
   refine ar (NC _) fun y1 hb=>?_;replace hB:=ah hB hb;clear hb;go_wp2_with fail
   refine(z_ r _).mono ?_;rintro e y2 ⟨p9,c9,rfl,hb⟩;replace hB:=ah hB hb;clear hb;go_wp2_with fail
   refine ar (zm _) fun y3 hb=>?_;replace hB:=ah hB hb;clear hb;go_wp2_with fail
   refine ar (mZ _) fun y4 hb=>?_;replace hB:=ah hB hb;clear hb;go_wp2_with fail
   go_ret;exact⟨rfl,hB⟩
theorem MZ(p:NN.Pr)(hp:p.ok)(h1:p.one)(t:Tl)(tt:p.tl=t.C)(ht:t.ok)(gs:List Gt)(cs:List Ck)(hgn:t.gn=gs.length)(hcn:t.cn=cs.length)(a:Option Addr)(ls:List Ac)(n c:Nat)(hn:n=ls.length)(hl:n<=4611686018427387904)(Y7:∀x∈ls,-9223372036854775808<=x.now/\x.now<=9223372036854775807)(w:World)(hT:dS w)(hA:f' w a ls)(hG:aJ w t.ga gs)(hC:az w t.ca cs):ak 3 #[.agg (NN.aE p),.slice a n c] w (.bool true):=by
 have KA:aO w 9 #[] (.bool true):=h_ fun w' hb=>uc w' (hT.below hb)
 have KG:∀g,lX p t gs cs ls=g->aO w 10 #[.agg (NN.aE p),.slice a n c] (.bool g):=fun g hg=>h_ fun w' hb=>Dc p hp t tt ht gs cs hgn hcn ls n a c hn hl g hg w' (hA.below hb) (hG.below hb) (hC.below hb)
 cases hg:lX p t gs cs ls
 ·have S4:=KG false hg;unfold lX BE at hg;simp only[Bool.or_eq_false_iff,decide_eq_false_iff_not,Bool.not_eq_false']at hg;obtain⟨⟨⟨⟨hg0,hg1⟩,hg2⟩,hg3⟩,hr⟩:=hg
  have WC:2<=p.QX:=by
   unfold jd NN.Pr.b_ at hr;simp only[Bool.and_eq_true,decide_eq_true_eq]at hr;exact hr.1.1.1.1.1.1.1.1.2
  have HA:=h_ fun w' (hb:Bl w w')=>hA.below hb
  have HT:=h_ fun w' (hb:Bl w w')=>hT.below hb
  have Vv:Hid (gs.length<=1000/\cs.length<=1000/\2<=p.QX):=h_ ⟨by omega,by omega,WC⟩;have KS:=h_ fun w' (hb:Bl w w')=>Et p hp h1 t tt ht gs cs hgn hcn (by omega) (by omega) hr w' (hT.below hb) (hG.below hb) (hC.below hb)
  exact Mw p hp ⟨p,t.g,gs,cs,100⟩ a n c w ls HA (h_ hn) (by omega) HT Vv (h_ Y7) KA S4 KS
 have S4:=KG true hg;exact Ou p hp a n c w KA S4
