import Derived.Test.YtkbjaadjnbgfbaaGreatDoorCBunQ44
set_option maxRecDepth 100000
set_option maxHeartbeats 8000000
namespace Go.Proofs.YtkbjaadjnbgfbaaGreatDoor.An
open Go.RowKit Mem Sc NN.Rz
open Ar (aq Ru aB Ok bV Row cY Up dG d_)
open Mk (bT fX aO pb verdict dC dc iD word da)
theorem I3(r:Ru)(M:List aq)(h:Hd)(now:Int):∃X,(Ar.add r M h now).2=M++X:=by
 unfold Ar.add;repeat' (first|split|dsimp only)
 all_goals first|exact⟨[],(List.append_nil _).symm⟩|exact⟨_,rfl⟩
noncomputable def f_(M:List aq)(S:Mk.St)(y:Ac):Mk.St:=if y.kind=1 then(verdict M.length S y.n y.rt).2 else if y.kind=2 then(dC M.length S y.n).2 else if y.kind=3 then(dc M S y.n).2 else S
def fg(r:Ru)(M:List aq)(y:Ac):List aq:=if y.kind=0 then(Ar.add r M y.h y.now).2 else M
def gT(K L:List Int)(y:Ac):List Int:=if y.kind=4 then Ch.iF K L else if y.kind=5 then K else L
def mX(w0 w:World)(r:Ru)(bb cb mr bt mb mg bm rb:Nat)(M:List aq)(S:Mk.St)(L:List Int):Prop:=∃tip:Nat,Row M (tip:Int) L/\bf w0 w r bb cb mr bt mb mg bm rb [] M M S S tip L
variable{w0 w w':World}{r:Ru}{bb cb mr bt mb mg bm rb B:Nat}{M:List aq}{S:Mk.St}{L:List Int}
theorem mX.below(h:mX w0 w r bb cb mr bt mb mg bm rb M S L)(hb:Bl w w'):mX w0 w' r bb cb mr bt mb mg bm rb M S L:=by obtain⟨tip,h1,h2⟩:=h;exact⟨tip,h1,h2.below hb⟩
theorem GH(w0 w:World)(r:Ru)(bb cb mr bt mb mg bm rb:Nat)(M:List aq)(S:Mk.St)(tip:Nat)(L K:List Int)(hL:Row M (tip:Int) L)(h:bf w0 w r bb cb mr bt mb mg bm rb [] M M S S tip L)(hg:Gd r M S)(HG:Hid (r.gs.length<=1000/\r.cs.length<=1000/\2<=r.p.Rj))(HT:lJ w0 fun w'=>dM w')(y:Ac)(q0:y.h.ok)(VR:Hid (-9223372036854775808<=y.now/\y.now<=9223372036854775807))(hk:y.kind=0):aN 12 #[ah bb,.agg (eY y)] w fun e w'=>e=.returned (.bool true)/\mX w0 w' r bb cb mr bt mb mg bm rb (fg r M y) (f_ M S y) (gT K L y):=by
 have e1:fg r M y=(Ar.add r M y.h y.now).2:=by unfold fg;rw[if_pos hk]
 have e2:f_ M S y=S:=by unfold f_;rw[hk];rfl
 have e3:gT K L y=L:=by unfold gT;rw[if_neg (by omega),if_neg (by omega)]
 rw[e1,e2,e3];have HK:=h_ hk;clear e1 e2 e3 hk;have TR:=hg.2.1;have XF:=eR q0;have hza:=mB q0;have hb0:Bl w (w.alloc (.cells (eY y) 39)):=aY;obtain⟨bx,hbx⟩:∃bx,bx=w.heap.size:=⟨_,rfl⟩;have hY:eG (w.alloc (.cells (eY y) 39)) bx y:=by rw[hbx];exact Has.new _ _
 have hC:=h.box hb0 hbx hY;have T_:=h_ hbx;clear h hb0 hY hbx;go_enter Tryz.func12,Tryz.ntmps12;go_upto_region 1 with fail
 rw[<-T_.out];generalize World.alloc _ _=v1 at*;have c0:=hC.act.kind;rw[HK.out]at c0;go_wp2_with fail
 refine dW (fun b1 _ w'=>bf w0 w' r bb cb mr bt mb mg bm rb [(bx,eY y,39)] (bif b1 then(Ar.add r M y.h y.now).2 else M) M S S tip L) 8 99 [3,5,7,8] [ah bb,ah bb,ah bb,ah cb,.pointer (some ⟨bx,1,none⟩),.agg (aD y.h),.pointer (some ⟨bx,69,none⟩),i_ y.now,.tuple #[i_ (Ar.add r M y.h y.now).1.1,i_ (Ar.add r M y.h y.now).1.2.1,i_ (Ar.add r M y.h y.now).1.2.2],.tuple #[i_ (Ar.add r M y.h y.now).1.1,i_ (Ar.add r M y.h y.now).1.2.1,i_ (Ar.add r M y.h y.now).1.2.2],i_ (Ar.add r M y.h y.now).1.1,i_ (Ar.add r M y.h y.now).1.2.1,i_ (Ar.add r M y.h y.now).1.2.2,i_ (Ar.add r M y.h y.now).1.1,i_ (Ar.add r M y.h y.now).1.2.1,i_ (Ar.add r M y.h y.now).1.2.2] (hC.below a_.drew) ⟨fun _ _ _ _ _ hC=>.val (gF rfl rfl (mV hC.b0)) hC,fun _ _ _ _ _ hC=>.val (lP rfl rfl hC.act.head XF) hC,fun _ _ _ _ _ hC=>.val (gF rfl rfl (j5 (hC.act.now q0))) hC,fun b1 _ w' f1 _ hC=>?_,trivial⟩ ?_
 ·obtain rfl:=f1.no (by kernel_rfl);exact .call (BU (show bf w0 w' r bb cb mr bt mb mg bm rb [(bx,eY y,39)] M M S S tip L from hC) hg.1 (Nat.le_trans TR (by decide)) HG.out.1 HG.out.2.1 (fun w2 hb=>HT.out w2 (af hC.SZ hb)) y.h q0 y.now)
 intro v2 hC;replace hC:bf w0 v2 r bb cb mr bt mb mg bm rb [(bx,eY y,39)] (Ar.add r M y.h y.now).2 M S S tip L:=hC;simp only[dB,List.set_cons_zero,List.set_cons_succ,List.tail_cons,List.headD_cons];go_wp2_with fail
 refine dW (fun b1 _ w'=>bf w0 w' r bb cb mr bt mb mg bm rb [(bx,eY y,39)] (Ar.add r M y.h y.now).2 (bif b1 then(Ar.add r M y.h y.now).2 else M) S S tip L) 11 99 [3,6,8,10,11] [ah bb,ah bb,.pointer (some ⟨bb,1,none⟩),ah mr,ah mr,ah mr,ah bm,.pointer (some ⟨bx,1,none⟩),.agg (aD y.h),.pointer (some ⟨bx,69,none⟩),i_ y.now,.tuple #[i_ (Ar.add r M y.h y.now).1.1,i_ (Ar.add r M y.h y.now).1.2.1,i_ (Ar.add r M y.h y.now).1.2.2],.tuple #[i_ (Ar.add r M y.h y.now).1.1,i_ (Ar.add r M y.h y.now).1.2.1,i_ (Ar.add r M y.h y.now).1.2.2],i_ (Ar.add r M y.h y.now).1.1,i_ (Ar.add r M y.h y.now).1.2.1,i_ (Ar.add r M y.h y.now).1.2.2,i_ (Ar.add r M y.h y.now).1.1,i_ (Ar.add r M y.h y.now).1.2.1,i_ (Ar.add r M y.h y.now).1.2.2] (hC.below a_.drew) ⟨fun _ _ _ _ _ hC=>.val (gF rfl rfl (mK hC.b1)) hC,fun _ _ _ _ _ hC=>.val (gF rfl rfl (ni hC.m0)) hC,fun _ _ _ _ _ hC=>.val (lP rfl rfl hC.act.head XF) hC,fun _ _ _ _ _ hC=>.val (gF rfl rfl (j5 (hC.act.now q0))) hC,fun b1 _ w' f1 _ hC=>?_,trivial⟩ ?_
 ·obtain rfl:=f1.no (by kernel_rfl);exact .call ((show bf w0 w' r bb cb mr bt mb mg bm rb [(bx,eY y,39)] (Ar.add r M y.h y.now).2 M S S tip L from hC).lift fun X hX=>Lq hX hg.1 (Nat.le_trans TR (by decide)) HG.out.1 HG.out.2.1 HG.out.2.2 y.h q0 y.now VR.out.1 VR.out.2)
 intro v3 hC;replace hC:bf w0 v3 r bb cb mr bt mb mg bm rb [(bx,eY y,39)] (Ar.add r M y.h y.now).2 (Ar.add r M y.h y.now).2 S S tip L:=hC;have HC:=h_ hC.loose;have HR:Hid (Row (Ar.add r M y.h y.now).2 (tip:Int) L):=h_ (by obtain⟨X,hX⟩:=I3 r M y.h y.now;rw[hX];exact hL.more X);clear hC hL;simp only[dB,List.set_cons_zero,List.set_cons_succ,List.tail_cons,List.headD_cons];go_wp2_with fail
 go_ret;exact⟨rfl,tip,HR.out,HC.out⟩
theorem G2(w0 w:World)(r:Ru)(bb cb mr bt mb mg bm rb:Nat)(M:List aq)(S:Mk.St)(tip:Nat)(L K:List Int)(hL:Row M (tip:Int) L)(hK:Row M (jX r M S:Int) K)(h:bf w0 w r bb cb mr bt mb mg bm rb [] M M S S tip L)(hg:Gd r M S)(y:Ac)(q0:y.h.ok)(hk:y.kind=4):aN 12 #[ah bb,.agg (eY y)] w fun e w'=>e=.returned (.bool true)/\mX w0 w' r bb cb mr bt mb mg bm rb (fg r M y) (f_ M S y) (gT K L y):=by
 have e1:fg r M y=M:=by unfold fg;rw[if_neg (by omega)]
 have e2:f_ M S y=S:=by unfold f_;rw[hk];rfl
 have e3:gT K L y=Ch.iF K L:=by unfold gT;rw[if_pos hk]
 rw[e1,e2,e3];have HK:=h_ hk;clear e1 e2 e3 hk;have TR:=hg.2.1;have XF:=eR q0;have hza:=mB q0;have hb0:Bl w (w.alloc (.cells (eY y) 39)):=aY;obtain⟨bx,hbx⟩:∃bx,bx=w.heap.size:=⟨_,rfl⟩;have hY:eG (w.alloc (.cells (eY y) 39)) bx y:=by rw[hbx];exact Has.new _ _
 have hC:=h.box hb0 hbx hY;have T_:=h_ hbx;clear h hb0 hY hbx;go_enter Tryz.func12,Tryz.ntmps12;go_upto_region 1 with fail
 rw[<-T_.out];generalize World.alloc _ _=v1 at*;have c0:=hC.act.kind;rw[HK.out]at c0;go_wp2_with fail
 refine dW (fun b1 b2 w'=>∃t2:Nat,Row M (t2:Int) (bif b1 then(Ch.iF K L)else L)/\bf w0 w' r bb cb mr bt mb mg bm rb [(bx,eY y,39)] M M S S t2 (bif b2 then(Ch.iF K L)else L)) 4 9 [3,4,8,9,10] [ah bb,ah bb,ah bb,ah cb,.bool (decide (0<Ch.ik K L)),ah bb,ah bb,.pointer (some ⟨bb,1,none⟩),ah mr,.bool (decide (0<Ch.ik K L)),.bool true,.bool true] ⟨tip,hL,hC.below a_.drew⟩ ⟨fun _ _ _ _ _ hC=>.val (gF rfl rfl (mV hC.choose_spec.2.b0)) hC,fun b1 b2 w' f1 _ hC=>?_,fun _ _ _ _ _ hC=>.val (gF rfl rfl (mK hC.choose_spec.2.b1)) hC,fun b1 b2 w' _ f2 hC=>?_,fun _ _ _ _ _ hC=>.val (Ca rfl rfl rfl (by simp)) hC,trivial⟩ ?_
 ·obtain rfl:=f1.no (by kernel_rfl);obtain⟨t2,h1,h2⟩:=hC;exact .call (wh h2 hg h1 hK)
 ·obtain rfl:=f2.no (by kernel_rfl);obtain⟨t2,h1,h2⟩:=hC;exact .call ((xv h2 hg hL hK).mono fun _ _ h=>⟨h.1,t2,h1,h.2⟩)
 rintro v2 ⟨t2,h1,hC⟩;have HC:=h_ hC.loose;have H1:=h_ h1;clear hC h1 hL hK;simp only[dB,List.set_cons_zero,List.set_cons_succ,List.tail_cons,List.headD_cons];go_wp2_with fail
 go_ret;exact⟨rfl,t2,H1.out,HC.out⟩
theorem Lb(w0 w:World)(r:Ru)(bb cb mr bt mb mg bm rb:Nat)(M:List aq)(S:Mk.St)(tip:Nat)(L K:List Int)(hL:Row M (tip:Int) L)(hK:Row M (jX r M S:Int) K)(h:bf w0 w r bb cb mr bt mb mg bm rb [] M M S S tip L)(hg:Gd r M S)(y:Ac)(q0:y.h.ok)(hk:y.kind=5):aN 12 #[ah bb,.agg (eY y)] w fun e w'=>e=.returned (.bool true)/\mX w0 w' r bb cb mr bt mb mg bm rb (fg r M y) (f_ M S y) (gT K L y):=by
 have e1:fg r M y=M:=by unfold fg;rw[if_neg (by omega)]
 have e2:f_ M S y=S:=by unfold f_;rw[hk];rfl
 have e3:gT K L y=K:=by unfold gT;rw[if_neg (by omega),if_pos hk]
 rw[e1,e2,e3];have HK:=h_ hk;clear e1 e2 e3 hk;have TR:=hg.2.1;have XF:=eR q0;have hza:=mB q0;have hb0:Bl w (w.alloc (.cells (eY y) 39)):=aY;obtain⟨bx,hbx⟩:∃bx,bx=w.heap.size:=⟨_,rfl⟩;have hY:eG (w.alloc (.cells (eY y) 39)) bx y:=by rw[hbx];exact Has.new _ _
 have hC:=h.box hb0 hbx hY;have T_:=h_ hbx;clear h hb0 hY hbx;go_enter Tryz.func12,Tryz.ntmps12;go_upto_region 1 with fail
 rw[<-T_.out];generalize World.alloc _ _=v1 at*;have c0:=hC.act.kind;rw[HK.out]at c0;go_wp2_with fail
 refine dW (fun b1 b2 w'=>∃t2:Nat,Row M (t2:Int) (bif b1 then K else L)/\bf w0 w' r bb cb mr bt mb mg bm rb [(bx,eY y,39)] M M S S t2 (bif b2 then K else L)) 4 9 [3,4,8,9,10] [ah bb,ah bb,ah bb,ah cb,i_ (Ch.ik K L:Int),ah bb,ah bb,.pointer (some ⟨bb,1,none⟩),ah mr,i_ (Ch.ik K L:Int),.bool true,.bool true] ⟨tip,hL,hC.below a_.drew⟩ ⟨fun _ _ _ _ _ hC=>.val (gF rfl rfl (mV hC.choose_spec.2.b0)) hC,fun b1 b2 w' f1 _ hC=>?_,fun _ _ _ _ _ hC=>.val (gF rfl rfl (mK hC.choose_spec.2.b1)) hC,fun b1 b2 w' _ f2 hC=>?_,fun _ _ _ _ _ hC=>.val (mU rfl rfl rfl (by simp)) hC,trivial⟩ ?_
 ·obtain rfl:=f1.no (by kernel_rfl);obtain⟨t2,h1,h2⟩:=hC;exact .call ((JI h2 hg h1 hK).mono fun _ _ h=>⟨h.1,_,hK,h.2⟩)
 ·obtain rfl:=f2.no (by kernel_rfl);obtain⟨t2,h1,h2⟩:=hC;exact .call ((Ik h2 hg hL hK).mono fun _ _ h=>⟨h.1,t2,h1,h.2⟩)
 rintro v2 ⟨t2,h1,hC⟩;have HC:=h_ hC.loose;have H1:=h_ h1;clear hC h1 hL hK;simp only[dB,List.set_cons_zero,List.set_cons_succ,List.tail_cons,List.headD_cons];go_wp2_with fail
 go_ret;exact⟨rfl,t2,H1.out,HC.out⟩
theorem JG(w0 w:World)(r:Ru)(bb cb mr bt mb mg bm rb:Nat)(M:List aq)(S:Mk.St)(tip:Nat)(L K:List Int)(hL:Row M (tip:Int) L)(h:bf w0 w r bb cb mr bt mb mg bm rb [] M M S S tip L)(y:Ac)(q0:y.h.ok)(k0:¬y.kind=0)(k1:¬y.kind=1)(k2:¬y.kind=2)(k3:¬y.kind=3)(k4:¬y.kind=4)(k5:¬y.kind=5):aN 12 #[ah bb,.agg (eY y)] w fun e w'=>e=.returned (.bool true)/\mX w0 w' r bb cb mr bt mb mg bm rb (fg r M y) (f_ M S y) (gT K L y):=by
 have e1:fg r M y=M:=if_neg k0;have e2:f_ M S y=S:=by unfold f_;rw[if_neg k1,if_neg k2,if_neg k3]
 have e3:gT K L y=L:=by unfold gT;rw[if_neg k4,if_neg k5]
 rw[e1,e2,e3];have f0:(y.kind==0)=false:=by simpa using k0
 have f1:(y.kind==1)=false:=by simpa using k1
 have f2:(y.kind==2)=false:=by simpa using k2
 have f3:(y.kind==3)=false:=by simpa using k3
 have f4:(y.kind==4)=false:=by simpa using k4
 have f5:(y.kind==5)=false:=by simpa using k5
 clear e1 e2 e3 k0 k1 k2 k3 k4 k5;have hza:=mB q0;have hb0:Bl w (w.alloc (.cells (eY y) 39)):=aY;obtain⟨bx,hbx⟩:∃bx,bx=w.heap.size:=⟨_,rfl⟩;have hY:eG (w.alloc (.cells (eY y) 39)) bx y:=by rw[hbx];exact Has.new _ _
 have hC:=h.box hb0 hbx hY;have T_:=h_ hbx;clear h hb0 hY hbx;go_enter Tryz.func12,Tryz.ntmps12;go_upto_region 1 with fail
 rw[<-T_.out];generalize World.alloc _ _=v1 at*;have c0:=hC.act.kind;generalize y.kind=kd at*;have HC:=h_ hC;clear hC;go_wp2_with fail
 go_ret;exact⟨rfl,tip,hL,HC.out.loose⟩
def oN(B:Nat)(r:Ru)(cb bt mb mg:Nat)(F:Nat->Prop)(w:World):Prop:=fc w F mb mg (aW bt) r [aB] Mk.dy/\Has w cb (Me bt mb 0) 88/\(∀i,F i->B<=i/\i≠cb)/\B<=mb/\B<=mg/\B<=cb/\mb≠cb/\mg≠cb
variable{F:Nat->Prop}
theorem oN.below(h:oN B r cb bt mb mg F w)(hb:Bl w w'):oN B r cb bt mb mg F w':=⟨h.1.below hb,(oI hb).has h.2.1 (fun h=>h),h.2.2⟩
theorem pL(p:NN.Pr)(hp:p.ok)(z:Int)(r:Ru)(w:World)(KN:lJ w fun w'=>aN 70 #[.agg (NN.aE p),i_ z] w' fun e w''=>∃b F,e=.returned (.tuple #[ah b,i_ 0])/\fO w'' F b r [aB] [-1]/\(∀i,F i->w'.heap.size<=i)/\Bl w' w''):aN 36 #[.agg (NN.aE p),i_ z] w fun e w'=>∃cb bt mb mg F,e=.returned (.tuple #[ah cb,i_ 0])/\oN w.heap.size r cb bt mb mg F w'/\Bl w w':=by
 have hz:=NN.ef hp;go_enter Tryz.func36,Tryz.ntmps36;go_upto_region 1 with fail
 generalize hw0:World.alloc _ _=v0;have hB:Bl w v0:=db hw0;have hP:NN.aA v0 w.heap.size p:=by rw[<-hw0];exact NN.Has.new _ _
 clear hw0;go_wp2_with (first|fail|(with_reducible refine NN.dA rfl _ rfl _ rfl hP hz ?_))
 refine(KN.out _ hB).mono ?_;rintro e v1 ⟨bt,F,rfl,hS,hF,hb⟩;have hB1:=af hB hb;have HF:Hid (∀i,F i->w.heap.size<=i):=h_ fun i hi=>Nat.le_trans hB.size (hF i hi)
 have HS:=h_ hS;have HB1:=h_ hB1;clear hb hF hB hB1 hP hS KN;go_wp2_with fail
 refine(BF (aW bt) v1).mono ?_;rintro e v2 ⟨mb,mg,rfl,h1,h2,h3,h4,hb⟩;have hM:fc v2 F mb mg (aW bt) r [aB] Mk.dy:=⟨.inl ⟨bt,[-1],rfl,HS.out.below hb,rfl⟩,h3,h4,fun hf=>by have:=HS.out.1 _ hf;omega,fun hf=>by have:=HS.out.1 _ hf;omega⟩;have XG:Hid (mb<v2.heap.size/\mg<v2.heap.size/\w.heap.size<=mb/\w.heap.size<=mg):=h_ ⟨Has.lt h3,h4.lt,Nat.le_trans HB1.out.size h2,Nat.le_trans HB1.out.size h1⟩;have HM:=h_ hM;have HB2:=h_ (af HB1.out hb);have Hb:=h_ hb;clear h1 h2 h3 h4 hb hM;go_wp2_with fail
 go_ret2;have hb3:Bl v2 (v2.alloc (.cells (Me bt mb 0) 88)):=aY;exact⟨v2.heap.size,bt,mb,mg,F,rfl,⟨HM.out.below hb3,Has.new _ _,fun i hi=>⟨HF.out i hi,Nat.ne_of_lt (Nat.lt_of_lt_of_le (HS.out.1 i hi) Hb.out.size)⟩,XG.out.2.2.1,XG.out.2.2.2,HB2.out.size,Nat.ne_of_lt XG.out.1,Nat.ne_of_lt XG.out.2.1⟩,af HB2.out hb3⟩
theorem wO(bm:Nat)(w:World):aN 38 #[ah bm] w fun e w'=>∃mr rb ag,e=.returned (ah mr)/\w.heap.size<=mr/\w.heap.size<=rb/\w.heap.size<=ag/\jN w' rb Mk.dy/\Has w' ag #[i_ 0] 3/\Has w' mr (GK bm rb (.slice (aW ag) 1 1)) 66/\Bl w w':=by
 go_enter Tryz.func38,Tryz.ntmps38;go_wp2_with fail
 refine(sS w).mono ?_;rintro e v1 ⟨rb,rfl,h1,h2,hb⟩;have H1:=h_ h1;have H2:=h_ h2;have Hb:=h_ hb;clear h1 h2 hb;go_wp2_with fail
 go_ret;have hb1:Bl v1 (v1.alloc (.cells #[i_ 0] 3)):=aY;have hA:=Has.new (w:=v1) #[i_ 0] 3;have hs:=World.size_alloc v1 (.cells #[i_ 0] 3);have ha:v1.heap.size<=(v1.alloc (.cells #[i_ 0] 3)).heap.size:=hb1.size;generalize(v1.alloc (.cells #[i_ 0] 3))=v2 at*;have hb2:Bl v2 (v2.alloc (.cells (GK bm rb (.slice (some ⟨v1.heap.size,0,none⟩) 1 1)) 66)):=aY;have h12:=af hb1 hb2;have hn:=Hb.out.size;exact⟨v2.heap.size,rb,v1.heap.size,congrArg (fun b=>Ending.returned (ah b)) hs.symm,by omega,H1.out,hn,H2.out.below h12,(oI hb2).has hA (fun h=>h),Has.new _ _,Hb.out.trans (h12.mono hn)⟩
theorem I9(p:NN.Pr)(hp:p.ok)(h1:p.one)(t:Tl)(tt:p.tl=t.C)(ht:t.ok)(gs:List Gt)(cs:List Ck)(hgn:t.gn=gs.length)(hcn:t.cn=cs.length)(ab9:gs.length<=1000)(ac0:cs.length<=1000)(hr:jc p t.g gs cs=true)(w:World)(hT:dM w)(hG:aI w t.ga gs)(hC:az w t.ca cs):aN 11 #[.agg (NN.aE p)] w fun e w'=>∃bb cb mr bt mb mg bm rb,e=.returned (ah bb)/\mX w w' ⟨p,t.g,gs,cs,100⟩ bb cb mr bt mb mg bm rb [aB] Mk.dy [0]:=by
 have KN:Hid (∀w',Bl w w'->aN 36 #[.agg (NN.aE p),i_ 100] w' fun e w''=>∃cb bt mb mg F,e=.returned (.tuple #[ah cb,i_ 0])/\oN w'.heap.size ⟨p,t.g,gs,cs,100⟩ cb bt mb mg F w''/\Bl w' w''):=h_ fun w' hb=>pL p hp 100 _ w' (h_ fun w2 hb2=>by
  have hb3:=af hb hb2;exact yL p hp h1 t tt ht gs cs hgn hcn (by omega) (by omega) 100 hr w2 (hT.below hb3) (hG.below hb3) (hC.below hb3))
 have KF:Hid (∀w',Bl w w'->aN 39 #[.agg (NN.aE p),i_ 100] w' fun e w''=>∃b,e=.returned (ah b)/\ir w'' w.heap.size (fun i=>w'.heap.size<=i/\i<w''.heap.size) b ⟨p,t.g,gs,cs,100⟩ [aB]/\Bl w' w''):=h_ fun w' hb=>Hc p hp h1 t tt ht gs cs hgn hcn 100 w w' hb hG hC
 generalize(⟨p,t.g,gs,cs,100⟩:Ru)=r at*;have hz:=NN.ef hp;clear hT hG hC hr;go_enter Tryz.func11,Tryz.ntmps11;go_upto_region 1 with fail
 generalize hw0:World.alloc _ _=v0;have hB:Bl w v0:=db hw0;have hP:NN.aA v0 w.heap.size p:=by rw[<-hw0];exact NN.Has.new _ _
 clear hw0;obtain⟨bP,Rv⟩:∃x,x=w.heap.size:=⟨_,rfl⟩;rw[<-Rv]at hP|-;clear Rv;go_wp2_with (first|fail|(with_reducible refine NN.dA rfl _ rfl _ rfl hP hz ?_))
 refine(KN.out _ hB).mono ?_;rintro e v1 ⟨cb,bt,mb,mg,F,rfl,hS,hb⟩;replace hP:=hP.on hb;have H0:=h_ hB.size;have HS:=h_ hS;replace hB:=af hB hb;clear hb hS KN;go_wp2_with (first|fail|(with_reducible refine NN.dA rfl _ rfl _ rfl hP hz ?_))
 refine(KF.out _ hB).mono ?_;rintro e v2 ⟨bm,rfl,hR,hb⟩;have H1:=h_ hB.size;have HR:=h_ hR;have HS2:=h_ (HS.out.below hb);have HL:Hid (mb<v1.heap.size/\mg<v1.heap.size/\cb<v1.heap.size/\∀i,F i->i<v1.heap.size):=h_ ⟨Has.lt HS.out.1.2.1,HS.out.1.2.2.1.lt,HS.out.2.1.lt,fun i hi=>HS.out.1.Zg hi⟩;have H12:=h_ hb.size;replace hB:=af hB hb;clear hb hR KF hP HS;go_wp2_with fail
 refine(wO bm v2).mono ?_;rintro e v3 ⟨mr,rb,ag,rfl,r1,r2,r3,r4,r5,r6,hb⟩;have H23:=h_ hb.size;have Ut:=h_ (HS2.out.below hb);have HR3:=h_ (HR.out.below hb);have HQ:Hid (v2.heap.size<=mr/\v2.heap.size<=rb/\v2.heap.size<=ag):=h_ ⟨r1,r2,r3⟩;have HK:=h_ r4;have HA:=h_ r5;have HM:=h_ r6;have HB:=h_ (af hB hb);clear hB hb r1 r2 r3 r4 r5 r6 HS2 HR;go_wp2_with fail
 go_ret;have hb:Bl v3 (v3.alloc (.cells (QN cb mr) 58)):=aY;obtain⟨s1,s2,s3,s4,s5,s6,s7,s8⟩:=Ut.out.below hb;have hR:=HR3.out.below hb;have hA:=(oI hb).has HA.out (fun h=>h);have hM:=(oI hb).has HM.out (fun h=>h);have hK:=HK.out.below hb;obtain⟨l1,l2,l3,l4⟩:=HL.out;obtain⟨m1,m2,m3⟩:=HQ.out;have k0:=H0.out;have k1:=H1.out;have k2:=H12.out;have k3:=H23.out;have kw:=HB.out.size;have n1:rb<v3.heap.size:=Has.lt HK.out;have n2:mr<v3.heap.size:=HM.out.lt;have n3:ag<v3.heap.size:=HA.out.lt;have d1:mr≠rb:=cu hM hK (by decide);have d2:ag≠rb:=cu hA hK (by decide);refine⟨v3.heap.size,cb,mr,bt,mb,mg,bm,rb,rfl,0,.snoc 0 aB [] rfl .nil,fun _ h=>(by cases h),ag,#[i_ 0],⟨Nat.le_refl _,fun k z hk=>?_⟩,⟨F,_,s1,hR,hK,fun i hi=>⟨by have:=(s3 i hi).1;omega,by have:=l4 i hi;omega,by have:=l4 i hi;omega⟩,fun i hi=>⟨by omega,by omega,by omega⟩,⟨by omega,by omega,by omega,by omega,by omega⟩,fun i c T hx=>?_⟩,HB.out.trans (hb.mono kw)⟩
 ·match k,hk with
  | 0,hk=>cases hk;rfl
  | k+1,hk=>simp at hk
 ·have nf:∀i,v1.heap.size<=i->¬F i:=fun i hi hf=>by have:=l4 i hf;omega
  cases hx with
  | bb=>exact⟨Has.new _ _,by omega,nf _ (by omega),fun hf=>by omega,by omega,by omega,by omega⟩
  | cb=>exact⟨s2,by omega,fun hf=>(s3 _ hf).2 rfl,fun hf=>by omega,s7.symm,s8.symm,by omega⟩
  | mr=>exact⟨hM,by omega,nf _ (by omega),fun hf=>by omega,by omega,by omega,d1⟩
  | ag=>exact⟨hA,by omega,nf _ (by omega),fun hf=>by omega,by omega,by omega,d2⟩
  | act p hp=>cases hp
theorem oN.h(h:oN B r cb bt mb mg F w):Hid (Ma w cb bt 0 (bq r aB)):=h_ ⟨fun w' hb=>Has.cell (h.below hb).2.1 0,fun w' hb=>⟨Has.cell (h.below hb).2.1 2,Has.free (h.below hb).2.1 2⟩,fun w' hb=>jV (Has.cell (h.below hb).2.1 2),fun w' hb=>by
 obtain⟨⟨b,ls,e,h1,_⟩|⟨e,_⟩,_⟩:=(h.below hb).1;cases e;exact eI h1 rfl _ rfl;cases e⟩
theorem Eh(h:oN B r cb bt mb mg F w):an 19 #[ah cb] w (i_ 0):=
 JT (aW cb) (aW mb) _ (h_ fun w' hb=>JH (Has.cell (h.below hb).2.1 1)) (h_ fun w' hb=>by
  have:=((h.below hb).1.rd (.inr (Ok.one r)) (by decide)).fi (Ok.one r) (uj (Ok.one r) (Mk.Good.start 1 (by decide)))
  rwa[show Mk.top (Hv r [aB]) (fun i=>aO [aB] Mk.dy (i:Int)) ([aB]:List aq).length=0 from by
   show(if _/\_ then 0 else 0)=0;split<;>rfl] at this)
theorem Hz(h:oN B r cb bt mb mg F w):aN 22 #[ah cb] w fun e w'=>e=.returned (i_ 0)/\oN B r cb bt mb mg F w'/\Bl w w':=
 (Ie (aW cb) 0 (h_ fun w' hb=>Eh (h.below hb)) 0 (by decide) (fun w' n=>n=0/\oN B r cb bt mb mg F w'/\Bl w w') (fun w' hb=>⟨rfl,h.below hb,hb⟩) (h_ fun w' n hn=>by
  obtain⟨rfl,h1,h2⟩:=hn;exact(xZ h1.h).mono fun e w'' h3=>⟨h3.1,rfl,h1.below h3.2,af h2 h3.2⟩)).mono fun e w' h1=>⟨h1.1,h1.2.2⟩
theorem Fv(h:oN B r cb bt mb mg F w):aN 23 #[ah cb] w fun e w'=>∃p c,e=.returned (.slice p 1 c)/\Bl w w':=by refine(Js (cb:=cb) (bt:=bt) (tip:=0) 0 [] rfl (by decide) (h_ fun w' hb=>⟨Has.cell (h.below hb).2.1 0,Has.cell (h.below hb).2.1 2⟩) (h_ fun w' hb=>?_)).mono ?_;obtain⟨⟨b,ls,e,h1,_⟩|⟨e,_⟩,_⟩:=(h.below hb).1;cases e;exact yY h1 (Ok.one r) (by decide) 0 aB rfl [0] (.snoc 0 aB [] rfl .nil);cases e;rintro e w' ⟨v,rfl,hv,hb⟩;obtain⟨g,c,rfl,_⟩:=uA hv (by decide);exact⟨_,c,rfl,hb⟩
theorem vP(w:World)(hT:dM w):an 9 #[] w (.bool true):=by
 have KN:Hid (aN 36 #[.agg (NN.aE NN.tM),i_ 5] w fun e w''=>∃cb bt mb mg F,e=.returned (.tuple #[ah cb,i_ 0])/\oN w.heap.size ⟨NN.tM,Kx.g,[],[],dF 5⟩ cb bt mb mg F w''/\Bl w w''):=h_ (pL NN.tM (NN.pJ _ _ _ _ _) 5 _ w (h_ fun w2 hb2=>yL NN.tM (NN.pJ _ _ _ _ _) (NN.vK _ _ _ _ _) Kx Cl Ap [] [] rfl rfl (by decide) (by decide) 5 (by decide +kernel) w2 (hT.below hb2) (fun h=>by simp at h) (fun h=>by simp at h)));generalize(⟨NN.tM,Kx.g,[],[],dF 5⟩:Ru)=r at*;clear hT;go_enter Tryz.func9,Tryz.ntmps9;go_wp2_with (with_reducible refine Lo rfl rfl ?_)
 refine KN.out.mono ?_;rintro e v1 ⟨cb,bt,mb,mg,F,rfl,h,hB⟩;have K1:=h_ (jV (Has.cell h.2.1 2));have H:=h_ h;clear h KN;go_wp2_with fail
 refine K1.out.mono ?_;rintro e v2 ⟨rfl,hb⟩;have K2:=h_ (Eh (H.out.below hb));have H2:=h_ (H.out.below hb);replace hB:=af hB hb;clear hb K1 H;go_wp2_with fail
 refine K2.out.mono ?_;rintro e v3 ⟨rfl,hb⟩;have K3:=h_ (Hz (H2.out.below hb));replace hB:=af hB hb;clear hb K2 H2;go_wp2_with fail
 refine K3.out.mono ?_;rintro e v4 ⟨rfl,h,hb⟩;have K4:=h_ (Fv h);replace hB:=af hB hb;clear hb h K3;go_wp2_with fail
 refine K4.out.mono ?_;rintro e v5 ⟨p,c,rfl,hb⟩;replace hB:=af hB hb;clear hb K4;go_wp2_with fail
 go_ret;exact⟨rfl,hB⟩
theorem yE{ops:Array Oper}{rest:List Oper}{o:Oper}{a:Act}{Q:Exit->Act->World->Prop}(hgd:o.guard=none)(x:Operand)(ho:o.op=.load 39 x)(g:Nat)(hx:a.eval x=ah g)(c:Ac)(hg:eG w g c)(hs:(eY c).size=72)(hk:wpList Tryz.prog ops Q rest (a.put o.dst (.agg (eY c))) w):wpList Tryz.prog ops Q (o::rest) a w:=
 wpList_load_row hgd 39 x ho g hx 39 (eY c) (0,0) _ (Has.out hg) Tryz.underlying39 rfl (mP.trans (by rw[hs])) hk
theorem vl(r:Ru)(M:List aq)(h:Hd)(now:Int):(Ar.add r M h now).2.length<=M.length+1:=by unfold Ar.add;repeat' (first|split|(dsimp only;simp))
theorem Cz{k:Nat}(hM:Ok r M)(hl:M.length<=k+1)(hG:Mk.Good M.length S)(y:Ac)(q0:y.h.ok):Ok r (fg r M y)/\(fg r M y).length<=k+1+1/\Mk.Good (fg r M y).length (f_ M S y):=by
 unfold fg f_;by_cases k0:y.kind=0;rw[if_pos k0,if_neg (by omega),if_neg (by omega),if_neg (by omega)];have h1:=vl r M y.h y.now;obtain⟨X,hX⟩:=I3 r M y.h y.now;exact⟨hM.add q0 y.now,by omega,hG.more (by rw[hX,List.length_append];omega)⟩
 ·rw[if_neg k0];refine⟨hM,by omega,?_⟩;split;exact hG.verdict y.n y.rt
  ·split;exact hG.dC y.n
   ·split;exact hG.dc y.n;exact hG
theorem mX.SZ(h:mX w0 w r bb cb mr bt mb mg bm rb M S L):Bl w0 w:=by obtain⟨tip,h1,h2⟩:=h;exact h2.SZ
