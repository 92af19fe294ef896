import Derived.Test.YtkbjaadjnbgfbaaGreatDoorBBunQ44
set_option maxRecDepth 100000
set_option maxHeartbeats 8000000
namespace Go.Proofs.YtkbjaadjnbgfbaaGreatDoor.An
open Go.RowKit Mem Sc NN.Si
open Ar (aq Ru aB Ok cp Row cB Up dK eJ)
open Mk (cF gk aM pb verdict a_ bc dP word bF)
theorem GO(r:Ru)(M:List aq)(h:Hd)(now:Int):∃X,(Ar.add r M h now).2=M++X:=by
 unfold Ar.add;repeat' (first|split|dsimp only)
 all_goals first|exact⟨[],(List.append_nil _).symm⟩|exact⟨_,rfl⟩
noncomputable def dD(M:List aq)(S:Mk.St)(y:Ac):Mk.St:=if y.kind=1 then(verdict M.length S y.n y.rt).2 else if y.kind=2 then(a_ M.length S y.n).2 else if y.kind=3 then(bc M S y.n).2 else S
def di(r:Ru)(M:List aq)(y:Ac):List aq:=if y.kind=0 then(Ar.add r M y.h y.now).2 else M
def eI(K L:List Int)(y:Ac):List Int:=if y.kind=4 then Ch.iM K L else if y.kind=5 then K else L
def lT(w0 w:World)(r:Ru)(bb cb mr bt mb mg bm rb:Nat)(M:List aq)(S:Mk.St)(L:List Int):Prop:=∃tip:Nat,Row M (tip:Int) L/\aS w0 w r bb cb mr bt mb mg bm rb [] M M S S tip L
variable{w0 w w':World}{r:Ru}{bb cb mr bt mb mg bm rb B:Nat}{M:List aq}{S:Mk.St}{L:List Int}
theorem lT.below(h:lT w0 w r bb cb mr bt mb mg bm rb M S L)(hb:Bl w w'):lT w0 w' r bb cb mr bt mb mg bm rb M S L:=by obtain⟨tip,h1,h2⟩:=h;exact⟨tip,h1,h2.below hb⟩
theorem J0(w0 w:World)(r:Ru)(bb cb mr bt mb mg bm rb:Nat)(M:List aq)(S:Mk.St)(tip:Nat)(L K:List Int)(hL:Row M (tip:Int) L)(h:aS w0 w r bb cb mr bt mb mg bm rb [] M M S S tip L)(hg:Gd r M S)(HG:Hid (r.gs.length<=1000/\r.cs.length<=1000/\2<=r.p.R8))(HT:jR w0 fun w'=>dQ w')(y:Ac)(q0:y.h.ok)(VI:Hid (-9223372036854775808<=y.now/\y.now<=9223372036854775807))(hk:y.kind=0):aG 12 #[af bb,.agg (dh y)] w fun e w'=>e=.returned (.bool true)/\lT w0 w' r bb cb mr bt mb mg bm rb (di r M y) (dD M S y) (eI K L y):=by
 have e1:di r M y=(Ar.add r M y.h y.now).2:=by unfold di;rw[if_pos hk]
 have e2:dD M S y=S:=by unfold dD;rw[hk];rfl
 have e3:eI K L y=L:=by unfold eI;rw[if_neg (by omega),if_neg (by omega)]
 rw[e1,e2,e3];have HK:=h_ hk;clear e1 e2 e3 hk;have Tj:=hg.2.1;have Wr:=er q0;have hza:=jW q0;have hb0:Bl w (w.alloc (.cells (dh y) 39)):=aY;obtain⟨bx,hbx⟩:∃bx,bx=w.heap.size:=⟨_,rfl⟩;have hY:dI (w.alloc (.cells (dh y) 39)) bx y:=by rw[hbx];exact Has.new _ _
 have hC:=h.box hb0 hbx hY;have TP:=h_ hbx;clear h hb0 hY hbx;go_enter Tryz.func12,Tryz.ntmps12;go_upto_region 1 with fail
 rw[<-TP.out];generalize World.alloc _ _=v1 at*;have c0:=hC.act.kind;rw[HK.out]at c0;go_wp2_with fail
 refine de (fun b1 _ w'=>aS w0 w' r bb cb mr bt mb mg bm rb [(bx,dh y,39)] (bif b1 then(Ar.add r M y.h y.now).2 else M) M S S tip L) 8 99 [3,5,7,8] [af bb,af bb,af bb,af cb,.pointer (some ⟨bx,1,none⟩),.agg (aD y.h),.pointer (some ⟨bx,69,none⟩),i_ y.now,.tuple #[i_ (Ar.add r M y.h y.now).1.1,i_ (Ar.add r M y.h y.now).1.2.1,i_ (Ar.add r M y.h y.now).1.2.2],.tuple #[i_ (Ar.add r M y.h y.now).1.1,i_ (Ar.add r M y.h y.now).1.2.1,i_ (Ar.add r M y.h y.now).1.2.2],i_ (Ar.add r M y.h y.now).1.1,i_ (Ar.add r M y.h y.now).1.2.1,i_ (Ar.add r M y.h y.now).1.2.2,i_ (Ar.add r M y.h y.now).1.1,i_ (Ar.add r M y.h y.now).1.2.1,i_ (Ar.add r M y.h y.now).1.2.2] (hC.below bf.drew) ⟨fun _ _ _ _ _ hC=>.val (dj rfl rfl (fx hC.b0)) hC,fun _ _ _ _ _ hC=>.val (mC rfl rfl hC.act.head Wr) hC,fun _ _ _ _ _ hC=>.val (dj rfl rfl (fT (hC.act.now q0))) hC,fun b1 _ w' f1 _ hC=>?_,trivial⟩ ?_
 ·obtain rfl:=f1.no (by kernel_rfl);exact .call (CE (show aS w0 w' r bb cb mr bt mb mg bm rb [(bx,dh y,39)] M M S S tip L from hC) hg.1 (Nat.le_trans Tj (by decide)) HG.out.1 HG.out.2.1 (fun w2 hb=>HT.out w2 (ah hC.S9 hb)) y.h q0 y.now)
 intro v2 hC;replace hC:aS w0 v2 r bb cb mr bt mb mg bm rb [(bx,dh y,39)] (Ar.add r M y.h y.now).2 M S S tip L:=hC;simp only[dg,List.set_cons_zero,List.set_cons_succ,List.tail_cons,List.headD_cons];go_wp2_with fail
 refine de (fun b1 _ w'=>aS w0 w' r bb cb mr bt mb mg bm rb [(bx,dh y,39)] (Ar.add r M y.h y.now).2 (bif b1 then(Ar.add r M y.h y.now).2 else M) S S tip L) 11 99 [3,6,8,10,11] [af bb,af bb,.pointer (some ⟨bb,1,none⟩),af mr,af mr,af mr,af bm,.pointer (some ⟨bx,1,none⟩),.agg (aD y.h),.pointer (some ⟨bx,69,none⟩),i_ y.now,.tuple #[i_ (Ar.add r M y.h y.now).1.1,i_ (Ar.add r M y.h y.now).1.2.1,i_ (Ar.add r M y.h y.now).1.2.2],.tuple #[i_ (Ar.add r M y.h y.now).1.1,i_ (Ar.add r M y.h y.now).1.2.1,i_ (Ar.add r M y.h y.now).1.2.2],i_ (Ar.add r M y.h y.now).1.1,i_ (Ar.add r M y.h y.now).1.2.1,i_ (Ar.add r M y.h y.now).1.2.2,i_ (Ar.add r M y.h y.now).1.1,i_ (Ar.add r M y.h y.now).1.2.1,i_ (Ar.add r M y.h y.now).1.2.2] (hC.below bf.drew) ⟨fun _ _ _ _ _ hC=>.val (dj rfl rfl (fB hC.b1)) hC,fun _ _ _ _ _ hC=>.val (dj rfl rfl (iR hC.m0)) hC,fun _ _ _ _ _ hC=>.val (mC rfl rfl hC.act.head Wr) hC,fun _ _ _ _ _ hC=>.val (dj rfl rfl (fT (hC.act.now q0))) hC,fun b1 _ w' f1 _ hC=>?_,trivial⟩ ?_
 ·obtain rfl:=f1.no (by kernel_rfl);exact .call ((show aS w0 w' r bb cb mr bt mb mg bm rb [(bx,dh y,39)] (Ar.add r M y.h y.now).2 M S S tip L from hC).lift fun X hX=>Hw hX hg.1 (Nat.le_trans Tj (by decide)) HG.out.1 HG.out.2.1 HG.out.2.2 y.h q0 y.now VI.out.1 VI.out.2)
 intro v3 hC;replace hC:aS w0 v3 r bb cb mr bt mb mg bm rb [(bx,dh y,39)] (Ar.add r M y.h y.now).2 (Ar.add r M y.h y.now).2 S S tip L:=hC;have HC:=h_ hC.loose;have HR:Hid (Row (Ar.add r M y.h y.now).2 (tip:Int) L):=h_ (by obtain⟨X,hX⟩:=GO r M y.h y.now;rw[hX];exact hL.more X);clear hC hL;simp only[dg,List.set_cons_zero,List.set_cons_succ,List.tail_cons,List.headD_cons];go_wp2_with fail
 go_ret;exact⟨rfl,tip,HR.out,HC.out⟩
theorem Mi(w0 w:World)(r:Ru)(bb cb mr bt mb mg bm rb:Nat)(M:List aq)(S:Mk.St)(tip:Nat)(L K:List Int)(hL:Row M (tip:Int) L)(h:aS w0 w r bb cb mr bt mb mg bm rb [] M M S S tip L)(hg:Gd r M S)(y:Ac)(q0:y.h.ok)(hk:y.kind=1):aG 12 #[af bb,.agg (dh y)] w fun e w'=>e=.returned (.bool true)/\lT w0 w' r bb cb mr bt mb mg bm rb (di r M y) (dD M S y) (eI K L y):=by
 have e1:di r M y=M:=by unfold di;rw[if_neg (by omega)]
 have e2:dD M S y=(verdict M.length S y.n y.rt).2:=by unfold dD;rw[if_pos hk]
 have e3:eI K L y=L:=by unfold eI;rw[if_neg (by omega),if_neg (by omega)]
 rw[e1,e2,e3];have HK:=h_ hk;clear e1 e2 e3 hk;have Tj:=hg.2.1;have Wr:=er q0;have hza:=jW q0;have hb0:Bl w (w.alloc (.cells (dh y) 39)):=aY;obtain⟨bx,hbx⟩:∃bx,bx=w.heap.size:=⟨_,rfl⟩;have hY:dI (w.alloc (.cells (dh y) 39)) bx y:=by rw[hbx];exact Has.new _ _
 have hC:=h.box hb0 hbx hY;have TP:=h_ hbx;clear h hb0 hY hbx;go_enter Tryz.func12,Tryz.ntmps12;go_upto_region 1 with fail
 rw[<-TP.out];generalize World.alloc _ _=v1 at*;have c0:=hC.act.kind;rw[HK.out]at c0;obtain⟨S1,hS1⟩:∃S1,(verdict M.length S y.n y.rt).2=S1:=⟨_,rfl⟩;obtain⟨z,hz⟩:∃z,(verdict M.length S y.n y.rt).1=z:=⟨_,rfl⟩;have S_:=h_ hS1;have HZ:=h_ hz;clear hS1 hz;go_wp2_with fail
 refine de (fun b1 b2 w'=>aS w0 w' r bb cb mr bt mb mg bm rb [(bx,dh y,39)] M M (bif b1 then S1 else S) (bif b2 then S1 else S) tip L) 8 27 [3,5,7,8,12,15,19,22,24,26,27,28] [af bb,af bb,af bb,af cb,.pointer (some ⟨bx,70,none⟩),i_ y.n,.pointer (some ⟨bx,71,none⟩),.bool y.rt,i_ z,af bb,af bb,.pointer (some ⟨bb,1,none⟩),af mr,af mr,.pointer (some ⟨mr,1,none⟩),af rb,af bb,af bb,.pointer (some ⟨bb,1,none⟩),af mr,af mr,af mr,af bm,.pointer (some ⟨bx,70,none⟩),i_ y.n,.pointer (some ⟨bx,71,none⟩),.bool y.rt,i_ z,.bool true,.bool true] (hC.below bf.drew) ⟨fun _ _ _ _ _ hC=>.val (dj rfl rfl (fx hC.b0)) hC,fun _ _ _ _ _ hC=>.val (dj rfl rfl (fT (hC.act.num q0))) hC,fun _ _ _ _ _ hC=>.val (dj rfl rfl (M0 (hC.act.right q0))) hC,fun b1 b2 w' f1 _ hC=>?_,fun _ _ _ _ _ hC=>.val (dj rfl rfl (fB hC.b1)) hC,fun _ _ _ _ _ hC=>.val (dj rfl rfl (k_ hC.m1)) hC,fun _ _ _ _ _ hC=>.val (dj rfl rfl (fB hC.b1)) hC,fun _ _ _ _ _ hC=>.val (dj rfl rfl (iR hC.m0)) hC,fun _ _ _ _ _ hC=>.val (dj rfl rfl (fT (hC.act.num q0))) hC,fun _ _ _ _ _ hC=>.val (dj rfl rfl (M0 (hC.act.right q0))) hC,fun b1 b2 w' _ f2 hC=>?_,fun _ _ _ _ _ hC=>.val (jh rfl rfl rfl (by simp)) hC,trivial⟩ ?_
 ·obtain rfl:=f1.no (by kernel_rfl);have:=Qf (show aS w0 w' r bb cb mr bt mb mg bm rb [(bx,dh y,39)] M M S (bif b2 then S1 else S) tip L from hC) Tj y.n y.rt;rw[S_.out,HZ.out]at this;exact .call this
 ·obtain rfl:=f2.no (by kernel_rfl);have:=(show aS w0 w' r bb cb mr bt mb mg bm rb [(bx,dh y,39)] M M (bif b1 then S1 else S) S tip L from hC).lift fun X hX=>PQ hX (Nat.le_trans Tj (by decide)) y.n y.rt
  rw[S_.out,HZ.out]at this;exact .call this
 intro v2 hC;replace hC:aS w0 v2 r bb cb mr bt mb mg bm rb [(bx,dh y,39)] M M S1 S1 tip L:=hC;have HC:=h_ hC.loose;clear hC;simp only[dg,List.set_cons_zero,List.set_cons_succ,List.tail_cons,List.headD_cons];go_wp2_with fail
 go_ret;exact⟨rfl,tip,hL,by rw[S_.out];exact HC.out⟩
theorem H_(w0 w:World)(r:Ru)(bb cb mr bt mb mg bm rb:Nat)(M:List aq)(S:Mk.St)(tip:Nat)(L K:List Int)(hL:Row M (tip:Int) L)(h:aS w0 w r bb cb mr bt mb mg bm rb [] M M S S tip L)(hg:Gd r M S)(y:Ac)(q0:y.h.ok)(hk:y.kind=2):aG 12 #[af bb,.agg (dh y)] w fun e w'=>e=.returned (.bool true)/\lT w0 w' r bb cb mr bt mb mg bm rb (di r M y) (dD M S y) (eI K L y):=by
 have e1:di r M y=M:=by unfold di;rw[if_neg (by omega)]
 have e2:dD M S y=(a_ M.length S y.n).2:=by unfold dD;rw[if_neg (by omega),if_pos hk]
 have e3:eI K L y=L:=by unfold eI;rw[if_neg (by omega),if_neg (by omega)]
 rw[e1,e2,e3];have HK:=h_ hk;clear e1 e2 e3 hk;have Tj:=hg.2.1;have Wr:=er q0;have hza:=jW q0;have hb0:Bl w (w.alloc (.cells (dh y) 39)):=aY;obtain⟨bx,hbx⟩:∃bx,bx=w.heap.size:=⟨_,rfl⟩;have hY:dI (w.alloc (.cells (dh y) 39)) bx y:=by rw[hbx];exact Has.new _ _
 have hC:=h.box hb0 hbx hY;have TP:=h_ hbx;clear h hb0 hY hbx;go_enter Tryz.func12,Tryz.ntmps12;go_upto_region 1 with fail
 rw[<-TP.out];generalize World.alloc _ _=v1 at*;have c0:=hC.act.kind;rw[HK.out]at c0;obtain⟨S1,hS1⟩:∃S1,(a_ M.length S y.n).2=S1:=⟨_,rfl⟩;obtain⟨z,hz⟩:∃z,(a_ M.length S y.n).1=z:=⟨_,rfl⟩;have S_:=h_ hS1;have HZ:=h_ hz;clear hS1 hz;go_wp2_with fail
 refine de (fun b1 b2 w'=>aS w0 w' r bb cb mr bt mb mg bm rb [(bx,dh y,39)] M M (bif b1 then S1 else S) (bif b2 then S1 else S) tip L) 6 23 [3,5,6,10,13,17,20,22,23,24] [af bb,af bb,af bb,af cb,.pointer (some ⟨bx,70,none⟩),i_ y.n,i_ z,af bb,af bb,.pointer (some ⟨bb,1,none⟩),af mr,af mr,.pointer (some ⟨mr,1,none⟩),af rb,af bb,af bb,.pointer (some ⟨bb,1,none⟩),af mr,af mr,af mr,af bm,.pointer (some ⟨bx,70,none⟩),i_ y.n,i_ z,.bool true,.bool true] (hC.below bf.drew) ⟨fun _ _ _ _ _ hC=>.val (dj rfl rfl (fx hC.b0)) hC,fun _ _ _ _ _ hC=>.val (dj rfl rfl (fT (hC.act.num q0))) hC,fun b1 b2 w' f1 _ hC=>?_,fun _ _ _ _ _ hC=>.val (dj rfl rfl (fB hC.b1)) hC,fun _ _ _ _ _ hC=>.val (dj rfl rfl (k_ hC.m1)) hC,fun _ _ _ _ _ hC=>.val (dj rfl rfl (fB hC.b1)) hC,fun _ _ _ _ _ hC=>.val (dj rfl rfl (iR hC.m0)) hC,fun _ _ _ _ _ hC=>.val (dj rfl rfl (fT (hC.act.num q0))) hC,fun b1 b2 w' _ f2 hC=>?_,fun _ _ _ _ _ hC=>.val (jh rfl rfl rfl (by simp)) hC,trivial⟩ ?_
 ·obtain rfl:=f1.no (by kernel_rfl);have:=Ca (show aS w0 w' r bb cb mr bt mb mg bm rb [(bx,dh y,39)] M M S (bif b2 then S1 else S) tip L from hC) Tj y.n;rw[S_.out,HZ.out]at this;exact .call this
 ·obtain rfl:=f2.no (by kernel_rfl);have:=(show aS w0 w' r bb cb mr bt mb mg bm rb [(bx,dh y,39)] M M (bif b1 then S1 else S) S tip L from hC).lift fun X hX=>Rk hX (Nat.le_trans Tj (by decide)) y.n
  rw[S_.out,HZ.out]at this;exact .call this
 intro v2 hC;replace hC:aS w0 v2 r bb cb mr bt mb mg bm rb [(bx,dh y,39)] M M S1 S1 tip L:=hC;have HC:=h_ hC.loose;clear hC;simp only[dg,List.set_cons_zero,List.set_cons_succ,List.tail_cons,List.headD_cons];go_wp2_with fail
 go_ret;exact⟨rfl,tip,hL,by rw[S_.out];exact HC.out⟩
theorem GU(w0 w:World)(r:Ru)(bb cb mr bt mb mg bm rb:Nat)(M:List aq)(S:Mk.St)(tip:Nat)(L K:List Int)(hL:Row M (tip:Int) L)(h:aS w0 w r bb cb mr bt mb mg bm rb [] M M S S tip L)(hg:Gd r M S)(y:Ac)(q0:y.h.ok)(hk:y.kind=3):aG 12 #[af bb,.agg (dh y)] w fun e w'=>e=.returned (.bool true)/\lT w0 w' r bb cb mr bt mb mg bm rb (di r M y) (dD M S y) (eI K L y):=by
 have e1:di r M y=M:=by unfold di;rw[if_neg (by omega)]
 have e2:dD M S y=(bc M S y.n).2:=by unfold dD;rw[if_neg (by omega),if_neg (by omega),if_pos hk]
 have e3:eI K L y=L:=by unfold eI;rw[if_neg (by omega),if_neg (by omega)]
 rw[e1,e2,e3];have HK:=h_ hk;clear e1 e2 e3 hk;have Tj:=hg.2.1;have Wr:=er q0;have hza:=jW q0;have hb0:Bl w (w.alloc (.cells (dh y) 39)):=aY;obtain⟨bx,hbx⟩:∃bx,bx=w.heap.size:=⟨_,rfl⟩;have hY:dI (w.alloc (.cells (dh y) 39)) bx y:=by rw[hbx];exact Has.new _ _
 have hC:=h.box hb0 hbx hY;have TP:=h_ hbx;clear h hb0 hY hbx;go_enter Tryz.func12,Tryz.ntmps12;go_upto_region 1 with fail
 rw[<-TP.out];generalize World.alloc _ _=v1 at*;have c0:=hC.act.kind;rw[HK.out]at c0;obtain⟨S1,hS1⟩:∃S1,(bc M S y.n).2=S1:=⟨_,rfl⟩;obtain⟨z,hz⟩:∃z,(bc M S y.n).1=z:=⟨_,rfl⟩;have S_:=h_ hS1;have HZ:=h_ hz;clear hS1 hz;go_wp2_with fail
 refine de (fun b1 b2 w'=>aS w0 w' r bb cb mr bt mb mg bm rb [(bx,dh y,39)] M M (bif b1 then S1 else S) (bif b2 then S1 else S) tip L) 6 23 [3,5,6,10,13,17,20,22,23,24] [af bb,af bb,af bb,af cb,.pointer (some ⟨bx,70,none⟩),i_ y.n,i_ z,af bb,af bb,.pointer (some ⟨bb,1,none⟩),af mr,af mr,.pointer (some ⟨mr,1,none⟩),af rb,af bb,af bb,.pointer (some ⟨bb,1,none⟩),af mr,af mr,af mr,af bm,.pointer (some ⟨bx,70,none⟩),i_ y.n,i_ z,.bool true,.bool true] (hC.below bf.drew) ⟨fun _ _ _ _ _ hC=>.val (dj rfl rfl (fx hC.b0)) hC,fun _ _ _ _ _ hC=>.val (dj rfl rfl (fT (hC.act.num q0))) hC,fun b1 b2 w' f1 _ hC=>?_,fun _ _ _ _ _ hC=>.val (dj rfl rfl (fB hC.b1)) hC,fun _ _ _ _ _ hC=>.val (dj rfl rfl (k_ hC.m1)) hC,fun _ _ _ _ _ hC=>.val (dj rfl rfl (fB hC.b1)) hC,fun _ _ _ _ _ hC=>.val (dj rfl rfl (iR hC.m0)) hC,fun _ _ _ _ _ hC=>.val (dj rfl rfl (fT (hC.act.num q0))) hC,fun b1 b2 w' _ f2 hC=>?_,fun _ _ _ _ _ hC=>.val (jh rfl rfl rfl (by simp)) hC,trivial⟩ ?_
 ·obtain rfl:=f1.no (by kernel_rfl);have:=B8 (show aS w0 w' r bb cb mr bt mb mg bm rb [(bx,dh y,39)] M M S (bif b2 then S1 else S) tip L from hC) hg.1 Tj y.n;rw[S_.out,HZ.out]at this;exact .call this
 ·obtain rfl:=f2.no (by kernel_rfl);have:=(show aS w0 w' r bb cb mr bt mb mg bm rb [(bx,dh y,39)] M M (bif b1 then S1 else S) S tip L from hC).lift fun X hX=>OC hX hg.1 (Nat.le_trans Tj (by decide)) y.n
  rw[S_.out,HZ.out]at this;exact .call this
 intro v2 hC;replace hC:aS w0 v2 r bb cb mr bt mb mg bm rb [(bx,dh y,39)] M M S1 S1 tip L:=hC;have HC:=h_ hC.loose;clear hC;simp only[dg,List.set_cons_zero,List.set_cons_succ,List.tail_cons,List.headD_cons];go_wp2_with fail
 go_ret;exact⟨rfl,tip,hL,by rw[S_.out];exact HC.out⟩
theorem Hj(w0 w:World)(r:Ru)(bb cb mr bt mb mg bm rb:Nat)(M:List aq)(S:Mk.St)(tip:Nat)(L K:List Int)(hL:Row M (tip:Int) L)(hK:Row M (jV r M S:Int) K)(h:aS w0 w r bb cb mr bt mb mg bm rb [] M M S S tip L)(hg:Gd r M S)(y:Ac)(q0:y.h.ok)(hk:y.kind=4):aG 12 #[af bb,.agg (dh y)] w fun e w'=>e=.returned (.bool true)/\lT w0 w' r bb cb mr bt mb mg bm rb (di r M y) (dD M S y) (eI K L y):=by
 have e1:di r M y=M:=by unfold di;rw[if_neg (by omega)]
 have e2:dD M S y=S:=by unfold dD;rw[hk];rfl
 have e3:eI K L y=Ch.iM K L:=by unfold eI;rw[if_pos hk]
 rw[e1,e2,e3];have HK:=h_ hk;clear e1 e2 e3 hk;have Tj:=hg.2.1;have Wr:=er q0;have hza:=jW q0;have hb0:Bl w (w.alloc (.cells (dh y) 39)):=aY;obtain⟨bx,hbx⟩:∃bx,bx=w.heap.size:=⟨_,rfl⟩;have hY:dI (w.alloc (.cells (dh y) 39)) bx y:=by rw[hbx];exact Has.new _ _
 have hC:=h.box hb0 hbx hY;have TP:=h_ hbx;clear h hb0 hY hbx;go_enter Tryz.func12,Tryz.ntmps12;go_upto_region 1 with fail
 rw[<-TP.out];generalize World.alloc _ _=v1 at*;have c0:=hC.act.kind;rw[HK.out]at c0;go_wp2_with fail
 refine de (fun b1 b2 w'=>∃t2:Nat,Row M (t2:Int) (bif b1 then(Ch.iM K L)else L)/\aS w0 w' r bb cb mr bt mb mg bm rb [(bx,dh y,39)] M M S S t2 (bif b2 then(Ch.iM K L)else L)) 4 9 [3,4,8,9,10] [af bb,af bb,af bb,af cb,.bool (decide (0<Ch.iw K L)),af bb,af bb,.pointer (some ⟨bb,1,none⟩),af mr,.bool (decide (0<Ch.iw K L)),.bool true,.bool true] ⟨tip,hL,hC.below bf.drew⟩ ⟨fun _ _ _ _ _ hC=>.val (dj rfl rfl (fx hC.choose_spec.2.b0)) hC,fun b1 b2 w' f1 _ hC=>?_,fun _ _ _ _ _ hC=>.val (dj rfl rfl (fB hC.choose_spec.2.b1)) hC,fun b1 b2 w' _ f2 hC=>?_,fun _ _ _ _ _ hC=>.val (BB rfl rfl rfl (by simp)) hC,trivial⟩ ?_
 ·obtain rfl:=f1.no (by kernel_rfl);obtain⟨t2,h1,h2⟩:=hC;exact .call (u4 h2 hg h1 hK)
 ·obtain rfl:=f2.no (by kernel_rfl);obtain⟨t2,h1,h2⟩:=hC;exact .call ((uv h2 hg hL hK).mono fun _ _ h=>⟨h.1,t2,h1,h.2⟩)
 rintro v2 ⟨t2,h1,hC⟩;have HC:=h_ hC.loose;have H1:=h_ h1;clear hC h1 hL hK;simp only[dg,List.set_cons_zero,List.set_cons_succ,List.tail_cons,List.headD_cons];go_wp2_with fail
 go_ret;exact⟨rfl,t2,H1.out,HC.out⟩
theorem FQ(w0 w:World)(r:Ru)(bb cb mr bt mb mg bm rb:Nat)(M:List aq)(S:Mk.St)(tip:Nat)(L K:List Int)(hL:Row M (tip:Int) L)(hK:Row M (jV r M S:Int) K)(h:aS w0 w r bb cb mr bt mb mg bm rb [] M M S S tip L)(hg:Gd r M S)(y:Ac)(q0:y.h.ok)(hk:y.kind=5):aG 12 #[af bb,.agg (dh y)] w fun e w'=>e=.returned (.bool true)/\lT w0 w' r bb cb mr bt mb mg bm rb (di r M y) (dD M S y) (eI K L y):=by
 have e1:di r M y=M:=by unfold di;rw[if_neg (by omega)]
 have e2:dD M S y=S:=by unfold dD;rw[hk];rfl
 have e3:eI K L y=K:=by unfold eI;rw[if_neg (by omega),if_pos hk]
 rw[e1,e2,e3];have HK:=h_ hk;clear e1 e2 e3 hk;have Tj:=hg.2.1;have Wr:=er q0;have hza:=jW q0;have hb0:Bl w (w.alloc (.cells (dh y) 39)):=aY;obtain⟨bx,hbx⟩:∃bx,bx=w.heap.size:=⟨_,rfl⟩;have hY:dI (w.alloc (.cells (dh y) 39)) bx y:=by rw[hbx];exact Has.new _ _
 have hC:=h.box hb0 hbx hY;have TP:=h_ hbx;clear h hb0 hY hbx;go_enter Tryz.func12,Tryz.ntmps12;go_upto_region 1 with fail
 rw[<-TP.out];generalize World.alloc _ _=v1 at*;have c0:=hC.act.kind;rw[HK.out]at c0;go_wp2_with fail
 refine de (fun b1 b2 w'=>∃t2:Nat,Row M (t2:Int) (bif b1 then K else L)/\aS w0 w' r bb cb mr bt mb mg bm rb [(bx,dh y,39)] M M S S t2 (bif b2 then K else L)) 4 9 [3,4,8,9,10] [af bb,af bb,af bb,af cb,i_ (Ch.iw K L:Int),af bb,af bb,.pointer (some ⟨bb,1,none⟩),af mr,i_ (Ch.iw K L:Int),.bool true,.bool true] ⟨tip,hL,hC.below bf.drew⟩ ⟨fun _ _ _ _ _ hC=>.val (dj rfl rfl (fx hC.choose_spec.2.b0)) hC,fun b1 b2 w' f1 _ hC=>?_,fun _ _ _ _ _ hC=>.val (dj rfl rfl (fB hC.choose_spec.2.b1)) hC,fun b1 b2 w' _ f2 hC=>?_,fun _ _ _ _ _ hC=>.val (jh rfl rfl rfl (by simp)) hC,trivial⟩ ?_
 ·obtain rfl:=f1.no (by kernel_rfl);obtain⟨t2,h1,h2⟩:=hC;exact .call ((pW h2 hg h1 hK).mono fun _ _ h=>⟨h.1,_,hK,h.2⟩)
 ·obtain rfl:=f2.no (by kernel_rfl);obtain⟨t2,h1,h2⟩:=hC;exact .call ((EK h2 hg hL hK).mono fun _ _ h=>⟨h.1,t2,h1,h.2⟩)
 rintro v2 ⟨t2,h1,hC⟩;have HC:=h_ hC.loose;have H1:=h_ h1;clear hC h1 hL hK;simp only[dg,List.set_cons_zero,List.set_cons_succ,List.tail_cons,List.headD_cons];go_wp2_with fail
 go_ret;exact⟨rfl,t2,H1.out,HC.out⟩
theorem Fj(w0 w:World)(r:Ru)(bb cb mr bt mb mg bm rb:Nat)(M:List aq)(S:Mk.St)(tip:Nat)(L K:List Int)(hL:Row M (tip:Int) L)(h:aS w0 w r bb cb mr bt mb mg bm rb [] M M S S tip L)(y:Ac)(q0:y.h.ok)(k0:¬y.kind=0)(k1:¬y.kind=1)(k2:¬y.kind=2)(k3:¬y.kind=3)(k4:¬y.kind=4)(k5:¬y.kind=5):aG 12 #[af bb,.agg (dh y)] w fun e w'=>e=.returned (.bool true)/\lT w0 w' r bb cb mr bt mb mg bm rb (di r M y) (dD M S y) (eI K L y):=by
 have e1:di r M y=M:=if_neg k0;have e2:dD M S y=S:=by unfold dD;rw[if_neg k1,if_neg k2,if_neg k3]
 have e3:eI K L y=L:=by unfold eI;rw[if_neg k4,if_neg k5]
 rw[e1,e2,e3];have f0:(y.kind==0)=false:=by simpa using k0
 have f1:(y.kind==1)=false:=by simpa using k1
 have f2:(y.kind==2)=false:=by simpa using k2
 have f3:(y.kind==3)=false:=by simpa using k3
 have f4:(y.kind==4)=false:=by simpa using k4
 have f5:(y.kind==5)=false:=by simpa using k5
 clear e1 e2 e3 k0 k1 k2 k3 k4 k5;have hza:=jW q0;have hb0:Bl w (w.alloc (.cells (dh y) 39)):=aY;obtain⟨bx,hbx⟩:∃bx,bx=w.heap.size:=⟨_,rfl⟩;have hY:dI (w.alloc (.cells (dh y) 39)) bx y:=by rw[hbx];exact Has.new _ _
 have hC:=h.box hb0 hbx hY;have TP:=h_ hbx;clear h hb0 hY hbx;go_enter Tryz.func12,Tryz.ntmps12;go_upto_region 1 with fail
 rw[<-TP.out];generalize World.alloc _ _=v1 at*;have c0:=hC.act.kind;generalize y.kind=kd at*;have HC:=h_ hC;clear hC;go_wp2_with fail
 go_ret;exact⟨rfl,tip,hL,HC.out.loose⟩
theorem uR(w0 w:World)(r:Ru)(bb cb mr bt mb mg bm rb:Nat)(M:List aq)(S:Mk.St)(tip:Nat)(L K:List Int)(hL:Row M (tip:Int) L)(hK:Row M (jV r M S:Int) K)(h:aS w0 w r bb cb mr bt mb mg bm rb [] M M S S tip L)(hg:Gd r M S)(HG:Hid (r.gs.length<=1000/\r.cs.length<=1000/\2<=r.p.R8))(HT:jR w0 fun w'=>dQ w')(y:Ac)(q0:y.h.ok)(VI:Hid (-9223372036854775808<=y.now/\y.now<=9223372036854775807)):aG 12 #[af bb,.agg (dh y)] w fun e w'=>e=.returned (.bool true)/\lT w0 w' r bb cb mr bt mb mg bm rb (di r M y) (dD M S y) (eI K L y):=by by_cases k0:y.kind=0;exact J0 w0 w r bb cb mr bt mb mg bm rb M S tip L K hL h hg HG HT y q0 VI k0;by_cases k1:y.kind=1;exact Mi w0 w r bb cb mr bt mb mg bm rb M S tip L K hL h hg y q0 k1;by_cases k2:y.kind=2;exact H_ w0 w r bb cb mr bt mb mg bm rb M S tip L K hL h hg y q0 k2;by_cases k3:y.kind=3;exact GU w0 w r bb cb mr bt mb mg bm rb M S tip L K hL h hg y q0 k3;by_cases k4:y.kind=4;exact Hj w0 w r bb cb mr bt mb mg bm rb M S tip L K hL hK h hg y q0 k4;by_cases k5:y.kind=5;exact FQ w0 w r bb cb mr bt mb mg bm rb M S tip L K hL hK h hg y q0 k5;exact Fj w0 w r bb cb mr bt mb mg bm rb M S tip L K hL h y q0 k0 k1 k2 k3 k4 k5
def pd(B:Nat)(r:Ru)(cb bt mb mg:Nat)(F:Nat->Prop)(w:World):Prop:=fg w F mb mg (aT bt) r [aB] Mk.j5/\Has w cb (Ni bt mb 0) 88/\(∀i,F i->B<=i/\i≠cb)/\B<=mb/\B<=mg/\B<=cb/\mb≠cb/\mg≠cb
variable{F:Nat->Prop}
theorem pd.below(h:pd B r cb bt mb mg F w)(hb:Bl w w'):pd B r cb bt mb mg F w':=⟨h.1.below hb,(oX hb).has h.2.1 (fun h=>h),h.2.2⟩
theorem qu(p:NN.Pr)(hp:p.ok)(z:Int)(r:Ru)(w:World)(KN:jR w fun w'=>aG 70 #[.agg (NN.aE p),i_ z] w' fun e w''=>∃b F,e=.returned (.tuple #[af b,i_ 0])/\f_ w'' F b r [aB] [-1]/\(∀i,F i->w'.heap.size<=i)/\Bl w' w''):aG 36 #[.agg (NN.aE p),i_ z] w fun e w'=>∃cb bt mb mg F,e=.returned (.tuple #[af cb,i_ 0])/\pd w.heap.size r cb bt mb mg F w'/\Bl w w':=by
 have hz:=NN.eH hp;go_enter Tryz.func36,Tryz.ntmps36;go_upto_region 1 with fail
 generalize hw0:World.alloc _ _=v0;have hB:Bl w v0:=dd hw0;have hP:NN.aA v0 w.heap.size p:=by rw[<-hw0];exact NN.Has.new _ _
 clear hw0;go_wp2_with (first|fail|(with_reducible refine NN.dH rfl _ rfl _ rfl hP hz ?_))
 refine(KN.out _ hB).mono ?_;rintro e v1 ⟨bt,F,rfl,hS,hF,hb⟩;have hB1:=ah hB hb;have HF:Hid (∀i,F i->w.heap.size<=i):=h_ fun i hi=>Nat.le_trans hB.size (hF i hi)
 have HS:=h_ hS;have HB1:=h_ hB1;clear hb hF hB hB1 hP hS KN;go_wp2_with fail
 refine(BN (aT bt) v1).mono ?_;rintro e v2 ⟨mb,mg,rfl,h1,h2,h3,h4,hb⟩;have hM:fg v2 F mb mg (aT bt) r [aB] Mk.j5:=⟨.inl ⟨bt,[-1],rfl,HS.out.below hb,rfl⟩,h3,h4,fun hf=>by have:=HS.out.1 _ hf;omega,fun hf=>by have:=HS.out.1 _ hf;omega⟩;have YI:Hid (mb<v2.heap.size/\mg<v2.heap.size/\w.heap.size<=mb/\w.heap.size<=mg):=h_ ⟨Has.lt h3,h4.lt,Nat.le_trans HB1.out.size h2,Nat.le_trans HB1.out.size h1⟩;have HM:=h_ hM;have HB2:=h_ (ah HB1.out hb);have Hb:=h_ hb;clear h1 h2 h3 h4 hb hM;go_wp2_with fail
 go_ret2;have hb3:Bl v2 (v2.alloc (.cells (Ni bt mb 0) 88)):=aY;exact⟨v2.heap.size,bt,mb,mg,F,rfl,⟨HM.out.below hb3,Has.new _ _,fun i hi=>⟨HF.out i hi,Nat.ne_of_lt (Nat.lt_of_lt_of_le (HS.out.1 i hi) Hb.out.size)⟩,YI.out.2.2.1,YI.out.2.2.2,HB2.out.size,Nat.ne_of_lt YI.out.1,Nat.ne_of_lt YI.out.2.1⟩,ah HB2.out hb3⟩
theorem uL(bm:Nat)(w:World):aG 38 #[af bm] w fun e w'=>∃mr rb ag,e=.returned (af mr)/\w.heap.size<=mr/\w.heap.size<=rb/\w.heap.size<=ag/\dW w' rb Mk.j5/\Has w' ag #[i_ 0] 3/\Has w' mr (Ir bm rb (.slice (aT ag) 1 1)) 66/\Bl w w':=by
 go_enter Tryz.func38,Tryz.ntmps38;go_wp2_with fail
 refine(tD w).mono ?_;rintro e v1 ⟨rb,rfl,h1,h2,hb⟩;have H1:=h_ h1;have H2:=h_ h2;have Hb:=h_ hb;clear h1 h2 hb;go_wp2_with fail
 go_ret;have hb1:Bl v1 (v1.alloc (.cells #[i_ 0] 3)):=aY;have hA:=Has.new (w:=v1) #[i_ 0] 3;have hs:=World.size_alloc v1 (.cells #[i_ 0] 3);have ha:v1.heap.size<=(v1.alloc (.cells #[i_ 0] 3)).heap.size:=hb1.size;generalize(v1.alloc (.cells #[i_ 0] 3))=v2 at*;have hb2:Bl v2 (v2.alloc (.cells (Ir bm rb (.slice (some ⟨v1.heap.size,0,none⟩) 1 1)) 66)):=aY;have h12:=ah hb1 hb2;have hn:=Hb.out.size;exact⟨v2.heap.size,rb,v1.heap.size,congrArg (fun b=>Ending.returned (af b)) hs.symm,by omega,H1.out,hn,H2.out.below h12,(oX hb2).has hA (fun h=>h),Has.new _ _,Hb.out.trans (h12.mono hn)⟩
theorem L4(p:NN.Pr)(hp:p.ok)(h1:p.one)(t:Tl)(tt:p.tl=t.C)(ht:t.ok)(gs:List Gt)(cs:List Ck)(hgn:t.gn=gs.length)(hcn:t.cn=cs.length)(ac6:gs.length<=1000)(ac7:cs.length<=1000)(hr:jo p t.g gs cs=true)(w:World)(hT:dQ w)(hG:aJ w t.ga gs)(hC:az w t.ca cs):aG 11 #[.agg (NN.aE p)] w fun e w'=>∃bb cb mr bt mb mg bm rb,e=.returned (af bb)/\lT w w' ⟨p,t.g,gs,cs,100⟩ bb cb mr bt mb mg bm rb [aB] Mk.j5 [0]:=by
 have KN:Hid (∀w',Bl w w'->aG 36 #[.agg (NN.aE p),i_ 100] w' fun e w''=>∃cb bt mb mg F,e=.returned (.tuple #[af cb,i_ 0])/\pd w'.heap.size ⟨p,t.g,gs,cs,100⟩ cb bt mb mg F w''/\Bl w' w''):=h_ fun w' hb=>qu p hp 100 _ w' (h_ fun w2 hb2=>by
  have hb3:=ah hb hb2;exact yY p hp h1 t tt ht gs cs hgn hcn (by omega) (by omega) 100 hr w2 (hT.below hb3) (hG.below hb3) (hC.below hb3))
 have KF:Hid (∀w',Bl w w'->aG 39 #[.agg (NN.aE p),i_ 100] w' fun e w''=>∃b,e=.returned (af b)/\gC w'' w.heap.size (fun i=>w'.heap.size<=i/\i<w''.heap.size) b ⟨p,t.g,gs,cs,100⟩ [aB]/\Bl w' w''):=h_ fun w' hb=>Ep p hp h1 t tt ht gs cs hgn hcn 100 w w' hb hG hC
 generalize(⟨p,t.g,gs,cs,100⟩:Ru)=r at*;have hz:=NN.eH hp;clear hT hG hC hr;go_enter Tryz.func11,Tryz.ntmps11;go_upto_region 1 with fail
 generalize hw0:World.alloc _ _=v0;have hB:Bl w v0:=dd hw0;have hP:NN.aA v0 w.heap.size p:=by rw[<-hw0];exact NN.Has.new _ _
 clear hw0;obtain⟨bP,Sf⟩:∃x,x=w.heap.size:=⟨_,rfl⟩;rw[<-Sf]at hP|-;clear Sf;go_wp2_with (first|fail|(with_reducible refine NN.dH rfl _ rfl _ rfl hP hz ?_))
 refine(KN.out _ hB).mono ?_;rintro e v1 ⟨cb,bt,mb,mg,F,rfl,hS,hb⟩;replace hP:=hP.on hb;have H0:=h_ hB.size;have HS:=h_ hS;replace hB:=ah hB hb;clear hb hS KN;go_wp2_with (first|fail|(with_reducible refine NN.dH rfl _ rfl _ rfl hP hz ?_))
 refine(KF.out _ hB).mono ?_;rintro e v2 ⟨bm,rfl,hR,hb⟩;have H1:=h_ hB.size;have HR:=h_ hR;have HS2:=h_ (HS.out.below hb);have HL:Hid (mb<v1.heap.size/\mg<v1.heap.size/\cb<v1.heap.size/\∀i,F i->i<v1.heap.size):=h_ ⟨Has.lt HS.out.1.2.1,HS.out.1.2.2.1.lt,HS.out.2.1.lt,fun i hi=>HS.out.1.tlt hi⟩;have H12:=h_ hb.size;replace hB:=ah hB hb;clear hb hR KF hP HS;go_wp2_with fail
 refine(uL bm v2).mono ?_;rintro e v3 ⟨mr,rb,ag,rfl,r1,r2,r3,r4,r5,r6,hb⟩;have H23:=h_ hb.size;have Vj:=h_ (HS2.out.below hb);have HR3:=h_ (HR.out.below hb);have HQ:Hid (v2.heap.size<=mr/\v2.heap.size<=rb/\v2.heap.size<=ag):=h_ ⟨r1,r2,r3⟩;have HK:=h_ r4;have HA:=h_ r5;have HM:=h_ r6;have HB:=h_ (ah hB hb);clear hB hb r1 r2 r3 r4 r5 r6 HS2 HR;go_wp2_with fail
 go_ret;have hb:Bl v3 (v3.alloc (.cells (RF cb mr) 58)):=aY;obtain⟨s1,s2,s3,s4,s5,s6,s7,s8⟩:=Vj.out.below hb;have hR:=HR3.out.below hb;have hA:=(oX hb).has HA.out (fun h=>h);have hM:=(oX hb).has HM.out (fun h=>h);have hK:=HK.out.below hb;obtain⟨l1,l2,l3,l4⟩:=HL.out;obtain⟨m1,m2,m3⟩:=HQ.out;have k0:=H0.out;have k1:=H1.out;have k2:=H12.out;have k3:=H23.out;have kw:=HB.out.size;have n1:rb<v3.heap.size:=Has.lt HK.out;have n2:mr<v3.heap.size:=HM.out.lt;have n3:ag<v3.heap.size:=HA.out.lt;have d1:mr≠rb:=cC hM hK (by decide);have d2:ag≠rb:=cC hA hK (by decide);refine⟨v3.heap.size,cb,mr,bt,mb,mg,bm,rb,rfl,0,.snoc 0 aB [] rfl .nil,fun _ h=>(by cases h),ag,#[i_ 0],⟨Nat.le_refl _,fun k z hk=>?_⟩,⟨F,_,s1,hR,hK,fun i hi=>⟨by have:=(s3 i hi).1;omega,by have:=l4 i hi;omega,by have:=l4 i hi;omega⟩,fun i hi=>⟨by omega,by omega,by omega⟩,⟨by omega,by omega,by omega,by omega,by omega⟩,fun i c T hx=>?_⟩,HB.out.trans (hb.mono kw)⟩
 ·match k,hk with
  | 0,hk=>cases hk;rfl
  | k+1,hk=>simp at hk
 ·have nf:∀i,v1.heap.size<=i->¬F i:=fun i hi hf=>by have:=l4 i hf;omega
  cases hx with
  | bb=>exact⟨Has.new _ _,by omega,nf _ (by omega),fun hf=>by omega,by omega,by omega,by omega⟩
  | cb=>exact⟨s2,by omega,fun hf=>(s3 _ hf).2 rfl,fun hf=>by omega,s7.symm,s8.symm,by omega⟩
  | mr=>exact⟨hM,by omega,nf _ (by omega),fun hf=>by omega,by omega,by omega,d1⟩
  | ag=>exact⟨hA,by omega,nf _ (by omega),fun hf=>by omega,by omega,by omega,d2⟩
  | act p hp=>cases hp
theorem pd.h(h:pd B r cb bt mb mg F w):Hid (Nh w cb bt 0 (bs r aB)):=h_ ⟨fun w' hb=>Has.cell (h.below hb).2.1 0,fun w' hb=>⟨Has.cell (h.below hb).2.1 2,Has.free (h.below hb).2.1 2⟩,fun w' hb=>ij (Has.cell (h.below hb).2.1 2),fun w' hb=>by
 obtain⟨⟨b,ls,e,h1,_⟩|⟨e,_⟩,_⟩:=(h.below hb).1;cases e;exact eZ h1 rfl _ rfl;cases e⟩
theorem L7(h:pd B r cb bt mb mg F w):ak 19 #[af cb] w (i_ 0):=
 GB (aT cb) (aT mb) _ (h_ fun w' hb=>FU (Has.cell (h.below hb).2.1 1)) (h_ fun w' hb=>by
  have:=((h.below hb).1.rd (.inr (Ok.one r)) (by decide)).fz (Ok.one r) (Cb (Ok.one r) (Mk.Good.start 1 (by decide)))
  rwa[show Mk.top (Hv r [aB]) (fun i=>aM [aB] Mk.j5 (i:Int)) ([aB]:List aq).length=0 from by
   show(if _/\_ then 0 else 0)=0;split<;>rfl] at this)
theorem FY(h:pd B r cb bt mb mg F w):aG 22 #[af cb] w fun e w'=>e=.returned (i_ 0)/\pd B r cb bt mb mg F w'/\Bl w w':=
 (Gg (aT cb) 0 (h_ fun w' hb=>L7 (h.below hb)) 0 (by decide) (fun w' n=>n=0/\pd B r cb bt mb mg F w'/\Bl w w') (fun w' hb=>⟨rfl,h.below hb,hb⟩) (h_ fun w' n hn=>by
  obtain⟨rfl,h1,h2⟩:=hn;exact(zd h1.h).mono fun e w'' h3=>⟨h3.1,rfl,h1.below h3.2,ah h2 h3.2⟩)).mono fun e w' h1=>⟨h1.1,h1.2.2⟩
theorem Ku(h:pd B r cb bt mb mg F w):aG 23 #[af cb] w fun e w'=>∃p c,e=.returned (.slice p 1 c)/\Bl w w':=by refine(Ec (cb:=cb) (bt:=bt) (tip:=0) 0 [] rfl (by decide) (h_ fun w' hb=>⟨Has.cell (h.below hb).2.1 0,Has.cell (h.below hb).2.1 2⟩) (h_ fun w' hb=>?_)).mono ?_;obtain⟨⟨b,ls,e,h1,_⟩|⟨e,_⟩,_⟩:=(h.below hb).1;cases e;exact xu h1 (Ok.one r) (by decide) 0 aB rfl [0] (.snoc 0 aB [] rfl .nil);cases e;rintro e w' ⟨v,rfl,hv,hb⟩;obtain⟨g,c,rfl,_⟩:=tJ hv (by decide);exact⟨_,c,rfl,hb⟩
theorem tH(w:World)(hT:dQ w):ak 9 #[] w (.bool true):=by
 have KN:Hid (aG 36 #[.agg (NN.aE NN.uQ),i_ 5] w fun e w''=>∃cb bt mb mg F,e=.returned (.tuple #[af cb,i_ 0])/\pd w.heap.size ⟨NN.uQ,JD.g,[],[],dO 5⟩ cb bt mb mg F w''/\Bl w w''):=h_ (qu NN.uQ (NN.sK _ _ _ _ _) 5 _ w (h_ fun w2 hb2=>yY NN.uQ (NN.sK _ _ _ _ _) (NN.uP _ _ _ _ _) JD CA zU [] [] rfl rfl (by decide) (by decide) 5 (by decide +kernel) w2 (hT.below hb2) (fun h=>by simp at h) (fun h=>by simp at h)));generalize(⟨NN.uQ,JD.g,[],[],dO 5⟩:Ru)=r at*;clear hT;go_enter Tryz.func9,Tryz.ntmps9;go_wp2_with (with_reducible refine Mw rfl rfl ?_)
 refine KN.out.mono ?_;rintro e v1 ⟨cb,bt,mb,mg,F,rfl,h,hB⟩;have K1:=h_ (ij (Has.cell h.2.1 2));have H:=h_ h;clear h KN;go_wp2_with fail
 refine K1.out.mono ?_;rintro e v2 ⟨rfl,hb⟩;have K2:=h_ (L7 (H.out.below hb));have H2:=h_ (H.out.below hb);replace hB:=ah hB hb;clear hb K1 H;go_wp2_with fail
 refine K2.out.mono ?_;rintro e v3 ⟨rfl,hb⟩;have K3:=h_ (FY (H2.out.below hb));replace hB:=ah hB hb;clear hb K2 H2;go_wp2_with fail
 refine K3.out.mono ?_;rintro e v4 ⟨rfl,h,hb⟩;have K4:=h_ (Ku h);replace hB:=ah hB hb;clear hb h K3;go_wp2_with fail
 refine K4.out.mono ?_;rintro e v5 ⟨p,c,rfl,hb⟩;replace hB:=ah hB hb;clear hb K4;go_wp2_with fail
 go_ret;exact⟨rfl,hB⟩
theorem wD{ops:Array Oper}{rest:List Oper}{o:Oper}{a:Act}{Q:Exit->Act->World->Prop}(hgd:o.guard=none)(x:Operand)(ho:o.op=.load 39 x)(g:Nat)(hx:a.eval x=af g)(c:Ac)(hg:dI w g c)(hs:(dh c).size=72)(hk:wpList Tryz.prog ops Q rest (a.put o.dst (.agg (dh c))) w):wpList Tryz.prog ops Q (o::rest) a w:=
 wpList_load_row hgd 39 x ho g hx 39 (dh c) (0,0) _ (Has.out hg) Tryz.underlying39 rfl (nu.trans (by rw[hs])) hk
theorem vM(r:Ru)(M:List aq)(h:Hd)(now:Int):(Ar.add r M h now).2.length<=M.length+1:=by unfold Ar.add;repeat' (first|split|(dsimp only;simp))
theorem Am{k:Nat}(hM:Ok r M)(hl:M.length<=k+1)(hG:Mk.Good M.length S)(y:Ac)(q0:y.h.ok):Ok r (di r M y)/\(di r M y).length<=k+1+1/\Mk.Good (di r M y).length (dD M S y):=by
 unfold di dD;by_cases k0:y.kind=0;rw[if_pos k0,if_neg (by omega),if_neg (by omega),if_neg (by omega)];have h1:=vM r M y.h y.now;obtain⟨X,hX⟩:=GO r M y.h y.now;exact⟨hM.add q0 y.now,by omega,hG.more (by rw[hX,List.length_append];omega)⟩
 ·rw[if_neg k0];refine⟨hM,by omega,?_⟩;split;exact hG.verdict y.n y.rt
  ·split;exact hG.a_ y.n
   ·split;exact hG.bc y.n;exact hG
theorem lT.S9(h:lT w0 w r bb cb mr bt mb mg bm rb M S L):Bl w0 w:=by obtain⟨tip,h1,h2⟩:=h;exact h2.S9
theorem AL(h:lT w0 w r bb cb mr bt mb mg bm rb M S L)(hg:Gd r M S)(HG:Hid (r.gs.length<=1000/\r.cs.length<=1000/\2<=r.p.R8))(HT:jR w0 fun w'=>dQ w')(y:Ac)(q0:y.h.ok)(VI:Hid (-9223372036854775808<=y.now/\y.now<=9223372036854775807)):aG 12 #[af bb,.agg (dh y)] w fun e w'=>e=.returned (.bool true)/\∃L',lT w0 w' r bb cb mr bt mb mg bm rb (di r M y) (dD M S y) L':=by obtain⟨tip,h1,h2⟩:=h;obtain⟨K,hK⟩:=AR hg;exact(uR w0 w r bb cb mr bt mb mg bm rb M S tip L K h1 hK h2 hg HG HT y q0 VI).mono fun _ _ h=>⟨h.1,_,h.2⟩
