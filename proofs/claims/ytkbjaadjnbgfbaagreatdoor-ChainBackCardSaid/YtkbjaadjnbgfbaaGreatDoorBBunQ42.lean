import Derived.Test.YtkbjaadjnbgfbaaGreatDoorBBunQ41
import Derived.RangeFuncNested
import Derived.RangeFuncBound
set_option maxRecDepth 100000
set_option maxHeartbeats 4000000
namespace Go.Proofs.YtkbjaadjnbgfbaaGreatDoor
open Go.RowKit
namespace An
open Go.Shelf Mem Sc
open Ar (aq Ru aB Ok cp)
attribute [local go_sem] Oper.semAt_some
variable{w w':World}
theorem xd(h:Bl w w'):w.grownBy w' none:=⟨h.os,h.tape,h.output,h.size,fun i hi _=>h.block i hi⟩
theorem Jj(h:Bl w w'):KeepsOthers w w':=⟨h.size,fun k _ hk _=>(h.block k (Array.getElem?_eq_some_iff.1 hk).1).trans hk⟩
theorem qM(mq:Option Addr)(x:Int)(w:World):aG 93 #[.pointer mq,i_ x] w fun e w'=>∃b1 b2,e=.returned (.func (.func 129) #[] #[af b1,af b2])/\w'.cell? ⟨b1,0,none⟩=some (i_ x)/\w'.cell? ⟨b2,0,none⟩=some (.pointer mq)/\b1<w'.heap.size/\b2<w'.heap.size/\Bl w w':=by
 have hb1:Bl w ((w.alloc (.cells #[.pointer mq] 53)).alloc (.cells #[i_ x] 3)):=aY.alloc (by simp) _;have c1:((w.alloc (.cells #[.pointer mq] 53)).alloc (.cells #[i_ x] 3)).cell? ⟨w.heap.size+1,0,none⟩=some (i_ x):=NN.Has.cell (NN.Has.R6 _ #[i_ x] _) 0;have c2:((w.alloc (.cells #[.pointer mq] 53)).alloc (.cells #[i_ x] 3)).cell? ⟨w.heap.size,0,none⟩=some (.pointer mq):=Has.cell (Has.alloc (Has.new #[.pointer mq] _) _) 0;have hs:((w.alloc (.cells #[.pointer mq] 53)).alloc (.cells #[i_ x] 3)).heap.size=w.heap.size+2:=by simp
 go_enter Tryz.func93,Tryz.ntmps93;go_wp2_with fail
 go_ret;exact⟨_,_,rfl,c1,c2,by omega,by omega,hb1⟩
theorem yG(b1 b2:Nat)(mq:Option Addr)(x:Int)(r:Ru)(M:List aq)(hM:M=[]\/Ok r M)(xs:List Int)(hx:Mk.Wy M x xs)(w:World)(KH:Hid (∀w' z,Bl w w'->ak 95 #[.pointer mq,i_ z] w' (.bool (decide (cp M z)))))(KU:Hid (∀w' z,Bl w w'->ak 130 #[.pointer mq,i_ z] w' (i_ (pA M z))))(hc1:w.cell? ⟨b1,0,none⟩=some (i_ x))(hc2:w.cell? ⟨b2,0,none⟩=some (.pointer mq))(n:Nat)(hn:2<=n):SeqStopsK Fence.wide n Tryz.prog 129 #[af b1,af b2] (fun z:Int=>#[i_ z]) (Below w.heap.size) (fun ys=>ys=xs) (fun pre=>pre <+: xs) xs.length w:=fun l J Jx W hW hJ hJx hY h0=>by
 have c1:=(hW.cell (p:=⟨b1,0,none⟩) (block_lt_of_cell hc1)).trans hc1;have HC2:Hid (∀w',Bl w w'->w'.cell? ⟨b2,0,none⟩=some (.pointer mq)):=h_ fun w' hb=>(hb.cell (p:=⟨b2,0,none⟩) (block_lt_of_cell hc2)).trans hc2
 have HJ:Hid (∀pre A B,J pre A->Bl A B->J pre B):=h_ fun pre A B h hb=>hJ pre A B none h (xd hb) (fun r e=>by cases e)
 have HY:=h_ hY;clear hc1 hc2 hY hJ hJx;refine callsIn_of_wp Tryz.func129 rfl trivial ?_ rfl;simp only[Tryz.ntmps129,List.size_toArray,List.length_cons,List.length_nil,Nat.reduceAdd,Nat.reduceSub,Array.replicate_succ,Array.replicate_zero,List.push_toArray,List.append_toArray,List.nil_append,List.cons_append];gi_wp2
 gi_loopw [4] (fun p wr=>∃(pre rest:List Int)(z:Int),p=i_ z/\Hid (xs=pre++rest/\Mk.Wy M z rest)/\Bl w wr/\J pre wr) (fun p _=>(intOf p+1).toNat)
 case atStart=>exact⟨[],xs,x,rfl,h_ ⟨rfl,hx⟩,hW,h0⟩
 case round=>
  clear hW h0 c1;obtain⟨pre,rest,z,rfl,HX,hW,hJ⟩:=hrel;have c2:=HC2.out _ hW;have Uh:=KH.out _ z hW;by_cases hp:cp M z
  ·obtain⟨k,e,rfl,he⟩:=hp.is;obtain⟨ys,hrest,hys⟩:=HX.out.2.yes he;rw[decide_eq_true hp]at Uh
   have hu:e.up<(k:Int):=by
    rcases hM with rfl|hM
    simp at he
    ·rcases hM.ahead he with⟨rfl,rfl⟩|⟨j,a,h,q1,_,q3,_⟩
     simp[aB];omega
   have HU:=h_ hu;have HUP:=h_ (Cl he)
   have YF:Hid (xs=(pre++[(k:Int)])++ys/\Mk.Wy M e.up ys/\pre.length<xs.length):=h_ (by
    have h1:=HX.out.1;rw[hrest]at h1;refine⟨by rw[h1];simp,hys,?_⟩;rw[h1,List.length_append,List.length_cons];omega)
   clear hrest hys hu he hp HX;generalize e.up=up at*;gi_wp2
   refine⟨trivial,fun _=>by omega,(callsIn_wide.2 Uh).mono ?_⟩;rintro e1 W1 ⟨rfl,hb1⟩;obtain⟨fn,tmps,assign,body,hy,hR⟩:=HY.out pre (k:Int) W1 (HJ.out _ _ _ hJ hb1) YF.out.2.2;replace hW:=ah hW hb1;clear Uh hb1 hJ;gi_wp2
   refine⟨fun _=>by omega,hR.mono ?_⟩;rintro e2 W3 (⟨rfl,hJ3,hk3⟩|⟨rfl,hJx3⟩)
   ·replace hW:=hW.trans hk3;have c2:=HC2.out _ hW;have X3:=KU.out _ (k:Int) hW;rw[HUP.out]at X3;clear hR hy hk3 HUP;gi_wp2
    refine⟨trivial,fun _=>by omega,(callsIn_wide.2 X3).mono ?_⟩;rintro e4 W4 ⟨rfl,hb4⟩;have hJ4:=HJ.out _ _ _ hJ3 hb4;replace hW:=ah hW hb4;clear X3 hb4 hJ3 c2;gi_wp2
    go_roundw
    case rel=>exact⟨pre++[(k:Int)],ys,up,rfl,h_ ⟨YF.out.1,YF.out.2.1⟩,hW,hJ4⟩
    case measure=>have:=HU.out;simp[intOf];omega
   ·gi_wp2
    go_end0
    exact⟨⟨_,rfl⟩,.inr ⟨pre++[(k:Int)],⟨ys,YF.out.1.symm⟩,hJx3⟩⟩
  ·rw[decide_eq_false hp]at Uh;have hr:rest=[]:=HX.out.2.no hp;have VG:Hid (pre=xs):=h_ (by rw[HX.out.1,hr,List.append_nil]);clear hr hp HX;gi_wp2
   refine⟨trivial,fun _=>by omega,(callsIn_wide.2 Uh).mono ?_⟩;rintro e1 W1 ⟨rfl,hb1⟩;have hJ1:=HJ.out _ _ _ hJ hb1;clear Uh hb1 hJ;gi_wp2
   refine⟨fun _ h=>(by cases h),?_⟩;gi_wp2
   go_end0
   exact⟨⟨_,rfl⟩,.inl ⟨pre,VG.out,hJ1⟩⟩
theorem MD(mq:Option Addr)(x:Int)(r:Ru)(M:List aq)(S:Mk.St)(hM:M=[]\/Ok r M)(xs:List Int)(hx:Mk.Wy M x xs)(w:World)(KH:Hid (∀w' z,Bl w w'->ak 95 #[.pointer mq,i_ z] w' (.bool (decide (cp M z)))))(KU:Hid (∀w' z,Bl w w'->ak 130 #[.pointer mq,i_ z] w' (i_ (pA M z))))(KS:Hid (∀w' z,Bl w w'->ak 94 #[.pointer mq,i_ z] w' (.tuple #[i_ ((Mk.sd M S z).1:Int),.bool (Mk.sd M S z).2]))):ak 128 #[.pointer mq,i_ x] w (.bool (xs.any (Mk.bad M S))):=by
 refine(callsIn_wide (n:=9)).1 ?_;refine callsIn_of_wp_marks Tryz.func128 rfl trivial ?_ rfl;simp only[Tryz.ntmps128,List.size_toArray,List.length_cons,List.length_nil,Nat.reduceAdd,Nat.reduceSub,Array.replicate_succ,Array.replicate_zero,List.push_toArray,List.append_toArray,List.nil_append,List.cons_append];have hB:Bl w ((w.alloc (.cells #[.pointer mq] 53)).alloc (.cells #[.bool false] 4)):=aY.alloc (by simp) _;have cR:Has ((w.alloc (.cells #[.pointer mq] 53)).alloc (.cells #[.bool false] 4)) (w.heap.size+1) #[.bool false] 4:=NN.Has.R6 _ #[.bool false] _;have cM:((w.alloc (.cells #[.pointer mq] 53)).alloc (.cells #[.bool false] 4)).cell? ⟨w.heap.size,0,none⟩=some (.pointer mq):=Has.cell (Has.alloc (Has.new #[.pointer mq] _) _) 0;gi_wp2
 generalize World.alloc _ _=v1 at*;obtain⟨bM,X4⟩:∃b,b=w.heap.size:=⟨_,rfl⟩;obtain⟨bR,hbR⟩:∃b,b=w.heap.size+1:=⟨_,rfl⟩;rw[<-hbR]at cR|-;rw[<-X4]at cM|-;have TS:Hid (w.heap.size<=bR):=h_ (by omega);clear X4 hbR;refine⟨trivial,(callsIn_wide.2 (qM mq x v1)).mono ?_⟩;rintro e v2 ⟨b1,b2,rfl,d1,d2,l1,l2,hb⟩;have HR:Hid (∀W,Bl v2 W->Has W bR #[.bool false] 4):=h_ fun W h=>cg h (cg hb cR cR.lt) (Nat.lt_of_lt_of_le cR.lt hb.size)
 have HM:Hid (∀W,Bl v2 W->W.cell? ⟨bM,0,none⟩=some (.pointer mq)):=h_ fun W h=>(h.cell (p:=⟨bM,0,none⟩) (Nat.lt_of_lt_of_le (block_lt_of_cell cM) hb.size)).trans ((hb.cell (p:=⟨bM,0,none⟩) (block_lt_of_cell cM)).trans cM)
 replace hB:=ah hB hb;clear hb cR cM;gi_wp2
 refine wpIn_rangeFunc_ownF rfl (by omega) (gf:=129) (lb:=#[af b1,af b2]) rfl trivial (enters_of Tryz.func129 (by kernel_rfl) rfl)
  (yG b1 b2 mq x r M hM xs hx v2 (h_ fun w' z hb'=>KH.out w' z (ah hB hb')) (h_ fun w' z hb'=>KU.out w' z (ah hB hb')) d1 d2 _ (by omega)) belowK_t (belowK_b (Nat.le_refl _)) bf (fun _=>rfl)
  (fun pre W=>(∀y∈pre,Mk.bad M S y=false)/\Bl v2 W)
  (fun c pre W=>(c=.ret/\(∃y∈pre,Mk.bad M S y=true)/\W.cell? ⟨bR,0,none⟩=some (.bool true))/\Bl w W)
  (OwnFrom.and (Own.from (fun _ A B row hs hg hr=>hs) _) (ownFrom_below (Nat.le_refl _) (Nat.le_refl _)))
  (fun c=>OwnFrom.and (Own.from (fun _ A B row hs hg hr=>⟨hs.1,hs.2.1,cell_kept hs.2.2 hg hr⟩) _) (ownFrom_below (Nat.le_refl _) hB.size))
  ⟨by simp,bf⟩
  (fun z=>{ tmps:=#[.pointer mq,i_ x,af bM,undef,af bR,i_ z,undef,undef,.pointer mq,i_ x,.func (.func 129) #[] #[af b1,af b2],i_ z,undef,undef,undef,undef,undef,undef,undef,undef,undef,undef,undef],defers:=[] }) ?assign ?body ?done ?stop
 case assign=>
  intro l z W K hK;gi_wp2
  exact hK
 case body=>
  rintro l pre z W ⟨hp,hW2⟩ _;have hBW:=ah hB hW2;have X5:=KS.out W z hBW;have hbad:Mk.bad M S z=((Mk.sd M S z).1==2||(Mk.sd M S z).2):=rfl;generalize(Mk.sd M S z).1=s at*;generalize(Mk.sd M S z).2=o at*;have Wl:=h_ hbad;have HP:=h_ hp;have hcm:=HM.out _ hW2;clear hbad hp d1 d2 l1 l2;gi_wp2
  refine⟨trivial,(CallsIn.inRound l (callsIn_wide.2 X5)).mono ?_⟩;rintro e W2 ⟨rfl,hb2⟩;have hn2:Below v2.heap.size W W2:=hb2.mono hW2.size;replace hW2:=hW2.trans hn2;have hcR:=HR.out _ hW2;have hcr:=hcR.cell 0;have hfr:=hcR.free 0;replace hBW:=ah hBW hb2;have hk2:=Jj hb2;clear X5 hb2 hcm;have SH:Hid (Mk.bad M S z=true->KeepsOthers W (W2.setCell ⟨bR,0,none⟩ (.bool true))/\((∃y∈pre++[z],Mk.bad M S y=true)/\(W2.setCell ⟨bR,0,none⟩ (.bool true)).cell? ⟨bR,0,none⟩=some (.bool true))/\Bl w (W2.setCell ⟨bR,0,none⟩ (.bool true))):=h_ fun hh=>⟨hk2.trans (KeepsOthers.setCell _ _ _),⟨⟨z,List.mem_append.2 (.inr (List.mem_singleton.2 rfl)),hh⟩,World.cell?_setCell_same' _ _ _ (by rw[hcr];rfl)⟩,hBW.setCell (p:=⟨bR,0,none⟩) TS.out _⟩
  clear hcR;by_cases hs:s=2
  ·have h1:((s:Int)==2)=true:=by rw[hs];rfl
   have hb:Mk.bad M S z=true:=by rw[Wl.out];simp[hs]
   clear hs;gi_wp2
   exact⟨(SH.out hb).1,⟨rfl,(SH.out hb).2.1⟩,(SH.out hb).2.2⟩
  ·have h1:((s:Int)==2)=false:=by simpa using fun h=>hs (by omega)
   cases o
   ·have hb:Mk.bad M S z=false:=(by rw[Wl.out];simpa using hs);clear hs;gi_wp2
    exact⟨hk2,hn2,fun y hy=>(List.mem_append.1 hy).elim (HP.out y) (fun hh=>by rw[List.mem_singleton.1 hh];exact hb),hW2⟩
   ·have hb:Mk.bad M S z=true:=(by rw[Wl.out];simp);clear hs;gi_wp2
    exact⟨(SH.out hb).1,⟨rfl,(SH.out hb).2.1⟩,(SH.out hb).2.2⟩
 case done=>
  rintro D ys W hD rfl ⟨hne,hW2⟩ hK;have hcR:=HR.out _ hW2;have hcr:=hcR.cell 0;have hfr:=hcR.free 0;have hBW:=ah hB hW2;gi_wp2
  have hK':=(KeepsOthers.setCell W ⟨bR,0,none⟩ (.bool false)).same D _ hK rfl;refine⟨by simp,.inl ⟨_,_,rfl,run_takeDeferred hK',?_⟩⟩;have Wm:=cell_kept (World.cell?_setCell_same' W ⟨bR,0,none⟩ (.bool false) (by rw[hcr];rfl)) (grownBy_putObj' _ D (.deferred none)) (fun r e=>by cases e;exact⟨_,hK',rfl⟩);refine⟨.bool false,?_,by rw[show ys.any (Mk.bad M S)=false from List.any_eq_false.2 fun y hy=>by rw[hne y hy];simp],(hBW.setCell (p:=⟨bR,0,none⟩) TS.out _).trans (belowK_b (w:=w) (Nat.le_refl _) _ D _ _ (Nat.le_trans hB.size hD) hK' rfl rfl)⟩;simp[results,Tryz.f128,go_sem,Wm]
 case stop=>
  rintro D c pre W hD hpre ⟨⟨rfl,⟨y,hy,hyb⟩,hcr⟩,hBW⟩ hK;have hres:(xs.any (Mk.bad M S))=true:=List.any_eq_true.2 ⟨y,hpre.subset hy,hyb⟩;gi_wp2
  refine⟨by simp,.inl ⟨_,_,rfl,run_takeDeferred hK,?_⟩⟩;have Wm:=cell_kept hcr (grownBy_putObj' _ D (.deferred none)) (fun r e=>by cases e;exact⟨_,hK,rfl⟩);refine⟨.bool true,?_,by rw[hres],hBW.trans (belowK_b (w:=w) (Nat.le_refl _) W D _ _ (Nat.le_trans hB.size hD) hK rfl rfl)⟩;simp[results,Tryz.f128,go_sem,Wm]
theorem uk(mq:Option Addr)(x:Int)(r:Ru)(M:List aq)(S:Mk.St)(hM:M=[]\/Ok r M)(xs:List Int)(hx:Mk.Wy M x xs)(w:World)(KH:Hid (∀w' z,Bl w w'->ak 95 #[.pointer mq,i_ z] w' (.bool (decide (cp M z)))))(KU:Hid (∀w' z,Bl w w'->ak 130 #[.pointer mq,i_ z] w' (i_ (pA M z))))(KS:Hid (∀w' z,Bl w w'->ak 94 #[.pointer mq,i_ z] w' (.tuple #[i_ ((Mk.sd M S z).1:Int),.bool (Mk.sd M S z).2]))):ak 58 #[.pointer mq,i_ x] w (.bool (xs.all (Mk.bZ M S)&&decide (cp M x))):=by
 refine(callsIn_wide (n:=9)).1 ?_;refine callsIn_of_wp_marks Tryz.func58 rfl trivial ?_ rfl;simp only[Tryz.ntmps58,List.size_toArray,List.length_cons,List.length_nil,Nat.reduceAdd,Nat.reduceSub,Array.replicate_succ,Array.replicate_zero,List.push_toArray,List.append_toArray,List.nil_append,List.cons_append];have hB:Bl w ((w.alloc (.cells #[.pointer mq] 53)).alloc (.cells #[.bool false] 4)):=aY.alloc (by simp) _;have cR:Has ((w.alloc (.cells #[.pointer mq] 53)).alloc (.cells #[.bool false] 4)) (w.heap.size+1) #[.bool false] 4:=NN.Has.R6 _ #[.bool false] _;have cM:((w.alloc (.cells #[.pointer mq] 53)).alloc (.cells #[.bool false] 4)).cell? ⟨w.heap.size,0,none⟩=some (.pointer mq):=Has.cell (Has.alloc (Has.new #[.pointer mq] _) _) 0;gi_wp2
 generalize World.alloc _ _=v1 at*;obtain⟨bM,X4⟩:∃b,b=w.heap.size:=⟨_,rfl⟩;obtain⟨bR,hbR⟩:∃b,b=w.heap.size+1:=⟨_,rfl⟩;rw[<-hbR]at cR|-;rw[<-X4]at cM|-;have TS:Hid (w.heap.size<=bR):=h_ (by omega);clear X4 hbR;refine⟨trivial,(callsIn_wide.2 (qM mq x v1)).mono ?_⟩;rintro e v2 ⟨b1,b2,rfl,d1,d2,l1,l2,hb⟩;have HR:Hid (∀W,Bl v2 W->Has W bR #[.bool false] 4):=h_ fun W h=>cg h (cg hb cR cR.lt) (Nat.lt_of_lt_of_le cR.lt hb.size)
 have HM:Hid (∀W,Bl v2 W->W.cell? ⟨bM,0,none⟩=some (.pointer mq)):=h_ fun W h=>(h.cell (p:=⟨bM,0,none⟩) (Nat.lt_of_lt_of_le (block_lt_of_cell cM) hb.size)).trans ((hb.cell (p:=⟨bM,0,none⟩) (block_lt_of_cell cM)).trans cM)
 replace hB:=ah hB hb;clear hb cR cM;gi_wp2
 refine wpIn_rangeFunc_ownF rfl (by omega) (gf:=129) (lb:=#[af b1,af b2]) rfl trivial (enters_of Tryz.func129 (by kernel_rfl) rfl)
  (yG b1 b2 mq x r M hM xs hx v2 (h_ fun w' z hb'=>KH.out w' z (ah hB hb')) (h_ fun w' z hb'=>KU.out w' z (ah hB hb')) d1 d2 _ (by omega)) belowK_t (belowK_b (Nat.le_refl _)) bf (fun _=>rfl)
  (fun pre W=>(∀y∈pre,Mk.bZ M S y=true)/\Bl v2 W)
  (fun c pre W=>(c=.ret/\(∃y∈pre,Mk.bZ M S y=false)/\W.cell? ⟨bR,0,none⟩=some (.bool false))/\Bl w W)
  (OwnFrom.and (Own.from (fun _ A B row hs hg hr=>hs) _) (ownFrom_below (Nat.le_refl _) (Nat.le_refl _)))
  (fun c=>OwnFrom.and (Own.from (fun _ A B row hs hg hr=>⟨hs.1,hs.2.1,cell_kept hs.2.2 hg hr⟩) _) (ownFrom_below (Nat.le_refl _) hB.size))
  ⟨by simp,bf⟩
  (fun z=>{ tmps:=#[.pointer mq,i_ x,af bM,undef,af bR,i_ z,undef,undef,.pointer mq,i_ x,.func (.func 129) #[] #[af b1,af b2],i_ z,undef,undef,undef,undef,undef,undef,undef,undef,undef,undef,undef,undef,undef,undef],defers:=[] }) ?assign ?body ?done ?stop
 case assign=>
  intro l z W K hK;gi_wp2
  exact hK
 case body=>
  rintro l pre z W ⟨hp,hW2⟩ _;have hBW:=ah hB hW2;have X5:=KS.out W z hBW;have hbad:Mk.bZ M S z=((Mk.sd M S z).1==1&&!(Mk.sd M S z).2):=rfl;generalize(Mk.sd M S z).1=s at*;generalize(Mk.sd M S z).2=o at*;have Wl:=h_ hbad;have HP:=h_ hp;have hcm:=HM.out _ hW2;clear hbad hp d1 d2 l1 l2;gi_wp2
  refine⟨trivial,(CallsIn.inRound l (callsIn_wide.2 X5)).mono ?_⟩;rintro e W2 ⟨rfl,hb2⟩;have hn2:Below v2.heap.size W W2:=hb2.mono hW2.size;replace hW2:=hW2.trans hn2;have hcR:=HR.out _ hW2;have hcr:=hcR.cell 0;have hfr:=hcR.free 0;replace hBW:=ah hBW hb2;have hk2:=Jj hb2;clear X5 hb2 hcm;have SH:Hid (Mk.bZ M S z=false->KeepsOthers W (W2.setCell ⟨bR,0,none⟩ (.bool false))/\((∃y∈pre++[z],Mk.bZ M S y=false)/\(W2.setCell ⟨bR,0,none⟩ (.bool false)).cell? ⟨bR,0,none⟩=some (.bool false))/\Bl w (W2.setCell ⟨bR,0,none⟩ (.bool false))):=h_ fun hh=>⟨hk2.trans (KeepsOthers.setCell _ _ _),⟨⟨z,List.mem_append.2 (.inr (List.mem_singleton.2 rfl)),hh⟩,World.cell?_setCell_same' _ _ _ (by rw[hcr];rfl)⟩,hBW.setCell (p:=⟨bR,0,none⟩) TS.out _⟩
  clear hcR;by_cases hs:s≠1
  ·have h1:((s:Int) != 1)=true:=by simpa using fun h=>hs (by omega)
   have hb:Mk.bZ M S z=false:=by rw[Wl.out];simp[hs]
   clear hs;gi_wp2
   exact⟨(SH.out hb).1,⟨rfl,(SH.out hb).2.1⟩,(SH.out hb).2.2⟩
  ·have h1:((s:Int) != 1)=false:=by rw[Decidable.not_not.1 hs];rfl
   cases o
   ·have hb:Mk.bZ M S z=true:=(by rw[Wl.out];simpa using hs);clear hs;gi_wp2
    exact⟨hk2,hn2,fun y hy=>(List.mem_append.1 hy).elim (HP.out y) (fun hh=>by rw[List.mem_singleton.1 hh];exact hb),hW2⟩
   ·have hb:Mk.bZ M S z=false:=(by rw[Wl.out];simp);clear hs;gi_wp2
    exact⟨(SH.out hb).1,⟨rfl,(SH.out hb).2.1⟩,(SH.out hb).2.2⟩
 case done=>
  rintro D ys W hD rfl ⟨hne,hW2⟩ hK;have hcm:=HM.out _ hW2;have hBW:=ah hB hW2;have Uh:=KH.out _ x hBW;generalize hg:decide (cp M x)=g at*;gi_wp2
  refine⟨trivial,(callsIn_wide.2 Uh).mono ?_⟩;rintro e W2 ⟨rfl,hb2⟩;replace hK:=(hb2.block D (Array.getElem?_eq_some_iff.1 hK).1).trans hK;replace hW2:=ah hW2 hb2;replace hBW:=ah hBW hb2;have hcR:=HR.out _ hW2;have hcr:=hcR.cell 0;have hfr:=hcR.free 0;clear Uh hb2 hcm;gi_wp2
  have hK':=(KeepsOthers.setCell W2 ⟨bR,0,none⟩ (.bool g)).same D _ hK rfl;refine⟨by simp,.inl ⟨_,_,rfl,run_takeDeferred hK',?_⟩⟩;have Wm:=cell_kept (World.cell?_setCell_same' W2 ⟨bR,0,none⟩ (.bool g) (by rw[hcr];rfl)) (grownBy_putObj' _ D (.deferred none)) (fun r e=>by cases e;exact⟨_,hK',rfl⟩);refine⟨.bool g,?_,by rw[show ys.all (Mk.bZ M S)=true from List.all_eq_true.2 hne,Bool.true_and,hg],(hBW.setCell (p:=⟨bR,0,none⟩) TS.out _).trans (belowK_b (w:=w) (Nat.le_refl _) _ D _ _ (Nat.le_trans hB.size hD) hK' rfl rfl)⟩;simp[results,Tryz.f58,go_sem,Wm]
 case stop=>
  rintro D c pre W hD hpre ⟨⟨rfl,⟨y,hy,hyb⟩,hcr⟩,hBW⟩ hK;have hres:(xs.all (Mk.bZ M S)&&decide (cp M x))=false:=by rw[show xs.all (Mk.bZ M S)=false from List.all_eq_false.2 ⟨y,hpre.subset hy,by rw[hyb];simp⟩];rfl
  gi_wp2
  refine⟨by simp,.inl ⟨_,_,rfl,run_takeDeferred hK,?_⟩⟩;have Wm:=cell_kept hcr (grownBy_putObj' _ D (.deferred none)) (fun r e=>by cases e;exact⟨_,hK,rfl⟩);refine⟨.bool false,?_,by rw[hres],hBW.trans (belowK_b (w:=w) (Nat.le_refl _) W D _ _ (Nat.le_trans hB.size hD) hK rfl rfl)⟩;simp[results,Tryz.f58,go_sem,Wm]
end An
namespace An
open Mem Sc
open Ar (aq Ru aB Ok cp)
theorem uD(mq:Option Addr)(x:Int)(g:Bool)(w:World)(KF:aQ w 128 #[.pointer mq,i_ x] (.bool g)):ak 90 #[.pointer mq,i_ x] w (.bool (!g)):=by
 have hB:=Below.refl w.heap.size w;go_enter Tryz.func90,Tryz.ntmps90;go_wp2_with fail
 refine au (KF.out _ hB) fun v1 hb=>?_;replace hB:=ah hB hb;clear hb;go_wp2_with fail
 go_ret;exact⟨rfl,hB⟩
theorem GY(mb:Nat)(x:Int)(g g0:Bool)(h0:(x==0)=g0)(w:World)(KH:aQ w 95 #[af mb,i_ x] (.bool g)):ak 86 #[af mb,i_ x] w (i_ (if g then(if g0 then 1 else 0)else 5)):=by
 have hB:=Below.refl w.heap.size w;go_enter Tryz.func86,Tryz.ntmps86;go_wp2_with fail
 refine au (KH.out _ hB) fun v1 hb=>?_;replace hB:=ah hB hb;clear hb;cases g
 ·go_wp2_with fail
  go_ret;exact⟨rfl,hB⟩
 ·cases g0
  all_goals
   go_wp2_with fail
   go_ret;exact⟨rfl,hB⟩
def eX(H:Nat->Nat->Bool)(P:Nat->Bool)(n k:Nat)(b:Int):Prop:=(b = -1/\∀i,k<=i->i<n->P i=false)\/∃c:Nat,b=(c:Int)/\k<=c/\c<n/\P c=true/\∀i,k<=i->i<n->P i=true->i=c\/H c i=true
theorem eX.start(H:Nat->Nat->Bool)(P:Nat->Bool)(n:Nat):eX H P n n (-1):=.inl ⟨rfl,fun i h1 h2=>by omega⟩
variable{H:Nat->Nat->Bool}{P:Nat->Bool}{n k:Nat}{b:Int}
theorem eX.no(h:eX H P n (k+1) b)(hp:P k=false):eX H P n k b:=by
 rcases h with⟨h1,h2⟩|⟨c,h1,h2,h3,h4,h5⟩
 refine .inl ⟨h1,fun i hi hn=>?_⟩;by_cases e:i=k;rw[e];exact hp;exact h2 i (by omega) hn;refine .inr ⟨c,h1,by omega,h3,h4,fun i hi hn hpi=>?_⟩;by_cases e:i=k;rw[e,hp]at hpi;cases hpi;exact h5 i (by omega) hn hpi
theorem eX.new(t:Tp.mh H){P:Nat->Bool}{n k:Nat}{b:Int}(h:eX H P n (k+1) b)(hk:k<n)(hp:P k=true)(hb:∀c:Nat,b=(c:Int)->H k c=true):eX H P n k (k:Int):=by
 refine .inr ⟨k,rfl,Nat.le_refl _,hk,hp,fun i hi hn hpi=>?_⟩;by_cases e:i=k;exact .inl e
 ·rcases h with⟨h1,h2⟩|⟨c,h1,h2,h3,h4,h5⟩
  rw[h2 i (by omega) hn]at hpi;cases hpi
  ·have hkc:=hb c h1;rcases h5 i (by omega) hn hpi with rfl|h6
   exact .inr hkc;exact .inr (t.trans _ _ _ hkc h6)
theorem eX.old(t:Tp.mh H){P:Nat->Bool}{n k c:Nat}(h:eX H P n (k+1) (c:Int))(hb:H k c=false):eX H P n k (c:Int):=by
 rcases h with⟨h1,h2⟩|⟨d,h1,h2,h3,h4,h5⟩
 omega
 ·obtain rfl:c=d:=by omega
  refine .inr ⟨c,rfl,by omega,h3,h4,fun i hi hn hpi=>?_⟩;by_cases e:i=k;subst e;refine .inr ((t.Yt _ _ (show i≠c by omega)).resolve_left fun hh=>?_);rw[hb]at hh;cases hh;exact h5 i (by omega) hn hpi
theorem eX.top(t:Tp.mh H){P:Nat->Bool}{n:Nat}{b:Int}(h:eX H P n 0 b)(hn:0<n)(h0:P 0=true):b=(Mk.top H P n:Int):=by
 rcases h with⟨h1,h2⟩|⟨c,h1,h2,h3,h4,h5⟩
 rw[h2 0 (Nat.le_refl _) hn]at h0;cases h0;rw[h1,Mk.DS t h3 h4 h0 fun i hi hp=>h5 i (Nat.zero_le _) hi hp]
theorem mR.fz{r:Ru}{M:List aq}(hk:k<M.length)(hb:b = -1\/∃c:Nat,b=(c:Int)/\c<M.length):∃g,mR r M (k:Int) b g/\(b = -1->g=true)/\∀c:Nat,b=(c:Int)->g=Hv r M k c:=by
 rcases hb with rfl|⟨c,rfl,hc⟩
 exact⟨true,.inr (.inl ⟨Mk.mJ.2 hk,fun h=>absurd h.1 (by omega),rfl⟩),fun _=>rfl,fun c h=>by omega⟩;exact⟨_,mR.place hk hc,fun h=>by omega,fun d h=>by rw[show d=c by omega]⟩
theorem eX.place(h:eX H P n k b):b = -1\/∃c:Nat,b=(c:Int)/\c<n:=by
 rcases h with⟨h1,_⟩|⟨c,h1,_,h3,_⟩
 exact .inl h1;exact .inr ⟨c,h1,h3⟩
theorem ML(mq q:Option Addr)(g:FuncId)(r:Ru)(M:List aq)(n:Nat)(hn:n=M.length)(TW:n<=1000)(Pk:Nat->Bool)(w:World)(eg:∀args w,(callFunc g args).run Tryz.prog w=.ok (.enter g args) w)(KH:Hid (gO w (.pointer mq) q))(KL:aQ w 57 #[.pointer q] (i_ n))(KV:Hid (∀w' (x y:Int) v,Bl w w'->mR r M x y v->ak 31 #[.pointer q,i_ x,i_ y] w' (.bool v)))(KP:Hid (∀w' (i:Nat),i<n->Bl w w'->ak g #[.pointer mq,i_ i] w' (.bool (Pk i)))):aG 89 #[.pointer mq,.func (.func g) #[.pointer mq] #[]] w fun e w'=>∃b,e=.returned (i_ b)/\eX (Hv r M) Pk n 0 b/\Bl w w':=by
 have HN:=h_ hn;clear hn;have hB:=Below.refl w.heap.size w;go_enter Tryz.func89,Tryz.ntmps89;go_wp2_with fail
 refine au (KH.out _ hB) fun v1 hb=>?_;replace hB:=ah hB hb;clear hb;obtain⟨z0,hz0⟩:∃z0:Int,z0=(n:Int)-1:=⟨_,rfl⟩;have wz:IntKind.i64.wrap ((n:Int)-1)=z0:=by rw[IntKind.wrap_i64];omega
 have HZ0:=h_ hz0;clear hz0;go_wp2_with fail
 refine au (KL.out _ hB) fun v2 hb=>?_;replace hB:=ah hB hb;clear hb;go_wp2_with fail
 clear wz;go_loopw [5,6] (fun s5 s6 wr=>∃(b z:Int)(k:Nat),s5=i_ b/\s6=i_ z/\Hid (z=(k:Int)-1/\k<=n/\eX (Hv r M) Pk n k b)/\Bl w wr) (fun _ s6 _=>(intOf s6+1).toNat)
 case atStart=>exact⟨-1,z0,n,rfl,rfl,h_ ⟨HZ0.out,Nat.le_refl _,eX.start _ _ _⟩,hB⟩
 case round=>
  clear hB HZ0;obtain⟨b,z,k,rfl,rfl,HX,hB⟩:=hrel;cases k with
  | zero=>
   obtain rfl:z = -1:=by have:=HX.out.1;omega
   go_wp2_with fail
   go_ret;exact⟨b,rfl,HX.out.2.2,hB⟩
  | succ j=>
   obtain rfl:z=(j:Int):=by have:=HX.out.1;omega
   have hjn:j<n:=by have:=HX.out.2.1;omega
   obtain⟨v,hv,hv1,hv2⟩:=mR.fz (r:=r) (show j<M.length by rw[<-HN.out];exact hjn) (by have:=HX.out.2.2.place;rw[HN.out]at this;exact this);have HV:=h_ hv;have HV1:Hid ((b = -1->v=true)/\∀c:Nat,b=(c:Int)->v=Hv r M j c):=h_ ⟨hv1,hv2⟩;have HT:=h_ HX.out.2.2;have HJ:=h_ hjn;have hj0:(0:Int)<=(j:Int):=by omega
   obtain⟨z1,hz1⟩:∃z1:Int,z1=(j:Int)-1:=⟨_,rfl⟩;have wz:IntKind.i64.wrap ((j:Int)-1)=z1:=by rw[IntKind.wrap_i64];omega
   have HZ1:=h_ hz1;clear hv hv1 hv2 hjn hz1 HX;go_wp2_with fail
   refine au (KH.out _ hB) fun v3 hb=>?_;replace hB:=ah hB hb;clear hb;go_wp2_with fail
   refine au (KV.out _ _ _ _ hB HV.out) fun v4 hb=>?_;replace hB:=ah hB hb;clear hb HV;have KP1:=KP.out _ j HJ.out hB;cases v
   ·have HT2:Hid (eX (Hv r M) Pk n j b):=h_ (by
     rcases HT.out.place with e|⟨c,e,_⟩
     have:=HV1.out.1 e;cases this;have h1:=HT.out;rw[e]at h1|-;exact h1.old (ef r M) (HV1.out.2 c e).symm)
    clear KP1;(go_wp2_with fail);go_roundw
    case rel=>exact⟨b,z1,j,rfl,rfl,h_ ⟨HZ1.out,by have:=HJ.out;omega,HT2.out⟩,hB⟩
    case measure=>have:=HZ1.out;simp[intOf];omega
   ·cases hpk:Pk j
    all_goals
     rw[hpk]at KP1;go_wp2_with (go_at_fn g;refine KP1.mono ?_;rintro e v5 ⟨rfl,hb⟩)
    ·replace hB:=ah hB hb;go_roundw
     case rel=>exact⟨b,z1,j,rfl,rfl,h_ ⟨HZ1.out,by have:=HJ.out;omega,HT.out.no hpk⟩,hB⟩
     case measure=>have:=HZ1.out;simp[intOf];omega
    ·replace hB:=ah hB hb;go_roundw
     case rel=>exact⟨(j:Int),z1,j,rfl,rfl,h_ ⟨HZ1.out,by have:=HJ.out;omega,HT.out.new (ef r M) HJ.out hpk fun c hc=>(HV1.out.2 c hc).symm⟩,hB⟩
     case measure=>have:=HZ1.out;simp[intOf];omega
open Mk (dP gk cF a_ pb bc sd aM verdict word)
structure jl (w:World) (mq q:Option Addr) (r:Ru) (M:List aq) (S:Mk.St):Prop where
 held:gO w (.pointer mq) q
 has:∀w' z,Bl w w'->ak 95 #[.pointer mq,i_ z] w' (.bool (decide (cp M z)))
 ahead:∀w' z,Bl w w'->ak 130 #[.pointer mq,i_ z] w' (i_ (pA M z))
 said:∀w' z,Bl w w'->ak 94 #[.pointer mq,i_ z] w' (.tuple #[i_ ((sd M S z).1:Int),.bool (sd M S z).2])
 len:∀w',Bl w w'->ak 57 #[.pointer q] w' (i_ (M.length:Int))
 Sa:∀w' (x y:Int) v,Bl w w'->mR r M x y v->ak 31 #[.pointer q,i_ x,i_ y] w' (.bool v)
 ok:M=[]\/Ok r M
 few:M.length<=1000
section
variable{w w':World}{mq q:Option Addr}{r:Ru}{M:List aq}{S:Mk.St}
theorem jl.below(h:jl w mq q r M S)(hb:Bl w w'):jl w' mq q r M S:=⟨fun w2 h2=>h.held w2 (ah hb h2),fun w2 z h2=>h.has w2 z (ah hb h2),fun w2 z h2=>h.ahead w2 z (ah hb h2),fun w2 z h2=>h.said w2 z (ah hb h2),fun w2 h2=>h.len w2 (ah hb h2),fun w2 x y v h2=>h.Sa w2 x y v (ah hb h2),h.ok,h.few⟩
theorem yz(hM:M=[]\/Ok r M)(x:Int):∃xs,Mk.Wy M x xs/\cF M S x=xs.any (Mk.bad M S)/\aM M S x=(xs.all (Mk.bZ M S)&&decide (cp M x)):=by
 rcases hM with rfl|hM
 refine⟨[],.inr ⟨kn x,rfl⟩,Mk.I6 (kn x),?_⟩;rw[Mk.CI (kn x),decide_eq_false (kn x),Bool.and_false];obtain⟨xs,h1,_⟩:=Mk.Wy.ex hM x;refine⟨xs,h1,h1.fails hM,?_⟩;by_cases hp:cp M x;rw[h1.Wj hM hp,decide_eq_true hp,Bool.and_true];rw[Mk.CI hp,decide_eq_false hp,Bool.and_false]
theorem jl.failed(h:jl w mq q r M S)(x:Int):ak 128 #[.pointer mq,i_ x] w (.bool (cF M S x)):=by obtain⟨xs,h1,h2,_⟩:=yz (S:=S) h.ok x;rw[h2];exact MD mq x r M S h.ok xs h1 w (h_ h.has) (h_ h.ahead) (h_ h.said)
theorem jl.valid(h:jl w mq q r M S)(x:Int):ak 58 #[.pointer mq,i_ x] w (.bool (aM M S x)):=by obtain⟨xs,h1,_,h2⟩:=yz (S:=S) h.ok x;rw[h2];exact uk mq x r M S h.ok xs h1 w (h_ h.has) (h_ h.ahead) (h_ h.said)
theorem jl.sound(h:jl w mq q r M S)(x:Int):ak 90 #[.pointer mq,i_ x] w (.bool (!cF M S x)):=uD mq x _ w (h_ fun _ hb=>(h.below hb).failed _)
theorem jl.US(h:jl w mq q r M S):aG 52 #[.pointer mq] w fun e w'=>∃b,e=.returned (i_ b)/\eX (Hv r M) (fun i=>aM M S (i:Int)) M.length 0 b/\Bl w w':=by
 have K:=h_ fun w' hb=>ML mq q 58 r M M.length rfl h.few (fun i=>aM M S (i:Int)) w' (enters_of Tryz.func58 (by kernel_rfl) rfl) (h_ (h.below hb).held) (h_ (h.below hb).len) (h_ (h.below hb).Sa) (h_ fun w'' i _ hb'=>((h.below hb).below hb').valid (i:Int))
 have hB:=Below.refl w.heap.size w;go_enter Tryz.func52,Tryz.ntmps52;go_wp2_with fail
 refine(K.out _ hB).mono ?_;rintro e v1 ⟨b,rfl,hb,hb2⟩;replace hB:=ah hB hb2;have HT:=h_ hb;clear hb hb2 K;go_wp2_with fail
 go_ret;exact⟨b,rfl,HT.out,hB⟩
theorem jl.fz(h:jl w mq q r M S)(hM:Ok r M)(h0:(fun i=>aM M S (i:Int)) 0=true):ak 52 #[.pointer mq] w (i_ (Mk.top (Hv r M) (fun i=>aM M S (i:Int)) M.length:Int)):=by refine h.US.mono ?_;rintro e w' ⟨b,rfl,h1,hb⟩;rw[h1.top (ef r M) hM.pos h0];exact⟨rfl,hb⟩
theorem jl.UT(h:jl w mq q r M S):aG 53 #[.pointer mq] w fun e w'=>∃b,e=.returned (i_ b)/\eX (Hv r M) (fun i=>!cF M S (i:Int)) M.length 0 b/\Bl w w':=by
 have K:=h_ fun w' hb=>ML mq q 90 r M M.length rfl h.few (fun i=>!cF M S (i:Int)) w' (enters_of Tryz.func90 (by kernel_rfl) rfl) (h_ (h.below hb).held) (h_ (h.below hb).len) (h_ (h.below hb).Sa) (h_ fun w'' i _ hb'=>((h.below hb).below hb').sound (i:Int))
 have hB:=Below.refl w.heap.size w;go_enter Tryz.func53,Tryz.ntmps53;go_wp2_with fail
 refine(K.out _ hB).mono ?_;rintro e v1 ⟨b,rfl,hb,hb2⟩;replace hB:=ah hB hb2;have HT:=h_ hb;clear hb hb2 K;go_wp2_with fail
 go_ret;exact⟨b,rfl,HT.out,hB⟩
theorem jl.lead(h:jl w mq q r M S)(hM:Ok r M)(h0:(fun i=>!cF M S (i:Int)) 0=true):ak 53 #[.pointer mq] w (i_ (Mk.top (Hv r M) (fun i=>!cF M S (i:Int)) M.length:Int)):=by refine h.UT.mono ?_;rintro e w' ⟨b,rfl,h1,hb⟩;rw[h1.top (ef r M) hM.pos h0];exact⟨rfl,hb⟩
end
def fg(w:World)(F:Nat->Prop)(mb mg:Nat)(q:Option Addr)(r:Ru)(M:List aq)(S:Mk.St):Prop:=oB w F q r M/\Has w mb (pz q mg) 124/\bo w mg S/\¬F mb/\¬F mg
section
variable{w w':World}{F G:Nat->Prop}{mb mg:Nat}{q:Option Addr}{r:Ru}{M:List aq}{S:Mk.St}
theorem fg.ne(h:fg w F mb mg q r M S):mb≠mg:=h.2.2.1.Sd h.2.1
theorem fg.on(h:fg w F mb mg q r M S)(k:Kp G w w')(hF:∀i,F i->¬G i)(h1:¬G mb)(h2:¬G mg):fg w' F mb mg q r M S:=⟨h.1.on k hF,k.has h.2.1 h1,h.2.2.1.on (k.block mg h.2.2.1.lt h2),h.2.2.2⟩
theorem fg.below(h:fg w F mb mg q r M S)(hb:Bl w w'):fg w' F mb mg q r M S:=h.on (G:=fun _=>False) (Kp.of hb) (fun _ _ hf=>hf) (fun hf=>hf) (fun hf=>hf)
theorem fg.wrote{S':Mk.St}(h:fg w F mb mg q r M S)(k:Kp (fun i=>i=mg) w w')(hM:bo w' mg S'):fg w' F mb mg q r M S':=⟨h.1.on k (fun _ hi e=>h.2.2.2.2 (e▸hi)),k.has h.2.1 h.ne,hM,h.2.2.2⟩
theorem fg.c0(h:fg w F mb mg q r M S):w.cell? ⟨mb,0,none⟩=some (.pointer q):=Has.cell h.2.1 0
theorem fg.c1(h:fg w F mb mg q r M S):w.cell? ⟨mb,1,none⟩=some (.map (some mg)):=Has.cell h.2.1 1
theorem fg.UU(h:fg w F mb mg q r M S):gO w (af mb) q:=fun w' hb=>u_ mb q w' (h.below hb).c0
theorem fg.Vf(h:fg w F mb mg q r M S)(x:Int):ak 95 #[af mb,i_ x] w (.bool (decide (cp M x))):=by obtain⟨E,h1,h2,h3⟩:=h.1.at x;exact pY _ q x E h1 _ w (h_ h.UU) (h_ h3)
theorem fg.Wn(h:fg w F mb mg q r M S)(x:Int):ak 130 #[af mb,i_ x] w (i_ (pA M x)):=by obtain⟨E,h1,h2,h3⟩:=h.1.at x;exact Er _ q x E h1 _ (h_ h2) _ w (h_ h.UU) (h_ h3)
theorem fg.X6(h:fg w F mb mg q r M S)(hl:M.length<=1000)(x:Int):ak 94 #[af mb,i_ x] w (.tuple #[i_ ((sd M S x).1:Int),.bool (sd M S x).2]):=by
 by_cases hp:cp M x
 ·obtain⟨n,rfl⟩:=Int.eq_ofNat_of_zero_le hp.1;have hn:n<1000:=by have:=hp.2;omega
  rw[Mk.Cz hp,Int.toNat_natCast];refine ED mb mg _ _ _ w (h_ fun w' hb=>?_) (h_ fun w' hb=>⟨(h.below hb).c1,(h.below hb).2.2.1.look hn w' rfl⟩);have:=(h.below hb).Vf (n:Int);rwa[decide_eq_true hp]at this
 rw[Mk.sy hp];refine JB _ x w (h_ fun w' hb=>?_);have:=(h.below hb).Vf x;rwa[decide_eq_false hp]at this
theorem fg.rd(h:fg w F mb mg q r M S)(hM:M=[]\/Ok r M)(hl:M.length<=1000):jl w (aT mb) q r M S:=⟨h.UU,fun _ z hb=>(h.below hb).Vf z,fun _ z hb=>(h.below hb).Wn z,fun _ z hb=>(h.below hb).X6 hl z,fun _ hb=>(h.below hb).1.len,fun _ x y v hb hv=>(h.below hb).1.Sa x y v hv,hM,hl⟩
end
theorem jl.nil(w:World)(r:Ru)(S:Mk.St):jl w none none r [] S:=by
 have hQ:∀w,oB w (fun _=>False) none r []:=fun w=>.inr ⟨rfl,rfl⟩
 have hd:∀z,decide (cp ([]:List aq) z)=false:=fun z=>decide_eq_false (kn z)
 have hh:∀w' z,ak 95 #[.pointer none,i_ z] w' (.bool false):=fun w' z=>pY _ none z lg ee false w' (h_ (gO.nil w')) (h_ fun w2 _=>s_ z w2)
 refine⟨gO.nil w,fun w' z _=>?_,fun w' z _=>?_,fun w' z _=>?_,fun w' _=>ME w',fun w' x y v _ hv=>(hQ w').Sa x y v hv,.inl rfl,by simp⟩;rw[hd];exact hh w' z;exact Er _ none z lg ee _ (h_ (uu (kn z)).symm) false w' (h_ (gO.nil w')) (h_ fun w2 _=>s_ z w2);rw[Mk.sy (kn z)];exact JB _ z w' (h_ fun w2 _=>hh w2 z)
open Ar (cB)
theorem P4(mb:Nat)(x:Int)(right:Bool)(z:Int)(hz:(z != 0)=true)(w:World)(KR:aQ w 86 #[af mb,i_ x] (i_ z)):ak 49 #[af mb,i_ x,.bool right] w (i_ z):=by
 have hB:=Below.refl w.heap.size w;go_enter Tryz.func49,Tryz.ntmps49;go_wp2_with fail
 refine au (KR.out _ hB) fun v1 hb=>?_;replace hB:=ah hB hb;clear hb;go_wp2_with fail
 go_ret;exact⟨rfl,hB⟩
theorem Oc(mb:Nat)(x:Int)(z:Int)(hz:(z != 0)=true)(w:World)(KR:aQ w 86 #[af mb,i_ x] (i_ z)):ak 50 #[af mb,i_ x] w (i_ z):=by
 have hB:=Below.refl w.heap.size w;go_enter Tryz.func50,Tryz.ntmps50;go_wp2_with fail
 refine au (KR.out _ hB) fun v1 hb=>?_;replace hB:=ah hB hb;clear hb;go_wp2_with fail
 go_ret;exact⟨rfl,hB⟩
theorem Oy(mb:Nat)(x:Int)(z:Int)(hz:(z != 0)=true)(w:World)(KR:aQ w 86 #[af mb,i_ x] (i_ z)):ak 51 #[af mb,i_ x] w (i_ z):=by
 have hB:=Below.refl w.heap.size w;go_enter Tryz.func51,Tryz.ntmps51;go_wp2_with fail
 refine au (KR.out _ hB) fun v1 hb=>?_;replace hB:=ah hB hb;clear hb;go_wp2_with fail
 go_ret;exact⟨rfl,hB⟩
theorem OH(mb mg k:Nat)(q:Option Addr)(S:Mk.St)(hk:k<1000)(s:Nat)(o:Bool)(HS:Hid (S.said k=s/\S.out k=o))(w:World)(hm:Has w mb (pz q mg) 124)(hM:bo w mg S)(KR:aQ w 86 #[af mb,i_ k] (i_ 0)):aG 50 #[af mb,i_ k] w fun e w'=>e=.returned (i_ 0)/\bo w' mg (dY S k s true)/\Kp (fun i=>i=mg) w w':=by
 have hB:=Below.refl w.heap.size w;go_enter Tryz.func50,Tryz.ntmps50;go_wp2_with fail
 refine au (KR.out _ hB) fun v1 hb=>?_;replace hB:=ah hB hb;clear hb KR;have hm1:Has v1 mb (pz q mg) 124:=cg hB hm hm.lt;have hM1:bo v1 mg S:=hM.on (hB.block mg hM.lt)
 have hlk:(Instr.lookup 122 (.map (some mg)) (i_ k) false).run Tryz.prog v1=.ok (.agg #[i_ s,.bool o]) v1:=by
  have:=hM1.look hk v1 rfl;rw[HS.out.1,HS.out.2]at this;exact this
 have c1:v1.cell? ⟨mb,1,none⟩=some (.map (some mg)):=Has.cell hm1 1;go_upto_region 5 with fail
 generalize hw2:World.alloc _ _=v2;have hN:Has v2 v1.heap.size (dJ s o) 121:=by rw[<-hw2];exact Has.new _ _
 have hb2:Bl v1 v2:=dd hw2;obtain⟨bn,e⟩:∃bn,bn=v1.heap.size:=⟨_,rfl⟩;rw[<-e]at hN|-;have VF:Hid (w.heap.size<=bn):=h_ (by have:=hB.size;omega);replace hB:=ah hB hb2;have HM:=h_ hM;have HH:=h_ hm;clear hw2 hlk c1 e hm1 hM1 hb2 hM hm;have d0:v2.cell? ⟨bn,1,none⟩=some (.bool o):=Has.cell hN 1;have f0:=hN.free 1;have Ug:Has (v2.setCell ⟨bn,1,none⟩ (.bool true)) bn (dJ s true) 121:=Has.set (i:=1) hN _;have hb3:=hB.setCell (p:=⟨bn,1,none⟩) VF.out (.bool true)
 have fin:∀v4:World,Bl w v4->aG 87 #[af mb,i_ k,.agg #[i_ s,.bool true]] v4 fun e w'=>e=.returned (.tuple #[])/\bo w' mg (dY S k s true)/\Kp (fun i=>i=mg) w w':=fun v4 hb=>by
  refine(oH mb mg k s true q S hk v4 (cg hb HH.out HH.out.lt) (HM.out.on (hb.block mg HM.out.lt))).mono ?_;rintro e w' ⟨rfl,h1,h2⟩;exact⟨rfl,h1,(Kp.of hb).trans h2 fun i hi _=>hi⟩
 have FIN:=h_ fin;clear fin;have SY:=FIN.out _ hb3;clear hN hb3;go_wp2_with (first|(with_reducible refine ld rfl _ rfl _ rfl _ _ Ug ?_))
 refine SY.mono ?_;rintro e w' ⟨rfl,h5,h6⟩;have H5:=h_ h5;have H6:=h_ h6;clear h5 h6;go_wp2_with fail
 go_ret;exact⟨rfl,H5.out,H6.out⟩
theorem Jk(mb mg k:Nat)(q:Option Addr)(S:Mk.St)(right:Bool)(y:Nat)(hy:(if right then 1 else 2)=y)(hk:k<1000)(s:Nat)(o:Bool)(HS:Hid (S.said k=s/\S.out k=o))(w:World)(hm:Has w mb (pz q mg) 124)(hM:bo w mg S)(KR:aQ w 86 #[af mb,i_ k] (i_ 0))(g1 g2:Bool)(h1:((s:Int) != 0)=g1)(h2:((s:Int) != (y:Int))=g2):aG 49 #[af mb,i_ k,.bool right] w fun e w'=>e=.returned (i_ (if g1&&g2 then 1 else 0))/\(if g1&&g2 then bo w' mg S else bo w' mg (dY S k y o))/\Kp (fun i=>i=mg) w w':=by
 have hy2:(right=true/\y=1)\/(right=false/\y=2):=by
  cases right;exact .inr ⟨rfl,by rw[<-hy];rfl⟩;exact .inl ⟨rfl,by rw[<-hy];rfl⟩
 clear hy;obtain⟨rfl,rfl⟩|⟨rfl,rfl⟩:=hy2
 ·have hB:=Below.refl w.heap.size w;go_enter Tryz.func49,Tryz.ntmps49;go_wp2_with fail
  refine au (KR.out _ hB) fun v1 hb=>?_;replace hB:=ah hB hb;clear hb KR;have hm1:Has v1 mb (pz q mg) 124:=cg hB hm hm.lt;have hM1:bo v1 mg S:=hM.on (hB.block mg hM.lt)
  have hlk:(Instr.lookup 122 (.map (some mg)) (i_ k) false).run Tryz.prog v1=.ok (.agg #[i_ s,.bool o]) v1:=by
   have:=hM1.look hk v1 rfl;rw[HS.out.1,HS.out.2]at this;exact this
  have c1:v1.cell? ⟨mb,1,none⟩=some (.map (some mg)):=Has.cell hm1 1;go_upto_region 8 with fail
  generalize hw2:World.alloc _ _=v2;have hN:Has v2 v1.heap.size (dJ s o) 121:=by rw[<-hw2];exact Has.new _ _
  have hb2:Bl v1 v2:=dd hw2;obtain⟨bn,e⟩:∃bn,bn=v1.heap.size:=⟨_,rfl⟩;rw[<-e]at hN|-;have VF:Hid (w.heap.size<=bn):=h_ (by have:=hB.size;omega);replace hB:=ah hB hb2;have HM:=h_ hM;have HH:=h_ hm;clear hw2 hlk c1 e hm1 hM1 hb2 hM hm;have d0:v2.cell? ⟨bn,0,none⟩=some (i_ s):=Has.cell hN 0;have f0:=hN.free 0;have Ug:Has (v2.setCell ⟨bn,0,none⟩ (i_ 1)) bn (dJ 1 o) 121:=Has.set (i:=0) hN _;have hb3:=hB.setCell (p:=⟨bn,0,none⟩) VF.out (i_ 1)
  have fin:∀v4:World,Bl w v4->aG 87 #[af mb,i_ k,.agg #[i_ (1:Int),.bool o]] v4 fun e w'=>e=.returned (.tuple #[])/\bo w' mg (dY S k 1 o)/\Kp (fun i=>i=mg) w w':=fun v4 hb=>by
   refine(oH mb mg k 1 o q S hk v4 (cg hb HH.out HH.out.lt) (HM.out.on (hb.block mg HM.out.lt))).mono ?_;rintro e w' ⟨rfl,h1,h2⟩;exact⟨rfl,h1,(Kp.of hb).trans h2 fun i hi _=>hi⟩
  have FIN:=h_ fin;clear fin;have SY:=FIN.out _ hb3;have HNO:Hid (bo v2 mg S):=h_ (HM.out.on (hB.block mg HM.out.lt));clear hN hb3 FIN;cases g1
  ·go_wp2_with (first|(with_reducible refine ld rfl _ rfl _ rfl _ _ Ug ?_))
   refine SY.mono ?_;rintro e w' ⟨rfl,h5,h6⟩;have H5:=h_ h5;have H6:=h_ h6;clear h5 h6;go_wp2_with fail
   go_ret;exact⟨rfl,H5.out,H6.out⟩
  ·cases g2
   ·(go_wp2_with (first|(with_reducible refine ld rfl _ rfl _ rfl _ _ Ug ?_)));refine SY.mono ?_;rintro e w' ⟨rfl,h5,h6⟩;have H5:=h_ h5;have H6:=h_ h6;clear h5 h6;(go_wp2_with fail);go_ret;exact⟨rfl,H5.out,H6.out⟩
   ·(go_wp2_with fail);go_ret;exact⟨rfl,HNO.out,Kp.of hB⟩
 ·have hB:=Below.refl w.heap.size w;go_enter Tryz.func49,Tryz.ntmps49;go_wp2_with fail
  refine au (KR.out _ hB) fun v1 hb=>?_;replace hB:=ah hB hb;clear hb KR;have hm1:Has v1 mb (pz q mg) 124:=cg hB hm hm.lt;have hM1:bo v1 mg S:=hM.on (hB.block mg hM.lt)
  have hlk:(Instr.lookup 122 (.map (some mg)) (i_ k) false).run Tryz.prog v1=.ok (.agg #[i_ s,.bool o]) v1:=by
   have:=hM1.look hk v1 rfl;rw[HS.out.1,HS.out.2]at this;exact this
  have c1:v1.cell? ⟨mb,1,none⟩=some (.map (some mg)):=Has.cell hm1 1;go_upto_region 8 with fail
  generalize hw2:World.alloc _ _=v2;have hN:Has v2 v1.heap.size (dJ s o) 121:=by rw[<-hw2];exact Has.new _ _
  have hb2:Bl v1 v2:=dd hw2;obtain⟨bn,e⟩:∃bn,bn=v1.heap.size:=⟨_,rfl⟩;rw[<-e]at hN|-;have VF:Hid (w.heap.size<=bn):=h_ (by have:=hB.size;omega);replace hB:=ah hB hb2;have HM:=h_ hM;have HH:=h_ hm;clear hw2 hlk c1 e hm1 hM1 hb2 hM hm;have d0:v2.cell? ⟨bn,0,none⟩=some (i_ s):=Has.cell hN 0;have f0:=hN.free 0;have Ug:Has (v2.setCell ⟨bn,0,none⟩ (i_ 2)) bn (dJ 2 o) 121:=Has.set (i:=0) hN _;have hb3:=hB.setCell (p:=⟨bn,0,none⟩) VF.out (i_ 2)
  have fin:∀v4:World,Bl w v4->aG 87 #[af mb,i_ k,.agg #[i_ (2:Int),.bool o]] v4 fun e w'=>e=.returned (.tuple #[])/\bo w' mg (dY S k 2 o)/\Kp (fun i=>i=mg) w w':=fun v4 hb=>by
   refine(oH mb mg k 2 o q S hk v4 (cg hb HH.out HH.out.lt) (HM.out.on (hb.block mg HM.out.lt))).mono ?_;rintro e w' ⟨rfl,h1,h2⟩;exact⟨rfl,h1,(Kp.of hb).trans h2 fun i hi _=>hi⟩
  have FIN:=h_ fin;clear fin;have SY:=FIN.out _ hb3;have HNO:Hid (bo v2 mg S):=h_ (HM.out.on (hB.block mg HM.out.lt));clear hN hb3 FIN;cases g1
  ·go_wp2_with (first|(with_reducible refine ld rfl _ rfl _ rfl _ _ Ug ?_))
   refine SY.mono ?_;rintro e w' ⟨rfl,h5,h6⟩;have H5:=h_ h5;have H6:=h_ h6;clear h5 h6;go_wp2_with fail
   go_ret;exact⟨rfl,H5.out,H6.out⟩
  ·cases g2
   ·(go_wp2_with (first|(with_reducible refine ld rfl _ rfl _ rfl _ _ Ug ?_)));refine SY.mono ?_;rintro e w' ⟨rfl,h5,h6⟩;have H5:=h_ h5;have H6:=h_ h6;clear h5 h6;(go_wp2_with fail);go_ret;exact⟨rfl,H5.out,H6.out⟩
   ·(go_wp2_with fail);go_ret;exact⟨rfl,HNO.out,Kp.of hB⟩
noncomputable def pN(M:List aq)(x:Int)(i:Nat):Bool:=pb (cB M (i:Int) x)||pb (cB M x (i:Int))
noncomputable def bG(M:List aq)(S:Mk.St)(x:Int)(k:Nat):Mk.St:=⟨fun i=>if(decide (i<k)&&pN M x i&&(S.said i==2))=true then 0 else S.said i,fun i=>if(decide (i<k)&&pN M x i)=true then false else S.out i⟩
section
variable{M:List aq}{S:Mk.St}{x:Int}{k:Nat}
theorem gj{S T:Mk.St}(h1:∀i,S.said i=T.said i)(h2:∀i,S.out i=T.out i):S=T:=by cases S;cases T;congr 1;exact funext h1;exact funext h2
theorem IH:bG M S x 0=S:=gj (fun i=>by unfold bG;simp) fun i=>by unfold bG;simp
theorem BI{i:Nat}(e:i≠k):decide (i<k+1)=decide (i<k):=decide_eq_decide.2 (by omega)
theorem Gq(h:pN M x k=false):bG M S x (k+1)=bG M S x k:=by
 refine gj (fun i=>?_) fun i=>?_
 all_goals
  unfold bG;dsimp only;by_cases e:i=k;subst e;rw[h];simp;rw[BI e]
theorem ug:(bG M S x k).said k=S.said k:=by unfold bG;simp
theorem xX{α:Type}{p q:Prop}[Decidable p][Decidable q](h:p↔q)(a b:α):(if p then a else b)=if q then a else b:=by by_cases hp:p;rw[if_pos hp,if_pos (h.1 hp)];rw[if_neg hp,if_neg fun hq=>hp (h.2 hq)]
theorem F9(h:pN M x k=true)(t:Nat)(ht:(if(bG M S x k).said k=2 then 0 else(bG M S x k).said k)=t):dY (bG M S x k) k t false=bG M S x (k+1):=by
 rw[ug]at ht;refine gj (fun i=>?_) fun i=>?_
 show Mk.bY (bG M S x k).said k t i=_;by_cases e:i=k;subst e;rw[Mk.mM,<-ht];unfold bG;dsimp only;rw[h];by_cases h2:S.said i=2;simp[h2];simp[h2];rw[Mk.j0 _ _ e];unfold bG;dsimp only;rw[BI e];show Mk.bY (bG M S x k).out k false i=_;by_cases e:i=k;subst e;rw[Mk.mM];unfold bG;dsimp only;rw[h];simp;rw[Mk.j0 _ _ e];unfold bG;dsimp only;rw[BI e]
open Classical in
theorem Mo{r:Ru}(hM:Ok r M)(hc:dP M.length x=0):bc M S x=(0,bG M S x M.length):=by
 obtain⟨_,h2,h3⟩:=Mk.pg hc;unfold bc;rw[if_neg (fun hh=>hh hc)]
 have e:∀i:Nat,(decide (i<M.length)&&pN M x i)=true↔Mk.On M x i:=fun i=>by
  unfold pN Mk.On;rw[Bool.and_eq_true,Bool.or_eq_true,Mk.kv,Mk.kv,decide_eq_true_iff];exact⟨fun h=>h.2,fun h=>⟨h.elim (fun h=>by have:=(h.le hM).2.1;omega) (fun h=>Mk.mJ.1 (Mk.zj h)),h⟩⟩
 refine Prod.ext rfl (gj (fun i=>?_) fun i=>?_);show(if _ then _ else _)=(if _ then _ else _);refine xX ?_ _ _;rw[Bool.and_eq_true,e,beq_iff_eq];show(if _ then _ else _)=(if _ then _ else _);exact xX (e i).symm _ _
end
theorem Rt(mb mg k n:Nat)(q:Option Addr)(M:List aq)(S:Mk.St)(hn:n<=1000)(w:World)(hm:Has w mb (pz q mg) 124)(hM:bo w mg S)(KR:aQ w 86 #[af mb,i_ k] (i_ 0))(KL:aQ w 57 #[.pointer q] (i_ n))(KW:Hid (∀w' (a b:Int),Kp (fun i=>i=mg) w w'->ak 35 #[.pointer q,i_ a,i_ b] w' (.bool (pb (cB M a b))))):aG 51 #[af mb,i_ k] w fun e w'=>e=.returned (i_ 0)/\bo w' mg (bG M S (k:Int) n)/\Kp (fun i=>i=mg) w w':=by
 have hB:=Below.refl w.heap.size w;have U1:Hid (∀w',Kp (fun i=>i=mg) w w'->Has w' mb (pz q mg) 124):=h_ fun w' h=>h.has hm (hM.Sd hm)
 have HM0:Hid (∀w',Bl w w'->bo w' mg S):=h_ fun w' h=>hM.on (h.block mg hM.lt)
 clear hm hM;go_enter Tryz.func51,Tryz.ntmps51;go_wp2_with fail
 refine au (KR.out _ hB) fun v1 hb=>?_;replace hB:=ah hB hb;clear hb KR;have c0:v1.cell? ⟨mb,0,none⟩=some (.pointer q):=Has.cell (U1.out _ (Kp.of hB)) 0;go_wp2_with fail
 refine au (KL.out _ hB) fun v2 hb=>?_;replace hB:=ah hB hb;clear hb KL c0;go_wp2_with fail
 have h0:bo v2 mg (bG M S (k:Int) 0):=by rw[IH];exact HM0.out _ hB
 have X7:Kp (fun i=>i=mg) w v2:=Kp.of hB;clear hB HM0;go_loopw [18] (fun s18 wr=>∃i:Nat,i<=n/\s18=i_ i/\bo wr mg (bG M S (k:Int) i)/\Kp (fun i=>i=mg) w wr) (fun s18 _=>n-(intOf s18).toNat)
 case atStart=>exact⟨0,Nat.zero_le _,rfl,h0,X7⟩
 case round=>
  clear h0 X7;obtain⟨i,hi,rfl,hX,hK⟩:=hrel;by_cases hlt:i<n
  ·have hm:=U1.out _ hK;have c0:wr.cell? ⟨mb,0,none⟩=some (.pointer q):=Has.cell hm 0;have VH:=KW.out _ (i:Int) (k:Int) hK;have hKb:∀w',Bl wr w'->Kp (fun i=>i=mg) w w':=fun w' h=>hK.trans (Kp.of (F:=fun _=>False) h) fun _ hf _=>hf.elim
   have KF:∀w',Bl wr w'->∀t,(if(bG M S (k:Int) i).said i=2 then 0 else(bG M S (k:Int) i).said i)=t->aG 88 #[af mb,i_ i] w' fun e w''=>e=.returned (.tuple #[])/\bo w'' mg (dY (bG M S (k:Int) i) i t false)/\Kp (fun i=>i=mg) w w'':=fun w' hb t ht=>by
    refine(FN mb mg i q (bG M S (k:Int) i) (by omega) t ht w' (cg hb hm hm.lt) (hX.on (hb.block mg hX.lt))).mono ?_;rintro e w'' ⟨rfl,h1,h2⟩;exact⟨rfl,h1,(hKb w' hb).trans h2 fun i hi _=>hi⟩
   have KF:=h_ KF;have HKb:=h_ hKb;have HX:=h_ hX;have hrt:∀h:pN M (k:Int) i=true,∀t,(if(bG M S (k:Int) i).said i=2 then 0 else(bG M S (k:Int) i).said i)=t->dY (bG M S (k:Int) i) i t false=bG M S (k:Int) (i+1):=fun h t ht=>F9 h t ht
   have YG:=h_ hrt;have HRN:Hid (pN M (k:Int) i=false->bG M S (k:Int) (i+1)=bG M S (k:Int) i):=h_ fun h=>Gq h
   have hon:pN M (k:Int) i=(pb (cB M (i:Int) (k:Int))||pb (cB M (k:Int) (i:Int))):=rfl;have hw:=Below.refl wr.heap.size wr;have Vg:=h_ fun w' (hb:Bl wr w')=>KW.out w' (k:Int) (i:Int) (hKb w' hb)
   clear hX hKb hm hrt;generalize pb (cB M (i:Int) (k:Int))=a1 at*;generalize pb (cB M (k:Int) (i:Int))=a2 at*;have Wo:=h_ hon;clear hon;go_wp2_with fail
   refine VH.mono ?_;rintro e v3 ⟨rfl,hb⟩;have hB:=ah hw hb;clear hb VH hw c0;cases a1
   ·have c0:v3.cell? ⟨mb,0,none⟩=some (.pointer q):=Has.cell (U1.out _ (HKb.out _ hB)) 0;(go_wp2_with fail);refine au (Vg.out _ hB) fun v4 hb=>?_;replace hB:=ah hB hb;clear hb Vg c0;cases a2
    ·have hN:bo v4 mg (bG M S (k:Int) (i+1)):=by
      rw[HRN.out (Wo.out.trans rfl)];exact HX.out.on (hB.block mg HX.out.lt)
     have hK4:=HKb.out _ hB;(go_wp2_with fail);go_roundw
     case rel=>exact⟨i+1,by omega,by go_num,hN,hK4⟩
     case measure=>simp[intOf];omega
    ·have hq:=YG.out (Wo.out.trans rfl) _ rfl;have X8:=KF.out _ hB _ rfl;rw[hq]at X8;clear hq YG KF;(go_wp2_with fail);refine X8.mono ?_;rintro e v5 ⟨rfl,h5,h6⟩;(go_wp2_with fail);go_roundw
     case rel=>exact⟨i+1,by omega,by go_num,h5,h6⟩
     case measure=>simp[intOf];omega
   ·have hq:=YG.out (Wo.out.trans rfl) _ rfl;have X8:=KF.out _ hB _ rfl;rw[hq]at X8;clear hq YG KF Vg;(go_wp2_with fail);refine X8.mono ?_;rintro e v5 ⟨rfl,h5,h6⟩;(go_wp2_with fail);go_roundw
    case rel=>exact⟨i+1,by omega,by go_num,h5,h6⟩
    case measure=>simp[intOf];omega
  ·obtain rfl:i=n:=by omega
   have HX:=h_ hX;have HK:=h_ hK;clear hX hK;go_wp2_with fail
   go_ret;exact⟨rfl,HX.out,HK.out⟩
theorem BN(q:Option Addr)(w:World):aG 71 #[.pointer q] w fun e w'=>∃mb mg,e=.returned (af mb)/\w.heap.size<=mg/\w.heap.size<=mb/\Has w' mb (pz q mg) 124/\bo w' mg Mk.j5/\Bl w w':=by
 obtain⟨w2,hr,h1,h2⟩:=(bo.made w).put (k:=0) (by decide) 1 false;have hr2:(Instr.mapUpdate 122 (.map (some w.heap.size)) (i_ 0) (.agg #[i_ 1,.bool false])).run Tryz.prog (w.alloc (.map #[] 0))=.ok () w2:=hr;have hmk:∀w,(Instr.makeMap 122 none).run Tryz.prog w=.ok (.map (some w.heap.size)) (w.alloc (.map #[] 0)):=fun w=>by kernel_rfl
 have hN:bo w2 w.heap.size Mk.j5:=h1.same fun k _=>by
  unfold Mk.j5 dY Mk.bY;dsimp only;refine⟨?_,?_⟩
  ·by_cases e:k=0;rw[if_pos e];rw[if_neg e]
  ·by_cases e:k=0;rw[if_pos e];rw[if_neg e]
 have hB:Bl w w2:=((Below.refl _ w).alloc (Nat.le_refl _) _).grown h2 (by simp) (fun k hk=>by cases hk;exact Nat.le_refl _);have hl:=hN.lt;have HN:=h_ hN;have HB:=h_ hB;clear h1 h2 hr hN hB;go_enter Tryz.func71,Tryz.ntmps71;go_wp2_with fail
 go_ret;exact⟨w2.heap.size,w.heap.size,rfl,Nat.le_refl _,by omega,Has.new _ _,HN.out.on (Below.heap_alloc w2 _ _ hl),HB.out.alloc HB.out.size _⟩
section
variable{w:World}{F:Nat->Prop}{mb mg:Nat}{q:Option Addr}{r:Ru}{M:List aq}{S:Mk.St}
theorem fg.refusal(h:fg w F mb mg q r M S)(x:Int):ak 86 #[af mb,i_ x] w (i_ (dP M.length x)):=by
 have e:dP M.length x=if decide (cp M x)then(if(x==0)then 1 else 0)else 5:=by
  by_cases h1:cp M x;rw[decide_eq_true h1,if_pos rfl];unfold dP;rw[if_pos (show 0<=x/\x<(M.length:Int)from h1)];by_cases h2:x=0;rw[if_pos h2,h2];rfl;rw[if_neg h2,if_neg (by simpa using h2)];rw[decide_eq_false h1];unfold dP;rw[if_neg (show¬(0<=x/\x<(M.length:Int))from h1)];rfl
 rw[e];exact GY mb x _ _ rfl w (h_ fun w' hb=>(h.below hb).Vf x)
variable{n:Nat}{x:Int}
theorem nD(h:¬dP n x=0):(dP n x != 0)=true:=by simpa using h
theorem CZ(h:dP n x=0):∃k:Nat,x=(k:Int)/\k<n:=by obtain⟨_,h2,h3⟩:=Mk.pg h;exact⟨x.toNat,h3,h2⟩
theorem fg.verdict(h:fg w F mb mg q r M S)(hl:M.length<=1000)(x:Int)(right:Bool):aG 49 #[af mb,i_ x,.bool right] w fun e w'=>e=.returned (i_ (verdict M.length S x right).1)/\fg w' F mb mg q r M (verdict M.length S x right).2/\Kp (fun i=>i=mg) w w':=by
 unfold Mk.verdict;by_cases hc:dP M.length x=0
 ·rw[if_neg (fun hh=>hh hc)];obtain⟨k,rfl,hk⟩:=CZ hc;rw[Int.toNat_natCast]
  refine(Jk mb mg k q S right (word right) rfl (by omega) (S.said k) (S.out k) (h_ ⟨rfl,rfl⟩) w h.2.1 h.2.2.1 (h_ fun w' hb=>by
   have:=(h.below hb).refusal (k:Int);rwa[hc]at this) _ _ rfl rfl).mono ?_
  rintro e w' ⟨rfl,h1,h2⟩
  have eg:(((S.said k:Int) != 0)&&((S.said k:Int) != (word right:Int)))=decide (0<S.said k/\¬S.said k=word right):=by
   rw[Bool.eq_iff_iff,Bool.and_eq_true,decide_eq_true_iff,bne_iff_ne,bne_iff_ne];constructor;rintro⟨a,b⟩;exact⟨by omega,fun e=>b (by rw[e])⟩;rintro⟨a,b⟩;exact⟨by omega,fun e=>b (by omega)⟩
  rw[eg]at h1|-;by_cases hd:0<S.said k/\¬S.said k=word right;rw[if_pos hd];rw[decide_eq_true hd]at h1|-;exact⟨rfl,h.wrote h2 h1,h2⟩
  ·rw[if_neg hd];rw[decide_eq_false hd]at h1|-
   have e:dY S k (word right) (S.out k)=⟨Mk.bY S.said k (word right),S.out⟩:=gj (fun _=>rfl) fun i=>by
    show Mk.bY S.out k (S.out k) i=S.out i;unfold Mk.bY;split
    ·rename_i e;rw[e]
    rfl
   rw[<-e];exact⟨rfl,h.wrote h2 h1,h2⟩
 rw[if_pos hc];refine au (P4 mb x right _ (nD hc) w (h_ fun w' hb=>(h.below hb).refusal x)) fun w' hb=>?_;exact⟨rfl,h.below hb,Kp.of hb⟩
theorem fg.a_(h:fg w F mb mg q r M S)(hl:M.length<=1000)(x:Int):aG 50 #[af mb,i_ x] w fun e w'=>e=.returned (i_ (a_ M.length S x).1)/\fg w' F mb mg q r M (a_ M.length S x).2/\Kp (fun i=>i=mg) w w':=by
 unfold Mk.a_;by_cases hc:dP M.length x=0
 ·rw[if_neg (fun hh=>hh hc)];obtain⟨k,rfl,hk⟩:=CZ hc;rw[Int.toNat_natCast]
  refine(OH mb mg k q S (by omega) (S.said k) (S.out k) (h_ ⟨rfl,rfl⟩) w h.2.1 h.2.2.1 (h_ fun w' hb=>by
   have:=(h.below hb).refusal (k:Int);rwa[hc]at this)).mono ?_
  rintro e w' ⟨rfl,h1,h2⟩
  have e:dY S k (S.said k) true=⟨S.said,Mk.bY S.out k true⟩:=gj (fun i=>by
   show Mk.bY S.said k (S.said k) i=S.said i;unfold Mk.bY;split
   ·rename_i e;rw[e]
   rfl) fun _=>rfl
  rw[<-e];exact⟨rfl,h.wrote h2 h1,h2⟩
 rw[if_pos hc];refine au (Oc mb x _ (nD hc) w (h_ fun w' hb=>(h.below hb).refusal x)) fun w' hb=>?_;exact⟨rfl,h.below hb,Kp.of hb⟩
theorem fg.bc(h:fg w F mb mg q r M S)(hM:Ok r M)(hl:M.length<=900)(x:Int):aG 51 #[af mb,i_ x] w fun e w'=>e=.returned (i_ (bc M S x).1)/\fg w' F mb mg q r M (bc M S x).2/\Kp (fun i=>i=mg) w w':=by
 by_cases hc:dP M.length x=0
 ·rw[Mo hM hc];obtain⟨k,rfl,hk⟩:=CZ hc;obtain⟨bt,ls,rfl,hT,hls⟩|⟨_,rfl⟩:=h.1
  ·refine(Rt mb mg k M.length _ M S (by omega) w h.2.1 h.2.2.1 (h_ fun w' hb=>by
    have:=(h.below hb).refusal (k:Int);rwa[hc]at this) (h_ fun w' hb=>(h.below hb).1.len) (h_ fun w' a b hK=>D2 (hT.on hK fun i hi e=>h.2.2.2.2 (e▸hi)) hM hl hls a b _ Mk.kv)).mono ?_
   rintro e w' ⟨rfl,h1,h2⟩;exact⟨rfl,h.wrote h2 h1,h2⟩
  simp at hk
 ·have e:Mk.bc M S x=(dP M.length x,S):=by unfold Mk.bc;rw[if_pos hc]
  rw[e];refine au (Oy mb x _ (nD hc) w (h_ fun w' hb=>(h.below hb).refusal x)) fun w' hb=>?_;exact⟨rfl,h.below hb,Kp.of hb⟩
end
end An
namespace An
open Mem Sc
open Ar (aq Ru aB Ok cp Row cB)
open Mk (cF gk aM pb verdict a_ bc dP word bF)
theorem u'(rb bm n c:Nat)(a:Option Addr)(TW:n<=1000)(H:Nat->Nat->Bool)(Pk:Nat->Bool)(w:World)(hv:w.cell? ⟨bm,83,none⟩=some (.slice a n c))(KV:Hid (∀w' (i:Nat),i<n->Bl w w'->ak 30 #[af rb,af bm,i_ i] w' (.bool (Pk i))))(KH:Hid (∀w' (i j:Nat),i<n->j<n->Bl w w'->ak 62 #[af bm,i_ i,i_ j] w' (.bool (H i j)))):ak 46 #[af rb,af bm] w (i_ (Mk.top H Pk n:Int)):=by
 have hB:=Below.refl w.heap.size w;go_enter Tryz.func46,Tryz.ntmps46;go_wp2_with fail
 go_loopw [5,12] (fun s5 s12 wr=>∃(i b:Nat),i<=n/\s5=i_ b/\s12=i_ i/\Hid (b=Mk.top H Pk i)/\Bl w wr) (fun _ s12 _=>n-(intOf s12).toNat)
 case atStart=>exact⟨0,0,Nat.zero_le _,rfl,rfl,h_ rfl,hB⟩
 case round=>
  clear hB hv;obtain⟨i,b,hi,rfl,rfl,HX,hB⟩:=hrel;by_cases hlt:i<n
  ·have hbn:b<n:=by
    rw[HX.out];rcases Nat.eq_zero_or_pos i with e|e
    rw[e];show 0<n;omega;have:=Mk.jU (H:=H) (P:=Pk) i e;omega
   have KV1:=KV.out wr i hlt hB;have Uh:=h_ fun w' (hb:Bl w w')=>KH.out w' i b hlt hbn hb
   have hto:Mk.top H Pk (i+1)=if Pk i=true/\H i b=true then i else b:=by rw[HX.out];rfl
   have HTO:=h_ hto;clear hbn hto;generalize Pk i=pk at*;generalize H i b=hv at*;go_wp2_with fail
   refine KV1.mono ?_;rintro e v1 ⟨rfl,hb⟩;replace hB:=ah hB hb;clear hb KV1;cases pk
   ·have HT2:Hid (b=Mk.top H Pk (i+1)):=h_ (by rw[HTO.out,if_neg (by simp)]);clear Uh;(go_wp2_with fail);go_roundw
    case rel=>exact⟨i+1,b,by omega,(by first|trivial|rfl),by go_num,HT2,hB⟩
    case measure=>simp[intOf];omega
   ·(go_wp2_with fail);refine au (Uh.out _ hB) fun v2 hb=>?_;replace hB:=ah hB hb;clear hb Uh;cases hv
    ·have HT2:Hid (b=Mk.top H Pk (i+1)):=h_ (by rw[HTO.out,if_neg (by simp)]);(go_wp2_with fail);go_roundw
     case rel=>exact⟨i+1,b,by omega,(by first|trivial|rfl),by go_num,HT2,hB⟩
     case measure=>simp[intOf];omega
    ·have HT2:Hid (i=Mk.top H Pk (i+1)):=h_ (by rw[HTO.out,if_pos (by simp)]);(go_wp2_with fail);go_roundw
     case rel=>exact⟨i+1,i,by omega,(by first|trivial|rfl),by go_num,HT2,hB⟩
     case measure=>simp[intOf];omega
  ·obtain rfl:i=n:=by omega
   go_wp2_with fail
   go_ret;exact⟨by rw[<-HX.out];rfl,hB⟩
theorem Q8(rb bm:Nat)(x:Int)(right:Bool)(z:Int)(hz:0<z)(w:World)(KR:aQ w 81 #[af bm,i_ x] (i_ z)):ak 41 #[af rb,af bm,i_ x,.bool right] w (i_ z):=by
 have t1:decide ((0:Int)<z)=true:=decide_eq_true hz;have t2:(z==0)=false:=by simpa using fun h=>by omega
 clear hz;have hB:=Below.refl w.heap.size w;go_enter Tryz.func41,Tryz.ntmps41;go_wp2_with fail
 refine au (KR.out _ hB) fun v1 hb=>?_;replace hB:=ah hB hb;clear hb;go_wp2_with fail
 go_ret;exact⟨rfl,hB⟩
theorem OF(rb bm:Nat)(x:Int)(z:Int)(hz:0<z)(w:World)(KR:aQ w 81 #[af bm,i_ x] (i_ z)):ak 42 #[af rb,af bm,i_ x] w (i_ z):=by
 have t1:decide ((0:Int)<z)=true:=decide_eq_true hz;have t2:(z==0)=false:=by simpa using fun h=>by omega
 clear hz;have hB:=Below.refl w.heap.size w;go_enter Tryz.func42,Tryz.ntmps42;go_wp2_with fail
 refine au (KR.out _ hB) fun v1 hb=>?_;replace hB:=ah hB hb;clear hb;go_wp2_with fail
 go_ret;exact⟨rfl,hB⟩
theorem PY(rb bm:Nat)(x:Int)(z:Int)(hz:0<z)(w:World)(KR:aQ w 81 #[af bm,i_ x] (i_ z)):ak 43 #[af rb,af bm,i_ x] w (i_ z):=by
 have t1:decide ((0:Int)<z)=true:=decide_eq_true hz;have t2:(z==0)=false:=by simpa using fun h=>by omega
 clear hz;have hB:=Below.refl w.heap.size w;go_enter Tryz.func43,Tryz.ntmps43;go_wp2_with fail
 refine au (KR.out _ hB) fun v1 hb=>?_;replace hB:=ah hB hb;clear hb;go_wp2_with fail
 go_ret;exact⟨rfl,hB⟩
theorem OL(rb bm k:Nat)(S:Mk.St)(hk:k<600)(w:World)(hS:dW w rb S)(KR:aQ w 81 #[af bm,i_ k] (i_ 0)):aG 42 #[af rb,af bm,i_ k] w fun e w'=>e=.returned (i_ 0)/\dW w' rb ⟨S.said,Mk.bY S.out k true⟩/\Kp (fun i=>i=rb) w w':=by
 have hB:=Below.refl w.heap.size w;go_enter Tryz.func42,Tryz.ntmps42;go_wp2_with fail
 refine au (KR.out _ hB) fun v1 hb=>?_;replace hB:=ah hB hb;clear hb KR;have hS1:=hS.below hB;have c1:=hS1.out hk;have f1:=hS1.free (600+k);have h6:(600:Nat)+k<1200:=by omega
 have hk2:Kp (fun i=>i=rb) w (v1.setCell ⟨rb,600+k,none⟩ (.bool true)):=(Kp.of hB).trans (Kp.gb (fJ v1 rb (600+k) _) (fun k hk=>(Option.some.inj hk).symm)) fun i hi _=>hi
 have hS2:=hS1.rule hk true;have HS2:=h_ hS2;have SL:=h_ hk2;clear hS hS1 hS2 hk2;go_wp2_with fail
 go_ret;exact⟨rfl,HS2.out,SL.out⟩
theorem Py(rb bm k:Nat)(S:Mk.St)(hk:k<600)(right:Bool)(g1 g2:Bool)(h1:decide ((0:Int)<(S.said k:Int))=g1)(h2:((S.said k:Int) != (word right:Int))=g2)(w:World)(hS:dW w rb S)(KR:aQ w 81 #[af bm,i_ k] (i_ 0)):aG 41 #[af rb,af bm,i_ k,.bool right] w fun e w'=>e=.returned (i_ (if g1&&g2 then 1 else 0))/\dW w' rb (if g1&&g2 then S else⟨Mk.bY S.said k (word right),S.out⟩)/\Kp (fun i=>i=rb) w w':=by
 have fin:∀v1:World,Bl w v1->∀y:Nat,dW (v1.setCell ⟨rb,k,none⟩ (i_ y)) rb ⟨Mk.bY S.said k y,S.out⟩/\Kp (fun i=>i=rb) w (v1.setCell ⟨rb,k,none⟩ (i_ y)):=fun v1 hB y=>⟨(hS.below hB).say hk y,(Kp.of hB).trans (Kp.gb (fJ v1 rb k _) (fun k hk=>(Option.some.inj hk).symm)) fun i hi _=>hi⟩
 have FIN:=h_ fin;have HS:=h_ hS;have hw:(right=true/\word right=1)\/(right=false/\word right=2):=by cases right<;>simp[word]
 obtain⟨y,hy⟩:∃y,y=word right:=⟨_,rfl⟩;rw[<-hy]at hw h2|-;obtain⟨s,hs⟩:∃s,s=S.said k:=⟨_,rfl⟩;rw[<-hs]at h1 h2;have Wu:=h_ hs;clear fin hS hy hs;obtain⟨rfl,rfl⟩|⟨rfl,rfl⟩:=hw
 ·have hB:=Below.refl w.heap.size w;go_enter Tryz.func41,Tryz.ntmps41;go_wp2_with fail
  refine au (KR.out _ hB) fun v1 hb=>?_;replace hB:=ah hB hb;clear hb KR;have c1:v1.cell? ⟨rb,k,none⟩=some (i_ s):=by rw[Wu.out];exact(HS.out.below hB).said hk
  have f1:=(HS.out.below hB).free k;have aa0:k<1200:=by omega
  have HF:=h_ (FIN.out v1 hB 1);have h3:((s:Int) != 1)=g2:=h2;clear FIN h2;cases g1
  ·have h4:¬0<s:=by have:=of_decide_eq_false h1;omega
   clear h1;go_wp2_with fail
   go_ret;exact⟨rfl,HF.out.1,HF.out.2⟩
  ·have h4:0<s:=by have:=of_decide_eq_true h1;omega
   clear h1;cases g2
   ·(go_wp2_with fail);go_ret;exact⟨rfl,HF.out.1,HF.out.2⟩
   ·clear HF;(go_wp2_with fail);go_ret;exact⟨rfl,HS.out.below hB,Kp.of hB⟩
 ·have hB:=Below.refl w.heap.size w;go_enter Tryz.func41,Tryz.ntmps41;go_wp2_with fail
  refine au (KR.out _ hB) fun v1 hb=>?_;replace hB:=ah hB hb;clear hb KR;have c1:v1.cell? ⟨rb,k,none⟩=some (i_ s):=by rw[Wu.out];exact(HS.out.below hB).said hk
  have f1:=(HS.out.below hB).free k;have aa0:k<1200:=by omega
  have HF:=h_ (FIN.out v1 hB 2);have h3:((s:Int) != 2)=g2:=h2;clear FIN h2;cases g1
  ·have h4:¬0<s:=by have:=of_decide_eq_false h1;omega
   clear h1;go_wp2_with fail
   go_ret;exact⟨rfl,HF.out.1,HF.out.2⟩
  ·have h4:0<s:=by have:=of_decide_eq_true h1;omega
   clear h1;cases g2
   ·(go_wp2_with fail);go_ret;exact⟨rfl,HF.out.1,HF.out.2⟩
   ·clear HF;(go_wp2_with fail);go_ret;exact⟨rfl,HS.out.below hB,Kp.of hB⟩
theorem Pf(rb bm n c k:Nat)(a:Option Addr)(M:List aq)(S:Mk.St)(hn:n<=500)(w:World)(hS:dW w rb S)(hv:w.cell? ⟨bm,83,none⟩=some (.slice a n c))(KR:aQ w 81 #[af bm,i_ k] (i_ 0))(KO:Hid (∀w' (x y:Nat),x<n->y<n->Kp (fun i=>i=rb) w w'->ak 82 #[af bm,i_ x,i_ y] w' (.bool (pb (cB M (x:Int) (y:Int))))))(hkn:k<n):aG 43 #[af rb,af bm,i_ k] w fun e w'=>e=.returned (i_ 0)/\dW w' rb (bG M S (k:Int) n)/\Kp (fun i=>i=rb) w w':=by
 have hB:=Below.refl w.heap.size w;go_enter Tryz.func43,Tryz.ntmps43;go_wp2_with fail
 refine au (KR.out _ hB) fun v1 hb=>?_;replace hB:=ah hB hb;clear hb KR;have hv1:=(hB.cell (p:=⟨bm,83,none⟩) (block_lt_of_cell hv)).trans hv;have h0:dW v1 rb (bG M S (k:Int) 0):=by rw[IH];exact hS.below hB
 have X7:Kp (fun i=>i=rb) w v1:=Kp.of hB;clear hB hS hv;go_wp2_with fail
 go_loopw [20] (fun s20 wr=>∃i:Nat,i<=n/\s20=i_ i/\dW wr rb (bG M S (k:Int) i)/\Kp (fun i=>i=rb) w wr) (fun s20 _=>n-(intOf s20).toNat)
 case atStart=>exact⟨0,Nat.zero_le _,rfl,h0,X7⟩
 case round=>
  clear h0 X7 hv1;obtain⟨i,hi,rfl,hX,hK⟩:=hrel;by_cases hlt:i<n
  ·have YH:i<600:=by omega
   have h6:(600:Nat)+i<1200:=by omega
   have h12:i<1200:=by omega
   have KO1:=KO.out wr i k hlt hkn hK;have W9:=h_ fun w' (hb:Bl wr w')=>KO.out w' k i hkn hlt (hK.trans (Kp.of (F:=fun _=>False) hb) fun _ hf _=>hf.elim)
   have hon:pN M (k:Int) i=(pb (cB M (i:Int) (k:Int))||pb (cB M (k:Int) (i:Int))):=rfl;generalize pb (cB M (i:Int) (k:Int))=a1 at*;generalize pb (cB M (k:Int) (i:Int))=a2 at*;have Wo:=h_ hon;clear hon;have HX:=h_ hX;have HK:=h_ hK
   -- behind the store of what is ruled out: the rest of the round
   have hbo:∀v3:World,Bl wr v3->pN M (k:Int) i=true->v3.cell? ⟨rb,600+i,none⟩=some (.bool ((bG M S (k:Int) i).out i))/\v3.frozen? ⟨rb,600+i,none⟩=false/\(v3.setCell ⟨rb,600+i,none⟩ (.bool false)).cell? ⟨rb,i,none⟩=some (i_ (S.said i:Int))/\(v3.setCell ⟨rb,600+i,none⟩ (.bool false)).frozen? ⟨rb,i,none⟩=false/\
     Hid ((S.said i=2->dW ((v3.setCell ⟨rb,600+i,none⟩ (.bool false)).setCell ⟨rb,i,none⟩ (i_ 0)) rb (bG M S (k:Int) (i+1))/\Kp (fun i=>i=rb) w ((v3.setCell ⟨rb,600+i,none⟩ (.bool false)).setCell ⟨rb,i,none⟩ (i_ 0)))/\
      (¬S.said i=2->dW (v3.setCell ⟨rb,600+i,none⟩ (.bool false)) rb (bG M S (k:Int) (i+1))/\Kp (fun i=>i=rb) w (v3.setCell ⟨rb,600+i,none⟩ (.bool false)))):=fun v3 hb hon=>by
    have h3:=hX.below hb;have h4:=h3.rule YH false;have hK3:Kp (fun i=>i=rb) w v3:=hK.trans (Kp.of (F:=fun _=>False) hb) fun _ hf _=>hf.elim
    have hK4:Kp (fun i=>i=rb) w (v3.setCell ⟨rb,600+i,none⟩ (.bool false)):=hK3.trans (Kp.gb (fJ v3 rb (600+i) _) (fun k hk=>(Option.some.inj hk).symm)) fun i hi _=>hi
    have e:=F9 (M:=M) (S:=S) (x:=(k:Int)) (k:=i) hon _ rfl;rw[ug]at e;refine⟨h3.out YH,h3.free _,?_,h4.free _,h_ ⟨fun h2=>⟨?_,hK4.trans (Kp.gb (fJ _ rb i _) (fun k hk=>(Option.some.inj hk).symm)) fun i hi _=>hi⟩,fun h2=>⟨?_,hK4⟩⟩⟩;have:=h4.said YH;rw[this];show some (Value.int .i64 ((bG M S (k:Int) i).said i:Int))=_;rw[ug];have h5:=h4.say YH 0;rw[if_pos h2]at e;rw[<-e];exact h5
    ·rw[if_neg h2]at e;rw[<-e]
     have e2:dY (bG M S (k:Int) i) i (S.said i) false=⟨(bG M S (k:Int) i).said,Mk.bY (bG M S (k:Int) i).out i false⟩:=gj (fun j=>by
      show Mk.bY (bG M S (k:Int) i).said i (S.said i) j=(bG M S (k:Int) i).said j;unfold Mk.bY;split
      ·rename_i ej;rw[ej,ug]
      rfl) fun _=>rfl
     rw[e2];exact h4
   have X9:=h_ hbo;have hw:=Below.refl wr.heap.size wr;clear hbo hX hK;generalize(bG M S (k:Int) i).out i=o at*;generalize hsi:S.said i=s at*;clear hsi;go_wp2_with fail
   refine KO1.mono ?_;rintro e v2 ⟨rfl,hb⟩;have hB:=ah hw hb;clear hb KO1 hw;cases a1
   ·(go_wp2_with fail);refine au (W9.out _ hB) fun v3 hb=>?_;replace hB:=ah hB hb;clear hb W9;cases a2
    ·have hN:Hid (dW v3 rb (bG M S (k:Int) (i+1))/\Kp (fun i=>i=rb) w v3):=h_ ⟨by rw[Gq (Wo.out.trans rfl)];exact HX.out.below hB,HK.out.trans (Kp.of (F:=fun _=>False) hB) fun _ hf _=>hf.elim⟩;clear X9;(go_wp2_with fail);go_roundw
     case rel=>exact⟨i+1,by omega,by go_num,hN.out.1,hN.out.2⟩
     case measure=>simp[intOf];omega
    ·obtain⟨c1,f1,c2,f2,HE⟩:=X9.out _ hB (Wo.out.trans rfl);clear X9;by_cases hs:s=2
     ·have h1:((s:Int)==2)=true:=(by rw[hs];rfl);have Tu:=h_ (HE.out.1 hs);clear hs HE;(go_wp2_with fail);go_roundw
      case rel=>exact⟨i+1,by omega,by go_num,Tu.out.1,Tu.out.2⟩
      case measure=>simp[intOf];omega
     ·have h1:((s:Int)==2)=false:=by simpa using fun h=>hs (by omega)
      have Tu:=h_ (HE.out.2 hs);clear hs HE;(go_wp2_with fail);go_roundw
      case rel=>exact⟨i+1,by omega,by go_num,Tu.out.1,Tu.out.2⟩
      case measure=>simp[intOf];omega
   ·clear W9;obtain⟨c1,f1,c2,f2,HE⟩:=X9.out _ hB (Wo.out.trans rfl);clear X9;by_cases hs:s=2
    ·have h1:((s:Int)==2)=true:=(by rw[hs];rfl);have Tu:=h_ (HE.out.1 hs);clear hs HE;(go_wp2_with fail);go_roundw
     case rel=>exact⟨i+1,by omega,by go_num,Tu.out.1,Tu.out.2⟩
     case measure=>simp[intOf];omega
    ·have h1:((s:Int)==2)=false:=by simpa using fun h=>hs (by omega)
     have Tu:=h_ (HE.out.2 hs);clear hs HE;(go_wp2_with fail);go_roundw
     case rel=>exact⟨i+1,by omega,by go_num,Tu.out.1,Tu.out.2⟩
     case measure=>simp[intOf];omega
  ·obtain rfl:i=n:=by omega
   have HX:=h_ hX;have HK:=h_ hK;clear hX hK;go_wp2_with fail
   go_ret;exact⟨rfl,HX.out,HK.out⟩
section
variable{w w':World}{B bm rb:Nat}{F:Nat->Prop}{r:Ru}{M:List aq}{S:Mk.St}
theorem pn(h:gC w B F bm r M)(x:Int):ak 81 #[af bm,i_ x] w (i_ (dP M.length x)):=by obtain⟨a,c,hc⟩:=h.SZ;exact Es bm M.length c a x _ rfl w hc
theorem yC(h:gC w B F bm r M)(hM:Ok r M)(hl:M.length<=500)(i:Nat)(hi:i<M.length):∃L:List Int,Row M (i:Int) L/\0<L.length/\L.length<=500/\(∀(k:Nat) z,L[k]?=some z->∃j:Nat,z=(j:Int)/\j<600)/\ ∀w',Bl w w'->aG 66 #[af bm,i_ i] w' fun e w''=>∃v,e=.returned v/\w''.ownsRow w'.heap.size 3 1 v L.length (L.map (Value.int .i64))/\Bl w' w'':=by have he:=List.getElem?_eq_getElem hi;obtain⟨L,h1,h2⟩:=hM.row he;refine⟨L,h1,by omega,Nat.le_trans (Mk.nU hM h1) hl,fun k z hz=>?_,fun w' hb=>ER (h.below hb) hM (by omega) i _ he L h1⟩;have:=Mk.im hM h1 (List.mem_of_getElem? hz);unfold cp at this;exact⟨z.toNat,by omega,by omega⟩
theorem CK(h:gC w B F bm r M)(hM:Ok r M)(hl:M.length<=500)(x:Int)(i:Nat)(hi:i<M.length):ak 82 #[af bm,i_ x,i_ i] w (.bool (pb (cB M x (i:Int)))):=by
 obtain⟨L,h1,h2,h3,_,h5⟩:=yC h hM hl i hi
 have e:pb (cB M x (i:Int))=L.any fun z=>z==x:=by
  rw[Bool.eq_iff_iff,Mk.kv,Mk.r8 h1,List.any_eq_true];exact⟨fun hh=>⟨x,hh,by simp⟩,fun⟨z,hz,hh⟩=>by rw[<-beq_iff_eq.1 hh];exact hz⟩
 rw[e];exact G9 bm x (i:Int) L L.length rfl h2 (by omega) w (h_ h5)
variable{x:Int}{n:Nat}
theorem Jv(h:¬cp M x)(hn:n=M.length):¬(0<=x/\x<(n:Int)):=by rw[hn];exact h
theorem Lm(h:gC w B F bm r M)(hS:dW w rb S)(hM:Ok r M)(hl:M.length<=500)(x:Int):ak 30 #[af rb,af bm,i_ x] w (.bool (aM M S x)):=by obtain⟨a,c,hc⟩:=h.SZ;by_cases hp:cp M x;obtain⟨i,rfl⟩:=Int.eq_ofNat_of_zero_le hp.1;have hi:=Mk.mJ.1 hp;obtain⟨L,h1,h2,h3,h4,h5⟩:=yC h hM hl i hi;rw[Mk.Ge hM hp h1];exact Qj rb bm M.length c i a S hi L (h_ h4) L.length rfl h2 (by omega) w hc (h_ h5) (h_ fun w' hb=>hS.below hb);rw[Mk.CI hp];exact FI rb bm M.length c a x (Jv hp rfl) w hc
theorem NA(hS:dW w rb S)(hl:M.length<=500)(i:Nat)(hi:i<M.length):ak 34 #[af rb,i_ i] w (.bool (bF S i)):=G6 rb i S (by omega) w hS
theorem MR(h:gC w B F bm r M)(hS:dW w rb S)(hM:Ok r M)(hl:M.length<=500):ak 46 #[af rb,af bm] w (i_ (Mk.top (Hv r M) (fun i=>aM M S (i:Int)) M.length:Int)):=by obtain⟨a,c,hc⟩:=h.SZ;exact u' rb bm M.length c a (by omega) _ _ w hc (h_ fun w' i _ hb=>Lm (h.below hb) (hS.below hb) hM hl _) (h_ fun w' i j hi hj hb=>Rq (h.below hb) hi hj)
theorem Ds(h:¬dP n x=0):0<dP n x:=by
 unfold dP at h|-;split
 ·split;omega
  ·rename_i h1 h2;rw[if_pos h1,if_neg h2]at h;omega
 omega
theorem mZ(h:dP n x=0):∃k:Nat,x=(k:Int)/\k<n:=by obtain⟨_,h2,h3⟩:=Mk.pg h;exact⟨x.toNat,h3,h2⟩
theorem NV(h:gC w B F bm r M)(hS:dW w rb S)(hl:M.length<=500)(x:Int)(right:Bool):aG 41 #[af rb,af bm,i_ x,.bool right] w fun e w'=>e=.returned (i_ (verdict M.length S x right).1)/\dW w' rb (verdict M.length S x right).2/\Kp (fun i=>i=rb) w w':=by
 unfold Mk.verdict;by_cases hc:dP M.length x=0
 ·rw[if_neg (fun hh=>hh hc)];obtain⟨k,rfl,hk⟩:=mZ hc;rw[Int.toNat_natCast]
  refine(Py rb bm k S (by omega) right _ _ rfl rfl w hS (h_ fun w' hb=>by
   have:=pn (h.below hb) (k:Int);rwa[hc]at this)).mono ?_
  rintro e w' ⟨rfl,h1,h2⟩
  have eg:(decide ((0:Int)<(S.said k:Int))&&((S.said k:Int) != (word right:Int)))=decide (0<S.said k/\¬S.said k=word right):=by
   rw[Bool.eq_iff_iff,Bool.and_eq_true,decide_eq_true_iff,decide_eq_true_iff,bne_iff_ne];constructor;rintro⟨a,b⟩;exact⟨by omega,fun e=>b (by rw[e])⟩;rintro⟨a,b⟩;exact⟨by omega,fun e=>b (by omega)⟩
  rw[eg]at h1|-;by_cases hd:0<S.said k/\¬S.said k=word right;rw[if_pos hd];rw[decide_eq_true hd]at h1|-;exact⟨rfl,h1,h2⟩;rw[if_neg hd];rw[decide_eq_false hd]at h1|-;exact⟨rfl,h1,h2⟩
 rw[if_pos hc];refine au (Q8 rb bm x right _ (Ds hc) w (h_ fun w' hb=>pn (h.below hb) x)) fun w' hb=>?_;exact⟨rfl,hS.below hb,Kp.of hb⟩
theorem Me(h:gC w B F bm r M)(hS:dW w rb S)(hl:M.length<=500)(x:Int):aG 42 #[af rb,af bm,i_ x] w fun e w'=>e=.returned (i_ (a_ M.length S x).1)/\dW w' rb (a_ M.length S x).2/\Kp (fun i=>i=rb) w w':=by
 unfold Mk.a_;by_cases hc:dP M.length x=0
 ·rw[if_neg (fun hh=>hh hc)];obtain⟨k,rfl,hk⟩:=mZ hc;rw[Int.toNat_natCast]
  exact OL rb bm k S (by omega) w hS (h_ fun w' hb=>by
   have:=pn (h.below hb) (k:Int);rwa[hc]at this)
 rw[if_pos hc];refine au (OF rb bm x _ (Ds hc) w (h_ fun w' hb=>pn (h.below hb) x)) fun w' hb=>?_;exact⟨rfl,hS.below hb,Kp.of hb⟩
theorem JI(h:gC w B F bm r M)(hS:dW w rb S)(hFr:¬F rb)(hB:B<=rb)(hM:Ok r M)(hl:M.length<=500)(x:Int):aG 43 #[af rb,af bm,i_ x] w fun e w'=>e=.returned (i_ (bc M S x).1)/\dW w' rb (bc M S x).2/\Kp (fun i=>i=rb) w w':=by
 by_cases hc:dP M.length x=0
 ·rw[Mo hM hc];obtain⟨k,rfl,hk⟩:=mZ hc;obtain⟨a,c,hv⟩:=h.SZ
  exact Pf rb bm M.length c k a M S hl w hS hv (h_ fun w' hb=>by
   have:=pn (h.below hb) (k:Int);rwa[hc]at this) (h_ fun w' x y hx hy hK=>CK (h.on hK (fun i hi e=>hFr (e▸hi)) (fun i hi=>hi▸hB)) hM hl (x:Int) y hy) hk
 ·have e:Mk.bc M S x=(dP M.length x,S):=by unfold Mk.bc;rw[if_pos hc]
  rw[e];refine au (PY rb bm x _ (Ds hc) w (h_ fun w' hb=>pn (h.below hb) x)) fun w' hb=>?_;exact⟨rfl,hS.below hb,Kp.of hb⟩
end
def C5:Mk.St:=⟨fun _=>0,fun _=>false⟩
theorem E5:Tryz.prog.built 101 []=some (oa C5):=by kernel_rfl
section
variable{ops:Array Oper}{rest:List Oper}{o:Oper}{a:Act}{w:World}{Q:Exit->Act->World->Prop}
theorem Ez(hgd:o.guard=none)(ho:o.op=.build 101 #[])(hk:wpList Tryz.prog ops Q rest (a.put o.dst (.agg (oa C5))) w):wpList Tryz.prog ops Q (o::rest) a w:=by
 refine wpList_plain hgd fun _ hK=>?_
 unfold Oper.wp execOp;simp only[ho,Sem.run_bind];rw[Array.map_empty,run_build w 101 _ _ E5];exact hK _ _ hk
theorem AJ(hgd:o.guard=none)(x:Operand)(ho:o.op=.box 101 x)(cs:Array Value)(hx:a.eval x=.agg cs)(hk:wpList Tryz.prog ops Q rest (a.put o.dst (.pointer (some ⟨w.heap.size,0,none⟩))) (w.alloc (.cells cs 101))):wpList Tryz.prog ops Q (o::rest) a w:=by
 refine wpList_plain hgd fun _ hK=>?_
 unfold Oper.wp;rw[qP ho hx];exact hK _ _ hk
end
theorem tD(w:World):aG 74 #[] w fun e w'=>∃rb,e=.returned (af rb)/\w.heap.size<=rb/\dW w' rb Mk.j5/\Bl w w':=by
 go_enter Tryz.func74,Tryz.ntmps74;go_upto_region 2 with(with_reducible first|refine Ez rfl rfl ?_|refine AJ rfl _ rfl _ rfl ?_)
 generalize hw2:World.alloc _ _=v2;have hN:dW v2 w.heap.size C5:=by rw[<-hw2];exact Has.new _ _
 have hb2:Bl w v2:=dd hw2;obtain⟨rb,e⟩:∃rb,rb=w.heap.size:=⟨_,rfl⟩;rw[<-e]at hN|-;have HB:Hid (w.heap.size<=rb):=h_ (by omega);clear hw2 e;have c1:v2.cell? ⟨rb,0,none⟩=some (i_ 0):=hN.said (k:=0) (by decide);have f1:=hN.free 0
 have h3:dW (v2.setCell ⟨rb,0,none⟩ (i_ 1)) rb Mk.j5:=by
  have:=hN.say (k:=0) (by decide) 1
  have e:(⟨Mk.bY C5.said 0 1,C5.out⟩:Mk.St)=Mk.j5:=gj (fun i=>by
   show Mk.bY C5.said 0 1 i=Mk.j5.said i;unfold Mk.bY Mk.j5 C5;rfl) fun _=>rfl
  rw[e]at this;exact this
 have H3:=h_ h3;have H4:=h_ (hb2.setCell (p:=⟨rb,0,none⟩) HB.out (i_ 1));clear h3 hN hb2;go_wp2_with fail
 go_ret;exact⟨rb,rfl,HB.out,H3.out,H4.out⟩
abbrev Xs:=Nat->Array Value->TypeId->Prop
def Kept(B:Nat)(w:World)(F Fm:Nat->Prop)(mb mg rb:Nat)(X:Xs):Prop:=∀i cs T,X i cs T->Has w i cs T/\B<=i/\¬F i/\¬Fm i/\i≠mb/\i≠mg/\i≠rb
def kk(B:Nat)(w:World)(r:Ru)(bt mb mg bm rb:Nat)(X:Xs)(Mt Mr:List aq)(Sp Sr:Mk.St)(F Fm:Nat->Prop):Prop:=
 fg w F mb mg (aT bt) r Mt Sp/\gC w B Fm bm r Mr/\dW w rb Sr/\
 (∀i,F i->B<=i/\¬Fm i/\i≠rb)/\(∀i,Fm i->i≠mb/\i≠mg/\i≠rb)/\(B<=mb/\B<=mg/\B<=rb/\mg≠rb/\mb≠rb)/\Kept B w F Fm mb mg rb X
def Core(w0 w:World)(r:Ru)(bt mb mg bm rb:Nat)(X:Xs)(Mt Mr:List aq)(Sp Sr:Mk.St):Prop:=(∃F Fm,kk w0.heap.size w r bt mb mg bm rb X Mt Mr Sp Sr F Fm)/\Bl w0 w
section
variable{w0 w w':World}{r:Ru}{bt mb mg bm rb:Nat}{X X':Xs}{Mt Mr M:List aq}{Sp Sr S':Mk.St}
variable{B:Nat}{F Fm:Nat->Prop}
theorem Kept.below(h:Kept B w F Fm mb mg rb X)(hb:Bl w w'):Kept B w' F Fm mb mg rb X:=fun i cs T hx=>by
 obtain⟨h1,h2⟩:=h i cs T hx;exact⟨cg hb h1 h1.lt,h2⟩
theorem kk.below(h:kk B w r bt mb mg bm rb X Mt Mr Sp Sr F Fm)(hb:Bl w w'):kk B w' r bt mb mg bm rb X Mt Mr Sp Sr F Fm:=by obtain⟨h1,h2,h3,h5,h6,h7,h8⟩:=h;exact⟨h1.below hb,h2.below hb,h3.below hb,h5,h6,h7,h8.below hb⟩
theorem Core.below(h:Core w0 w r bt mb mg bm rb X Mt Mr Sp Sr)(hb:Bl w w'):Core w0 w' r bt mb mg bm rb X Mt Mr Sp Sr:=by obtain⟨⟨F,Fm,h⟩,hB⟩:=h;exact⟨⟨F,Fm,h.below hb⟩,ah hB hb⟩
theorem Core.S9(h:Core w0 w r bt mb mg bm rb X Mt Mr Sp Sr):Bl w0 w:=h.2
theorem Core.has(h:Core w0 w r bt mb mg bm rb X Mt Mr Sp Sr){i:Nat}{cs:Array Value}{T:TypeId}(hx:X i cs T):Has w i cs T:=by obtain⟨⟨F,Fm,_,_,_,_,_,_,h8⟩,_⟩:=h;exact(h8 i cs T hx).1
theorem fg.tlt(h:fg w F mb mg (aT bt) r M Sp){i:Nat}(hi:F i):i<w.heap.size:=by obtain⟨⟨b,ls,_,h1,_⟩|⟨h1,_⟩,_⟩:=h;exact h1.1 i hi;cases h1
theorem Core.turn(h:Core w0 w r bt mb mg bm rb X Mt Mr Sp Sr)(hb:Bl w w')(hx:∀i cs T,X' i cs T->X i cs T\/(w.heap.size<=i/\Has w' i cs T)):Core w0 w' r bt mb mg bm rb X' Mt Mr Sp Sr:=by
 have h':=h.below hb;have hs:=h.2.size;obtain⟨⟨F,Fm,h⟩,hB⟩:=h;refine⟨⟨F,Fm,h.1.below hb,h.2.1.below hb,h.2.2.1.below hb,h.2.2.2.1,h.2.2.2.2.1,h.2.2.2.2.2.1,fun i cs T hi=>?_⟩,h'.2⟩;rcases hx i cs T hi with hi|⟨h1,h2⟩
 exact h.2.2.2.2.2.2.below hb i cs T hi;have g1:=Has.lt h.1.2.1;have g2:=h.1.2.2.1.lt;have g3:=Has.lt h.2.2.1;exact⟨h2,by omega,fun hf=>by have:=h.1.tlt hf;omega,fun hf=>by have:=(h.2.1.2.1 _ hf).2;omega,by omega,by omega,by omega⟩
theorem Core.loose(h:Core w0 w r bt mb mg bm rb X Mt Mr Sp Sr)(hx:∀i cs T,X' i cs T->X i cs T):Core w0 w r bt mb mg bm rb X' Mt Mr Sp Sr:=h.turn bf fun i cs T hi=>.inl (hx i cs T hi)
theorem Core.wrote(h:Core w0 w r bt mb mg bm rb X Mt Mr Sp Sr){b:Nat}{cs:Array Value}{T:TypeId}(hX:X b cs T)(k:Kp (fun i=>i=b) w w'){cs':Array Value}(hb:Has w' b cs' T)(hx:∀i d U,X' i d U->(i=b/\d=cs'/\U=T)\/(i≠b/\X i d U)):Core w0 w' r bt mb mg bm rb X' Mt Mr Sp Sr:=by
 obtain⟨⟨F,Fm,h1,h2,h3,h5,h6,h7,h8⟩,hB⟩:=h;obtain⟨_,g0,g1,g2,g3,g4,g5⟩:=h8 b cs T hX;refine⟨⟨F,Fm,h1.on k (fun i hi e=>g1 (e▸hi)) (fun e=>g3 e.symm) (fun e=>g4 e.symm),h2.on k (fun i hi e=>g2 (e▸hi)) (fun i e=>by rw[e];exact g0),k.has h3 (fun e=>g5 e.symm),h5,h6,h7,fun i d U hi=>?_⟩,hB.trans (k.below (fun i e=>by rw[e];exact g0) hB.size)⟩;rcases hx i d U hi with⟨rfl,rfl,rfl⟩|⟨hne,hi⟩
 exact⟨hb,g0,g1,g2,g3,g4,g5⟩;obtain⟨q1,q2⟩:=h8 i d U hi;exact⟨k.has q1 hne,q2⟩
theorem Core.list(h:Core w0 w r bt mb mg bm rb X Mt Mr Sp Sr):∃a c,∀w',Bl w w'->w'.cell? ⟨bm,83,none⟩=some (.slice a Mr.length c):=by obtain⟨⟨F,Fm,_,h2,_⟩,_⟩:=h;obtain⟨a,c,h⟩:=h2.SZ;exact⟨a,c,fun w' hb=>(hb.cell (p:=⟨bm,83,none⟩) (block_lt_of_cell h)).trans h⟩
theorem Core.rd(h:Core w0 w r bt mb mg bm rb X Mt Mr Sp Sr)(hM:Ok r Mt)(hl:Mt.length<=1000):jl w (aT mb) (aT bt) r Mt Sp:=by obtain⟨⟨F,Fm,h1,_⟩,_⟩:=h;exact h1.rd (.inr hM) hl
theorem Core.rf(h:Core w0 w r bt mb mg bm rb X Mt Mr Sp Sr):∃Fm,gC w w0.heap.size Fm bm r Mr:=by obtain⟨⟨F,Fm,_,h2,_⟩,_⟩:=h;exact⟨Fm,h2⟩
theorem Core.rk(h:Core w0 w r bt mb mg bm rb X Mt Mr Sp Sr):dW w rb Sr:=by obtain⟨⟨F,Fm,_,_,h3,_⟩,_⟩:=h;exact h3
theorem OR(h:Core w0 w r bt mb mg bm rb X Mt Mr Sp Sr)(hM:Ok r Mt)(hl:Mt.length<=900)(a b:Int):ak 35 #[af bt,i_ a,i_ b] w (.bool (pb (cB Mt a b))):=by obtain⟨⟨F,Fm,h1,_⟩,_⟩:=h;obtain⟨⟨b',ls,e,hT,hls⟩|⟨e,_⟩,_⟩:=h1;cases e;exact D2 hT hM hl hls a b _ Mk.kv;cases e
theorem E3(h:Core w0 w r bt mb mg bm rb X M Mr Sp Sr)(hM:Ok r M)(hl:M.length<=800)(hgl:r.gs.length<=1000)(hcl:r.cs.length<=1000)(hT:dQ w)(y:Hd)(ho:y.ok)(now:Int):aG 48 #[af bt,.agg (aD y),i_ now] w fun e w'=>e=.returned (.tuple #[i_ (Ar.add r M y now).1.1,i_ (Ar.add r M y now).1.2.1,i_ (Ar.add r M y now).1.2.2])/\Core w0 w' r bt mb mg bm rb X (Ar.add r M y now).2 Mr Sp Sr:=by
 obtain⟨⟨F,Fm,h1,h2,h3,h5,h6,h7,h8⟩,hB⟩:=h;obtain⟨hQ,g2,g3,g4,g5⟩:=h1;obtain⟨b',ls,e,hT1,hls⟩|⟨e,_⟩:=hQ
 ·cases e;refine(vd hT1 hM hl hls hgl hcl hT y ho now).mono ?_;rintro e w' ⟨rfl,⟨lp2,q1,q2⟩,k⟩;have lm:=h2.2.1;have l1:=Has.lt g2;have l2:=g3.lt;have l3:=Has.lt h3;have hs:=hB.size;have nx:∀j,j<w.heap.size->¬F j->¬iQ F w w' j:=fun j hj hn hf=>hf.elim hn fun hf=>by omega
  refine⟨rfl,⟨iQ F w w',Fm,⟨.inl ⟨_,lp2,rfl,q2,q1⟩,k.has g2 g4,g3.on (k.block mg l2 g5),nx mb l1 g4,nx mg l2 g5⟩,h2.on k (fun j hj hf=>(h5 j hf).2.1 hj) (fun j hj=>(h5 j hj).1),k.has h3 (fun hf=>(h5 _ hf).2.2 rfl),?_,h6,h7,fun i cs T hi=>?_⟩,hB.trans (k.below (fun j hj=>(h5 j hj).1) hB.size)⟩;rintro j (hj|hj);exact h5 j hj;exact⟨by omega,fun hf=>by have:=lm j hf;omega,by omega⟩;obtain⟨p1,p2,p3,p4⟩:=h8 i cs T hi;exact⟨k.has p1 p3,p2,nx i p1.lt p3,p4⟩
 cases e
theorem Hw(h:Core w0 w r bt mb mg bm rb X Mt M Sp Sr)(hM:Ok r M)(hl:M.length<=900)(hgl:r.gs.length<=1000)(hcl:r.cs.length<=1000)(XV:2<=r.p.R8)(y:Hd)(ho:y.ok)(now:Int)(n1:-9223372036854775808<=now)(n2:now<=9223372036854775807):aG 40 #[af bm,.agg (aD y),i_ now] w fun e w'=>e=.returned (.tuple #[i_ (Ar.add r M y now).1.1,i_ (Ar.add r M y now).1.2.1,i_ (Ar.add r M y now).1.2.2])/\Core w0 w' r bt mb mg bm rb X Mt (Ar.add r M y now).2 Sp Sr:=by
 obtain⟨⟨F,Fm,h1,h2,h3,h5,h6,h7,h8⟩,hB⟩:=h;refine(vt h2 hM hl hgl hcl XV y ho now n1 n2).mono ?_;rintro e w' ⟨rfl,q2,k⟩;have l1:=Has.lt h1.2.1;have l2:=h1.2.2.1.lt;have l3:=Has.lt h3;have nx:∀j,j<w.heap.size->¬Fm j->¬iQ Fm w w' j:=fun j hj hn hf=>hf.elim hn fun hf=>by omega
 refine⟨rfl,⟨F,iQ Fm w w',h1.on k (fun j hj hf=>(h5 j hj).2.1 hf) (fun hf=>(h6 _ hf).1 rfl) (fun hf=>(h6 _ hf).2.1 rfl),q2,k.has h3 (fun hf=>(h6 _ hf).2.2 rfl),fun j hj=>?_,?_,h7,fun i cs T hi=>?_⟩,hB.trans (k.below (fun j hj=>(h2.2.1 j hj).1) hB.size)⟩;obtain⟨a1,a2,a3⟩:=h5 j hj;exact⟨a1,nx j (h1.tlt hj) a2,a3⟩;rintro j (hj|hj);exact h6 j hj;exact⟨by omega,by omega,by omega⟩;obtain⟨p1,p2,p3,p4,p5⟩:=h8 i cs T hi;exact⟨k.has p1 p4,p2,p3,nx i p1.lt p4,p5⟩
theorem kk.TY(h:kk B w r bt mb mg bm rb X Mt Mr Sp Sr F Fm)(h1':fg w' F mb mg (aT bt) r Mt S')(k:Kp (fun i=>i=mg) w w'):kk B w' r bt mb mg bm rb X Mt Mr S' Sr F Fm:=by obtain⟨h1,h2,h3,h5,h6,h7,h8⟩:=h;exact⟨h1',h2.on k (fun i hi e=>(h6 i hi).2.1 e) (fun i e=>by rw[e];exact h7.2.1),k.has h3 (fun e=>h7.2.2.2.1 e.symm),h5,h6,h7,fun i cs T hi=>⟨k.has (h8 i cs T hi).1 (h8 i cs T hi).2.2.2.2.2.1,(h8 i cs T hi).2⟩⟩
theorem kk.TZ(h:kk B w r bt mb mg bm rb X Mt Mr Sp Sr F Fm)(h3':dW w' rb S')(k:Kp (fun i=>i=rb) w w'):kk B w' r bt mb mg bm rb X Mt Mr Sp S' F Fm:=by obtain⟨h1,h2,h3,h5,h6,h7,h8⟩:=h;exact⟨h1.on k (fun i hi e=>(h5 i hi).2.2 e) h7.2.2.2.2 h7.2.2.2.1,h2.on k (fun i hi e=>(h6 i hi).2.2 e) (fun i e=>by rw[e];exact h7.2.2.1),h3',h5,h6,h7,fun i cs T hi=>⟨k.has (h8 i cs T hi).1 (h8 i cs T hi).2.2.2.2.2.2,(h8 i cs T hi).2⟩⟩
theorem Q4(h:Core w0 w r bt mb mg bm rb X Mt Mr Sp Sr)(hl:Mt.length<=500)(z:Int)(right:Bool):aG 49 #[af mb,i_ z,.bool right] w fun e w'=>e=.returned (i_ (verdict Mt.length Sp z right).1)/\Core w0 w' r bt mb mg bm rb X Mt Mr (verdict Mt.length Sp z right).2 Sr:=by obtain⟨⟨F,Fm,h⟩,hB⟩:=h;refine(h.1.verdict (by omega) z right).mono ?_;rintro e w' ⟨rfl,h1,k⟩;exact⟨rfl,⟨F,Fm,h.TY h1 k⟩,hB.trans (k.below (fun i e=>by rw[e];exact h.2.2.2.2.2.1.2.1) hB.size)⟩
theorem PQ(h:Core w0 w r bt mb mg bm rb X Mt Mr Sp Sr)(hl:Mr.length<=500)(z:Int)(right:Bool):aG 41 #[af rb,af bm,i_ z,.bool right] w fun e w'=>e=.returned (i_ (verdict Mr.length Sr z right).1)/\Core w0 w' r bt mb mg bm rb X Mt Mr Sp (verdict Mr.length Sr z right).2:=by obtain⟨⟨F,Fm,h⟩,hB⟩:=h;refine(NV h.2.1 h.2.2.1 hl z right).mono ?_;rintro e w' ⟨rfl,h1,k⟩;exact⟨rfl,⟨F,Fm,h.TZ h1 k⟩,hB.trans (k.below (fun i e=>by rw[e];exact h.2.2.2.2.2.1.2.2.1) hB.size)⟩
theorem P1(h:Core w0 w r bt mb mg bm rb X Mt Mr Sp Sr)(hl:Mt.length<=500)(z:Int):aG 50 #[af mb,i_ z] w fun e w'=>e=.returned (i_ (a_ Mt.length Sp z).1)/\Core w0 w' r bt mb mg bm rb X Mt Mr (a_ Mt.length Sp z).2 Sr:=by obtain⟨⟨F,Fm,h⟩,hB⟩:=h;refine(h.1.a_ (by omega) z).mono ?_;rintro e w' ⟨rfl,h1,k⟩;exact⟨rfl,⟨F,Fm,h.TY h1 k⟩,hB.trans (k.below (fun i e=>by rw[e];exact h.2.2.2.2.2.1.2.1) hB.size)⟩
theorem Rk(h:Core w0 w r bt mb mg bm rb X Mt Mr Sp Sr)(hl:Mr.length<=500)(z:Int):aG 42 #[af rb,af bm,i_ z] w fun e w'=>e=.returned (i_ (a_ Mr.length Sr z).1)/\Core w0 w' r bt mb mg bm rb X Mt Mr Sp (a_ Mr.length Sr z).2:=by obtain⟨⟨F,Fm,h⟩,hB⟩:=h;refine(Me h.2.1 h.2.2.1 hl z).mono ?_;rintro e w' ⟨rfl,h1,k⟩;exact⟨rfl,⟨F,Fm,h.TZ h1 k⟩,hB.trans (k.below (fun i e=>by rw[e];exact h.2.2.2.2.2.1.2.2.1) hB.size)⟩
theorem Rp(h:Core w0 w r bt mb mg bm rb X Mt Mr Sp Sr)(hM:Ok r Mt)(hl:Mt.length<=500)(z:Int):aG 51 #[af mb,i_ z] w fun e w'=>e=.returned (i_ (bc Mt Sp z).1)/\Core w0 w' r bt mb mg bm rb X Mt Mr (bc Mt Sp z).2 Sr:=by obtain⟨⟨F,Fm,h⟩,hB⟩:=h;refine(h.1.bc hM (by omega) z).mono ?_;rintro e w' ⟨rfl,h1,k⟩;exact⟨rfl,⟨F,Fm,h.TY h1 k⟩,hB.trans (k.below (fun i e=>by rw[e];exact h.2.2.2.2.2.1.2.1) hB.size)⟩
theorem OC(h:Core w0 w r bt mb mg bm rb X Mt Mr Sp Sr)(hM:Ok r Mr)(hl:Mr.length<=500)(z:Int):aG 43 #[af rb,af bm,i_ z] w fun e w'=>e=.returned (i_ (bc Mr Sr z).1)/\Core w0 w' r bt mb mg bm rb X Mt Mr Sp (bc Mr Sr z).2:=by obtain⟨⟨F,Fm,h⟩,hB⟩:=h;refine(JI h.2.1 h.2.2.1 (fun hf=>(h.2.2.2.2.1 _ hf).2.2 rfl) h.2.2.2.2.2.1.2.2.1 hM hl z).mono ?_;rintro e w' ⟨rfl,h1,k⟩;exact⟨rfl,⟨F,Fm,h.TZ h1 k⟩,hB.trans (k.below (fun i e=>by rw[e];exact h.2.2.2.2.2.1.2.2.1) hB.size)⟩
end
