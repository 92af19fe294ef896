import Derived.Test.YtbhjpeadcimchaaGreatDoorVBunQ42
import Derived.RangeFuncNested
import Derived.RangeFuncBound
set_option maxRecDepth 100000
set_option maxHeartbeats 8000000
namespace Go.Proofs.YtbhjpeadcimchaaGreatDoor.An
open Go.RowKit Go.Shelf Mem Sc
open Ar (Ent Ru entZ Ok isP)
attribute [local go_sem] Oper.semAt_some
theorem gb_none {w w':World} (h:Below w.heap.size w w'):w.grownBy w' none:=⟨h.os,h.tape,h.output,h.size,fun i hi _=>h.block i hi⟩
theorem qwp_ {w w':World} (h:Below w.heap.size w w'):KeepsOthers w w':=⟨h.size,fun k _ hk _=>(h.block k (Array.getElem?_eq_some_iff.1 hk).1).trans hk⟩
theorem mway_w (mq:Option Addr) (x:Int) (w:World):Calls Tryz.prog 46 #[.pointer mq,.int .i64 x] w fun e w'=>∃ b1 b2,e = .returned (.func (.func 71) #[] #[.pointer (some ⟨b1,0,none⟩),.pointer (some ⟨b2,0,none⟩)])/\w'.cell? ⟨b1,0,none⟩=some (.int .i64 x)/\w'.cell? ⟨b2,0,none⟩=some (.pointer mq)/\b1<w'.heap.size/\b2<w'.heap.size/\Below w.heap.size w w':=by
 have hb1:Below w.heap.size w ((w.alloc (.cells #[.pointer mq] 41)).alloc (.cells #[.int .i64 x] 3)):=((Below.refl _ _).alloc (Nat.le_refl _) _).alloc (by simp) _;have c1:((w.alloc (.cells #[.pointer mq] 41)).alloc (.cells #[.int .i64 x] 3)).cell? ⟨w.heap.size+1,0,none⟩=some (.int .i64 x):=NN.Has.cell (NN.Has.new1 _ #[.int .i64 x] _) 0;have c2:((w.alloc (.cells #[.pointer mq] 41)).alloc (.cells #[.int .i64 x] 3)).cell? ⟨w.heap.size,0,none⟩=some (.pointer mq):=Has.cell (Has.alloc (Has.new #[.pointer mq] _) _) 0;have hs:((w.alloc (.cells #[.pointer mq] 41)).alloc (.cells #[.int .i64 x] 3)).heap.size=w.heap.size+2:=by simp
 go_enter Tryz.func46,Tryz.ntmps46;go_wp2_with fail
 go_ret;exact ⟨_,_,rfl,c1,c2,by omega,by omega,hb1⟩
theorem qadh_ (b1 b2:Nat) (mq:Option Addr) (x:Int) (r:Ru) (M:List Ent) (hM:M=[]\/Ok r M) (xs:List Int) (hx:Mk.Wy M x xs) (w:World)
  (KH:Hid (∀w' z,Below w.heap.size w w'->Calls Tryz.prog 37 #[.pointer mq,.int .i64 z] w' fun e w''=>e = .returned (.bool (decide (isP M z)))/\Below w'.heap.size w' w''))
  (KU:Hid (∀w' z,Below w.heap.size w w'->Calls Tryz.prog 47 #[.pointer mq,.int .i64 z] w' fun e w''=>e = .returned (.int .i64 (upZ M z))/\Below w'.heap.size w' w''))
  (hc1:w.cell? ⟨b1,0,none⟩=some (.int .i64 x)) (hc2:w.cell? ⟨b2,0,none⟩=some (.pointer mq)) (n:Nat) (hn:2<=n) :
  SeqStopsK Fence.wide n Tryz.prog 71 #[.pointer (some ⟨b1,0,none⟩),.pointer (some ⟨b2,0,none⟩)] (fun z:Int=>#[.int .i64 z]) (Below w.heap.size) (fun ys=>ys=xs) (fun pre=>pre <+: xs) xs.length w:=fun l J Jx W hW hJ hJx hY h0=>by
 have c1:=(hW.cell (p:=⟨b1,0,none⟩) (block_lt_of_cell hc1)).trans hc1;have HC2:Hid (∀w',Below w.heap.size w w'->w'.cell? ⟨b2,0,none⟩=some (.pointer mq)):=h_ fun w' hb=>(hb.cell (p:=⟨b2,0,none⟩) (block_lt_of_cell hc2)).trans hc2
 have HJ:Hid (∀pre A B,J pre A->Below A.heap.size A B->J pre B):=h_ fun pre A B h hb=>hJ pre A B none h (gb_none hb) (fun r e=>by cases e)
 have HY:=h_ hY;clear hc1 hc2 hY hJ hJx;refine callsIn_of_wp Tryz.func71 rfl trivial ?_ rfl;simp only[Tryz.ntmps71,List.size_toArray,List.length_cons,List.length_nil,Nat.reduceAdd,Nat.reduceSub,Array.replicate_succ,Array.replicate_zero,List.push_toArray,List.append_toArray,List.nil_append,List.cons_append];gi_wp2
 gi_loopw [4] (fun p wr=>∃ (pre rest:List Int) (z:Int),p = .int .i64 z/\Hid (xs=pre ++ rest/\Mk.Wy M z rest)/\Below w.heap.size w wr/\J pre wr) (fun p _=>(intOf p+1).toNat)
 case atStart=>exact ⟨[],xs,x,rfl,h_ ⟨rfl,hx⟩,hW,h0⟩
 case round=>
  clear hW h0 c1;obtain ⟨pre,rest,z,rfl,HX,hW,hJ⟩:=hrel;have c2:=HC2.out _ hW;have KH1:=KH.out _ z hW;by_cases hp:isP M z
  ·obtain ⟨k,e,rfl,he⟩:=hp.is;obtain ⟨ys,hrest,hys⟩:=HX.out.2.yes he;rw[decide_eq_true hp] at KH1
   have hu:e.up<(k:Int):=by
    rcases hM with rfl|hM
    simp at he
    ·rcases hM.ahead he with ⟨rfl,rfl⟩|⟨j,a,h,q1,_,q3,_⟩
     simp[entZ];omega
   have HU:=h_ hu;have HUP:=h_ (upZ_at he)
   have HY2:Hid (xs=(pre ++ [(k:Int)]) ++ ys/\Mk.Wy M e.up ys/\pre.length<xs.length):=h_ (by
    have h1:=HX.out.1;rw[hrest] at h1;refine ⟨by rw[h1];simp,hys,?_⟩;rw[h1,List.length_append,List.length_cons];omega)
   clear hrest hys hu he hp HX;generalize e.up=up at *;gi_wp2
   refine ⟨trivial,fun _=>by omega,(callsIn_wide.2 KH1).mono ?_⟩;rintro e1 W1 ⟨rfl,hb1⟩;obtain ⟨fn,tmps,assign,body,hy,hR⟩:=HY.out pre (k:Int) W1 (HJ.out _ _ _ hJ hb1) HY2.out.2.2;replace hW:=tb_ hW hb1;clear KH1 hb1 hJ;gi_wp2
   refine ⟨fun _=>by omega,hR.mono ?_⟩;rintro e2 W3 (⟨rfl,hJ3,hk3⟩|⟨rfl,hJx3⟩)
   ·replace hW:=hW.trans hk3;have c2:=HC2.out _ hW;have KU1:=KU.out _ (k:Int) hW;rw[HUP.out] at KU1;clear hR hy hk3 HUP;gi_wp2
    refine ⟨trivial,fun _=>by omega,(callsIn_wide.2 KU1).mono ?_⟩;rintro e4 W4 ⟨rfl,hb4⟩;have hJ4:=HJ.out _ _ _ hJ3 hb4;replace hW:=tb_ hW hb4;clear KU1 hb4 hJ3 c2;gi_wp2
    go_roundw
    case rel=>exact ⟨pre ++ [(k:Int)],ys,up,rfl,h_ ⟨HY2.out.1,HY2.out.2.1⟩,hW,hJ4⟩
    case measure=>have:=HU.out;simp[intOf];omega
   ·gi_wp2
    go_end0
    exact ⟨⟨_,rfl⟩,.inr ⟨pre ++ [(k:Int)],⟨ys,HY2.out.1.symm⟩,hJx3⟩⟩
  ·rw[decide_eq_false hp] at KH1;have hr:rest=[]:=HX.out.2.no hp;have HX2:Hid (pre=xs):=h_ (by rw[HX.out.1,hr,List.append_nil]);clear hr hp HX;gi_wp2
   refine ⟨trivial,fun _=>by omega,(callsIn_wide.2 KH1).mono ?_⟩;rintro e1 W1 ⟨rfl,hb1⟩;have hJ1:=HJ.out _ _ _ hJ hb1;clear KH1 hb1 hJ;gi_wp2
   refine ⟨fun _ h=>(by cases h),?_⟩;gi_wp2
   go_end0
   exact ⟨⟨_,rfl⟩,.inl ⟨pre,HX2.out,hJ1⟩⟩
theorem qaic_ (mq:Option Addr) (x:Int) (r:Ru) (M:List Ent) (S:Mk.St) (hM:M=[]\/Ok r M) (xs:List Int) (hx:Mk.Wy M x xs) (w:World)
  (KH:Hid (∀w' z,Below w.heap.size w w'->Calls Tryz.prog 37 #[.pointer mq,.int .i64 z] w' fun e w''=>e = .returned (.bool (decide (isP M z)))/\Below w'.heap.size w' w''))
  (KU:Hid (∀w' z,Below w.heap.size w w'->Calls Tryz.prog 47 #[.pointer mq,.int .i64 z] w' fun e w''=>e = .returned (.int .i64 (upZ M z))/\Below w'.heap.size w' w''))
  (KS:Hid (∀w' z,Below w.heap.size w w'->Calls Tryz.prog 13 #[.pointer mq,.int .i64 z] w' fun e w''=>e = .returned (.tuple #[.int .i64 ((Mk.sd M S z).1:Int),.bool (Mk.sd M S z).2])/\Below w'.heap.size w' w'')) :
  Ca_ 18 #[.pointer mq,.int .i64 x] w (.bool (xs.any (Mk.bad M S))):=by
 refine (callsIn_wide (n:=9)).1 ?_;refine callsIn_of_wp_marks Tryz.func18 rfl trivial ?_ rfl;simp only[Tryz.ntmps18,List.size_toArray,List.length_cons,List.length_nil,Nat.reduceAdd,Nat.reduceSub,Array.replicate_succ,Array.replicate_zero,List.push_toArray,List.append_toArray,List.nil_append,List.cons_append];have hB:Below w.heap.size w ((w.alloc (.cells #[.pointer mq] 41)).alloc (.cells #[.bool false] 4)):=((Below.refl _ _).alloc (Nat.le_refl _) _).alloc (by simp) _;have cR:Has ((w.alloc (.cells #[.pointer mq] 41)).alloc (.cells #[.bool false] 4)) (w.heap.size+1) #[.bool false] 4:=NN.Has.new1 _ #[.bool false] _;have cM:((w.alloc (.cells #[.pointer mq] 41)).alloc (.cells #[.bool false] 4)).cell? ⟨w.heap.size,0,none⟩=some (.pointer mq):=Has.cell (Has.alloc (Has.new #[.pointer mq] _) _) 0;gi_wp2
 generalize World.alloc _ _=v1 at *;obtain ⟨bM,hbM⟩:∃ b,b=w.heap.size:=⟨_,rfl⟩;obtain ⟨bR,hbR⟩:∃ b,b=w.heap.size+1:=⟨_,rfl⟩;rw[<-hbR] at cR |-;rw[<-hbM] at cM |-;have HBR:Hid (w.heap.size<=bR):=h_ (by omega);clear hbM hbR;refine ⟨trivial,(callsIn_wide.2 (mway_w mq x v1)).mono ?_⟩;rintro e v2 ⟨b1,b2,rfl,d1,d2,l1,l2,hb⟩;have HR:Hid (∀W,Below v2.heap.size v2 W->Has W bR #[.bool false] 4):=h_ fun W h=>qd_ h (qd_ hb cR cR.lt) (Nat.lt_of_lt_of_le cR.lt hb.size)
 have HM:Hid (∀W,Below v2.heap.size v2 W->W.cell? ⟨bM,0,none⟩=some (.pointer mq)):=h_ fun W h=>(h.cell (p:=⟨bM,0,none⟩) (Nat.lt_of_lt_of_le (block_lt_of_cell cM) hb.size)).trans ((hb.cell (p:=⟨bM,0,none⟩) (block_lt_of_cell cM)).trans cM)
 replace hB:=tb_ hB hb;clear hb cR cM;gi_wp2
 refine wpIn_rangeFunc_ownF rfl (by omega) (gf:=71) (lb:=#[.pointer (some ⟨b1,0,none⟩),.pointer (some ⟨b2,0,none⟩)]) rfl trivial (enters_of Tryz.func71 (by kernel_rfl) rfl)
  (qadh_ b1 b2 mq x r M hM xs hx v2 (h_ fun w' z hb'=>KH.out w' z (tb_ hB hb')) (h_ fun w' z hb'=>KU.out w' z (tb_ hB hb')) d1 d2 _ (by omega)) belowK_t (belowK_b (Nat.le_refl _)) (Below.refl _ _) (fun _=>rfl)
  (fun pre W=>(∀y ∈ pre,Mk.bad M S y=false)/\Below v2.heap.size v2 W)
  (fun c pre W=>(c = .ret/\(∃y ∈ pre,Mk.bad M S y=true)/\W.cell? ⟨bR,0,none⟩=some (.bool true))/\Below w.heap.size w W)
  (OwnFrom.and (Own.from (fun _ A B row hs hg hr=>hs) _) (ownFrom_below (Nat.le_refl _) (Nat.le_refl _)))
  (fun c=>OwnFrom.and (Own.from (fun _ A B row hs hg hr=>⟨hs.1,hs.2.1,cell_kept hs.2.2 hg hr⟩) _) (ownFrom_below (Nat.le_refl _) hB.size))
  ⟨by simp,Below.refl _ _⟩
  (fun z=>{ tmps:=#[.pointer mq,.int .i64 x,.pointer (some ⟨bM,0,none⟩),undef,.pointer (some ⟨bR,0,none⟩),.int .i64 z,undef,undef,.pointer mq,.int .i64 x,.func (.func 71) #[] #[.pointer (some ⟨b1,0,none⟩),.pointer (some ⟨b2,0,none⟩)],.int .i64 z,undef,undef,undef,undef,undef,undef,undef,undef,undef,undef,undef],defers:=[] }) ?assign ?body ?done ?stop
 case assign=>
  intro l z W K hK;gi_wp2
  exact hK
 case body=>
  rintro l pre z W ⟨hp,hW2⟩ _;have hBW:=tb_ hB hW2;have KS1:=KS.out W z hBW;have hbad:Mk.bad M S z=((Mk.sd M S z).1==2 || (Mk.sd M S z).2):=rfl;generalize (Mk.sd M S z).1=s at *;generalize (Mk.sd M S z).2=o at *;have HXQ:=h_ hbad;have HP:=h_ hp;have hcm:=HM.out _ hW2;clear hbad hp d1 d2 l1 l2;gi_wp2
  refine ⟨trivial,(CallsIn.inRound l (callsIn_wide.2 KS1)).mono ?_⟩;rintro e W2 ⟨rfl,hb2⟩;have hn2:Below v2.heap.size W W2:=hb2.mono hW2.size;replace hW2:=hW2.trans hn2;have hcR:=HR.out _ hW2;have hcr:=hcR.cell 0;have hfr:=hcR.free 0;replace hBW:=tb_ hBW hb2;have hk2:=qwp_ hb2;clear KS1 hb2 hcm;have HRet:Hid (Mk.bad M S z=true->KeepsOthers W (W2.setCell ⟨bR,0,none⟩ (.bool true))/\((∃y ∈ pre ++ [z],Mk.bad M S y=true)/\(W2.setCell ⟨bR,0,none⟩ (.bool true)).cell? ⟨bR,0,none⟩=some (.bool true))/\Below w.heap.size w (W2.setCell ⟨bR,0,none⟩ (.bool true))):=h_ fun hh=>⟨hk2.trans (KeepsOthers.setCell _ _ _),⟨⟨z,List.mem_append.2 (.inr (List.mem_singleton.2 rfl)),hh⟩,World.cell?_setCell_same' _ _ _ (by rw[hcr];rfl)⟩,hBW.setCell (p:=⟨bR,0,none⟩) HBR.out _⟩
  clear hcR;by_cases hs:s=2
  ·have h1:((s:Int)==2)=true:=by rw[hs];rfl
   have hb:Mk.bad M S z=true:=by rw[HXQ.out];simp[hs]
   clear hs;gi_wp2
   exact ⟨(HRet.out hb).1,⟨rfl,(HRet.out hb).2.1⟩,(HRet.out hb).2.2⟩
  ·have h1:((s:Int)==2)=false:=by simpa using fun h=>hs (by omega)
   cases o
   ·have hb:Mk.bad M S z=false:=(by rw[HXQ.out];simpa using hs);clear hs;gi_wp2
    exact ⟨hk2,hn2,fun y hy=>(List.mem_append.1 hy).elim (HP.out y) (fun hh=>by rw[List.mem_singleton.1 hh];exact hb),hW2⟩
   ·have hb:Mk.bad M S z=true:=(by rw[HXQ.out];simp);clear hs;gi_wp2
    exact ⟨(HRet.out hb).1,⟨rfl,(HRet.out hb).2.1⟩,(HRet.out hb).2.2⟩
 case done=>
  rintro D ys W hD rfl ⟨hne,hW2⟩ hK;have hcR:=HR.out _ hW2;have hcr:=hcR.cell 0;have hfr:=hcR.free 0;have hBW:=tb_ hB hW2;gi_wp2
  have hK':=(KeepsOthers.setCell W ⟨bR,0,none⟩ (.bool false)).same D _ hK rfl;refine ⟨by simp,.inl ⟨_,_,rfl,run_takeDeferred hK',?_⟩⟩;have hc5:=cell_kept (World.cell?_setCell_same' W ⟨bR,0,none⟩ (.bool false) (by rw[hcr];rfl)) (grownBy_putObj' _ D (.deferred none)) (fun r e=>by cases e;exact ⟨_,hK',rfl⟩);refine ⟨.bool false,?_,by rw[show ys.any (Mk.bad M S)=false from List.any_eq_false.2 fun y hy=>by rw[hne y hy];simp],(hBW.setCell (p:=⟨bR,0,none⟩) HBR.out _).trans (belowK_b (w:=w) (Nat.le_refl _) _ D _ _ (Nat.le_trans hB.size hD) hK' rfl rfl)⟩;simp[results,Tryz.f18,go_sem,hc5]
 case stop=>
  rintro D c pre W hD hpre ⟨⟨rfl,⟨y,hy,hyb⟩,hcr⟩,hBW⟩ hK;have hres:(xs.any (Mk.bad M S))=true:=List.any_eq_true.2 ⟨y,hpre.subset hy,hyb⟩;gi_wp2
  refine ⟨by simp,.inl ⟨_,_,rfl,run_takeDeferred hK,?_⟩⟩;have hc5:=cell_kept hcr (grownBy_putObj' _ D (.deferred none)) (fun r e=>by cases e;exact ⟨_,hK,rfl⟩);refine ⟨.bool true,?_,by rw[hres],hBW.trans (belowK_b (w:=w) (Nat.le_refl _) W D _ _ (Nat.le_trans hB.size hD) hK rfl rfl)⟩;simp[results,Tryz.f18,go_sem,hc5]
theorem valid_w (mq:Option Addr) (x:Int) (r:Ru) (M:List Ent) (S:Mk.St) (hM:M=[]\/Ok r M) (xs:List Int) (hx:Mk.Wy M x xs) (w:World)
  (KH:Hid (∀w' z,Below w.heap.size w w'->Calls Tryz.prog 37 #[.pointer mq,.int .i64 z] w' fun e w''=>e = .returned (.bool (decide (isP M z)))/\Below w'.heap.size w' w''))
  (KU:Hid (∀w' z,Below w.heap.size w w'->Calls Tryz.prog 47 #[.pointer mq,.int .i64 z] w' fun e w''=>e = .returned (.int .i64 (upZ M z))/\Below w'.heap.size w' w''))
  (KS:Hid (∀w' z,Below w.heap.size w w'->Calls Tryz.prog 13 #[.pointer mq,.int .i64 z] w' fun e w''=>e = .returned (.tuple #[.int .i64 ((Mk.sd M S z).1:Int),.bool (Mk.sd M S z).2])/\Below w'.heap.size w' w'')) :
  Ca_ 20 #[.pointer mq,.int .i64 x] w (.bool (xs.all (Mk.good M S) && decide (isP M x))):=by
 refine (callsIn_wide (n:=9)).1 ?_;refine callsIn_of_wp_marks Tryz.func20 rfl trivial ?_ rfl;simp only[Tryz.ntmps20,List.size_toArray,List.length_cons,List.length_nil,Nat.reduceAdd,Nat.reduceSub,Array.replicate_succ,Array.replicate_zero,List.push_toArray,List.append_toArray,List.nil_append,List.cons_append];have hB:Below w.heap.size w ((w.alloc (.cells #[.pointer mq] 41)).alloc (.cells #[.bool false] 4)):=((Below.refl _ _).alloc (Nat.le_refl _) _).alloc (by simp) _;have cR:Has ((w.alloc (.cells #[.pointer mq] 41)).alloc (.cells #[.bool false] 4)) (w.heap.size+1) #[.bool false] 4:=NN.Has.new1 _ #[.bool false] _;have cM:((w.alloc (.cells #[.pointer mq] 41)).alloc (.cells #[.bool false] 4)).cell? ⟨w.heap.size,0,none⟩=some (.pointer mq):=Has.cell (Has.alloc (Has.new #[.pointer mq] _) _) 0;gi_wp2
 generalize World.alloc _ _=v1 at *;obtain ⟨bM,hbM⟩:∃ b,b=w.heap.size:=⟨_,rfl⟩;obtain ⟨bR,hbR⟩:∃ b,b=w.heap.size+1:=⟨_,rfl⟩;rw[<-hbR] at cR |-;rw[<-hbM] at cM |-;have HBR:Hid (w.heap.size<=bR):=h_ (by omega);clear hbM hbR;refine ⟨trivial,(callsIn_wide.2 (mway_w mq x v1)).mono ?_⟩;rintro e v2 ⟨b1,b2,rfl,d1,d2,l1,l2,hb⟩;have HR:Hid (∀W,Below v2.heap.size v2 W->Has W bR #[.bool false] 4):=h_ fun W h=>qd_ h (qd_ hb cR cR.lt) (Nat.lt_of_lt_of_le cR.lt hb.size)
 have HM:Hid (∀W,Below v2.heap.size v2 W->W.cell? ⟨bM,0,none⟩=some (.pointer mq)):=h_ fun W h=>(h.cell (p:=⟨bM,0,none⟩) (Nat.lt_of_lt_of_le (block_lt_of_cell cM) hb.size)).trans ((hb.cell (p:=⟨bM,0,none⟩) (block_lt_of_cell cM)).trans cM)
 replace hB:=tb_ hB hb;clear hb cR cM;gi_wp2
 refine wpIn_rangeFunc_ownF rfl (by omega) (gf:=71) (lb:=#[.pointer (some ⟨b1,0,none⟩),.pointer (some ⟨b2,0,none⟩)]) rfl trivial (enters_of Tryz.func71 (by kernel_rfl) rfl)
  (qadh_ b1 b2 mq x r M hM xs hx v2 (h_ fun w' z hb'=>KH.out w' z (tb_ hB hb')) (h_ fun w' z hb'=>KU.out w' z (tb_ hB hb')) d1 d2 _ (by omega)) belowK_t (belowK_b (Nat.le_refl _)) (Below.refl _ _) (fun _=>rfl)
  (fun pre W=>(∀y ∈ pre,Mk.good M S y=true)/\Below v2.heap.size v2 W)
  (fun c pre W=>(c = .ret/\(∃y ∈ pre,Mk.good M S y=false)/\W.cell? ⟨bR,0,none⟩=some (.bool false))/\Below w.heap.size w W)
  (OwnFrom.and (Own.from (fun _ A B row hs hg hr=>hs) _) (ownFrom_below (Nat.le_refl _) (Nat.le_refl _)))
  (fun c=>OwnFrom.and (Own.from (fun _ A B row hs hg hr=>⟨hs.1,hs.2.1,cell_kept hs.2.2 hg hr⟩) _) (ownFrom_below (Nat.le_refl _) hB.size))
  ⟨by simp,Below.refl _ _⟩
  (fun z=>{ tmps:=#[.pointer mq,.int .i64 x,.pointer (some ⟨bM,0,none⟩),undef,.pointer (some ⟨bR,0,none⟩),.int .i64 z,undef,undef,.pointer mq,.int .i64 x,.func (.func 71) #[] #[.pointer (some ⟨b1,0,none⟩),.pointer (some ⟨b2,0,none⟩)],.int .i64 z,undef,undef,undef,undef,undef,undef,undef,undef,undef,undef,undef,undef,undef,undef],defers:=[] }) ?assign ?body ?done ?stop
 case assign=>
  intro l z W K hK;gi_wp2
  exact hK
 case body=>
  rintro l pre z W ⟨hp,hW2⟩ _;have hBW:=tb_ hB hW2;have KS1:=KS.out W z hBW;have hbad:Mk.good M S z=((Mk.sd M S z).1==1 && !(Mk.sd M S z).2):=rfl;generalize (Mk.sd M S z).1=s at *;generalize (Mk.sd M S z).2=o at *;have HXQ:=h_ hbad;have HP:=h_ hp;have hcm:=HM.out _ hW2;clear hbad hp d1 d2 l1 l2;gi_wp2
  refine ⟨trivial,(CallsIn.inRound l (callsIn_wide.2 KS1)).mono ?_⟩;rintro e W2 ⟨rfl,hb2⟩;have hn2:Below v2.heap.size W W2:=hb2.mono hW2.size;replace hW2:=hW2.trans hn2;have hcR:=HR.out _ hW2;have hcr:=hcR.cell 0;have hfr:=hcR.free 0;replace hBW:=tb_ hBW hb2;have hk2:=qwp_ hb2;clear KS1 hb2 hcm;have HRet:Hid (Mk.good M S z=false->KeepsOthers W (W2.setCell ⟨bR,0,none⟩ (.bool false))/\((∃y ∈ pre ++ [z],Mk.good M S y=false)/\(W2.setCell ⟨bR,0,none⟩ (.bool false)).cell? ⟨bR,0,none⟩=some (.bool false))/\Below w.heap.size w (W2.setCell ⟨bR,0,none⟩ (.bool false))):=h_ fun hh=>⟨hk2.trans (KeepsOthers.setCell _ _ _),⟨⟨z,List.mem_append.2 (.inr (List.mem_singleton.2 rfl)),hh⟩,World.cell?_setCell_same' _ _ _ (by rw[hcr];rfl)⟩,hBW.setCell (p:=⟨bR,0,none⟩) HBR.out _⟩
  clear hcR;by_cases hs:s ≠ 1
  ·have h1:((s:Int) != 1)=true:=by simpa using fun h=>hs (by omega)
   have hb:Mk.good M S z=false:=by rw[HXQ.out];simp[hs]
   clear hs;gi_wp2
   exact ⟨(HRet.out hb).1,⟨rfl,(HRet.out hb).2.1⟩,(HRet.out hb).2.2⟩
  ·have h1:((s:Int) != 1)=false:=by rw[Decidable.not_not.1 hs];rfl
   cases o
   ·have hb:Mk.good M S z=true:=(by rw[HXQ.out];simpa using hs);clear hs;gi_wp2
    exact ⟨hk2,hn2,fun y hy=>(List.mem_append.1 hy).elim (HP.out y) (fun hh=>by rw[List.mem_singleton.1 hh];exact hb),hW2⟩
   ·have hb:Mk.good M S z=false:=(by rw[HXQ.out];simp);clear hs;gi_wp2
    exact ⟨(HRet.out hb).1,⟨rfl,(HRet.out hb).2.1⟩,(HRet.out hb).2.2⟩
 case done=>
  rintro D ys W hD rfl ⟨hne,hW2⟩ hK;have hcm:=HM.out _ hW2;have hBW:=tb_ hB hW2;have KH1:=KH.out _ x hBW;generalize hg:decide (isP M x)=g at *;gi_wp2
  refine ⟨trivial,(callsIn_wide.2 KH1).mono ?_⟩;rintro e W2 ⟨rfl,hb2⟩;replace hK:=(hb2.block D (Array.getElem?_eq_some_iff.1 hK).1).trans hK;replace hW2:=tb_ hW2 hb2;replace hBW:=tb_ hBW hb2;have hcR:=HR.out _ hW2;have hcr:=hcR.cell 0;have hfr:=hcR.free 0;clear KH1 hb2 hcm;gi_wp2
  have hK':=(KeepsOthers.setCell W2 ⟨bR,0,none⟩ (.bool g)).same D _ hK rfl;refine ⟨by simp,.inl ⟨_,_,rfl,run_takeDeferred hK',?_⟩⟩;have hc5:=cell_kept (World.cell?_setCell_same' W2 ⟨bR,0,none⟩ (.bool g) (by rw[hcr];rfl)) (grownBy_putObj' _ D (.deferred none)) (fun r e=>by cases e;exact ⟨_,hK',rfl⟩);refine ⟨.bool g,?_,by rw[show ys.all (Mk.good M S)=true from List.all_eq_true.2 hne,Bool.true_and,hg],(hBW.setCell (p:=⟨bR,0,none⟩) HBR.out _).trans (belowK_b (w:=w) (Nat.le_refl _) _ D _ _ (Nat.le_trans hB.size hD) hK' rfl rfl)⟩;simp[results,Tryz.f20,go_sem,hc5]
 case stop=>
  rintro D c pre W hD hpre ⟨⟨rfl,⟨y,hy,hyb⟩,hcr⟩,hBW⟩ hK;have hres:(xs.all (Mk.good M S) && decide (isP M x))=false:=by rw[show xs.all (Mk.good M S)=false from List.all_eq_false.2 ⟨y,hpre.subset hy,by rw[hyb];simp⟩];rfl
  gi_wp2
  refine ⟨by simp,.inl ⟨_,_,rfl,run_takeDeferred hK,?_⟩⟩;have hc5:=cell_kept hcr (grownBy_putObj' _ D (.deferred none)) (fun r e=>by cases e;exact ⟨_,hK,rfl⟩);refine ⟨.bool false,?_,by rw[hres],hBW.trans (belowK_b (w:=w) (Nat.le_refl _) W D _ _ (Nat.le_trans hB.size hD) hK rfl rfl)⟩;simp[results,Tryz.f20,go_sem,hc5]
end Go.Proofs.YtbhjpeadcimchaaGreatDoor.An
namespace Go.Proofs.YtbhjpeadcimchaaGreatDoor.An
open Go.RowKit Mem Sc
open Ar (Ent Ru entZ Ok isP)
theorem child_w (mq:Option Addr) (x z:Int) (g:Bool) (w:World) (KU:HK_ w 47 #[.pointer mq,.int .i64 x] (.int .i64 z)) (KF:HK_ w 18 #[.pointer mq,.int .i64 z] (.bool g)) :
  Ca_ 19 #[.pointer mq,.int .i64 x] w (.bool g):=by
 have hB:=Below.refl w.heap.size w;go_enter Tryz.func19,Tryz.ntmps19;go_wp2_with fail
 refine (KU.out _ hB).mono ?_;rintro e v1 ⟨rfl,hb⟩;replace hB:=tb_ hB hb;clear hb;go_wp2_with fail
 refine (KF.out _ hB).mono ?_;rintro e v2 ⟨rfl,hb⟩;replace hB:=tb_ hB hb;clear hb;go_wp2_with fail
 go_ret;exact ⟨rfl,hB⟩
theorem sound_w (mq:Option Addr) (x:Int) (g:Bool) (w:World) (KF:HK_ w 18 #[.pointer mq,.int .i64 x] (.bool g)) :
  Ca_ 49 #[.pointer mq,.int .i64 x] w (.bool (!g)):=by
 have hB:=Below.refl w.heap.size w;go_enter Tryz.func49,Tryz.ntmps49;go_wp2_with fail
 refine (KF.out _ hB).mono ?_;rintro e v1 ⟨rfl,hb⟩;replace hB:=tb_ hB hb;clear hb;go_wp2_with fail
 go_ret;exact ⟨rfl,hB⟩
theorem qabj_ (mb:Nat) (x:Int) (g g0:Bool) (h0:(x==0)=g0) (w:World) (KH:HK_ w 37 #[.pointer (some ⟨mb,0,none⟩),.int .i64 x] (.bool g)) :
  Ca_ 42 #[.pointer (some ⟨mb,0,none⟩),.int .i64 x] w (.int .i64 (if g then (if g0 then 1 else 0) else 5)):=by
 have hB:=Below.refl w.heap.size w;go_enter Tryz.func42,Tryz.ntmps42;go_wp2_with fail
 refine (KH.out _ hB).mono ?_;rintro e v1 ⟨rfl,hb⟩;replace hB:=tb_ hB hb;clear hb;cases g
 ·go_wp2_with fail
  go_ret;exact ⟨rfl,hB⟩
 ·cases g0
  all_goals
   go_wp2_with fail
   go_ret;exact ⟨rfl,hB⟩
def TopR (H:Nat->Nat->Bool) (P:Nat->Bool) (n k:Nat) (b:Int):Prop :=
 (b = -1/\∀ i,k<=i->i<n->P i=false)\/∃ c:Nat,b=(c:Int)/\k<=c/\c<n/\P c=true/\∀ i,k<=i->i<n->P i=true->i=c\/H c i=true
theorem TopR.start (H:Nat->Nat->Bool) (P:Nat->Bool) (n:Nat):TopR H P n n (-1):=.inl ⟨rfl,fun i h1 h2=>by omega⟩
theorem TopR.no {H:Nat->Nat->Bool} {P:Nat->Bool} {n k:Nat} {b:Int} (h:TopR H P n (k+1) b) (hp:P k=false):TopR H P n k b:=by
 rcases h with ⟨h1,h2⟩|⟨c,h1,h2,h3,h4,h5⟩
 refine .inl ⟨h1,fun i hi hn=>?_⟩;by_cases e:i=k;rw[e];exact hp;exact h2 i (by omega) hn;refine .inr ⟨c,h1,by omega,h3,h4,fun i hi hn hpi=>?_⟩;by_cases e:i=k;rw[e,hp] at hpi;cases hpi;exact h5 i (by omega) hn hpi
theorem TopR.new {H:Nat->Nat->Bool} (t:Tp.Tot H) {P:Nat->Bool} {n k:Nat} {b:Int} (h:TopR H P n (k+1) b) (hk:k<n) (hp:P k=true) (hb:∀ c:Nat,b=(c:Int)->H k c=true):TopR H P n k (k:Int):=by
 refine .inr ⟨k,rfl,Nat.le_refl _,hk,hp,fun i hi hn hpi=>?_⟩;by_cases e:i=k;exact .inl e
 ·rcases h with ⟨h1,h2⟩|⟨c,h1,h2,h3,h4,h5⟩
  rw[h2 i (by omega) hn] at hpi;cases hpi
  ·have hkc:=hb c h1;rcases h5 i (by omega) hn hpi with rfl|h6
   exact .inr hkc;exact .inr (t.trans _ _ _ hkc h6)
theorem TopR.old {H:Nat->Nat->Bool} (t:Tp.Tot H) {P:Nat->Bool} {n k c:Nat} (h:TopR H P n (k+1) (c:Int)) (hb:H k c=false):TopR H P n k (c:Int):=by
 rcases h with ⟨h1,h2⟩|⟨d,h1,h2,h3,h4,h5⟩
 omega
 ·obtain rfl:c=d:=by omega
  refine .inr ⟨c,rfl,by omega,h3,h4,fun i hi hn hpi=>?_⟩;by_cases e:i=k;subst e;refine .inr ((t.tri _ _ (show i ≠ c by omega)).resolve_left fun hh=>?_);rw[hb] at hh;cases hh;exact h5 i (by omega) hn hpi
theorem TopR.top {H:Nat->Nat->Bool} (t:Tp.Tot H) {P:Nat->Bool} {n:Nat} {b:Int} (h:TopR H P n 0 b) (hn:0<n) (h0:P 0=true):b=(Mk.top H P n:Int):=by
 rcases h with ⟨h1,h2⟩|⟨c,h1,h2,h3,h4,h5⟩
 rw[h2 0 (Nat.le_refl _) hn] at h0;cases h0;rw[h1,Mk.qagn_ t h3 h4 h0 fun i hi hp=>h5 i (Nat.zero_le _) hi hp]
theorem HvI.best {r:Ru} {M:List Ent} {k:Nat} {b:Int} (hk:k<M.length) (hb:b = -1\/∃ c:Nat,b=(c:Int)/\c<M.length):∃ g,HvI r M (k:Int) b g/\(b = -1->g=true)/\∀ c:Nat,b=(c:Int)->g=Hv r M k c:=by
 rcases hb with rfl|⟨c,rfl,hc⟩
 exact ⟨true,.inr (.inl ⟨Mk.qdv_.2 hk,fun h=>absurd h.1 (by omega),rfl⟩),fun _=>rfl,fun c h=>by omega⟩;exact ⟨_,HvI.place hk hc,fun h=>by omega,fun d h=>by rw[show d=c by omega]⟩
theorem TopR.place {H:Nat->Nat->Bool} {P:Nat->Bool} {n k:Nat} {b:Int} (h:TopR H P n k b):b = -1\/∃ c:Nat,b=(c:Int)/\c<n:=by
 rcases h with ⟨h1,_⟩|⟨c,h1,_,h3,_⟩
 exact .inl h1;exact .inr ⟨c,h1,h3⟩
theorem qlu_ (mq q:Option Addr) (g:FuncId) (r:Ru) (M:List Ent) (n:Nat) (hn:n=M.length) (hn9:n<=1000) (Pk:Nat->Bool) (w:World) (eg:∀ args w,(callFunc g args).run Tryz.prog w = .ok (.enter g args) w)
  (KH:Hid (MHeld w (.pointer mq) q)) (KL:HK_ w 44 #[.pointer q] (.int .i64 (n:Int)))
  (KV:Hid (∀w' (x y:Int) v,Below w.heap.size w w'->HvI r M x y v->Calls Tryz.prog 27 #[.pointer q,.int .i64 x,.int .i64 y] w' fun e w''=>e = .returned (.bool v)/\Below w'.heap.size w' w''))
  (KP:Hid (∀w' (i:Nat),i<n->Below w.heap.size w w'->Calls Tryz.prog g #[.pointer mq,.int .i64 (i:Int)] w' fun e w''=>e = .returned (.bool (Pk i))/\Below w'.heap.size w' w'')) :
  Calls Tryz.prog 48 #[.pointer mq,.func (.func g) #[.pointer mq] #[]] w fun e w'=>∃ b,e = .returned (.int .i64 b)/\TopR (Hv r M) Pk n 0 b/\Below w.heap.size w w':=by
 have HN:=h_ hn;clear hn;have hB:=Below.refl w.heap.size w;go_enter Tryz.func48,Tryz.ntmps48;go_wp2_with fail
 refine (KH.out _ hB).mono ?_;rintro e v1 ⟨rfl,hb⟩;replace hB:=tb_ hB hb;clear hb;obtain ⟨z0,hz0⟩:∃ z0:Int,z0=(n:Int) - 1:=⟨_,rfl⟩;have wz:IntKind.i64.wrap ((n:Int) - 1)=z0:=by rw[IntKind.wrap_i64];omega
 have HZ0:=h_ hz0;clear hz0;go_wp2_with fail
 refine (KL.out _ hB).mono ?_;rintro e v2 ⟨rfl,hb⟩;replace hB:=tb_ hB hb;clear hb;go_wp2_with fail
 clear wz;go_loopw [5,6] (fun s5 s6 wr=>∃ (b z:Int) (k:Nat),s5 = .int .i64 b/\s6 = .int .i64 z/\Hid (z=(k:Int) - 1/\k<=n/\TopR (Hv r M) Pk n k b)/\Below w.heap.size w wr) (fun _ s6 _=>(intOf s6+1).toNat)
 case atStart=>exact ⟨-1,z0,n,rfl,rfl,h_ ⟨HZ0.out,Nat.le_refl _,TopR.start _ _ _⟩,hB⟩
 case round=>
  clear hB HZ0;obtain ⟨b,z,k,rfl,rfl,HX,hB⟩:=hrel;cases k with
  | zero=>
   obtain rfl:z = -1:=by have:=HX.out.1;omega
   go_wp2_with fail
   go_ret;exact ⟨b,rfl,HX.out.2.2,hB⟩
  | succ j=>
   obtain rfl:z=(j:Int):=by have:=HX.out.1;omega
   have hjn:j<n:=by have:=HX.out.2.1;omega
   obtain ⟨v,hv,hv1,hv2⟩:=HvI.best (r:=r) (show j<M.length by rw[<-HN.out];exact hjn) (by have:=HX.out.2.2.place;rw[HN.out] at this;exact this);have HV:=h_ hv;have HV1:Hid ((b = -1->v=true)/\∀ c:Nat,b=(c:Int)->v=Hv r M j c):=h_ ⟨hv1,hv2⟩;have HT:=h_ HX.out.2.2;have HJ:=h_ hjn;have hj0:(0:Int)<=(j:Int):=by omega
   obtain ⟨z1,hz1⟩:∃ z1:Int,z1=(j:Int) - 1:=⟨_,rfl⟩;have wz:IntKind.i64.wrap ((j:Int) - 1)=z1:=by rw[IntKind.wrap_i64];omega
   have HZ1:=h_ hz1;clear hv hv1 hv2 hjn hz1 HX;go_wp2_with fail
   refine (KH.out _ hB).mono ?_;rintro e v3 ⟨rfl,hb⟩;replace hB:=tb_ hB hb;clear hb;go_wp2_with fail
   refine (KV.out _ _ _ _ hB HV.out).mono ?_;rintro e v4 ⟨rfl,hb⟩;replace hB:=tb_ hB hb;clear hb HV;have KP1:=KP.out _ j HJ.out hB;cases v
   ·have HT2:Hid (TopR (Hv r M) Pk n j b):=h_ (by
     rcases HT.out.place with e|⟨c,e,_⟩
     have:=HV1.out.1 e;cases this;have h1:=HT.out;rw[e] at h1 |-;exact h1.old (Hv_tot r M) (HV1.out.2 c e).symm)
    clear KP1;(go_wp2_with fail);go_roundw
    case rel=>exact ⟨b,z1,j,rfl,rfl,h_ ⟨HZ1.out,by have:=HJ.out;omega,HT2.out⟩,hB⟩
    case measure=>have:=HZ1.out;simp[intOf];omega
   ·cases hpk:Pk j
    all_goals
     rw[hpk] at KP1;go_wp2_with (go_at_fn g;refine KP1.mono ?_;rintro e v5 ⟨rfl,hb⟩)
    ·replace hB:=tb_ hB hb;go_roundw
     case rel=>exact ⟨b,z1,j,rfl,rfl,h_ ⟨HZ1.out,by have:=HJ.out;omega,HT.out.no hpk⟩,hB⟩
     case measure=>have:=HZ1.out;simp[intOf];omega
    ·replace hB:=tb_ hB hb;go_roundw
     case rel=>exact ⟨(j:Int),z1,j,rfl,rfl,h_ ⟨HZ1.out,by have:=HJ.out;omega,HT.out.new (Hv_tot r M) HJ.out hpk fun c hc=>(HV1.out.2 c hc).symm⟩,hB⟩
     case measure=>have:=HZ1.out;simp[intOf];omega
open Mk (chg childB failB inval pb recon sd validB verdict word)
structure MkR (w:World) (mq q:Option Addr) (r:Ru) (M:List Ent) (S:Mk.St):Prop where
 held:MHeld w (.pointer mq) q
 has:∀ w' z,Below w.heap.size w w'->Calls Tryz.prog 37 #[.pointer mq,.int .i64 z] w' fun e w''=>e = .returned (.bool (decide (isP M z)))/\Below w'.heap.size w' w''
 ahead:∀ w' z,Below w.heap.size w w'->Calls Tryz.prog 47 #[.pointer mq,.int .i64 z] w' fun e w''=>e = .returned (.int .i64 (upZ M z))/\Below w'.heap.size w' w''
 said:∀ w' z,Below w.heap.size w w'->Calls Tryz.prog 13 #[.pointer mq,.int .i64 z] w' fun e w''=>e = .returned (.tuple #[.int .i64 ((sd M S z).1:Int),.bool (sd M S z).2])/\Below w'.heap.size w' w''
 len:∀ w',Below w.heap.size w w'->Calls Tryz.prog 44 #[.pointer q] w' fun e w''=>e = .returned (.int .i64 (M.length:Int))/\Below w'.heap.size w' w''
 heavier:∀ w' (x y:Int) v,Below w.heap.size w w'->HvI r M x y v->Calls Tryz.prog 27 #[.pointer q,.int .i64 x,.int .i64 y] w' fun e w''=>e = .returned (.bool v)/\Below w'.heap.size w' w''
 ok:M=[]\/Ok r M
 few:M.length<=1000
section
variable {w w':World} {mq q:Option Addr} {r:Ru} {M:List Ent} {S:Mk.St}
theorem MkR.below (h:MkR w mq q r M S) (hb:Below w.heap.size w w'):MkR w' mq q r M S :=
 ⟨fun w2 h2=>h.held w2 (tb_ hb h2),fun w2 z h2=>h.has w2 z (tb_ hb h2),fun w2 z h2=>h.ahead w2 z (tb_ hb h2),fun w2 z h2=>h.said w2 z (tb_ hb h2),fun w2 h2=>h.len w2 (tb_ hb h2),fun w2 x y v h2=>h.heavier w2 x y v (tb_ hb h2),h.ok,h.few⟩
theorem wy_ex (hM:M=[]\/Ok r M) (x:Int):∃ xs,Mk.Wy M x xs/\failB M S x=xs.any (Mk.bad M S)/\validB M S x=(xs.all (Mk.good M S) && decide (isP M x)):=by
 rcases hM with rfl|hM
 refine ⟨[],.inr ⟨qbd_ x,rfl⟩,Mk.qgi_ (qbd_ x),?_⟩;rw[Mk.qhp_ (qbd_ x),decide_eq_false (qbd_ x),Bool.and_false];obtain ⟨xs,h1,_⟩:=Mk.Wy.ex hM x;refine ⟨xs,h1,h1.fails hM,?_⟩;by_cases hp:isP M x;rw[h1.valids hM hp,decide_eq_true hp,Bool.and_true];rw[Mk.qhp_ hp,decide_eq_false hp,Bool.and_false]
theorem MkR.failed (h:MkR w mq q r M S) (x:Int):Calls Tryz.prog 18 #[.pointer mq,.int .i64 x] w fun e w''=>e = .returned (.bool (failB M S x))/\Below w.heap.size w w'':=by
 obtain ⟨xs,h1,h2,_⟩:=wy_ex (S:=S) h.ok x;rw[h2];exact qaic_ mq x r M S h.ok xs h1 w (h_ h.has) (h_ h.ahead) (h_ h.said)
theorem MkR.valid (h:MkR w mq q r M S) (x:Int):Calls Tryz.prog 20 #[.pointer mq,.int .i64 x] w fun e w''=>e = .returned (.bool (validB M S x))/\Below w.heap.size w w'':=by
 obtain ⟨xs,h1,_,h2⟩:=wy_ex (S:=S) h.ok x;rw[h2];exact valid_w mq x r M S h.ok xs h1 w (h_ h.has) (h_ h.ahead) (h_ h.said)
theorem qwq_ (hM:M=[]\/Ok r M) (x:Int):childB M S x=failB M S (upZ M x):=by
 by_cases hp:isP M x
 ·obtain ⟨n,e,rfl,he⟩:=hp.is;rcases hM with rfl|hM
  simp at he;rw[Mk.qaaz_ hM he,upZ_at he]
 rw[Mk.qlr_ hp,qadf_ hp,Mk.qgi_ fun h=>absurd h.1 (by omega)]
theorem MkR.child (h:MkR w mq q r M S) (x:Int):Calls Tryz.prog 19 #[.pointer mq,.int .i64 x] w fun e w''=>e = .returned (.bool (childB M S x))/\Below w.heap.size w w'':=by
 rw[qwq_ h.ok];exact child_w mq x (upZ M x) _ w (h_ fun w' hb=>h.ahead w' x hb) (h_ fun _ hb=>(h.below hb).failed _)
theorem MkR.sound (h:MkR w mq q r M S) (x:Int):Calls Tryz.prog 49 #[.pointer mq,.int .i64 x] w fun e w''=>e = .returned (.bool (!failB M S x))/\Below w.heap.size w w'':=sound_w mq x _ w (h_ fun _ hb=>(h.below hb).failed _)
theorem MkR.best_any (h:MkR w mq q r M S):Calls Tryz.prog 21 #[.pointer mq] w fun e w'=>∃ b,e = .returned (.int .i64 b)/\TopR (Hv r M) (fun i=>validB M S (i:Int)) M.length 0 b/\Below w.heap.size w w':=by
 have K:=h_ fun w' hb=>qlu_ mq q 20 r M M.length rfl h.few (fun i=>validB M S (i:Int)) w' (enters_of Tryz.func20 (by kernel_rfl) rfl) (h_ (h.below hb).held) (h_ (h.below hb).len) (h_ (h.below hb).heavier) (h_ fun w'' i _ hb'=>((h.below hb).below hb').valid (i:Int))
 have hB:=Below.refl w.heap.size w;go_enter Tryz.func21,Tryz.ntmps21;go_wp2_with fail
 refine (K.out _ hB).mono ?_;rintro e v1 ⟨b,rfl,hb,hb2⟩;replace hB:=tb_ hB hb2;have HT:=h_ hb;clear hb hb2 K;go_wp2_with fail
 go_ret;exact ⟨b,rfl,HT.out,hB⟩
theorem MkR.best (h:MkR w mq q r M S) (hM:Ok r M) (h0:(fun i=>validB M S (i:Int)) 0=true):Calls Tryz.prog 21 #[.pointer mq] w fun e w''=>e = .returned (.int .i64 (Mk.top (Hv r M) (fun i=>validB M S (i:Int)) M.length:Int))/\Below w.heap.size w w'':=by
 refine h.best_any.mono ?_;rintro e w' ⟨b,rfl,h1,hb⟩;rw[h1.top (Hv_tot r M) hM.pos h0];exact ⟨rfl,hb⟩
theorem MkR.lead_any (h:MkR w mq q r M S):Calls Tryz.prog 22 #[.pointer mq] w fun e w'=>∃ b,e = .returned (.int .i64 b)/\TopR (Hv r M) (fun i=>!failB M S (i:Int)) M.length 0 b/\Below w.heap.size w w':=by
 have K:=h_ fun w' hb=>qlu_ mq q 49 r M M.length rfl h.few (fun i=>!failB M S (i:Int)) w' (enters_of Tryz.func49 (by kernel_rfl) rfl) (h_ (h.below hb).held) (h_ (h.below hb).len) (h_ (h.below hb).heavier) (h_ fun w'' i _ hb'=>((h.below hb).below hb').sound (i:Int))
 have hB:=Below.refl w.heap.size w;go_enter Tryz.func22,Tryz.ntmps22;go_wp2_with fail
 refine (K.out _ hB).mono ?_;rintro e v1 ⟨b,rfl,hb,hb2⟩;replace hB:=tb_ hB hb2;have HT:=h_ hb;clear hb hb2 K;go_wp2_with fail
 go_ret;exact ⟨b,rfl,HT.out,hB⟩
theorem MkR.lead (h:MkR w mq q r M S) (hM:Ok r M) (h0:(fun i=>!failB M S (i:Int)) 0=true):Calls Tryz.prog 22 #[.pointer mq] w fun e w''=>e = .returned (.int .i64 (Mk.top (Hv r M) (fun i=>!failB M S (i:Int)) M.length:Int))/\Below w.heap.size w w'':=by
 refine h.lead_any.mono ?_;rintro e w' ⟨b,rfl,h1,hb⟩;rw[h1.top (Hv_tot r M) hM.pos h0];exact ⟨rfl,hb⟩
end
def MkS (w:World) (F:Nat->Prop) (mb mg:Nat) (q:Option Addr) (r:Ru) (M:List Ent) (S:Mk.St):Prop:=TrQ w F q r M/\Has w mb (mkA q mg) 81/\MapN w mg S/\¬F mb/\¬F mg
section
variable {w w':World} {F G:Nat->Prop} {mb mg:Nat} {q:Option Addr} {r:Ru} {M:List Ent} {S:Mk.St}
theorem MkS.ne (h:MkS w F mb mg q r M S):mb ≠ mg:=h.2.2.1.not_cells h.2.1
theorem MkS.on (h:MkS w F mb mg q r M S) (k:Kp G w w') (hF:∀ i,F i->¬G i) (h1:¬G mb) (h2:¬G mg):MkS w' F mb mg q r M S :=
 ⟨h.1.on k hF,k.has h.2.1 h1,h.2.2.1.on (k.block mg h.2.2.1.lt h2),h.2.2.2⟩
theorem MkS.below (h:MkS w F mb mg q r M S) (hb:Below w.heap.size w w'):MkS w' F mb mg q r M S:=h.on (G:=fun _=>False) (Kp.of hb) (fun _ _ hf=>hf) (fun hf=>hf) (fun hf=>hf)
theorem MkS.wrote {S':Mk.St} (h:MkS w F mb mg q r M S) (k:Kp (fun i=>i=mg) w w') (hM:MapN w' mg S'):MkS w' F mb mg q r M S' :=
 ⟨h.1.on k (fun _ hi e=>h.2.2.2.2 (e ▸ hi)),k.has h.2.1 h.ne,hM,h.2.2.2⟩
theorem MkS.c0 (h:MkS w F mb mg q r M S):w.cell? ⟨mb,0,none⟩=some (.pointer q):=Has.cell h.2.1 0
theorem MkS.c1 (h:MkS w F mb mg q r M S):w.cell? ⟨mb,1,none⟩=some (.map (some mg)):=Has.cell h.2.1 1
theorem MkS.mheld (h:MkS w F mb mg q r M S):MHeld w (.pointer (some ⟨mb,0,none⟩)) q:=fun w' hb=>mheld_w mb q w' (h.below hb).c0
theorem MkS.mhas (h:MkS w F mb mg q r M S) (x:Int):Calls Tryz.prog 37 #[.pointer (some ⟨mb,0,none⟩),.int .i64 x] w fun e w''=>e = .returned (.bool (decide (isP M x)))/\Below w.heap.size w w'':=by
 obtain ⟨E,h1,h2,h3⟩:=h.1.at x;exact mhas_w _ q x E h1 _ w (h_ h.mheld) (h_ h3)
theorem MkS.mahead (h:MkS w F mb mg q r M S) (x:Int):Calls Tryz.prog 47 #[.pointer (some ⟨mb,0,none⟩),.int .i64 x] w fun e w''=>e = .returned (.int .i64 (upZ M x))/\Below w.heap.size w w'':=by
 obtain ⟨E,h1,h2,h3⟩:=h.1.at x;exact qwk_ _ q x E h1 _ (h_ h2) _ w (h_ h.mheld) (h_ h3)
theorem MkS.msaid (h:MkS w F mb mg q r M S) (hl:M.length<=1000) (x:Int):Calls Tryz.prog 13 #[.pointer (some ⟨mb,0,none⟩),.int .i64 x] w fun e w''=>e = .returned (.tuple #[.int .i64 ((sd M S x).1:Int),.bool (sd M S x).2])/\Below w.heap.size w w'':=by
 by_cases hp:isP M x
 ·obtain ⟨n,rfl⟩:=Int.eq_ofNat_of_zero_le hp.1;have hn:n<1000:=by have:=hp.2;omega
  rw[Mk.qjt_ hp,Int.toNat_natCast];refine qabd_ mb mg _ _ _ w (h_ fun w' hb=>?_) (h_ fun w' hb=>⟨(h.below hb).c1,(h.below hb).2.2.1.look hn w' rfl⟩);have:=(h.below hb).mhas (n:Int);rwa [decide_eq_true hp] at this
 rw[Mk.sd_not hp];refine qwl_ _ x w (h_ fun w' hb=>?_);have:=(h.below hb).mhas x;rwa [decide_eq_false hp] at this
theorem MkS.rd (h:MkS w F mb mg q r M S) (hM:M=[]\/Ok r M) (hl:M.length<=1000):MkR w (some ⟨mb,0,none⟩) q r M S :=
 ⟨h.mheld,fun _ z hb=>(h.below hb).mhas z,fun _ z hb=>(h.below hb).mahead z,fun _ z hb=>(h.below hb).msaid hl z,fun _ hb=>(h.below hb).1.len,fun _ x y v hb hv=>(h.below hb).1.heavier x y v hv,hM,hl⟩
end
theorem MkR.nil (w:World) (r:Ru) (S:Mk.St):MkR w none none r [] S:=by
 have hQ:∀ w,TrQ w (fun _=>False) none r []:=fun w=>.inr ⟨rfl,rfl⟩
 have hd:∀ z,decide (isP ([]:List Ent) z)=false:=fun z=>decide_eq_false (qbd_ z)
 have hh:∀ w' z,Calls Tryz.prog 37 #[.pointer none,.int .i64 z] w' fun e w''=>e = .returned (.bool false)/\Below w'.heap.size w' w'':=fun w' z=>mhas_w _ none z enN enN_ok false w' (h_ (MHeld.nil w')) (h_ fun w2 _=>qwa_ z w2)
 refine ⟨MHeld.nil w,fun w' z _=>?_,fun w' z _=>?_,fun w' z _=>?_,fun w' _=>qvz_ w',fun w' x y v _ hv=>(hQ w').heavier x y v hv,.inl rfl,by simp⟩;rw[hd];exact hh w' z;exact qwk_ _ none z enN enN_ok _ (h_ (qadf_ (qbd_ z)).symm) false w' (h_ (MHeld.nil w')) (h_ fun w2 _=>qwa_ z w2);rw[Mk.sd_not (qbd_ z)];exact qwl_ _ z w' (h_ fun w2 _=>hh w2 z)
open Ar (Anc)
theorem qwr_ (mb:Nat) (x:Int) (right:Bool) (z:Int) (hz:(z != 0)=true) (w:World) (KR:HK_ w 42 #[.pointer (some ⟨mb,0,none⟩),.int .i64 x] (.int .i64 z)) :
  Ca_ 15 #[.pointer (some ⟨mb,0,none⟩),.int .i64 x,.bool right] w (.int .i64 z):=by
 have hB:=Below.refl w.heap.size w;go_enter Tryz.func15,Tryz.ntmps15;go_wp2_with fail
 refine (KR.out _ hB).mono ?_;rintro e v1 ⟨rfl,hb⟩;replace hB:=tb_ hB hb;clear hb;go_wp2_with fail
 go_ret;exact ⟨rfl,hB⟩
theorem qlv_ (mb:Nat) (x:Int) (z:Int) (hz:(z != 0)=true) (w:World) (KR:HK_ w 42 #[.pointer (some ⟨mb,0,none⟩),.int .i64 x] (.int .i64 z)) :
  Ca_ 16 #[.pointer (some ⟨mb,0,none⟩),.int .i64 x] w (.int .i64 z):=by
 have hB:=Below.refl w.heap.size w;go_enter Tryz.func16,Tryz.ntmps16;go_wp2_with fail
 refine (KR.out _ hB).mono ?_;rintro e v1 ⟨rfl,hb⟩;replace hB:=tb_ hB hb;clear hb;go_wp2_with fail
 go_ret;exact ⟨rfl,hB⟩
theorem qlw_ (mb:Nat) (x:Int) (z:Int) (hz:(z != 0)=true) (w:World) (KR:HK_ w 42 #[.pointer (some ⟨mb,0,none⟩),.int .i64 x] (.int .i64 z)) :
  Ca_ 17 #[.pointer (some ⟨mb,0,none⟩),.int .i64 x] w (.int .i64 z):=by
 have hB:=Below.refl w.heap.size w;go_enter Tryz.func17,Tryz.ntmps17;go_wp2_with fail
 refine (KR.out _ hB).mono ?_;rintro e v1 ⟨rfl,hb⟩;replace hB:=tb_ hB hb;clear hb;go_wp2_with fail
 go_ret;exact ⟨rfl,hB⟩
theorem qnx_ (mb mg k:Nat) (q:Option Addr) (S:Mk.St) (hk:k<1000) (s:Nat) (o:Bool) (HS:Hid (S.said k=s/\S.out k=o)) (w:World) (hm:Has w mb (mkA q mg) 81) (hM:MapN w mg S) (KR:HK_ w 42 #[.pointer (some ⟨mb,0,none⟩),.int .i64 (k:Int)] (.int .i64 0)) :
  Calls Tryz.prog 16 #[.pointer (some ⟨mb,0,none⟩),.int .i64 (k:Int)] w fun e w'=>e = .returned (.int .i64 0)/\MapN w' mg (putS S k s true)/\Kp (fun i=>i=mg) w w':=by
 have hB:=Below.refl w.heap.size w;go_enter Tryz.func16,Tryz.ntmps16;go_wp2_with fail
 refine (KR.out _ hB).mono ?_;rintro e v1 ⟨rfl,hb⟩;replace hB:=tb_ hB hb;clear hb KR;have hm1:Has v1 mb (mkA q mg) 81:=qd_ hB hm hm.lt;have hM1:MapN v1 mg S:=hM.on (hB.block mg hM.lt)
 have hlk:(Instr.lookup 79 (.map (some mg)) (.int .i64 (k:Int)) false).run Tryz.prog v1 = .ok (.agg #[.int .i64 (s:Int),.bool o]) v1:=by
  have:=hM1.look hk v1 rfl;rw[HS.out.1,HS.out.2] at this;exact this
 have c1:v1.cell? ⟨mb,1,none⟩=some (.map (some mg)):=Has.cell hm1 1;go_upto_region 5 with fail
 generalize hw2:World.alloc _ _=v2;have hN:Has v2 v1.heap.size (noteA s o) 78:=by rw[<-hw2];exact Has.new _ _
 have hb2:Below v1.heap.size v1 v2:=bl_ hw2;obtain ⟨bn,e⟩:∃ bn,bn=v1.heap.size:=⟨_,rfl⟩;rw[<-e] at hN |-;have HBn:Hid (w.heap.size<=bn):=h_ (by have:=hB.size;omega);replace hB:=tb_ hB hb2;have HM:=h_ hM;have HH:=h_ hm;clear hw2 hlk c1 e hm1 hM1 hb2 hM hm;have d0:v2.cell? ⟨bn,1,none⟩=some (.bool o):=Has.cell hN 1;have f0:=hN.free 1;have hN3:Has (v2.setCell ⟨bn,1,none⟩ (.bool true)) bn (noteA s true) 78:=Has.set (i:=1) hN _;have hb3:=hB.setCell (p:=⟨bn,1,none⟩) HBn.out (.bool true)
 have fin:∀ v4:World,Below w.heap.size w v4->Calls Tryz.prog 43 #[.pointer (some ⟨mb,0,none⟩),.int .i64 (k:Int),.agg #[.int .i64 (s:Int),.bool true]] v4 fun e w'=>e = .returned (.tuple #[])/\MapN w' mg (putS S k s true)/\Kp (fun i=>i=mg) w w':=fun v4 hb=>by
  refine (put_w mb mg k s true q S hk v4 (qd_ hb HH.out HH.out.lt) (HM.out.on (hb.block mg HM.out.lt))).mono ?_;rintro e w' ⟨rfl,h1,h2⟩;exact ⟨rfl,h1,(Kp.of hb).trans h2 fun i hi _=>hi⟩
 have FIN:=h_ fin;clear fin;have FIN4:=FIN.out _ hb3;clear hN hb3;go_wp2_with (first|(with_reducible refine qcb_ rfl _ rfl _ rfl _ _ hN3 ?_))
 refine FIN4.mono ?_;rintro e w' ⟨rfl,h5,h6⟩;have H5:=h_ h5;have H6:=h_ h6;clear h5 h6;go_wp2_with fail
 go_ret;exact ⟨rfl,H5.out,H6.out⟩
theorem qabk_ (mb mg k:Nat) (q:Option Addr) (S:Mk.St) (right:Bool) (y:Nat) (hy:(if right then 1 else 2)=y) (hk:k<1000) (s:Nat) (o:Bool) (HS:Hid (S.said k=s/\S.out k=o)) (w:World) (hm:Has w mb (mkA q mg) 81) (hM:MapN w mg S) (KR:HK_ w 42 #[.pointer (some ⟨mb,0,none⟩),.int .i64 (k:Int)] (.int .i64 0)) (g1 g2:Bool) (h1:((s:Int) != 0)=g1) (h2:((s:Int) != (y:Int))=g2) :
  Calls Tryz.prog 15 #[.pointer (some ⟨mb,0,none⟩),.int .i64 (k:Int),.bool right] w fun e w'=>e = .returned (.int .i64 (if g1 && g2 then 1 else 0))/\(if g1 && g2 then MapN w' mg S else MapN w' mg (putS S k y o))/\Kp (fun i=>i=mg) w w':=by
 have hy2:(right=true/\y=1)\/(right=false/\y=2):=by
  cases right;exact .inr ⟨rfl,by rw[<-hy];rfl⟩;exact .inl ⟨rfl,by rw[<-hy];rfl⟩
 clear hy;obtain ⟨rfl,rfl⟩|⟨rfl,rfl⟩:=hy2
 ·have hB:=Below.refl w.heap.size w;go_enter Tryz.func15,Tryz.ntmps15;go_wp2_with fail
  refine (KR.out _ hB).mono ?_;rintro e v1 ⟨rfl,hb⟩;replace hB:=tb_ hB hb;clear hb KR;have hm1:Has v1 mb (mkA q mg) 81:=qd_ hB hm hm.lt;have hM1:MapN v1 mg S:=hM.on (hB.block mg hM.lt)
  have hlk:(Instr.lookup 79 (.map (some mg)) (.int .i64 (k:Int)) false).run Tryz.prog v1 = .ok (.agg #[.int .i64 (s:Int),.bool o]) v1:=by
   have:=hM1.look hk v1 rfl;rw[HS.out.1,HS.out.2] at this;exact this
  have c1:v1.cell? ⟨mb,1,none⟩=some (.map (some mg)):=Has.cell hm1 1;go_upto_region 8 with fail
  generalize hw2:World.alloc _ _=v2;have hN:Has v2 v1.heap.size (noteA s o) 78:=by rw[<-hw2];exact Has.new _ _
  have hb2:Below v1.heap.size v1 v2:=bl_ hw2;obtain ⟨bn,e⟩:∃ bn,bn=v1.heap.size:=⟨_,rfl⟩;rw[<-e] at hN |-;have HBn:Hid (w.heap.size<=bn):=h_ (by have:=hB.size;omega);replace hB:=tb_ hB hb2;have HM:=h_ hM;have HH:=h_ hm;clear hw2 hlk c1 e hm1 hM1 hb2 hM hm;have d0:v2.cell? ⟨bn,0,none⟩=some (.int .i64 (s:Int)):=Has.cell hN 0;have f0:=hN.free 0;have hN3:Has (v2.setCell ⟨bn,0,none⟩ (.int .i64 1)) bn (noteA 1 o) 78:=Has.set (i:=0) hN _;have hb3:=hB.setCell (p:=⟨bn,0,none⟩) HBn.out (.int .i64 1)
  have fin:∀ v4:World,Below w.heap.size w v4->Calls Tryz.prog 43 #[.pointer (some ⟨mb,0,none⟩),.int .i64 (k:Int),.agg #[.int .i64 (1:Int),.bool o]] v4 fun e w'=>e = .returned (.tuple #[])/\MapN w' mg (putS S k 1 o)/\Kp (fun i=>i=mg) w w':=fun v4 hb=>by
   refine (put_w mb mg k 1 o q S hk v4 (qd_ hb HH.out HH.out.lt) (HM.out.on (hb.block mg HM.out.lt))).mono ?_;rintro e w' ⟨rfl,h1,h2⟩;exact ⟨rfl,h1,(Kp.of hb).trans h2 fun i hi _=>hi⟩
  have FIN:=h_ fin;clear fin;have FIN4:=FIN.out _ hb3;have HNO:Hid (MapN v2 mg S):=h_ (HM.out.on (hB.block mg HM.out.lt));clear hN hb3 FIN;cases g1
  ·go_wp2_with (first|(with_reducible refine qcb_ rfl _ rfl _ rfl _ _ hN3 ?_))
   refine FIN4.mono ?_;rintro e w' ⟨rfl,h5,h6⟩;have H5:=h_ h5;have H6:=h_ h6;clear h5 h6;go_wp2_with fail
   go_ret;exact ⟨rfl,H5.out,H6.out⟩
  ·cases g2
   ·(go_wp2_with (first|(with_reducible refine qcb_ rfl _ rfl _ rfl _ _ hN3 ?_)));refine FIN4.mono ?_;rintro e w' ⟨rfl,h5,h6⟩;have H5:=h_ h5;have H6:=h_ h6;clear h5 h6;(go_wp2_with fail);go_ret;exact ⟨rfl,H5.out,H6.out⟩
   ·(go_wp2_with fail);go_ret;exact ⟨rfl,HNO.out,Kp.of hB⟩
 ·have hB:=Below.refl w.heap.size w;go_enter Tryz.func15,Tryz.ntmps15;go_wp2_with fail
  refine (KR.out _ hB).mono ?_;rintro e v1 ⟨rfl,hb⟩;replace hB:=tb_ hB hb;clear hb KR;have hm1:Has v1 mb (mkA q mg) 81:=qd_ hB hm hm.lt;have hM1:MapN v1 mg S:=hM.on (hB.block mg hM.lt)
  have hlk:(Instr.lookup 79 (.map (some mg)) (.int .i64 (k:Int)) false).run Tryz.prog v1 = .ok (.agg #[.int .i64 (s:Int),.bool o]) v1:=by
   have:=hM1.look hk v1 rfl;rw[HS.out.1,HS.out.2] at this;exact this
  have c1:v1.cell? ⟨mb,1,none⟩=some (.map (some mg)):=Has.cell hm1 1;go_upto_region 8 with fail
  generalize hw2:World.alloc _ _=v2;have hN:Has v2 v1.heap.size (noteA s o) 78:=by rw[<-hw2];exact Has.new _ _
  have hb2:Below v1.heap.size v1 v2:=bl_ hw2;obtain ⟨bn,e⟩:∃ bn,bn=v1.heap.size:=⟨_,rfl⟩;rw[<-e] at hN |-;have HBn:Hid (w.heap.size<=bn):=h_ (by have:=hB.size;omega);replace hB:=tb_ hB hb2;have HM:=h_ hM;have HH:=h_ hm;clear hw2 hlk c1 e hm1 hM1 hb2 hM hm;have d0:v2.cell? ⟨bn,0,none⟩=some (.int .i64 (s:Int)):=Has.cell hN 0;have f0:=hN.free 0;have hN3:Has (v2.setCell ⟨bn,0,none⟩ (.int .i64 2)) bn (noteA 2 o) 78:=Has.set (i:=0) hN _;have hb3:=hB.setCell (p:=⟨bn,0,none⟩) HBn.out (.int .i64 2)
  have fin:∀ v4:World,Below w.heap.size w v4->Calls Tryz.prog 43 #[.pointer (some ⟨mb,0,none⟩),.int .i64 (k:Int),.agg #[.int .i64 (2:Int),.bool o]] v4 fun e w'=>e = .returned (.tuple #[])/\MapN w' mg (putS S k 2 o)/\Kp (fun i=>i=mg) w w':=fun v4 hb=>by
   refine (put_w mb mg k 2 o q S hk v4 (qd_ hb HH.out HH.out.lt) (HM.out.on (hb.block mg HM.out.lt))).mono ?_;rintro e w' ⟨rfl,h1,h2⟩;exact ⟨rfl,h1,(Kp.of hb).trans h2 fun i hi _=>hi⟩
  have FIN:=h_ fin;clear fin;have FIN4:=FIN.out _ hb3;have HNO:Hid (MapN v2 mg S):=h_ (HM.out.on (hB.block mg HM.out.lt));clear hN hb3 FIN;cases g1
  ·go_wp2_with (first|(with_reducible refine qcb_ rfl _ rfl _ rfl _ _ hN3 ?_))
   refine FIN4.mono ?_;rintro e w' ⟨rfl,h5,h6⟩;have H5:=h_ h5;have H6:=h_ h6;clear h5 h6;go_wp2_with fail
   go_ret;exact ⟨rfl,H5.out,H6.out⟩
  ·cases g2
   ·(go_wp2_with (first|(with_reducible refine qcb_ rfl _ rfl _ rfl _ _ hN3 ?_)));refine FIN4.mono ?_;rintro e w' ⟨rfl,h5,h6⟩;have H5:=h_ h5;have H6:=h_ h6;clear h5 h6;(go_wp2_with fail);go_ret;exact ⟨rfl,H5.out,H6.out⟩
   ·(go_wp2_with fail);go_ret;exact ⟨rfl,HNO.out,Kp.of hB⟩
noncomputable def onB (M:List Ent) (x:Int) (i:Nat):Bool:=pb (Anc M (i:Int) x) || pb (Anc M x (i:Int))
noncomputable def recK (M:List Ent) (S:Mk.St) (x:Int) (k:Nat):Mk.St:=⟨fun i=>if (decide (i<k) && onB M x i && (S.said i==2))=true then 0 else S.said i,fun i=>if (decide (i<k) && onB M x i)=true then false else S.out i⟩
section
variable {M:List Ent} {S:Mk.St} {x:Int} {k:Nat}
theorem st_ext {S T:Mk.St} (h1:∀ i,S.said i=T.said i) (h2:∀ i,S.out i=T.out i):S=T:=by
 cases S;cases T;congr 1;exact funext h1;exact funext h2
theorem qpw_:recK M S x 0=S:=st_ext (fun i=>by unfold recK;simp) fun i=>by unfold recK;simp
theorem qhr_ {i:Nat} (e:i ≠ k):decide (i<k+1)=decide (i<k):=decide_eq_decide.2 (by omega)
theorem qpx_ (h:onB M x k=false):recK M S x (k+1)=recK M S x k:=by
 refine st_ext (fun i=>?_) fun i=>?_
 all_goals
  unfold recK;dsimp only;by_cases e:i=k;subst e;rw[h];simp;rw[qhr_ e]
theorem qgj_:(recK M S x k).said k=S.said k:=by unfold recK;simp
theorem qadi_ {α:Type} {p q:Prop} [Decidable p] [Decidable q] (h:p ↔ q) (a b:α):(if p then a else b)=if q then a else b:=by
 by_cases hp:p;rw[if_pos hp,if_pos (h.1 hp)];rw[if_neg hp,if_neg fun hq=>hp (h.2 hq)]
theorem qws_ (h:onB M x k=true) (t:Nat) (ht:(if (recK M S x k).said k=2 then 0 else (recK M S x k).said k)=t):putS (recK M S x k) k t false=recK M S x (k+1):=by
 rw[qgj_] at ht;refine st_ext (fun i=>?_) fun i=>?_
 show Mk.upd (recK M S x k).said k t i=_;by_cases e:i=k;subst e;rw[Mk.qcy_,<-ht];unfold recK;dsimp only;rw[h];by_cases h2:S.said i=2;simp[h2];simp[h2];rw[Mk.qbl_ _ _ e];unfold recK;dsimp only;rw[qhr_ e];show Mk.upd (recK M S x k).out k false i=_;by_cases e:i=k;subst e;rw[Mk.qcy_];unfold recK;dsimp only;rw[h];simp;rw[Mk.qbl_ _ _ e];unfold recK;dsimp only;rw[qhr_ e]
open Classical in
theorem qwt_ {r:Ru} (hM:Ok r M) (hc:chg M.length x=0):recon M S x=(0,recK M S x M.length):=by
 obtain ⟨_,h2,h3⟩:=Mk.qem_ hc;unfold recon;rw[if_neg (fun hh=>hh hc)]
 have e:∀ i:Nat,(decide (i<M.length) && onB M x i)=true ↔ Mk.On M x i:=fun i=>by
  unfold onB Mk.On;rw[Bool.and_eq_true,Bool.or_eq_true,Mk.qck_,Mk.qck_,decide_eq_true_iff];exact ⟨fun h=>h.2,fun h=>⟨h.elim (fun h=>by have:=(h.le hM).2.1;omega) (fun h=>Mk.qdv_.1 (Mk.qwe_ h)),h⟩⟩
 refine Prod.ext rfl (st_ext (fun i=>?_) fun i=>?_);show (if _ then _ else _)=(if _ then _ else _);refine qadi_ ?_ _ _;rw[Bool.and_eq_true,e,beq_iff_eq];show (if _ then _ else _)=(if _ then _ else _);exact qadi_ (e i).symm _ _
end
theorem qny_ (mb mg k n:Nat) (q:Option Addr) (M:List Ent) (S:Mk.St) (hn:n<=1000) (w:World) (hm:Has w mb (mkA q mg) 81) (hM:MapN w mg S) (KR:HK_ w 42 #[.pointer (some ⟨mb,0,none⟩),.int .i64 (k:Int)] (.int .i64 0)) (KL:HK_ w 44 #[.pointer q] (.int .i64 (n:Int)))
  (KW:Hid (∀w' (a b:Int),Kp (fun i=>i=mg) w w'->Calls Tryz.prog 25 #[.pointer q,.int .i64 a,.int .i64 b] w' fun e w''=>e = .returned (.bool (pb (Anc M a b)))/\Below w'.heap.size w' w'')) :
  Calls Tryz.prog 17 #[.pointer (some ⟨mb,0,none⟩),.int .i64 (k:Int)] w fun e w'=>e = .returned (.int .i64 0)/\MapN w' mg (recK M S (k:Int) n)/\Kp (fun i=>i=mg) w w':=by
 have hB:=Below.refl w.heap.size w;have HC0:Hid (∀w',Kp (fun i=>i=mg) w w'->Has w' mb (mkA q mg) 81):=h_ fun w' h=>h.has hm (hM.not_cells hm)
 have HM0:Hid (∀w',Below w.heap.size w w'->MapN w' mg S):=h_ fun w' h=>hM.on (h.block mg hM.lt)
 clear hm hM;go_enter Tryz.func17,Tryz.ntmps17;go_wp2_with fail
 refine (KR.out _ hB).mono ?_;rintro e v1 ⟨rfl,hb⟩;replace hB:=tb_ hB hb;clear hb KR;have c0:v1.cell? ⟨mb,0,none⟩=some (.pointer q):=Has.cell (HC0.out _ (Kp.of hB)) 0;go_wp2_with fail
 refine (KL.out _ hB).mono ?_;rintro e v2 ⟨rfl,hb⟩;replace hB:=tb_ hB hb;clear hb KL c0;go_wp2_with fail
 have h0:MapN v2 mg (recK M S (k:Int) 0):=by rw[qpw_];exact HM0.out _ hB
 have hK0:Kp (fun i=>i=mg) w v2:=Kp.of hB;clear hB HM0;go_loopw [18] (fun s18 wr=>∃ i:Nat,i<=n/\s18 = .int .i64 (i:Int)/\MapN wr mg (recK M S (k:Int) i)/\Kp (fun i=>i=mg) w wr) (fun s18 _=>n - (intOf s18).toNat)
 case atStart=>exact ⟨0,Nat.zero_le _,rfl,h0,hK0⟩
 case round=>
  clear h0 hK0;obtain ⟨i,hi,rfl,hX,hK⟩:=hrel;by_cases hlt:i<n
  ·have hm:=HC0.out _ hK;have c0:wr.cell? ⟨mb,0,none⟩=some (.pointer q):=Has.cell hm 0;have KW1:=KW.out _ (i:Int) (k:Int) hK;have hKb:∀ w',Below wr.heap.size wr w'->Kp (fun i=>i=mg) w w':=fun w' h=>hK.trans (Kp.of (F:=fun _=>False) h) fun _ hf _=>hf.elim
   have KF:∀ w',Below wr.heap.size wr w'->∀ t,(if (recK M S (k:Int) i).said i=2 then 0 else (recK M S (k:Int) i).said i)=t->Calls Tryz.prog 45 #[.pointer (some ⟨mb,0,none⟩),.int .i64 (i:Int)] w' fun e w''=>e = .returned (.tuple #[])/\MapN w'' mg (putS (recK M S (k:Int) i) i t false)/\Kp (fun i=>i=mg) w w'':=fun w' hb t ht=>by
    refine (qabf_ mb mg i q (recK M S (k:Int) i) (by omega) t ht w' (qd_ hb hm hm.lt) (hX.on (hb.block mg hX.lt))).mono ?_;rintro e w'' ⟨rfl,h1,h2⟩;exact ⟨rfl,h1,(hKb w' hb).trans h2 fun i hi _=>hi⟩
   have KF:=h_ KF;have HKb:=h_ hKb;have HX:=h_ hX;have hrt:∀ h:onB M (k:Int) i=true,∀ t,(if (recK M S (k:Int) i).said i=2 then 0 else (recK M S (k:Int) i).said i)=t->putS (recK M S (k:Int) i) i t false=recK M S (k:Int) (i+1):=fun h t ht=>qws_ h t ht
   have HRT:=h_ hrt;have HRN:Hid (onB M (k:Int) i=false->recK M S (k:Int) (i+1)=recK M S (k:Int) i):=h_ fun h=>qpx_ h
   have hon:onB M (k:Int) i=(pb (Anc M (i:Int) (k:Int)) || pb (Anc M (k:Int) (i:Int))):=rfl;have hw:=Below.refl wr.heap.size wr;have KW2:=h_ fun w' (hb:Below wr.heap.size wr w')=>KW.out w' (k:Int) (i:Int) (hKb w' hb)
   clear hX hKb hm hrt;generalize pb (Anc M (i:Int) (k:Int))=a1 at *;generalize pb (Anc M (k:Int) (i:Int))=a2 at *;have HON:=h_ hon;clear hon;go_wp2_with fail
   refine KW1.mono ?_;rintro e v3 ⟨rfl,hb⟩;have hB:=tb_ hw hb;clear hb KW1 hw c0;cases a1
   ·have c0:v3.cell? ⟨mb,0,none⟩=some (.pointer q):=Has.cell (HC0.out _ (HKb.out _ hB)) 0;(go_wp2_with fail);refine (KW2.out _ hB).mono ?_;rintro e v4 ⟨rfl,hb⟩;replace hB:=tb_ hB hb;clear hb KW2 c0;cases a2
    ·have hN:MapN v4 mg (recK M S (k:Int) (i+1)):=by
      rw[HRN.out (HON.out.trans rfl)];exact HX.out.on (hB.block mg HX.out.lt)
     have hK4:=HKb.out _ hB;(go_wp2_with fail);go_roundw
     case rel=>exact ⟨i+1,by omega,by go_num,hN,hK4⟩
     case measure=>simp[intOf];omega
    ·have hq:=HRT.out (HON.out.trans rfl) _ rfl;have KF1:=KF.out _ hB _ rfl;rw[hq] at KF1;clear hq HRT KF;(go_wp2_with fail);refine KF1.mono ?_;rintro e v5 ⟨rfl,h5,h6⟩;(go_wp2_with fail);go_roundw
     case rel=>exact ⟨i+1,by omega,by go_num,h5,h6⟩
     case measure=>simp[intOf];omega
   ·have hq:=HRT.out (HON.out.trans rfl) _ rfl;have KF1:=KF.out _ hB _ rfl;rw[hq] at KF1;clear hq HRT KF KW2;(go_wp2_with fail);refine KF1.mono ?_;rintro e v5 ⟨rfl,h5,h6⟩;(go_wp2_with fail);go_roundw
    case rel=>exact ⟨i+1,by omega,by go_num,h5,h6⟩
    case measure=>simp[intOf];omega
  ·obtain rfl:i=n:=by omega
   have HX:=h_ hX;have HK:=h_ hK;clear hX hK;go_wp2_with fail
   go_ret;exact ⟨rfl,HX.out,HK.out⟩
theorem mnew_w (q:Option Addr) (w:World):Calls Tryz.prog 23 #[.pointer q] w fun e w'=>∃ mb mg,e = .returned (.pointer (some ⟨mb,0,none⟩))/\w.heap.size<=mg/\w.heap.size<=mb/\Has w' mb (mkA q mg) 81/\MapN w' mg Mk.st0/\Below w.heap.size w w':=by
 obtain ⟨w2,hr,h1,h2⟩:=(MapN.made w).put (k:=0) (by decide) 1 false;have hr2:(Instr.mapUpdate 79 (.map (some w.heap.size)) (.int .i64 0) (.agg #[.int .i64 1,.bool false])).run Tryz.prog (w.alloc (.map #[] 0)) = .ok () w2:=hr;have hmk:∀ w,(Instr.makeMap 79 none).run Tryz.prog w = .ok (.map (some w.heap.size)) (w.alloc (.map #[] 0)):=fun w=>by kernel_rfl
 have hN:MapN w2 w.heap.size Mk.st0:=h1.same fun k _=>by
  unfold Mk.st0 putS Mk.upd;dsimp only;refine ⟨?_,?_⟩
  ·by_cases e:k=0;rw[if_pos e];rw[if_neg e]
  ·by_cases e:k=0;rw[if_pos e];rw[if_neg e]
 have hB:Below w.heap.size w w2:=((Below.refl _ w).alloc (Nat.le_refl _) _).grown h2 (by simp) (fun k hk=>by cases hk;exact Nat.le_refl _);have hl:=hN.lt;have HN:=h_ hN;have HB:=h_ hB;clear h1 h2 hr hN hB;go_enter Tryz.func23,Tryz.ntmps23;go_wp2_with fail
 go_ret;exact ⟨w2.heap.size,w.heap.size,rfl,Nat.le_refl _,by omega,Has.new _ _,HN.out.on (Below.heap_alloc w2 _ _ hl),HB.out.alloc HB.out.size _⟩
section
variable {w:World} {F:Nat->Prop} {mb mg:Nat} {q:Option Addr} {r:Ru} {M:List Ent} {S:Mk.St}
theorem MkS.refusal (h:MkS w F mb mg q r M S) (x:Int):Calls Tryz.prog 42 #[.pointer (some ⟨mb,0,none⟩),.int .i64 x] w fun e w''=>e = .returned (.int .i64 (chg M.length x))/\Below w.heap.size w w'':=by
 have e:chg M.length x=if decide (isP M x) then (if (x==0) then 1 else 0) else 5:=by
  by_cases h1:isP M x;rw[decide_eq_true h1,if_pos rfl];unfold chg;rw[if_pos (show 0<=x/\x<(M.length:Int) from h1)];by_cases h2:x=0;rw[if_pos h2,h2];rfl;rw[if_neg h2,if_neg (by simpa using h2)];rw[decide_eq_false h1];unfold chg;rw[if_neg (show ¬(0<=x/\x<(M.length:Int)) from h1)];rfl
 rw[e];exact qabj_ mb x _ _ rfl w (h_ fun w' hb=>(h.below hb).mhas x)
theorem chg_ne {n:Nat} {x:Int} (h:¬chg n x=0):(chg n x != 0)=true:=by simpa using h
theorem qjw_ {n:Nat} {x:Int} (h:chg n x=0):∃ k:Nat,x=(k:Int)/\k<n:=by
 obtain ⟨_,h2,h3⟩:=Mk.qem_ h;exact ⟨x.toNat,h3,h2⟩
theorem MkS.verdict (h:MkS w F mb mg q r M S) (hl:M.length<=1000) (x:Int) (right:Bool):Calls Tryz.prog 15 #[.pointer (some ⟨mb,0,none⟩),.int .i64 x,.bool right] w fun e w'=>e = .returned (.int .i64 (verdict M.length S x right).1)/\MkS w' F mb mg q r M (verdict M.length S x right).2/\Kp (fun i=>i=mg) w w':=by
 unfold Mk.verdict;by_cases hc:chg M.length x=0
 ·rw[if_neg (fun hh=>hh hc)];obtain ⟨k,rfl,hk⟩:=qjw_ hc;rw[Int.toNat_natCast]
  refine (qabk_ mb mg k q S right (word right) rfl (by omega) (S.said k) (S.out k) (h_ ⟨rfl,rfl⟩) w h.2.1 h.2.2.1 (h_ fun w' hb=>by
   have:=(h.below hb).refusal (k:Int);rwa [hc] at this) _ _ rfl rfl).mono ?_
  rintro e w' ⟨rfl,h1,h2⟩
  have eg:(((S.said k:Int) != 0) && ((S.said k:Int) != (word right:Int)))=decide (0<S.said k/\¬S.said k=word right):=by
   rw[Bool.eq_iff_iff,Bool.and_eq_true,decide_eq_true_iff,bne_iff_ne,bne_iff_ne];constructor;rintro ⟨a,b⟩;exact ⟨by omega,fun e=>b (by rw[e])⟩;rintro ⟨a,b⟩;exact ⟨by omega,fun e=>b (by omega)⟩
  rw[eg] at h1 |-;by_cases hd:0<S.said k/\¬S.said k=word right;rw[if_pos hd];rw[decide_eq_true hd] at h1 |-;exact ⟨rfl,h.wrote h2 h1,h2⟩
  ·rw[if_neg hd];rw[decide_eq_false hd] at h1 |-
   have e:putS S k (word right) (S.out k)=⟨Mk.upd S.said k (word right),S.out⟩:=st_ext (fun _=>rfl) fun i=>by
    show Mk.upd S.out k (S.out k) i=S.out i;unfold Mk.upd;split
    ·rename_i e;rw[e]
    rfl
   rw[<-e];exact ⟨rfl,h.wrote h2 h1,h2⟩
 rw[if_pos hc];refine (qwr_ mb x right _ (chg_ne hc) w (h_ fun w' hb=>(h.below hb).refusal x)).mono ?_;rintro e w' ⟨rfl,hb⟩;exact ⟨rfl,h.below hb,Kp.of hb⟩
theorem MkS.inval (h:MkS w F mb mg q r M S) (hl:M.length<=1000) (x:Int):Calls Tryz.prog 16 #[.pointer (some ⟨mb,0,none⟩),.int .i64 x] w fun e w'=>e = .returned (.int .i64 (inval M.length S x).1)/\MkS w' F mb mg q r M (inval M.length S x).2/\Kp (fun i=>i=mg) w w':=by
 unfold Mk.inval;by_cases hc:chg M.length x=0
 ·rw[if_neg (fun hh=>hh hc)];obtain ⟨k,rfl,hk⟩:=qjw_ hc;rw[Int.toNat_natCast]
  refine (qnx_ mb mg k q S (by omega) (S.said k) (S.out k) (h_ ⟨rfl,rfl⟩) w h.2.1 h.2.2.1 (h_ fun w' hb=>by
   have:=(h.below hb).refusal (k:Int);rwa [hc] at this)).mono ?_
  rintro e w' ⟨rfl,h1,h2⟩
  have e:putS S k (S.said k) true=⟨S.said,Mk.upd S.out k true⟩:=st_ext (fun i=>by
   show Mk.upd S.said k (S.said k) i=S.said i;unfold Mk.upd;split
   ·rename_i e;rw[e]
   rfl) fun _=>rfl
  rw[<-e];exact ⟨rfl,h.wrote h2 h1,h2⟩
 rw[if_pos hc];refine (qlv_ mb x _ (chg_ne hc) w (h_ fun w' hb=>(h.below hb).refusal x)).mono ?_;rintro e w' ⟨rfl,hb⟩;exact ⟨rfl,h.below hb,Kp.of hb⟩
theorem MkS.recon (h:MkS w F mb mg q r M S) (hM:Ok r M) (hl:M.length<=900) (x:Int):Calls Tryz.prog 17 #[.pointer (some ⟨mb,0,none⟩),.int .i64 x] w fun e w'=>e = .returned (.int .i64 (recon M S x).1)/\MkS w' F mb mg q r M (recon M S x).2/\Kp (fun i=>i=mg) w w':=by
 by_cases hc:chg M.length x=0
 ·rw[qwt_ hM hc];obtain ⟨k,rfl,hk⟩:=qjw_ hc;obtain ⟨bt,ls,rfl,hT,hls⟩|⟨_,rfl⟩:=h.1
  ·refine (qny_ mb mg k M.length _ M S (by omega) w h.2.1 h.2.2.1 (h_ fun w' hb=>by
    have:=(h.below hb).refusal (k:Int);rwa [hc] at this) (h_ fun w' hb=>(h.below hb).1.len) (h_ fun w' a b hK=>qpv_ (hT.on hK fun i hi e=>h.2.2.2.2 (e ▸ hi)) hM hl hls a b _ Mk.qck_)).mono ?_
   rintro e w' ⟨rfl,h1,h2⟩;exact ⟨rfl,h.wrote h2 h1,h2⟩
  simp at hk
 ·have e:Mk.recon M S x=(chg M.length x,S):=by unfold Mk.recon;rw[if_pos hc]
  rw[e];refine (qlw_ mb x _ (chg_ne hc) w (h_ fun w' hb=>(h.below hb).refusal x)).mono ?_;rintro e w' ⟨rfl,hb⟩;exact ⟨rfl,h.below hb,Kp.of hb⟩
end
end Go.Proofs.YtbhjpeadcimchaaGreatDoor.An
namespace Go.Proofs.YtbhjpeadcimchaaGreatDoor.An
open Go.RowKit Mem Sc
open Ar (Ent Ru entZ Ok isP Row Anc)
open Mk (failB childB validB pb verdict inval recon chg word itself)
theorem qwu_ (rb bm n c:Nat) (a:Option Addr) (x:Int) (hx:¬(0<=x/\x<(n:Int))) (w:World) (hv:w.cell? ⟨bm,83,none⟩=some (.slice a n c)) :
  Ca_ 26 #[.pointer (some ⟨rb,0,none⟩),.pointer (some ⟨bm,0,none⟩),.int .i64 x] w (.bool false):=by
 have hB:=Below.refl w.heap.size w;by_cases h0:x<0
 ·have t1:decide (0<=x)=false:=decide_eq_false (by omega);clear h0 hx;go_enter Tryz.func26,Tryz.ntmps26;go_wp2_with fail
  go_ret;exact ⟨rfl,hB⟩
 ·have t1:decide (0<=x)=true:=decide_eq_true (by omega);obtain ⟨k,rfl⟩:=Int.eq_ofNat_of_zero_le (by omega:0<=x);have h1:¬k<n:=by omega
  clear h0 hx;go_enter Tryz.func26,Tryz.ntmps26;go_wp2_with fail
  go_ret;exact ⟨rfl,hB⟩
theorem qrq_ (rb bm n c i:Nat) (a:Option Addr) (hi:i<n) (g1 g2:Bool) (w:World) (hv:w.cell? ⟨bm,83,none⟩=some (.slice a n c)) (KI:HK_ w 24 #[.pointer (some ⟨rb,0,none⟩),.int .i64 (i:Int)] (.bool g1)) (KC:HK_ w 38 #[.pointer (some ⟨rb,0,none⟩),.pointer (some ⟨bm,0,none⟩),.int .i64 (i:Int)] (.bool g2)) :
  Ca_ 26 #[.pointer (some ⟨rb,0,none⟩),.pointer (some ⟨bm,0,none⟩),.int .i64 (i:Int)] w (.bool (g1 || g2)):=by
 have t1:decide ((0:Int)<=(i:Int))=true:=decide_eq_true (by omega);have hB:=Below.refl w.heap.size w;go_enter Tryz.func26,Tryz.ntmps26;go_wp2_with fail
 refine (KI.out _ hB).mono ?_;rintro e v1 ⟨rfl,hb⟩;replace hB:=tb_ hB hb;clear hb;cases g1
 ·go_wp2_with fail
  refine (KC.out _ hB).mono ?_;rintro e v2 ⟨rfl,hb⟩;replace hB:=tb_ hB hb;clear hb;cases g2
  all_goals
   go_wp2_with fail
   go_ret;exact ⟨rfl,hB⟩
 ·go_wp2_with fail
  go_ret;exact ⟨rfl,hB⟩
theorem rbest_w (rb bm n c:Nat) (a:Option Addr) (hn9:n<=1000) (H:Nat->Nat->Bool) (Pk:Nat->Bool) (w:World) (hv:w.cell? ⟨bm,83,none⟩=some (.slice a n c)) (KV:Hid (∀w' (i:Nat),i<n->Below w.heap.size w w'->Calls Tryz.prog 39 #[.pointer (some ⟨rb,0,none⟩),.pointer (some ⟨bm,0,none⟩),.int .i64 (i:Int)] w' fun e w''=>e = .returned (.bool (Pk i))/\Below w'.heap.size w' w'')) (KH:Hid (∀w' (i j:Nat),i<n->j<n->Below w.heap.size w w'->Calls Tryz.prog 69 #[.pointer (some ⟨bm,0,none⟩),.int .i64 (i:Int),.int .i64 (j:Int)] w' fun e w''=>e = .returned (.bool (H i j))/\Below w'.heap.size w' w'')) :
  Ca_ 40 #[.pointer (some ⟨rb,0,none⟩),.pointer (some ⟨bm,0,none⟩)] w (.int .i64 (Mk.top H Pk n:Int)):=by
 have hB:=Below.refl w.heap.size w;go_enter Tryz.func40,Tryz.ntmps40;go_wp2_with fail
 go_loopw [5,12] (fun s5 s12 wr=>∃ (i b:Nat),i<=n/\s5 = .int .i64 (b:Int)/\s12 = .int .i64 (i:Int)/\Hid (b=Mk.top H Pk i)/\Below w.heap.size w wr) (fun _ s12 _=>n - (intOf s12).toNat)
 case atStart=>exact ⟨0,0,Nat.zero_le _,rfl,rfl,h_ rfl,hB⟩
 case round=>
  clear hB hv;obtain ⟨i,b,hi,rfl,rfl,HX,hB⟩:=hrel;by_cases hlt:i<n
  ·have hbn:b<n:=by
    rw[HX.out];rcases Nat.eq_zero_or_pos i with e|e
    rw[e];show 0<n;omega;have:=Mk.top_lt (H:=H) (P:=Pk) i e;omega
   have KV1:=KV.out wr i hlt hB;have KH1:=h_ fun w' (hb:Below w.heap.size w w')=>KH.out w' i b hlt hbn hb
   have hto:Mk.top H Pk (i+1)=if Pk i=true/\H i b=true then i else b:=by rw[HX.out];rfl
   have HTO:=h_ hto;clear hbn hto;generalize Pk i=pk at *;generalize H i b=hv at *;go_wp2_with fail
   refine KV1.mono ?_;rintro e v1 ⟨rfl,hb⟩;replace hB:=tb_ hB hb;clear hb KV1;cases pk
   ·have HT2:Hid (b=Mk.top H Pk (i+1)):=h_ (by rw[HTO.out,if_neg (by simp)]);clear KH1;(go_wp2_with fail);go_roundw
    case rel=>exact ⟨i+1,b,by omega,(by first|trivial|rfl),by go_num,HT2,hB⟩
    case measure=>simp[intOf];omega
   ·(go_wp2_with fail);refine (KH1.out _ hB).mono ?_;rintro e v2 ⟨rfl,hb⟩;replace hB:=tb_ hB hb;clear hb KH1;cases hv
    ·have HT2:Hid (b=Mk.top H Pk (i+1)):=h_ (by rw[HTO.out,if_neg (by simp)]);(go_wp2_with fail);go_roundw
     case rel=>exact ⟨i+1,b,by omega,(by first|trivial|rfl),by go_num,HT2,hB⟩
     case measure=>simp[intOf];omega
    ·have HT2:Hid (i=Mk.top H Pk (i+1)):=h_ (by rw[HTO.out,if_pos (by simp)]);(go_wp2_with fail);go_roundw
     case rel=>exact ⟨i+1,i,by omega,(by first|trivial|rfl),by go_num,HT2,hB⟩
     case measure=>simp[intOf];omega
  ·obtain rfl:i=n:=by omega
   go_wp2_with fail
   go_ret;exact ⟨by rw[<-HX.out];rfl,hB⟩
theorem rlead_w (rb bm n c:Nat) (a:Option Addr) (hn9:n<=1000) (H:Nat->Nat->Bool) (Pk:Nat->Bool) (w:World) (hv:w.cell? ⟨bm,83,none⟩=some (.slice a n c)) (KV:Hid (∀w' (i:Nat),i<n->Below w.heap.size w w'->Calls Tryz.prog 26 #[.pointer (some ⟨rb,0,none⟩),.pointer (some ⟨bm,0,none⟩),.int .i64 (i:Int)] w' fun e w''=>e = .returned (.bool (!Pk i))/\Below w'.heap.size w' w'')) (KH:Hid (∀w' (i j:Nat),i<n->j<n->Below w.heap.size w w'->Calls Tryz.prog 69 #[.pointer (some ⟨bm,0,none⟩),.int .i64 (i:Int),.int .i64 (j:Int)] w' fun e w''=>e = .returned (.bool (H i j))/\Below w'.heap.size w' w'')) :
  Ca_ 41 #[.pointer (some ⟨rb,0,none⟩),.pointer (some ⟨bm,0,none⟩)] w (.int .i64 (Mk.top H Pk n:Int)):=by
 have hB:=Below.refl w.heap.size w;go_enter Tryz.func41,Tryz.ntmps41;go_wp2_with fail
 go_loopw [5,12] (fun s5 s12 wr=>∃ (i b:Nat),i<=n/\s5 = .int .i64 (b:Int)/\s12 = .int .i64 (i:Int)/\Hid (b=Mk.top H Pk i)/\Below w.heap.size w wr) (fun _ s12 _=>n - (intOf s12).toNat)
 case atStart=>exact ⟨0,0,Nat.zero_le _,rfl,rfl,h_ rfl,hB⟩
 case round=>
  clear hB hv;obtain ⟨i,b,hi,rfl,rfl,HX,hB⟩:=hrel;by_cases hlt:i<n
  ·have hbn:b<n:=by
    rw[HX.out];rcases Nat.eq_zero_or_pos i with e|e
    rw[e];show 0<n;omega;have:=Mk.top_lt (H:=H) (P:=Pk) i e;omega
   have KV1:=KV.out wr i hlt hB;have KH1:=h_ fun w' (hb:Below w.heap.size w w')=>KH.out w' i b hlt hbn hb
   have hto:Mk.top H Pk (i+1)=if Pk i=true/\H i b=true then i else b:=by rw[HX.out];rfl
   have HTO:=h_ hto;clear hbn hto;generalize Pk i=pk at *;generalize H i b=hv at *;go_wp2_with fail
   refine KV1.mono ?_;rintro e v1 ⟨rfl,hb⟩;replace hB:=tb_ hB hb;clear hb KV1;cases pk
   ·have HT2:Hid (b=Mk.top H Pk (i+1)):=h_ (by rw[HTO.out,if_neg (by simp)]);clear KH1;(go_wp2_with fail);go_roundw
    case rel=>exact ⟨i+1,b,by omega,(by first|trivial|rfl),by go_num,HT2,hB⟩
    case measure=>simp[intOf];omega
   ·(go_wp2_with fail);refine (KH1.out _ hB).mono ?_;rintro e v2 ⟨rfl,hb⟩;replace hB:=tb_ hB hb;clear hb KH1;cases hv
    ·have HT2:Hid (b=Mk.top H Pk (i+1)):=h_ (by rw[HTO.out,if_neg (by simp)]);(go_wp2_with fail);go_roundw
     case rel=>exact ⟨i+1,b,by omega,(by first|trivial|rfl),by go_num,HT2,hB⟩
     case measure=>simp[intOf];omega
    ·have HT2:Hid (i=Mk.top H Pk (i+1)):=h_ (by rw[HTO.out,if_pos (by simp)]);(go_wp2_with fail);go_roundw
     case rel=>exact ⟨i+1,i,by omega,(by first|trivial|rfl),by go_num,HT2,hB⟩
     case measure=>simp[intOf];omega
  ·obtain rfl:i=n:=by omega
   go_wp2_with fail
   go_ret;exact ⟨by rw[<-HX.out];rfl,hB⟩
theorem qrr_ (rb bm:Nat) (x:Int) (right:Bool) (z:Int) (hz:0<z) (w:World) (KR:HK_ w 65 #[.pointer (some ⟨bm,0,none⟩),.int .i64 x] (.int .i64 z)) :
  Ca_ 34 #[.pointer (some ⟨rb,0,none⟩),.pointer (some ⟨bm,0,none⟩),.int .i64 x,.bool right] w (.int .i64 z):=by
 have t1:decide ((0:Int)<z)=true:=decide_eq_true hz;have t2:(z==0)=false:=by simpa using fun h=>by omega
 clear hz;have hB:=Below.refl w.heap.size w;go_enter Tryz.func34,Tryz.ntmps34;go_wp2_with fail
 refine (KR.out _ hB).mono ?_;rintro e v1 ⟨rfl,hb⟩;replace hB:=tb_ hB hb;clear hb;go_wp2_with fail
 go_ret;exact ⟨rfl,hB⟩
theorem qjx_ (rb bm:Nat) (x:Int) (z:Int) (hz:0<z) (w:World) (KR:HK_ w 65 #[.pointer (some ⟨bm,0,none⟩),.int .i64 x] (.int .i64 z)) :
  Ca_ 35 #[.pointer (some ⟨rb,0,none⟩),.pointer (some ⟨bm,0,none⟩),.int .i64 x] w (.int .i64 z):=by
 have t1:decide ((0:Int)<z)=true:=decide_eq_true hz;have t2:(z==0)=false:=by simpa using fun h=>by omega
 clear hz;have hB:=Below.refl w.heap.size w;go_enter Tryz.func35,Tryz.ntmps35;go_wp2_with fail
 refine (KR.out _ hB).mono ?_;rintro e v1 ⟨rfl,hb⟩;replace hB:=tb_ hB hb;clear hb;go_wp2_with fail
 go_ret;exact ⟨rfl,hB⟩
theorem qjy_ (rb bm:Nat) (x:Int) (z:Int) (hz:0<z) (w:World) (KR:HK_ w 65 #[.pointer (some ⟨bm,0,none⟩),.int .i64 x] (.int .i64 z)) :
  Ca_ 36 #[.pointer (some ⟨rb,0,none⟩),.pointer (some ⟨bm,0,none⟩),.int .i64 x] w (.int .i64 z):=by
 have t1:decide ((0:Int)<z)=true:=decide_eq_true hz;have t2:(z==0)=false:=by simpa using fun h=>by omega
 clear hz;have hB:=Below.refl w.heap.size w;go_enter Tryz.func36,Tryz.ntmps36;go_wp2_with fail
 refine (KR.out _ hB).mono ?_;rintro e v1 ⟨rfl,hb⟩;replace hB:=tb_ hB hb;clear hb;go_wp2_with fail
 go_ret;exact ⟨rfl,hB⟩
theorem qhy_ (rb bm k:Nat) (S:Mk.St) (hk:k<600) (w:World) (hS:RkS w rb S) (KR:HK_ w 65 #[.pointer (some ⟨bm,0,none⟩),.int .i64 (k:Int)] (.int .i64 0)) :
  Calls Tryz.prog 35 #[.pointer (some ⟨rb,0,none⟩),.pointer (some ⟨bm,0,none⟩),.int .i64 (k:Int)] w fun e w'=>e = .returned (.int .i64 0)/\RkS w' rb ⟨S.said,Mk.upd S.out k true⟩/\Kp (fun i=>i=rb) w w':=by
 have hB:=Below.refl w.heap.size w;go_enter Tryz.func35,Tryz.ntmps35;go_wp2_with fail
 refine (KR.out _ hB).mono ?_;rintro e v1 ⟨rfl,hb⟩;replace hB:=tb_ hB hb;clear hb KR;have hS1:=hS.below hB;have c1:=hS1.out hk;have f1:=hS1.free (600+k);have h6:(600:Nat)+k<1200:=by omega
 have hk2:Kp (fun i=>i=rb) w (v1.setCell ⟨rb,600+k,none⟩ (.bool true)):=(Kp.of hB).trans (Kp.gb (qbe_ v1 rb (600+k) _) (fun k hk=>(Option.some.inj hk).symm)) fun i hi _=>hi
 have hS2:=hS1.rule hk true;have HS2:=h_ hS2;have HK2:=h_ hk2;clear hS hS1 hS2 hk2;go_wp2_with fail
 go_ret;exact ⟨rfl,HS2.out,HK2.out⟩
theorem qnz_ (rb bm k:Nat) (S:Mk.St) (hk:k<600) (right:Bool) (g1 g2:Bool) (h1:decide ((0:Int)<(S.said k:Int))=g1) (h2:((S.said k:Int) != (word right:Int))=g2) (w:World) (hS:RkS w rb S) (KR:HK_ w 65 #[.pointer (some ⟨bm,0,none⟩),.int .i64 (k:Int)] (.int .i64 0)) :
  Calls Tryz.prog 34 #[.pointer (some ⟨rb,0,none⟩),.pointer (some ⟨bm,0,none⟩),.int .i64 (k:Int),.bool right] w fun e w'=>e = .returned (.int .i64 (if g1 && g2 then 1 else 0))/\RkS w' rb (if g1 && g2 then S else ⟨Mk.upd S.said k (word right),S.out⟩)/\Kp (fun i=>i=rb) w w':=by
 have fin:∀ v1:World,Below w.heap.size w v1->∀ y:Nat,RkS (v1.setCell ⟨rb,k,none⟩ (.int .i64 (y:Int))) rb ⟨Mk.upd S.said k y,S.out⟩/\Kp (fun i=>i=rb) w (v1.setCell ⟨rb,k,none⟩ (.int .i64 (y:Int))):=fun v1 hB y=>⟨(hS.below hB).say hk y,(Kp.of hB).trans (Kp.gb (qbe_ v1 rb k _) (fun k hk=>(Option.some.inj hk).symm)) fun i hi _=>hi⟩
 have FIN:=h_ fin;have HS:=h_ hS;have hw:(right=true/\word right=1)\/(right=false/\word right=2):=by cases right <;> simp[word]
 obtain ⟨y,hy⟩:∃ y,y=word right:=⟨_,rfl⟩;rw[<-hy] at hw h2 |-;obtain ⟨s,hs⟩:∃ s,s=S.said k:=⟨_,rfl⟩;rw[<-hs] at h1 h2;have HSS:=h_ hs;clear fin hS hy hs;obtain ⟨rfl,rfl⟩|⟨rfl,rfl⟩:=hw
 ·have hB:=Below.refl w.heap.size w;go_enter Tryz.func34,Tryz.ntmps34;go_wp2_with fail
  refine (KR.out _ hB).mono ?_;rintro e v1 ⟨rfl,hb⟩;replace hB:=tb_ hB hb;clear hb KR;have c1:v1.cell? ⟨rb,k,none⟩=some (.int .i64 (s:Int)):=by rw[HSS.out];exact (HS.out.below hB).said hk
  have f1:=(HS.out.below hB).free k;have hk12:k<1200:=by omega
  have HF:=h_ (FIN.out v1 hB 1);have h3:((s:Int) != 1)=g2:=h2;clear FIN h2;cases g1
  ·have h4:¬0<s:=by have:=of_decide_eq_false h1;omega
   clear h1;go_wp2_with fail
   go_ret;exact ⟨rfl,HF.out.1,HF.out.2⟩
  ·have h4:0<s:=by have:=of_decide_eq_true h1;omega
   clear h1;cases g2
   ·(go_wp2_with fail);go_ret;exact ⟨rfl,HF.out.1,HF.out.2⟩
   ·clear HF;(go_wp2_with fail);go_ret;exact ⟨rfl,HS.out.below hB,Kp.of hB⟩
 ·have hB:=Below.refl w.heap.size w;go_enter Tryz.func34,Tryz.ntmps34;go_wp2_with fail
  refine (KR.out _ hB).mono ?_;rintro e v1 ⟨rfl,hb⟩;replace hB:=tb_ hB hb;clear hb KR;have c1:v1.cell? ⟨rb,k,none⟩=some (.int .i64 (s:Int)):=by rw[HSS.out];exact (HS.out.below hB).said hk
  have f1:=(HS.out.below hB).free k;have hk12:k<1200:=by omega
  have HF:=h_ (FIN.out v1 hB 2);have h3:((s:Int) != 2)=g2:=h2;clear FIN h2;cases g1
  ·have h4:¬0<s:=by have:=of_decide_eq_false h1;omega
   clear h1;go_wp2_with fail
   go_ret;exact ⟨rfl,HF.out.1,HF.out.2⟩
  ·have h4:0<s:=by have:=of_decide_eq_true h1;omega
   clear h1;cases g2
   ·(go_wp2_with fail);go_ret;exact ⟨rfl,HF.out.1,HF.out.2⟩
   ·clear HF;(go_wp2_with fail);go_ret;exact ⟨rfl,HS.out.below hB,Kp.of hB⟩
theorem qhz_ (rb bm n c k:Nat) (a:Option Addr) (M:List Ent) (S:Mk.St) (hn:n<=500) (w:World) (hS:RkS w rb S) (hv:w.cell? ⟨bm,83,none⟩=some (.slice a n c)) (KR:HK_ w 65 #[.pointer (some ⟨bm,0,none⟩),.int .i64 (k:Int)] (.int .i64 0))
  (KO:Hid (∀w' (x y:Nat),x<n->y<n->Kp (fun i=>i=rb) w w'->Calls Tryz.prog 66 #[.pointer (some ⟨bm,0,none⟩),.int .i64 (x:Int),.int .i64 (y:Int)] w' fun e w''=>e = .returned (.bool (pb (Anc M (x:Int) (y:Int))))/\Below w'.heap.size w' w'')) (hkn:k<n) :
  Calls Tryz.prog 36 #[.pointer (some ⟨rb,0,none⟩),.pointer (some ⟨bm,0,none⟩),.int .i64 (k:Int)] w fun e w'=>e = .returned (.int .i64 0)/\RkS w' rb (recK M S (k:Int) n)/\Kp (fun i=>i=rb) w w':=by
 have hB:=Below.refl w.heap.size w;go_enter Tryz.func36,Tryz.ntmps36;go_wp2_with fail
 refine (KR.out _ hB).mono ?_;rintro e v1 ⟨rfl,hb⟩;replace hB:=tb_ hB hb;clear hb KR;have hv1:=(hB.cell (p:=⟨bm,83,none⟩) (block_lt_of_cell hv)).trans hv;have h0:RkS v1 rb (recK M S (k:Int) 0):=by rw[qpw_];exact hS.below hB
 have hK0:Kp (fun i=>i=rb) w v1:=Kp.of hB;clear hB hS hv;go_wp2_with fail
 go_loopw [20] (fun s20 wr=>∃ i:Nat,i<=n/\s20 = .int .i64 (i:Int)/\RkS wr rb (recK M S (k:Int) i)/\Kp (fun i=>i=rb) w wr) (fun s20 _=>n - (intOf s20).toNat)
 case atStart=>exact ⟨0,Nat.zero_le _,rfl,h0,hK0⟩
 case round=>
  clear h0 hK0 hv1;obtain ⟨i,hi,rfl,hX,hK⟩:=hrel;by_cases hlt:i<n
  ·have hi6:i<600:=by omega
   have h6:(600:Nat)+i<1200:=by omega
   have h12:i<1200:=by omega
   have KO1:=KO.out wr i k hlt hkn hK;have KO2:=h_ fun w' (hb:Below wr.heap.size wr w')=>KO.out w' k i hkn hlt (hK.trans (Kp.of (F:=fun _=>False) hb) fun _ hf _=>hf.elim)
   have hon:onB M (k:Int) i=(pb (Anc M (i:Int) (k:Int)) || pb (Anc M (k:Int) (i:Int))):=rfl;generalize pb (Anc M (i:Int) (k:Int))=a1 at *;generalize pb (Anc M (k:Int) (i:Int))=a2 at *;have HON:=h_ hon;clear hon;have HX:=h_ hX;have HK:=h_ hK
   -- behind the store of what is ruled out: the rest of the round
   have hbo:∀ v3:World,Below wr.heap.size wr v3->onB M (k:Int) i=true->v3.cell? ⟨rb,600+i,none⟩=some (.bool ((recK M S (k:Int) i).out i))/\v3.frozen? ⟨rb,600+i,none⟩=false/\(v3.setCell ⟨rb,600+i,none⟩ (.bool false)).cell? ⟨rb,i,none⟩=some (.int .i64 (S.said i:Int))/\(v3.setCell ⟨rb,600+i,none⟩ (.bool false)).frozen? ⟨rb,i,none⟩=false/\
     Hid ((S.said i=2->RkS ((v3.setCell ⟨rb,600+i,none⟩ (.bool false)).setCell ⟨rb,i,none⟩ (.int .i64 0)) rb (recK M S (k:Int) (i+1))/\Kp (fun i=>i=rb) w ((v3.setCell ⟨rb,600+i,none⟩ (.bool false)).setCell ⟨rb,i,none⟩ (.int .i64 0)))/\
      (¬S.said i=2->RkS (v3.setCell ⟨rb,600+i,none⟩ (.bool false)) rb (recK M S (k:Int) (i+1))/\Kp (fun i=>i=rb) w (v3.setCell ⟨rb,600+i,none⟩ (.bool false)))):=fun v3 hb hon=>by
    have h3:=hX.below hb;have h4:=h3.rule hi6 false;have hK3:Kp (fun i=>i=rb) w v3:=hK.trans (Kp.of (F:=fun _=>False) hb) fun _ hf _=>hf.elim
    have hK4:Kp (fun i=>i=rb) w (v3.setCell ⟨rb,600+i,none⟩ (.bool false)):=hK3.trans (Kp.gb (qbe_ v3 rb (600+i) _) (fun k hk=>(Option.some.inj hk).symm)) fun i hi _=>hi
    have e:=qws_ (M:=M) (S:=S) (x:=(k:Int)) (k:=i) hon _ rfl;rw[qgj_] at e;refine ⟨h3.out hi6,h3.free _,?_,h4.free _,h_ ⟨fun h2=>⟨?_,hK4.trans (Kp.gb (qbe_ _ rb i _) (fun k hk=>(Option.some.inj hk).symm)) fun i hi _=>hi⟩,fun h2=>⟨?_,hK4⟩⟩⟩;have:=h4.said hi6;rw[this];show some (Value.int .i64 ((recK M S (k:Int) i).said i:Int))=_;rw[qgj_];have h5:=h4.say hi6 0;rw[if_pos h2] at e;rw[<-e];exact h5
    ·rw[if_neg h2] at e;rw[<-e]
     have e2:putS (recK M S (k:Int) i) i (S.said i) false=⟨(recK M S (k:Int) i).said,Mk.upd (recK M S (k:Int) i).out i false⟩:=st_ext (fun j=>by
      show Mk.upd (recK M S (k:Int) i).said i (S.said i) j=(recK M S (k:Int) i).said j;unfold Mk.upd;split
      ·rename_i ej;rw[ej,qgj_]
      rfl) fun _=>rfl
     rw[e2];exact h4
   have HBO:=h_ hbo;have hw:=Below.refl wr.heap.size wr;clear hbo hX hK;generalize (recK M S (k:Int) i).out i=o at *;generalize hsi:S.said i=s at *;clear hsi;go_wp2_with fail
   refine KO1.mono ?_;rintro e v2 ⟨rfl,hb⟩;have hB:=tb_ hw hb;clear hb KO1 hw;cases a1
   ·(go_wp2_with fail);refine (KO2.out _ hB).mono ?_;rintro e v3 ⟨rfl,hb⟩;replace hB:=tb_ hB hb;clear hb KO2;cases a2
    ·have hN:Hid (RkS v3 rb (recK M S (k:Int) (i+1))/\Kp (fun i=>i=rb) w v3):=h_ ⟨by rw[qpx_ (HON.out.trans rfl)];exact HX.out.below hB,HK.out.trans (Kp.of (F:=fun _=>False) hB) fun _ hf _=>hf.elim⟩;clear HBO;(go_wp2_with fail);go_roundw
     case rel=>exact ⟨i+1,by omega,by go_num,hN.out.1,hN.out.2⟩
     case measure=>simp[intOf];omega
    ·obtain ⟨c1,f1,c2,f2,HE⟩:=HBO.out _ hB (HON.out.trans rfl);clear HBO;by_cases hs:s=2
     ·have h1:((s:Int)==2)=true:=(by rw[hs];rfl);have HE1:=h_ (HE.out.1 hs);clear hs HE;(go_wp2_with fail);go_roundw
      case rel=>exact ⟨i+1,by omega,by go_num,HE1.out.1,HE1.out.2⟩
      case measure=>simp[intOf];omega
     ·have h1:((s:Int)==2)=false:=by simpa using fun h=>hs (by omega)
      have HE1:=h_ (HE.out.2 hs);clear hs HE;(go_wp2_with fail);go_roundw
      case rel=>exact ⟨i+1,by omega,by go_num,HE1.out.1,HE1.out.2⟩
      case measure=>simp[intOf];omega
   ·clear KO2;obtain ⟨c1,f1,c2,f2,HE⟩:=HBO.out _ hB (HON.out.trans rfl);clear HBO;by_cases hs:s=2
    ·have h1:((s:Int)==2)=true:=(by rw[hs];rfl);have HE1:=h_ (HE.out.1 hs);clear hs HE;(go_wp2_with fail);go_roundw
     case rel=>exact ⟨i+1,by omega,by go_num,HE1.out.1,HE1.out.2⟩
     case measure=>simp[intOf];omega
    ·have h1:((s:Int)==2)=false:=by simpa using fun h=>hs (by omega)
     have HE1:=h_ (HE.out.2 hs);clear hs HE;(go_wp2_with fail);go_roundw
     case rel=>exact ⟨i+1,by omega,by go_num,HE1.out.1,HE1.out.2⟩
     case measure=>simp[intOf];omega
  ·obtain rfl:i=n:=by omega
   have HX:=h_ hX;have HK:=h_ hK;clear hX hK;go_wp2_with fail
   go_ret;exact ⟨rfl,HX.out,HK.out⟩
section
variable {w w':World} {B bm rb:Nat} {F:Nat->Prop} {r:Ru} {M:List Ent} {S:Mk.St}
theorem qcu_ (h:RfS w B F bm r M) (x:Int):Calls Tryz.prog 65 #[.pointer (some ⟨bm,0,none⟩),.int .i64 x] w fun e w''=>e = .returned (.int .i64 (chg M.length x))/\Below w.heap.size w w'':=by
 obtain ⟨a,c,hc⟩:=h.list16;exact qabg_ bm M.length c a x _ rfl w hc
theorem qwv_ (h:RfS w B F bm r M) (hM:Ok r M) (hl:M.length<=500) (i:Nat) (hi:i<M.length):∃ L:List Int,Row M (i:Int) L/\0<L.length/\L.length<=500/\(∀(k:Nat) z,L[k]?=some z->∃ j:Nat,z=(j:Int)/\j<600)/\
  ∀ w',Below w.heap.size w w'->Calls Tryz.prog 68 #[.pointer (some ⟨bm,0,none⟩),.int .i64 (i:Int)] w' fun e w''=>∃ v,e = .returned v/\w''.ownsRow w'.heap.size 3 1 v L.length (L.map (Value.int .i64))/\Below w'.heap.size w' w'':=by
 have he:=List.getElem?_eq_getElem hi;obtain ⟨L,h1,h2⟩:=hM.row he;refine ⟨L,h1,by omega,Nat.le_trans (Mk.qadb_ hM h1) hl,fun k z hz=>?_,fun w' hb=>qrl_ (h.below hb) hM (by omega) i _ he L h1⟩;have:=Mk.qca_ hM h1 (List.mem_of_getElem? hz);unfold isP at this;exact ⟨z.toNat,by omega,by omega⟩
theorem ron_at (h:RfS w B F bm r M) (hM:Ok r M) (hl:M.length<=500) (x:Int) (i:Nat) (hi:i<M.length):Calls Tryz.prog 66 #[.pointer (some ⟨bm,0,none⟩),.int .i64 x,.int .i64 (i:Int)] w fun e w''=>e = .returned (.bool (pb (Anc M x (i:Int))))/\Below w.heap.size w w'':=by
 obtain ⟨L,h1,h2,h3,_,h5⟩:=qwv_ h hM hl i hi
 have e:pb (Anc M x (i:Int))=L.any fun z=>z==x:=by
  rw[Bool.eq_iff_iff,Mk.qck_,Mk.qho_ h1,List.any_eq_true];exact ⟨fun hh=>⟨x,hh,by simp⟩,fun ⟨z,hz,hh⟩=>by rw[<-beq_iff_eq.1 hh];exact hz⟩
 rw[e];exact ron_w bm x (i:Int) L L.length rfl h2 (by omega) w (h_ h5)
theorem not_p {x:Int} {n:Nat} (h:¬isP M x) (hn:n=M.length):¬(0<=x/\x<(n:Int)):=by rw[hn];exact h
theorem qpy_ (h:RfS w B F bm r M) (hS:RkS w rb S) (hM:Ok r M) (hl:M.length<=500) (x:Int):Calls Tryz.prog 38 #[.pointer (some ⟨rb,0,none⟩),.pointer (some ⟨bm,0,none⟩),.int .i64 x] w fun e w''=>e = .returned (.bool (childB M S x))/\Below w.heap.size w w'':=by
 obtain ⟨a,c,hc⟩:=h.list16;by_cases hp:isP M x;obtain ⟨i,rfl⟩:=Int.eq_ofNat_of_zero_le hp.1;have hi:=Mk.qdv_.1 hp;obtain ⟨L,h1,h2,h3,h4,h5⟩:=qwv_ h hM hl i hi;rw[Mk.qwf_ hM h1];exact qwn_ rb bm M.length c i a S hi L (h_ h4) L.length rfl h2 (by omega) w hc (h_ h5) (h_ fun w' k hk hb=>qjv_ rb k S hk w' (hS.below hb));rw[Mk.qlr_ hp];exact qabh_ rb bm M.length c a x (not_p hp rfl) w hc
theorem qpz_ (h:RfS w B F bm r M) (hS:RkS w rb S) (hM:Ok r M) (hl:M.length<=500) (x:Int):Calls Tryz.prog 39 #[.pointer (some ⟨rb,0,none⟩),.pointer (some ⟨bm,0,none⟩),.int .i64 x] w fun e w''=>e = .returned (.bool (validB M S x))/\Below w.heap.size w w'':=by
 obtain ⟨a,c,hc⟩:=h.list16;by_cases hp:isP M x;obtain ⟨i,rfl⟩:=Int.eq_ofNat_of_zero_le hp.1;have hi:=Mk.qdv_.1 hp;obtain ⟨L,h1,h2,h3,h4,h5⟩:=qwv_ h hM hl i hi;rw[Mk.qls_ hM hp h1];exact qwo_ rb bm M.length c i a S hi L (h_ h4) L.length rfl h2 (by omega) w hc (h_ h5) (h_ fun w' hb=>hS.below hb);rw[Mk.qhp_ hp];exact qabi_ rb bm M.length c a x (not_p hp rfl) w hc
theorem qlx_ (h:RfS w B F bm r M) (hS:RkS w rb S) (hM:Ok r M) (hl:M.length<=500) (x:Int):Calls Tryz.prog 26 #[.pointer (some ⟨rb,0,none⟩),.pointer (some ⟨bm,0,none⟩),.int .i64 x] w fun e w''=>e = .returned (.bool (failB M S x))/\Below w.heap.size w w'':=by
 obtain ⟨a,c,hc⟩:=h.list16;by_cases hp:isP M x;obtain ⟨i,rfl⟩:=Int.eq_ofNat_of_zero_le hp.1;have hi:=Mk.qdv_.1 hp;rw[Mk.qrp_ hM hi];exact qrq_ rb bm M.length c i a hi _ _ w hc (h_ fun w' hb=>qjv_ rb i S (by omega) w' (hS.below hb)) (h_ fun w' hb=>qpy_ (h.below hb) (hS.below hb) hM hl _);rw[Mk.qgi_ hp];exact qwu_ rb bm M.length c a x (not_p hp rfl) w hc
theorem qww_ (hS:RkS w rb S) (hl:M.length<=500) (i:Nat) (hi:i<M.length):Calls Tryz.prog 24 #[.pointer (some ⟨rb,0,none⟩),.int .i64 (i:Int)] w fun e w''=>e = .returned (.bool (itself S i))/\Below w.heap.size w w'':=qjv_ rb i S (by omega) w hS
theorem qaid_ (h:RfS w B F bm r M) (hS:RkS w rb S) (hM:Ok r M) (hl:M.length<=500):Calls Tryz.prog 40 #[.pointer (some ⟨rb,0,none⟩),.pointer (some ⟨bm,0,none⟩)] w fun e w''=>e = .returned (.int .i64 (Mk.top (Hv r M) (fun i=>validB M S (i:Int)) M.length:Int))/\Below w.heap.size w w'':=by
 obtain ⟨a,c,hc⟩:=h.list16;exact rbest_w rb bm M.length c a (by omega) _ _ w hc (h_ fun w' i _ hb=>qpz_ (h.below hb) (hS.below hb) hM hl _) (h_ fun w' i j hi hj hb=>qiu_ (h.below hb) hi hj)
theorem qaie_ (h:RfS w B F bm r M) (hS:RkS w rb S) (hM:Ok r M) (hl:M.length<=500):Calls Tryz.prog 41 #[.pointer (some ⟨rb,0,none⟩),.pointer (some ⟨bm,0,none⟩)] w fun e w''=>e = .returned (.int .i64 (Mk.top (Hv r M) (fun i=>!failB M S (i:Int)) M.length:Int))/\Below w.heap.size w w'':=by
 obtain ⟨a,c,hc⟩:=h.list16
 exact rlead_w rb bm M.length c a (by omega) _ (fun i=>!failB M S (i:Int)) w hc (h_ fun w' i _ hb=>by
  rw[Bool.not_not];exact qlx_ (h.below hb) (hS.below hb) hM hl _) (h_ fun w' i j hi hj hb=>qiu_ (h.below hb) hi hj)
theorem qwx_ {n:Nat} {x:Int} (h:¬chg n x=0):0<chg n x:=by
 unfold chg at h |-;split
 ·split;omega
  ·rename_i h1 h2;rw[if_pos h1,if_neg h2] at h;omega
 omega
theorem chg_at {n:Nat} {x:Int} (h:chg n x=0):∃ k:Nat,x=(k:Int)/\k<n:=by
 obtain ⟨_,h2,h3⟩:=Mk.qem_ h;exact ⟨x.toNat,h3,h2⟩
theorem qrs_ (h:RfS w B F bm r M) (hS:RkS w rb S) (hl:M.length<=500) (x:Int) (right:Bool):Calls Tryz.prog 34 #[.pointer (some ⟨rb,0,none⟩),.pointer (some ⟨bm,0,none⟩),.int .i64 x,.bool right] w fun e w'=>e = .returned (.int .i64 (verdict M.length S x right).1)/\RkS w' rb (verdict M.length S x right).2/\Kp (fun i=>i=rb) w w':=by
 unfold Mk.verdict;by_cases hc:chg M.length x=0
 ·rw[if_neg (fun hh=>hh hc)];obtain ⟨k,rfl,hk⟩:=chg_at hc;rw[Int.toNat_natCast]
  refine (qnz_ rb bm k S (by omega) right _ _ rfl rfl w hS (h_ fun w' hb=>by
   have:=qcu_ (h.below hb) (k:Int);rwa [hc] at this)).mono ?_
  rintro e w' ⟨rfl,h1,h2⟩
  have eg:(decide ((0:Int)<(S.said k:Int)) && ((S.said k:Int) != (word right:Int)))=decide (0<S.said k/\¬S.said k=word right):=by
   rw[Bool.eq_iff_iff,Bool.and_eq_true,decide_eq_true_iff,decide_eq_true_iff,bne_iff_ne];constructor;rintro ⟨a,b⟩;exact ⟨by omega,fun e=>b (by rw[e])⟩;rintro ⟨a,b⟩;exact ⟨by omega,fun e=>b (by omega)⟩
  rw[eg] at h1 |-;by_cases hd:0<S.said k/\¬S.said k=word right;rw[if_pos hd];rw[decide_eq_true hd] at h1 |-;exact ⟨rfl,h1,h2⟩;rw[if_neg hd];rw[decide_eq_false hd] at h1 |-;exact ⟨rfl,h1,h2⟩
 rw[if_pos hc];refine (qrr_ rb bm x right _ (qwx_ hc) w (h_ fun w' hb=>qcu_ (h.below hb) x)).mono ?_;rintro e w' ⟨rfl,hb⟩;exact ⟨rfl,hS.below hb,Kp.of hb⟩
theorem qabl_ (h:RfS w B F bm r M) (hS:RkS w rb S) (hl:M.length<=500) (x:Int):Calls Tryz.prog 35 #[.pointer (some ⟨rb,0,none⟩),.pointer (some ⟨bm,0,none⟩),.int .i64 x] w fun e w'=>e = .returned (.int .i64 (inval M.length S x).1)/\RkS w' rb (inval M.length S x).2/\Kp (fun i=>i=rb) w w':=by
 unfold Mk.inval;by_cases hc:chg M.length x=0
 ·rw[if_neg (fun hh=>hh hc)];obtain ⟨k,rfl,hk⟩:=chg_at hc;rw[Int.toNat_natCast]
  exact qhy_ rb bm k S (by omega) w hS (h_ fun w' hb=>by
   have:=qcu_ (h.below hb) (k:Int);rwa [hc] at this)
 rw[if_pos hc];refine (qjx_ rb bm x _ (qwx_ hc) w (h_ fun w' hb=>qcu_ (h.below hb) x)).mono ?_;rintro e w' ⟨rfl,hb⟩;exact ⟨rfl,hS.below hb,Kp.of hb⟩
theorem qabm_ (h:RfS w B F bm r M) (hS:RkS w rb S) (hFr:¬F rb) (hB:B<=rb) (hM:Ok r M) (hl:M.length<=500) (x:Int):Calls Tryz.prog 36 #[.pointer (some ⟨rb,0,none⟩),.pointer (some ⟨bm,0,none⟩),.int .i64 x] w fun e w'=>e = .returned (.int .i64 (recon M S x).1)/\RkS w' rb (recon M S x).2/\Kp (fun i=>i=rb) w w':=by
 by_cases hc:chg M.length x=0
 ·rw[qwt_ hM hc];obtain ⟨k,rfl,hk⟩:=chg_at hc;obtain ⟨a,c,hv⟩:=h.list16
  exact qhz_ rb bm M.length c k a M S hl w hS hv (h_ fun w' hb=>by
   have:=qcu_ (h.below hb) (k:Int);rwa [hc] at this) (h_ fun w' x y hx hy hK=>ron_at (h.on hK (fun i hi e=>hFr (e ▸ hi)) (fun i hi=>hi ▸ hB)) hM hl (x:Int) y hy) hk
 ·have e:Mk.recon M S x=(chg M.length x,S):=by unfold Mk.recon;rw[if_pos hc]
  rw[e];refine (qjy_ rb bm x _ (qwx_ hc) w (h_ fun w' hb=>qcu_ (h.below hb) x)).mono ?_;rintro e w' ⟨rfl,hb⟩;exact ⟨rfl,hS.below hb,Kp.of hb⟩
end
def mkZ:Mk.St:=⟨fun _=>0,fun _=>false⟩
theorem qaif_:Tryz.prog.built 85 []=some (mkM mkZ):=by kernel_rfl
section
variable {ops:Array Oper} {rest:List Oper} {o:Oper} {a:Act} {w:World} {Q:Exit->Act->World->Prop}
theorem qaig_ (hgd:o.guard=none) (ho:o.op = .build 85 #[]) (hk:wpList Tryz.prog ops Q rest (a.put o.dst (.agg (mkM mkZ))) w):wpList Tryz.prog ops Q (o :: rest) a w:=by
 refine wpList_plain hgd fun _ hK=>?_
 unfold Oper.wp execOp;simp only[ho,Sem.run_bind];rw[Array.map_empty,run_build w 85 _ _ qaif_];exact hK _ _ hk
theorem mk_box (hgd:o.guard=none) (x:Operand) (ho:o.op = .box 85 x) (cs:Array Value) (hx:a.eval x = .agg cs) (hk:wpList Tryz.prog ops Q rest (a.put o.dst (.pointer (some ⟨w.heap.size,0,none⟩))) (w.alloc (.cells cs 85))):wpList Tryz.prog ops Q (o :: rest) a w:=by
 refine wpList_plain hgd fun _ hK=>?_
 unfold Oper.wp;rw[ex_box ho hx];exact hK _ _ hk
end
theorem rknew_w (w:World):Calls Tryz.prog 31 #[] w fun e w'=>∃ rb,e = .returned (.pointer (some ⟨rb,0,none⟩))/\w.heap.size<=rb/\RkS w' rb Mk.st0/\Below w.heap.size w w':=by
 go_enter Tryz.func31,Tryz.ntmps31;go_upto_region 2 with (with_reducible first|refine qaig_ rfl rfl ?_|refine mk_box rfl _ rfl _ rfl ?_)
 generalize hw2:World.alloc _ _=v2;have hN:RkS v2 w.heap.size mkZ:=by rw[<-hw2];exact Has.new _ _
 have hb2:Below w.heap.size w v2:=bl_ hw2;obtain ⟨rb,e⟩:∃ rb,rb=w.heap.size:=⟨_,rfl⟩;rw[<-e] at hN |-;have HB:Hid (w.heap.size<=rb):=h_ (by omega);clear hw2 e;have c1:v2.cell? ⟨rb,0,none⟩=some (.int .i64 0):=hN.said (k:=0) (by decide);have f1:=hN.free 0
 have h3:RkS (v2.setCell ⟨rb,0,none⟩ (.int .i64 1)) rb Mk.st0:=by
  have:=hN.say (k:=0) (by decide) 1
  have e:(⟨Mk.upd mkZ.said 0 1,mkZ.out⟩:Mk.St)=Mk.st0:=st_ext (fun i=>by
   show Mk.upd mkZ.said 0 1 i=Mk.st0.said i;unfold Mk.upd Mk.st0 mkZ;rfl) fun _=>rfl
  rw[e] at this;exact this
 have H3:=h_ h3;have H4:=h_ (hb2.setCell (p:=⟨rb,0,none⟩) HB.out (.int .i64 1));clear h3 hN hb2;go_wp2_with fail
 go_ret;exact ⟨rb,rfl,HB.out,H3.out,H4.out⟩
def boA (bt mb bm rb:Nat):Array Value:=#[.pointer (some ⟨bt,0,none⟩),.pointer (some ⟨mb,0,none⟩),.pointer (some ⟨bm,0,none⟩),.pointer (some ⟨rb,0,none⟩)]
def CorQ (B:Nat) (w:World) (r:Ru) (bb bt mb mg bm rb:Nat) (x:Option (Nat × Ac)) (Mt Mr:List Ent) (Sp Sr:Mk.St) (F Fm:Nat->Prop):Prop :=
 MkS w F mb mg (some ⟨bt,0,none⟩) r Mt Sp/\RfS w B Fm bm r Mr/\RkS w rb Sr/\Has w bb (boA bt mb bm rb) 60/\
 (∀i,F i->B<=i/\¬Fm i/\i ≠ rb/\i ≠ bb)/\(∀i,Fm i->i ≠ mb/\i ≠ mg/\i ≠ rb/\i ≠ bb)/\(B<=mb/\B<=mg/\B<=rb/\mg ≠ rb/\mg ≠ bb/\rb ≠ bb/\mb ≠ rb/\mb ≠ bb)/\
 ∀ p,x=some p->AcAt w p.1 p.2/\¬F p.1/\¬Fm p.1/\p.1 ≠ mg/\p.1 ≠ rb
def Core (w0 w:World) (r:Ru) (bb bt mb mg bm rb:Nat) (x:Option (Nat × Ac)) (Mt Mr:List Ent) (Sp Sr:Mk.St):Prop:=(∃F Fm,CorQ w0.heap.size w r bb bt mb mg bm rb x Mt Mr Sp Sr F Fm)/\Below w0.heap.size w0 w
section
variable {w0 w w':World} {r:Ru} {bb bt mb mg bm rb:Nat} {x:Option (Nat × Ac)} {Mt Mr M:List Ent} {Sp Sr S':Mk.St}
theorem CorQ.below {B:Nat} {F Fm:Nat->Prop} (h:CorQ B w r bb bt mb mg bm rb x Mt Mr Sp Sr F Fm) (hb:Below w.heap.size w w'):CorQ B w' r bb bt mb mg bm rb x Mt Mr Sp Sr F Fm:=by
 obtain ⟨h1,h2,h3,h4,h5,h6,h7,h8⟩:=h;exact ⟨h1.below hb,h2.below hb,h3.below hb,qd_ hb h4 h4.lt,h5,h6,h7,fun p hp=>⟨(h8 p hp).1.on hb,(h8 p hp).2⟩⟩
theorem Core.below (h:Core w0 w r bb bt mb mg bm rb x Mt Mr Sp Sr) (hb:Below w.heap.size w w'):Core w0 w' r bb bt mb mg bm rb x Mt Mr Sp Sr:=by
 obtain ⟨⟨F,Fm,h⟩,hB⟩:=h;exact ⟨⟨F,Fm,h.below hb⟩,tb_ hB hb⟩
theorem Core.bel (h:Core w0 w r bb bt mb mg bm rb x Mt Mr Sp Sr):Below w0.heap.size w0 w:=h.2
theorem Core.loose (h:Core w0 w r bb bt mb mg bm rb x Mt Mr Sp Sr):Core w0 w r bb bt mb mg bm rb none Mt Mr Sp Sr:=by
 obtain ⟨⟨F,Fm,h1,h2,h3,h4,h5,h6,h7,_⟩,hB⟩:=h;exact ⟨⟨F,Fm,h1,h2,h3,h4,h5,h6,h7,fun p hp=>by cases hp⟩,hB⟩
theorem MkS.tlt {F:Nat->Prop} (h:MkS w F mb mg (some ⟨bt,0,none⟩) r M Sp) {i:Nat} (hi:F i):i<w.heap.size:=by
 obtain ⟨⟨b,ls,_,h1,_⟩|⟨h1,_⟩,_⟩:=h;exact h1.1 i hi;cases h1
theorem Core.box (h:Core w0 w r bb bt mb mg bm rb none Mt Mr Sp Sr) (hb:Below w.heap.size w w') {bx:Nat} (hx:bx=w.heap.size) {y:Ac} (hY:AcAt w' bx y):Core w0 w' r bb bt mb mg bm rb (some (bx,y)) Mt Mr Sp Sr:=by
 obtain ⟨⟨F,Fm,h⟩,hB⟩:=h;have h':=h.below hb;obtain ⟨g1,g2,g3,_⟩:=h;obtain ⟨h1,h2,h3,h4,h5,h6,h7,_⟩:=h';subst hx;refine ⟨⟨F,Fm,h1,h2,h3,h4,h5,h6,h7,fun p hp=>?_⟩,tb_ hB hb⟩;cases hp;refine ⟨hY,fun hf=>?_,fun hf=>?_,fun e=>?_,fun e=>?_⟩;exact absurd (g1.tlt hf) (Nat.lt_irrefl _);exact absurd (g2.2.1 _ hf).2 (Nat.lt_irrefl _);have:=g1.2.2.1.lt;have e2:w.heap.size=mg:=e;omega;have:=Has.lt g3;have e2:w.heap.size=rb:=e;omega
theorem Core.act {bx:Nat} {y:Ac} (h:Core w0 w r bb bt mb mg bm rb (some (bx,y)) Mt Mr Sp Sr):AcAt w bx y:=by
 obtain ⟨⟨F,Fm,_,_,_,_,_,_,_,h8⟩,_⟩:=h;exact (h8 _ rfl).1
theorem Core.b0 (h:Core w0 w r bb bt mb mg bm rb x Mt Mr Sp Sr):w.cell? ⟨bb,0,none⟩=some (.pointer (some ⟨bt,0,none⟩)):=by
 obtain ⟨⟨F,Fm,_,_,_,h4,_⟩,_⟩:=h;exact Has.cell h4 0
theorem Core.b1 (h:Core w0 w r bb bt mb mg bm rb x Mt Mr Sp Sr):w.cell? ⟨bb,1,none⟩=some (.pointer (some ⟨mb,0,none⟩)):=by
 obtain ⟨⟨F,Fm,_,_,_,h4,_⟩,_⟩:=h;exact Has.cell h4 1
theorem Core.b2 (h:Core w0 w r bb bt mb mg bm rb x Mt Mr Sp Sr):w.cell? ⟨bb,2,none⟩=some (.pointer (some ⟨bm,0,none⟩)):=by
 obtain ⟨⟨F,Fm,_,_,_,h4,_⟩,_⟩:=h;exact Has.cell h4 2
theorem Core.b3 (h:Core w0 w r bb bt mb mg bm rb x Mt Mr Sp Sr):w.cell? ⟨bb,3,none⟩=some (.pointer (some ⟨rb,0,none⟩)):=by
 obtain ⟨⟨F,Fm,_,_,_,h4,_⟩,_⟩:=h;exact Has.cell h4 3
theorem Core.list (h:Core w0 w r bb bt mb mg bm rb x Mt Mr Sp Sr):∃ a c,∀ w',Below w.heap.size w w'->w'.cell? ⟨bm,83,none⟩=some (.slice a Mr.length c):=by
 obtain ⟨⟨F,Fm,_,h2,_⟩,_⟩:=h;obtain ⟨a,c,h⟩:=h2.list16;exact ⟨a,c,fun w' hb=>(hb.cell (p:=⟨bm,83,none⟩) (block_lt_of_cell h)).trans h⟩
theorem Core.rd (h:Core w0 w r bb bt mb mg bm rb x Mt Mr Sp Sr) (hM:Ok r Mt) (hl:Mt.length<=1000):MkR w (some ⟨mb,0,none⟩) (some ⟨bt,0,none⟩) r Mt Sp:=by
 obtain ⟨⟨F,Fm,h1,_⟩,_⟩:=h;exact h1.rd (.inr hM) hl
theorem Core.rf (h:Core w0 w r bb bt mb mg bm rb x Mt Mr Sp Sr):∃ Fm,RfS w w0.heap.size Fm bm r Mr:=by
 obtain ⟨⟨F,Fm,_,h2,_⟩,_⟩:=h;exact ⟨Fm,h2⟩
theorem Core.rk (h:Core w0 w r bb bt mb mg bm rb x Mt Mr Sp Sr):RkS w rb Sr:=by
 obtain ⟨⟨F,Fm,_,_,h3,_⟩,_⟩:=h;exact h3
theorem qfk_ (h:Core w0 w r bb bt mb mg bm rb x Mt Mr Sp Sr) (hM:Ok r Mt) (hl:Mt.length<=900) (a b:Int):Calls Tryz.prog 25 #[.pointer (some ⟨bt,0,none⟩),.int .i64 a,.int .i64 b] w fun e w''=>e = .returned (.bool (pb (Anc Mt a b)))/\Below w.heap.size w w'':=by
 obtain ⟨⟨F,Fm,h1,_⟩,_⟩:=h;obtain ⟨⟨b',ls,e,hT,hls⟩|⟨e,_⟩,_⟩:=h1;cases e;exact qpv_ hT hM hl hls a b _ Mk.qck_;cases e
theorem qabn_ (h:Core w0 w r bb bt mb mg bm rb x M Mr Sp Sr) (hM:Ok r M) (hl:M.length<=800) (hgl:r.gs.length<=1000) (hcl:r.cs.length<=1000) (hT:Tab w) (y:Hd) (ho:y.ok) (now:Int) :
  Calls Tryz.prog 32 #[.pointer (some ⟨bt,0,none⟩),.agg (hdA y),.int .i64 now] w fun e w'=>e = .returned (.tuple #[.int .i64 (Ar.add r M y now).1.1,.int .i64 (Ar.add r M y now).1.2.1,.int .i64 (Ar.add r M y now).1.2.2])/\Core w0 w' r bb bt mb mg bm rb x (Ar.add r M y now).2 Mr Sp Sr:=by
 obtain ⟨⟨F,Fm,h1,h2,h3,h4,h5,h6,h7,h8⟩,hB⟩:=h;obtain ⟨hQ,g2,g3,g4,g5⟩:=h1;obtain ⟨b',ls,e,hT1,hls⟩|⟨e,_⟩:=hQ
 ·cases e;refine (tadd_at hT1 hM hl hls hgl hcl hT y ho now).mono ?_;rintro e w' ⟨rfl,⟨lp2,q1,q2⟩,k⟩;have lm:=h2.2.1;have l1:=Has.lt g2;have l2:=g3.lt;have l3:=Has.lt h3;have l4:=Has.lt h4;have hs:=hB.size;have nx:∀ j,j<w.heap.size->¬F j->¬Nxt F w w' j:=fun j hj hn hf=>hf.elim hn fun hf=>by omega
  refine ⟨rfl,⟨Nxt F w w',Fm,⟨.inl ⟨_,lp2,rfl,q2,q1⟩,k.has g2 g4,g3.on (k.block mg l2 g5),nx mb l1 g4,nx mg l2 g5⟩,h2.on k (fun j hj hf=>(h5 j hf).2.1 hj) (fun j hj=>(h5 j hj).1),k.has h3 (fun hf=>(h5 _ hf).2.2.1 rfl),k.has h4 (fun hf=>(h5 _ hf).2.2.2 rfl),?_,h6,h7,fun p hp=>?_⟩,hB.trans (k.below (fun j hj=>(h5 j hj).1) hB.size)⟩;rintro j (hj|hj);exact h5 j hj;exact ⟨by omega,fun hf=>by have:=lm j hf;omega,by omega,by omega⟩;obtain ⟨p1,p2,p3,p4,p5⟩:=h8 p hp;exact ⟨k.has p1 p2,nx p.1 (Has.lt p1) p2,p3,p4,p5⟩
 cases e
theorem qabo_ (h:Core w0 w r bb bt mb mg bm rb x Mt M Sp Sr) (hM:Ok r M) (hl:M.length<=900) (hgl:r.gs.length<=1000) (hcl:r.cs.length<=1000) (hiv:2<=r.p.ivl) (y:Hd) (ho:y.ok) (now:Int) (n1:-9223372036854775808<=now) (n2:now<=9223372036854775807) :
  Calls Tryz.prog 33 #[.pointer (some ⟨bm,0,none⟩),.agg (hdA y),.int .i64 now] w fun e w'=>e = .returned (.tuple #[.int .i64 (Ar.add r M y now).1.1,.int .i64 (Ar.add r M y now).1.2.1,.int .i64 (Ar.add r M y now).1.2.2])/\Core w0 w' r bb bt mb mg bm rb x Mt (Ar.add r M y now).2 Sp Sr:=by
 obtain ⟨⟨F,Fm,h1,h2,h3,h4,h5,h6,h7,h8⟩,hB⟩:=h;refine (radd_at h2 hM hl hgl hcl hiv y ho now n1 n2).mono ?_;rintro e w' ⟨rfl,q2,k⟩;have l1:=Has.lt h1.2.1;have l2:=h1.2.2.1.lt;have l3:=Has.lt h3;have l4:=Has.lt h4;have nx:∀ j,j<w.heap.size->¬Fm j->¬Nxt Fm w w' j:=fun j hj hn hf=>hf.elim hn fun hf=>by omega
 refine ⟨rfl,⟨F,Nxt Fm w w',h1.on k (fun j hj hf=>(h5 j hj).2.1 hf) (fun hf=>(h6 _ hf).1 rfl) (fun hf=>(h6 _ hf).2.1 rfl),q2,k.has h3 (fun hf=>(h6 _ hf).2.2.1 rfl),k.has h4 (fun hf=>(h6 _ hf).2.2.2 rfl),fun j hj=>?_,?_,h7,fun p hp=>?_⟩,hB.trans (k.below (fun j hj=>(h2.2.1 j hj).1) hB.size)⟩;obtain ⟨a1,a2,a3⟩:=h5 j hj;exact ⟨a1,nx j (h1.tlt hj) a2,a3⟩;rintro j (hj|hj);exact h6 j hj;exact ⟨by omega,by omega,by omega,by omega⟩;obtain ⟨p1,p2,p3,p4,p5⟩:=h8 p hp;exact ⟨k.has p1 p3,p2,nx p.1 (Has.lt p1) p3,p4,p5⟩
theorem CorQ.mwrote {B:Nat} {F Fm:Nat->Prop} (h:CorQ B w r bb bt mb mg bm rb x Mt Mr Sp Sr F Fm) (h1':MkS w' F mb mg (some ⟨bt,0,none⟩) r Mt S') (k:Kp (fun i=>i=mg) w w'):CorQ B w' r bb bt mb mg bm rb x Mt Mr S' Sr F Fm:=by
 obtain ⟨h1,h2,h3,h4,h5,h6,h7,h8⟩:=h;exact ⟨h1',h2.on k (fun i hi e=>(h6 i hi).2.1 e) (fun i e=>by rw[e];exact h7.2.1),k.has h3 (fun e=>h7.2.2.2.1 e.symm),k.has h4 (fun e=>h7.2.2.2.2.1 e.symm),h5,h6,h7,fun p hp=>⟨k.has (h8 p hp).1 (h8 p hp).2.2.2.1,(h8 p hp).2⟩⟩
theorem CorQ.rwrote {B:Nat} {F Fm:Nat->Prop} (h:CorQ B w r bb bt mb mg bm rb x Mt Mr Sp Sr F Fm) (h3':RkS w' rb S') (k:Kp (fun i=>i=rb) w w'):CorQ B w' r bb bt mb mg bm rb x Mt Mr Sp S' F Fm:=by
 obtain ⟨h1,h2,h3,h4,h5,h6,h7,h8⟩:=h;exact ⟨h1.on k (fun i hi e=>(h5 i hi).2.2.1 e) h7.2.2.2.2.2.2.1 h7.2.2.2.1,h2.on k (fun i hi e=>(h6 i hi).2.2.1 e) (fun i e=>by rw[e];exact h7.2.2.1),h3',k.has h4 (fun e=>h7.2.2.2.2.2.1 e.symm),h5,h6,h7,fun p hp=>⟨k.has (h8 p hp).1 (h8 p hp).2.2.2.2,(h8 p hp).2⟩⟩
theorem qly_ (h:Core w0 w r bb bt mb mg bm rb x Mt Mr Sp Sr) (hl:Mt.length<=500) (z:Int) (right:Bool):Calls Tryz.prog 15 #[.pointer (some ⟨mb,0,none⟩),.int .i64 z,.bool right] w fun e w'=>e = .returned (.int .i64 (verdict Mt.length Sp z right).1)/\Core w0 w' r bb bt mb mg bm rb x Mt Mr (verdict Mt.length Sp z right).2 Sr:=by
 obtain ⟨⟨F,Fm,h⟩,hB⟩:=h;refine (h.1.verdict (by omega) z right).mono ?_;rintro e w' ⟨rfl,h1,k⟩;exact ⟨rfl,⟨F,Fm,h.mwrote h1 k⟩,hB.trans (k.below (fun i e=>by rw[e];exact h.2.2.2.2.2.2.1.2.1) hB.size)⟩
theorem qlz_ (h:Core w0 w r bb bt mb mg bm rb x Mt Mr Sp Sr) (hl:Mr.length<=500) (z:Int) (right:Bool):Calls Tryz.prog 34 #[.pointer (some ⟨rb,0,none⟩),.pointer (some ⟨bm,0,none⟩),.int .i64 z,.bool right] w fun e w'=>e = .returned (.int .i64 (verdict Mr.length Sr z right).1)/\Core w0 w' r bb bt mb mg bm rb x Mt Mr Sp (verdict Mr.length Sr z right).2:=by
 obtain ⟨⟨F,Fm,h⟩,hB⟩:=h;refine (qrs_ h.2.1 h.2.2.1 hl z right).mono ?_;rintro e w' ⟨rfl,h1,k⟩;exact ⟨rfl,⟨F,Fm,h.rwrote h1 k⟩,hB.trans (k.below (fun i e=>by rw[e];exact h.2.2.2.2.2.2.1.2.2.1) hB.size)⟩
theorem qfl_ (h:Core w0 w r bb bt mb mg bm rb x Mt Mr Sp Sr) (hl:Mt.length<=500) (z:Int):Calls Tryz.prog 16 #[.pointer (some ⟨mb,0,none⟩),.int .i64 z] w fun e w'=>e = .returned (.int .i64 (inval Mt.length Sp z).1)/\Core w0 w' r bb bt mb mg bm rb x Mt Mr (inval Mt.length Sp z).2 Sr:=by
 obtain ⟨⟨F,Fm,h⟩,hB⟩:=h;refine (h.1.inval (by omega) z).mono ?_;rintro e w' ⟨rfl,h1,k⟩;exact ⟨rfl,⟨F,Fm,h.mwrote h1 k⟩,hB.trans (k.below (fun i e=>by rw[e];exact h.2.2.2.2.2.2.1.2.1) hB.size)⟩
theorem qrt_ (h:Core w0 w r bb bt mb mg bm rb x Mt Mr Sp Sr) (hl:Mr.length<=500) (z:Int):Calls Tryz.prog 35 #[.pointer (some ⟨rb,0,none⟩),.pointer (some ⟨bm,0,none⟩),.int .i64 z] w fun e w'=>e = .returned (.int .i64 (inval Mr.length Sr z).1)/\Core w0 w' r bb bt mb mg bm rb x Mt Mr Sp (inval Mr.length Sr z).2:=by
 obtain ⟨⟨F,Fm,h⟩,hB⟩:=h;refine (qabl_ h.2.1 h.2.2.1 hl z).mono ?_;rintro e w' ⟨rfl,h1,k⟩;exact ⟨rfl,⟨F,Fm,h.rwrote h1 k⟩,hB.trans (k.below (fun i e=>by rw[e];exact h.2.2.2.2.2.2.1.2.2.1) hB.size)⟩
theorem qfm_ (h:Core w0 w r bb bt mb mg bm rb x Mt Mr Sp Sr) (hM:Ok r Mt) (hl:Mt.length<=500) (z:Int):Calls Tryz.prog 17 #[.pointer (some ⟨mb,0,none⟩),.int .i64 z] w fun e w'=>e = .returned (.int .i64 (recon Mt Sp z).1)/\Core w0 w' r bb bt mb mg bm rb x Mt Mr (recon Mt Sp z).2 Sr:=by
 obtain ⟨⟨F,Fm,h⟩,hB⟩:=h;refine (h.1.recon hM (by omega) z).mono ?_;rintro e w' ⟨rfl,h1,k⟩;exact ⟨rfl,⟨F,Fm,h.mwrote h1 k⟩,hB.trans (k.below (fun i e=>by rw[e];exact h.2.2.2.2.2.2.1.2.1) hB.size)⟩
theorem qru_ (h:Core w0 w r bb bt mb mg bm rb x Mt Mr Sp Sr) (hM:Ok r Mr) (hl:Mr.length<=500) (z:Int):Calls Tryz.prog 36 #[.pointer (some ⟨rb,0,none⟩),.pointer (some ⟨bm,0,none⟩),.int .i64 z] w fun e w'=>e = .returned (.int .i64 (recon Mr Sr z).1)/\Core w0 w' r bb bt mb mg bm rb x Mt Mr Sp (recon Mr Sr z).2:=by
 obtain ⟨⟨F,Fm,h⟩,hB⟩:=h;refine (qabm_ h.2.1 h.2.2.1 (fun hf=>(h.2.2.2.2.2.1 _ hf).2.2.1 rfl) h.2.2.2.2.2.2.1.2.2.1 hM hl z).mono ?_;rintro e w' ⟨rfl,h1,k⟩;exact ⟨rfl,⟨F,Fm,h.rwrote h1 k⟩,hB.trans (k.below (fun i e=>by rw[e];exact h.2.2.2.2.2.2.1.2.2.1) hB.size)⟩
end
end Go.Proofs.YtbhjpeadcimchaaGreatDoor.An
namespace Go.Proofs.YtbhjpeadcimchaaGreatDoor.An
open Go.RowKit Mem Sc NN.Rg2
open Ar (Ent Ru entZ Ok isP)
open Ar (Anc Row)
open Mk (childB failB sd validB)
def Kz (w:World) (f:FuncId) (args:Int->Array Value) (res:Int->Value):Prop:=∀ w' z,Below w.heap.size w w'->Calls Tryz.prog f (args z) w' fun e w''=>e = .returned (res z)/\Below w'.heap.size w' w''
theorem qaih_ (bb mb bm rb n c83:Nat) (a83:Option Addr) (s:Int->Nat) (o f c v:Int->Bool) (best lead:Int) (w:World) (hn:n<=500)
  (HBB:Hid (∀w',Below w.heap.size w w'->w'.cell? ⟨bb,1,none⟩=some (.pointer (some ⟨mb,0,none⟩))/\w'.cell? ⟨bb,2,none⟩=some (.pointer (some ⟨bm,0,none⟩))/\w'.cell? ⟨bb,3,none⟩=some (.pointer (some ⟨rb,0,none⟩))/\w'.cell? ⟨bm,83,none⟩=some (.slice a83 n c83)))
  (HRK:Hid (∀w' (k:Nat),k<n->Below w.heap.size w w'->w'.cell? ⟨rb,k,none⟩=some (.int .i64 (s (k:Int):Int))/\w'.cell? ⟨rb,600+k,none⟩=some (.bool (o (k:Int)))))
  (HNO:Hid (∀z:Int,¬(0<=z/\z<(n:Int))->s z=0/\o z=false))
  (KS:Hid (Kz w 13 (fun z=>#[.pointer (some ⟨mb,0,none⟩),.int .i64 z]) fun z=>.tuple #[.int .i64 (s z:Int),.bool (o z)]))
  (KF:Hid (Kz w 18 (fun z=>#[.pointer (some ⟨mb,0,none⟩),.int .i64 z]) fun z=>.bool (f z))) (KRF:Hid (Kz w 26 (fun z=>#[.pointer (some ⟨rb,0,none⟩),.pointer (some ⟨bm,0,none⟩),.int .i64 z]) fun z=>.bool (f z)))
  (KC:Hid (Kz w 19 (fun z=>#[.pointer (some ⟨mb,0,none⟩),.int .i64 z]) fun z=>.bool (c z))) (KRC:Hid (Kz w 38 (fun z=>#[.pointer (some ⟨rb,0,none⟩),.pointer (some ⟨bm,0,none⟩),.int .i64 z]) fun z=>.bool (c z)))
  (KV:Hid (Kz w 20 (fun z=>#[.pointer (some ⟨mb,0,none⟩),.int .i64 z]) fun z=>.bool (v z))) (KRV:Hid (Kz w 39 (fun z=>#[.pointer (some ⟨rb,0,none⟩),.pointer (some ⟨bm,0,none⟩),.int .i64 z]) fun z=>.bool (v z)))
  (KB:HK_ w 21 #[.pointer (some ⟨mb,0,none⟩)] (.int .i64 best)) (KRB:HK_ w 40 #[.pointer (some ⟨rb,0,none⟩),.pointer (some ⟨bm,0,none⟩)] (.int .i64 best))
  (KL:HK_ w 22 #[.pointer (some ⟨mb,0,none⟩)] (.int .i64 lead)) (KRL:HK_ w 41 #[.pointer (some ⟨rb,0,none⟩),.pointer (some ⟨bm,0,none⟩)] (.int .i64 lead)) :
  Ca_ 14 #[.pointer (some ⟨bb,0,none⟩)] w (.bool true):=by
 have hB:=Below.refl w.heap.size w;go_enter Tryz.func14,Tryz.ntmps14;go_wp2_with fail
 go_loopw [3] (fun s3 wr=>∃ z:Int,s3 = .int .i64 z/\Hid (-1<=z/\z<=(n:Int)+1)/\Below w.heap.size w wr) (fun s3 _=>((n:Int)+1 - intOf s3).toNat)
 case atStart=>exact ⟨-1,rfl,h_ (by omega),hB⟩
 case round=>
  clear hB;obtain ⟨z,rfl,HZ,hB⟩:=hrel;obtain ⟨c1,c2,c3,c0⟩:=HBB.out _ hB;by_cases hz:z<=(n:Int)
  ·have tz:decide (z<=(n:Int))=true:=decide_eq_true hz
   have HZ1:Hid (IntKind.i64.wrap (z+1)=z+1/\-1<=z+1/\z+1<=(n:Int)+1/\((n:Int)+1 - (z+1)).toNat<((n:Int)+1 - z).toNat):=h_ (by
    have:=HZ.out;rw[IntKind.wrap_i64];omega)
   have K0:HK_ w 13 #[.pointer (some ⟨mb,0,none⟩),.int .i64 z] (.tuple #[.int .i64 (s z:Int),.bool (o z)]):=h_ fun w' hb=>KS.out w' z hb
   have K1:HK_ w 18 #[.pointer (some ⟨mb,0,none⟩),.int .i64 z] (.bool (f z)):=h_ fun w' hb=>KF.out w' z hb
   have K2:HK_ w 26 #[.pointer (some ⟨rb,0,none⟩),.pointer (some ⟨bm,0,none⟩),.int .i64 z] (.bool (f z)):=h_ fun w' hb=>KRF.out w' z hb
   have K3:HK_ w 19 #[.pointer (some ⟨mb,0,none⟩),.int .i64 z] (.bool (c z)):=h_ fun w' hb=>KC.out w' z hb
   have K4:HK_ w 38 #[.pointer (some ⟨rb,0,none⟩),.pointer (some ⟨bm,0,none⟩),.int .i64 z] (.bool (c z)):=h_ fun w' hb=>KRC.out w' z hb
   have K5:HK_ w 20 #[.pointer (some ⟨mb,0,none⟩),.int .i64 z] (.bool (v z)):=h_ fun w' hb=>KV.out w' z hb
   have K6:HK_ w 39 #[.pointer (some ⟨rb,0,none⟩),.pointer (some ⟨bm,0,none⟩),.int .i64 z] (.bool (v z)):=h_ fun w' hb=>KRV.out w' z hb
   have HD:Hid (∀w',Below w.heap.size w w'->∀ k:Nat,z=(k:Int)->k<n->w'.cell? ⟨rb,k,none⟩=some (.int .i64 (s z:Int))/\w'.cell? ⟨rb,600+k,none⟩=some (.bool (o z))):=h_ fun w' hb k hk hkn=>by rw[hk];exact HRK.out w' k hkn hb
   have HN1:Hid (¬(0<=z/\z<(n:Int))->s z=0/\o z=false):=h_ (HNO.out z);generalize s z=sz at *;generalize o z=oz at *;generalize f z=fz at *;generalize c z=cz at *;generalize v z=vz at *;have t1:((sz:Int) != (sz:Int))=false:=by simp
   have t2:(oz != oz)=false:=by simp
   have t3:(fz != fz)=false:=by simp
   have t4:(cz != cz)=false:=by simp
   have t5:(vz != vz)=false:=by simp
   obtain ⟨z1,hz1⟩:∃ z1:Int,z1=z+1:=⟨_,rfl⟩;rw[<-hz1] at HZ1;have wz:IntKind.i64.wrap (z+1)=z1:=by rw[hz1];have:=HZ1.out.1;rw[hz1] at this;exact this
   have HZQ:=h_ hz;clear hz hz1;go_wp2_with fail
   refine (K0.out _ hB).mono ?_;rintro e v3 ⟨rfl,hb⟩;replace hB:=tb_ hB hb;clear hb c0 c1 c2 c3;obtain ⟨c1,c2,c3,c0⟩:=HBB.out _ hB;by_cases h0:0<=z
   ·have t0:decide (0<=z)=true:=decide_eq_true h0;by_cases hp:z<(n:Int)
    ·have t6:decide (z<(n:Int))=true:=decide_eq_true hp;obtain ⟨k,hk⟩:=Int.eq_ofNat_of_zero_le h0;have hkn:k<n:=(by omega);obtain ⟨d1,d2⟩:=HD.out _ hB k hk hkn;have h6:(600:Nat)+k<1200:=(by omega);have h12:k<1200:=(by omega);subst hk;clear h0 hp HN1 HD;(go_wp2_with fail);have hRg:∀ d os,Below w.heap.size w (Sort.grow (redrawn v3 d) os):=fun d os=>hB.trans ((below_regrown v3 d os).mono hB.size)
     have g1:=cell_regrown c1;have g2:=cell_regrown c2;have g3:=cell_regrown c3;clear c0 c1 c2 c3;refine wp_region_quiet_below (by kernel_rfl) (by kernel_rfl) ?_;dsimp only[List.append]
     repeat (first
      | go_big_quiet_step ((first|(go_at_call 18;with_reducible exact Calls.regrown_of (K1.out _ (hRg _ _)))|(go_at_call 26;with_reducible exact Calls.regrown_of (K2.out _ (hRg _ _)))|(go_at_call 19;with_reducible exact Calls.regrown_of (K3.out _ (hRg _ _)))|(go_at_call 38;with_reducible exact Calls.regrown_of (K4.out _ (hRg _ _)))|(go_at_call 20;with_reducible exact Calls.regrown_of (K5.out _ (hRg _ _)))|(go_at_call 39;with_reducible exact Calls.regrown_of (K6.out _ (hRg _ _))))))
     refine wpQuiet_nil ?_;intro v4 hw';have hb:=qu_ v4 hw';replace hB:=tb_ hB hb;clear hw' hb hRg g1 g2 g3;(go_wp2_with fail);go_roundw
     case rel=>exact ⟨z1,rfl,h_ ⟨HZ1.out.2.1,HZ1.out.2.2.1⟩,hB⟩
     case measure=>have:=HZ1.out.2.2.2;simp only[intOf];simpa using this
    ·obtain ⟨e1,e2⟩:=HN1.out (fun h=>hp h.2);subst e1;subst e2;have t6:decide (z<(n:Int))=false:=decide_eq_false hp;clear h0 hp HN1 HD;(go_wp2_with fail);have hRg:∀ d os,Below w.heap.size w (Sort.grow (redrawn v3 d) os):=fun d os=>hB.trans ((below_regrown v3 d os).mono hB.size)
     have g1:=cell_regrown c1;have g2:=cell_regrown c2;have g3:=cell_regrown c3;clear c0 c1 c2 c3;refine wp_region_quiet_below (by kernel_rfl) (by kernel_rfl) ?_;dsimp only[List.append]
     repeat (first
      | go_big_quiet_step ((first|(go_at_call 18;with_reducible exact Calls.regrown_of (K1.out _ (hRg _ _)))|(go_at_call 26;with_reducible exact Calls.regrown_of (K2.out _ (hRg _ _)))|(go_at_call 19;with_reducible exact Calls.regrown_of (K3.out _ (hRg _ _)))|(go_at_call 38;with_reducible exact Calls.regrown_of (K4.out _ (hRg _ _)))|(go_at_call 20;with_reducible exact Calls.regrown_of (K5.out _ (hRg _ _)))|(go_at_call 39;with_reducible exact Calls.regrown_of (K6.out _ (hRg _ _))))))
     refine wpQuiet_nil ?_;intro v4 hw';have hb:=qu_ v4 hw';replace hB:=tb_ hB hb;clear hw' hb hRg g1 g2 g3;(go_wp2_with fail);go_roundw
     case rel=>exact ⟨z1,rfl,h_ ⟨HZ1.out.2.1,HZ1.out.2.2.1⟩,hB⟩
     case measure=>have:=HZ1.out.2.2.2;simp only[intOf];simpa using this
   ·obtain ⟨e1,e2⟩:=HN1.out (fun h=>h0 h.1);subst e1;subst e2;have t0:decide (0<=z)=false:=decide_eq_false h0;clear h0 HN1 HD;(go_wp2_with fail);have hRg:∀ d os,Below w.heap.size w (Sort.grow (redrawn v3 d) os):=fun d os=>hB.trans ((below_regrown v3 d os).mono hB.size)
    have g1:=cell_regrown c1;have g2:=cell_regrown c2;have g3:=cell_regrown c3;clear c0 c1 c2 c3;refine wp_region_quiet_below (by kernel_rfl) (by kernel_rfl) ?_;dsimp only[List.append]
    repeat (first
     | go_big_quiet_step ((first|(go_at_call 18;with_reducible exact Calls.regrown_of (K1.out _ (hRg _ _)))|(go_at_call 26;with_reducible exact Calls.regrown_of (K2.out _ (hRg _ _)))|(go_at_call 19;with_reducible exact Calls.regrown_of (K3.out _ (hRg _ _)))|(go_at_call 38;with_reducible exact Calls.regrown_of (K4.out _ (hRg _ _)))|(go_at_call 20;with_reducible exact Calls.regrown_of (K5.out _ (hRg _ _)))|(go_at_call 39;with_reducible exact Calls.regrown_of (K6.out _ (hRg _ _))))))
    refine wpQuiet_nil ?_;intro v4 hw';have hb:=qu_ v4 hw';replace hB:=tb_ hB hb;clear hw' hb hRg g1 g2 g3;(go_wp2_with fail);go_roundw
    case rel=>exact ⟨z1,rfl,h_ ⟨HZ1.out.2.1,HZ1.out.2.2.1⟩,hB⟩
    case measure=>have:=HZ1.out.2.2.2;simp only[intOf];simpa using this
  ·have hz1:z=(n:Int)+1:=by have:=HZ.out;omega
   have tz:decide (z<=(n:Int))=false:=decide_eq_false hz;have t1:(best==best)=true:=by simp
   have t2:(lead==lead)=true:=by simp
   clear hz1 hz;go_wp2_with fail
   have hRg:∀ d os,Below w.heap.size w (Sort.grow (redrawn wr d) os):=fun d os=>hB.trans ((below_regrown wr d os).mono hB.size)
   have g1:=cell_regrown c1;have g2:=cell_regrown c2;have g3:=cell_regrown c3;clear c0 c1 c2 c3;refine wp_region_quiet_below (by kernel_rfl) (by kernel_rfl) ?_
   repeat (first
    | go_big_quiet_step ((first|(go_at_call 21;with_reducible exact Calls.regrown_of (KB.out _ (hRg _ _)))|(go_at_call 40;with_reducible exact Calls.regrown_of (KRB.out _ (hRg _ _)))|(go_at_call 22;with_reducible exact Calls.regrown_of (KL.out _ (hRg _ _)))|(go_at_call 41;with_reducible exact Calls.regrown_of (KRL.out _ (hRg _ _))))))
   refine wpQuiet_nil ?_;intro v4 hw';have hb:=qu_ v4 hw';replace hB:=tb_ hB hb;clear hw' hb hRg g1 g2 g3;go_wp2_with fail
   go_ret;exact ⟨rfl,hB⟩
theorem qabp_ {w0 w:World} {r:Ru} {bb bt mb mg bm rb:Nat} {x:Option (Nat × Ac)} {M:List Ent} {S:Mk.St} (h:Core w0 w r bb bt mb mg bm rb x M M S S) (hM:Ok r M) (hl:M.length<=500) (h0:validB M S 0=true):Calls Tryz.prog 14 #[.pointer (some ⟨bb,0,none⟩)] w fun e w''=>e = .returned (.bool true)/\Below w.heap.size w w'':=by
 have hR:=h.rd hM (by omega);obtain ⟨Fm,hF⟩:=h.rf;have hK:=h.rk;obtain ⟨a,c,hc⟩:=h.list;have hv0:validB M S ((0:Nat):Int)=true:=h0
 have hf0:(!failB M S ((0:Nat):Int))=true:=by
  rw[Bool.not_eq_true'];cases e:failB M S ((0:Nat):Int) with
  | false=>rfl
  | true=>exact absurd (Mk.qed_.1 e) (Mk.qcg_ (Mk.qdw_.1 hv0))
 exact qaih_ bb mb bm rb M.length c a (fun z=>(sd M S z).1) (fun z=>(sd M S z).2) (failB M S) (childB M S) (validB M S) _ _ w hl
  (h_ fun w' hb=>⟨(h.below hb).b1,(h.below hb).b2,(h.below hb).b3,hc w' hb⟩)
  (h_ fun w' k hk hb=>by
   have hp:isP M (k:Int):=Mk.qdv_.2 hk;rw[Mk.qjt_ hp,Int.toNat_natCast];exact ⟨(hK.below hb).said (by omega),(hK.below hb).out (by omega)⟩)
  (h_ fun z hz=>by
   rw[Mk.sd_not (show ¬isP M z from hz)];exact ⟨rfl,rfl⟩)
  (h_ fun w' z hb=>hR.said w' z hb) (h_ fun w' z hb=>(hR.below hb).failed z) (h_ fun w' z hb=>qlx_ (hF.below hb) (hK.below hb) hM hl z)
  (h_ fun w' z hb=>(hR.below hb).child z) (h_ fun w' z hb=>qpy_ (hF.below hb) (hK.below hb) hM hl z)
  (h_ fun w' z hb=>(hR.below hb).valid z) (h_ fun w' z hb=>qpz_ (hF.below hb) (hK.below hb) hM hl z)
  (h_ fun w' hb=>(hR.below hb).best hM hv0) (h_ fun w' hb=>qaid_ (hF.below hb) (hK.below hb) hM hl)
  (h_ fun w' hb=>(hR.below hb).lead hM hf0) (h_ fun w' hb=>qaie_ (hF.below hb) (hK.below hb) hM hl)
end Go.Proofs.YtbhjpeadcimchaaGreatDoor.An
namespace Go.Proofs.YtbhjpeadcimchaaGreatDoor.An
open Go.RowKit Mem Sc NN.Rg2
open Ar (Ent Ru entZ Ok isP)
open Mk (failB childB validB inval)
theorem qabq_ (w:World) (S0:World->Nat->Prop)
  (KN:Hid (Calls Tryz.prog 28 #[.agg (NN.prA NN.prL),.int .i64 5] w fun r w'=>∃ b,r = .returned (.tuple #[.pointer (some ⟨b,0,none⟩),.int .i64 0])/\(Calls Tryz.prog 23 #[.pointer (some ⟨b,0,none⟩)] w' fun e w''=>∃ mb,e = .returned (.pointer (some ⟨mb,0,none⟩))/\S0 w'' mb)))
  (KB:Hid (∀wr mb,S0 wr mb->Calls Tryz.prog 21 #[.pointer (some ⟨mb,0,none⟩)] wr fun e w'=>e = .returned (.int .i64 0)/\S0 w' mb))
  (KV:Hid (∀wr mb,S0 wr mb->Calls Tryz.prog 20 #[.pointer (some ⟨mb,0,none⟩),.int .i64 0] wr fun e w'=>e = .returned (.bool true)/\S0 w' mb))
  (KI:Hid (∀wr mb,S0 wr mb->Calls Tryz.prog 16 #[.pointer (some ⟨mb,0,none⟩),.int .i64 0] wr fun e w'=>e = .returned (.int .i64 1)/\Below w.heap.size w w')) :
  Ca_ 9 #[] w (.bool true):=by
 go_enter Tryz.func9,Tryz.ntmps9;go_wp2_with (with_reducible refine qaar_ rfl rfl ?_)
 refine KN.out.mono ?_;rintro e v1 ⟨b,rfl,K1⟩;have H1:=h_ K1;clear K1;go_wp2_with fail
 refine H1.out.mono ?_;rintro e v2 ⟨mb,rfl,hs⟩;have K2:=h_ (KB.out v2 mb hs);clear hs H1;go_wp2_with fail
 refine K2.out.mono ?_;rintro e v3 ⟨rfl,hs⟩;have K3:=h_ (KV.out v3 mb hs);clear hs K2;go_wp2_with fail
 refine K3.out.mono ?_;rintro e v4 ⟨rfl,hs⟩;have K4:=h_ (KI.out v4 mb hs);clear hs K3;go_wp2_with fail
 refine K4.out.mono ?_;rintro e v5 ⟨rfl,hB⟩;clear K4;go_wp2_with fail
 go_ret;exact ⟨rfl,hB⟩
theorem qma_ {r:Ru} {M:List Ent} {S:Mk.St} {n:Nat} (hM:Ok r M) (h:Mk.Good n S):validB M S ((0:Nat):Int)=true:=Mk.qdw_.2 (h.valid0 hM)
theorem top_one (H:Nat->Nat->Bool) (P:Nat->Bool):Mk.top H P 1=0:=by
 show (if P 0=true/\H 0 (Mk.top H P 0)=true then 0 else Mk.top H P 0)=0;split <;> rfl
theorem mnew_s {w:World} {F:Nat->Prop} {bt:Nat} {r:Ru} {M:List Ent} {ls:List Int} (h:TrS w F bt r M ls) (hl:ls.length=M.length):Calls Tryz.prog 23 #[.pointer (some ⟨bt,0,none⟩)] w fun e w'=>∃ mb mg,e = .returned (.pointer (some ⟨mb,0,none⟩))/\w.heap.size<=mg/\w.heap.size<=mb/\MkS w' F mb mg (some ⟨bt,0,none⟩) r M Mk.st0/\Below w.heap.size w w':=by
 refine (mnew_w (some ⟨bt,0,none⟩) w).mono ?_;rintro e w' ⟨mb,mg,rfl,h1,h2,h3,h4,hb⟩;exact ⟨mb,mg,rfl,h1,h2,⟨.inl ⟨bt,ls,rfl,h.below hb,hl⟩,h3,h4,fun hf=>by have:=h.1 _ hf;omega,fun hf=>by have:=h.1 _ hf;omega⟩,hb⟩
theorem alive16 (w:World) (hT:Tab w):Ca_ 9 #[] w (.bool true):=by
 have hOk:Ok ⟨NN.prL,tlN.g,[],[],clampR 5⟩ [entZ]:=Ok.one _;have hG:Mk.Good 1 Mk.st0:=Mk.Good.start 1 (by decide);refine qabq_ w (fun wr mb=>∃ F mg bt,MkS wr F mb mg (some ⟨bt,0,none⟩) ⟨NN.prL,tlN.g,[],[],clampR 5⟩ [entZ] Mk.st0/\w.heap.size<=mg/\Below w.heap.size w wr) ?_ (h_ fun wr mb ⟨F,mg,bt,h1,h2,h3⟩=>?_) (h_ fun wr mb ⟨F,mg,bt,h1,h2,h3⟩=>?_) (h_ fun wr mb ⟨F,mg,bt,h1,h2,h3⟩=>?_);refine h_ ((qade_ NN.prL (NN.tlZ_ok _ _ _ _ _) (NN.tlZ_one _ _ _ _ _) tlN tlN_is tlN_ok [] [] rfl rfl (by decide) (by decide) 5 (by decide +kernel) w hT (fun h=>by simp at h) (fun h=>by simp at h)).mono ?_);rintro r w' ⟨b,F,rfl,hA,_,hb⟩;refine ⟨b,rfl,(mnew_s hA rfl).mono ?_⟩;rintro e w'' ⟨mb,mg,rfl,h1,_,h3,hb'⟩;exact ⟨mb,rfl,F,mg,b,h3,Nat.le_trans hb.size h1,tb_ hb hb'⟩;refine ((h1.rd (.inr hOk) (by decide)).best hOk (qma_ hOk hG)).mono ?_;rintro e w' ⟨rfl,hb⟩;refine ⟨?_,F,mg,bt,h1.below hb,h2,tb_ h3 hb⟩;rw[show ([entZ]:List Ent).length=1 from rfl,top_one];rfl;have:=(h1.rd (.inr hOk) (by decide)).valid 0;rw[show validB [entZ] Mk.st0 0=true from qma_ hOk hG] at this;refine this.mono ?_;rintro e w' ⟨rfl,hb⟩;exact ⟨rfl,F,mg,bt,h1.below hb,h2,tb_ h3 hb⟩;refine (h1.inval (by decide) 0).mono ?_;rintro e w' ⟨rfl,_,hk⟩;refine ⟨?_,h3.trans (hk.below (fun i e=>by rw[e];exact h2) h3.size)⟩;rfl
theorem RfS.only {w:World} {B b:Nat} {F:Nat->Prop} {r:Ru} {M:List Ent} (h:RfS w B F b r M):∃ F',RfS w B F' b r M/\(∀i,F' i->F i)/\∀ i,F' i->∃ cs T,Has w i cs T/\T ≠ 81/\T ≠ 85/\T ≠ 60:=by
 obtain ⟨h0,h1,h2,p,t,vH,vI,vA,vW,ws,h3,h4,h5,g1,g2,g3,g4⟩:=h
 have own:∀ {v:Value} {n s:Nat} {T:TypeId} {xs:List Value},w.ownsRow 0 T s v n xs->T ≠ 81->T ≠ 85->T ≠ 60->∀ i,v.ownBlock=some i->∃ cs T,Has w i cs T/\T ≠ 81/\T ≠ 85/\T ≠ 60:=fun hr n1 n2 n3 i hi=>by
  obtain ⟨_,⟨rfl,_⟩|⟨g,c,cur,rfl,q1,q2,_⟩⟩:=hr;cases hi;cases hi;exact ⟨cur,_,q2,n1,n2,n3⟩
 refine ⟨fun i=>i=b\/vH.ownBlock=some i\/vI.ownBlock=some i\/vA.ownBlock=some i\/vW.ownBlock=some i,⟨h0,?_,.inl rfl,p,t,vH,vI,vA,vW,ws,h3,h4,h5,fun i hi=>.inr (.inl hi),fun i hi=>.inr (.inr (.inl hi)),fun i hi=>.inr (.inr (.inr (.inl hi))),fun i hi=>.inr (.inr (.inr (.inr hi)))⟩,?_,?_⟩;rintro i (rfl|hi|hi|hi|hi);exact h1 _ h2;exact h1 _ (g1 i hi);exact h1 _ (g2 i hi);exact h1 _ (g3 i hi);exact h1 _ (g4 i hi);rintro i (rfl|hi|hi|hi|hi);exact h2;exact g1 i hi;exact g2 i hi;exact g3 i hi;exact g4 i hi;rintro i (rfl|hi|hi|hi|hi);exact ⟨_,_,h3.has,by decide,by decide,by decide⟩;exact own h3.rowH (by decide) (by decide) (by decide) i hi;exact own h3.rowI (by decide) (by decide) (by decide) i hi;exact own h3.rowA (by decide) (by decide) (by decide) i hi;exact own h3.rowW (by decide) (by decide) (by decide) i hi
def MnQ (n0 bt:Nat) (v:Value) (w:World):Prop:=∃ mb mg,v = .pointer (some ⟨mb,0,none⟩)/\n0<=mb/\n0<=mg/\Has w mb (mkA (some ⟨bt,0,none⟩) mg) 81/\MapN w mg Mk.st0
def RnQ (n0 B:Nat) (r:Ru) (v:Value) (w:World):Prop:=∃ bm Fm,v = .pointer (some ⟨bm,0,none⟩)/\RfS w B Fm bm r [entZ]/\∀ i,Fm i->n0<=i
def RmQ (n0:Nat) (v:Value) (w:World):Prop:=∃ rb,v = .pointer (some ⟨rb,0,none⟩)/\n0<=rb/\RkS w rb Mk.st0
section
variable {w w':World} {n0 B bt:Nat} {r:Ru} {v:Value}
theorem MnQ.below (h:MnQ n0 bt v w) (hb:Below w.heap.size w w'):MnQ n0 bt v w':=by
 obtain ⟨mb,mg,e,h1,h2,h3,h4⟩:=h;exact ⟨mb,mg,e,h1,h2,qd_ hb h3 h3.lt,h4.on (hb.block mg h4.lt)⟩
theorem RnQ.below (h:RnQ n0 B r v w) (hb:Below w.heap.size w w'):RnQ n0 B r v w':=by
 obtain ⟨bm,Fm,e,h1,h2⟩:=h;exact ⟨bm,Fm,e,h1.below hb,h2⟩
theorem RmQ.below (h:RmQ n0 v w) (hb:Below w.heap.size w w'):RmQ n0 v w':=by
 obtain ⟨rb,e,h1,h2⟩:=h;exact ⟨rb,e,h1,h2.below hb⟩
end
def BoQ (n0 B bt:Nat) (r:Ru) (v:Value) (w:World):Prop:=∃ bb mb bm rb,v = .pointer (some ⟨bb,0,none⟩)/\n0<=bb/\Has w bb (boA bt mb bm rb) 60/\MnQ n0 bt (.pointer (some ⟨mb,0,none⟩)) w/\RnQ n0 B r (.pointer (some ⟨bm,0,none⟩)) w/\RmQ n0 (.pointer (some ⟨rb,0,none⟩)) w
theorem BoQ.below {w w':World} {n0 B bt:Nat} {r:Ru} {v:Value} (h:BoQ n0 B bt r v w) (hb:Below w.heap.size w w'):BoQ n0 B bt r v w':=by
 obtain ⟨bb,mb,bm,rb,e,h1,h2,h3,h4,h5⟩:=h;exact ⟨bb,mb,bm,rb,e,h1,qd_ hb h2 h2.lt,h3.below hb,h4.below hb,h5.below hb⟩
def SrR (n0 B bt:Nat) (p:NN.Pr) (r:Ru):Nat->Value->World->Prop
 | 0,v,_=>v = .pointer (some ⟨bt,0,none⟩)
 | 1,v,_=>v = .pointer (some ⟨bt,0,none⟩)
 | 2,v,w=>MnQ n0 bt v w
 | 3,v,_=>v = .agg (NN.prA p)
 | 4,v,w=>RnQ n0 B r v w
 | 5,v,w=>RmQ n0 v w
 | 6,v,w=>∃ mb bm rb,v = .agg (boA bt mb bm rb)/\MnQ n0 bt (.pointer (some ⟨mb,0,none⟩)) w/\RnQ n0 B r (.pointer (some ⟨bm,0,none⟩)) w/\RmQ n0 (.pointer (some ⟨rb,0,none⟩)) w
 | 7,v,w=>BoQ n0 B bt r v w
 | 8,v,w=>BoQ n0 B bt r v w
 | _,_,_=>True
theorem SrR.below {w w':World} {n0 B bt:Nat} {p:NN.Pr} {r:Ru} {v:Value} (hb:Below w.heap.size w w'):∀ i,SrR n0 B bt p r i v w->SrR n0 B bt p r i v w'
 | 0,h=>h
 | 1,h=>h
 | 2,h=>MnQ.below h hb
 | 3,h=>h
 | 4,h=>RnQ.below h hb
 | 5,h=>RmQ.below h hb
 | 6,⟨mb,bm,rb,e,h1,h2,h3⟩=>⟨mb,bm,rb,e,h1.below hb,h2.below hb,h3.below hb⟩
 | 7,h=>BoQ.below h hb
 | 8,h=>BoQ.below h hb
 | _+9,_=>trivial
theorem qwy_ (a b c d:Option Addr):Tryz.prog.built 60 [(0,.pointer a),(1,.pointer b),(2,.pointer c),(3,.pointer d)]=some #[.pointer a,.pointer b,.pointer c,.pointer d]:=by kernel_rfl
theorem qmb_ {ρ:Operand->Value} {o:Oper} {w:World} {x0 x1 x2 x3:Operand} {a b c d:Option Addr} (ho:o.op = .build 60 #[(0,x0),(1,x1),(2,x2),(3,x3)]) (h0:ρ x0 = .pointer a) (h1:ρ x1 = .pointer b) (h2:ρ x2 = .pointer c) (h3:ρ x3 = .pointer d):(execOp ρ o).run Tryz.prog w = .ok (.value (.agg #[.pointer a,.pointer b,.pointer c,.pointer d])) w:=by
 unfold execOp;simp only[ho,Sem.run_bind];rw[show (#[(0,x0),(1,x1),(2,x2),(3,x3)]:Array (Nat × Operand)).map (fun (i,x)=>(i,ρ x))=#[(0,.pointer a),(1,.pointer b),(2,.pointer c),(3,.pointer d)] by simp[h0,h1,h2,h3],run_build w 60 _ _ (qwy_ a b c d)];rfl
theorem qwz_ {w0 w:World} {F:Nat->Prop} {bt n0:Nat} {r:Ru} {ls:List Int} {v:Value} (hB:Below w0.heap.size w0 w) (hS:TrS w F bt r [entZ] ls) (hls:ls.length=1) (hF:∀ i,F i->w0.heap.size<=i/\i<n0) (hn:w0.heap.size<=n0) (h:BoQ n0 w0.heap.size bt r v w):∃ bb mb mg bm rb,v = .pointer (some ⟨bb,0,none⟩)/\Core w0 w r bb bt mb mg bm rb none [entZ] [entZ] Mk.st0 Mk.st0:=by
 obtain ⟨bb,mb,bm,rb,rfl,g1,g2,⟨mb',mg,e1,m1,m2,m3,m4⟩,⟨bm',Fm,e2,r1,r2⟩,⟨rb',e3,k1,k2⟩⟩:=h;cases e1;cases e2;cases e3;obtain ⟨F',q1,q2,q3⟩:=r1.only;have ty:∀ {i j:Nat} {xs ys:Array Value} {T U:TypeId},Has w i xs T->Has w j ys U->T ≠ U->i ≠ j:=fun hi hj hn=>qaw_ hi hj hn
 refine ⟨bb,mb,mg,bm,rb,rfl,⟨F,F',⟨.inl ⟨bt,ls,rfl,hS,hls⟩,m3,m4,fun hf=>by have:=(hF _ hf).2;omega,fun hf=>by have:=(hF _ hf).2;omega⟩,q1,k2,g2,fun i hi=>?_,fun i hi=>?_,?_,fun p hp=>by cases hp⟩,hB⟩;have:=hF i hi;exact ⟨this.1,fun hf=>by have:=r2 i (q2 i hf);omega,by omega,by omega⟩;obtain ⟨cs,T,a1,a2,a3,a4⟩:=q3 i hi;exact ⟨ty a1 m3 a2,m4.not_cells a1,ty a1 k2 a3,ty a1 g2 a4⟩;exact ⟨by omega,by omega,by omega,(m4.not_cells k2).symm,(m4.not_cells g2).symm,ty k2 g2 (by decide),ty m3 k2 (by decide),ty m3 g2 (by decide)⟩
theorem srDrew (w:World):Below w.heap.size w w.drew:=(Below.refl _ _).drew
theorem qaii_ (p:NN.Pr) (hp:p.ok) (h1:p.one) (t:Tl) (tt:p.tl=t.C) (ht:t.ok) (gs:List Gt) (cs:List Ck) (hgn:t.gn=gs.length) (hcn:t.cn=cs.length) (hg20:gs.length<=1000) (hc20:cs.length<=1000) (hr:ruleP p t.g gs cs=true) (w:World) (hT:Tab w) (hG:GatesAt w t.ga gs) (hC:ChecksAt w t.ca cs) :
  Calls Tryz.prog 11 #[.agg (NN.prA p)] w fun e w'=>∃ bb bt mb mg bm rb,e = .returned (.pointer (some ⟨bb,0,none⟩))/\Core w w' ⟨p,t.g,gs,cs,100⟩ bb bt mb mg bm rb none [entZ] [entZ] Mk.st0 Mk.st0:=by
 have KN:Hid (∀w',Below w.heap.size w w'->Calls Tryz.prog 28 #[.agg (NN.prA p),.int .i64 100] w' fun e w''=>∃ b F,e = .returned (.tuple #[.pointer (some ⟨b,0,none⟩),.int .i64 0])/\TrS w'' F b ⟨p,t.g,gs,cs,100⟩ [entZ] [-1]/\(∀i,F i->w'.heap.size<=i)/\Below w'.heap.size w' w''):=h_ fun w' hb=>qade_ p hp h1 t tt ht gs cs hgn hcn (by omega) (by omega) 100 hr w' (hT.below hb) (hG.below hb) (hC.below hb)
 have KF:Hid (∀w',Below w.heap.size w w'->Calls Tryz.prog 30 #[.agg (NN.prA p),.int .i64 100] w' fun e w''=>∃ b,e = .returned (.pointer (some ⟨b,0,none⟩))/\RfS w'' w.heap.size (fun i=>w'.heap.size<=i/\i<w''.heap.size) b ⟨p,t.g,gs,cs,100⟩ [entZ]/\Below w'.heap.size w' w''):=h_ fun w' hb=>qahq_ p hp h1 t tt ht gs cs hgn hcn 100 w w' hb hG hC
 generalize (⟨p,t.g,gs,cs,100⟩:Ru)=r at *;have hz:=NN.qay_ hp;clear hT hG hC hr;go_enter Tryz.func11,Tryz.ntmps11;go_upto_region 1 with fail
 generalize hw0:World.alloc _ _=v0;have hB:Below w.heap.size w v0:=bl_ hw0;have hP:NN.PrAt v0 w.heap.size p:=by rw[<-hw0];exact NN.Has.new _ _
 clear hw0;obtain ⟨bP,hbP⟩:∃ x,x=w.heap.size:=⟨_,rfl⟩;rw[<-hbP] at hP |-;clear hbP;go_wp2_with (first|fail|(with_reducible refine NN.qr_ rfl _ rfl _ rfl hP hz ?_))
 refine (KN.out _ hB).mono ?_;rintro e v1 ⟨bt,F,rfl,hS,hF,hb⟩;have HF0:Hid (∀i,F i->w.heap.size<=i):=h_ fun i hi=>Nat.le_trans hB.size (hF i hi)
 replace hP:=hP.on hb;have hBw:=tb_ hB hb;have HFn:Hid (∀i,F i->w.heap.size<=i/\i<v1.heap.size):=h_ fun i hi=>⟨HF0.out i hi,hS.1 i hi⟩
 have HS:=h_ hS;have HB:=h_ hBw;clear hb hF hB hBw hS HF0;go_wp2_with fail
 have hP1:=hP.on (srDrew v1);have hle:=HB.out.size;refine qf_ (by kernel_rfl) (fun w'=>Below v1.heap.size v1 w'/\NN.PrAt w' bP p) (fun i v' w'=>SrR v1.heap.size w.heap.size bt p r i v' w') (fun _ _ _=>True) (fun w1 w2=>Below w1.heap.size w1 w2) (fun _ _=>Below.refl _ _) (fun i _ _ _ _ hb h=>SrR.below hb i h) (by kernel_rfl) ⟨srDrew v1,hP1⟩ (fun _ _=>trivial) ?_ ?_
 ·intro i o lz a wx ho' hnl dq Z;have hC:=Z.c;have hi:i<9:=(Array.getElem?_eq_some_iff.1 ho').1;obtain rfl|rfl|rfl|rfl|rfl|rfl|rfl|rfl|rfl:i=0\/i=1\/i=2\/i=3\/i=4\/i=5\/i=6\/i=7\/i=8:=by omega
  all_goals obtain rfl:=Option.some.inj ho'
  exact dV_ (S:=fun w1 w2=>Below w1.heap.size w1 w2) (fun _ _=>Below.refl _ _) 0 Z (qa_ rfl) (NN.qk_ rfl) ((Z.old' 3)) trivial;exact dV_ (S:=fun w1 w2=>Below w1.heap.size w1 w2) (fun _ _=>Below.refl _ _) 1 Z (qa_ rfl) (NN.qk_ rfl) ((Z.old' 3)) trivial
  ·refine dA_ (S:=fun w1 w2=>Below w1.heap.size w1 w2) 2 Z (qa_ rfl) (f:=23) (args:=#[a.eval (.tmp 11)]) (by kernel_rfl) ?_;rw[show a.eval (.tmp 11)=_ from (gd_ Z dq 1 11)];refine (mnew_w (some ⟨bt,0,none⟩) wx).mono ?_;rintro e w' ⟨mb,mg,rfl,h1,h2,h3,h4,hb⟩;exact ⟨_,rfl,⟨tb_ hC.1 hb,hC.2.on hb⟩,hb,⟨mb,mg,rfl,Nat.le_trans hC.1.size h2,Nat.le_trans hC.1.size h1,h3,h4⟩,trivial⟩
  exact dV_ (S:=fun w1 w2=>Below w1.heap.size w1 w2) (fun _ _=>Below.refl _ _) 3 Z (qa_ rfl) (NN.qes_ rfl (Z.old' 1) hC.2 hz) (rfl) trivial
  ·refine dA_ (S:=fun w1 w2=>Below w1.heap.size w1 w2) 4 Z (qa_ rfl) (f:=30) (args:=#[a.eval (.tmp 13),.int .i64 100]) (by kernel_rfl) ?_;rw[show a.eval (.tmp 13)=_ from (gd_ Z dq 3 13)];refine (KF.out _ (HB.out.trans (hC.1.mono hle))).mono ?_;rintro e w' ⟨b,rfl,h1,hb⟩;exact ⟨_,rfl,⟨tb_ hC.1 hb,hC.2.on hb⟩,hb,⟨b,_,rfl,h1,fun i hi=>Nat.le_trans hC.1.size hi.1⟩,trivial⟩
  ·refine dA_ (S:=fun w1 w2=>Below w1.heap.size w1 w2) 5 Z (qa_ rfl) (f:=31) (args:=#[]) (by kernel_rfl) ?_;refine (rknew_w wx).mono ?_;rintro e w' ⟨rb,rfl,h1,h2,hb⟩;exact ⟨_,rfl,⟨tb_ hC.1 hb,hC.2.on hb⟩,hb,⟨rb,rfl,Nat.le_trans hC.1.size h1,h2⟩,trivial⟩
  obtain ⟨mb,mg,e2,m1,m2,m3,m4⟩:=(gd_ Z dq 2 12);obtain ⟨bm,Fm,e4,m5,m6⟩:=(gd_ Z dq 4 14);obtain ⟨rb,e5,m7,m8⟩:=(gd_ Z dq 5 15);exact dV_ (S:=fun w1 w2=>Below w1.heap.size w1 w2) (fun _ _=>Below.refl _ _) 6 Z (qa_ rfl) (qmb_ rfl (gd_ Z dq 0 10) e2 e4 e5) (⟨mb,bm,rb,rfl,⟨mb,mg,rfl,m1,m2,m3,m4⟩,⟨bm,Fm,rfl,m5,m6⟩,⟨rb,rfl,m7,m8⟩⟩) trivial;obtain ⟨mb,bm,rb,e6,m1,m2,m3⟩:=(gd_ Z dq 6 16);have hb:Below wx.heap.size wx (wx.alloc (.cells (boA bt mb bm rb) 60)):=(Below.refl _ _).alloc (Nat.le_refl _) _;exact dM_ (S:=fun w1 w2=>Below w1.heap.size w1 w2) 7 Z (qa_ rfl) (ex_box rfl e6) ⟨tb_ hC.1 hb,hC.2.on hb⟩ hb ⟨_,mb,bm,rb,rfl,hC.1.size,Has.new _ _,m1.below hb,m2.below hb,m3.below hb⟩ trivial;exact dV_ (S:=fun w1 w2=>Below w1.heap.size w1 w2) (fun _ _=>Below.refl _ _) 8 Z (qa_ rfl) (NN.qaf_ rfl) ((gd_ Z dq 7 17)) trivial
 intro lz a' v4 hall Z;have hC:=Z.c.1;have e2:BoQ v1.heap.size w.heap.size bt r (a'.eval (.tmp 2)) v4:=Z.got 8 _ 2 rfl (hall 8 (by decide)) rfl;obtain ⟨bb,mb,mg,bm,rb,e3,hCo⟩:=qwz_ (HB.out.trans (hC.mono hle)) (HS.out.below hC) rfl HFn.out hle e2;obtain ⟨u,hu⟩:∃ u:Nat->Value,∀ t,u t=a'.eval (.tmp t):=⟨_,fun _=>rfl⟩;rw[qah_ a' 18 u Z.tsize Z.defers hu];rw[<-hu] at e3;have HCo:=h_ hCo;clear hu Z hall e2 hCo hC;simp only[List.range,List.range.loop,List.map_cons,List.map_nil];rw[e3];clear e3;go_wp2_with fail
 go_ret;exact ⟨bb,bt,mb,mg,bm,rb,rfl,HCo.out⟩
end Go.Proofs.YtbhjpeadcimchaaGreatDoor.An
