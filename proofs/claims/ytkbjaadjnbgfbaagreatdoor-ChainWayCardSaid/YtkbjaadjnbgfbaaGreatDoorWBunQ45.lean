import Derived.Test.YtkbjaadjnbgfbaaGreatDoorWBunQ44
set_option maxRecDepth 100000
set_option maxHeartbeats 8000000
namespace Go.Proofs.YtkbjaadjnbgfbaaGreatDoor.An
open Go.RowKit Mem Sc NN.Rg2
open Ar (Ent Ru entZ Ok isP Row Anc Up IsAn ComI)
open Mk (failB childB validB pb verdict inval recon chg word itself)
theorem qxj_ (r:Ru) (M:List Ent) (h:Hd) (now:Int):∃ X,(Ar.add r M h now).2=M ++ X:=by
 unfold Ar.add;repeat' (first|split|dsimp only)
 all_goals first|exact ⟨[],(List.append_nil _).symm⟩|exact ⟨_,rfl⟩
noncomputable def actS (M:List Ent) (S:Mk.St) (y:Ac):Mk.St:=if y.kind=1 then (verdict M.length S y.n y.rt).2 else if y.kind=2 then (inval M.length S y.n).2 else if y.kind=3 then (recon M S y.n).2 else S
def actM (r:Ru) (M:List Ent) (y:Ac):List Ent:=if y.kind=0 then (Ar.add r M y.h y.now).2 else M
def actL (K L:List Int) (y:Ac):List Int:=if y.kind=4 then Ch.stp K L else if y.kind=5 then K else L
def CSt (w0 w:World) (r:Ru) (bb cb mr bt mb mg bm rb:Nat) (M:List Ent) (S:Mk.St) (L:List Int):Prop:=∃ tip:Nat,Row M (tip:Int) L/\CCo w0 w r bb cb mr bt mb mg bm rb [] M M S S tip L
variable {w0 w w':World} {r:Ru} {bb cb mr bt mb mg bm rb B:Nat} {M:List Ent} {S:Mk.St} {L:List Int}
theorem CSt.below (h:CSt w0 w r bb cb mr bt mb mg bm rb M S L) (hb:Bl w w'):CSt w0 w' r bb cb mr bt mb mg bm rb M S L:=by
 obtain ⟨tip,h1,h2⟩:=h;exact ⟨tip,h1,h2.below hb⟩
theorem does0 (w0 w:World) (r:Ru) (bb cb mr bt mb mg bm rb:Nat) (M:List Ent) (S:Mk.St) (tip:Nat) (L K:List Int) (hL:Row M (tip:Int) L) (h:CCo w0 w r bb cb mr bt mb mg bm rb [] M M S S tip L) (hg:Gd r M S) (HG:Hid (r.gs.length<=1000/\r.cs.length<=1000/\2<=r.p.ivl)) (HT:HB_ w0 fun w'=>Tab w') (y:Ac) (q0:y.h.ok) (HNy:Hid (-9223372036854775808<=y.now/\y.now<=9223372036854775807)) (hk:y.kind=0) :
  Cl_ 12 #[pp_ bb,.agg (acA y)] w fun e w'=>e = .returned (.bool true)/\CSt w0 w' r bb cb mr bt mb mg bm rb (actM r M y) (actS M S y) (actL K L y):=by
 have e1:actM r M y=(Ar.add r M y.h y.now).2:=by unfold actM;rw[if_pos hk]
 have e2:actS M S y=S:=by unfold actS;rw[hk];rfl
 have e3:actL K L y=L:=by unfold actL;rw[if_neg (by omega),if_neg (by omega)]
 rw[e1,e2,e3];have HK:=h_ hk;clear e1 e2 e3 hk;have hml:=hg.2.1;have hzy:=qh_ q0;have hza:=qck_ q0;have hb0:Bl w (w.alloc (.cells (acA y) 39)):=ba_;obtain ⟨bx,hbx⟩:∃ bx,bx=w.heap.size:=⟨_,rfl⟩;have hY:AcAt (w.alloc (.cells (acA y) 39)) bx y:=by rw[hbx];exact Has.new _ _
 have hC:=h.box hb0 hbx hY;have HBX:=h_ hbx;clear h hb0 hY hbx;go_enter Tryz.func12,Tryz.ntmps12;go_upto_region 1 with fail
 rw[<-HBX.out];generalize World.alloc _ _=v1 at *;have c0:=hC.act.kind;rw[HK.out] at c0;go_wp2_with fail
 refine wp_tab (fun b1 _ w'=>CCo w0 w' r bb cb mr bt mb mg bm rb [(bx,acA y,39)] (bif b1 then (Ar.add r M y.h y.now).2 else M) M S S tip L) 8 99 [3,5,7,8] [pp_ bb,pp_ bb,pp_ bb,pp_ cb,.pointer (some ⟨bx,1,none⟩),.agg (hdA y.h),.pointer (some ⟨bx,69,none⟩),i_ y.now,.tuple #[i_ (Ar.add r M y.h y.now).1.1,i_ (Ar.add r M y.h y.now).1.2.1,i_ (Ar.add r M y.h y.now).1.2.2],.tuple #[i_ (Ar.add r M y.h y.now).1.1,i_ (Ar.add r M y.h y.now).1.2.1,i_ (Ar.add r M y.h y.now).1.2.2],i_ (Ar.add r M y.h y.now).1.1,i_ (Ar.add r M y.h y.now).1.2.1,i_ (Ar.add r M y.h y.now).1.2.2,i_ (Ar.add r M y.h y.now).1.1,i_ (Ar.add r M y.h y.now).1.2.1,i_ (Ar.add r M y.h y.now).1.2.2] (hC.below br_.drew) ⟨fun _ _ _ _ _ hC=>.val (qe_ rfl rfl (ld_chp hC.b0)) hC,fun _ _ _ _ _ hC=>.val (qbr_ rfl rfl hC.act.head hzy) hC,fun _ _ _ _ _ hC=>.val (qe_ rfl rfl (ld_i (hC.act.now q0))) hC,fun b1 _ w' f1 _ hC=>?_,trivial⟩ ?_
 ·obtain rfl:=f1.no (by kernel_rfl);exact .call (ch_add (show CCo w0 w' r bb cb mr bt mb mg bm rb [(bx,acA y,39)] M M S S tip L from hC) hg.1 (Nat.le_trans hml (by decide)) HG.out.1 HG.out.2.1 (fun w2 hb=>HT.out w2 (tb_ hC.bel hb)) y.h q0 y.now)
 intro v2 hC;replace hC:CCo w0 v2 r bb cb mr bt mb mg bm rb [(bx,acA y,39)] (Ar.add r M y.h y.now).2 M S S tip L:=hC;simp only[finT,List.set_cons_zero,List.set_cons_succ,List.tail_cons,List.headD_cons];go_wp2_with fail
 refine wp_tab (fun b1 _ w'=>CCo w0 w' r bb cb mr bt mb mg bm rb [(bx,acA y,39)] (Ar.add r M y.h y.now).2 (bif b1 then (Ar.add r M y.h y.now).2 else M) S S tip L) 11 99 [3,6,8,10,11] [pp_ bb,pp_ bb,.pointer (some ⟨bb,1,none⟩),pp_ mr,pp_ mr,pp_ mr,pp_ bm,.pointer (some ⟨bx,1,none⟩),.agg (hdA y.h),.pointer (some ⟨bx,69,none⟩),i_ y.now,.tuple #[i_ (Ar.add r M y.h y.now).1.1,i_ (Ar.add r M y.h y.now).1.2.1,i_ (Ar.add r M y.h y.now).1.2.2],.tuple #[i_ (Ar.add r M y.h y.now).1.1,i_ (Ar.add r M y.h y.now).1.2.1,i_ (Ar.add r M y.h y.now).1.2.2],i_ (Ar.add r M y.h y.now).1.1,i_ (Ar.add r M y.h y.now).1.2.1,i_ (Ar.add r M y.h y.now).1.2.2,i_ (Ar.add r M y.h y.now).1.1,i_ (Ar.add r M y.h y.now).1.2.1,i_ (Ar.add r M y.h y.now).1.2.2] (hC.below br_.drew) ⟨fun _ _ _ _ _ hC=>.val (qe_ rfl rfl (ld_rcp hC.b1)) hC,fun _ _ _ _ _ hC=>.val (qe_ rfl rfl (ld_rar hC.m0)) hC,fun _ _ _ _ _ hC=>.val (qbr_ rfl rfl hC.act.head hzy) hC,fun _ _ _ _ _ hC=>.val (qe_ rfl rfl (ld_i (hC.act.now q0))) hC,fun b1 _ w' f1 _ hC=>?_,trivial⟩ ?_
 ·obtain rfl:=f1.no (by kernel_rfl);exact .call ((show CCo w0 w' r bb cb mr bt mb mg bm rb [(bx,acA y,39)] (Ar.add r M y.h y.now).2 M S S tip L from hC).lift fun X hX=>qabu_ hX hg.1 (Nat.le_trans hml (by decide)) HG.out.1 HG.out.2.1 HG.out.2.2 y.h q0 y.now HNy.out.1 HNy.out.2)
 intro v3 hC;replace hC:CCo w0 v3 r bb cb mr bt mb mg bm rb [(bx,acA y,39)] (Ar.add r M y.h y.now).2 (Ar.add r M y.h y.now).2 S S tip L:=hC;have HC:=h_ hC.loose;have HR:Hid (Row (Ar.add r M y.h y.now).2 (tip:Int) L):=h_ (by obtain ⟨X,hX⟩:=qxj_ r M y.h y.now;rw[hX];exact hL.more X);clear hC hL;simp only[finT,List.set_cons_zero,List.set_cons_succ,List.tail_cons,List.headD_cons];go_wp2_with fail
 go_ret;exact ⟨rfl,tip,HR.out,HC.out⟩
theorem does1 (w0 w:World) (r:Ru) (bb cb mr bt mb mg bm rb:Nat) (M:List Ent) (S:Mk.St) (tip:Nat) (L K:List Int) (hL:Row M (tip:Int) L) (h:CCo w0 w r bb cb mr bt mb mg bm rb [] M M S S tip L) (hg:Gd r M S) (y:Ac) (q0:y.h.ok) (hk:y.kind=1) :
  Cl_ 12 #[pp_ bb,.agg (acA y)] w fun e w'=>e = .returned (.bool true)/\CSt w0 w' r bb cb mr bt mb mg bm rb (actM r M y) (actS M S y) (actL K L y):=by
 have e1:actM r M y=M:=by unfold actM;rw[if_neg (by omega)]
 have e2:actS M S y=(verdict M.length S y.n y.rt).2:=by unfold actS;rw[if_pos hk]
 have e3:actL K L y=L:=by unfold actL;rw[if_neg (by omega),if_neg (by omega)]
 rw[e1,e2,e3];have HK:=h_ hk;clear e1 e2 e3 hk;have hml:=hg.2.1;have hzy:=qh_ q0;have hza:=qck_ q0;have hb0:Bl w (w.alloc (.cells (acA y) 39)):=ba_;obtain ⟨bx,hbx⟩:∃ bx,bx=w.heap.size:=⟨_,rfl⟩;have hY:AcAt (w.alloc (.cells (acA y) 39)) bx y:=by rw[hbx];exact Has.new _ _
 have hC:=h.box hb0 hbx hY;have HBX:=h_ hbx;clear h hb0 hY hbx;go_enter Tryz.func12,Tryz.ntmps12;go_upto_region 1 with fail
 rw[<-HBX.out];generalize World.alloc _ _=v1 at *;have c0:=hC.act.kind;rw[HK.out] at c0;obtain ⟨S1,hS1⟩:∃ S1,(verdict M.length S y.n y.rt).2=S1:=⟨_,rfl⟩;obtain ⟨z,hz⟩:∃ z,(verdict M.length S y.n y.rt).1=z:=⟨_,rfl⟩;have HS1:=h_ hS1;have HZ:=h_ hz;clear hS1 hz;go_wp2_with fail
 refine wp_tab (fun b1 b2 w'=>CCo w0 w' r bb cb mr bt mb mg bm rb [(bx,acA y,39)] M M (bif b1 then S1 else S) (bif b2 then S1 else S) tip L) 8 27 [3,5,7,8,12,15,19,22,24,26,27,28] [pp_ bb,pp_ bb,pp_ bb,pp_ cb,.pointer (some ⟨bx,70,none⟩),i_ y.n,.pointer (some ⟨bx,71,none⟩),.bool y.rt,i_ z,pp_ bb,pp_ bb,.pointer (some ⟨bb,1,none⟩),pp_ mr,pp_ mr,.pointer (some ⟨mr,1,none⟩),pp_ rb,pp_ bb,pp_ bb,.pointer (some ⟨bb,1,none⟩),pp_ mr,pp_ mr,pp_ mr,pp_ bm,.pointer (some ⟨bx,70,none⟩),i_ y.n,.pointer (some ⟨bx,71,none⟩),.bool y.rt,i_ z,.bool true,.bool true] (hC.below br_.drew) ⟨fun _ _ _ _ _ hC=>.val (qe_ rfl rfl (ld_chp hC.b0)) hC,fun _ _ _ _ _ hC=>.val (qe_ rfl rfl (ld_i (hC.act.num q0))) hC,fun _ _ _ _ _ hC=>.val (qe_ rfl rfl (ld_b (hC.act.right q0))) hC,fun b1 b2 w' f1 _ hC=>?_,fun _ _ _ _ _ hC=>.val (qe_ rfl rfl (ld_rcp hC.b1)) hC,fun _ _ _ _ _ hC=>.val (qe_ rfl rfl (ld_rmk hC.m1)) hC,fun _ _ _ _ _ hC=>.val (qe_ rfl rfl (ld_rcp hC.b1)) hC,fun _ _ _ _ _ hC=>.val (qe_ rfl rfl (ld_rar hC.m0)) hC,fun _ _ _ _ _ hC=>.val (qe_ rfl rfl (ld_i (hC.act.num q0))) hC,fun _ _ _ _ _ hC=>.val (qe_ rfl rfl (ld_b (hC.act.right q0))) hC,fun b1 b2 w' _ f2 hC=>?_,fun _ _ _ _ _ hC=>.val (ex_eqi rfl rfl rfl (by simp)) hC,trivial⟩ ?_
 ·obtain rfl:=f1.no (by kernel_rfl);have:=qxi_ (show CCo w0 w' r bb cb mr bt mb mg bm rb [(bx,acA y,39)] M M S (bif b2 then S1 else S) tip L from hC) hml y.n y.rt;rw[HS1.out,HZ.out] at this;exact .call this
 ·obtain rfl:=f2.no (by kernel_rfl);have:=(show CCo w0 w' r bb cb mr bt mb mg bm rb [(bx,acA y,39)] M M (bif b1 then S1 else S) S tip L from hC).lift fun X hX=>qlo_ hX (Nat.le_trans hml (by decide)) y.n y.rt
  rw[HS1.out,HZ.out] at this;exact .call this
 intro v2 hC;replace hC:CCo w0 v2 r bb cb mr bt mb mg bm rb [(bx,acA y,39)] M M S1 S1 tip L:=hC;have HC:=h_ hC.loose;clear hC;simp only[finT,List.set_cons_zero,List.set_cons_succ,List.tail_cons,List.headD_cons];go_wp2_with fail
 go_ret;exact ⟨rfl,tip,hL,by rw[HS1.out];exact HC.out⟩
theorem does2 (w0 w:World) (r:Ru) (bb cb mr bt mb mg bm rb:Nat) (M:List Ent) (S:Mk.St) (tip:Nat) (L K:List Int) (hL:Row M (tip:Int) L) (h:CCo w0 w r bb cb mr bt mb mg bm rb [] M M S S tip L) (hg:Gd r M S) (y:Ac) (q0:y.h.ok) (hk:y.kind=2) :
  Cl_ 12 #[pp_ bb,.agg (acA y)] w fun e w'=>e = .returned (.bool true)/\CSt w0 w' r bb cb mr bt mb mg bm rb (actM r M y) (actS M S y) (actL K L y):=by
 have e1:actM r M y=M:=by unfold actM;rw[if_neg (by omega)]
 have e2:actS M S y=(inval M.length S y.n).2:=by unfold actS;rw[if_neg (by omega),if_pos hk]
 have e3:actL K L y=L:=by unfold actL;rw[if_neg (by omega),if_neg (by omega)]
 rw[e1,e2,e3];have HK:=h_ hk;clear e1 e2 e3 hk;have hml:=hg.2.1;have hzy:=qh_ q0;have hza:=qck_ q0;have hb0:Bl w (w.alloc (.cells (acA y) 39)):=ba_;obtain ⟨bx,hbx⟩:∃ bx,bx=w.heap.size:=⟨_,rfl⟩;have hY:AcAt (w.alloc (.cells (acA y) 39)) bx y:=by rw[hbx];exact Has.new _ _
 have hC:=h.box hb0 hbx hY;have HBX:=h_ hbx;clear h hb0 hY hbx;go_enter Tryz.func12,Tryz.ntmps12;go_upto_region 1 with fail
 rw[<-HBX.out];generalize World.alloc _ _=v1 at *;have c0:=hC.act.kind;rw[HK.out] at c0;obtain ⟨S1,hS1⟩:∃ S1,(inval M.length S y.n).2=S1:=⟨_,rfl⟩;obtain ⟨z,hz⟩:∃ z,(inval M.length S y.n).1=z:=⟨_,rfl⟩;have HS1:=h_ hS1;have HZ:=h_ hz;clear hS1 hz;go_wp2_with fail
 refine wp_tab (fun b1 b2 w'=>CCo w0 w' r bb cb mr bt mb mg bm rb [(bx,acA y,39)] M M (bif b1 then S1 else S) (bif b2 then S1 else S) tip L) 6 23 [3,5,6,10,13,17,20,22,23,24] [pp_ bb,pp_ bb,pp_ bb,pp_ cb,.pointer (some ⟨bx,70,none⟩),i_ y.n,i_ z,pp_ bb,pp_ bb,.pointer (some ⟨bb,1,none⟩),pp_ mr,pp_ mr,.pointer (some ⟨mr,1,none⟩),pp_ rb,pp_ bb,pp_ bb,.pointer (some ⟨bb,1,none⟩),pp_ mr,pp_ mr,pp_ mr,pp_ bm,.pointer (some ⟨bx,70,none⟩),i_ y.n,i_ z,.bool true,.bool true] (hC.below br_.drew) ⟨fun _ _ _ _ _ hC=>.val (qe_ rfl rfl (ld_chp hC.b0)) hC,fun _ _ _ _ _ hC=>.val (qe_ rfl rfl (ld_i (hC.act.num q0))) hC,fun b1 b2 w' f1 _ hC=>?_,fun _ _ _ _ _ hC=>.val (qe_ rfl rfl (ld_rcp hC.b1)) hC,fun _ _ _ _ _ hC=>.val (qe_ rfl rfl (ld_rmk hC.m1)) hC,fun _ _ _ _ _ hC=>.val (qe_ rfl rfl (ld_rcp hC.b1)) hC,fun _ _ _ _ _ hC=>.val (qe_ rfl rfl (ld_rar hC.m0)) hC,fun _ _ _ _ _ hC=>.val (qe_ rfl rfl (ld_i (hC.act.num q0))) hC,fun b1 b2 w' _ f2 hC=>?_,fun _ _ _ _ _ hC=>.val (ex_eqi rfl rfl rfl (by simp)) hC,trivial⟩ ?_
 ·obtain rfl:=f1.no (by kernel_rfl);have:=qajo_ (show CCo w0 w' r bb cb mr bt mb mg bm rb [(bx,acA y,39)] M M S (bif b2 then S1 else S) tip L from hC) hml y.n;rw[HS1.out,HZ.out] at this;exact .call this
 ·obtain rfl:=f2.no (by kernel_rfl);have:=(show CCo w0 w' r bb cb mr bt mb mg bm rb [(bx,acA y,39)] M M (bif b1 then S1 else S) S tip L from hC).lift fun X hX=>qrs_ hX (Nat.le_trans hml (by decide)) y.n
  rw[HS1.out,HZ.out] at this;exact .call this
 intro v2 hC;replace hC:CCo w0 v2 r bb cb mr bt mb mg bm rb [(bx,acA y,39)] M M S1 S1 tip L:=hC;have HC:=h_ hC.loose;clear hC;simp only[finT,List.set_cons_zero,List.set_cons_succ,List.tail_cons,List.headD_cons];go_wp2_with fail
 go_ret;exact ⟨rfl,tip,hL,by rw[HS1.out];exact HC.out⟩
theorem does3 (w0 w:World) (r:Ru) (bb cb mr bt mb mg bm rb:Nat) (M:List Ent) (S:Mk.St) (tip:Nat) (L K:List Int) (hL:Row M (tip:Int) L) (h:CCo w0 w r bb cb mr bt mb mg bm rb [] M M S S tip L) (hg:Gd r M S) (y:Ac) (q0:y.h.ok) (hk:y.kind=3) :
  Cl_ 12 #[pp_ bb,.agg (acA y)] w fun e w'=>e = .returned (.bool true)/\CSt w0 w' r bb cb mr bt mb mg bm rb (actM r M y) (actS M S y) (actL K L y):=by
 have e1:actM r M y=M:=by unfold actM;rw[if_neg (by omega)]
 have e2:actS M S y=(recon M S y.n).2:=by unfold actS;rw[if_neg (by omega),if_neg (by omega),if_pos hk]
 have e3:actL K L y=L:=by unfold actL;rw[if_neg (by omega),if_neg (by omega)]
 rw[e1,e2,e3];have HK:=h_ hk;clear e1 e2 e3 hk;have hml:=hg.2.1;have hzy:=qh_ q0;have hza:=qck_ q0;have hb0:Bl w (w.alloc (.cells (acA y) 39)):=ba_;obtain ⟨bx,hbx⟩:∃ bx,bx=w.heap.size:=⟨_,rfl⟩;have hY:AcAt (w.alloc (.cells (acA y) 39)) bx y:=by rw[hbx];exact Has.new _ _
 have hC:=h.box hb0 hbx hY;have HBX:=h_ hbx;clear h hb0 hY hbx;go_enter Tryz.func12,Tryz.ntmps12;go_upto_region 1 with fail
 rw[<-HBX.out];generalize World.alloc _ _=v1 at *;have c0:=hC.act.kind;rw[HK.out] at c0;obtain ⟨S1,hS1⟩:∃ S1,(recon M S y.n).2=S1:=⟨_,rfl⟩;obtain ⟨z,hz⟩:∃ z,(recon M S y.n).1=z:=⟨_,rfl⟩;have HS1:=h_ hS1;have HZ:=h_ hz;clear hS1 hz;go_wp2_with fail
 refine wp_tab (fun b1 b2 w'=>CCo w0 w' r bb cb mr bt mb mg bm rb [(bx,acA y,39)] M M (bif b1 then S1 else S) (bif b2 then S1 else S) tip L) 6 23 [3,5,6,10,13,17,20,22,23,24] [pp_ bb,pp_ bb,pp_ bb,pp_ cb,.pointer (some ⟨bx,70,none⟩),i_ y.n,i_ z,pp_ bb,pp_ bb,.pointer (some ⟨bb,1,none⟩),pp_ mr,pp_ mr,.pointer (some ⟨mr,1,none⟩),pp_ rb,pp_ bb,pp_ bb,.pointer (some ⟨bb,1,none⟩),pp_ mr,pp_ mr,pp_ mr,pp_ bm,.pointer (some ⟨bx,70,none⟩),i_ y.n,i_ z,.bool true,.bool true] (hC.below br_.drew) ⟨fun _ _ _ _ _ hC=>.val (qe_ rfl rfl (ld_chp hC.b0)) hC,fun _ _ _ _ _ hC=>.val (qe_ rfl rfl (ld_i (hC.act.num q0))) hC,fun b1 b2 w' f1 _ hC=>?_,fun _ _ _ _ _ hC=>.val (qe_ rfl rfl (ld_rcp hC.b1)) hC,fun _ _ _ _ _ hC=>.val (qe_ rfl rfl (ld_rmk hC.m1)) hC,fun _ _ _ _ _ hC=>.val (qe_ rfl rfl (ld_rcp hC.b1)) hC,fun _ _ _ _ _ hC=>.val (qe_ rfl rfl (ld_rar hC.m0)) hC,fun _ _ _ _ _ hC=>.val (qe_ rfl rfl (ld_i (hC.act.num q0))) hC,fun b1 b2 w' _ f2 hC=>?_,fun _ _ _ _ _ hC=>.val (ex_eqi rfl rfl rfl (by simp)) hC,trivial⟩ ?_
 ·obtain rfl:=f1.no (by kernel_rfl);have:=qajp_ (show CCo w0 w' r bb cb mr bt mb mg bm rb [(bx,acA y,39)] M M S (bif b2 then S1 else S) tip L from hC) hg.1 hml y.n;rw[HS1.out,HZ.out] at this;exact .call this
 ·obtain rfl:=f2.no (by kernel_rfl);have:=(show CCo w0 w' r bb cb mr bt mb mg bm rb [(bx,acA y,39)] M M (bif b1 then S1 else S) S tip L from hC).lift fun X hX=>qru_ hX hg.1 (Nat.le_trans hml (by decide)) y.n
  rw[HS1.out,HZ.out] at this;exact .call this
 intro v2 hC;replace hC:CCo w0 v2 r bb cb mr bt mb mg bm rb [(bx,acA y,39)] M M S1 S1 tip L:=hC;have HC:=h_ hC.loose;clear hC;simp only[finT,List.set_cons_zero,List.set_cons_succ,List.tail_cons,List.headD_cons];go_wp2_with fail
 go_ret;exact ⟨rfl,tip,hL,by rw[HS1.out];exact HC.out⟩
theorem does4 (w0 w:World) (r:Ru) (bb cb mr bt mb mg bm rb:Nat) (M:List Ent) (S:Mk.St) (tip:Nat) (L K:List Int) (hL:Row M (tip:Int) L) (hK:Row M (tgt r M S:Int) K) (h:CCo w0 w r bb cb mr bt mb mg bm rb [] M M S S tip L) (hg:Gd r M S) (y:Ac) (q0:y.h.ok) (hk:y.kind=4) :
  Cl_ 12 #[pp_ bb,.agg (acA y)] w fun e w'=>e = .returned (.bool true)/\CSt w0 w' r bb cb mr bt mb mg bm rb (actM r M y) (actS M S y) (actL K L y):=by
 have e1:actM r M y=M:=by unfold actM;rw[if_neg (by omega)]
 have e2:actS M S y=S:=by unfold actS;rw[hk];rfl
 have e3:actL K L y=Ch.stp K L:=by unfold actL;rw[if_pos hk]
 rw[e1,e2,e3];have HK:=h_ hk;clear e1 e2 e3 hk;have hml:=hg.2.1;have hzy:=qh_ q0;have hza:=qck_ q0;have hb0:Bl w (w.alloc (.cells (acA y) 39)):=ba_;obtain ⟨bx,hbx⟩:∃ bx,bx=w.heap.size:=⟨_,rfl⟩;have hY:AcAt (w.alloc (.cells (acA y) 39)) bx y:=by rw[hbx];exact Has.new _ _
 have hC:=h.box hb0 hbx hY;have HBX:=h_ hbx;clear h hb0 hY hbx;go_enter Tryz.func12,Tryz.ntmps12;go_upto_region 1 with fail
 rw[<-HBX.out];generalize World.alloc _ _=v1 at *;have c0:=hC.act.kind;rw[HK.out] at c0;go_wp2_with fail
 refine wp_tab (fun b1 b2 w'=>∃ t2:Nat,Row M (t2:Int) (bif b1 then (Ch.stp K L) else L)/\CCo w0 w' r bb cb mr bt mb mg bm rb [(bx,acA y,39)] M M S S t2 (bif b2 then (Ch.stp K L) else L)) 4 9 [3,4,8,9,10] [pp_ bb,pp_ bb,pp_ bb,pp_ cb,.bool (decide (0<Ch.cnt K L)),pp_ bb,pp_ bb,.pointer (some ⟨bb,1,none⟩),pp_ mr,.bool (decide (0<Ch.cnt K L)),.bool true,.bool true] ⟨tip,hL,hC.below br_.drew⟩ ⟨fun _ _ _ _ _ hC=>.val (qe_ rfl rfl (ld_chp hC.choose_spec.2.b0)) hC,fun b1 b2 w' f1 _ hC=>?_,fun _ _ _ _ _ hC=>.val (qe_ rfl rfl (ld_rcp hC.choose_spec.2.b1)) hC,fun b1 b2 w' _ f2 hC=>?_,fun _ _ _ _ _ hC=>.val (ex_eqb rfl rfl rfl (by simp)) hC,trivial⟩ ?_
 ·obtain rfl:=f1.no (by kernel_rfl);obtain ⟨t2,h1,h2⟩:=hC;exact .call (ch_step h2 hg h1 hK)
 ·obtain rfl:=f2.no (by kernel_rfl);obtain ⟨t2,h1,h2⟩:=hC;exact .call ((rf_step h2 hg hL hK).mono fun _ _ h=>⟨h.1,t2,h1,h.2⟩)
 rintro v2 ⟨t2,h1,hC⟩;have HC:=h_ hC.loose;have H1:=h_ h1;clear hC h1 hL hK;simp only[finT,List.set_cons_zero,List.set_cons_succ,List.tail_cons,List.headD_cons];go_wp2_with fail
 go_ret;exact ⟨rfl,t2,H1.out,HC.out⟩
theorem does5 (w0 w:World) (r:Ru) (bb cb mr bt mb mg bm rb:Nat) (M:List Ent) (S:Mk.St) (tip:Nat) (L K:List Int) (hL:Row M (tip:Int) L) (hK:Row M (tgt r M S:Int) K) (h:CCo w0 w r bb cb mr bt mb mg bm rb [] M M S S tip L) (hg:Gd r M S) (y:Ac) (q0:y.h.ok) (hk:y.kind=5) :
  Cl_ 12 #[pp_ bb,.agg (acA y)] w fun e w'=>e = .returned (.bool true)/\CSt w0 w' r bb cb mr bt mb mg bm rb (actM r M y) (actS M S y) (actL K L y):=by
 have e1:actM r M y=M:=by unfold actM;rw[if_neg (by omega)]
 have e2:actS M S y=S:=by unfold actS;rw[hk];rfl
 have e3:actL K L y=K:=by unfold actL;rw[if_neg (by omega),if_pos hk]
 rw[e1,e2,e3];have HK:=h_ hk;clear e1 e2 e3 hk;have hml:=hg.2.1;have hzy:=qh_ q0;have hza:=qck_ q0;have hb0:Bl w (w.alloc (.cells (acA y) 39)):=ba_;obtain ⟨bx,hbx⟩:∃ bx,bx=w.heap.size:=⟨_,rfl⟩;have hY:AcAt (w.alloc (.cells (acA y) 39)) bx y:=by rw[hbx];exact Has.new _ _
 have hC:=h.box hb0 hbx hY;have HBX:=h_ hbx;clear h hb0 hY hbx;go_enter Tryz.func12,Tryz.ntmps12;go_upto_region 1 with fail
 rw[<-HBX.out];generalize World.alloc _ _=v1 at *;have c0:=hC.act.kind;rw[HK.out] at c0;go_wp2_with fail
 refine wp_tab (fun b1 b2 w'=>∃ t2:Nat,Row M (t2:Int) (bif b1 then K else L)/\CCo w0 w' r bb cb mr bt mb mg bm rb [(bx,acA y,39)] M M S S t2 (bif b2 then K else L)) 4 9 [3,4,8,9,10] [pp_ bb,pp_ bb,pp_ bb,pp_ cb,i_ (Ch.cnt K L:Int),pp_ bb,pp_ bb,.pointer (some ⟨bb,1,none⟩),pp_ mr,i_ (Ch.cnt K L:Int),.bool true,.bool true] ⟨tip,hL,hC.below br_.drew⟩ ⟨fun _ _ _ _ _ hC=>.val (qe_ rfl rfl (ld_chp hC.choose_spec.2.b0)) hC,fun b1 b2 w' f1 _ hC=>?_,fun _ _ _ _ _ hC=>.val (qe_ rfl rfl (ld_rcp hC.choose_spec.2.b1)) hC,fun b1 b2 w' _ f2 hC=>?_,fun _ _ _ _ _ hC=>.val (ex_eqi rfl rfl rfl (by simp)) hC,trivial⟩ ?_
 ·obtain rfl:=f1.no (by kernel_rfl);obtain ⟨t2,h1,h2⟩:=hC;exact .call ((qpy_ h2 hg h1 hK).mono fun _ _ h=>⟨h.1,_,hK,h.2⟩)
 ·obtain rfl:=f2.no (by kernel_rfl);obtain ⟨t2,h1,h2⟩:=hC;exact .call ((qacd_ h2 hg hL hK).mono fun _ _ h=>⟨h.1,t2,h1,h.2⟩)
 rintro v2 ⟨t2,h1,hC⟩;have HC:=h_ hC.loose;have H1:=h_ h1;clear hC h1 hL hK;simp only[finT,List.set_cons_zero,List.set_cons_succ,List.tail_cons,List.headD_cons];go_wp2_with fail
 go_ret;exact ⟨rfl,t2,H1.out,HC.out⟩
theorem does9 (w0 w:World) (r:Ru) (bb cb mr bt mb mg bm rb:Nat) (M:List Ent) (S:Mk.St) (tip:Nat) (L K:List Int) (hL:Row M (tip:Int) L) (h:CCo w0 w r bb cb mr bt mb mg bm rb [] M M S S tip L) (y:Ac) (q0:y.h.ok) (k0:¬y.kind=0) (k1:¬y.kind=1) (k2:¬y.kind=2) (k3:¬y.kind=3) (k4:¬y.kind=4) (k5:¬y.kind=5) :
  Cl_ 12 #[pp_ bb,.agg (acA y)] w fun e w'=>e = .returned (.bool true)/\CSt w0 w' r bb cb mr bt mb mg bm rb (actM r M y) (actS M S y) (actL K L y):=by
 have e1:actM r M y=M:=if_neg k0;have e2:actS M S y=S:=by unfold actS;rw[if_neg k1,if_neg k2,if_neg k3]
 have e3:actL K L y=L:=by unfold actL;rw[if_neg k4,if_neg k5]
 rw[e1,e2,e3];have f0:(y.kind==0)=false:=by simpa using k0
 have f1:(y.kind==1)=false:=by simpa using k1
 have f2:(y.kind==2)=false:=by simpa using k2
 have f3:(y.kind==3)=false:=by simpa using k3
 have f4:(y.kind==4)=false:=by simpa using k4
 have f5:(y.kind==5)=false:=by simpa using k5
 clear e1 e2 e3 k0 k1 k2 k3 k4 k5;have hza:=qck_ q0;have hb0:Bl w (w.alloc (.cells (acA y) 39)):=ba_;obtain ⟨bx,hbx⟩:∃ bx,bx=w.heap.size:=⟨_,rfl⟩;have hY:AcAt (w.alloc (.cells (acA y) 39)) bx y:=by rw[hbx];exact Has.new _ _
 have hC:=h.box hb0 hbx hY;have HBX:=h_ hbx;clear h hb0 hY hbx;go_enter Tryz.func12,Tryz.ntmps12;go_upto_region 1 with fail
 rw[<-HBX.out];generalize World.alloc _ _=v1 at *;have c0:=hC.act.kind;generalize y.kind=kd at *;have HC:=h_ hC;clear hC;go_wp2_with fail
 go_ret;exact ⟨rfl,tip,hL,HC.out.loose⟩
theorem does_at (w0 w:World) (r:Ru) (bb cb mr bt mb mg bm rb:Nat) (M:List Ent) (S:Mk.St) (tip:Nat) (L K:List Int) (hL:Row M (tip:Int) L) (hK:Row M (tgt r M S:Int) K) (h:CCo w0 w r bb cb mr bt mb mg bm rb [] M M S S tip L) (hg:Gd r M S) (HG:Hid (r.gs.length<=1000/\r.cs.length<=1000/\2<=r.p.ivl)) (HT:HB_ w0 fun w'=>Tab w') (y:Ac) (q0:y.h.ok) (HNy:Hid (-9223372036854775808<=y.now/\y.now<=9223372036854775807)):Cl_ 12 #[pp_ bb,.agg (acA y)] w fun e w'=>e = .returned (.bool true)/\CSt w0 w' r bb cb mr bt mb mg bm rb (actM r M y) (actS M S y) (actL K L y):=by
 by_cases k0:y.kind=0;exact does0 w0 w r bb cb mr bt mb mg bm rb M S tip L K hL h hg HG HT y q0 HNy k0;by_cases k1:y.kind=1;exact does1 w0 w r bb cb mr bt mb mg bm rb M S tip L K hL h hg y q0 k1;by_cases k2:y.kind=2;exact does2 w0 w r bb cb mr bt mb mg bm rb M S tip L K hL h hg y q0 k2;by_cases k3:y.kind=3;exact does3 w0 w r bb cb mr bt mb mg bm rb M S tip L K hL h hg y q0 k3;by_cases k4:y.kind=4;exact does4 w0 w r bb cb mr bt mb mg bm rb M S tip L K hL hK h hg y q0 k4;by_cases k5:y.kind=5;exact does5 w0 w r bb cb mr bt mb mg bm rb M S tip L K hL hK h hg y q0 k5;exact does9 w0 w r bb cb mr bt mb mg bm rb M S tip L K hL h y q0 k0 k1 k2 k3 k4 k5
def CnP (B:Nat) (r:Ru) (cb bt mb mg:Nat) (F:Nat->Prop) (w:World):Prop:=MkS w F mb mg (sp_ bt) r [entZ] Mk.st0/\Has w cb (ccA bt mb 0) 88/\(∀i,F i->B<=i/\i ≠ cb)/\B<=mb/\B<=mg/\B<=cb/\mb ≠ cb/\mg ≠ cb
variable {F:Nat->Prop}
theorem CnP.below (h:CnP B r cb bt mb mg F w) (hb:Bl w w'):CnP B r cb bt mb mg F w':=⟨h.1.below hb,(qii_ hb).has h.2.1 (fun h=>h),h.2.2⟩
theorem cnew_w (p:NN.Pr) (hp:p.ok) (z:Int) (r:Ru) (w:World) (KN:HB_ w fun w'=>Cl_ 70 #[.agg (NN.prA p),i_ z] w' fun e w''=>∃ b F,e = .returned (.tuple #[pp_ b,i_ 0])/\TrS w'' F b r [entZ] [-1]/\(∀i,F i->w'.heap.size<=i)/\Bl w' w'') :
  Cl_ 36 #[.agg (NN.prA p),i_ z] w fun e w'=>∃ cb bt mb mg F,e = .returned (.tuple #[pp_ cb,i_ 0])/\CnP w.heap.size r cb bt mb mg F w'/\Bl w w':=by
 have hz:=NN.qav_ hp;go_enter Tryz.func36,Tryz.ntmps36;go_upto_region 1 with fail
 generalize hw0:World.alloc _ _=v0;have hB:Bl w v0:=bl_ hw0;have hP:NN.PrAt v0 w.heap.size p:=by rw[<-hw0];exact NN.Has.new _ _
 clear hw0;go_wp2_with (first|fail|(with_reducible refine NN.qq_ rfl _ rfl _ rfl hP hz ?_))
 refine (KN.out _ hB).mono ?_;rintro e v1 ⟨bt,F,rfl,hS,hF,hb⟩;have hB1:=tb_ hB hb;have HF:Hid (∀i,F i->w.heap.size<=i):=h_ fun i hi=>Nat.le_trans hB.size (hF i hi)
 have HS:=h_ hS;have HB1:=h_ hB1;clear hb hF hB hB1 hP hS KN;go_wp2_with fail
 refine (mnew_w (sp_ bt) v1).mono ?_;rintro e v2 ⟨mb,mg,rfl,h1,h2,h3,h4,hb⟩;have hM:MkS v2 F mb mg (sp_ bt) r [entZ] Mk.st0:=⟨.inl ⟨bt,[-1],rfl,HS.out.below hb,rfl⟩,h3,h4,fun hf=>by have:=HS.out.1 _ hf;omega,fun hf=>by have:=HS.out.1 _ hf;omega⟩;have HMl:Hid (mb<v2.heap.size/\mg<v2.heap.size/\w.heap.size<=mb/\w.heap.size<=mg):=h_ ⟨Has.lt h3,h4.lt,Nat.le_trans HB1.out.size h2,Nat.le_trans HB1.out.size h1⟩;have HM:=h_ hM;have HB2:=h_ (tb_ HB1.out hb);have Hb:=h_ hb;clear h1 h2 h3 h4 hb hM;go_wp2_with fail
 go_ret2;have hb3:Bl v2 (v2.alloc (.cells (ccA bt mb 0) 88)):=ba_;exact ⟨v2.heap.size,bt,mb,mg,F,rfl,⟨HM.out.below hb3,Has.new _ _,fun i hi=>⟨HF.out i hi,Nat.ne_of_lt (Nat.lt_of_lt_of_le (HS.out.1 i hi) Hb.out.size)⟩,HMl.out.2.2.1,HMl.out.2.2.2,HB2.out.size,Nat.ne_of_lt HMl.out.1,Nat.ne_of_lt HMl.out.2.1⟩,tb_ HB2.out hb3⟩
theorem rcnew_w (bm:Nat) (w:World):Cl_ 38 #[pp_ bm] w fun e w'=>∃ mr rb ag,e = .returned (pp_ mr)/\w.heap.size<=mr/\w.heap.size<=rb/\w.heap.size<=ag/\RkS w' rb Mk.st0/\Has w' ag #[i_ 0] 3/\Has w' mr (rcA bm rb (.slice (sp_ ag) 1 1)) 66/\Bl w w':=by
 go_enter Tryz.func38,Tryz.ntmps38;go_wp2_with fail
 refine (rknew_w w).mono ?_;rintro e v1 ⟨rb,rfl,h1,h2,hb⟩;have H1:=h_ h1;have H2:=h_ h2;have Hb:=h_ hb;clear h1 h2 hb;go_wp2_with fail
 go_ret;have hb1:Bl v1 (v1.alloc (.cells #[i_ 0] 3)):=ba_;have hA:=Has.new (w:=v1) #[i_ 0] 3;have hs:=World.size_alloc v1 (.cells #[i_ 0] 3);have ha:v1.heap.size<=(v1.alloc (.cells #[i_ 0] 3)).heap.size:=hb1.size;generalize (v1.alloc (.cells #[i_ 0] 3))=v2 at *;have hb2:Bl v2 (v2.alloc (.cells (rcA bm rb (.slice (some ⟨v1.heap.size,0,none⟩) 1 1)) 66)):=ba_;have h12:=tb_ hb1 hb2;have hn:=Hb.out.size;exact ⟨v2.heap.size,rb,v1.heap.size,congrArg (fun b=>Ending.returned (pp_ b)) hs.symm,by omega,H1.out,hn,H2.out.below h12,(qii_ hb2).has hA (fun h=>h),Has.new _ _,Hb.out.trans (h12.mono hn)⟩
theorem qajq_ (p:NN.Pr) (hp:p.ok) (h1:p.one) (t:Tl) (tt:p.tl=t.C) (ht:t.ok) (gs:List Gt) (cs:List Ck) (hgn:t.gn=gs.length) (hcn:t.cn=cs.length) (hg20:gs.length<=1000) (hc20:cs.length<=1000) (hr:ruleP p t.g gs cs=true) (w:World) (hT:Tab w) (hG:GatesAt w t.ga gs) (hC:ChecksAt w t.ca cs) :
  Cl_ 11 #[.agg (NN.prA p)] w fun e w'=>∃ bb cb mr bt mb mg bm rb,e = .returned (pp_ bb)/\CSt w w' ⟨p,t.g,gs,cs,100⟩ bb cb mr bt mb mg bm rb [entZ] Mk.st0 [0]:=by
 have KN:Hid (∀w',Bl w w'->Cl_ 36 #[.agg (NN.prA p),i_ 100] w' fun e w''=>∃ cb bt mb mg F,e = .returned (.tuple #[pp_ cb,i_ 0])/\CnP w'.heap.size ⟨p,t.g,gs,cs,100⟩ cb bt mb mg F w''/\Bl w' w''):=h_ fun w' hb=>cnew_w p hp 100 _ w' (h_ fun w2 hb2=>by
  have hb3:=tb_ hb hb2;exact qaec_ p hp h1 t tt ht gs cs hgn hcn (by omega) (by omega) 100 hr w2 (hT.below hb3) (hG.below hb3) (hC.below hb3))
 have KF:Hid (∀w',Bl w w'->Cl_ 39 #[.agg (NN.prA p),i_ 100] w' fun e w''=>∃ b,e = .returned (pp_ b)/\RfS w'' w.heap.size (fun i=>w'.heap.size<=i/\i<w''.heap.size) b ⟨p,t.g,gs,cs,100⟩ [entZ]/\Bl w' w''):=h_ fun w' hb=>qait_ p hp h1 t tt ht gs cs hgn hcn 100 w w' hb hG hC
 generalize (⟨p,t.g,gs,cs,100⟩:Ru)=r at *;have hz:=NN.qav_ hp;clear hT hG hC hr;go_enter Tryz.func11,Tryz.ntmps11;go_upto_region 1 with fail
 generalize hw0:World.alloc _ _=v0;have hB:Bl w v0:=bl_ hw0;have hP:NN.PrAt v0 w.heap.size p:=by rw[<-hw0];exact NN.Has.new _ _
 clear hw0;obtain ⟨bP,hbP⟩:∃ x,x=w.heap.size:=⟨_,rfl⟩;rw[<-hbP] at hP |-;clear hbP;go_wp2_with (first|fail|(with_reducible refine NN.qq_ rfl _ rfl _ rfl hP hz ?_))
 refine (KN.out _ hB).mono ?_;rintro e v1 ⟨cb,bt,mb,mg,F,rfl,hS,hb⟩;replace hP:=hP.on hb;have H0:=h_ hB.size;have HS:=h_ hS;replace hB:=tb_ hB hb;clear hb hS KN;go_wp2_with (first|fail|(with_reducible refine NN.qq_ rfl _ rfl _ rfl hP hz ?_))
 refine (KF.out _ hB).mono ?_;rintro e v2 ⟨bm,rfl,hR,hb⟩;have H1:=h_ hB.size;have HR:=h_ hR;have HS2:=h_ (HS.out.below hb);have HL:Hid (mb<v1.heap.size/\mg<v1.heap.size/\cb<v1.heap.size/\∀ i,F i->i<v1.heap.size):=h_ ⟨Has.lt HS.out.1.2.1,HS.out.1.2.2.1.lt,HS.out.2.1.lt,fun i hi=>HS.out.1.tlt hi⟩;have H12:=h_ hb.size;replace hB:=tb_ hB hb;clear hb hR KF hP HS;go_wp2_with fail
 refine (rcnew_w bm v2).mono ?_;rintro e v3 ⟨mr,rb,ag,rfl,r1,r2,r3,r4,r5,r6,hb⟩;have H23:=h_ hb.size;have HS3:=h_ (HS2.out.below hb);have HR3:=h_ (HR.out.below hb);have HQ:Hid (v2.heap.size<=mr/\v2.heap.size<=rb/\v2.heap.size<=ag):=h_ ⟨r1,r2,r3⟩;have HK:=h_ r4;have HA:=h_ r5;have HM:=h_ r6;have HB:=h_ (tb_ hB hb);clear hB hb r1 r2 r3 r4 r5 r6 HS2 HR;go_wp2_with fail
 go_ret;have hb:Bl v3 (v3.alloc (.cells (boA cb mr) 58)):=ba_;obtain ⟨s1,s2,s3,s4,s5,s6,s7,s8⟩:=HS3.out.below hb;have hR:=HR3.out.below hb;have hA:=(qii_ hb).has HA.out (fun h=>h);have hM:=(qii_ hb).has HM.out (fun h=>h);have hK:=HK.out.below hb;obtain ⟨l1,l2,l3,l4⟩:=HL.out;obtain ⟨m1,m2,m3⟩:=HQ.out;have k0:=H0.out;have k1:=H1.out;have k2:=H12.out;have k3:=H23.out;have kw:=HB.out.size;have n1:rb<v3.heap.size:=Has.lt HK.out;have n2:mr<v3.heap.size:=HM.out.lt;have n3:ag<v3.heap.size:=HA.out.lt;have d1:mr ≠ rb:=qaf_ hM hK (by decide);have d2:ag ≠ rb:=qaf_ hA hK (by decide);refine ⟨v3.heap.size,cb,mr,bt,mb,mg,bm,rb,rfl,0,.snoc 0 entZ [] rfl .nil,fun _ h=>(by cases h),ag,#[i_ 0],⟨Nat.le_refl _,fun k z hk=>?_⟩,⟨F,_,s1,hR,hK,fun i hi=>⟨by have:=(s3 i hi).1;omega,by have:=l4 i hi;omega,by have:=l4 i hi;omega⟩,fun i hi=>⟨by omega,by omega,by omega⟩,⟨by omega,by omega,by omega,by omega,by omega⟩,fun i c T hx=>?_⟩,HB.out.trans (hb.mono kw)⟩
 ·match k,hk with
  | 0,hk=>cases hk;rfl
  | k+1,hk=>simp at hk
 ·have nf:∀ i,v1.heap.size<=i->¬F i:=fun i hi hf=>by have:=l4 i hf;omega
  cases hx with
  | bb=>exact ⟨Has.new _ _,by omega,nf _ (by omega),fun hf=>by omega,by omega,by omega,by omega⟩
  | cb=>exact ⟨s2,by omega,fun hf=>(s3 _ hf).2 rfl,fun hf=>by omega,s7.symm,s8.symm,by omega⟩
  | mr=>exact ⟨hM,by omega,nf _ (by omega),fun hf=>by omega,by omega,by omega,d1⟩
  | ag=>exact ⟨hA,by omega,nf _ (by omega),fun hf=>by omega,by omega,by omega,d2⟩
  | act p hp=>cases hp
theorem CnP.h (h:CnP B r cb bt mb mg F w):Hid (TwH w cb bt 0 (enOf r entZ)):=h_ ⟨fun w' hb=>Has.cell (h.below hb).2.1 0,fun w' hb=>⟨Has.cell (h.below hb).2.1 2,Has.free (h.below hb).2.1 2⟩,fun w' hb=>ctip_w (Has.cell (h.below hb).2.1 2),fun w' hb=>by
 obtain ⟨⟨b,ls,e,h1,_⟩|⟨e,_⟩,_⟩:=(h.below hb).1;cases e;exact tat_at h1 rfl _ rfl;cases e⟩
theorem qpz_ (h:CnP B r cb bt mb mg F w):Ca_ 19 #[pp_ cb] w (i_ 0) :=
 qpt_ (sp_ cb) (sp_ mb) _ (h_ fun w' hb=>qxc_ (Has.cell (h.below hb).2.1 1)) (h_ fun w' hb=>by
  have:=((h.below hb).1.rd (.inr (Ok.one r)) (by decide)).best (Ok.one r) (qaei_ (Ok.one r) (Mk.Good.start 1 (by decide)))
  rwa [show Mk.top (Hv r [entZ]) (fun i=>validB [entZ] Mk.st0 (i:Int)) ([entZ]:List Ent).length=0 from by
   show (if _/\_ then 0 else 0)=0;split <;> rfl] at this)
theorem qacf_ (h:CnP B r cb bt mb mg F w):Cl_ 22 #[pp_ cb] w fun e w'=>e = .returned (i_ 0)/\CnP B r cb bt mb mg F w'/\Bl w w' :=
 (qpw_ (sp_ cb) 0 (h_ fun w' hb=>qpz_ (h.below hb)) 0 (by decide) (fun w' n=>n=0/\CnP B r cb bt mb mg F w'/\Bl w w') (fun w' hb=>⟨rfl,h.below hb,hb⟩) (h_ fun w' n hn=>by
  obtain ⟨rfl,h1,h2⟩:=hn;exact (qaeg_ h1.h).mono fun e w'' h3=>⟨h3.1,rfl,h1.below h3.2,tb_ h2 h3.2⟩)).mono fun e w' h1=>⟨h1.1,h1.2.2⟩
theorem qacg_ (h:CnP B r cb bt mb mg F w):Cl_ 23 #[pp_ cb] w fun e w'=>∃ p c,e = .returned (.slice p 1 c)/\Bl w w':=by
 refine (qace_ (cb:=cb) (bt:=bt) (tip:=0) 0 [] rfl (by decide) (h_ fun w' hb=>⟨Has.cell (h.below hb).2.1 0,Has.cell (h.below hb).2.1 2⟩) (h_ fun w' hb=>?_)).mono ?_;obtain ⟨⟨b,ls,e,h1,_⟩|⟨e,_⟩,_⟩:=(h.below hb).1;cases e;exact path_at h1 (Ok.one r) (by decide) 0 entZ rfl [0] (.snoc 0 entZ [] rfl .nil);cases e;rintro e w' ⟨v,rfl,hv,hb⟩;obtain ⟨g,c,rfl,_⟩:=qjp_ hv (by decide);exact ⟨_,c,rfl,hb⟩
theorem alive17 (w:World) (hT:Tab w):Ca_ 9 #[] w (.bool true):=by
 have KN:Hid (Cl_ 36 #[.agg (NN.prA NN.prL),i_ 5] w fun e w''=>∃ cb bt mb mg F,e = .returned (.tuple #[pp_ cb,i_ 0])/\CnP w.heap.size ⟨NN.prL,tlN.g,[],[],clampR 5⟩ cb bt mb mg F w''/\Bl w w''):=h_ (cnew_w NN.prL (NN.tlZ_ok _ _ _ _ _) 5 _ w (h_ fun w2 hb2=>qaec_ NN.prL (NN.tlZ_ok _ _ _ _ _) (NN.tlZ_one _ _ _ _ _) tlN tlN_is tlN_ok [] [] rfl rfl (by decide) (by decide) 5 (by decide +kernel) w2 (hT.below hb2) (fun h=>by simp at h) (fun h=>by simp at h)));generalize (⟨NN.prL,tlN.g,[],[],clampR 5⟩:Ru)=r at *;clear hT;go_enter Tryz.func9,Tryz.ntmps9;go_wp2_with (with_reducible refine qaau_ rfl rfl ?_)
 refine KN.out.mono ?_;rintro e v1 ⟨cb,bt,mb,mg,F,rfl,h,hB⟩;have K1:=h_ (ctip_w (Has.cell h.2.1 2));have H:=h_ h;clear h KN;go_wp2_with fail
 refine K1.out.mono ?_;rintro e v2 ⟨rfl,hb⟩;have K2:=h_ (qpz_ (H.out.below hb));have H2:=h_ (H.out.below hb);replace hB:=tb_ hB hb;clear hb K1 H;go_wp2_with fail
 refine K2.out.mono ?_;rintro e v3 ⟨rfl,hb⟩;have K3:=h_ (qacf_ (H2.out.below hb));replace hB:=tb_ hB hb;clear hb K2 H2;go_wp2_with fail
 refine K3.out.mono ?_;rintro e v4 ⟨rfl,h,hb⟩;have K4:=h_ (qacg_ h);replace hB:=tb_ hB hb;clear hb h K3;go_wp2_with fail
 refine K4.out.mono ?_;rintro e v5 ⟨p,c,rfl,hb⟩;replace hB:=tb_ hB hb;clear hb K4;go_wp2_with fail
 go_ret;exact ⟨rfl,hB⟩
theorem ac_load {ops:Array Oper} {rest:List Oper} {o:Oper} {a:Act} {Q:Exit->Act->World->Prop} (hgd:o.guard=none) (x:Operand) (ho:o.op = .load 39 x) (g:Nat) (hx:a.eval x = pp_ g) (c:Ac) (hg:AcAt w g c) (hs:(acA c).size=72)
  (hk:wpList Tryz.prog ops Q rest (a.put o.dst (.agg (acA c))) w):wpList Tryz.prog ops Q (o :: rest) a w :=
 wpList_load_row hgd 39 x ho g hx 39 (acA c) (0,0) _ (Has.out hg) Tryz.underlying39 rfl (acinfo.trans (by rw[hs])) hk
theorem act_len (r:Ru) (M:List Ent) (h:Hd) (now:Int):(Ar.add r M h now).2.length<=M.length+1:=by
 unfold Ar.add;repeat' (first|split|(dsimp only;simp))
theorem act_gd {k:Nat} (hM:Ok r M) (hl:M.length<=k+1) (hG:Mk.Good M.length S) (y:Ac) (q0:y.h.ok):Ok r (actM r M y)/\(actM r M y).length<=k+1+1/\Mk.Good (actM r M y).length (actS M S y):=by
 unfold actM actS;by_cases k0:y.kind=0;rw[if_pos k0,if_neg (by omega),if_neg (by omega),if_neg (by omega)];have h1:=act_len r M y.h y.now;obtain ⟨X,hX⟩:=qxj_ r M y.h y.now;exact ⟨hM.add q0 y.now,by omega,hG.more (by rw[hX,List.length_append];omega)⟩
 ·rw[if_neg k0];refine ⟨hM,by omega,?_⟩;split;exact hG.verdict y.n y.rt
  ·split;exact hG.inval y.n
   ·split;exact hG.recon y.n;exact hG
theorem CSt.bel (h:CSt w0 w r bb cb mr bt mb mg bm rb M S L):Bl w0 w:=by
 obtain ⟨tip,h1,h2⟩:=h;exact h2.bel
theorem does_l (h:CSt w0 w r bb cb mr bt mb mg bm rb M S L) (hg:Gd r M S) (HG:Hid (r.gs.length<=1000/\r.cs.length<=1000/\2<=r.p.ivl)) (HT:HB_ w0 fun w'=>Tab w') (y:Ac) (q0:y.h.ok) (HNy:Hid (-9223372036854775808<=y.now/\y.now<=9223372036854775807)) :
  Cl_ 12 #[pp_ bb,.agg (acA y)] w fun e w'=>e = .returned (.bool true)/\∃ L',CSt w0 w' r bb cb mr bt mb mg bm rb (actM r M y) (actS M S y) L':=by
 obtain ⟨tip,h1,h2⟩:=h;obtain ⟨K,hK⟩:=qaej_ hg;exact (does_at w0 w r bb cb mr bt mb mg bm rb M S tip L K h1 hK h2 hg HG HT y q0 HNy).mono fun _ _ h=>⟨h.1,_,h.2⟩
theorem qxk_ (p:NN.Pr) (hp:p.ok) (a:Option Addr) (n c:Nat) (w:World) (KA:HK_ w 9 #[] (.bool true)) (KG:HK_ w 10 #[.agg (NN.prA p),.slice a n c] (.bool true)) :
  Ca_ 6 #[.agg (NN.prA p),.slice a n c] w (.bool true):=by
 have hz:=NN.qav_ hp;go_enter Tryz.func6,Tryz.ntmps6;go_upto_region 1 with fail
 generalize hw0:World.alloc _ _=v0;have hB:Bl w v0:=bl_ hw0;have hP:NN.PrAt v0 w.heap.size p:=by rw[<-hw0];exact NN.Has.new _ _
 clear hw0;obtain ⟨bP,hbP⟩:∃ x,x=w.heap.size:=⟨_,rfl⟩;rw[<-hbP] at hP |-;have HBP:Hid (bP=w.heap.size):=h_ hbP;clear hbP;go_wp2_with (first|fail)
 refine (KA.out _ hB).mono ?_;rintro e v1 ⟨rfl,hb⟩;replace hP:=hP.on hb;replace hB:=tb_ hB hb;clear hb;go_wp2_with (with_reducible first|refine NN.qq_ rfl _ rfl _ rfl hP hz ?_|refine NN.ql_ (by with_unfolding_all rfl) _ rfl _ rfl hP hz ?_)
 refine (KG.out _ hB).mono ?_;rintro e v2 ⟨rfl,hb⟩;replace hP:=hP.on hb;replace hB:=tb_ hB hb;clear hb;go_wp2_with fail
 go_ret;exact ⟨rfl,hB⟩
theorem qach_ (p:NN.Pr) (hp:p.ok) (r:Ru) (a:Option Addr) (n c:Nat) (w:World) (ls:List Ac) (HA:HB_ w fun w'=>ActsAt w' a ls) (HN:Hid (n=ls.length)) (hn50:n<=50) (HT:HB_ w fun w'=>Tab w') (HG:Hid (r.gs.length<=1000/\r.cs.length<=1000/\2<=r.p.ivl)) (HNW:Hid (∀x ∈ ls,-9223372036854775808<=x.now/\x.now<=9223372036854775807)) (KA:HK_ w 9 #[] (.bool true)) (KG:HK_ w 10 #[.agg (NN.prA p),.slice a n c] (.bool false)) (KS:HB_ w fun w'=>Cl_ 11 #[.agg (NN.prA p)] w' fun e w''=>∃ bb cb mr bt mb mg bm rb,e = .returned (pp_ bb)/\CSt w' w'' r bb cb mr bt mb mg bm rb [entZ] Mk.st0 [0]) :
  Ca_ 6 #[.agg (NN.prA p),.slice a n c] w (.bool true):=by
 have hz:=NN.qav_ hp;go_enter Tryz.func6,Tryz.ntmps6;go_upto_region 1 with fail
 generalize hw0:World.alloc _ _=v0;have hB:Bl w v0:=bl_ hw0;have hP:NN.PrAt v0 w.heap.size p:=by rw[<-hw0];exact NN.Has.new _ _
 clear hw0;obtain ⟨bP,hbP⟩:∃ x,x=w.heap.size:=⟨_,rfl⟩;rw[<-hbP] at hP |-;have HBP:Hid (bP=w.heap.size):=h_ hbP;clear hbP;go_wp2_with (first|fail)
 refine (KA.out _ hB).mono ?_;rintro e v1 ⟨rfl,hb⟩;replace hP:=hP.on hb;replace hB:=tb_ hB hb;clear hb;go_wp2_with (with_reducible first|refine NN.qq_ rfl _ rfl _ rfl hP hz ?_|refine NN.ql_ (by with_unfolding_all rfl) _ rfl _ rfl hP hz ?_)
 refine (KG.out _ hB).mono ?_;rintro e v2 ⟨rfl,hb⟩;replace hP:=hP.on hb;replace hB:=tb_ hB hb;clear hb;go_wp2_with (first|fail|(with_reducible refine NN.qq_ rfl _ rfl _ rfl hP hz ?_))
 refine (KS.out _ hB).mono ?_;rintro e v3 ⟨bb,cb,mr,bt,mb,mg,bm,rb,rfl,hC⟩;have HBS:=h_ hB;have HTS:Hid (∀w',Bl v2 w'->Tab w'):=h_ fun w' hb=>HT.out w' (tb_ hB hb)
 clear hB hP KA KG KS;go_wp2_with fail
 go_loopw [26] (fun u wr=>∃ (k:Nat) (M:List Ent) (S:Mk.St) (L:List Int),k<=n/\u = i_ k/\CSt v2 wr r bb cb mr bt mb mg bm rb M S L/\Hid (Ok r M/\M.length<=k+1/\Mk.Good M.length S)) (fun u _=>n - (intOf u).toNat)
 case atStart=>exact ⟨0,[entZ],Mk.st0,[0],by omega,rfl,hC,h_ ⟨Ok.one r,Nat.le_refl _,Mk.Good.start 1 (by decide)⟩⟩
 case round=>
  clear hC;obtain ⟨k,M,S,L,hk,rfl,hC,HM⟩:=hrel;have hM9:M.length<=60:=by have:=HM.out.2.1;omega
  have hB:=tb_ HBS.out hC.bel;by_cases hlt:k<n
  ·obtain ⟨ab,ao,hae,habl,hc⟩:=(HA.out _ hB) (by rw[<-HN.out];omega);subst hae;have hk2:k<ls.length:=by rw[<-HN.out];exact hlt
   obtain ⟨q0,q1⟩:=hc k hk2;have HNy:=h_ (HNW.out _ (List.getElem_mem hk2));clear hc hB;generalize ls[k]=y at *;clear hk2;have z1:=qhe_ q0;have z2:=qck_ q0;have z0:=qck_ (c:=acZ) hdZ_ok;have hb2:Bl wr ((wr.alloc (.cells Tryz.zeroCells39 39)).setRow wr.heap.size (acA y)):=below_setRow ba_ (Nat.le_refl _) _;have hnew:=qwq_ wr;have hY:=qaeb_ wr y;have hgd:Gd r M S:=⟨HM.out.1,by omega,HM.out.2.2⟩;have KD:=h_ (does_l (hC.below hb2) hgd HG HTS y q0 HNy);clear hC hb2 hgd;go_wp2_with (with_reducible first|refine qey_ rfl _ rfl ab (ao+k*72) rfl y q1 z1 ?_|refine qnm_ rfl _ _ rfl _ _ y rfl rfl rfl z2 hnew z0 ?_|refine ac_load rfl _ rfl _ rfl y hY z2 ?_)
   refine KD.out.mono ?_;rintro e v6 ⟨rfl,L',hC⟩;have HM7:Hid (Ok r (actM r M y)/\(actM r M y).length<=k+1+1/\Mk.Good (actM r M y).length (actS M S y)):=h_ (act_gd HM.out.1 HM.out.2.1 HM.out.2.2 y q0);clear KD hY hnew z0 z1 z2 q1 HM;generalize World.setRow _ _ _=v5 at *;generalize actM r M y=M' at *;generalize actS M S y=S' at *;go_wp2_with fail
   go_roundw
   case rel=>exact ⟨k+1,M',S',L',by omega,by go_num,hC,HM7⟩
   case measure=>simp[intOf];omega
  ·obtain rfl:k=n:=by omega
   have hgd:Gd r M S:=⟨HM.out.1,by omega,HM.out.2.2⟩;clear HA hM9;clear hB;obtain ⟨tip,hL,hC⟩:=hC;obtain ⟨K,hK⟩:=qaej_ hgd;have hml:=hgd.2.1;obtain ⟨ex,_,hex,_,_⟩:=Ch.qay_ hL;obtain ⟨ey,_,hey,_,_⟩:=Ch.qay_ hK;obtain ⟨z,hz⟩:=Ar.ComI.ex hgd.1 (tip:Int) (tgt r M S:Int)
   obtain ⟨zn,em,rfl,hem,hall⟩:∃ (zn:Nat) (em:Ent),z=(zn:Int)/\M[zn]?=some em/\Ar.All M [(tip:Int),(tgt r M S:Int)] (zn:Int):=by
    rcases hz with ⟨_,h1,h2⟩|⟨h1,_⟩
    have h3:=(h2.1 (tip:Int) (by simp)).le hgd.1;obtain ⟨zn,rfl⟩:=Int.eq_ofNat_of_zero_le h3.1;exact ⟨zn,_,rfl,List.getElem?_eq_getElem (by omega),h2⟩
    ·exact absurd ⟨by simp,fun p hp=>by
      rcases List.mem_cons.1 hp with rfl|hp
      exact Ar.isP_of hex;obtain rfl:p=(tgt r M S:Int):=(by simpa using hp);exact Ar.isP_of hey⟩ h1
   have h1:=Ch.mid_lcp hgd.1 hL hK hall hem;have h2:=hL.len hgd.1 hex;have h3:=hK.len hgd.1 hey;have h4:=Ch.lcp_le L K;have h5:=Mk.qep_ hgd.1 hL;have h6:=Mk.qep_ hgd.1 hK;obtain ⟨hx,hhx⟩:∃ q,q=ex.hs.length:=⟨_,rfl⟩;obtain ⟨hy,hhy⟩:∃ q,q=ey.hs.length:=⟨_,rfl⟩;obtain ⟨hm,hhm⟩:∃ q,q=em.hs.length:=⟨_,rfl⟩;rw[<-hhm] at h1;rw[<-hhx] at h2;rw[<-hhy] at h3
   have hn:((Ch.cnt K L:Int)==IntKind.i64.wrap (IntKind.i64.wrap (IntKind.i64.wrap ((hx:Int) - (hm:Int))+(hy:Int)) - (hm:Int)))=true:=by
    rw[beq_iff_eq];unfold Ch.cnt;rw[IntKind.wrap_i64,IntKind.wrap_i64,IntKind.wrap_i64];omega
   have HX:Hid ((enOf r ex).ht=(hx:Int)):=h_ (by rw[hhx];rfl);have HY:Hid ((enOf r ey).ht=(hy:Int)):=h_ (by rw[hhy];rfl);have HMd:Hid ((enOf r em).ht=(hm:Int)):=h_ (by rw[hhm];rfl);have HN2:=h_ hn;have HML:=h_ hml;clear h1 h2 h3 h4 h5 h6 hhx hhy hhm hn hall hml;go_wp2_with fail
   refine wp_tab (fun _ _ w'=>CCo v2 w' r bb cb mr bt mb mg bm rb [] M M S S tip L) 99 99 [3,4,8,9] [pp_ bb,pp_ bb,pp_ bb,pp_ cb,i_ tip,pp_ bb,pp_ bb,pp_ bb,pp_ cb,i_ (tgt r M S:Int),i_ tip,i_ (tgt r M S:Int)] (hC.below (br_.drew)) ⟨fun _ _ _ _ _ hC=>.val (qe_ rfl rfl (ld_chp hC.b0)) hC,fun _ _ _ _ _ hC=>.call ((ctip_w hC.c2).mono fun _ _ h=>⟨h.1,hC.below h.2⟩),fun _ _ _ _ _ hC=>.val (qe_ rfl rfl (ld_chp hC.b0)) hC,fun _ _ _ _ _ hC=>.call ((qjr_ hC hgd).mono fun _ _ h=>⟨h.1,hC.below h.2⟩),trivial⟩ ?_;clear hC;intro v5 hC;simp only[finT,List.set_cons_zero,List.set_cons_succ,List.tail_cons,List.headD_cons];have c0:=hC.b0;obtain ⟨t,ht⟩:∃ t,t=tgt r M S:=⟨_,rfl⟩;rw[<-ht] at hK hey hz |-;have HTG:=h_ ht;clear ht;go_wp2_with fail
   refine (qaef_ hC.c0).mono ?_;rintro e v6 ⟨rfl,hb⟩;replace hC:=hC.below hb;clear hb c0;go_wp2_with fail
   have hb:Bl v6 (v6.alloc (.cells #[i_ tip,i_ t] 3)):=ba_;have hA:=Has.new (w:=v6) #[i_ tip,i_ t] 3;replace hC:=hC.below hb;generalize v6.alloc (.cells #[i_ tip,i_ t] 3)=v7 at *;clear hb
   refine (qaca_ hC hgd.1 (Nat.le_trans HML.out (by decide)) _ 2 2 [(tip:Int),(t:Int)] rfl (by decide) (lo:=0) (Has.lt hA) (qpx_ fun k y hk=>by
    rw[Has.cell hA k];match k,hk with
    | 0,hk=>cases hk;rfl
    | 1,hk=>cases hk;rfl
    | k+2,hk=>simp at hk) (zn:Int) hz).mono ?_
   rintro e v8 ⟨rfl,hb⟩;replace hC:=hC.below hb;clear hb hA hz;go_wp2_with fail
   refine (co_at hC hem).mono ?_;rintro e v9a ⟨rfl,hb⟩;replace hC:=hC.below hb;clear hb;have ze:=qm_ (hC.enok hem);have z0:=qm_ enZ_ok;have hnew:=qbm_ v9a;have hE1:=qcs_ v9a (enOf r em);have hb3:=qbp_ v9a 60 Tryz.zeroCells60 (enA (enOf r em));obtain ⟨gm,hblk⟩:∃ x,x=v9a.heap.size:=⟨_,rfl⟩;go_upto_region 1 with (with_reducible refine qba_ rfl _ _ rfl _ _ (enOf r em) rfl rfl rfl ze hnew z0 ?_)
   replace hC:=hC.put hb3 (Nat.le_refl _) hE1 (by decide) (by decide);rw[<-hblk] at hC |-;generalize World.setRow _ _ _=v9 at *;clear hb3 hnew hE1 ze z0 hblk;go_wp2_with fail
   refine (co_at hC hex).mono ?_;rintro e u9a ⟨rfl,hb⟩;replace hC:=hC.below hb;clear hb;have ze:=qm_ (hC.enok hex);have z0:=qm_ enZ_ok;have hnew:=qbm_ u9a;have hE1:=qcs_ u9a (enOf r ex);have hb3:=qbp_ u9a 60 Tryz.zeroCells60 (enA (enOf r ex));obtain ⟨gx,hblk⟩:∃ x,x=u9a.heap.size:=⟨_,rfl⟩;go_upto_region 1 with (with_reducible refine qba_ rfl _ _ rfl _ _ (enOf r ex) rfl rfl rfl ze hnew z0 ?_)
   replace hC:=hC.put hb3 (Nat.le_refl _) hE1 (by decide) (by decide);rw[<-hblk] at hC |-;generalize World.setRow _ _ _=u9 at *;clear hb3 hnew hE1 ze z0 hblk;go_wp2_with fail
   refine (co_at hC hey).mono ?_;rintro e x9a ⟨rfl,hb⟩;replace hC:=hC.below hb;clear hb;have ze:=qm_ (hC.enok hey);have z0:=qm_ enZ_ok;have hnew:=qbm_ x9a;have hE1:=qcs_ x9a (enOf r ey);have hb3:=qbp_ x9a 60 Tryz.zeroCells60 (enA (enOf r ey));obtain ⟨gy,hblk⟩:∃ x,x=x9a.heap.size:=⟨_,rfl⟩;go_upto_region 1 with (with_reducible refine qba_ rfl _ _ rfl _ _ (enOf r ey) rfl rfl rfl ze hnew z0 ?_)
   replace hC:=hC.put hb3 (Nat.le_refl _) hE1 (by decide) (by decide);rw[<-hblk] at hC |-;generalize World.setRow _ _ _=x9 at *;clear hb3 hnew hE1 ze z0 hblk;have q1:=hC.enok hex;have q2:=hC.enok hey;have q3:=hC.enok hem;go_wp2_with fail
   refine wp_tab (fun b1 _ w'=>CCo v2 w' r bb cb mr bt mb mg bm rb [(gy,enA (enOf r ey),60),(gx,enA (enOf r ex),60),(gm,enA (enOf r em),60)] M M S S (bif b1 then t else tip) L) 4 99 [3,4,6,8,11,14,16,21,22,24] [pp_ bb,pp_ bb,pp_ bb,pp_ cb,i_ (Ch.cnt K L:Int),.pointer (some ⟨gx,101,none⟩),i_ hx,.pointer (some ⟨gm,101,none⟩),i_ hm,i_ (IntKind.i64.wrap ((hx:Int) - (hm:Int))),.pointer (some ⟨gy,101,none⟩),i_ hy,i_ (IntKind.i64.wrap (IntKind.i64.wrap ((hx:Int) - (hm:Int))+(hy:Int))),.pointer (some ⟨gm,101,none⟩),i_ hm,i_ (IntKind.i64.wrap (IntKind.i64.wrap (IntKind.i64.wrap ((hx:Int) - (hm:Int))+(hy:Int)) - (hm:Int))),.bool true,.bool true,pp_ bb,pp_ bb,pp_ bb,pp_ cb,i_ t,i_ t,.bool true,.bool true,.bool true] (hC.below (br_.drew))
    ⟨fun _ _ _ _ _ hC=>.val (qe_ rfl rfl (ld_chp hC.b0)) hC,fun b1 _ w' f1 _ hC=>?_,fun _ _ _ _ _ hC=>.val (qe_ rfl rfl (ld_i (EnAt.ht (hC.has (List.mem_of_getElem? (i:=1) rfl)) q1 HX))) hC,fun _ _ _ _ _ hC=>.val (qe_ rfl rfl (ld_i (EnAt.ht (hC.has (List.mem_of_getElem? (i:=2) rfl)) q3 HMd))) hC,fun _ _ _ _ _ hC=>.val (qe_ rfl rfl (ld_i (EnAt.ht (hC.has (List.mem_of_getElem? (i:=0) rfl)) q2 HY))) hC,fun _ _ _ _ _ hC=>.val (qe_ rfl rfl (ld_i (EnAt.ht (hC.has (List.mem_of_getElem? (i:=2) rfl)) q3 HMd))) hC,fun _ _ _ _ _ hC=>.val (ex_eqi rfl rfl rfl HN2.out) hC,fun _ _ _ _ _ hC=>.val (qe_ rfl rfl (ld_chp hC.b0)) hC,fun b1 _ w' f1 _ hC=>?_,fun _ _ _ _ _ hC=>.val (ex_eqi rfl rfl rfl (by simp)) hC,trivial⟩ ?_
   ·obtain rfl:=f1.no (by kernel_rfl);have hK2:=hK;rw[HTG.out] at hK2;refine .call ((qpy_ (show CCo v2 w' r bb cb mr bt mb mg bm rb [(gy,enA (enOf r ey),60),(gx,enA (enOf r ex),60),(gm,enA (enOf r em),60)] M M S S tip L from hC) hgd hL hK2).mono fun _ _ h=>⟨h.1,?_⟩);rw[<-HTG.out] at h;exact h.2
   ·obtain rfl:=f1.yes (by kernel_rfl);exact .call ((ctip_w (show CCo v2 w' r bb cb mr bt mb mg bm rb [(gy,enA (enOf r ey),60),(gx,enA (enOf r ex),60),(gm,enA (enOf r em),60)] M M S S t L from hC).c2).mono fun _ _ h=>⟨h.1,CCo.below hC h.2⟩)
   intro v12 hC;have HB:=h_ (HBS.out.trans ((CCo.bel hC).mono HBS.out.size));clear hC;simp only[finT,List.set_cons_zero,List.set_cons_succ,List.tail_cons,List.headD_cons];go_wp2_with fail
   go_ret;exact ⟨rfl,HB.out⟩
theorem qaci_ (p:NN.Pr) (hp:p.ok) (h1:p.one) (t:Tl) (tt:p.tl=t.C) (ht:t.ok) (gs:List Gt) (cs:List Ck) (hgn:t.gn=gs.length) (hcn:t.cn=cs.length) (a:Option Addr) (ls:List Ac) (n c:Nat) (hn:n=ls.length) (hl:n<=4611686018427387904) (hnow:∀ x ∈ ls,-9223372036854775808<=x.now/\x.now<=9223372036854775807) (w:World) (hT:Tab w) (hA:ActsAt w a ls) (hG:GatesAt w t.ga gs) (hC:ChecksAt w t.ca cs) :
  Ca_ 6 #[.agg (NN.prA p),.slice a n c] w (.bool true):=by
 have KA:HK_ w 9 #[] (.bool true):=h_ fun w' hb=>alive17 w' (hT.below hb)
 have KG:∀ g,grt16 p t gs cs ls=g->HK_ w 10 #[.agg (NN.prA p),.slice a n c] (.bool g):=fun g hg=>h_ fun w' hb=>qajd_ p hp t tt ht gs cs hgn hcn ls n a c hn hl g hg w' (hA.below hb) (hG.below hb) (hC.below hb)
 cases hg:grt16 p t gs cs ls
 ·have KG1:=KG false hg;unfold grt16 grtA at hg;simp only[Bool.or_eq_false_iff,decide_eq_false_iff_not,Bool.not_eq_false'] at hg;obtain ⟨⟨⟨⟨hg0,hg1⟩,hg2⟩,hg3⟩,hr⟩:=hg
  have hiv:2<=p.ivl:=by
   unfold ruleP NN.Pr.good at hr;simp only[Bool.and_eq_true,decide_eq_true_eq] at hr;exact hr.1.1.1.1.1.1.1.1.2
  have HA:=h_ fun w' (hb:Bl w w')=>hA.below hb
  have HT:=h_ fun w' (hb:Bl w w')=>hT.below hb
  have HGG:Hid (gs.length<=1000/\cs.length<=1000/\2<=p.ivl):=h_ ⟨by omega,by omega,hiv⟩;have KS:=h_ fun w' (hb:Bl w w')=>qajq_ p hp h1 t tt ht gs cs hgn hcn (by omega) (by omega) hr w' (hT.below hb) (hG.below hb) (hC.below hb)
  exact qach_ p hp ⟨p,t.g,gs,cs,100⟩ a n c w ls HA (h_ hn) (by omega) HT HGG (h_ hnow) KA KG1 KS
 have KG1:=KG true hg;exact qxk_ p hp a n c w KA KG1
end Go.Proofs.YtkbjaadjnbgfbaaGreatDoor.An
