import Derived.Test.YtbgjiplfaolpjaaGreatDoorUIdm
import Derived.Test.YtbgjiplfaolpjaaGreatDoorUBunQ43
import Derived.Deep.CutBlock
set_option maxRecDepth 100000
set_option maxHeartbeats 4000000
namespace Go.Proofs.YtbgjiplfaolpjaaGreatDoor.An
open Go.RowKit Mem Sc
open Ar (Ent Ru entZ Ok isP)
set_option maxRecDepth 100000
theorem qzp_ {w0 w1 w2 w3:World} {F:Nat->Prop} {bt bm s:Nat} {r:Ru} (hB0:Below w0.heap.size w0 w1) (hS:TrS w1 F bt r [entZ] [-1]) (hF:∀ i,F i->w0.heap.size<=i) (hR:RfS w2 w0.heap.size (fun i=>w1.heap.size<=i/\i<w2.heap.size) bm r [entZ]) (hb12:Below w1.heap.size w1 w2) (hs:w2.heap.size<=s) (hT:SetS w3 (fun i=>i=s) s (some ⟨bt,0,none⟩) []) (hb23:Below w2.heap.size w2 w3):Core w0 (w3.alloc (.cells (mkB []) 4)) r bt bm s w3.heap.size none [entZ] [entZ] [] []:=by
 have hb3:Below w3.heap.size w3 (w3.alloc (.cells (mkB []) 4)):=(Below.refl _ _).alloc (Nat.le_refl _) _
 have l1:=hB0.size
 have l2:=hb12.size
 have l3:=hb23.size
 have lf:=hS.1
 have ls:=hT.1 s rfl
 refine ⟨⟨F,_,_,⟨[-1],((hS.below hb12).below hb23).below hb3,rfl⟩,(hR.below hb23).below hb3,hT.below hb3,Has.new _ _,by omega,fun i hi=>?_,fun i hi=>?_,fun i hi=>?_,fun p hp=>by cases hp⟩,((hB0.trans (hb12.mono l1)).trans (hb23.mono (by omega))).trans (hb3.mono (by omega))⟩
 ·have:=lf i hi
  exact ⟨hF i hi,fun hh=>by omega,fun hh=>by omega,by omega⟩
 ·exact ⟨fun hh=>by omega,by omega⟩
 ·exact ⟨by omega,by omega⟩
theorem qbs_ (w:World) (x:Int):(Instr.buildSlice 49 1 #[(0,.int .i64 x)]).run Tryz.prog w = .ok (.slice (some ⟨w.heap.size,0,none⟩) 1 1) (w.alloc (.cells #[.int .i64 x] 3)):=by kernel_rfl
theorem qao_ {r:Ru} {M:List Ent} {l:List Nat} (hI:InS r M l) {z:Int} (h:isIn l z=true\/¬(0<=z/\z<(M.length:Int))):putI r M l z=l:=by
 unfold putI
 rcases h with h|h
 ·rw[if_pos h]
 ·rw[if_neg (by rw[qmq_ hI h];simp),if_neg h]
theorem qos_ {r:Ru} {M:List Ent} {l:List Nat} {z:Int} (h:isIn l z=false):dropI r M l z=l:=by
 unfold dropI
 rw[if_neg (by rw[h];simp)]
theorem qqk_ (p:NN.Pr) (hp:p.ok) (a:Option Addr) (n c:Nat) (w:World) (KA:HK_ w 6 #[] (.bool true)) (KG:HK_ w 7 #[.agg (NN.prA p),.slice a n c] (.bool true)) :
  Ca_ 3 #[.agg (NN.prA p),.slice a n c] w (.bool true):=by
 have hz:=NN.qba_ hp
 go_enter Tryz.func3,Tryz.ntmps3
 go_upto_region 1 with fail
 generalize hw0:World.alloc _ _=v0
 have hB:Below w.heap.size w v0:=bl_ hw0
 have hP:NN.PrAt v0 w.heap.size p:=by rw[<-hw0];exact NN.Has.new _ _
 clear hw0
 obtain ⟨bP,hbP⟩:∃ x,x=w.heap.size:=⟨_,rfl⟩
 rw[<-hbP] at hP |-
 have HBP:Hid (bP=w.heap.size):=h_ hbP
 clear hbP
 go_wp2_with (first|fail)
 refine (KA.out _ hB).mono ?_
 rintro e v1 ⟨rfl,hb⟩
 replace hP:=hP.on hb
 replace hB:=tb_ hB hb
 clear hb
 go_wp2_with (with_reducible first|refine NN.qq_ rfl _ rfl _ rfl hP hz ?_|refine NN.qm_ (by with_unfolding_all rfl) _ rfl _ rfl hP hz ?_)
 refine (KG.out _ hB).mono ?_
 rintro e v2 ⟨rfl,hb⟩
 replace hP:=hP.on hb
 replace hB:=tb_ hB hb
 clear hb
 go_wp2_with fail
 go_ret
 exact ⟨rfl,hB⟩
set_option maxHeartbeats 8000000 in
theorem qvk_ (p:NN.Pr) (hp:p.ok) (r:Ru) (a:Option Addr) (n c:Nat) (w:World) (ls:List Ac) (HA:Hid (∀w',Below w.heap.size w w'->ActsAt w' a ls)) (HN:Hid (n=ls.length)) (hn40:n<=40) (HT:Hid (∀w',Below w.heap.size w w'->Tab w')) (HG:Hid (r.gs.length<=1000/\r.cs.length<=1000/\2<=r.p.ivl)) (HNW:Hid (∀x ∈ ls,-9223372036854775808<=x.now/\x.now<=9223372036854775807)) (KA:HK_ w 6 #[] (.bool true)) (KG:HK_ w 7 #[.agg (NN.prA p),.slice a n c] (.bool false)) (KN:Hid (∀w',Below w.heap.size w w'->Calls Tryz.prog 8 #[.agg (NN.prA p),.int .i64 100] w' fun e w''=>∃ b F,e = .returned (.tuple #[.pointer (some ⟨b,0,none⟩),.int .i64 0])/\TrS w'' F b r [entZ] [-1]/\(∀i,F i->w'.heap.size<=i)/\Below w'.heap.size w' w'')) (KF:Hid (∀w',Below w.heap.size w w'->Calls Tryz.prog 9 #[.agg (NN.prA p),.int .i64 100] w' fun e w''=>∃ b,e = .returned (.pointer (some ⟨b,0,none⟩))/\RfS w'' w.heap.size (fun i=>w'.heap.size<=i/\i<w''.heap.size) b r [entZ]/\Below w'.heap.size w' w'')) :
  Ca_ 3 #[.agg (NN.prA p),.slice a n c] w (.bool true):=by
 have hz:=NN.qba_ hp
 go_enter Tryz.func3,Tryz.ntmps3
 go_upto_region 1 with fail
 generalize hw0:World.alloc _ _=v0
 have hB:Below w.heap.size w v0:=bl_ hw0
 have hP:NN.PrAt v0 w.heap.size p:=by rw[<-hw0];exact NN.Has.new _ _
 clear hw0
 obtain ⟨bP,hbP⟩:∃ x,x=w.heap.size:=⟨_,rfl⟩
 rw[<-hbP] at hP |-
 have HBP:Hid (bP=w.heap.size):=h_ hbP
 clear hbP
 go_wp2_with (first|fail)
 refine (KA.out _ hB).mono ?_
 rintro e v1 ⟨rfl,hb⟩
 replace hP:=hP.on hb
 replace hB:=tb_ hB hb
 clear hb
 go_wp2_with (with_reducible first|refine NN.qq_ rfl _ rfl _ rfl hP hz ?_|refine NN.qm_ (by with_unfolding_all rfl) _ rfl _ rfl hP hz ?_)
 refine (KG.out _ hB).mono ?_
 rintro e v2 ⟨rfl,hb⟩
 replace hP:=hP.on hb
 replace hB:=tb_ hB hb
 clear hb
 go_wp2_with (first|fail|(with_reducible refine NN.qq_ rfl _ rfl _ rfl hP hz ?_))
 refine (KN.out _ hB).mono ?_
 rintro e v3 ⟨bt,F,rfl,hS,hF,hb⟩
 have HF0:∀ i,F i->w.heap.size<=i:=fun i hi=>Nat.le_trans hB.size (hF i hi)
 replace hP:=hP.on hb
 replace hB:=tb_ hB hb
 have HS:=h_ hS
 have HF:=h_ HF0
 clear hb hF HF0 hS
 go_wp2_with (first|fail|(with_reducible refine NN.qq_ rfl _ rfl _ rfl hP hz ?_))
 refine (KF.out _ hB).mono ?_
 rintro e v4 ⟨bm,rfl,hR,hb4⟩
 have HR:=h_ hR
 have HB3:=h_ hB
 have HB4:=h_ hb4
 clear hR hb4 hB hP
 go_wp2_with fail
 refine (qvc_ (some ⟨bt,0,none⟩) v4).mono ?_
 rintro e v5 ⟨s,rfl,hs,hT,hb5⟩
 have hC:=qzp_ HB3.out HS.out HF.out HR.out HB4.out hs hT hb5
 have hmk:=mkIn
 have HC:=h_ hC
 clear hs hT hb5 hC HB3 HB4 HR HF HS
 go_wp2_with fail
 obtain ⟨bi,hbi⟩:∃ bi,bi=v5.heap.size:=⟨_,rfl⟩
 rw[<-hbi] at HC |-
 have hC:=HC.out
 clear hbi HC hmk
 generalize World.alloc v5 _=v6 at *
 go_loopw [38] (fun u wr=>∃ (k:Nat) (M:List Ent) (l:List Nat),k<=n/\u = .int .i64 (k:Int)/\Core w wr r bt bm s bi none M M l l/\Hid (Ok r M/\M.length<=k+1/\InS r M l)) (fun u _=>n - (intOf u).toNat)
 case atStart=>exact ⟨0,[entZ],[],by omega,rfl,hC,h_ ⟨Ok.one r,Nat.le_refl _,InS.nil r _⟩⟩
 case round=>
  clear hC
  obtain ⟨k,M,l,hk,rfl,hC,HM⟩:=hrel
  by_cases hlt:k<n
  ·have hM9:M.length<=50:=by have:=HM.out.2.1;omega
   obtain ⟨ab,ao,hae,habl,hc⟩:=(HA.out _ hC.bel) (by rw[<-HN.out];omega)
   subst hae
   have hk2:k<ls.length:=by rw[<-HN.out];exact hlt
   obtain ⟨q0,q1⟩:=hc k hk2
   have HNy:=h_ (HNW.out _ (List.getElem_mem hk2))
   clear hc
   generalize ls[k]=y at *
   clear hk2
   have z1:=qgy_ q0
   have z2:=qjb_ q0
   have z0:=qjb_ (c:=acZ) hdZ_ok
   have zy:=qk_ q0
   have hb2:Below wr.heap.size wr ((wr.alloc (.cells Tryz.zeroCells46 46)).setRow wr.heap.size (acA y)):=below_setRow ((Below.refl _ _).alloc (Nat.le_refl _) _) (Nat.le_refl _) _
   have hnew:=quu_ wr
   obtain ⟨bx,hbx⟩:∃ bx,bx=wr.heap.size:=⟨_,rfl⟩
   have hC2:=hC.box hb2 hbx (by rw[hbx];exact qabc_ wr y)
   have HC2:=h_ hC2
   have HBX:=h_ hbx
   clear hC hC2 hb2 hbx
   go_upto_region 12 with (with_reducible first|refine qez_ rfl _ rfl ab (ao+k*71) rfl y q1 z1 ?_|refine qmn_ rfl _ _ rfl _ _ y rfl rfl rfl z2 hnew z0 ?_)
   rw[<-HBX.out] at HC2 |-
   dsimp only[Act.put]
   have hC:=HC2.out
   generalize World.setRow _ _ _=v7 at *
   clear HC2 HBX hnew z0 z1 z2 q1
   obtain ⟨is,his⟩:∃ is,is=decide (0<=y.n/\y.n<(M.length:Int)):=⟨_,rfl⟩
   have HIS:=h_ his
   have HCX:=h_ hC
   obtain ⟨aL,cL,hL⟩:=hC.list
   have c83:=hL _ (Below.refl _ _)
   have c70:=hC.act.num q0
   have hvv:=Below.refl v7.heap.size v7
   clear hC hL his
   generalize hyn:y.n=N at *
   generalize hml:(M.length:Nat)=m at *
   have HYN:=h_ hyn
   have HML:=h_ hml
   clear hyn hml
   go_cut [12,38] from 42 to 54 (fun v u wx=>v = .bool is/\u = .int .i64 (k:Int)/\Below v7.heap.size v7 wx)
   case first=>
    have q83:∀ d os,(Sort.grow (redrawn v7 d) os).cell? ⟨bm,83,none⟩=some (.slice aL m cL):=cell_regrown c83
    have q70:∀ d os,(Sort.grow (redrawn v7 d) os).cell? ⟨bx,70,none⟩=some (.int .i64 N):=cell_regrown c70
    clear c83 c70
    by_cases h0:0<=N
    ·have d0:decide (0<=N)=true:=decide_eq_true h0
     have d1:decide (N<(m:Int))=is:=by rw[HIS.out];exact decide_eq_decide.2 ⟨fun h=>⟨h0,h⟩,fun h=>h.2⟩
     refine wp_region_quiet_below (by kernel_rfl) (by kernel_rfl) ?_
     repeat (first|go_big_quiet_step (fail))
     refine wpQuiet_nil ?_
     intro v20 hw'
     have hb:=qo_ v20 hw'
     clear hw'
     go_wp2_with fail
     go_meet
     case rel=>exact ⟨rfl,rfl,hb⟩
    ·have d0:decide (0<=N)=false:=decide_eq_false h0
     obtain rfl:is=false:=by rw[HIS.out];exact decide_eq_false fun h=>h0 h.1
     refine wp_region_quiet_below (by kernel_rfl) (by kernel_rfl) ?_
     repeat (first|go_big_quiet_step (fail))
     refine wpQuiet_nil ?_
     intro v20 hw'
     have hb:=qo_ v20 hw'
     clear hw'
     go_wp2_with fail
     go_meet
     case rel=>exact ⟨rfl,rfl,hb⟩
   case rest=>
   obtain ⟨rfl,rfl,hb⟩:=hcut
   replace hC:=HCX.out.below hb
   clear hb c83 c70 hvv HCX
   rename World=>v8
   have c0:=hC.act.kind
   go_upto_block 2 with fail
   have HC:=h_ hC
   clear hC
   generalize hkd:y.kind=kd at *
   clear hkd
   have HF0:Hid (is=false->isIn l N=false):=h_ fun e=>qmq_ HM.out.2.2 (by rw[HML.out];exact of_decide_eq_false (HIS.out.symm.trans e))
   go_cut [13,14,38] from 55 to 143 (fun g1 g2 u wx=>∃ (g:Int) (M':List Ent) (l':List Nat),g1 = .int .i64 g/\g2 = .int .i64 g/\u = .int .i64 (k:Int)/\Core w wx r bt bm s bi (some (bx,y)) M' M' l' l'/\Hid (Ok r M'/\M'.length<=k+1+1/\InS r M' l'/\(is=false->isIn l' N=false)))
   case first=>
    by_cases e0:kd=0
    ·subst e0
     have cn:=HC.out.act.now q0
     have rh:=HC.out.act.head
     have KAdd:=h_ (qzi_ HC.out HM.out.1 (by rw[HML.out];omega) HG.out.1 HG.out.2.1 (HT.out _ HC.out.bel) y.h q0 y.now)
     clear HC
     go_wp2_with (first|fail|(with_reducible refine qag_ rfl _ rfl _ 1 rfl y.h rh zy ?_))
     refine KAdd.out.mono ?_
     rintro e v9 ⟨rfl,hC9⟩
     clear KAdd cn rh
     have cn:=hC9.act.now q0
     have rh:=hC9.act.head
     have KAdd:=h_ (qzj_ hC9 HM.out.1 (by rw[HML.out];omega) HG.out.1 HG.out.2.1 HG.out.2.2 y.h q0 y.now HNy.out.1 HNy.out.2)
     clear hC9
     go_wp2_with (first|fail|(with_reducible refine qag_ rfl _ rfl _ 1 rfl y.h rh zy ?_))
     refine KAdd.out.mono ?_
     rintro e v10 ⟨rfl,hC10⟩
     clear KAdd cn rh
     go_wp2_with fail
     go_meet
     case rel=>
      refine ⟨0,_,l,rfl,rfl,rfl,hC10,h_ ⟨HM.out.1.add q0 _,?_,HM.out.2.2.add _ _,HF0.out⟩⟩
      have:=qagi_ r M y.h y.now
      have:=HM.out.2.1
      have:=HML.out
      omega
    have f0:(kd==0)=false:=by simpa using e0
    by_cases e1:kd=1
    ·subst e1
     have c70:=HC.out.act.num q0
     rw[HYN.out] at c70
     have hmk:=fun w=>qbs_ w N
     have KP:=qagk_ HC.out HM.out.2.2 (by rw[HML.out];omega) N
     cases is
     ·rw[qao_ HM.out.2.2 (.inr (by rw[HML.out];exact of_decide_eq_false HIS.out.symm)),Int.sub_self] at KP
      have KP:=h_ KP
      clear HC
      go_wp2_with fail
      refine KP.out.mono ?_
      rintro e v9 ⟨rfl,hC9,_⟩
      clear KP c70 hmk
      go_wp2_with fail
      go_meet
      case rel=>exact ⟨0,M,l,rfl,rfl,rfl,hC9,h_ ⟨HM.out.1,by have:=HM.out.2.1;rw[HML.out];omega,HM.out.2.2,HF0.out⟩⟩
     ·have hp:0<=N/\N<(m:Int):=of_decide_eq_true HIS.out.symm
      obtain ⟨Nn,rfl⟩:=Int.eq_ofNat_of_zero_le hp.1
      have hN1:Nn<100:=by omega
      have hN2:Nn<M.length:=by rw[HML.out];omega
      have dd:decide ((100:Int)<=(Nn:Int))=false:=decide_eq_false (by omega)
      clear hp
      have hl:=put_len (r:=r) (M:=M) (l:=l) (Nn:Int)
      rw[qcl_] at hl
      cases hm:decide (Nn ∈ l)
      ·rw[hm,if_neg (by simp),if_pos ⟨by omega,by omega⟩] at hl
       rw[hl] at KP
       have KP:=h_ KP
       have HMm:=h_ hm
       clear HC hl hm
       go_wp2_with fail
       refine KP.out.mono ?_
       rintro e v9 ⟨rfl,hC9,hI9⟩
       clear KP c70 hmk
       have c70:=hC9.act.num q0
       rw[HYN.out] at c70
       have cM:=hC9.is hN1
       rw[HMm.out] at cM
       have cF:=hC9.free Nn
       have HC9:=h_ hC9
       have HI9:=h_ hI9
       clear hC9 hI9
       go_wp2_with fail
       go_meet
       case rel=>exact ⟨1,M,_,rfl,rfl,rfl,HC9.out.mark Nn true (fun j _=>qzo_ hN2 j),h_ ⟨HM.out.1,by have:=HM.out.2.1;rw[HML.out];omega,HI9.out,fun e=>by cases e⟩⟩
      ·rw[hm,if_pos (by simp)] at hl
       rw[hl,qao_ HM.out.2.2 (.inl (by rw[qcl_];exact hm))] at KP
       have KP:=h_ KP
       have HMm:=h_ hm
       clear HC hl hm
       go_wp2_with fail
       refine KP.out.mono ?_
       rintro e v9 ⟨rfl,hC9,_⟩
       clear KP c70 hmk
       have c70:=hC9.act.num q0
       rw[HYN.out] at c70
       have cM:=hC9.is hN1
       rw[HMm.out] at cM
       have HC9:=h_ hC9
       clear hC9
       go_wp2_with fail
       go_meet
       case rel=>exact ⟨0,M,l,rfl,rfl,rfl,HC9.out,h_ ⟨HM.out.1,by have:=HM.out.2.1;rw[HML.out];omega,HM.out.2.2,HF0.out⟩⟩
    have f1:(kd==1)=false:=by simpa using e1
    by_cases e2:kd=2
    ·subst e2
     have c70:=HC.out.act.num q0
     rw[HYN.out] at c70
     have hmk:=fun w=>qbs_ w N
     have KP:=qzk_ HC.out HM.out.2.2 (by rw[HML.out];omega) N
     have hl:=qagq_ HM.out.2.2 N
     rw[hl] at KP
     clear hl
     cases is
     ·rw[qos_ (HF0.out rfl),HF0.out rfl,if_neg (by simp)] at KP
      have KP:=h_ KP
      clear HC
      go_wp2_with fail
      refine KP.out.mono ?_
      rintro e v9 ⟨rfl,hC9,_⟩
      clear KP c70 hmk
      go_wp2_with fail
      go_meet
      case rel=>exact ⟨0,M,l,rfl,rfl,rfl,hC9,h_ ⟨HM.out.1,by have:=HM.out.2.1;rw[HML.out];omega,HM.out.2.2,HF0.out⟩⟩
     ·have hp:0<=N/\N<(m:Int):=of_decide_eq_true HIS.out.symm
      obtain ⟨Nn,rfl⟩:=Int.eq_ofNat_of_zero_le hp.1
      have hN1:Nn<100:=by omega
      have dd:decide ((100:Int)<=(Nn:Int))=false:=decide_eq_false (by omega)
      clear hp
      cases hm:decide (Nn ∈ l)
      ·rw[qos_ (by rw[qcl_];exact hm),qcl_,hm,if_neg (by simp)] at KP
       have KP:=h_ KP
       have HMm:=h_ hm
       clear HC hm
       go_wp2_with fail
       refine KP.out.mono ?_
       rintro e v9 ⟨rfl,hC9,_⟩
       clear KP c70 hmk
       have c70:=hC9.act.num q0
       rw[HYN.out] at c70
       have cM:=hC9.is hN1
       rw[HMm.out] at cM
       have HC9:=h_ hC9
       clear hC9
       go_wp2_with fail
       go_meet
       case rel=>exact ⟨0,M,l,rfl,rfl,rfl,HC9.out,h_ ⟨HM.out.1,by have:=HM.out.2.1;rw[HML.out];omega,HM.out.2.2,fun e=>by cases e⟩⟩
      ·rw[qcl_,hm,if_pos (by simp)] at KP
       have KP:=h_ KP
       have HMm:=h_ hm
       clear HC hm
       go_wp2_with fail
       refine KP.out.mono ?_
       rintro e v9 ⟨rfl,hC9,hI9⟩
       clear KP c70 hmk
       have c70:=hC9.act.num q0
       rw[HYN.out] at c70
       have cM:=hC9.is hN1
       rw[HMm.out] at cM
       have cF:=hC9.free Nn
       have HC9:=h_ hC9
       have HI9:=h_ hI9
       clear hC9 hI9
       go_wp2_with fail
       go_meet
       case rel=>exact ⟨1,M,_,rfl,rfl,rfl,HC9.out.mark Nn false (fun j _=>qvj_ HM.out.2.2 j),h_ ⟨HM.out.1,by have:=HM.out.2.1;rw[HML.out];omega,HI9.out,fun e=>by cases e⟩⟩
    have f2:(kd==2)=false:=by simpa using e2
    by_cases e3:kd=3
    ·subst e3
     have KT:=qzl_ HC.out HM.out.2.2 (by rw[HML.out];omega) N
     obtain ⟨H,hH⟩:∃ H:Nat->Bool,H=fun j=>is && Hv r M N.toNat j:=⟨_,rfl⟩
     obtain ⟨t1,t2⟩:=tr_abv HM.out.2.2 N H (fun j=>by rw[hH,HIS.out,HML.out])
     have hab:=abv_le (r:=r) (M:=M) (l:=l) (x:=N)
     have t3:(l.length:Int) - (abv r M l N:Int)=((trC H M.length l:Nat):Int):=by rw[t2];omega
     rw[t3,<-t1,HML.out] at KT
     have hl5:l.length<=50:=by have:=HM.out.2.2.few;have:=HML.out;omega
     have c70:=HC.out.act.num q0
     rw[HYN.out] at c70
     have HH:=h_ hH
     have KT:=h_ KT
     clear t1 t2 t3 hab hH HC
     go_wp2_with fail
     refine KT.out.mono ?_
     rintro e v9 ⟨rfl,hC9,hI9⟩
     have HI9:=h_ hI9
     obtain ⟨aL,cL,hL⟩:=hC9.list
     have c83:=hL _ (Below.refl _ _)
     rw[HML.out] at c83
     clear KT c70 hI9 hL c0
     go_wp2_with fail
     go_loopw [13,121] (fun g u wr=>∃ q cq:Nat,q<=m/\cq<=50/\g = .int .i64 (cq:Int)/\u = .int .i64 (q:Int)/\Core w wr r bt bm s bi (some (bx,y)) M M (trL H m l) (trL H q l)/\Hid (cq=trC H q l)) (fun _ u _=>m - (intOf u).toNat)
     case atStart=>exact ⟨0,0,by omega,by omega,rfl,rfl,by rw[qago_];exact hC9,h_ (qagp_ H l).symm⟩
     case round=>
      clear hC9 c83
      obtain ⟨q,cq,hq,hcq,rfl,rfl,hC,HCQ⟩:=hrel
      by_cases hqm:q<m
      ·have hq1:q<100:=by omega
       have hq2:q<M.length:=by rw[HML.out];exact hqm
       have cM:=hC.is hq1
       rw[qzn_] at cM
       have dd:decide ((100:Int)<=(q:Int))=false:=decide_eq_false (by omega)
       have c70:=hC.act.num q0
       rw[HYN.out] at c70
       cases is
       ·have HS:=h_ (qor_ (H:=H) (k:=q) (l:=l) (fun _=>by rw[HH.out];rfl))
        have HC:=h_ hC
        clear hC
        generalize hgm:decide (q ∈ l)=gm at *
        clear hgm
        go_wp2_with fail
        go_roundw
        case rel=>exact ⟨q+1,cq,by omega,hcq,rfl,by go_num,by rw[HS.out.1];exact HC.out,h_ (by rw[HS.out.2];exact HCQ.out)⟩
        case measure=>simp[intOf];omega
       ·have hp:0<=N/\N<(m:Int):=of_decide_eq_true HIS.out.symm
        obtain ⟨Nn,rfl⟩:=Int.eq_ofNat_of_zero_le hp.1
        have hN2:Nn<M.length:=by rw[HML.out];omega
        have HHv:Hid (H q=Hv r M Nn q):=h_ (by rw[HH.out];simp)
        clear hp
        cases hm:decide (q ∈ l)
        ·have HS:=h_ (qor_ (H:=H) (k:=q) (l:=l) (fun hh=>absurd hh (of_decide_eq_false hm)))
         rw[hm] at cM
         have HC:=h_ hC
         clear hC hm
         go_wp2_with fail
         go_roundw
         case rel=>exact ⟨q+1,cq,by omega,hcq,rfl,by go_num,by rw[HS.out.1];exact HC.out,h_ (by rw[HS.out.2];exact HCQ.out)⟩
         case measure=>simp[intOf];omega
        ·rw[hm] at cM
         have hml2:q ∈ l:=of_decide_eq_true hm
         have KV:=h_ (qhc_ hC hN2 hq2)
         have HC:=h_ hC
         have HML2:=h_ hml2
         clear hC hm hml2
         generalize hgv:Hv r M Nn q=gv at *
         clear hgv
         go_wp2_with fail
         refine KV.out.mono ?_
         rintro e v20 ⟨rfl,hb⟩
         have hC:=HC.out.below hb
         have cF:=hC.free q
         have HC:=h_ hC
         clear hb KV cM c70 hC
         cases gv
         ·have HS:=h_ (qor_ (H:=H) (k:=q) (l:=l) (fun _=>HHv.out))
          go_wp2_with fail
          go_roundw
          case rel=>exact ⟨q+1,cq,by omega,hcq,rfl,by go_num,by rw[HS.out.1];exact HC.out,h_ (by rw[HS.out.2];exact HCQ.out)⟩
          case measure=>simp[intOf];omega
         ·have hcl:cq+1<=50:=by
           have h1:=qvi_ HHv.out (HM.out.2.2.srt.nodup (Hv_tot r M)) HML2.out
           have h2:trC H (q+1) l<=l.length:=List.length_filter_le _ _
           have:=HCQ.out
           omega
          have cM:=HC.out.is hq1
          go_wp2_with fail
          go_roundw
          case rel=>exact ⟨q+1,cq+1,by omega,hcl,by go_num,by go_num,HC.out.mark q false (fun j _=>trL_hit HHv.out j),h_ (by rw[qvi_ HHv.out (HM.out.2.2.srt.nodup (Hv_tot r M)) HML2.out,HCQ.out])⟩
          case measure=>simp[intOf];omega
      ·have hqe:q=m:=by omega
       subst hqe
       go_wp2_with fail
       go_meet
       case rel=>exact ⟨(cq:Int),M,trL H q l,rfl,by rw[HCQ.out],rfl,hC,h_ ⟨HM.out.1,by have:=HM.out.2.1;rw[HML.out];omega,HI9.out,fun e=>qmq_ HI9.out (by rw[HML.out];exact of_decide_eq_false (HIS.out.symm.trans e))⟩⟩
    have f3:(kd==3)=false:=by simpa using e3
    go_wp2_with fail
    go_meet
    case rel=>exact ⟨0,M,l,rfl,rfl,rfl,HC.out,h_ ⟨HM.out.1,by have:=HM.out.2.1;rw[HML.out];omega,HM.out.2.2,HF0.out⟩⟩
   case rest=>
   clear c0
   obtain ⟨g,M',l',rfl,rfl,rfl,hC,HM'⟩:=hcut
   have HB0:Hid (is=true->0<=N/\N<100):=h_ fun e=>by
    have hp:0<=N/\N<(m:Int):=of_decide_eq_true (HIS.out.symm.trans e)
    omega
   have hl5:l'.length<=50:=by have:=HM'.out.2.2.1.few;have:=HM'.out.2.1;omega
   have KS:=h_ (qqj_ hC HM'.out.2.2.1 (by have:=HM'.out.2.1;omega))
   have HC:=h_ hC
   clear hC HM HF0 HIS HML HNy
   go_wp2_with fail
   refine KS.out.mono ?_
   rintro e v10 ⟨vs,rfl,hr1,hb⟩
   obtain ⟨a1,c1,rfl,hC1⟩:=qbt_ hr1
   have hC:=HC.out.below hb
   have KAll:=h_ (qagl_ hC (by omega))
   have HC:=h_ hC
   have HC1:=h_ hC1
   clear KS hb hr1 hC1 hC
   obtain ⟨L,hL⟩:∃ L,L=l'.length:=⟨_,rfl⟩
   have hz1:=qaa_ l'
   rw[hz1,<-hL]
   have HL:=h_ hL
   have hL5:L<=50:=by omega
   clear hL hz1 hl5
   go_wp2_with fail
   refine KAll.out.mono ?_
   rintro e v11 ⟨va,rfl,hr2,hb⟩
   obtain ⟨a2,c2,rfl,hC2⟩:=qbt_ hr2
   have hC:=HC.out.below hb
   have hC1:=HC1.out.below hb
   have hz1:=qaa_ l'
   rw[hz1,<-HL.out]
   have HC:=h_ hC
   have HC1:=h_ hC1
   have HC2:=h_ hC2
   clear KAll hb hr2 hC2 hC hC1 hz1
   go_upto_if 151 with fail
   go_cut [18,38] from 152 to 154 (fun v u wx=>v = .int .i64 (bestI l')/\u = .int .i64 (k:Int)/\wx=v11)
   case first=>
    cases l' with
    | nil=>
     obtain rfl:L=0:=by rw[HL.out];rfl
     go_wp2_with fail
     go_meet
     case rel=>exact ⟨rfl,rfl,rfl⟩
    | cons x xs=>
     have dl:decide (0<(L:Int))=true:=decide_eq_true (by rw[HL.out];simp)
     have hL1:0<L:=by rw[HL.out];simp
     have dl2:decide ((L:Int)<=0)=false:=decide_eq_false (by omega)
     obtain ⟨g1,e1,d1⟩:=HC1.out 0 (by simp[zs])
     rw[zs_get] at d1
     subst e1
     have d2:v11.cell? ⟨g1,0,none⟩=some (.int .i64 (x:Int)):=d1
     clear d1
     go_wp2_with fail
     go_meet
     case rel=>exact ⟨rfl,rfl,rfl⟩
   case rest=>
   obtain ⟨rfl,rfl,rfl⟩:=hcut
   rename World=>v12
   have KL:=h_ fun (w':World) (hb:Below v12.heap.size v12 w')=>qagm_ (HC.out.below hb)
   have KB:=h_ fun (w':World) (hb:Below v12.heap.size v12 w')=>qzm_ (HC.out.below hb)
   have KH:=h_ fun (w':World) (hb:Below v12.heap.size v12 w')=>qagn_ (HC.out.below hb) HM'.out.2.2.1 (by have:=HM'.out.2.1;omega) N
   rw[<-HL.out] at KL
   generalize hbb:bestI l'=bb at *
   clear hbb
   have t1:(g != g)=false:=by simp
   have t2:((L:Int) != (L:Int))=false:=by simp
   have t3:(bb != bb)=false:=by simp
   go_upto_region 42 with fail
   go_cut [194,38] from 155 to 194 (fun v u wx=>v = .bool false/\u = .int .i64 (k:Int)/\Below v12.heap.size v12 wx)
   case first=>
    cases is
    ·rw[HM'.out.2.2.2 rfl] at KH
     go_wp2_with fail
     refine (KL.out _ (Below.refl _ _)).mono ?_
     rintro e v12 ⟨rfl,hb⟩
     go_wp2_with fail
     refine (KB.out _ hb).mono ?_
     rintro e v13 ⟨rfl,hb9⟩
     replace hb:=tb_ hb hb9
     clear hb9
     have c70:=(HC.out.below hb).act.num q0
     rw[HYN.out] at c70
     go_wp2_with fail
     refine (KH.out _ hb).mono ?_
     rintro e v14 ⟨rfl,hb9⟩
     replace hb:=tb_ hb hb9
     clear hb9 c70
     go_wp2_with fail
     go_meet
     case rel=>exact ⟨rfl,rfl,hb⟩
    ·obtain ⟨Nn,rfl⟩:=Int.eq_ofNat_of_zero_le (HB0.out rfl).1
     have hN1:Nn<100:=by have:=(HB0.out rfl).2;omega
     rw[qcl_] at KH
     have mn:min (Nn:Int) 99=(Nn:Int):=by omega
     have mx:max (Nn:Int) 0=(Nn:Int):=by omega
     have dd:decide ((100:Int)<=(Nn:Int))=false:=decide_eq_false (by omega)
     go_wp2_with fail
     refine (KL.out _ (Below.refl _ _)).mono ?_
     rintro e v12 ⟨rfl,hb⟩
     go_wp2_with fail
     refine (KB.out _ hb).mono ?_
     rintro e v13 ⟨rfl,hb9⟩
     replace hb:=tb_ hb hb9
     clear hb9
     have c70:=(HC.out.below hb).act.num q0
     rw[HYN.out] at c70
     go_wp2_with fail
     refine (KH.out _ hb).mono ?_
     rintro e v14 ⟨rfl,hb9⟩
     replace hb:=tb_ hb hb9
     have c70:=(HC.out.below hb).act.num q0
     rw[HYN.out] at c70
     have cM:=(HC.out.below hb).is hN1
     clear hb9 KL KB KH
     generalize hgm:decide (Nn ∈ l')=gm at *
     clear hgm
     have t4:(gm != gm)=false:=by simp
     go_wp2_with fail
     go_meet
     case rel=>exact ⟨rfl,rfl,hb⟩
   case rest=>
   obtain ⟨rfl,rfl,hb⟩:=hcut
   rename World=>v15
   have HRND:Hid (∀q,q<L->∃ (x:Int) (g1 g2:Nat),a1=some ⟨g1,0,none⟩/\a2=some ⟨g2,0,none⟩/\∀ w',Below v12.heap.size v12 w'->w'.cell? ⟨g1,q,none⟩=some (.int .i64 x)/\w'.cell? ⟨g2,q,none⟩=some (.int .i64 x)):=h_ fun q hq=>by
    have hz:=qaa_ l'
    obtain ⟨g1,e1,d1⟩:=HC1.out q (by rw[hz,<-HL.out];exact hq)
    obtain ⟨g2,e2,d2⟩:=HC2.out q (by rw[hz,<-HL.out];exact hq)
    exact ⟨_,g1,g2,e1,e2,fun w' hb'=>⟨(hb'.cell (block_lt_of_cell d1)).trans d1,(hb'.cell (block_lt_of_cell d2)).trans d2⟩⟩
   clear KL KB KH t1 t2 t3 HB0
   go_wp2_with fail
   go_loopw [197] (fun u wr=>∃ q:Nat,q<=L/\u = .int .i64 (q:Int)/\Below v12.heap.size v12 wr) (fun u _=>L - (intOf u).toNat)
   case atStart=>exact ⟨0,by omega,rfl,hb⟩
   case round=>
    clear hb
    obtain ⟨q,hq,rfl,hb⟩:=hrel
    by_cases hql:q<L
    ·obtain ⟨x,g1,g2,e1,e2,hc⟩:=HRND.out q hql
     subst e1
     subst e2
     obtain ⟨d1,d2⟩:=hc _ hb
     clear hc
     go_wp2_with fail
     have q1:∀ d os,(Sort.grow (redrawn wr d) os).cell? ⟨g1,q,none⟩=some (.int .i64 x):=cell_regrown d1
     have q2:∀ d os,(Sort.grow (redrawn wr d) os).cell? ⟨g2,q,none⟩=some (.int .i64 x):=cell_regrown d2
     have t4:(x != x)=false:=by simp
     clear d1 d2
     refine wp_region_quiet_below (by kernel_rfl) (by kernel_rfl) ?_
     repeat (first|go_big_quiet_step (fail))
     refine wpQuiet_nil ?_
     intro v20 hw'
     have hb20:=qo_ v20 hw'
     replace hb:=tb_ hb hb20
     clear hw' hb20 q1 q2 t4
     go_wp2_with fail
     go_roundw
     case rel=>exact ⟨q+1,by omega,by go_num,hb⟩
     case measure=>simp[intOf];omega
    ·have hqe:q=L:=by omega
     subst hqe
     have hC:=(HC.out.below hb).loose
     go_wp2_with fail
     go_roundw
     case rel=>exact ⟨k+1,M',l',by omega,by go_num,hC,h_ ⟨HM'.out.1,HM'.out.2.1,HM'.out.2.2.1⟩⟩
     case measure=>simp[intOf];omega
  ·obtain rfl:k=n:=by omega
   have hB:=hC.bel
   clear hC HM
   have hmk:=fun w=>qbs_ w 0
   go_wp2_with fail
   refine (put_nil _ _ _ _).mono ?_
   rintro e w1 ⟨rfl,hb⟩
   replace hB:=(hB.alloc hB.size _).trans (hb.mono (hB.alloc hB.size _).size)
   clear hb
   go_wp2_with fail
   refine (qagr_ _ _ _ _).mono ?_
   rintro e w2 ⟨rfl,hb⟩
   replace hB:=(hB.alloc hB.size _).trans (hb.mono (hB.alloc hB.size _).size)
   clear hb
   go_wp2_with fail
   refine (qags_ _ _).mono ?_
   rintro e w3 ⟨rfl,hb⟩
   replace hB:=tb_ hB hb
   clear hb
   go_wp2_with fail
   refine (qux_ _).mono ?_
   rintro e w4 ⟨rfl,hb⟩
   replace hB:=tb_ hB hb
   clear hb
   go_wp2_with fail
   refine (all_nil _).mono ?_
   rintro e w5 ⟨rfl,hb⟩
   replace hB:=tb_ hB hb
   clear hb
   go_wp2_with fail
   refine (qagt_ _ _).mono ?_
   rintro e w6 ⟨rfl,hb⟩
   replace hB:=tb_ hB hb
   clear hb
   go_wp2_with fail
   refine (qagu_ _).mono ?_
   rintro e w7 ⟨rfl,hb⟩
   replace hB:=tb_ hB hb
   clear hb
   go_wp2_with fail
   refine (qagv_ _).mono ?_
   rintro e w8 ⟨s9,rfl,hb,KP⟩
   have KP:=h_ KP
   clear hb
   go_wp2_with fail
   refine KP.out.mono ?_
   rintro e w9 ⟨rfl,hb⟩
   replace hB:=tb_ hB hb
   clear hb KP
   go_wp2_with fail
   go_ret
   exact ⟨rfl,hB⟩
theorem qvl_ (p:NN.Pr) (hp:p.ok) (h1:p.one) (t:Tl) (tt:p.tl=t.C) (ht:t.ok) (gs:List Gt) (cs:List Ck) (hgn:t.gn=gs.length) (hcn:t.cn=cs.length) (a:Option Addr) (ls:List Ac) (n c:Nat) (hn:n=ls.length) (hl:n<=4611686018427387904) (hnow:∀ x ∈ ls,-9223372036854775808<=x.now/\x.now<=9223372036854775807) (w:World) (hT:Tab w) (hA:ActsAt w a ls) (hG:GatesAt w t.ga gs) (hC:ChecksAt w t.ca cs) :
  Ca_ 3 #[.agg (NN.prA p),.slice a n c] w (.bool true):=by
 have KA:HK_ w 6 #[] (.bool true):=h_ fun w' hb=>alive15 w' (hT.below hb)
 have KG:∀ g,grt15 p t gs cs ls=g->HK_ w 7 #[.agg (NN.prA p),.slice a n c] (.bool g):=fun g hg=>h_ fun w' hb=>qafy_ p hp t tt ht gs cs hgn hcn ls n a c hn hl g hg w' (hA.below hb) (hG.below hb) (hC.below hb)
 cases hg:grt15 p t gs cs ls
 ·have KG1:=KG false hg
  unfold grt15 grtA at hg
  simp only[Bool.or_eq_false_iff,decide_eq_false_iff_not,Bool.not_eq_false'] at hg
  obtain ⟨⟨⟨⟨hg0,hg1⟩,hg2⟩,hg3⟩,hr⟩:=hg
  have hiv:2<=p.ivl:=by
   unfold ruleP NN.Pr.good at hr
   simp only[Bool.and_eq_true,decide_eq_true_eq] at hr
   exact hr.1.1.1.1.1.1.1.1.2
  have HA:=h_ fun w' (hb:Below w.heap.size w w')=>hA.below hb
  have HT:=h_ fun w' (hb:Below w.heap.size w w')=>hT.below hb
  have HGG:Hid (gs.length<=1000/\cs.length<=1000/\2<=p.ivl):=h_ ⟨by omega,by omega,hiv⟩
  have KN:Hid (∀w',Below w.heap.size w w'->Calls Tryz.prog 8 #[.agg (NN.prA p),.int .i64 100] w' fun e w''=>∃ b F,e = .returned (.tuple #[.pointer (some ⟨b,0,none⟩),.int .i64 0])/\TrS w'' F b ⟨p,t.g,gs,cs,100⟩ [entZ] [-1]/\(∀i,F i->w'.heap.size<=i)/\Below w'.heap.size w' w''):=h_ fun w' hb=>qabd_ p hp h1 t tt ht gs cs hgn hcn (by omega) (by omega) 100 hr w' (hT.below hb) (hG.below hb) (hC.below hb)
  exact qvk_ p hp ⟨p,t.g,gs,cs,100⟩ a n c w ls HA (h_ hn) (by omega) HT HGG (h_ hnow) KA KG1 KN (h_ fun w' hb=>qaft_ p hp h1 t tt ht gs cs hgn hcn 100 w w' hb hG hC)
 ·have KG1:=KG true hg
  exact qqk_ p hp a n c w KA KG1
end Go.Proofs.YtbgjiplfaolpjaaGreatDoor.An
