import Derived.Test.YtkbjaadjnbgfbaaGreatDoorHBunQ45
import Derived.Test.YtkbjaadjnbgfbaaGreatDoorHBunQ49
set_option maxRecDepth 100000
set_option maxHeartbeats 8000000
namespace Go.Proofs.YtkbjaadjnbgfbaaGreatDoor.An
open Go.RowKit Mem Sc NN.VI
open Ar (av Ru aN Ok dB Row dV Up fR gS)
open Mk (ik jS aP pb verdict cZ cG iH word fX)
theorem BA{w0 w:World}{r:Ru}{bb cb mr bt mb mg bm rb:Nat}{x:pd}{M:List av}{S:Mk.St}{L:List Int}(h:nR w0 w r bb cb mr bt mb mg bm rb x M S L)(hg:Gd r M S)(HG:Hid (r.gs.length<=1000/\r.cs.length<=1000/\2<=r.p.Vv))(HT:og w0 fun w'=>gj w')(y:Ac)(q0:y.h.ok)(Y7:Hid (-9223372036854775808<=y.now/\y.now<=9223372036854775807)):aU 12 #[af bb,.agg (eL y)] w fun e w'=>e=.returned (.bool true)/\∃L',nR w0 w' r bb cb mr bt mb mg bm rb x (cQ r M y) (dP M S y) L':=by obtain⟨tip,h1,h2⟩:=h;obtain⟨K,hK⟩:=A6 hg;exact(Kg w0 w r bb cb mr bt mb mg bm rb M S tip x L K h1 hK h2 hg HG HT y q0 Y7).mono fun _ _ h=>⟨h.1,_,h.2⟩
theorem Rl(p:NN.Pr)(hp:p.ok)(a:Option Addr)(n c:Nat)(w:World)(KA:bG w 9 #[] (.bool true))(KG:bG w 10 #[.agg (NN.aV p),.slice a n c] (.bool true)):ar 4 #[.agg (NN.aV p),.slice a n c] w (.bool true):=by
 have hz:=NN.gT hp;go_enter Tryz.func4,Tryz.ntmps4;go_upto_region 1 with fail
 generalize hw0:World.alloc _ _=v0;have hB:Bl w v0:=eT hw0;have hP:NN.aK v0 w.heap.size p:=by rw[<-hw0];exact NN.Has.new _ _
 clear hw0;obtain⟨bP,VF⟩:∃x,x=w.heap.size:=⟨_,rfl⟩;rw[<-VF]at hP|-;have ZT:Hid (bP=w.heap.size):=h_ VF;clear VF;go_wp2_with (first|fail)
 refine az (KA.out _ hB) fun v1 hb=>?_;replace hP:=hP.on hb;replace hB:=ai hB hb;clear hb;go_wp2_with (with_reducible first|refine NN.fK rfl _ rfl _ rfl hP hz ?_|refine NN.jF (by with_unfolding_all rfl) _ rfl _ rfl hP hz ?_)
 refine az (KG.out _ hB) fun v2 hb=>?_;replace hP:=hP.on hb;replace hB:=ai hB hb;clear hb;go_wp2_with fail
 go_ret;exact⟨rfl,hB⟩
theorem UY(p:NN.Pr)(hp:p.ok)(r:Ru)(a:Option Addr)(n c:Nat)(w:World)(ls:List Ac)(HA:og w fun w'=>jY w' a ls)(HN:Hid (n=ls.length))(an1:n<=50)(HT:og w fun w'=>gj w')(HG:Hid (r.gs.length<=1000/\r.cs.length<=1000/\2<=r.p.Vv))(HNW:Hid (∀x∈ls,-9223372036854775808<=x.now/\x.now<=9223372036854775807))(KA:bG w 9 #[] (.bool true))(KG:bG w 10 #[.agg (NN.aV p),.slice a n c] (.bool false))(KS:og w fun w'=>aU 11 #[.agg (NN.aV p)] w' fun e w''=>∃bb cb mr bt mb mg bm rb,e=.returned (af bb)/\tN w' w'' r bb cb mr bt mb mg bm rb [aN] Mk.oC [0]):ar 4 #[.agg (NN.aV p),.slice a n c] w (.bool true):=by
 have hz:=NN.gT hp;go_enter Tryz.func4,Tryz.ntmps4;go_upto_region 1 with fail
 generalize hw0:World.alloc _ _=v0;have hB:Bl w v0:=eT hw0;have hP:NN.aK v0 w.heap.size p:=by rw[<-hw0];exact NN.Has.new _ _
 clear hw0;obtain⟨bP,VF⟩:∃x,x=w.heap.size:=⟨_,rfl⟩;rw[<-VF]at hP|-;have ZT:Hid (bP=w.heap.size):=h_ VF;clear VF;go_wp2_with (first|fail)
 refine az (KA.out _ hB) fun v1 hb=>?_;replace hP:=hP.on hb;replace hB:=ai hB hb;clear hb;go_wp2_with (with_reducible first|refine NN.fK rfl _ rfl _ rfl hP hz ?_|refine NN.jF (by with_unfolding_all rfl) _ rfl _ rfl hP hz ?_)
 refine az (KG.out _ hB) fun v2 hb=>?_;replace hP:=hP.on hb;replace hB:=ai hB hb;clear hb;go_wp2_with (first|fail|(with_reducible refine NN.fK rfl _ rfl _ rfl hP hz ?_))
 refine(KS.out _ hB).mono ?_;rintro e v3 ⟨bb,cb,mr,bt,mb,mg,bm,rb,rfl,hC⟩;have HBS:=h_ hB;have HTS:Hid (∀w',Bl v2 w'->gj w'):=h_ fun w' hb=>HT.out w' (ai hB hb)
 clear hB hP KA KG KS;go_wp2_with fail
 go_loopw [6,18] (fun v u wr=>∃(k:Nat)(M:List av)(S:Mk.St)(L:List Int)(st:Bool),k<=n/\u=i_ k/\v=.bool st/\tN v2 wr r bb cb mr bt mb mg bm rb M S L/\Hid (Ok r M/\M.length<=k+1/\Mk.Good M.length S)) (fun _ u _=>n-(intOf u).toNat)
 case atStart=>exact⟨0,[aN],Mk.oC,[0],false,by omega,rfl,rfl,hC,h_ ⟨Ok.one r,au _,Mk.Good.start 1 (by decide)⟩⟩
 case round=>
  clear hC;obtain⟨k,M,S,L,st,hk,rfl,rfl,hC,HM⟩:=hrel;have hM9:M.length<=60:=by have:=HM.out.2.1;omega
  have hB:=ai HBS.out hC.Xm;by_cases hlt:k<n
  ·obtain⟨ab,ao,hae,VR,hc⟩:=(HA.out _ hB) (by rw[<-HN.out];omega);subst hae;have hk2:k<ls.length:=by rw[<-HN.out];exact hlt
   obtain⟨q0,q1⟩:=hc k hk2;have Y7:=h_ (HNW.out _ (ij hk2));clear hc hB;generalize ls[k]=y at*;clear hk2;have z1:=D1 q0;have z2:=n_ q0;have z0:=n_ (c:=PS) iC;have hb2:Bl wr ((wr.alloc (.cells Tryz.zeroCells39 39)).setRow wr.heap.size (eL y)):=below_setRow cu (au _) _;have hnew:=ED wr;have hY:=CC wr y;obtain⟨tip,hL,hC⟩:=hC;have hCb:nR v2 _ r bb cb mr bt mb mg bm rb [(wr.heap.size,eL y,39)] M S L:=⟨tip,hL,hC.box hb2 rfl hY⟩;have hgd:Gd r M S:=⟨HM.out.1,by omega,HM.out.2.2⟩;obtain⟨gb,hgb⟩:∃gb,gb=wr.heap.size:=⟨_,rfl⟩;clear hb2 hC hL;go_upto_region 10 with(with_reducible first|refine DW rfl _ rfl ab (ao+k*72) rfl y q1 z1 ?_|refine Ek rfl _ _ rfl _ _ y rfl rfl rfl z2 hnew z0 ?_)
   rw[<-hgb]at hY hCb|-;generalize World.setRow _ _ _=v5 at*;have KD:=h_ (BA hCb hgd HG HTS y q0 Y7);have ck:=hY.kind;clear hnew z0 z1 q1 hgd hgb hCb;cases st
   ·by_cases k4:y.kind=4
    ·have e4:(y.kind==(4:Int))=true:=(by rw[jq];exact k4);have e1:decide ((0:Int)<y.kind)=true:=aG (by omega);have e2:(y.kind != (4:Int))=false:=(by rw[bne_eq_false_iff_eq];exact k4);clear k4;(go_wp2_with (first|(with_reducible refine tT rfl _ rfl _ rfl y hY z2 ?_)));refine KD.out.mono ?_;rintro e v6 ⟨rfl,L',VM,hL7,W0⟩;have VW:Hid (Ok r (cQ r M y)/\(cQ r M y).length<=k+1+1/\Mk.Good (cQ r M y).length (dP M S y)):=h_ (mN HM.out.1 HM.out.2.1 HM.out.2.2 y q0);clear KD hY z2 HM;generalize cQ r M y=M' at*;generalize dP M S y=S' at*;have XD:Hid (Gd r M' S'):=h_ ⟨VW.out.1,by have:=VW.out.2.1;omega,VW.out.2.2⟩;have H7:=h_ W0;have XL:=h_ hL7
     have XE:Hid ((zs (oU r M' (aP M' S') M'.length VM)).length<=1000):=h_ (by
      obtain⟨d,_,hd,_,_⟩:=Ch.gY hL7;exact ax (t_ (bk.1 hd).1) (ax XD.out.2.1 (by decide)))
     clear W0 hL7;(go_wp2_with fail);refine lZ (fun _ (_:Value×Value) w'=>Bl v6 w'/\True) [] [1,2,5,6] (fun g=>[af gb,i_ y.kind,.bool true,.bool true,af gb,i_ y.kind,.bool false,.bool false,.bool false,undef,undef,.bool false,.bool false,undef,undef,undef,undef,undef,undef,undef,undef,undef,undef,undef,undef,.bool false]) (undef,undef) ⟨cg.drew,trivial⟩ ⟨fun fl g w' f hC=>.val (dy rfl rfl (fh (fa (H7.out.below hC.1)).kind)) hC,fun fl g w' f hC=>.val (uz rfl rfl rfl e1) hC,fun fl g w' f hC=>.val (dy rfl rfl (fh (fa (H7.out.below hC.1)).kind)) hC,fun fl g w' f hC=>.val (uL rfl rfl rfl e2) hC,trivial⟩ ?_;rintro g w9 ⟨VE,_⟩;have hC:tN v2 w9 r bb cb mr bt mb mg bm rb M' S' L':=⟨VM,XL.out,(H7.out.below VE).loose⟩;simp only[dD,aZ,bg,de,dh];clear VE;(go_wp2_with fail);go_roundw
     case rel=>exact⟨k+1,M',S',L',_,by omega,by go_num,rfl,hC,VW⟩
     case measure=>simp[intOf];omega
    ·have e4:(y.kind==(4:Int))=false:=(by rw[ld];exact k4);by_cases h0:0<y.kind
     ·have e1:decide ((0:Int)<y.kind)=true:=aG h0;have e2:(y.kind != (4:Int))=true:=(by rw[bne_iff_ne];exact k4);clear k4 h0;(go_wp2_with (first|(with_reducible refine tT rfl _ rfl _ rfl y hY z2 ?_)));refine KD.out.mono ?_;rintro e v6 ⟨rfl,L',VM,hL7,W0⟩;have VW:Hid (Ok r (cQ r M y)/\(cQ r M y).length<=k+1+1/\Mk.Good (cQ r M y).length (dP M S y)):=h_ (mN HM.out.1 HM.out.2.1 HM.out.2.2 y q0);clear KD hY z2 HM;generalize cQ r M y=M' at*;generalize dP M S y=S' at*;have XD:Hid (Gd r M' S'):=h_ ⟨VW.out.1,by have:=VW.out.2.1;omega,VW.out.2.2⟩;have H7:=h_ W0;have XL:=h_ hL7
      have XE:Hid ((zs (oU r M' (aP M' S') M'.length VM)).length<=1000):=h_ (by
       obtain⟨d,_,hd,_,_⟩:=Ch.gY hL7;exact ax (t_ (bk.1 hd).1) (ax XD.out.2.1 (by decide)))
      clear W0 hL7;(go_wp2_with fail);refine lZ (fun fl (g:Value×Value) w'=>Bl v6 w'/\(fl 17=true->kT w' g.1 (zs (oU r M' (aP M' S') M'.length VM)))/\(fl 22=true->kT w' g.2 (zs (oU r M' (aP M' S') M'.length VM)))) [17,22] [1,2,5,6,16,17,21,22,23] (fun g=>[af gb,i_ y.kind,.bool true,.bool true,af gb,i_ y.kind,.bool true,.bool true,.bool true,.bool false,.bool true,.bool true,.bool true,af bb,af bb,af bb,af cb,g.1,af bb,af bb,.pointer (some ⟨bb,1,none⟩),af mr,g.2,.bool true,.bool false,.bool false]) (undef,undef) ⟨cg.drew,fun q=>(by cases q),fun q=>by cases q⟩ ⟨fun fl g w' f hC=>.val (dy rfl rfl (fh (fa (H7.out.below hC.1)).kind)) hC,fun fl g w' f hC=>.val (uz rfl rfl rfl e1) hC,fun fl g w' f hC=>.val (dy rfl rfl (fh (fa (H7.out.below hC.1)).kind)) hC,fun fl g w' f hC=>.val (uL rfl rfl rfl e2) hC,fun fl g w' f hC=>.val (dy rfl rfl (lB (H7.out.below hC.1).b0)) hC,fun fl g w' f hC=>?_,fun fl g w' f hC=>.val (dy rfl rfl (ix (H7.out.below hC.1).b1)) hC,fun fl g w' f hC=>?_,fun fl g w' f hC=>?_,trivial⟩ ?_;refine .Xj [17] ((GY (H7.out.below hC.1) XD.out).mono fun e w2 q=>?_);obtain⟨v,e1,hv,hb⟩:=q;exact⟨(v,g.2),rfl,e1,ai hC.1 hb,fun _=>hv,fun q=>(hC.2.2 q).on hb⟩;refine .Xj [22] ((Nt (H7.out.below hC.1) XD.out XL.out).mono fun e w2 q=>?_);obtain⟨v,e1,hv,hb⟩:=q;exact⟨(g.1,v),rfl,e1,ai hC.1 hb,fun q=>(hC.2.1 q).on hb,fun _=>hv⟩
      ·have h17:=f.yes 17 (by kernel_rfl);have h22:=f.yes 22 (by kernel_rfl);have:=JA (hC.2.1 h17) (hC.2.2 h22) XE.out;rw[aG rfl]at this;exact .call (this.mono fun _ _ q=>⟨q.1,ai hC.1 q.2,fun q1=>(hC.2.1 q1).on q.2,fun q1=>(hC.2.2 q1).on q.2⟩)
      rintro g w9 ⟨VE,_⟩;have hC:tN v2 w9 r bb cb mr bt mb mg bm rb M' S' L':=⟨VM,XL.out,(H7.out.below VE).loose⟩;simp only[dD,aZ,bg,de,dh];clear VE;(go_wp2_with fail);go_roundw
      case rel=>exact⟨k+1,M',S',L',_,by omega,by go_num,rfl,hC,VW⟩
      case measure=>simp[intOf];omega
     ·have e1:decide ((0:Int)<y.kind)=false:=aE h0;clear k4 h0;(go_wp2_with (first|(with_reducible refine tT rfl _ rfl _ rfl y hY z2 ?_)));refine KD.out.mono ?_;rintro e v6 ⟨rfl,L',VM,hL7,W0⟩;have VW:Hid (Ok r (cQ r M y)/\(cQ r M y).length<=k+1+1/\Mk.Good (cQ r M y).length (dP M S y)):=h_ (mN HM.out.1 HM.out.2.1 HM.out.2.2 y q0);clear KD hY z2 HM;generalize cQ r M y=M' at*;generalize dP M S y=S' at*;have XD:Hid (Gd r M' S'):=h_ ⟨VW.out.1,by have:=VW.out.2.1;omega,VW.out.2.2⟩;have H7:=h_ W0;have XL:=h_ hL7
      have XE:Hid ((zs (oU r M' (aP M' S') M'.length VM)).length<=1000):=h_ (by
       obtain⟨d,_,hd,_,_⟩:=Ch.gY hL7;exact ax (t_ (bk.1 hd).1) (ax XD.out.2.1 (by decide)))
      clear W0 hL7;(go_wp2_with fail);refine lZ (fun _ (_:Value×Value) w'=>Bl v6 w'/\True) [] [1,2] (fun g=>[af gb,i_ y.kind,.bool false,.bool false,undef,undef,undef,.bool false,.bool false,undef,undef,.bool false,.bool false,undef,undef,undef,undef,undef,undef,undef,undef,undef,undef,undef,undef,.bool false]) (undef,undef) ⟨cg.drew,trivial⟩ ⟨fun fl g w' f hC=>.val (dy rfl rfl (fh (fa (H7.out.below hC.1)).kind)) hC,fun fl g w' f hC=>.val (uz rfl rfl rfl e1) hC,trivial⟩ ?_;rintro g w9 ⟨VE,_⟩;have hC:tN v2 w9 r bb cb mr bt mb mg bm rb M' S' L':=⟨VM,XL.out,(H7.out.below VE).loose⟩;simp only[dD,aZ,bg,de,dh];clear VE;(go_wp2_with fail);go_roundw
      case rel=>exact⟨k+1,M',S',L',_,by omega,by go_num,rfl,hC,VW⟩
      case measure=>simp[intOf];omega
   ·by_cases h0:0<y.kind
    ·have e1:decide ((0:Int)<y.kind)=true:=aG h0;by_cases k4:y.kind=4
     ·have e2:(y.kind != (4:Int))=false:=(by rw[bne_eq_false_iff_eq];exact k4);clear k4 h0;(go_wp2_with (first|(with_reducible refine tT rfl _ rfl _ rfl y hY z2 ?_)));refine KD.out.mono ?_;rintro e v6 ⟨rfl,L',VM,hL7,W0⟩;have VW:Hid (Ok r (cQ r M y)/\(cQ r M y).length<=k+1+1/\Mk.Good (cQ r M y).length (dP M S y)):=h_ (mN HM.out.1 HM.out.2.1 HM.out.2.2 y q0);clear KD hY z2 HM;generalize cQ r M y=M' at*;generalize dP M S y=S' at*;have XD:Hid (Gd r M' S'):=h_ ⟨VW.out.1,by have:=VW.out.2.1;omega,VW.out.2.2⟩;have H7:=h_ W0;have XL:=h_ hL7
      have XE:Hid ((zs (oU r M' (aP M' S') M'.length VM)).length<=1000):=h_ (by
       obtain⟨d,_,hd,_,_⟩:=Ch.gY hL7;exact ax (t_ (bk.1 hd).1) (ax XD.out.2.1 (by decide)))
      clear W0 hL7;(go_wp2_with fail);refine lZ (fun _ (_:Value×Value) w'=>Bl v6 w'/\True) [] [1,2,5,6] (fun g=>[af gb,i_ y.kind,.bool true,.bool true,af gb,i_ y.kind,.bool false,.bool false,.bool false,undef,undef,.bool false,.bool false,undef,undef,undef,undef,undef,undef,undef,undef,undef,undef,undef,undef,.bool false]) (undef,undef) ⟨cg.drew,trivial⟩ ⟨fun fl g w' f hC=>.val (dy rfl rfl (fh (fa (H7.out.below hC.1)).kind)) hC,fun fl g w' f hC=>.val (uz rfl rfl rfl e1) hC,fun fl g w' f hC=>.val (dy rfl rfl (fh (fa (H7.out.below hC.1)).kind)) hC,fun fl g w' f hC=>.val (uL rfl rfl rfl e2) hC,trivial⟩ ?_;rintro g w9 ⟨VE,_⟩;have hC:tN v2 w9 r bb cb mr bt mb mg bm rb M' S' L':=⟨VM,XL.out,(H7.out.below VE).loose⟩;simp only[dD,aZ,bg,de,dh];clear VE;(go_wp2_with fail);go_roundw
      case rel=>exact⟨k+1,M',S',L',_,by omega,by go_num,rfl,hC,VW⟩
      case measure=>simp[intOf];omega
     ·have e2:(y.kind != (4:Int))=true:=(by rw[bne_iff_ne];exact k4);clear k4 h0;(go_wp2_with (first|(with_reducible refine tT rfl _ rfl _ rfl y hY z2 ?_)));refine KD.out.mono ?_;rintro e v6 ⟨rfl,L',VM,hL7,W0⟩;have VW:Hid (Ok r (cQ r M y)/\(cQ r M y).length<=k+1+1/\Mk.Good (cQ r M y).length (dP M S y)):=h_ (mN HM.out.1 HM.out.2.1 HM.out.2.2 y q0);clear KD hY z2 HM;generalize cQ r M y=M' at*;generalize dP M S y=S' at*;have XD:Hid (Gd r M' S'):=h_ ⟨VW.out.1,by have:=VW.out.2.1;omega,VW.out.2.2⟩;have H7:=h_ W0;have XL:=h_ hL7
      have XE:Hid ((zs (oU r M' (aP M' S') M'.length VM)).length<=1000):=h_ (by
       obtain⟨d,_,hd,_,_⟩:=Ch.gY hL7;exact ax (t_ (bk.1 hd).1) (ax XD.out.2.1 (by decide)))
      clear W0 hL7;(go_wp2_with fail);refine lZ (fun _ (_:Value×Value) w'=>Bl v6 w'/\True) [] [1,2,5,6] (fun g=>[af gb,i_ y.kind,.bool true,.bool true,af gb,i_ y.kind,.bool true,.bool true,.bool true,.bool true,.bool false,.bool false,.bool false,undef,undef,undef,undef,undef,undef,undef,undef,undef,undef,undef,undef,.bool false]) (undef,undef) ⟨cg.drew,trivial⟩ ⟨fun fl g w' f hC=>.val (dy rfl rfl (fh (fa (H7.out.below hC.1)).kind)) hC,fun fl g w' f hC=>.val (uz rfl rfl rfl e1) hC,fun fl g w' f hC=>.val (dy rfl rfl (fh (fa (H7.out.below hC.1)).kind)) hC,fun fl g w' f hC=>.val (uL rfl rfl rfl e2) hC,trivial⟩ ?_;rintro g w9 ⟨VE,_⟩;have hC:tN v2 w9 r bb cb mr bt mb mg bm rb M' S' L':=⟨VM,XL.out,(H7.out.below VE).loose⟩;simp only[dD,aZ,bg,de,dh];clear VE;(go_wp2_with fail);go_roundw
      case rel=>exact⟨k+1,M',S',L',_,by omega,by go_num,rfl,hC,VW⟩
      case measure=>simp[intOf];omega
    ·have e1:decide ((0:Int)<y.kind)=false:=aE h0;clear h0;(go_wp2_with (first|(with_reducible refine tT rfl _ rfl _ rfl y hY z2 ?_)));refine KD.out.mono ?_;rintro e v6 ⟨rfl,L',VM,hL7,W0⟩;have VW:Hid (Ok r (cQ r M y)/\(cQ r M y).length<=k+1+1/\Mk.Good (cQ r M y).length (dP M S y)):=h_ (mN HM.out.1 HM.out.2.1 HM.out.2.2 y q0);clear KD hY z2 HM;generalize cQ r M y=M' at*;generalize dP M S y=S' at*;have XD:Hid (Gd r M' S'):=h_ ⟨VW.out.1,by have:=VW.out.2.1;omega,VW.out.2.2⟩;have H7:=h_ W0;have XL:=h_ hL7
     have XE:Hid ((zs (oU r M' (aP M' S') M'.length VM)).length<=1000):=h_ (by
      obtain⟨d,_,hd,_,_⟩:=Ch.gY hL7;exact ax (t_ (bk.1 hd).1) (ax XD.out.2.1 (by decide)))
     clear W0 hL7;(go_wp2_with fail);refine lZ (fun _ (_:Value×Value) w'=>Bl v6 w'/\True) [] [1,2] (fun g=>[af gb,i_ y.kind,.bool false,.bool false,undef,undef,undef,.bool false,.bool false,undef,undef,.bool false,.bool false,undef,undef,undef,undef,undef,undef,undef,undef,undef,undef,undef,undef,.bool false]) (undef,undef) ⟨cg.drew,trivial⟩ ⟨fun fl g w' f hC=>.val (dy rfl rfl (fh (fa (H7.out.below hC.1)).kind)) hC,fun fl g w' f hC=>.val (uz rfl rfl rfl e1) hC,trivial⟩ ?_;rintro g w9 ⟨VE,_⟩;have hC:tN v2 w9 r bb cb mr bt mb mg bm rb M' S' L':=⟨VM,XL.out,(H7.out.below VE).loose⟩;simp only[dD,aZ,bg,de,dh];clear VE;(go_wp2_with fail);go_roundw
     case rel=>exact⟨k+1,M',S',L',_,by omega,by go_num,rfl,hC,VW⟩
     case measure=>simp[intOf];omega
  ·obtain rfl:k=n:=by omega
   have HB:=h_ hB;clear HA hM9 hC hB;go_wp2_with fail
   go_ret;exact⟨rfl,HB.out⟩
theorem RI(p:NN.Pr)(hp:p.ok)(h1:p.one)(t:Tl)(tt:p.tl=t.C)(ht:t.ok)(gs:List Gt)(cs:List Ck)(hgn:t.gn=gs.length)(hcn:t.cn=cs.length)(a:Option Addr)(ls:List Ac)(n c:Nat)(hn:n=ls.length)(hl:n<=4611686018427387904)(ak3:∀x∈ls,-9223372036854775808<=x.now/\x.now<=9223372036854775807)(w:World)(hT:gj w)(hA:jY w a ls)(hG:bc w t.ga gs)(hC:aI w t.ca cs):ar 4 #[.agg (NN.aV p),.slice a n c] w (.bool true):=by
 have KA:bG w 9 #[] (.bool true):=h_ fun w' hb=>yC w' (hT.below hb)
 have KG:∀g,rK p t gs cs ls=g->bG w 10 #[.agg (NN.aV p),.slice a n c] (.bool g):=fun g hg=>h_ fun w' hb=>Kk p hp t tt ht gs cs hgn hcn ls n a c hn hl g hg w' (hA.below hb) (hG.below hb) (hC.below hb)
 cases hg:rK p t gs cs ls
 ·have Xx:=KG false hg;unfold rK Ds at hg;simp only[Bool.or_eq_false_iff,lk,Bool.not_eq_false']at hg;obtain⟨⟨⟨⟨hg0,hg1⟩,hg2⟩,hg3⟩,hr⟩:=hg
  have hiv:2<=p.Vv:=by
   unfold na NN.Pr.du at hr;simp only[dv,fp]at hr;exact hr.1.1.1.1.1.1.1.1.2
  have HA:=h_ fun w' (hb:Bl w w')=>hA.below hb
  have HT:=h_ fun w' (hb:Bl w w')=>hT.below hb
  have Z6:Hid (gs.length<=1000/\cs.length<=1000/\2<=p.Vv):=h_ ⟨by omega,by omega,hiv⟩;have KS:=h_ fun w' (hb:Bl w w')=>Lb p hp h1 t tt ht gs cs hgn hcn (by omega) (by omega) hr w' (hT.below hb) (hG.below hb) (hC.below hb)
  exact UY p hp ⟨p,t.g,gs,cs,100⟩ a n c w ls HA (h_ hn) (by omega) HT Z6 (h_ ak3) KA Xx KS
 have Xx:=KG true hg;exact Rl p hp a n c w KA Xx
