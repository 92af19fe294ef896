import Derived.Test.YtkbjaadjnbgfbaaGreatDoorHIdq
import Derived.Test.YtkbjaadjnbgfbaaGreatDoorHMem
import Derived.Test.YtkbjaadjnbgfbaaGreatDoorHBunQ29
import Derived.Test.YtkbjaadjnbgfbaaGreatDoorHBunQ14
import Derived.Sort.OwnSortedInts
import Derived.Lib.OwnBridge
set_option maxRecDepth 100000
set_option maxHeartbeats 4000000
namespace Go.Proofs.YtkbjaadjnbgfbaaGreatDoor
open Go.RowKit
namespace MM
open Mem Md
theorem ln{P:Program}(x y m:Int)(h:m=min x y)(ts:Array TypeId)(t:TypeId)(w:World):(Builtin.min_ ts t #[i_ x,i_ y]).run P w=.ok (i_ m) w:=by rw[run_min_int2,show(if y<x then y else x)=m by split<;>omega]
def gX(w:World)(lo hi:Nat)(p:Option Addr)(l:List Int):Prop:=
 0<l.length->∃b off,p=some ⟨b,off,none⟩/\lo<=b/\b<hi/\∀j,j<l.length->w.cell? ⟨b,off+j,none⟩=some (i_ (l.getD j 0))
variable{w w':World}{lo hi n cap k r B:Nat}{p:Option Addr}{l:List Int}
theorem gX.on(h:gX w lo hi p l)(hs:∀k,lo<=k->k<hi->w'.heap[k]?=w.heap[k]?):gX w' lo hi p l:=fun h0=>by
 obtain⟨b,off,e,h1,h2,hc⟩:=h h0;exact⟨b,off,e,h1,h2,fun j hj=>(iZ (w:=w) (a:=⟨b,off+j,none⟩) (hs b h1 h2)).trans (hc j hj)⟩
theorem gX.below(h:gX w lo hi p l)(hb:Below B w w')(hB:hi<=B):gX w' lo hi p l:=h.on fun k _ hk=>hb.block k (by omega)
theorem gX.grown(h:gX w lo hi p l)(hg:w.grownBy w' (some r))(hh:hi<=w.heap.size)(hr:r<lo\/hi<=r):gX w' lo hi p l:=h.on fun k h1 h2=>hg.block k (by omega) (by intro e;cases e;omega)
theorem gX.wide{lo' hi':Nat}(h:gX w lo hi p l)(h1:lo'<=lo)(h2:hi<=hi'):gX w lo' hi' p l:=fun h0=>by
 obtain⟨b,off,e,h3,h4,hc⟩:=h h0;exact⟨b,off,e,by omega,by omega,hc⟩
theorem gX.none:gX w lo hi p []:=fun h=>by simp at h
theorem nO(b off j:Nat):(⟨b,off,none⟩:Addr).add j=⟨b,off+j,none⟩:=by unfold Addr.add;by_cases h:j=0<;>simp[h]
theorem Il(hl:l.length=n)(hk:k<=n)(hc:n<=cap)(h:gX w lo hi p l):∃p',(∀w':World,(Instr.sliceAt 49 (.slice p n cap) none (some (i_ k)) none).run Tryz.prog w'=.ok (.slice p' k cap) w')/\gX w lo hi p' (l.take k):=by
 refine⟨if cap=0 then p else p.map (·.add 0),fun w'=>?_,fun h0=>?_⟩
 ·rw[run_sliceAt_slice w' 49 _ _ _ _ (by kernel_rfl),run_slice_h w' 49 p n cap (by kernel_rfl) .i64 k (by omega) (by omega)];rw[show Tryz.prog.elem 49=3 by kernel_rfl];simp[sliced,Tryz.sizeOf3]
 ·have h1:0<k/\0<n:=by simp at h0;omega
  obtain⟨b,off,rfl,h2,h3,hcl⟩:=h (by omega);refine⟨b,off,by rw[ah (by omega)];simp[nO],h2,h3,fun j hj=>?_⟩;rw[hcl j (by simp at hj;omega)];congr 2;simp at hj;simp[List.getD_eq_getElem?_getD,show j<k by omega]
variable{base:Nat}{v:Value}
theorem GN(h:w.ownsRow base 3 1 v n (l.map (Value.int .i64))):∃p cap,v=.slice p n cap/\n<=cap/\l.length=n/\gX w base w.heap.size p l:=by
 have hl:l.length=n:=by simpa using h.1
 by_cases hv:v=.slice none 0 0
 ·subst hv;rcases h.2 with⟨_,rfl⟩|⟨g,c,cur,e,_⟩
  exact⟨none,0,rfl,au _,hl,fun h0=>by omega⟩;cases e
 obtain⟨g,c,rfl,h1,h2,h3,_,h5,hH⟩:=Lib.holds_of_ownsRow h hv;refine⟨some ⟨g,0,none⟩,c,rfl,h3,hl,fun h0=>⟨g,0,rfl,h1,h2,fun j hj=>?_⟩⟩;have:=(hH j (by simpa using hj)).1;rw[this];congr 1;simp[List.getD_eq_getElem?_getD,hj]
theorem PY{e size:Nat}{xs:List Value}(h:w.ownsRow base e size v n xs)(hb:Below B w w')(hB:w.heap.size<=B):w'.ownsRow base e size v n xs:=by
 refine⟨h.1,?_⟩;rcases h.2 with h|⟨g,c,cur,e1,h1,h2,h3⟩
 exact .inl h;have hg:g<w.heap.size:=(dA.1 h2).1;exact .inr ⟨g,c,cur,e1,h1,(hb.block g (by omega)).trans h2,h3⟩
end MM
namespace MM
open Mem Md
variable{lo hi:Nat}{p:Option Addr}
theorem zT(p:Option Addr)(cap:Nat)(w:World):Calls Tryz.prog 183 #[.slice p 0 cap] w fun r w'=>r=.returned (i_ 0)/\Bl w w':=by
 go_enter Tryz.func183,Tryz.ntmps183;go_wp2_with fail
 go_ret;exact⟨rfl,cg⟩
variable{l:List Int}
theorem Mc{k:Nat}(hk:k=min l.length 11):l.take k=l.take 11:=by subst hk;by_cases h:l.length<=11;rw[Nat.min_eq_left h,iY,gB h];rw[Nat.min_eq_right (by omega)]
variable{w:World}{g n:Nat}{os:Array Obj}
theorem TH(hH:Sort.Holds (Value.int .i64) w g 0 l.toArray)(hg:g<w.heap.size)(m:Nat)(hm:m<l.length):(Sort.grow (Sort.putRow (Value.int .i64) (Sort.ahead w n) g 0 (l.mergeSort fun x y=>decide (x<=y)).toArray) os).cell? ⟨g,m,none⟩=some (i_ ((jA l).getD m 0)):=by
 have h2:=Sort.holds_grow (Value.int .i64) _ os g 0 (l.mergeSort fun x y=>decide (x<=y)).toArray (by simpa[Sort.putRow,Sort.mapBlock,Sort.ahead]using hg)
  (Sort.holds_putRow (Value.int .i64) _ g 0 _ _ (Sort.holds_ahead (Value.int .i64) w n g 0 _ hH) (by simp))
 have h3:=(h2 m (by simpa using hm)).1;rw[cy]at h3;rw[h3];simp[jA,List.getD_eq_getElem?_getD,hm]
theorem TE(d:Array Int)(B:Nat)(hB:B<=g)(hs:B<=w.heap.size):Below B w (Sort.grow (Sort.putRow (Value.int .i64) (Sort.ahead w n) g 0 d) os):=
 vi (grownBy_sortedI d) hB hs
theorem yq(p:Option Addr)(n cap:Nat)(l:List Int)(hl:l.length=n)(hc:n<=cap)(h0:0<n)(hmax:n<9223372036854775808)(w:World)(h:gX w lo hi p l):Calls Tryz.prog 183 #[.slice p n cap] w fun r w'=>r=.returned (i_ (oK l))/\Bl w w':=by
 obtain⟨k,hk⟩:∃k,k=min n 11:=⟨_,rfl⟩;have hmin:=ln (P:=Tryz.prog) (n:Int) 11 (k:Int) (by omega);obtain⟨p',hcut,hL⟩:=Il hl (by omega:k<=n) hc h;have hlen:(l.take k).length=k:=by simp;omega
 obtain⟨b,off,rfl,_,_,hcell⟩:=hL (by omega);have e11:l.take k=l.take 11:=Mc (by omega);have KC:=h_ (fun w' hcl=>Tryz.slices_Clone_int b off k cap (l.take k) w' (by omega) (by omega) hcl);rw[show(l.take k).take k=l.take k by rw[List.take_take,Nat.min_self]]at KC;obtain⟨m,hm⟩:∃m,m=k/2:=⟨_,rfl⟩;obtain⟨x,hx⟩:∃x,x=oK l:=⟨_,rfl⟩;have HX:Hid ((jA (l.take k)).getD m 0=x):=h_ (by rw[hx,hm];unfold oK;rw[<-e11,hlen]);have hm1:m<k:=by omega
 have f1:(k:Int).tdiv 2=(m:Int):=by rw[kP (by omega)];omega
 have f2:(k:Int)/2=(m:Int):=by omega
 have HC:=h_ hcell;have d0:((n:Int)==0)=false:=by simp;omega
 have HK:=h_ hk;have ah1:k<=11:=by omega
 rw[<-hx];generalize l.take k=L at*;clear hcell hx hk hm h hL e11 hc hl;go_enter Tryz.func183,Tryz.ntmps183;go_wp2_with fail
 refine(KC.out _ HC.out).mono ?_;rintro r w1 ⟨v1,rfl,hown,hnn,bj⟩;obtain⟨g,ah2,rfl,hbg,hgl,ak7,hcm,hlen1,hH⟩:=Lib.holds_of_ownsRow hown hnn;have KS:=h_ (Tryz.slices_Sort_int g 0 ah2 L w1 hH hgl (by omega));rw[hlen]at KS;have HH:=h_ hH;have HB:=h_ bj;have HG:=h_ hbg;have HG2:=h_ hgl;clear hown hnn hH bj hbg hgl hcm KC HC;go_wp2_with fail
 refine KS.out.mono ?_;rintro r w2 ⟨rfl,nn,os,hw2⟩
 have hcl:w2.cell? ⟨g,m,none⟩=some (i_ x):=by
  rw[hw2,<-HX.out];exact TH HH.out HG2.out m (by omega)
 have HB2:Hid (Bl w w2):=h_ (by
  rw[hw2];exact HB.out.trans (TE _ _ HG.out HB.out.size))
 clear KS hw2 HH HB HX;go_wp2_with fail
 go_ret;exact⟨rfl,HB2.out⟩
theorem qX(p:Option Addr)(n cap:Nat)(l:List Int)(hl:l.length=n)(hc:n<=cap)(hmax:n<9223372036854775808)(w:World)(h:gX w lo hi p l):Calls Tryz.prog 183 #[.slice p n cap] w fun r w'=>r=.returned (i_ (oK l))/\Bl w w':=by
 by_cases h0:0<n;exact yq p n cap l hl hc h0 hmax w h
 ·obtain rfl:n=0:=by omega
  obtain rfl:=gE hl;rw[CS];exact zT p cap w
end MM
namespace MM
open Mem Md
theorem Bw:(Tryz.prog.info? 3).map (·.size)=some 1:=by kernel_rfl
def late(t:Int)(l:List Int):Bool:=l.isEmpty||decide (oK l<t)
theorem BB(t:Int)(p:Option Addr)(n cap lo hi:Nat)(l:List Int)(hl:l.length=n)(hc:n<=cap)(hmax:n<9223372036854775808)(w:World)(h:gX w lo hi p l):Calls Tryz.prog 156 #[i_ t,.slice p n cap] w fun r w'=>r=.returned (.bool (late t l))/\Bl w w':=by
 by_cases h0:n=0
 ·subst h0;obtain rfl:=gE hl;have e:late t []=true:=rfl;rw[e];clear e h hmax hl hc;go_enter Tryz.func156,Tryz.ntmps156;go_wp2_with fail
  go_ret;exact⟨rfl,cg⟩
 ·have KO:=h_ (qX p n cap l hl hc hmax w h)
  have e:late t l=decide (oK l<t):=by
   unfold late;cases l with
   | nil=>simp at hl;omega
   | cons a l=>rfl
  rw[e];have d0:((n:Int)==0)=false:=by simp;omega
  generalize oK l=x at*;clear e h hmax hl hc;go_enter Tryz.func156,Tryz.ntmps156;go_wp2_with fail
  refine KO.out.mono ?_;rintro r w2 ⟨rfl,hB2⟩;go_wp2_with fail
  go_ret;exact⟨rfl,hB2⟩
theorem Fc(t now future q:Int)(hq:q=IntKind.i64.wrap (t-now))(w:World):Calls Tryz.prog 157 #[i_ t,i_ now,i_ future] w fun r w'=>r=.returned (.bool (decide (0<=future)&&decide (q<=future)))/\w'=w:=by
 by_cases h0:0<=future
 ·have hd:decide (0<=future)=true:=aG h0;rw[hd,dG];have hq2:=hq.symm;clear hq h0;go_enter Tryz.func157,Tryz.ntmps157;go_wp2_with fail
  go_ret;exact⟨rfl,rfl⟩
 ·have hd:decide (0<=future)=false:=aE h0;rw[hd,j'];clear hq h0;go_enter Tryz.func157,Tryz.ntmps157;go_wp2_with fail
  go_ret;exact⟨rfl,rfl⟩
theorem Nd(x:Int)(L:List Int)(j:Nat)(hj:j<L.length):less x (L.take (j+1))=less x (L.take j)+(if L.getD j 0<x then 1 else 0):=by unfold less;rw[iJ,List.countP_append];simp[List.getD_eq_getElem?_getD,hj,List.countP_cons]
theorem MF(x:Int)(L:List Int)(j:Nat)(hj:j<L.length):same x (L.take (j+1))=same x (L.take j)+(if L.getD j 0=x then 1 else 0):=by unfold same;rw[iJ,List.countP_append];simp[List.getD_eq_getElem?_getD,hj,List.countP_cons]
theorem zF(x:Int)(L:List Int):less x L<=L.length:=List.countP_le_length
theorem AX(x:Int)(L:List Int):same x L<=L.length:=List.countP_le_length
variable{lo hi:Nat}
theorem pN(p:Option Addr)(n cap:Nat)(l:List Int)(hl:l.length=n)(hc:n<=cap)(hmax:n<9223372036854775808)(w:World)(hL:gX w lo hi p l)(hi2:hi<=w.heap.size):Calls Tryz.prog 113 #[.slice p n cap] w fun r w'=>r=.returned (i_ (oK l))/\Bl w w':=by
 obtain⟨k,hk⟩:∃k,k=min n 11:=⟨_,rfl⟩;have hmin:=ln (P:=Tryz.prog) (n:Int) 11 (k:Int) (by omega);have e11:l.take k=l.take 11:=Mc (by omega);obtain⟨x0,hx0⟩:∃x,x=oK l:=⟨_,rfl⟩
 have Wx:Hid (k=0->(0:Int)=x0):=h_ (fun h=>by
  obtain rfl:n=0:=by omega
  obtain rfl:=gE hl;rw[hx0,CS])
 have WN:Hid (0<k->lE x0 (l.take k)):=h_ (fun h=>by rw[hx0,e11];exact ID l (by omega))
 have Yz:Hid (0<k->∃i,i<k/\(l.take k).getD i 0=x0):=h_ (fun h=>by
  have:=Ba l (by omega);rw[<-hx0,<-e11]at this;obtain⟨i,hi,e⟩:=mF this;exact⟨i,by simp at hi;omega,by rw[dC,aQ hi];exact e⟩)
 have VP:Hid (∀w',Bl w w'->∀j,j<k->∃b off,p=some ⟨b,off,none⟩/\w'.cell? ⟨b,off+j,none⟩=some (i_ ((l.take k).getD j 0))):=h_ (fun w' hb j hj=>by
  obtain⟨b,off,e,h1,h2,h3⟩:=hL (by omega);refine⟨b,off,e,?_⟩;rw[hb.cell (p:=⟨b,off+j,none⟩) (show b<_ by omega),h3 j (by omega)];simp[List.getD_eq_getElem?_getD,hj])
 have hlen:(l.take k).length=k:=by simp;omega
 have ah1:k<=11:=by omega
 have hkn:k<=n:=by omega
 rw[<-hx0];generalize l.take k=L at*;clear hk hx0 hL hl e11 hi2;obtain⟨m,hm⟩:∃m,m=k/2:=⟨_,rfl⟩;have f1:(k:Int).tdiv 2=(m:Int):=by rw[kP (by omega)];omega
 have f2:(k:Int)/2=(m:Int):=by omega
 have HM:=h_ hm;have hm5:m<=5:=by omega
 clear hm;go_enter Tryz.func113,Tryz.ntmps113;go_wp2_with fail
 go_loopw [4] (fun i wr=>∃q:Nat,q<=k/\i=i_ q/\Bl w wr/\Hid (∀j,j<q->¬lE (L.getD j 0) L)) (fun i _=>k-(intOf i).toNat)
 case atStart=>exact⟨0,by omega,rfl,cg,h_ (by intro j hj;omega)⟩
 case round=>
  obtain⟨q,hq,rfl,hb,HN⟩:=hrel;by_cases hlt:q<k
  ·obtain⟨x,hx⟩:∃x,x=L.getD q 0:=⟨_,rfl⟩;have HX:=h_ hx;clear hx;go_wp2_with fail
   go_loopw [5,6,7] (fun u v i w2=>∃j:Nat,j<=k/\i=i_ j/\∃A B:Nat,u=i_ A/\v=i_ B/\Bl w w2/\Hid (A=less x (L.take j))/\Hid (B=same x (L.take j))) (fun _ _ i _=>k-(intOf i).toNat)
   case atStart=>exact⟨0,by omega,rfl,0,0,rfl,rfl,hb,h_ rfl,h_ rfl⟩
   case round=>
    obtain⟨j,hj,rfl,A,B,rfl,rfl,hb2,HA,HB⟩:=hrel;have hA:A<=11:=(by have:=zF x (L.take j);rw[<-HA.out]at this;simp at this;omega);have hB:B<=11:=(by have:=AX x (L.take j);rw[<-HB.out]at this;simp at this;omega);by_cases hj2:j<k
    ·obtain⟨b,off,rfl,cq⟩:=VP.out wr hb2 q hlt;obtain⟨_,_,e,cj⟩:=VP.out wr hb2 j hj2;cases e;obtain⟨y,hy⟩:∃y,y=L.getD j 0:=⟨_,rfl⟩;have SA:=Nd x L j (by omega);have SB:=MF x L j (by omega);rw[<-hy,<-HA.out]at SA;rw[<-hy,<-HB.out]at SB;rw[<-hy]at cj;rw[<-HX.out]at cq;rcases Int.lt_trichotomy y x with h|h|h
     ·have t1:decide (y<x)=true:=aG h;have t2:(y==x)=false:=(by simp;omega);have HA2:Hid (A+1=less x (L.take (j+1))):=h_ (by rw[SA,aj h]);have HB2:Hid (B=same x (L.take (j+1))):=h_ (by rw[SB,ah (by omega),iv]);clear h SA SB hy HA HB;(go_wp2_with fail);all_goals go_region
      all_goals go_wp2_with fail
      all_goals go_region
      all_goals go_wp2_with fail
      all_goals go_roundw
      case rel=>exact⟨j+1,by omega,by go_num,A+1,B,by go_num,by go_num,hb2.drew.drew,HA2,HB2⟩
      case measure=>simp[intOf];omega
     ·have t1:decide (y<x)=false:=aE (by omega);have t2:(y==x)=true:=(by simp;omega);have HA2:Hid (A=less x (L.take (j+1))):=h_ (by rw[SA,ah (by omega),iv]);have HB2:Hid (B+1=same x (L.take (j+1))):=h_ (by rw[SB,aj h]);clear h SA SB hy HA HB;(go_wp2_with fail);all_goals go_region
      all_goals go_wp2_with fail
      all_goals go_region
      all_goals go_wp2_with fail
      all_goals go_roundw
      case rel=>exact⟨j+1,by omega,by go_num,A,B+1,by go_num,by go_num,hb2.drew.drew,HA2,HB2⟩
      case measure=>simp[intOf];omega
     ·have t1:decide (y<x)=false:=aE (by omega);have t2:(y==x)=false:=(by simp;omega);have HA2:Hid (A=less x (L.take (j+1))):=h_ (by rw[SA,ah (by omega),iv]);have HB2:Hid (B=same x (L.take (j+1))):=h_ (by rw[SB,ah (by omega),iv]);clear h SA SB hy HA HB;(go_wp2_with fail);all_goals go_region
      all_goals go_wp2_with fail
      all_goals go_region
      all_goals go_wp2_with fail
      all_goals go_roundw
      case rel=>exact⟨j+1,by omega,by go_num,A,B,by go_num,by go_num,hb2.drew.drew,HA2,HB2⟩
      case measure=>simp[intOf];omega
    ·obtain rfl:j=k:=(by omega);rw[gB (by omega)]at HA HB;have hrk:lE x L↔(A<=m/\m<A+B):=(by unfold lE;rw[hlen,<-HA.out,<-HB.out,<-HM.out]);by_cases hr:A<=m/\m<A+B
     ·obtain⟨b,off,rfl,cq⟩:=VP.out wr hb2 q hlt;rw[<-HX.out]at cq;have ex:x=x0:=Mq (hrk.2 hr) (WN.out (by omega));have t1:A<=m:=(by omega);have t2:decide ((m:Int)<(A:Int)+(B:Int))=true:=aG (by omega);have t3:m<A+B:=(by omega);rw[ex]at cq;clear hr hrk HA HB WN Yz VP ex HX HN Wx;(go_wp2_with fail);go_ret;exact⟨rfl,hb2⟩
     ·have HN2:Hid (∀j,j<q+1->¬lE (L.getD j 0) L):=h_ (fun i hi hh=>by
       by_cases hiq:i<q;exact HN.out i hiq hh;obtain rfl:i=q:=(by omega);rw[<-HX.out]at hh;exact hr (hrk.1 hh))
      by_cases hA2:A<=m
      ·have t1:A<=m:=(by omega);have t2:decide ((m:Int)<(A:Int)+(B:Int))=false:=aE (by omega);have t3:¬m<A+B:=(by omega);clear hr hrk hA2 HA HB WN Yz VP HX HN Wx;(go_wp2_with fail);go_roundw
       case rel=>exact⟨q+1,by omega,by go_num,hb2,HN2⟩
       case measure=>simp[intOf];omega
      ·have t1:¬A<=m:=hA2;clear hr hrk hA2 HA HB WN Yz VP HX HN Wx;(go_wp2_with fail);go_roundw
       case rel=>exact⟨q+1,by omega,by go_num,hb2,HN2⟩
       case measure=>simp[intOf];omega
  ·obtain rfl:q=k:=by omega
   have h0:q=0:=by
    by_cases h:q=0;exact h;obtain⟨i,hi,e⟩:=Yz.out (by omega);exact absurd (by rw[e];exact WN.out (by omega)) (HN.out i hi)
   have ex:=Wx.out h0;have EX:=h_ ex;clear ex;go_wp2_with fail
   go_ret;exact⟨aJ (fun z=>Ending.returned (i_ z)) EX.out,hb⟩
theorem wP:∃i z,Tryz.prog.info? 3=some i/\i.zero=some z/\i.size=1/\i.bytes=8/\z.cells.size=1:=by
 have h1:(Tryz.prog.info? 3).map (·.size)=some 1:=Bw;have h2:((Tryz.prog.info? 3).bind (·.zero))=some (i_ 0):=by kernel_rfl
 have h3:(Tryz.prog.info? 3).map (·.bytes)=some 8:=by kernel_rfl
 cases hi:Tryz.prog.info? 3 with
 | none=>rw[hi]at h1;cases h1
 | some i=>
  rw[hi]at h1 h2 h3;exact⟨i,i_ 0,rfl,by simpa using h2,by simpa using h1,by simpa using h3,rfl⟩
variable{w:World}
theorem OU{ops:Array Oper}{rest:List Oper}{o:Oper}{a:Act}{Q:Exit->Act->World->Prop}(hgd:o.guard=none)(s x:Operand)(ho:o.op=.call { callee:=.builtin .append,args:=#[s,x],argTypes:=#[49,49] })(base:Nat)(v:Value)(n:Nat)(l:List Int)(hs:a.eval s=v)(hown:w.ownsRow base 3 1 v n (l.map (Value.int .i64)))(g:Nat)(z:Int)(hx:a.eval x=.slice (bs g) 1 1)(hc:w.cell? ⟨g,0,none⟩=some (i_ z))(hn:n<=1000)(hbase:base<=w.heap.size)(h:∀v' w',w'.ownsRow base 3 1 v' (n+1) ((l++[z]).map (Value.int .i64))->w.grownBy w' v.ownBlock->wpList Tryz.prog ops Q rest (a.put o.dst v') w'):wpList Tryz.prog ops Q (o::rest) a w:=by
 obtain⟨i,y,hi,hz,h1,h2,h3⟩:=wP;refine wpList_append_own _ hgd s x 49 ho base 3 i y 1 8 Tryz.underlying49 hi hz h1 h2 h3 (by decide) v n _ hs hown ⟨g,0,none⟩ 1 1 [i_ z] hx rfl (fun j u hj=>?_) (fun u hu=>?_) (by unfold maxLen;omega) (by omega) hbase (fun v' w' h4 h5 _=>h v' w' ?_ h5)
 ·have hj0:j=0:=by have:=(bk.1 hj).1;simpa using this
  subst hj0;rw[nO];simp at hj;rw[<-hj];exact hc
 simp at hu;rw[hu];rfl;simpa using h4
theorem Rz{base:Nat}{v:Value}{n:Nat}{xs:List Value}{e:Nat}(h:w.ownsRow base e 1 v n xs):∃p cap,v=.slice p n cap:=by
 rcases h.2 with⟨rfl,rfl⟩|⟨g,c,cur,rfl,_⟩
 exact⟨_,_,rfl⟩;exact⟨_,_,rfl⟩
theorem J4(p:Option Addr)(n cap:Nat)(l:List Int)(hl:l.length=n)(hmax:n<4611686018427387904)(w:World)(hL:gX w lo hi p l)(hi2:hi<=w.heap.size):Calls Tryz.prog 114 #[.slice p n cap] w fun r w'=>∃p' cap',r=.returned (.slice p' (min n 11) cap')/\min n 11<=cap'/\gX w' w.heap.size w'.heap.size p' (last l)/\Bl w w':=by
 obtain⟨K,hK⟩:∃K,K=min n 11:=⟨_,rfl⟩;have hT:(last l).length=K:=by rw[Ju,hl,hK]
 have VP:Hid (∀w',Bl w w'->∀j,j<K->∃b off,p=some ⟨b,off,none⟩/\w'.cell? ⟨b,off+(n-1-j),none⟩=some (i_ ((last l).getD j 0))):=h_ (fun w' hb j hj=>by
  obtain⟨b,off,e,h1,h2,h3⟩:=hL (by omega);refine⟨b,off,e,?_⟩;rw[hb.cell (p:=⟨b,off+(n-1-j),none⟩) (show b<_ by omega),h3 (n-1-j) (by omega)];simp only[last,dC,kL];rw[aj (by omega),List.getElem?_reverse (by omega),hl])
 have HK:=h_ hK;have al6:K<=11:=by omega
 have hKn:K<=n:=by omega
 rw[<-hK];generalize last l=T at*;clear hL hl hi2 hK;obtain⟨e0,he0⟩:∃e0:Int,e0=(n:Int)-1:=⟨_,rfl⟩;have hw0:IntKind.i64.wrap ((n:Int)-1)=e0:=by rw[IntKind.wrap_i64];omega
 have HE0:=h_ he0;clear he0;go_enter Tryz.func114,Tryz.ntmps114;go_wp2_with fail
 go_loopw [3,4] (fun o i wr=>∃j:Nat,∃e:Int,j<=K/\i=i_ e/\Hid (e=(n:Int)-1-j)/\wr.ownsRow w.heap.size 3 1 o j ((T.take j).map (Value.int .i64))/\Bl w wr) (fun _ i _=>(intOf i+1).toNat)
 case atStart=>exact⟨0,e0,by omega,rfl,h_ (by rw[HE0.out];omega),lf _ _ _ _,cg⟩
 case round=>
  obtain⟨j,e,hj,rfl,HE,hown,hb⟩:=hrel;obtain⟨po,co,hu⟩:=Rz hown;subst hu;by_cases hlt:j<K
  ·obtain⟨q,hq⟩:∃q,q=n-1-j:=⟨_,rfl⟩;obtain⟨b,off,rfl,cq⟩:=VP.out wr hb j hlt;rw[<-hq]at cq;have eq:e=(q:Int):=by rw[HE.out];omega
   subst eq;have hqn:q<n:=by omega
   have al7:decide ((j:Int)<11)=true:=aG (by omega);obtain⟨x,hx⟩:∃x,x=T.getD j 0:=⟨_,rfl⟩;rw[<-hx]at cq
   have HT:Hid (T.take (j+1)=T.take j++[x]):=h_ (by
    rw[iJ,hx];simp[List.getD_eq_getElem?_getD,show j<T.length by omega])
   obtain⟨e2,he2⟩:∃e2:Int,e2=(q:Int)-1:=⟨_,rfl⟩;have hwr:IntKind.i64.wrap ((q:Int)-1)=e2:=by rw[IntKind.wrap_i64];omega
   have HE2:Hid (e2=(n:Int)-1-(j+1:Nat)):=h_ (by rw[he2];omega);have HM:Hid ((e2+1).toNat<((q:Int)+1).toNat):=h_ (by rw[he2];omega);have hgb:=h_ (fun k=>(hown.lt k));have hown1:=hown.alloc (.cells #[i_ x] 3);have hc1:(wr.alloc (.cells #[i_ x] 3)).cell? ⟨wr.heap.size,0,none⟩=some (i_ x):=(Has.new (w:=wr) #[i_ x] 3).cell 0;have hbs:w.heap.size<=(wr.alloc (.cells #[i_ x] 3)).heap.size:=by rw[eZ];have:=hb.size;omega
   have hb1:=h_ (hb.alloc hb.size (.cells #[i_ x] 3));have Zj:j<=1000:=by omega
   clear hq he2 hx hown VP HE HK;go_wp2_with ((with_reducible refine OU rfl (.tmp 17) (.tmp 22) rfl w.heap.size (.slice po j co) j (T.take j) rfl hown1 wr.heap.size x rfl hc1 Zj hbs ?_);intro v' w2 hown2 hg2)
   exact⟨⟨j+1,e2,by omega,rfl,HE2,by rw[HT.out];exact hown2,hb1.out.grown hg2 hbs (fun k hk=>(hgb.out k hk).1)⟩,HM.out⟩
  ·obtain rfl:j=K:=by omega
   rw[gB (by omega)]at hown;obtain⟨p',cap',e1,hc',_,hL'⟩:=GN hown;cases e1;have HC':=h_ hc';have HL':=h_ hL';have HB:=h_ hb;clear hown hL' hc' hb VP;by_cases h11:n<=11
   ·obtain rfl:e = -1:=(by rw[HE.out];have:=HK.out;omega);clear HE HK HE0;(go_wp2_with fail);go_ret;exact⟨_,_,rfl,HC'.out,HL'.out,HB.out⟩
   ·obtain⟨q,hq⟩:∃q,q=n-1-j:=⟨_,rfl⟩;have eq:e=(q:Int):=(by rw[HE.out];have:=HK.out;omega);subst eq;obtain rfl:j=11:=(by have:=HK.out;omega);clear HE HK HE0 hq;(go_wp2_with fail);go_ret;exact⟨_,_,rfl,HC'.out,HL'.out,HB.out⟩
