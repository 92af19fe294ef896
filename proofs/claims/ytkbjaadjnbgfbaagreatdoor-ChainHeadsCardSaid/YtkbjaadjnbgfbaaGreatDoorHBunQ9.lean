import Derived.Test.YtkbjaadjnbgfbaaGreatDoorHIdm
import Derived.Test.YtkbjaadjnbgfbaaGreatDoorHBunQ6
import Derived.Test.YtkbjaadjnbgfbaaGreatDoorHScNames
set_option maxRecDepth 100000
set_option maxHeartbeats 4000000
namespace Go.Proofs.YtkbjaadjnbgfbaaGreatDoor
open Go.RowKit Mem Sc
theorem nN.new(w:World){b:Nat}{v:Value}{l:List UInt8}(h:cC w b v l)(cs:Array Value)(ns:List Int)(t:TypeId)(hcs:cs=(ns.map (Value.int .i64)).toArray):nN (w.alloc (.cells cs t)) b v (some ⟨w.heap.size,0,none⟩) ns:=fun _=>by
 have hlt:=h.lt;refine⟨w.heap.size,0,rfl,by omega,fun e=>by have:=(h.V3 e).2;omega,by rw[eZ];omega,fun i hi=>?_⟩;rw[(Has.new cs t).cell,hcs];simp[hi]
theorem PA(k:Nat)(x:Int):nums k [x]=num k x:=by simp[nums]
theorem Ue(b:Nat)(v:Value)(l:List UInt8)(size:Int)(m:Nat)(hm:jH size 8=m)(x:Int)(w:World)(h:cC w b v l)(hsz:l.length<=70368744177600):aU 194 #[af b,i_ size,.slice (some ⟨w.heap.size,0,none⟩) 1 1] (w.alloc (.cells #[i_ x] 3)) fun r w'=>gu w b v (l++num m x) r w':=by subst hm;have hb:Bl w (w.alloc (.cells #[i_ x] 3)):=cu;refine(pj b v l size _ [x] 1 1 rfl _ (h.below hb) (nN.new w h _ [x] _ rfl) (by omega)).mono ?_;rintro r w' ⟨v',rfl,hP,hS⟩;rw[PA]at hP;exact⟨v',rfl,hP,hS.below hb⟩
theorem BU(b:Nat)(v:Value)(l:List UInt8)(size:Int)(m:Nat)(hm:jH size 8=m)(x:Int)(w:World)(H:Nat)(hH:w.heap.size=H)(h:cC w b v l)(hsz:l.length<=70368744177600):aU 194 #[af b,i_ size,.slice (bs H) 1 1] (w.alloc (.cells #[i_ x] 3)) fun r w'=>gu w b v (l++num m x) r w':=by subst hH;exact Ue b v l size m hm x w h hsz
variable{w:World}{base:Nat}{v:Value}
theorem S7{e:TypeId}{size:Nat}{n:Nat}{xs:List Value}(h:w.ownsRow base e size v n xs):∃a m c,v=.slice a m c:=by
 rcases h.2 with⟨h,_⟩|⟨g,cap,cur,h,_⟩
 exact⟨_,_,_,h⟩;exact⟨_,_,_,h⟩
def nE(w:World)(a:Option Addr)(ls:List (List UInt8)):Prop:=
 0<ls.length->∃ab ao,a=some ⟨ab,ao,none⟩/\ab<w.heap.size/\∀i (hi:i<ls.length),ls[i].length=32/\w.rangeAt ab (ao+i*32) (Lib.byteCells ls[i])
def kO(b:Nat)(v:Value)(a:Option Addr):Prop:=∀p,a=some p->p.block≠b/\v.ownBlock≠some p.block
theorem TG(ls:List (List UInt8))(k:Nat)(hk:k<ls.length):(ls.take (k+1)).flatten=(ls.take k).flatten++ls[k]:=by rw[mX hk,List.flatten_append];simp
theorem SI(ls:List (List UInt8))(h:∀x∈ls,x.length=32)(k:Nat):(ls.take k).flatten.length<=32*k:=by
 rw[List.length_flatten]
 have:∀(m:List (List UInt8)),(∀x∈m,x.length=32)->(m.map List.length).sum=32*m.length:=by
  intro m hm;induction m with
  | nil=>rfl
  | cons x m ih=>
   simp only[bZ,List.sum_cons,fP];rw[ih (fun y hy=>hm y (by simp[hy])),hm x (by simp)];omega
 rw[this _ (fun x hx=>h x (List.mem_of_mem_take hx)),eM];exact nU _ (Nat.min_le_left _ _)
theorem Ra(b:Nat)(v:Value)(l:List UInt8)(a:Option Addr)(ls:List (List UInt8))(n c:Nat)(hn:n=ls.length)(w:World)(h:cC w b v l)(hA:nE w a ls)(hap:0<ls.length->kO b v a)(h32:∀x∈ls,x.length=32)(hsz:l.length+32*n<=70368744177664):aU 195 #[af b,.slice a n c] w fun r w'=>gu w b v (l++ls.flatten) r w':=by
 have HN:=h_ hn;have HA:=h_ hA;have HP:=h_ hap;have H32:=h_ h32;clear hn hA hap h32;go_enter Tryz.func195,Tryz.ntmps195;go_wp2_with fail
 go_loopw [10] (fun i wr=>∃(k:Nat)(v1:Value),k<=n/\i=i_ k/\cC wr b v1 (l++(ls.take k).flatten)/\bT w wr b v v1) (fun i _=>n-(intOf i).toNat)
 case atStart=>exact⟨0,v,bB _,rfl,by simpa using h,bT.refl _ _ _⟩
 case round=>
  obtain⟨k,v1,hk,rfl,hP,hS⟩:=hrel;by_cases hlt:k<n
  ·have hkl:k<ls.length:=by rw[<-HN.out];exact hlt
   obtain⟨ab,ao,rfl,VR,hc⟩:=HA.out (by omega);obtain⟨hab,hav⟩:=HP.out (by omega) _ rfl;obtain⟨hx32,hcx⟩:=hc k hkl;have hr:wr.rangeAt ab (ao+k*32) (Lib.byteCells ls[k]):=fun j u hu=>(hS.cell (a:=⟨ab,ao+k*32+j,none⟩) VR hab hav).trans (hcx j u hu)
   have hnx:=TG ls k hkl;have hle:=SI ls H32.out k;generalize ls[k]=x at*;have hsx:(Lib.byteCells x).length=32:=by rw[Lib.byteCells_length,hx32]
   have HX:=h_ hsx;have YJ:=h_ hnx;clear hsx hc hcx hnx;obtain⟨i,z,hi,hz,hi1,hi2,hi3⟩:=O3;have hone:=oD x;have YK:(ae x).size=32:=uh hx32;have Xg:h0.size=32:=rfl;obtain⟨L,hL⟩:∃L,L=l++(ls.take k).flatten:=⟨_,rfl⟩;have hLn:L.length+32<=70368744177664:=by rw[hL];simp only[aT];omega
   rw[<-hL]at hP;have hnew:l++(ls.take (k+1)).flatten=L++x:=by rw[YJ.out,<-List.append_assoc,<-hL]
   have XM:=h_ hnew;clear hL hnew YJ;have XF:=hP.c0;have HS:=h_ YK;have H0:=h_ Xg;have af6:=h_ hx32;clear YK Xg hx32
   go_wp2_with (first
    | (with_reducible refine jL rfl _ rfl ab (ao+k*32) rfl x hr HX.out ?_)
    | (with_reducible refine nt rfl _ _ rfl _ _ (ae x) rfl rfl rfl HS.out hone h0 (er _ _) H0.out ?_))
   generalize hw3:World.setRow _ _ _=w3;have hX3:Has w3 wr.heap.size (ae x) 28:=by rw[<-hw3];exact(er _ _).row _
   have hB3:Bl wr w3:=dZ hw3;clear hw3;have hP3:=hP.below hB3;have c1:=hP3.c0;have hne:some b≠v1.ownBlock:=fun e=>by have:=(hP3.V3 e.symm).1;omega
   have ZN:=hP3.lt;have h63:L.length+32<=maxLen:=by unfold maxLen;omega
   have hby:(L.length+32)*1<=140737488355328:=by omega
   have hbase:b+1<=w3.drew.heap.size:=by show b+1<=w3.heap.size;omega
   have hnl:(Lib.byteCells x).length=32*1:=HX.out
   have hnews:∀j u,(Lib.byteCells x)[j]?=some u->w3.drew.cell? ((⟨wr.heap.size,0,none⟩:Addr).add j)=some u:=by
    rw[<-lP];exact World.news_of_block (Has.drew hX3).out
   have HNL:=h_ hnl;have HNW:=h_ hnews;clear hnl hnews
   go_region_law
    ((refine step_append_lies _ (by rfl) _ _ 174 (by rfl) (b+1) 5 i z 1 1 Tryz.underlying174 hi hz hi1 hi2 hi3 (by decide) v1 L.length (Lib.byteCells L) (by rfl) hP3.own.drew
       ⟨wr.heap.size,0,none⟩ 32 32 (Lib.byteCells x) (by rfl) HNL.out HNW.out (Lib.byteCells_one _) (by decide) h63 hby hbase w3.heap.size (by rfl) ?_;intro g cap w4 XN XO Y8 Yr;have hc4:=iF XO hP3.cell.drew hne;have c4:=hc4.cell 0;have f4:=hc4.free 0))
   all_goals
    have hBd:Bl wr w3.drew:=hB3.drew
    obtain⟨Yj,hS5⟩:=hP.put (x:=x) hBd (by rw[af6.out];exact XN) XO (fun k' hk'=>by
     rcases Y8 with e|e
     exact .inl (e.trans hk');obtain rfl:g=k':=Option.some.inj hk';have:=hB3.size;exact .inr (by omega))
    (go_wp2_with fail);go_roundw
    case rel=>exact⟨k+1,_,by omega,by go_num,by rw[XM.out];exact Yj,hS.trans hS5⟩
    case measure=>simp[intOf];omega
  ·obtain rfl:k=n:=by omega
   rw[HN.out,iY]at hP;go_wp2_with fail
   go_end0
   exact⟨v1,rfl,hP,hS⟩
variable{l:List UInt8}
theorem Rb(h:w.ownsRow base 5 1 v l.length (Lib.byteCells l)):(Go.convert 174 9 v).run Tryz.prog w=.ok (.string ⟨l.toArray⟩) w:=by
 rcases h.2 with⟨rfl,h0⟩|⟨g,cap,cur,rfl,hb,hg,hn,hm,hcs,ht⟩
 ·obtain rfl:l=[]:=gE h0;kernel_rfl
 ·have hH:Has w g cur 5:=hg;refine run_convert_bytes_back w 174 9 5 ⟨g,0,none⟩ cap l Tryz.underlying174 Tryz.underlying5 Tryz.underlying9 (fun j hj=>?_);have e:cur[j]?=(Lib.byteCells l)[j]?:=by rw[<-ht,mQ (by omega),oW]
  rw[Addr.add_mid,cy,hH.cell j,e];simp[Lib.byteCells,hj]
theorem Bi(b:Nat)(v:Value)(l:List UInt8)(w:World)(h:cC w b v l):aU 178 #[af b] w fun r w'=>r=.returned (.string ⟨l.toArray⟩)/\w=w':=by
 have c0:=h.c0
 have hcv:(Go.convert 174 9 v).run Tryz.prog w=.ok (.string ⟨l.toArray⟩) w:=by
  exact Rb h.own
 go_enter Tryz.func178,Tryz.ntmps178;go_wp2_with fail
 go_ret;exact⟨rfl,rfl⟩
def iG(l:List UInt8):ByteArray:=⟨l.toArray⟩
theorem oz(l:List UInt8):(iG l).size=l.length:=by show l.toArray.size=_;simp
theorem Gj(l:List UInt8):(iG l).data.toList=l:=rfl
theorem EA(a b:List UInt8):iG a++iG b=iG (a++b):=by apply DH;simp[iG]
theorem Kt(y:UInt8)(w:World):(Go.convert 174 9 (.slice (some ⟨w.heap.size,0,none⟩) 1 1)).run Tryz.prog (w.alloc (.cells #[.int .u8 (y.toNat:Int)] 5))=.ok (.string (iG [y])) (w.alloc (.cells #[.int .u8 (y.toNat:Int)] 5)):=by
 refine run_convert_bytes_back (w.alloc (.cells #[.int .u8 (y.toNat:Int)] 5)) 174 9 5 ⟨w.heap.size,0,none⟩ 1 [y] Tryz.underlying174 Tryz.underlying5 Tryz.underlying9 (fun j hj=>?_);obtain rfl:j=0:=by simpa using hj
 simp[Addr.add]
theorem Rg(size:Int):(size<1/\jH size 8=1)\/(8<size/\jH size 8=8)\/((size:Int)=(jH size 8:Nat)/\1<=size/\size<=8):=by unfold jH;omega
theorem nG(size n:Int)(w:World):ar 143 #[i_ size,i_ n] w (.string (iG (num (jH size 8) n))):=by
 have hm:=BL size 8 (by omega);have H3:=h_ (Rg size);have hu:=D7 n;have e0:IntKind.u64.wrap n=(u64 n:Nat):=by rw[IntKind.wrap_u64];unfold u64;omega
 generalize jH size 8=m at*;unfold num;generalize u64 n=u at*;go_enter Tryz.func143,Tryz.ntmps143;go_wp2_with fail
 clear e0;go_loopw [5,6,7] (fun q s i wr=>∃k q':Nat,k<=m/\i=i_ k/\Hid (q'=u/256^k)/\q=aH (q':Int)/\s=.string (iG (le k u))/\Bl w wr) (fun _ _ i _=>m-(intOf i).toNat)
 case atStart=>exact⟨0,u,bB _,rfl,h_ (by simp),rfl,rfl,cg⟩
 case round=>
  obtain⟨k,q,hk,rfl,HQ,rfl,rfl,hb⟩:=hrel;have hq:q<18446744073709551616:=by rw[HQ.out];exact eH (f' _ _) hu
  obtain⟨q1,hq1⟩:∃q1,q1=q/256:=⟨_,rfl⟩;have ZO:Hid (q1=u/256^(k+1)):=h_ (by rw[hq1,HQ.out,fG,nM]);have hy:(gF u k).toNat=q%256:=by rw[PJ,<-HQ.out]
  have hy2:=(gF u k).toNat_lt;have hs1:=oz (le k u);rw[M4]at hs1;have hs3:=EA (le k u) [gF u k];rw[<-B8 k u]at hs3;have hs4:(iG [gF u k]).size=1:=oz _;have YL:=h_ hs3;have hcv:=Kt (gF u k);have hb2:∀cs t,Bl w (wr.alloc (.cells cs t)):=fun cs t=>hb.alloc hb.size _
  have HB2:=h_ hb2;generalize hyy:gF u k=y at*;generalize hss:iG (le k u)=s at*;have f1:(q:Int)%256=(y.toNat:Int):=by omega
  have f2:(y.toNat:Int)%256=(y.toNat:Int):=by omega
  have f3:(q:Int)/256=(q1:Int):=by omega
  have f4:(q:Int).tmod 256=(y.toNat:Int):=by rw[iV (by omega)];exact f1
  have f5:(q:Int).tdiv 256=(q1:Int):=by rw[kP (by omega)];exact f3
  have al1:q1<18446744073709551616:=by omega
  have hs5:s.size<=8:=by omega
  have hs6:(iG [y]).size<=1:=by omega
  have ZP:=h_ hss;clear hq1 hy hs3 hb2 hs1 hs4 hyy hss;have H3o:=H3.out;by_cases hlt:k<m
  ·have hk7:k<=7:=by omega
   rcases H3o with⟨h1,rfl⟩|⟨h1,rfl⟩|⟨h1,h2,h3⟩
   ·obtain rfl:k=0:=(by omega);clear hlt hk;(go_wp2_with fail);exact⟨⟨1,q1,by omega,rfl,ZO,rfl,aJ Value.string YL.out,HB2.out _ _⟩,by simp[intOf]⟩
   ·have h4:¬size<1:=(by omega);have h5:decide ((k:Int)<8)=true:=aG (by omega);clear hlt hk;(go_wp2_with fail);exact⟨⟨k+1,q1,by omega,by go_num,ZO,rfl,aJ Value.string YL.out,HB2.out _ _⟩,by simp[intOf];omega⟩
   ·have h4:¬size<1:=(by omega);have h5:¬8<size:=(by omega);subst h1;have h6:decide (k<m)=true:=aG hlt;have hlt2:=h_ hlt;clear hlt hk;(go_wp2_with fail);exact⟨⟨k+1,q1,hlt2.out,by go_num,ZO,rfl,aJ Value.string YL.out,HB2.out _ _⟩,by have:=hlt2.out;simp[intOf];omega⟩
  ·clear hcv HB2 YL ZO HQ f1 f2 f3 f4 f5;rcases H3o with⟨h1,rfl⟩|⟨h1,rfl⟩|⟨h1,h2,h3⟩
   ·obtain rfl:k=1:=(by omega);(go_wp2_with fail);go_ret;exact⟨aJ (fun s=>Ending.returned (.string s)) ZP.out.symm,hb⟩
   ·obtain rfl:k=8:=(by omega);have h4:¬size<1:=(by omega);(go_wp2_with fail);go_ret;exact⟨aJ (fun s=>Ending.returned (.string s)) ZP.out.symm,hb⟩
   ·obtain rfl:k=m:=(by omega);have h4:¬size<1:=(by omega);have h5:¬8<size:=(by omega);subst h1;clear hlt hk;(go_wp2_with fail);go_ret;exact⟨aJ (fun s=>Ending.returned (.string s)) ZP.out.symm,hb⟩
theorem CT(l:List UInt8)(hl:l.length=32)(w:World):ar 144 #[.agg (ae l)] w (.string (iG l)):=by
 have HL:=h_ hl;clear hl;go_enter Tryz.func144,Tryz.ntmps144;go_wp2_with fail
 generalize hw1:World.alloc _ _=w1;have hA:Has w1 w.heap.size (ae l) 28:=by rw[<-hw1];exact Has.new _ _
 have hB:Bl w w1:=eT hw1;have hR:w.heap.size<w1.heap.size:=hA.lt;clear hw1;go_loopw [3,4] (fun s i wr=>∃k:Nat,k<=32/\i=i_ k/\s=.string (iG (l.take k))/\Bl w wr/\Has wr w.heap.size (ae l) 28) (fun _ i _=>32-(intOf i).toNat)
 case atStart=>exact⟨0,bB _,rfl,rfl,hB,hA⟩
 case round=>
  clear hA hB;obtain⟨k,hk,rfl,rfl,hB,hA⟩:=hrel;by_cases hlt:k<32
  ·have hkl:k<l.length:=by rw[HL.out];exact hlt
   have c1:=hA.byte k hkl;have hs1:=oz (l.take k);have hs3:=EA (l.take k) [l[k]];rw[<-List.take_succ_eq_append_getElem hkl]at hs3;have hs4:(iG [l[k]]).size=1:=oz _;have YL:=h_ hs3;have hcv:=Kt l[k];have hb2:∀cs t,Bl w (wr.alloc (.cells cs t))/\Has (wr.alloc (.cells cs t)) w.heap.size (ae l) 28:=fun cs t=>⟨hB.alloc hB.size _,hA.alloc _⟩
   have HB2:=h_ hb2;have hs5:(iG (l.take k)).size<=32:=by rw[hs1,eM];omega
   have hs6:(iG [l[k]]).size<=1:=by omega
   generalize iG (l.take k)=s at*;generalize l[k]=y at*;clear hs3 hb2 hs1 hs4 hA hB;go_wp2_with fail
   exact⟨⟨k+1,by omega,by go_num,aJ Value.string YL.out,(HB2.out _ _).1,(HB2.out _ _).2⟩,by simp[intOf];omega⟩
  ·obtain rfl:k=32:=by omega
   have hT:l.take 32=l:=gB (by rw[HL.out];omega);have HT:=h_ hT;clear hT;go_wp2_with fail
   go_ret;exact⟨aJ (fun m=>Ending.returned (.string (iG m))) HT.out,hB⟩
theorem SR{w':World}{b:Nat}{v':Value}{W:World}(hB:Bl W w)(hb:W.heap.size<=b)(hp:cC w b v l)(h:bT w w' b v v'):Bl W w':=
 hB.trans ((h.toBelow hp).mono hb)
theorem M_(b:Nat)(v:Value)(l:List UInt8)(w:World)(h:cC w b v l):aU 178 #[af b] w fun r w'=>r=.returned (.string (iG l))/\w=w':=Bi b v l w h
