import Derived.Test.YtkbjaadjnbgfbaaGreatDoorBIdm
import Derived.Test.YtkbjaadjnbgfbaaGreatDoorBBunQ6
import Derived.Test.YtkbjaadjnbgfbaaGreatDoorBScNames
set_option maxRecDepth 100000
set_option maxHeartbeats 4000000
namespace Go.Proofs.YtkbjaadjnbgfbaaGreatDoor
open Go.RowKit Mem Sc
theorem jS.new(w:World){b:Nat}{v:Value}{l:List UInt8}(h:bk w b v l)(cs:Array Value)(ns:List Int)(t:TypeId)(hcs:cs=(ns.map (Value.int .i64)).toArray):jS (w.alloc (.cells cs t)) b v (some ⟨w.heap.size,0,none⟩) ns:=fun _=>by
 have hlt:=h.lt;refine⟨w.heap.size,0,rfl,by omega,fun e=>by have:=(h.SI e).2;omega,by rw[World.size_alloc];omega,fun i hi=>?_⟩;rw[(Has.new cs t).cell,hcs];simp[hi]
theorem F6(k:Nat)(x:Int):nums k [x]=num k x:=by simp[nums]
theorem Pp(b:Nat)(v:Value)(l:List UInt8)(size:Int)(m:Nat)(hm:fQ size 8=m)(x:Int)(w:World)(h:bk w b v l)(hsz:l.length<=70368744177600):aG 194 #[af b,i_ size,.slice (some ⟨w.heap.size,0,none⟩) 1 1] (w.alloc (.cells #[i_ x] 3)) fun r w'=>dS w b v (l++num m x) r w':=by subst hm;have hb:Bl w (w.alloc (.cells #[i_ x] 3)):=aY;refine(lN b v l size _ [x] 1 1 rfl _ (h.below hb) (jS.new w h _ [x] _ rfl) (by omega)).mono ?_;rintro r w' ⟨v',rfl,hP,hS⟩;rw[F6]at hP;exact⟨v',rfl,hP,hS.below hb⟩
theorem y7(b:Nat)(v:Value)(l:List UInt8)(size:Int)(m:Nat)(hm:fQ size 8=m)(x:Int)(w:World)(H:Nat)(hH:w.heap.size=H)(h:bk w b v l)(hsz:l.length<=70368744177600):aG 194 #[af b,i_ size,.slice (aT H) 1 1] (w.alloc (.cells #[i_ x] 3)) fun r w'=>dS w b v (l++num m x) r w':=by subst hH;exact Pp b v l size m hm x w h hsz
variable{w:World}{base:Nat}{v:Value}
theorem OV{e:TypeId}{size:Nat}{n:Nat}{xs:List Value}(h:w.ownsRow base e size v n xs):∃a m c,v=.slice a m c:=by
 rcases h.2 with⟨h,_⟩|⟨g,cap,cur,h,_⟩
 exact⟨_,_,_,h⟩;exact⟨_,_,_,h⟩
def jI(w:World)(a:Option Addr)(ls:List (List UInt8)):Prop:=
 0<ls.length->∃ab ao,a=some ⟨ab,ao,none⟩/\ab<w.heap.size/\∀i (hi:i<ls.length),ls[i].length=32/\w.rangeAt ab (ao+i*32) (Lib.byteCells ls[i])
def gS(b:Nat)(v:Value)(a:Option Addr):Prop:=∀p,a=some p->p.block≠b/\v.ownBlock≠some p.block
theorem QN(ls:List (List UInt8))(k:Nat)(hk:k<ls.length):(ls.take (k+1)).flatten=(ls.take k).flatten++ls[k]:=by rw[List.take_succ_eq_append_getElem hk,List.flatten_append];simp
theorem N'(ls:List (List UInt8))(h:∀x∈ls,x.length=32)(k:Nat):(ls.take k).flatten.length<=32*k:=by
 rw[List.length_flatten]
 have:∀(m:List (List UInt8)),(∀x∈m,x.length=32)->(m.map List.length).sum=32*m.length:=by
  intro m hm;induction m with
  | nil=>rfl
  | cons x m ih=>
   simp only[List.map_cons,List.sum_cons,List.length_cons];rw[ih (fun y hy=>hm y (by simp[hy])),hm x (by simp)];omega
 rw[this _ (fun x hx=>h x (List.mem_of_mem_take hx)),List.length_take];exact Nat.mul_le_mul_left _ (Nat.min_le_left _ _)
theorem Oo(b:Nat)(v:Value)(l:List UInt8)(a:Option Addr)(ls:List (List UInt8))(n c:Nat)(hn:n=ls.length)(w:World)(h:bk w b v l)(hA:jI w a ls)(hap:0<ls.length->gS b v a)(h32:∀x∈ls,x.length=32)(hsz:l.length+32*n<=70368744177664):aG 195 #[af b,.slice a n c] w fun r w'=>dS w b v (l++ls.flatten) r w':=by
 have HN:=h_ hn;have HA:=h_ hA;have HP:=h_ hap;have H32:=h_ h32;clear hn hA hap h32;go_enter Tryz.func195,Tryz.ntmps195;go_wp2_with fail
 go_loopw [10] (fun i wr=>∃(k:Nat)(v1:Value),k<=n/\i=i_ k/\bk wr b v1 (l++(ls.take k).flatten)/\aV w wr b v v1) (fun i _=>n-(intOf i).toNat)
 case atStart=>exact⟨0,v,Nat.zero_le _,rfl,by simpa using h,aV.refl _ _ _⟩
 case round=>
  obtain⟨k,v1,hk,rfl,hP,hS⟩:=hrel;by_cases hlt:k<n
  ·have hkl:k<ls.length:=by rw[<-HN.out];exact hlt
   obtain⟨ab,ao,rfl,Sv,hc⟩:=HA.out (by omega);obtain⟨hab,YJ⟩:=HP.out (by omega) _ rfl;obtain⟨hx32,hcx⟩:=hc k hkl;have hr:wr.rangeAt ab (ao+k*32) (Lib.byteCells ls[k]):=fun j u hu=>(hS.cell (a:=⟨ab,ao+k*32+j,none⟩) Sv hab YJ).trans (hcx j u hu)
   have hnx:=QN ls k hkl;have hle:=N' ls H32.out k;generalize ls[k]=x at*;have hsx:(Lib.byteCells x).length=32:=by rw[Lib.byteCells_length,hx32]
   have HX:=h_ hsx;have Vh:=h_ hnx;clear hsx hc hcx hnx;obtain⟨i,z,hi,hz,hi1,hi2,hi3⟩:=EY;have hone:=j6 x;have Vi:(ae x).size=32:=oV hx32;have T1:h0.size=32:=rfl;obtain⟨L,hL⟩:∃L,L=l++(ls.take k).flatten:=⟨_,rfl⟩;have hLn:L.length+32<=70368744177664:=by rw[hL];simp only[List.length_append];omega
   rw[<-hL]at hP;have hnew:l++(ls.take (k+1)).flatten=L++x:=by rw[Vh.out,<-List.append_assoc,<-hL]
   have VJ:=h_ hnew;clear hL hnew Vh;have Uk:=hP.c0;have HS:=h_ Vi;have H0:=h_ T1;have YK:=h_ hx32;clear Vi T1 hx32
   go_wp2_with (first
    | (with_reducible refine gu rfl _ rfl ab (ao+k*32) rfl x hr HX.out ?_)
    | (with_reducible refine jD rfl _ _ rfl _ _ (ae x) rfl rfl rfl HS.out hone h0 (c_ _ _) H0.out ?_))
   generalize hw3:World.setRow _ _ _=w3;have hX3:Has w3 wr.heap.size (ae x) 28:=by rw[<-hw3];exact(c_ _ _).row _
   have hB3:Bl wr w3:=cU hw3;clear hw3;have hP3:=hP.below hB3;have c1:=hP3.c0;have hne:some b≠v1.ownBlock:=fun e=>by have:=(hP3.SI e.symm).1;omega
   have Ws:=hP3.lt;have h63:L.length+32<=maxLen:=by unfold maxLen;omega
   have hby:(L.length+32)*1<=140737488355328:=by omega
   have hbase:b+1<=w3.drew.heap.size:=by show b+1<=w3.heap.size;omega
   have hnl:(Lib.byteCells x).length=32*1:=HX.out
   have hnews:∀j u,(Lib.byteCells x)[j]?=some u->w3.drew.cell? ((⟨wr.heap.size,0,none⟩:Addr).add j)=some u:=by
    rw[<-iD];exact World.news_of_block (Has.drew hX3).out
   have Yk:=h_ hnl;have YL:=h_ hnews;clear hnl hnews
   go_region_law
    ((refine step_append_lies _ (by rfl) _ _ 174 (by rfl) (b+1) 5 i z 1 1 Tryz.underlying174 hi hz hi1 hi2 hi3 (by decide) v1 L.length (Lib.byteCells L) (by rfl) hP3.own.drew
       ⟨wr.heap.size,0,none⟩ 32 32 (Lib.byteCells x) (by rfl) Yk.out YL.out (Lib.byteCells_one _) (by decide) h63 hby hbase w3.heap.size (by rfl) ?_;intro g cap w4 Uo Uq VK U3;have hc4:=eY Uq hP3.cell.drew hne;have c4:=hc4.cell 0;have f4:=hc4.free 0))
   all_goals
    have hBd:Bl wr w3.drew:=hB3.drew
    obtain⟨UW,hS5⟩:=hP.put (x:=x) hBd (by rw[YK.out];exact Uo) Uq (fun k' hk'=>by
     rcases VK with e|e
     exact .inl (e.trans hk');obtain rfl:g=k':=Option.some.inj hk';have:=hB3.size;exact .inr (by omega))
    (go_wp2_with fail);go_roundw
    case rel=>exact⟨k+1,_,by omega,by go_num,by rw[VJ.out];exact UW,hS.trans hS5⟩
    case measure=>simp[intOf];omega
  ·obtain rfl:k=n:=by omega
   rw[HN.out,List.take_length]at hP;go_wp2_with fail
   go_end0
   exact⟨v1,rfl,hP,hS⟩
variable{l:List UInt8}
theorem O9(h:w.ownsRow base 5 1 v l.length (Lib.byteCells l)):(Go.convert 174 9 v).run Tryz.prog w=.ok (.string ⟨l.toArray⟩) w:=by
 rcases h.2 with⟨rfl,h0⟩|⟨g,cap,cur,rfl,hb,hg,hn,hm,hcs,ht⟩
 ·obtain rfl:l=[]:=List.eq_nil_of_length_eq_zero h0;kernel_rfl
 ·have hH:Has w g cur 5:=hg;refine run_convert_bytes_back w 174 9 5 ⟨g,0,none⟩ cap l Tryz.underlying174 Tryz.underlying5 Tryz.underlying9 (fun j hj=>?_);have e:cur[j]?=(Lib.byteCells l)[j]?:=by rw[<-ht,List.getElem?_take_of_lt (by omega),Array.getElem?_toList]
  rw[Addr.add_mid,Nat.zero_add,hH.cell j,e];simp[Lib.byteCells,hj]
theorem xB(b:Nat)(v:Value)(l:List UInt8)(w:World)(h:bk w b v l):aG 178 #[af b] w fun r w'=>r=.returned (.string ⟨l.toArray⟩)/\w=w':=by
 have c0:=h.c0
 have hcv:(Go.convert 174 9 v).run Tryz.prog w=.ok (.string ⟨l.toArray⟩) w:=by
  exact O9 h.own
 go_enter Tryz.func178,Tryz.ntmps178;go_wp2_with fail
 go_ret;exact⟨rfl,rfl⟩
def eR(l:List UInt8):ByteArray:=⟨l.toArray⟩
theorem j4(l:List UInt8):(eR l).size=l.length:=by show l.toArray.size=_;simp
theorem AZ(l:List UInt8):(eR l).data.toList=l:=rfl
theorem Av(a b:List UInt8):eR a++eR b=eR (a++b):=by apply Dp;simp[eR]
theorem Ju(y:UInt8)(w:World):(Go.convert 174 9 (.slice (some ⟨w.heap.size,0,none⟩) 1 1)).run Tryz.prog (w.alloc (.cells #[.int .u8 (y.toNat:Int)] 5))=.ok (.string (eR [y])) (w.alloc (.cells #[.int .u8 (y.toNat:Int)] 5)):=by
 refine run_convert_bytes_back (w.alloc (.cells #[.int .u8 (y.toNat:Int)] 5)) 174 9 5 ⟨w.heap.size,0,none⟩ 1 [y] Tryz.underlying174 Tryz.underlying5 Tryz.underlying9 (fun j hj=>?_);obtain rfl:j=0:=by simpa using hj
 simp[Addr.add]
theorem NG(size:Int):(size<1/\fQ size 8=1)\/(8<size/\fQ size 8=8)\/((size:Int)=(fQ size 8:Nat)/\1<=size/\size<=8):=by unfold fQ;omega
theorem jF(size n:Int)(w:World):ak 143 #[i_ size,i_ n] w (.string (eR (num (fQ size 8) n))):=by
 have hm:=yL size 8 (by omega);have H3:=h_ (NG size);have hu:=Cg n;have e0:IntKind.u64.wrap n=(u64 n:Nat):=by rw[IntKind.wrap_u64];unfold u64;omega
 generalize fQ size 8=m at*;unfold num;generalize u64 n=u at*;go_enter Tryz.func143,Tryz.ntmps143;go_wp2_with fail
 clear e0;go_loopw [5,6,7] (fun q s i wr=>∃k q':Nat,k<=m/\i=i_ k/\Hid (q'=u/256^k)/\q=ay (q':Int)/\s=.string (eR (le k u))/\Bl w wr) (fun _ _ i _=>m-(intOf i).toNat)
 case atStart=>exact⟨0,u,Nat.zero_le _,rfl,h_ (by simp),rfl,rfl,bf⟩
 case round=>
  obtain⟨k,q,hk,rfl,HQ,rfl,rfl,hb⟩:=hrel;have hq:q<18446744073709551616:=by rw[HQ.out];exact Nat.lt_of_le_of_lt (Nat.div_le_self _ _) hu
  obtain⟨q1,hq1⟩:∃q1,q1=q/256:=⟨_,rfl⟩;have Wt:Hid (q1=u/256^(k+1)):=h_ (by rw[hq1,HQ.out,Nat.pow_succ,Nat.div_div_eq_div_mul]);have hy:(d_ u k).toNat=q%256:=by rw[Mq,<-HQ.out]
  have hy2:=(d_ u k).toNat_lt;have hs1:=j4 (le k u);rw[JF]at hs1;have hs3:=Av (le k u) [d_ u k];rw[<-zO k u]at hs3;have hs4:(eR [d_ u k]).size=1:=j4 _;have Vj:=h_ hs3;have hcv:=Ju (d_ u k);have hb2:∀cs t,Bl w (wr.alloc (.cells cs t)):=fun cs t=>hb.alloc hb.size _
  have HB2:=h_ hb2;generalize hyy:d_ u k=y at*;generalize hss:eR (le k u)=s at*;have f1:(q:Int)%256=(y.toNat:Int):=by omega
  have f2:(y.toNat:Int)%256=(y.toNat:Int):=by omega
  have f3:(q:Int)/256=(q1:Int):=by omega
  have f4:(q:Int).tmod 256=(y.toNat:Int):=by rw[Int.tmod_eq_emod_of_nonneg (by omega)];exact f1
  have f5:(q:Int).tdiv 256=(q1:Int):=by rw[Int.tdiv_eq_ediv_of_nonneg (by omega)];exact f3
  have ab1:q1<18446744073709551616:=by omega
  have hs5:s.size<=8:=by omega
  have hs6:(eR [y]).size<=1:=by omega
  have Wu:=h_ hss;clear hq1 hy hs3 hb2 hs1 hs4 hyy hss;have H3o:=H3.out;by_cases hlt:k<m
  ·have hk7:k<=7:=by omega
   rcases H3o with⟨h1,rfl⟩|⟨h1,rfl⟩|⟨h1,h2,h3⟩
   ·obtain rfl:k=0:=(by omega);clear hlt hk;(go_wp2_with fail);exact⟨⟨1,q1,by omega,rfl,Wt,rfl,congrArg Value.string Vj.out,HB2.out _ _⟩,by simp[intOf]⟩
   ·have h4:¬size<1:=(by omega);have h5:decide ((k:Int)<8)=true:=decide_eq_true (by omega);clear hlt hk;(go_wp2_with fail);exact⟨⟨k+1,q1,by omega,by go_num,Wt,rfl,congrArg Value.string Vj.out,HB2.out _ _⟩,by simp[intOf];omega⟩
   ·have h4:¬size<1:=(by omega);have h5:¬8<size:=(by omega);subst h1;have h6:decide (k<m)=true:=decide_eq_true hlt;have hlt2:=h_ hlt;clear hlt hk;(go_wp2_with fail);exact⟨⟨k+1,q1,hlt2.out,by go_num,Wt,rfl,congrArg Value.string Vj.out,HB2.out _ _⟩,by have:=hlt2.out;simp[intOf];omega⟩
  ·clear hcv HB2 Vj Wt HQ f1 f2 f3 f4 f5;rcases H3o with⟨h1,rfl⟩|⟨h1,rfl⟩|⟨h1,h2,h3⟩
   ·obtain rfl:k=1:=(by omega);(go_wp2_with fail);go_ret;exact⟨congrArg (fun s=>Ending.returned (.string s)) Wu.out.symm,hb⟩
   ·obtain rfl:k=8:=(by omega);have h4:¬size<1:=(by omega);(go_wp2_with fail);go_ret;exact⟨congrArg (fun s=>Ending.returned (.string s)) Wu.out.symm,hb⟩
   ·obtain rfl:k=m:=(by omega);have h4:¬size<1:=(by omega);have h5:¬8<size:=(by omega);subst h1;clear hlt hk;(go_wp2_with fail);go_ret;exact⟨congrArg (fun s=>Ending.returned (.string s)) Wu.out.symm,hb⟩
theorem yO(l:List UInt8)(hl:l.length=32)(w:World):ak 144 #[.agg (ae l)] w (.string (eR l)):=by
 have HL:=h_ hl;clear hl;go_enter Tryz.func144,Tryz.ntmps144;go_wp2_with fail
 generalize hw1:World.alloc _ _=w1;have hA:Has w1 w.heap.size (ae l) 28:=by rw[<-hw1];exact Has.new _ _
 have hB:Bl w w1:=dd hw1;have hR:w.heap.size<w1.heap.size:=hA.lt;clear hw1;go_loopw [3,4] (fun s i wr=>∃k:Nat,k<=32/\i=i_ k/\s=.string (eR (l.take k))/\Bl w wr/\Has wr w.heap.size (ae l) 28) (fun _ i _=>32-(intOf i).toNat)
 case atStart=>exact⟨0,Nat.zero_le _,rfl,rfl,hB,hA⟩
 case round=>
  clear hA hB;obtain⟨k,hk,rfl,rfl,hB,hA⟩:=hrel;by_cases hlt:k<32
  ·have hkl:k<l.length:=by rw[HL.out];exact hlt
   have c1:=hA.byte k hkl;have hs1:=j4 (l.take k);have hs3:=Av (l.take k) [l[k]];rw[<-List.take_succ_eq_append_getElem hkl]at hs3;have hs4:(eR [l[k]]).size=1:=j4 _;have Vj:=h_ hs3;have hcv:=Ju l[k];have hb2:∀cs t,Bl w (wr.alloc (.cells cs t))/\Has (wr.alloc (.cells cs t)) w.heap.size (ae l) 28:=fun cs t=>⟨hB.alloc hB.size _,hA.alloc _⟩
   have HB2:=h_ hb2;have hs5:(eR (l.take k)).size<=32:=by rw[hs1,List.length_take];omega
   have hs6:(eR [l[k]]).size<=1:=by omega
   generalize eR (l.take k)=s at*;generalize l[k]=y at*;clear hs3 hb2 hs1 hs4 hA hB;go_wp2_with fail
   exact⟨⟨k+1,by omega,by go_num,congrArg Value.string Vj.out,(HB2.out _ _).1,(HB2.out _ _).2⟩,by simp[intOf];omega⟩
  ·obtain rfl:k=32:=by omega
   have hT:l.take 32=l:=List.take_of_length_le (by rw[HL.out];omega);have HT:=h_ hT;clear hT;go_wp2_with fail
   go_ret;exact⟨congrArg (fun m=>Ending.returned (.string (eR m))) HT.out,hB⟩
theorem Q'{w':World}{b:Nat}{v':Value}{W:World}(hB:Bl W w)(hb:W.heap.size<=b)(hp:bk w b v l)(h:aV w w' b v v'):Bl W w':=
 hB.trans ((h.toBelow hp).mono hb)
theorem Nd(b:Nat)(v:Value)(l:List UInt8)(w:World)(h:bk w b v l):aG 178 #[af b] w fun r w'=>r=.returned (.string (eR l))/\w=w':=xB b v l w h
