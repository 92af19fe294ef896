import Derived.Test.YtkbjaadjnbgfbaaGreatDoorHBunQ21
import Derived.Test.YtkbjaadjnbgfbaaGreatDoorHWTimes
set_option maxRecDepth 100000
set_option maxHeartbeats 4000000
namespace Go.Proofs.YtkbjaadjnbgfbaaGreatDoor.NN
open Go.RowKit
theorem D2(z:Int):∃n:Nat,IntKind.u64.wrap z=(n:Nat):=⟨(z%18446744073709551616).toNat,by rw[IntKind.wrap_u64];omega⟩
theorem Ai{n:Nat}(h:n<18446744073709551616):IntKind.u64.wrap (n:Int)=(n:Nat):=by rw[IntKind.wrap_u64];omega
theorem BO(a:Nat)(ha:a<18446744073709551616):bits .and .u64 (a:Int) 4294967295=((a%4294967296:Nat):Int):=by have h:=bits_and_u64_nat a 4294967295 ha (by omega);have e:a&&&4294967295=a%4294967296:=Nat.and_two_pow_sub_one_eq_mod a 32;rw[e]at h;exact h
theorem z8(hi lo s:Nat)(hs:s<64):(hi*18446744073709551616+lo)*2^s=(hi*2^s+lo/2^(64-s))*18446744073709551616+lo*2^s%18446744073709551616:=by
 have e:(18446744073709551616:Nat)=2^(64-s)*2^s:=by rw[<-Nat.pow_add,show 64-s+s=64 by omega]
 have h:lo*2^s/18446744073709551616=lo/2^(64-s):=by rw[e,Nat.mul_div_mul_right _ _ (dr (by decide))]
 have h2:=Nat.div_add_mod' (lo*2^s) 18446744073709551616;rw[h]at h2;have e1:hi*18446744073709551616*2^s=hi*2^s*18446744073709551616:=Nat.mul_right_comm _ _ _;rw[fN,fN,e1,Nat.add_assoc,h2]
theorem No(hi lo s:Nat)(hs:s<64)(hl:lo<18446744073709551616):hi*2^s|||lo/2^(64-s)=hi*2^s+lo/2^(64-s):=by
 have h:lo/2^(64-s)<2^s:=by
  refine(ie (dr (by decide))).2 ?_;rw[<-Nat.pow_add,show s+(64-s)=64 by omega];exact hl
 rw[gd,oh h]
variable{u d y1 y0 q r Y p quo x:Nat}
theorem JD(k:Nm.KY u d y1 y0):∃q r m:Nat,IntKind.u64.wrap ((u:Int)/(y1:Int))=(q:Nat)/\IntKind.u64.wrap ((q:Int)*(y1:Int))=(m:Nat)/\IntKind.u64.wrap ((u:Int)-(m:Int))=(r:Nat)/\Nm.KI u d y1 y0 q r/\r<4294967296:=by have h1:=k.h1;have h2:=k.h2;have h0:=k.h0;have hu:=k.hu;have hm:=Nat.div_add_mod' u y1;have hl:=bq u (show 0<y1 by omega);refine⟨u/y1,u%y1,u/y1*y1,?_,?_,?_,k.start,by omega⟩;rw[<-Int.natCast_ediv];exact Ai (eH (f' _ _) (by omega));rw[<-Int.natCast_mul];exact Ai (by omega);rw[IntKind.wrap_u64];omega
theorem Hs(hq:q<4294967296)(hr:r<4294967296)(hy:y0<4294967296)(hd:d<4294967296):∃P R S:Nat,IntKind.u64.wrap ((q:Int)*(y0:Int))=(P:Nat)/\IntKind.u64.wrap ((4294967296:Int)*(r:Int))=(R:Nat)/\IntKind.u64.wrap ((R:Int)+(d:Int))=(S:Nat)/\P=q*y0/\S=4294967296*r+d:=by refine⟨q*y0,4294967296*r,4294967296*r+d,?_,?_,?_,rfl,rfl⟩;rw[<-Int.natCast_mul];exact Ai (by have:=kU (show q<=4294967295 by omega) (show y0<=4294967295 by omega);omega);rw[IntKind.wrap_u64];omega;rw[IntKind.wrap_u64];omega
theorem xp(hq:0<q)(hq2:q<=4294967297)(hr:r<4294967296)(hy:y1<4294967296):∃p t:Nat,IntKind.u64.wrap ((q:Int)-1)=(p:Nat)/\IntKind.u64.wrap ((r:Int)+(y1:Int))=(t:Nat)/\p=q-1/\t=r+y1:=by refine⟨q-1,r+y1,?_,?_,rfl,rfl⟩;rw[IntKind.wrap_u64];omega;rw[IntKind.wrap_u64];omega
theorem Lm(hy:0<Y)(hy2:Y<18446744073709551616)(hq:q=(u*4294967296+d)/Y):∃m1 m2 m3 v:Nat,IntKind.u64.wrap ((u:Int)*4294967296)=(m1:Nat)/\IntKind.u64.wrap ((m1:Int)+(d:Int))=(m2:Nat)/\IntKind.u64.wrap ((q:Int)*(Y:Int))=(m3:Nat)/\IntKind.u64.wrap ((m2:Int)-(m3:Int))=(v:Nat)/\v=(u*4294967296+d)%Y:=by obtain⟨m1,e1⟩:=D2 ((u:Int)*4294967296);obtain⟨m2,e2⟩:=D2 ((m1:Int)+(d:Int));obtain⟨m3,e3⟩:=D2 ((q:Int)*(Y:Int));have e4:=Nm.Uo hy hy2 hq;rw[e1,e2,e3]at e4;exact⟨m1,m2,m3,_,e1,e2,e3,e4,rfl⟩
theorem N_(h:quo=q*4294967296+p)(hl:quo<18446744073709551616):∃m:Nat,IntKind.u64.wrap ((q:Int)*4294967296)=(m:Nat)/\IntKind.u64.wrap ((m:Int)+(p:Int))=(quo:Nat):=by refine⟨q*4294967296,?_,?_⟩;rw[IntKind.wrap_u64];omega;rw[IntKind.wrap_u64];omega
theorem final{d1 d0 v rem s:Nat}(hv:v=(u*4294967296+d1)%Y)(hq:q=(u*4294967296+d1)/Y)(hp:p=(v*4294967296+d0)/Y)(hd:quo=(u*18446744073709551616+d1*4294967296+d0)/Y/\rem=(u*18446744073709551616+d1*4294967296+d0)%Y/2^s)(hY:0<Y):quo=q*4294967296+p/\rem=(v*4294967296+d0)%Y/2^s:=by obtain⟨t1,t2⟩:=Nm.T_ (u:=u) (d1:=d1) (d0:=d0) hY;rw[hd.1,hd.2,t1,t2,hq,hp,hv];exact⟨rfl,rfl⟩
theorem RD(hi lo y:Nat)(h0:hi≠0)(hh:hi<y)(hl:lo<18446744073709551616)(hy:y<18446744073709551616)(w:World):ar 222 #[aH (hi:Int),aH (lo:Int),aH (y:Int)] w (.tuple #[aH (((hi*18446744073709551616+lo)/y:Nat):Int),aH (((hi*18446744073709551616+lo)%y:Nat):Int)]):=by
 have f1:¬(y:Int)=0:=by omega
 have f2:¬(y:Int)<=(hi:Int):=by omega
 have f3:¬(hi:Int)=0:=by omega
 obtain⟨s,hs,hse,hs1,hs2⟩:=Nm.lead (y:=y) (by omega) hy
 have cL:∀w,aU 242 #[aH (y:Int)] w fun e w'=>e=.returned (i_ (s:Nat))/\w=w':=fun w=>
  (Tryz.bits_LeadingZeros64 (y:Int) w (by omega) (by omega)).mono fun _ _ ⟨he,hw⟩=>⟨by rw[he,bU,hse],hw.symm⟩
 have KL:=h_ cL;clear cL hse;obtain⟨quo,Yx⟩:∃z,z=(hi*18446744073709551616+lo)/y:=⟨_,rfl⟩;obtain⟨rem,Zd⟩:∃z,z=(hi*18446744073709551616+lo)%y:=⟨_,rfl⟩;rw[<-Yx,<-Zd];have HQ:Hid (quo<18446744073709551616):=h_ (by rw[Yx];exact(ie (by omega)).2 (by omega));have Ze:0<2^s:=dr (by decide);obtain⟨Y,hY⟩:∃Y,Y=y*2^s:=⟨_,rfl⟩;obtain⟨h,hh2⟩:∃h,h=hi*2^s:=⟨_,rfl⟩;obtain⟨l,hl2⟩:∃l,l=lo/2^(64-s):=⟨_,rfl⟩;obtain⟨L,hL⟩:∃L,L=lo*2^s%18446744073709551616:=⟨_,rfl⟩;have hLl:L<18446744073709551616:=by rw[hL];exact bq _ (by decide)
 rw[<-hY]at hs1 hs2;have hX:=z8 hi lo s hs;rw[<-hh2,<-hl2,<-hL]at hX;obtain⟨mq,mr⟩:=Nm.QE (h:=hi*18446744073709551616+lo) (y:=y) Ze;rw[<-Yx,<-hY,hX]at mq;rw[<-Zd,<-hY,hX]at mr
 have huY:h+l<Y:=by
  have h1:(hi*18446744073709551616+lo)*2^s<y*18446744073709551616*2^s:=nQ (by omega) Ze;rw[hX,jc,gd _ (2^s),<-Nat.mul_assoc,<-hY]at h1;omega
 have a1:IntKind.u64.wrap ((y:Int)*2^s)=(Y:Nat):=by rw[Aa,jz,<-hY,bp hs2]
 have a4:IntKind.u64.wrap ((hi:Int)*2^s)=(h:Nat):=by rw[Aa,jz,<-hh2,bp (by omega)]
 have a5:bits .or .u64 (h:Int) ((lo:Int)/2^(64-s))=((h+l:Nat):Int):=by
  rw[NQ h lo (64-s) (by omega) hl,jx,hh2,No hi lo s hs hl,<-hh2,<-hl2]
 have a6:IntKind.u64.wrap ((lo:Int)*2^s)=(L:Nat):=by rw[Aa,jz,<-hL]
 obtain⟨u,hu⟩:∃u,u=h+l:=⟨_,rfl⟩;rw[<-hu]at a5 huY mq mr;have a2:(Y:Int)/4294967296=(Y/4294967296:Nat):=by omega
 have a3:=BO Y hs2;have a7:(L:Int)/4294967296=(L/4294967296:Nat):=by omega
 have a8:=BO L hLl;obtain⟨y1,hy1⟩:∃z,z=Y/4294967296:=⟨_,rfl⟩;obtain⟨y0,hy0⟩:∃z,z=Y%4294967296:=⟨_,rfl⟩;obtain⟨d1,UX⟩:∃z,z=L/4294967296:=⟨_,rfl⟩;obtain⟨d0,hd0⟩:∃z,z=L%4294967296:=⟨_,rfl⟩;rw[<-hy1]at a2;rw[<-hy0]at a3;rw[<-UX]at a7;rw[<-hd0]at a8;have ab8:2147483648<=y1:=by omega
 have Xo:y1<4294967296:=by omega
 have Yy:y0<4294967296:=by omega
 have YS:d1<4294967296:=by omega
 have YT:d0<4294967296:=by omega
 have HY:Hid (Y=y1*4294967296+y0):=h_ (by omega);have hYp:0<Y:=by omega
 have hYl:=hs2;have e64:u*18446744073709551616+L=u*18446744073709551616+d1*4294967296+d0:=by omega
 rw[e64]at mq mr;have HD:Hid (quo=(u*18446744073709551616+d1*4294967296+d0)/Y/\rem=(u*18446744073709551616+d1*4294967296+d0)%Y/2^s):=h_ ⟨mq.symm,mr.symm⟩;have k1:Nm.KY u d1 y1 y0:=⟨ab8,Xo,Yy,YS,by rw[<-HY.out];exact huY⟩;have K1:=h_ k1;obtain⟨q,r,m,s1,s2,s3,s4,s5⟩:=JD k1;have Wq:=h_ (dQ s4 s5);have f4:¬(y1:Int)=0:=by omega
 have hb0:=aA w.heap.size w;clear k1 s4 s5 e64 mq mr UX hd0 hy1 hy0 hX huY hLl hu hl2 hh2 hL hY hs1 Yx Zd Ze;go_enter Tryz.func222,Tryz.ntmps222;go_wp2_with (go_at_call 242;refine(KL.out _).mono ?_;rintro e w3 ⟨rfl,rfl⟩)
 clear a1 a2 a3 a4 a5 a6 a7 a8 s1 s2 s3 f1 f2 f3;go_loopw [15,16] (fun qv rv wr=>∃q r:Nat,qv=aH (q:Nat)/\rv=aH (r:Nat)/\w=wr/\Hid (Nm.KI u d1 y1 y0 q r/\r<4294967296)) (fun qv _ _=>(intOf qv).toNat)
 case atStart=>exact⟨_,_,rfl,rfl,rfl,Wq⟩
 case round=>
  obtain⟨q1,r1,rfl,rfl,rfl,HI⟩:=hrel;obtain⟨hI,hr⟩:=HI.out;have hle:=hI.le;by_cases hq:4294967296<=q1
  case' pos=>
   have hq2:(4294967296:Int)<=(q1:Int):=by omega
   have hn:=hI.next K1.out (.inl hq);have hpos:0<q1:=eH (bB _) (hI.more K1.out (.inl hq));obtain⟨p1,t1,n1,n2,n3,n4⟩:=xp hpos hle hr Xo;rw[<-n3,<-n4]at hn;by_cases hb:4294967296<=t1
   case' pos=>
    have hend:=hn.leave K1.out hb (by omega);rw[<-HY.out]at hend;have WI:=h_ hend;have hb2:(4294967296:Int)<=(t1:Int):=(by omega);clear hend hn hpos n3 n4 hI hle hr hb
   case neg=>
    have hb2:decide ((4294967296:Int)<=(t1:Int))=false:=aE (by omega);have HN:=h_ (dQ hn (show t1<4294967296 by omega));have HM:Hid (p1<q1):=h_ (by omega);clear hn hpos n3 n4 hI hle hr hb;(go_wp2_with fail);go_roundw
    case rel=>exact⟨_,_,rfl,rfl,by trivial,HN⟩
    case measure=>have:=HM.out;simp[intOf];omega
  case' neg=>
   obtain⟨P,R,S,g1,g2,g3,g4,g5⟩:=Hs (q:=q1) (by omega) hr Yy YS;have hq2:decide ((4294967296:Int)<=(q1:Int))=false:=aE (by omega);by_cases hc:S<P
   case' pos=>
    have hc2:(S:Int)<(P:Int):=(by omega);have hn:=hI.next K1.out (.inr (by omega));have hpos:0<q1:=eH (bB _) (hI.more K1.out (.inr (by omega)));obtain⟨p1,t1,n1,n2,n3,n4⟩:=xp hpos hle hr Xo;rw[<-n3,<-n4]at hn;by_cases hb:4294967296<=t1
    case' pos=>
     have hend:=hn.leave K1.out hb (by omega);rw[<-HY.out]at hend;have WI:=h_ hend;have hb2:(4294967296:Int)<=(t1:Int):=(by omega);clear hend hn hpos n3 n4 hI hle hr hb
    case neg=>
     have hb2:decide ((4294967296:Int)<=(t1:Int))=false:=aE (by omega);have HN:=h_ (dQ hn (show t1<4294967296 by omega));have HM:Hid (p1<q1):=h_ (by omega);clear hn hpos n3 n4 hI hle hr hb;(go_wp2_with fail);go_roundw
     case rel=>exact⟨_,_,rfl,rfl,by trivial,HN⟩
     case measure=>have:=HM.out;simp[intOf];omega
   case' neg=>
    have hc2:¬(S:Int)<(P:Int):=(by omega);have hend:=hI.stop K1.out (by omega);rw[<-HY.out]at hend;have WI:=h_ hend;clear hend hI hle hr g4 g5 hc hq
  all_goals
   obtain⟨m1,m2,m3,v,b1,b2,b3,b4,b5⟩:=Lm hYp hYl WI.out;have k2:Nm.KY v d0 y1 y0:=⟨ab8,Xo,Yy,YT,by rw[<-HY.out,b5];exact bq _ hYp⟩;have K2:=h_ k2;have HV:=h_ b5;obtain⟨q0,r0,m0,s1,s2,s3,s4,s5⟩:=JD k2;have HS2:=h_ (dQ s4 s5);clear k2 b5 s4 s5;go_wp2_with fail
   clear b1 b2 b3 b4 s1 s2 s3;first|clear hb2 n1 n2|clear hc2 g1 g2 g3 hq2
   go_loopw [18,16] (fun qv rv wr=>∃q r:Nat,qv=aH (q:Nat)/\rv=aH (r:Nat)/\w=wr/\Hid (Nm.KI v d0 y1 y0 q r/\r<4294967296)) (fun qv _ _=>(intOf qv).toNat)
   case atStart=>exact⟨_,_,rfl,rfl,rfl,HS2⟩
   case round=>
    obtain⟨q2,r2,rfl,rfl,rfl,HI⟩:=hrel;obtain⟨hI,hr⟩:=HI.out;have hle:=hI.le;by_cases hq:4294967296<=q2
    case' pos=>
     have hq2:(4294967296:Int)<=(q2:Int):=(by omega);have hn:=hI.next K2.out (.inl hq);have hpos:0<q2:=eH (bB _) (hI.more K2.out (.inl hq));obtain⟨p2,t2,n1,n2,n3,n4⟩:=xp hpos hle hr Xo;rw[<-n3,<-n4]at hn;by_cases hb:4294967296<=t2
     case' pos=>
      have hend:=hn.leave K2.out hb (by omega);rw[<-HY.out]at hend;have HE2:=h_ hend;have hb2:(4294967296:Int)<=(t2:Int):=(by omega);clear hend hn hpos n3 n4 hI hle hr hb
     case neg=>
      have hb2:decide ((4294967296:Int)<=(t2:Int))=false:=aE (by omega);have HN:=h_ (dQ hn (show t2<4294967296 by omega));have HM:Hid (p2<q2):=h_ (by omega);clear hn hpos n3 n4 hI hle hr hb;(go_wp2_with fail);go_roundw
      case rel=>exact⟨_,_,rfl,rfl,by trivial,HN⟩
      case measure=>have:=HM.out;simp[intOf];omega
    case' neg=>
     obtain⟨P,R,S,g1,g2,g3,g4,g5⟩:=Hs (q:=q2) (by omega) hr Yy YT;have hq2:decide ((4294967296:Int)<=(q2:Int))=false:=aE (by omega);by_cases hc:S<P
     case' pos=>
      have hc2:(S:Int)<(P:Int):=(by omega);have hn:=hI.next K2.out (.inr (by omega));have hpos:0<q2:=eH (bB _) (hI.more K2.out (.inr (by omega)));obtain⟨p2,t2,n1,n2,n3,n4⟩:=xp hpos hle hr Xo;rw[<-n3,<-n4]at hn;by_cases hb:4294967296<=t2
      case' pos=>
       have hend:=hn.leave K2.out hb (by omega);rw[<-HY.out]at hend;have HE2:=h_ hend;have hb2:(4294967296:Int)<=(t2:Int):=(by omega);clear hend hn hpos n3 n4 hI hle hr hb
      case neg=>
       have hb2:decide ((4294967296:Int)<=(t2:Int))=false:=aE (by omega);have HN:=h_ (dQ hn (show t2<4294967296 by omega));have HM:Hid (p2<q2):=h_ (by omega);clear hn hpos n3 n4 hI hle hr hb;(go_wp2_with fail);go_roundw
       case rel=>exact⟨_,_,rfl,rfl,by trivial,HN⟩
       case measure=>have:=HM.out;simp[intOf];omega
     case' neg=>
      have hc2:¬(S:Int)<(P:Int):=(by omega);have hend:=hI.stop K2.out (by omega);rw[<-HY.out]at hend;have HE2:=h_ hend;clear hend hI hle hr g4 g5 hc hq
    all_goals
     obtain⟨xw,Zf⟩:=final HV.out WI.out HE2.out HD.out hYp;obtain⟨m4,c1,c2⟩:=N_ xw HQ.out;obtain⟨m5,m6,m7,v2,c3,c4,c5,c6,c7⟩:=Lm hYp hYl HE2.out;rw[<-c7]at Zf;have c8:(v2:Int)/2^s=(rem:Nat):=(by rw[Zf];simp);clear xw Zf c7;(go_wp2_with fail);exact ay (v:=.tuple #[aH (quo:Nat),aH (rem:Nat)]) (by simp[results,Tryz.results222,go_sem]) rfl ⟨rfl,hb0⟩
theorem TW(lo y:Nat)(hh:0<y)(hl:lo<18446744073709551616)(hy:y<18446744073709551616)(w:World):ar 222 #[aH 0,aH (lo:Int),aH (y:Int)] w (.tuple #[aH ((lo/y:Nat):Int),aH ((lo%y:Nat):Int)]):=by
 have f1:¬(y:Int)=0:=by omega
 have f2:¬(y:Int)<=(0:Int):=by omega
 obtain⟨q,hq⟩:∃q,q=lo/y:=⟨_,rfl⟩;obtain⟨r,hr⟩:∃r,r=lo%y:=⟨_,rfl⟩
 have z1:IntKind.u64.wrap ((lo:Int)/(y:Int))=(q:Nat):=by
  rw[<-Int.natCast_ediv,<-hq];exact Ai (by rw[hq];exact eH (f' _ _) hl)
 have z2:(lo:Int)%(y:Int)=(r:Nat):=by rw[hr];rfl
 rw[<-hq,<-hr];clear hq hr;go_enter Tryz.func222,Tryz.ntmps222;go_wp2_with fail
 refine wp_region_quiet_below (by kernel_rfl) (by kernel_rfl) ?_;repeat(go_big_quiet_step (fail))
 refine wpQuiet_nil ?_;intro _ hw';obtain⟨p,hw''⟩:=hw';subst hw'';have hb:=below_regrown w p.d p.os;go_wp2_with fail
 exact ay (v:=.tuple #[aH (q:Nat),aH (r:Nat)]) (by simp[results,Tryz.results222,go_sem,z2]) rfl ⟨rfl,hb⟩
theorem L9(hi lo y:Nat)(hh:hi<y)(hl:lo<18446744073709551616)(hy:y<18446744073709551616)(w:World):ar 222 #[aH (hi:Int),aH (lo:Int),aH (y:Int)] w (.tuple #[aH (((hi*18446744073709551616+lo)/y:Nat):Int),aH (((hi*18446744073709551616+lo)%y:Nat):Int)]):=by by_cases h0:hi=0;subst h0;rw[Nat.zero_mul,cy];exact TW lo y hh hl hy w;exact RD hi lo y h0 hh hl hy w
theorem Nm.Xp{b:Nat}(k:Nat)(hb:0<b):Nm.wd (x/b) k=(x/2^(64*(k+1))%b*18446744073709551616+Nm.wd x k)/b/\x/2^(64*k)%b=(x/2^(64*(k+1))%b*18446744073709551616+Nm.wd x k)%b:=by
 have e1:x/2^(64*(k+1))=x/2^(64*k)/18446744073709551616:=by rw[nM,show(18446744073709551616:Nat)=2^64 from rfl,<-Nat.pow_add,j9]
 have e2:x/b/2^(64*k)=x/2^(64*k)/b:=by rw[nM,nM,gd]
 unfold Nm.wd;rw[e1,e2];generalize x/2^(64*k)=n;have hM:=jv n 18446744073709551616;have hd:=bq n (show 18446744073709551616 > 0 by decide);generalize n/18446744073709551616=M at*;generalize n%18446744073709551616=d at*;have hr:=bq M hb;have hQ:=jv M b
 have e:n=b*(M/b*18446744073709551616)+(M%b*18446744073709551616+d):=by
  rw[<-Nat.mul_assoc];generalize b*(M/b)=z at*;omega
 have hs:(M%b*18446744073709551616+d)/b<18446744073709551616:=(ie hb).2 (by omega);rw[e,gK hb,Nat.mul_add_mod];refine⟨?_,rfl⟩;rw[gx,Nat.add_mul_mod_self_right,bp hs]
variable{g:Nat->Nat}
theorem Tm.on{w wr w':World}{A R O:Nat}(h:Tm w wr A R O x g)(hb:Bl wr w'):Tm w w' A R O x g:=⟨ai h.below hb,h.a.on hb,h.r.on hb,h.o.on hb⟩
def gN(z k:Nat)(g:Nat->Nat):Prop:=∀j,k<=j->j<4->g j=Nm.wd z j
theorem gN.next{z k:Nat}(h:gN z (k+1) g):gN z k (dk g k (Nm.wd z k)):=fun j h1 h2=>by
 unfold dk;split
 ·rename_i e;rw[e]
 ·rename_i e;exact h j (by omega) h2
theorem over(x b:Nat)(hx:x<Nm.ak)(hb:b<18446744073709551616)(w:World):ar 214 #[.agg (aa x),aH (b:Int)] w (.tuple #[.agg (aa (x/b)),aH ((if b=0 then 0 else x%b:Nat):Int)]):=by
 by_cases h0:b=0
 ·subst h0;have hz:aa (x/0)=aa 0:=by rw[Nat.div_zero]
  rw[aj rfl,hz];clear hz;go_enter Tryz.func214,Tryz.ntmps214;go_wp2_with fail
  generalize hw1:World.alloc _ _=w1;have hr:Has w1 (w.heap.size+1) (aa 0) 26:=by rw[<-hw1];exact Has.Vt _ (aa 0) _
  have bj:Below w.heap.size w w1:=by rw[<-hw1];exact cu.alloc (by simp) _
  clear hw1;exact ay (v:=.tuple #[.agg (aa 0),aH 0]) (mM Tryz.results214 _ _ _ _ rfl rfl hr) rfl ⟨rfl,bj⟩
 ·rw[ah h0];have hb0:¬(b:Int)=0:=by omega
  have hbz:((b:Int)==0)=false:=by simp;omega
  have HB0:Hid (0<b):=h_ (by omega);have HBB:=h_ hb;have HX:=h_ hx;clear hb hx h0;go_enter Tryz.func214,Tryz.ntmps214;go_upto_region 5 with fail
  generalize hw1:World.alloc _ _=w1
  have h0:Tm w w1 w.heap.size (w.heap.size+1) (w.heap.size+1+1) x (fun _=>0):=by
   rw[<-hw1];exact⟨(cu.alloc (by simp) _).alloc (by simp;omega) _,((Has.new _ _).alloc _).alloc _,(Has.Vt _ (aa 0) _).alloc _,Has.VT _ _ (aD fun _=>0) _⟩
  clear hw1;generalize hB:w.heap.size+1+1=O at*;generalize hC:w.heap.size+1=R at*;generalize hD:w.heap.size=A at*;have HO:Hid (w.heap.size<=O):=h_ (by omega);have HR:Hid (w.heap.size<=R):=h_ (by omega);have H1:Hid (A≠O):=h_ (by omega);have H3:Hid (R≠O):=h_ (by omega);clear hB hC hD;go_wp2_with fail
  go_loopw [7,8] (fun c i wr=>∃g:Nat->Nat,Tm w wr A R O x g/\((∃k:Nat,k<=3/\i=i_ k/\c=aH ((x/2^(64*(k+1))%b:Nat):Int)/\Hid (gN (x/b) (k+1) g))\/(i=i_ (-1)/\c=aH ((x%b:Nat):Int)/\Hid (gN (x/b) 0 g)))) (fun _ i _=>(intOf i+1).toNat)
  case atStart=>exact⟨_,h0,.inl ⟨3,by omega,rfl,by rw[eY (by have:=HX.out;rw[Nm.dj]at this;exact this),Nat.zero_mod];rfl,h_ (fun j h1 h2=>by omega)⟩⟩
  case round=>
   obtain⟨g,hs,⟨k,hk,rfl,rfl,HG⟩|⟨rfl,rfl,HG⟩⟩:=hrel
   ·have hst:=Nm.Xp (x:=x) k HB0.out;have hrl:=bq (x/2^(64*(k+1))) HB0.out;generalize x/2^(64*(k+1))%b=r at*;have cD:=fun w=>L9 r (Nm.wd x k) b hrl (Nm.ft x k) HBB.out w
    rw[<-hst.1,<-hst.2]at cD;have KD:=h_ cD;have c1:=hs.a.num (j:=k) (by omega);clear cD hst hrl;(go_wp2_with fail);refine az (KD.out _) fun w' hbw=>?_;have hs2:=hs.on hbw;have co:=hs2.o.word (j:=k) (by omega);have fo:=hs2.o.free k;clear c1 hs hbw;(go_wp2_with fail);have hs3:=hs2.set k (Nm.wd (x/b) k) (by omega) H1.out H3.out HO.out;clear hs2 co fo;generalize World.setCell _ _ _=w4 at*;(go_wp2_with fail);go_roundw
    case rel=>
     refine⟨_,hs3,?_⟩;by_cases hk0:k=0;subst hk0;exact .inr ⟨rfl,by simp,h_ (gN.next HG.out)⟩;exact .inl ⟨k-1,by omega,aJ (Value.int .i64) (by omega),by rw[show k-1+1=k by omega];simp,by rw[show k-1+1=k by omega];exact h_ (gN.next HG.out)⟩
    case measure=>first|(simp[intOf];done)|(simp[intOf];omega)
   ·have e:=oT (g:=g) (x:=x/b) (h_ fun j hj=>HG.out j (by omega) hj);have ho:=hs.o;have hr:=hs.r;have bj:=hs.below;rw[e]at ho;clear e hs
    go_wp2_with (first
     | (with_reducible refine a_ rfl _ rfl _ rfl _ ho rfl ?_)
     | (with_reducible refine cB rfl _ _ rfl _ _ rfl rfl _ hr rfl ?_))
    exact ay (v:=.tuple #[.agg (aa (x/b)),aH ((x%b:Nat):Int)]) (mM Tryz.results214 _ _ _ _ rfl rfl (hr.row _)) rfl ⟨rfl,below_setRow bj HR.out _⟩
