import Derived.Test.YtkbjaadjnbgfbaaGreatDoorBBunQ20
import Derived.Test.YtkbjaadjnbgfbaaGreatDoorBBunQ14
set_option maxRecDepth 100000
set_option maxHeartbeats 4000000
namespace Go.Proofs.YtkbjaadjnbgfbaaGreatDoor
namespace NN
open Go.RowKit
theorem BE:∀(f x:Nat),x<2^f->f<=64->Lib.bitLen x=Nm.len x
 | 0,x,h,_=>by
  have:x=0:=by simpa using h
  subst this;rfl
 | f+1,x,h,hf=>by
  by_cases h0:x=0;subst h0;rfl;have hx:x<2^64:=Nat.lt_of_lt_of_le h (Nat.pow_le_pow_right (by decide) hf);rw[Lib.bitLen_half x h0 hx,BE f (x/2) (by rw[Nat.pow_succ]at h;omega) (by omega)];by_cases h1:x/2=0;obtain rfl:x=1:=(by omega);rfl;refine Nm.rF (Nm.Ms (k:=1) ?_ ?_);rw[Nat.pow_one];exact Nm.iu _;rw[Nat.pow_one];exact h1
theorem zQ(n:Nat)(hn:n<18446744073709551616)(w:World):aG 218 #[ay (n:Int)] w fun e w'=>e=.returned (i_ (Nm.len n:Nat))/\w=w':=(Tryz.bits_Len64 (n:Int) w (by omega) (by omega)).mono fun _ _ ⟨he,hw⟩=>⟨by rw[he,Int.toNat_natCast,BE 64 n hn (by omega)],hw.symm⟩
variable{x:Nat}
theorem F_{n:Nat}(h:x<2^n)(hn:n<=256):Nm.len x<=256:=Nat.le_trans (Nm.gY h) hn
theorem len(x:Nat)(hx:x<Nm.ai)(w:World):ak 208 #[.agg (aa x)] w (i_ (Nm.len x:Nat)):=by
 go_enter Tryz.func208,Tryz.ntmps208;go_wp2_with fail
 generalize hw1:World.alloc _ _=w1;have hA:Has w1 w.heap.size (aa x) 26:=by rw[<-hw1];exact Has.new _ _
 have hB:Bl w w1:=dd hw1;clear hw1;go_loop [3] (fun i=>∃k:Nat,k<=3/\i=i_ k/\Hid (x<2^(64*(k+1)))) (fun i=>(intOf i).toNat)
 case atStart=>exact⟨3,by omega,rfl,h_ (by rw[Nm.bU]at hx;exact hx)⟩
 case round=>
  obtain⟨k,hk,rfl,HK⟩:=hrel;by_cases h0:0<k
  ·have c1:=hA.num (j:=k) (by omega);by_cases hz:Nm.wd x k=0
   ·have hn:=Nm.Kx HK.out hz;have HN:=h_ hn;rw[hz]at c1;clear hn hz;(go_wp2_with fail);go_round
    case rel=>exact⟨k-1,by omega,congrArg (Value.int .i64) (by omega),by rw[show k-1+1=k by omega];exact HN⟩
    case measure=>simp[intOf];omega
   ·have e:64*k+Nm.len (Nm.wd x k)=Nm.len x:=by
     refine Nm.rF (Nm.Ms ?_ ?_);rw[Nm.lr HK.out];exact Nm.iu _;rw[<-Nm.lr HK.out];exact hz
    have hl:=Nm.dx x k;have hz':0<Nm.wd x k:=(by omega);generalize Nm.wd x k=v at*;have hle:=F_ (x:=v) (n:=64) hl (by omega);have hlc:=zQ v hl;generalize Nm.len v=n at*;have E:=h_ e;have HC:=h_ hlc;clear e hz hl hlc;obtain rfl|rfl|rfl:k=1\/k=2\/k=3:=by omega
    all_goals
     go_wp2_with (go_at_call 218;((with_reducible refine(HC.out _).mono ?_));rintro e w' ⟨rfl,rfl⟩)
     go_ret;exact⟨congrArg (fun n=>Ending.returned (i_ n)) (by rw[<-E.out];omega),hB⟩
  ·obtain rfl:k=0:=by omega
   have c1:=hA.num (j:=0) (by omega);have hl:=Nm.dx x 0;have e:Nm.wd x 0=x:=by rw[Nm.lr HK.out];simp
   rw[e]at hl c1;have hlc:=zQ x hl;obtain⟨m,hm⟩:∃m,m=Nm.len x:=⟨_,rfl⟩;rw[<-hm]at hlc;have HM:=h_ hm;clear hm;have HC:=h_ hlc;clear e hl hlc;go_wp2_with (go_at_call 218;((with_reducible refine(HC.out _).mono ?_));rintro e w' ⟨rfl,rfl⟩)
   go_ret;exact⟨by rw[<-HM.out];rfl,hB⟩
theorem E_(z:Nat)(w:World):(Instr.index 26 (.agg (aa z)) (i_ 0)).run Tryz.prog w=.ok (ay (Nm.wd z 0:Nat)) w:=by kernel_rfl
theorem G2(b t:Nat)(hb:b<=33)(ht:t<16777216):bits .or .i64 ((b:Int)*16777216) (t:Int)=((b*16777216+t:Nat):Int):=by
 have h1:=RK (b*16777216) t (by omega) (by omega)
 rw[show(b*16777216|||t)=b*16777216+t from(by
  rw[Nat.mul_comm];exact(Nat.two_pow_add_eq_or_of_lt (i:=24) ht b).symm)] at h1
 rw[<-h1];congr 1
theorem encode(x:Nat)(hx:x<Nm.ai)(w:World):ak 201 #[.agg (aa x)] w (i_ (Nm.enc x:Nat)):=by
 obtain⟨l,hl⟩:∃l,l=Nm.len x:=⟨_,rfl⟩;obtain⟨b,hb⟩:∃b,b=Nm.bl x:=⟨_,rfl⟩;obtain⟨t,ht⟩:∃t,t=Nm.mN x:=⟨_,rfl⟩;have hl2:l<=256:=by rw[hl];exact Nm.yA hx
 have hb2:b<=32:=by rw[hb];exact Nm.x9 hx
 have hbl:b=(l+7)/8:=by rw[hb,hl];rfl
 have ht2:t<16777216:=by rw[ht];exact Nm.DK
 have cL:=len x hx;rw[<-hl]at cL;have cM:=gR x (3-(b:Nat)) hx (by omega) (by omega);obtain⟨z,hz⟩:∃z,z=Nm.mv x (3-(b:Nat)):=⟨_,rfl⟩;have hwd:Nm.wd z 0=t:=by rw[ht,Nm.mY,hz,hb];rfl
 have hix:=E_ z;rw[hwd]at hix;rw[<-hz]at cM;have CL:=h_ cL;have CM:=h_ cM;have hE:Nm.enc x=if t<8388608 then b*16777216+t else(b+1)*16777216+t/256:=by rw[ht,hb];rfl
 rw[hE];have eB:((l:Int)+8-1)/8=(b:Nat):=by omega
 have eS:=Mm t (by omega);clear hl hb ht hz hwd hE cL cM hbl;by_cases h:t<8388608
 ·rw[if_pos h];rw[show t/8388608%2*8388608=0 by omega]at eS;have eO:=G2 b t (by omega) ht2;generalize b*16777216+t=r at*;clear h;go_enter Tryz.func201,Tryz.ntmps201;go_upto_region 1 with fail
  generalize hw1:World.alloc _ _=w1;have hA:Has w1 w.heap.size (aa x) 26:=by rw[<-hw1];exact Has.new _ _
  have hB:Bl w w1:=dd hw1;clear hw1;go_wp2_with (with_reducible refine aK rfl _ rfl _ rfl _ hA rfl ?_)
  refine au (CL.out _) fun w2 hb2=>?_;replace hA:=hA.on hb2;replace hB:=ah hB hb2;clear hb2;go_wp2_with (with_reducible refine aK rfl _ rfl _ rfl _ hA rfl ?_)
  refine au (CM.out _) fun w3 hb3=>?_;replace hA:=hA.on hb3;replace hB:=ah hB hb3;clear hb3;go_wp2_with fail
  go_ret;exact⟨rfl,hB⟩
 ·rw[if_neg h];rw[show t/8388608%2*8388608=8388608 by omega]at eS;obtain⟨u,hu⟩:∃u,u=t/256:=⟨_,rfl⟩;obtain⟨c,hc⟩:∃c,c=b+1:=⟨_,rfl⟩;rw[<-hu,<-hc];have eU:(t:Int)/256=(u:Nat):=by omega
  have eC:(b:Int)+1=(c:Nat):=by omega
  have hc2:c<=33:=by omega
  have hu2:u<16777216:=by omega
  have eO:=G2 c u hc2 hu2;generalize c*16777216+u=r at*;clear h hu hc;go_enter Tryz.func201,Tryz.ntmps201;go_upto_region 1 with fail
  generalize hw1:World.alloc _ _=w1;have hA:Has w1 w.heap.size (aa x) 26:=by rw[<-hw1];exact Has.new _ _
  have hB:Bl w w1:=dd hw1;clear hw1;go_wp2_with (with_reducible refine aK rfl _ rfl _ rfl _ hA rfl ?_)
  refine au (CL.out _) fun w2 hb2=>?_;replace hA:=hA.on hb2;replace hB:=ah hB hb2;clear hb2;go_wp2_with (with_reducible refine aK rfl _ rfl _ rfl _ hA rfl ?_)
  refine au (CM.out _) fun w3 hb3=>?_;replace hA:=hA.on hb3;replace hB:=ah hB hb3;clear hb3;go_wp2_with fail
  go_ret;exact⟨rfl,hB⟩
structure pV (w wr:World) (A x:Nat):Prop where
 below:Bl w wr
 a:Has wr A (aa x) 26
theorem pV.on{w wr w':World}{A:Nat}(h:pV w wr A x)(hb:Bl wr w'):pV w w' A x:=⟨ah h.below hb,h.a.on hb⟩
theorem DY(x i:Nat)(hx:x<Nm.ai)(hi:i<=32)(m:Int)(hm:m = -8*(i:Int))(w:World):ak 145 #[.agg (aa x),i_ m] w (.agg (aa (Nm.down x (8*i)))):=by
 have h:=nC x (-(i:Int)) hx (by omega) (by omega) m (by omega) w
 have e:Nm.mv x (-(i:Int))=Nm.down x (8*i):=by
  unfold Nm.mv;by_cases h0:i=0;subst h0;rw[if_neg (by omega),show(-((0:Nat):Int)).toNat=0 from rfl,Nat.mul_zero,Nm.vl hx,Nm.G7];rw[if_pos (by omega),Int.neg_neg,Int.toNat_natCast]
 rwa[e]at h
theorem Q3(x:Nat)(hx:x<Nm.ai)(w:World):ak 193 #[.agg (aa x)] w (i_ (Nm.enc x:Nat)):=by
 obtain⟨b,hb⟩:∃b,b=Nm.bl x:=⟨_,rfl⟩;obtain⟨t,ht⟩:∃t,t=Nm.mN x:=⟨_,rfl⟩;have hb2:b<=32:=by rw[hb];exact Nm.x9 hx
 have ht2:t<16777216:=by rw[ht];exact Nm.DK
 have hE:Nm.enc x=if t<8388608 then b*16777216+t else(b+1)*16777216+t/256:=by rw[ht,hb];rfl
 obtain⟨r,hr⟩:∃r,r=Nm.enc x:=⟨_,rfl⟩;rw[<-hr];rw[hE]at hr;have HR:=h_ hr;obtain⟨z,hz⟩:∃z,z=Nm.mv x (3-(b:Nat)):=⟨_,rfl⟩;have hwd:Nm.wd z 0=t:=by rw[ht,Nm.mY,hz,hb];rfl
 have hix:=E_ z;rw[hwd]at hix
 have cM:∀(m:Int),m=8*(3-(b:Nat))->b_ 145 #[.agg (aa x),i_ m] (.agg (aa z)):=fun m hm w=>by
  rw[hz];exact nC x (3-(b:Nat)) hx (by omega) (by omega) m hm w
 have CM:=h_ cM;have HB:=h_ hb;clear hb ht hz hwd hE cM hr;go_enter Tryz.func193,Tryz.ntmps193;go_upto_region 1 with fail
 generalize hw1:World.alloc _ _=w1;have hO:pV w w1 w.heap.size x:=by rw[<-hw1];exact⟨aY,Has.new _ _⟩
 clear hw1;generalize hA:w.heap.size=A at*;have HA:=h_ hA;clear hA;go_wp2_with fail
 go_loopw [3,4] (fun s i wr=>∃k:Nat,k<=32/\i=i_ k/\s=i_ (Nm.bl (x%2^(8*k)):Nat)/\pV w wr A x) (fun _ i _=>32-(intOf i).toNat)
 case atStart=>exact⟨0,by omega,rfl,by rw[Nm.vu];rfl,hO⟩
 case round=>
  obtain⟨k,hk,rfl,rfl,hs⟩:=hrel;clear hO;by_cases hlt:k<32
  ·have HN:=h_ (Nm.vU x k);obtain⟨y,hy⟩:∃y,y=Nm.down x (8*k):=⟨_,rfl⟩;have cD:=DY x k hx hk;rw[<-hy]at cD;have CD:=h_ cD;obtain⟨q,hq⟩:∃q,q=x/2^(8*k)%256:=⟨_,rfl⟩;obtain⟨g,hg⟩:∃g,g=Nm.wd y 0:=⟨_,rfl⟩
   have eQ:(g:Int)%256=(q:Nat):=by
    rw[hg,hq,hy,Nm.mY,Nm.CN];generalize x/2^(8*k)=m;omega
   rw[<-hq]at HN;have HG:=h_ hg;clear cD hy hq hg;generalize Nm.bl (x%2^(8*k))=s at*;go_wp2_with (with_reducible refine aK rfl _ rfl _ rfl _ hs.a rfl ?_)
   refine au (CD.out _ (by omega) _) fun w3 hb3=>?_;replace hs:=hs.on hb3;clear hb3;have hZ:=Has.R2 (w:=w3) 26;go_upto_region 6 with(with_reducible refine bg rfl _ _ rfl _ _ rfl rfl _ hZ rfl ?_)
   generalize hw4:World.setRow _ _ _=w4;have hb4:Below w3.heap.size w3 w4:=cU hw4;have hY:Has w4 w3.heap.size (aa y) 26:=by rw[<-hw4];exact hZ.row _
   replace hs:=hs.on hb4;generalize w3.heap.size=D at*;have c1:=hY.num (j:=0) (by omega);rw[<-HG.out]at c1;clear hw4 hb4 hZ;by_cases hp:0<q
   ·have hn:=HN.out;rw[if_pos hp]at hn;have H2:=h_ hn;clear hn HN;(go_wp2_with fail);go_roundw
    case rel=>exact⟨k+1,by omega,by go_num,by rw[H2.out];go_num,hs⟩
    case measure=>simp[intOf];omega
   ·obtain rfl:q=0:=(by omega);have hn:=HN.out;rw[if_neg hp]at hn;have H2:=h_ hn;clear hn HN hp;(go_wp2_with fail);go_roundw
    case rel=>exact⟨k+1,by omega,by go_num,by rw[H2.out],hs⟩
    case measure=>simp[intOf];omega
  ·obtain rfl:k=32:=by omega
   rw[Nm.Ay hx,<-HB.out];clear HB hlt;have e2:(t:Int)%16777216=(t:Nat):=by omega
   obtain⟨h3,h⟩|⟨h3,h⟩|⟨h3,h⟩|⟨h3,h⟩:(b<=3/\t<8388608)\/(b<=3/\8388608<=t)\/(3<b/\t<8388608)\/(3<b/\8388608<=t):=by omega
   ·have a3:decide ((3:Int)<(b:Int))=false:=decide_eq_false (by omega);have a8:decide ((8388608:Int)<=(t:Int))=false:=decide_eq_false (by omega);have hr:=HR.out;rw[if_pos (by omega)]at hr;replace HR:=h_ hr;clear hr;clear h h3;(go_wp2_with (with_reducible refine aK rfl _ rfl _ rfl _ hs.a rfl ?_));refine au (CM.out _ (by omega) _) fun w3 hb3=>?_;replace hs:=hs.on hb3;clear hb3;(go_wp2_with fail);go_ret;exact⟨congrArg (fun n=>Ending.returned (i_ n)) (by have:=HR.out;omega),hs.below⟩
   ·have a3:decide ((3:Int)<(b:Int))=false:=decide_eq_false (by omega);have a8:decide ((8388608:Int)<=(t:Int))=true:=decide_eq_true (by omega);have hr:=HR.out;rw[if_neg (by omega)]at hr;replace HR:=h_ hr;clear hr;obtain⟨u,hu⟩:∃u,u=t/256:=⟨_,rfl⟩;have HU:=h_ hu;have eU:(t:Int)/256=(u:Nat):=(by omega);have hu2:u<16777216:=(by omega);clear hu;clear h h3;(go_wp2_with (with_reducible refine aK rfl _ rfl _ rfl _ hs.a rfl ?_));refine au (CM.out _ (by omega) _) fun w3 hb3=>?_;replace hs:=hs.on hb3;clear hb3;(go_wp2_with fail);go_ret;exact⟨congrArg (fun n=>Ending.returned (i_ n)) (by have:=HR.out;have:=HU.out;omega),hs.below⟩
   ·have a3:decide ((3:Int)<(b:Int))=true:=decide_eq_true (by omega);have a8:decide ((8388608:Int)<=(t:Int))=false:=decide_eq_false (by omega);have hr:=HR.out;rw[if_pos (by omega)]at hr;replace HR:=h_ hr;clear hr;clear h h3;(go_wp2_with (with_reducible refine aK rfl _ rfl _ rfl _ hs.a rfl ?_));refine au (CM.out _ (by omega) _) fun w3 hb3=>?_;replace hs:=hs.on hb3;clear hb3;(go_wp2_with (with_reducible refine aK rfl _ rfl _ rfl _ hs.a rfl ?_));refine au (CM.out _ (by omega) _) fun w4 hb4=>?_;replace hs:=hs.on hb4;clear hb4;(go_wp2_with fail);go_ret;exact⟨congrArg (fun n=>Ending.returned (i_ n)) (by have:=HR.out;omega),hs.below⟩
   ·have a3:decide ((3:Int)<(b:Int))=true:=decide_eq_true (by omega);have a8:decide ((8388608:Int)<=(t:Int))=true:=decide_eq_true (by omega);have hr:=HR.out;rw[if_neg (by omega)]at hr;replace HR:=h_ hr;clear hr;obtain⟨u,hu⟩:∃u,u=t/256:=⟨_,rfl⟩;have HU:=h_ hu;have eU:(t:Int)/256=(u:Nat):=(by omega);have hu2:u<16777216:=(by omega);clear hu;clear h h3;(go_wp2_with (with_reducible refine aK rfl _ rfl _ rfl _ hs.a rfl ?_));refine au (CM.out _ (by omega) _) fun w3 hb3=>?_;replace hs:=hs.on hb3;clear hb3;(go_wp2_with (with_reducible refine aK rfl _ rfl _ rfl _ hs.a rfl ?_));refine au (CM.out _ (by omega) _) fun w4 hb4=>?_;replace hs:=hs.on hb4;clear hb4;(go_wp2_with fail);go_ret;exact⟨congrArg (fun n=>Ending.returned (i_ n)) (by have:=HR.out;have:=HU.out;omega),hs.below⟩
theorem Ob(x y:Nat)(hx:x<Nm.ai)(hy:y<Nm.ai)(g:Bool)(hg:decide (x<y)=g)(w:World):ak 102 #[.agg (aa x),.agg (aa y)] w (.bool g):=by rw[<-hg];exact ny x y hx hy w
theorem uY(z:Nat)(hz:z<Nm.ai)(g:Bool)(hg:decide (z=0)=g)(w:World):(binOp .eql 26 (.agg (aa z)) (.agg #[ay 0,ay 0,ay 0,ay 0])).run Tryz.prog w=.ok (.bool g) w:=by rw[<-hg];exact rQ hz (show 0<Nm.ai by decide) w
theorem zG(x y:Nat)(hx:x<Nm.ai)(hy:y<Nm.ai)(g:Bool)(hg:decide (x<y)=g)(w:World):ak 200 #[.agg (aa x),.agg (aa y)] w (.bool g):=by rw[<-hg];exact less x y hx hy w
theorem yU(x:Nat)(hx:x<Nm.ai)(g:Bool)(hg:decide (x=0)=g)(w:World):ak 163 #[.agg (aa x)] w (.bool g):=by rw[<-hg];exact zero x hx w
theorem Kj(b:Int)(z:Nat)(low over g:Bool)(hg:(!low&&!over)=g)(KD:Hid (b_ 162 #[i_ b] (.tuple #[.agg (aa z),.bool low,.bool over])))(w:World):ak 202 #[i_ b] w (.tuple #[.agg (aa z),.bool g]):=by rw[<-hg];exact Qn b z low over KD w
theorem Na(b c:Int)(z y:Nat)(o p g l:Bool)(KI:Hid (b_ 202 #[i_ b] (.tuple #[.agg (aa z),.bool o])))(Yo:Hid (b_ 202 #[i_ c] (.tuple #[.agg (aa y),.bool p])))(KZ:Hid (b_ 163 #[.agg (aa z)] (.bool g)))(KL:Hid (b_ 200 #[.agg (aa y),.agg (aa z)] (.bool l)))(w:World):ak 181 #[i_ b,i_ c] w (.tuple #[.agg (aa (if(o&&p&&!g&&!l)=true then z else 0)),.bool (o&&p&&!g&&!l)]):=by
 go_enter Tryz.func181,Tryz.ntmps181;go_upto_region 1 with fail
 generalize hw0:World.alloc _ _=v0;have hN:Has v0 w.heap.size (aa 0) 26:=by rw[<-hw0];exact Has.R2 _
 have bj:Below w.heap.size w v0:=dd hw0;clear hw0;go_wp2_with (with_reducible first|refine aK rfl _ rfl _ rfl _ hN rfl ?_|refine dG (by with_unfolding_all rfl) _ rfl _ rfl _ hN rfl ?_)
 refine au (KI.out _) fun v1 hb1=>?_;replace hN:=hN.on hb1;replace bj:=ah bj hb1;clear hb1;go_upto_region 2 with(with_reducible refine bg rfl _ _ rfl _ _ rfl rfl _ (Has.R2 _) rfl ?_)
 generalize hw2:World.setRow _ _ _=v2;have hb2:Below v1.heap.size v1 v2:=cU hw2;have hX:Has v2 v1.heap.size (aa z) 26:=by rw[<-hw2];exact(Has.R2 _).row _
 replace hN:=hN.on hb2;replace bj:=ah bj hb2;clear hw2 hb2;generalize v1.heap.size=Xb at hX|-;go_wp2_with (with_reducible first|refine aK rfl _ rfl _ rfl _ (by assumption) rfl ?_|refine dG (by with_unfolding_all rfl) _ rfl _ rfl _ (by assumption) rfl ?_)
 refine au (Yo.out _) fun v3 hb3=>?_;replace hN:=hN.on hb3;replace hX:=hX.on hb3;replace bj:=ah bj hb3;clear hb3;go_upto_region 3 with(with_reducible refine bg rfl _ _ rfl _ _ rfl rfl _ (Has.R2 _) rfl ?_)
 generalize hw4:World.setRow _ _ _=v4;have hb4:Below v3.heap.size v3 v4:=cU hw4;have hY:Has v4 v3.heap.size (aa y) 26:=by rw[<-hw4];exact(Has.R2 _).row _
 replace hN:=hN.on hb4;replace hX:=hX.on hb4;replace bj:=ah bj hb4;clear hw4 hb4;generalize v3.heap.size=YY at hY|-;cases o
 case' true=>
  cases p
  case' true=>
   go_wp2_with (with_reducible first|refine aK rfl _ rfl _ rfl _ (by assumption) rfl ?_|refine dG (by with_unfolding_all rfl) _ rfl _ rfl _ (by assumption) rfl ?_)
   refine au (KZ.out _) fun v5 hb5=>?_;replace hN:=hN.on hb5;replace hX:=hX.on hb5;replace hY:=hY.on hb5;replace bj:=ah bj hb5;clear hb5;cases g
   case' false=>
    (go_wp2_with (with_reducible first|refine aK rfl _ rfl _ rfl _ (by assumption) rfl ?_|refine dG (by with_unfolding_all rfl) _ rfl _ rfl _ (by assumption) rfl ?_));refine au (KL.out _) fun v6 hb6=>?_;replace hN:=hN.on hb6;replace hX:=hX.on hb6;replace hY:=hY.on hb6;replace bj:=ah bj hb6;clear hb6;cases l
 all_goals go_wp2_with (with_reducible first|refine aK rfl _ rfl _ rfl _ (by assumption) rfl ?_|refine dG (by with_unfolding_all rfl) _ rfl _ rfl _ (by assumption) rfl ?_|refine lY rfl _ _ rfl _ 0 _ rfl rfl fN _ hN rfl ?_|refine bg rfl _ _ rfl _ _ rfl rfl _ hN rfl ?_)
 all_goals exact bodyPost_ret (iT Tryz.results181 _ _ _ _ rfl rfl (hN.row _)) rfl ⟨rfl,below_setRow bj (Nat.le_refl _) _⟩
theorem H8(b c:Int)(z y:Nat)(o p q r g l:Bool)(KD:Hid (b_ 109 #[i_ b] (.tuple #[.agg (aa z),.bool o,.bool p])))(Xc:Hid (b_ 109 #[i_ c] (.tuple #[.agg (aa y),.bool q,.bool r])))(hq:∀w,(binOp .eql 26 (.agg (aa z)) (.agg #[ay 0,ay 0,ay 0,ay 0])).run Tryz.prog w=.ok (.bool g) w)(KL:Hid (b_ 102 #[.agg (aa y),.agg (aa z)] (.bool l)))(w:World):ak 106 #[i_ b,i_ c] w (.tuple #[.agg (aa (if(!o&&!p&&!q&&!r&&!g&&!l)=true then z else 0)),.bool (!o&&!p&&!q&&!r&&!g&&!l)]):=by
 go_enter Tryz.func106,Tryz.ntmps106;go_upto_region 1 with fail
 generalize hw0:World.alloc _ _=v0;have hN:Has v0 w.heap.size (aa 0) 26:=by rw[<-hw0];exact Has.R2 _
 have bj:Below w.heap.size w v0:=dd hw0;clear hw0;go_wp2_with (with_reducible first|refine aK rfl _ rfl _ rfl _ hN rfl ?_|refine dG (by with_unfolding_all rfl) _ rfl _ rfl _ hN rfl ?_)
 refine au (KD.out _) fun v1 hb1=>?_;replace hN:=hN.on hb1;replace bj:=ah bj hb1;clear hb1;go_upto_region 2 with(with_reducible refine bg rfl _ _ rfl _ _ rfl rfl _ (Has.R2 _) rfl ?_)
 generalize hw2:World.setRow _ _ _=v2;have hb2:Below v1.heap.size v1 v2:=cU hw2;have hX:Has v2 v1.heap.size (aa z) 26:=by rw[<-hw2];exact(Has.R2 _).row _
 replace hN:=hN.on hb2;replace bj:=ah bj hb2;clear hw2 hb2;generalize v1.heap.size=Xb at hX|-;go_wp2_with (with_reducible first|refine aK rfl _ rfl _ rfl _ (by assumption) rfl ?_|refine dG (by with_unfolding_all rfl) _ rfl _ rfl _ (by assumption) rfl ?_)
 refine au (Xc.out _) fun v3 hb3=>?_;replace hN:=hN.on hb3;replace hX:=hX.on hb3;replace bj:=ah bj hb3;clear hb3;go_upto_region 3 with(with_reducible refine bg rfl _ _ rfl _ _ rfl rfl _ (Has.R2 _) rfl ?_)
 generalize hw4:World.setRow _ _ _=v4;have hb4:Below v3.heap.size v3 v4:=cU hw4;have hY:Has v4 v3.heap.size (aa y) 26:=by rw[<-hw4];exact(Has.R2 _).row _
 replace hN:=hN.on hb4;replace hX:=hX.on hb4;replace bj:=ah bj hb4;clear hw4 hb4;generalize v3.heap.size=YY at hY|-;cases o
 case' false=>
  cases p
  case' false=>
   cases q
   case' false=>
    cases r
    case' false=>
     cases g
     case' false=>
      (go_wp2_with (with_reducible first|refine aK rfl _ rfl _ rfl _ (by assumption) rfl ?_|refine dG (by with_unfolding_all rfl) _ rfl _ rfl _ (by assumption) rfl ?_));refine au (KL.out _) fun v5 hb5=>?_;replace hN:=hN.on hb5;replace hX:=hX.on hb5;replace hY:=hY.on hb5;replace bj:=ah bj hb5;clear hb5;cases l
 all_goals go_wp2_with (with_reducible first|refine aK rfl _ rfl _ rfl _ (by assumption) rfl ?_|refine dG (by with_unfolding_all rfl) _ rfl _ rfl _ (by assumption) rfl ?_|refine lY rfl _ _ rfl _ 0 _ rfl rfl fN _ hN rfl ?_|refine bg rfl _ _ rfl _ _ rfl rfl _ hN rfl ?_)
 all_goals exact bodyPost_ret (iT Tryz.results106 _ _ _ _ rfl rfl (hN.row _)) rfl ⟨rfl,below_setRow bj (Nat.le_refl _) _⟩
def jV(z y:Nat)(low over Sz dZ:Bool):Bool:=!low&&!over&&!Sz&&!dZ&&!decide (z=0)&&!decide (y<z)
theorem P3(b c:Int)(z y:Nat)(low over Sz dZ:Bool)(hz:z<Nm.ai)(hy:y<Nm.ai)(KD:Hid (b_ 162 #[i_ b] (.tuple #[.agg (aa z),.bool low,.bool over])))(Xc:Hid (b_ 162 #[i_ c] (.tuple #[.agg (aa y),.bool Sz,.bool dZ])))(w:World):ak 181 #[i_ b,i_ c] w (.tuple #[.agg (aa (if jV z y low over Sz dZ then z else 0)),.bool (jV z y low over Sz dZ)]):=by have h:=Na b c z y _ _ _ _ (h_ (Kj b z low over _ rfl KD)) (h_ (Kj c y Sz dZ _ rfl Xc)) (h_ (yU z hz _ rfl)) (h_ (zG y z hy hz _ rfl)) w;rw[show(!low&&!over&&(!Sz&&!dZ)&&!decide (z=0)&&!decide (y<z))=jV z y low over Sz dZ by unfold jV;simp only[Bool.and_assoc]]at h;exact h
theorem Oh(b c:Int)(z y:Nat)(low over Sz dZ:Bool)(hz:z<Nm.ai)(hy:y<Nm.ai)(KD:Hid (b_ 109 #[i_ b] (.tuple #[.agg (aa z),.bool low,.bool over])))(Xc:Hid (b_ 109 #[i_ c] (.tuple #[.agg (aa y),.bool Sz,.bool dZ])))(w:World):ak 106 #[i_ b,i_ c] w (.tuple #[.agg (aa (if jV z y low over Sz dZ then z else 0)),.bool (jV z y low over Sz dZ)]):=by exact H8 b c z y low over Sz dZ _ _ KD Xc (uY z hz _ rfl) (h_ (Ob y z hy hz _ rfl)) w
def dN(b:Int):Nat:=if 0<=b/\b<=4294967295 then Nm.j_ b.toNat else 0
def jw(b:Int):Bool:=if 0<=b/\b<=4294967295 then Nm.gi b.toNat else false
def fK(b:Int):Bool:=if 0<=b/\b<=4294967295 then Nm.eL b.toNat else false
theorem mu(b:Int):dN b<Nm.ai:=by unfold dN;split;exact Nm.y4 (by unfold Nm.ai;omega) _;decide
def tok(b c:Int):Bool:=jV (dN b) (dN c) (jw b) (fK b) (jw c) (fK c)
def tg(b c:Int):Nat:=if tok b c then dN b else 0
variable{b c:Int}
theorem vK:tok b c=true↔jw b=false/\fK b=false/\jw c=false/\fK c=false/\dN b≠0/\dN b<=dN c:=by unfold tok jV;simp only[Bool.and_eq_true,Bool.not_eq_true',decide_eq_false_iff_not];constructor;rintro⟨⟨⟨⟨⟨h1,h2⟩,h3⟩,h4⟩,h5⟩,h6⟩;exact⟨h1,h2,h3,h4,h5,by omega⟩;rintro⟨h1,h2,h3,h4,h5,h6⟩;exact⟨⟨⟨⟨⟨h1,h2⟩,h3⟩,h4⟩,h5⟩,by omega⟩
theorem FX(h:tok b c=true):tok b b=true:=by rw[vK]at h|-;exact⟨h.1,h.2.1,h.1,h.2.1,h.2.2.2.2.1,Nat.le_refl _⟩
theorem rR(h:tok b c=true):tg b c=dN b:=by unfold tg;rw[if_pos h]
theorem kM(b c:Int):tg b c<Nm.ai:=by unfold tg;split;exact mu b;decide
theorem ru(b:Int)(w:World):ak 162 #[i_ b] w (.tuple #[.agg (aa (dN b)),.bool (jw b),.bool (fK b)]):=by unfold dN jw fK;by_cases h:0<=b/\b<=4294967295;rw[if_pos h,if_pos h,if_pos h];obtain⟨n,rfl⟩:=Int.eq_ofNat_of_zero_le h.1;rw[Int.toNat_natCast];exact He n (by omega) w;rw[if_neg h,if_neg h,if_neg h];exact DG b h w
theorem yq(b:Int)(w:World):ak 109 #[i_ b] w (.tuple #[.agg (aa (dN b)),.bool (jw b),.bool (fK b)]):=by unfold dN jw fK;by_cases h:0<=b/\b<=4294967295;rw[if_pos h,if_pos h,if_pos h];obtain⟨n,rfl⟩:=Int.eq_ofNat_of_zero_le h.1;rw[Int.toNat_natCast];exact JC n (by omega) w;rw[if_neg h,if_neg h,if_neg h];exact GF b h w
theorem lJ(b c:Int)(w:World):ak 181 #[i_ b,i_ c] w (.tuple #[.agg (aa (tg b c)),.bool (tok b c)]):=
 P3 b c (dN b) (dN c) (jw b) (fK b) (jw c) (fK c) (mu b) (mu c) (h_ (ru b)) (h_ (ru c)) w
theorem xy(b c:Int)(w:World):ak 106 #[i_ b,i_ c] w (.tuple #[.agg (aa (tg b c)),.bool (tok b c)]):=
 Oh b c (dN b) (dN c) (jw b) (fK b) (jw c) (fK c) (mu b) (mu c) (h_ (yq b)) (h_ (yq c)) w
theorem Ls(n a o:Nat)(h:0<o):n*a/o=n/o*a+n%o*a/o:=by
 have e:n*a=o*(n/o*a)+n%o*a:=by
  have:=Nat.div_add_mod n o
  calc n*a=(o*(n/o)+n%o)*a:=by rw[this]
   _=o*(n/o*a)+n%o*a:=by rw[Nat.add_mul,Nat.mul_assoc]
 rw[e,Nat.mul_add_div h]
theorem Lf(q m:Nat):(q%Nm.ai+m)%Nm.ai=(q+m)%Nm.ai:=Nat.mod_add_mod _ _ _
theorem PS(q m:Nat):(decide (Nm.ai<=q)||decide (Nm.ai<=q%Nm.ai+m))=decide (Nm.ai<=q+m):=by by_cases h:Nm.ai<=q;rw[decide_eq_true h,decide_eq_true (by omega:Nm.ai<=q+m)];rfl;rw[decide_eq_false h,Nat.mod_eq_of_lt (by omega)];rfl
def tk(s:Nat)(d:Int):Nat:=(min (max d ((s/4:Nat):Int)) ((s*4:Nat):Int)).toNat
theorem xV(s:Nat)(d:Int):tk s d<=s*4:=by unfold tk;omega
theorem qE(s:Nat)(d:Int):(tk s d:Int)=min (max d ((s/4:Nat):Int)) ((s*4:Nat):Int):=by unfold tk;omega
def jt(t s:Nat)(d:Int):Nat:=t*tk s d/s
end NN
namespace NN.Nm
open Go
structure KI (u d y1 y0 q r:Nat):Prop where
 sum:q*y1+r=u
 ge:(u*4294967296+d)/(y1*4294967296+y0)<=q
 le:q<=4294967297
structure KY (u d y1 y0:Nat):Prop where
 h1:2147483648<=y1
 h2:y1<4294967296
 h0:y0<4294967296
 hd:d<4294967296
 hu:u<y1*4294967296+y0
variable{u d y1 y0 q r y:Nat}
theorem KI.below(k:KY u d y1 y0)(h:KI u d y1 y0 q r):q<=(u*4294967296+d)/(y1*4294967296+y0)↔q*y0<=4294967296*r+d:=by have h1:=k.h1;rw[Nat.le_div_iff_mul_le (by omega),Nat.mul_add,<-Nat.mul_assoc,<-h.sum,Nat.add_mul];generalize q*y1=z;generalize q*y0=z0;omega
theorem KY.lt(k:KY u d y1 y0):(u*4294967296+d)/(y1*4294967296+y0)<4294967296:=by have h1:=k.h1;have hd:=k.hd;have hu:=k.hu;rw[Nat.div_lt_iff_lt_mul (by omega)];omega
theorem KI.more(k:KY u d y1 y0)(h:KI u d y1 y0 q r)(hc:4294967296<=q\/4294967296*r+d<q*y0):(u*4294967296+d)/(y1*4294967296+y0)<q:=by
 rcases hc with hc|hc
 have:=k.lt;omega;exact Nat.lt_of_not_le fun hh=>by have:=(h.below k).1 hh;omega
theorem KI.next(k:KY u d y1 y0)(h:KI u d y1 y0 q r)(hc:4294967296<=q\/4294967296*r+d<q*y0):KI u d y1 y0 (q-1) (r+y1):=by have hm:=h.more k hc;have hq:0<q:=Nat.lt_of_le_of_lt (Nat.zero_le _) hm;obtain⟨p,rfl⟩:∃p,q=p+1:=⟨q-1,by omega⟩;refine⟨?_,Nat.le_of_lt_succ hm,by have:=h.le;omega⟩;have:=h.sum;rw[Nat.succ_mul]at this;simp only[Nat.add_sub_cancel];omega
theorem KI.stop(k:KY u d y1 y0)(h:KI u d y1 y0 q r)(hc:q*y0<=4294967296*r+d):q=(u*4294967296+d)/(y1*4294967296+y0):=by have:=(h.below k).2 hc;have:=h.ge;omega
theorem KI.leave(k:KY u d y1 y0)(h:KI u d y1 y0 q r)(hr:4294967296<=r)(hq:q<=4294967296):q=(u*4294967296+d)/(y1*4294967296+y0):=by refine h.stop k ?_;have h0:=k.h0;have:q*y0<=4294967296*4294967296:=Nat.mul_le_mul hq (by omega);omega
theorem KY.start(k:KY u d y1 y0):KI u d y1 y0 (u/y1) (u%y1):=by have h1:=k.h1;have h0:=k.h0;have hu:=k.hu;have hd:=k.hd;refine⟨Nat.div_add_mod' _ _,?_,?_⟩;have e1:(u*4294967296+d)/(y1*4294967296+y0)<=(u*4294967296+d)/(4294967296*y1):=Nat.div_le_div_left (by omega) (by omega);rw[<-Nat.div_div_eq_div_mul,show(u*4294967296+d)/4294967296=u by omega]at e1;exact e1;have:u/y1<4294967298:=(Nat.div_lt_iff_lt_mul (by omega)).2 (by omega);omega
theorem N7(hy:0<y)(hy2:y<18446744073709551616)(hq:q=(u*4294967296+d)/y):IntKind.u64.wrap (IntKind.u64.wrap (IntKind.u64.wrap ((u:Int)*4294967296)+(d:Int))-IntKind.u64.wrap ((q:Int)*(y:Int)))=(((u*4294967296+d)%y:Nat):Int):=by have e:=Nat.div_add_mod' (u*4294967296+d) y;rw[<-hq]at e;have hl:=Nat.mod_lt (u*4294967296+d) hy;generalize(u*4294967296+d)%y=r at*;rw[IntKind.wrap_u64,IntKind.wrap_u64,IntKind.wrap_u64,IntKind.wrap_u64];rw[<-Int.natCast_mul q y];generalize q*y=z at*;omega
theorem Rj{d1 d0:Nat}(hy:0<y):(u*18446744073709551616+d1*4294967296+d0)/y=(u*4294967296+d1)/y*4294967296+((u*4294967296+d1)%y*4294967296+d0)/y/\ (u*18446744073709551616+d1*4294967296+d0)%y=((u*4294967296+d1)%y*4294967296+d0)%y:=by
 have e:u*18446744073709551616+d1*4294967296+d0=y*((u*4294967296+d1)/y*4294967296)+((u*4294967296+d1)%y*4294967296+d0):=by
  have h:=Nat.div_add_mod (u*4294967296+d1) y;rw[<-Nat.mul_assoc];generalize y*((u*4294967296+d1)/y)=z at*;omega
 rw[e];exact⟨Nat.mul_add_div hy _ _,Nat.mul_add_mod _ _ _⟩
theorem Kb{h p:Nat}(hp:0<p):h*p/(y*p)=h/y/\h*p%(y*p)/p=h%y:=by rw[Nat.mul_div_mul_right _ _ hp,Nat.mul_mod_mul_right,Nat.mul_div_cancel _ hp];exact⟨rfl,rfl⟩
theorem lead(h0:y≠0)(hl:y<18446744073709551616):∃s,s<64/\(64-(Lib.bitLen y:Int))=(s:Nat)/\9223372036854775808<=y*2^s/\y*2^s<18446744073709551616:=by
 rw[BE 64 y (by exact hl) (by omega)];have h1:=(iu y).1;have h2:=gY (show y<2^64 from hl);have h3:len y≠0:=fun e=>by rw[e]at h1;simp at h1;exact h0 h1
 have h4:=(iu y).2 h3;refine⟨64-len y,by omega,by omega,?_,?_⟩
 ·have e:2^(len y-1)*2^(64-len y)=9223372036854775808:=by rw[<-Nat.pow_add,show len y-1+(64-len y)=63 by omega]
  rw[<-e];exact Nat.mul_le_mul_right _ h4
 ·have e:2^len y*2^(64-len y)=18446744073709551616:=by rw[<-Nat.pow_add,show len y+(64-len y)=64 by omega]
  rw[<-e];exact Nat.mul_lt_mul_of_pos_right h1 (Nat.pow_pos (by decide))
