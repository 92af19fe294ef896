import Derived.OpenShut
import Derived.Test.YtkbjaadjnbgfbaaGreatDoorBBunQ28
set_option maxRecDepth 100000
set_option maxHeartbeats 8000000
namespace Go.Proofs.YtkbjaadjnbgfbaaGreatDoor
namespace NN
open Go.RowKit Si
theorem RA(a:Act)(n:Nat)(u:Nat->Value)(hs:a.tmps.size=n)(hd:a.defers=[])(hu:∀t,u t=a.eval (.tmp t)):a=⟨((List.range n).map u).toArray,[]⟩:=by obtain⟨tm,df⟩:=a;obtain rfl:df=[]:=hd;congr 1;apply Array.ext;simpa using hs;intro i h1 h2;simp only[List.getElem_toArray,List.getElem_map,List.getElem_range,hu];simp[Act.eval,Array.getD_eq_getD_getElem?,h1]
theorem BT(x n:Nat)(hx:x<Nm.ai)(hn:n<=255)(w:World):ak 207 #[.agg (aa x),i_ n] w (.agg (aa (Nm.up x n))):=by by_cases h:n=0;subst h;rw[Nm.vl hx];exact rT x 0 (by omega) w;exact qq x n hx (by omega) (by omega) w
theorem DU{n:Nat}(hn:n<=255):Nm.ai=2^n*2^(256-n):=by rw[Nm.bU,<-Nat.pow_add,show n+(256-n)=256 by omega]
theorem oo(x n:Nat)(hn:n<=255):Nm.up x n=2^n*(x%2^(256-n)):=by unfold Nm.up;rw[Nat.shiftLeft_eq,DU hn,Nat.mul_comm x,Nat.mul_mod_mul_left]
theorem sR{x y:Nat}(hx:x<Nm.ai)(hy:y<=x):(x+Nm.ai-y)%Nm.ai=x-y:=by rw[show x+Nm.ai-y=x-y+Nm.ai by omega,Nat.add_mod_right,Nat.mod_eq_of_lt (by omega)]
def fy(k1:Nat)(p1:Tmp)(k2:Nat)(p2:Tmp)(lz:Array Bool)(a:Act):Prop:=lz.getD k1 false=true->lz.getD k2 false=true->a.eval (.tmp p1)≠a.eval (.tmp p2)
theorem xK(a:Act)(d:Option Tmp)(p:Tmp)(v:Value)(h:d≠some p):(a.put d v).eval (.tmp p)=a.eval (.tmp p):=
 Act.eval_put (fun d' hdd e=>h (by rw[hdd];cases e;rfl))
variable{k1 k2 B A R S O T b out rest:Nat}{p1 p2:Tmp}{lz:Array Bool}{a:Act}
theorem fy.keep{i:Nat}{d:Option Tmp}{v:Value}(h:fy k1 p1 k2 p2 lz a)(hi:i<lz.size)(h1:i≠k1)(h2:i≠k2)(d1:d≠some p1)(d2:d≠some p2):fy k1 p1 k2 p2 (lz.setIfInBounds i true) (a.put d v):=fun l1 l2=>by
 rw[gF _ _ _ hi,if_neg h1]at l1;rw[gF _ _ _ hi,if_neg h2]at l2;rw[xK _ _ _ _ d1,xK _ _ _ _ d2];exact h l1 l2
variable{w wr:World}
theorem fy.fst(hg:lz.getD k2 false=true->eG.ptr.holds B (a.eval (.tmp p2)) w)(hi:k1<lz.size)(hk:k1≠k2)(hp:p1≠p2)(hs:p1<a.tmps.size):fy k1 p1 k2 p2 (lz.setIfInBounds k1 true) (a.put (some p1) (.pointer (some ⟨w.heap.size,0,none⟩))):=fun _ l2 e=>by
 rw[gF _ _ _ hi,if_neg hk]at l2;obtain⟨b,cs,_,hv,hh,_⟩:=hg l2;rw[jQ _ _ _ hs,xK _ _ _ _ (fun h=>hp (Option.some.inj h)),hv]at e;injection e with e;injection e with e;injection e with e
 have:=hh.lt;omega
theorem fy.snd(hg:lz.getD k1 false=true->eG.ptr.holds B (a.eval (.tmp p1)) w)(hi:k2<lz.size)(hk:k2≠k1)(hp:p2≠p1)(hs:p2<a.tmps.size):fy k1 p1 k2 p2 (lz.setIfInBounds k2 true) (a.put (some p2) (.pointer (some ⟨w.heap.size,0,none⟩))):=fun l1 _ e=>by
 rw[gF _ _ _ hi,if_neg hk]at l1;obtain⟨b,cs,_,hv,hh,_⟩:=hg l1;rw[jQ _ _ _ hs,xK _ _ _ _ (fun h=>hp (Option.some.inj h)),hv]at e;injection e with e;injection e with e;injection e with e
 have:=hh.lt;omega
theorem Has.Vx(o:Obj)(t:TypeId):Has ((w.alloc o).alloc (.cells #[ay 0,ay 0,ay 0,ay 0] t)) (w.heap.size+1) (aa 0) t:=Has.R6 o (aa 0) t
theorem Qs.Ti{a:Nat}(h:Qs w wr A B R S O T a b out rest){w0:World}(hd:gS w0 A B R S O T)(hT:T<w.heap.size){g:Nat}(hg:w.heap.size<=g)(cs:Array Value):Qs w (wr.setRow g cs) A B R S O T a b out rest:=by obtain⟨_,d2,d3,d4,d5,d6⟩:=hd;exact⟨below_setRow h.below hg _,h.a.R1 _ _ (by omega),h.b.R1 _ _ (by omega),let ⟨cs,h1,h2⟩:=h.r; ⟨cs,h1.R1 _ _ (by omega),h2⟩,let ⟨cs,h1,h2⟩:=h.s; ⟨cs,h1.R1 _ _ (by omega),h2⟩,h.o.R1 _ _ (by omega),h.t.R1 _ _ (by omega)⟩
theorem Qs.base{w':World}{a:Nat}(h:Qs w wr A B R S O T a b out rest)(h':Qs wr w' A B R S O T a b out rest):Qs w w' A B R S O T a b out rest:=⟨ah h.below h'.below,h'.a,h'.b,h'.r,h'.s,h'.o,h'.t⟩
theorem Qs.own{a:Nat}(h:Qs w wr A B R S O T a b out rest):Qs wr wr A B R S O T a b out rest:=⟨bf,h.a,h.b,h.r,h.s,h.o,h.t⟩
def rO(b k rest d s:Nat)(c:Bool):Nat->eG
 | 0=>.val (.agg (aa rest))|1=>.val (.agg (aa b))|2=>.val (i_ k)|3=>.val (.agg (aa d))|4=>.val (.tuple #[.agg (aa s),.bool c])|5=>.val (.tuple #[.agg (aa s),.bool c])
 | 6=>.val (.agg (aa s))|7=>.val (.bool c)|8=>.ptr|9=>.any|_=>.val (.bool c)
theorem wJ(a b:Nat)(ha:a<Nm.ai)(hb:b<Nm.ai)(hb0:0<b)(w:World):ak 189 #[.agg (aa a),.agg (aa b)] w (.tuple #[.agg (aa (a/b)),.agg (aa (a%b))]):=by
 have UL:=fun w=>zero b hb w
 rw[show decide (b=0)=false by simp;omega]at UL;have Zr:=fun w=>len a ha w
 have Zs:=fun w=>len b hb w
 obtain⟨la,hla⟩:∃l,l=Nm.len a:=⟨_,rfl⟩;obtain⟨lb,hlb⟩:∃l,l=Nm.len b:=⟨_,rfl⟩;have bla:la<=256:=by rw[hla];exact Nm.gY (by rw[<-Nm.bU];exact ha)
 have blb:lb<=256:=by rw[hlb];exact Nm.gY (by rw[<-Nm.bU];exact hb)
 have Zt:0<lb:=by
  rcases Nat.eq_zero_or_pos lb with h|h
  have:=(Nm.iu b).1;rw[<-hlb,h]at this;simp at this;omega;exact h
 have s1:lb<=la->a<b*2^(la-lb+1):=fun h=>by
  rw[hla,hlb]at*;rcases Nm.PE h with h'|h'
  exact h';omega
 have s2:lb<=la->∀k,k<=la-lb->b*2^k<Nm.ai:=fun h k hk=>by
  rw[hla,hlb]at*;exact Nm.Rb ha h hk
 have s3:la<lb->a<b:=fun h=>by rw[hla,hlb]at*;exact Nm.Mx h
 rw[<-hla]at Zr;rw[<-hlb]at Zs;have Vy:=h_ UL;have KLa:=h_ Zr;have KLb:=h_ Zs;have S1:=h_ s1;have S2:=h_ s2;have S3:=h_ s3;have HA0:=h_ ha;have HB0:=h_ hb;have Wz:=h_ hb0;clear UL Zr Zs hla hlb s1 s2 s3 ha hb hb0;go_enter Tryz.func189,Tryz.ntmps189;go_upto_region 1 with fail
 generalize hw1:World.alloc _ _=w1;have bj:Below w.heap.size w w1:=by rw[<-hw1];exact((aY.alloc (by simp) _).alloc (by simp;omega) _).alloc (by simp;omega) _
 have hA:Has w1 w.heap.size (aa a) 26:=by rw[<-hw1];exact(((Has.new _ _).alloc _).alloc _).alloc _
 have hB:Has w1 (w.heap.size+1) (aa b) 26:=by rw[<-hw1];exact((Has.R6 _ _ _).alloc _).alloc _
 have hR:Has w1 (w.heap.size+1+1) (aa 0) 26:=by rw[<-hw1];exact(Has.Sw _ _ (aa 0) _).alloc _
 have hS:Has w1 (w.heap.size+1+1+1) (aa 0) 26:=by rw[<-hw1];exact Has.W_ _ _ _ (aa 0) _
 clear hw1;go_wp2_with (with_reducible refine aK rfl _ rfl _ rfl _ hB rfl ?_)
 refine au (Vy.out _) fun v1 hb1=>?_;replace hA:=hA.on hb1;replace hB:=hB.on hb1;replace hR:=hR.on hb1;replace hS:=hS.on hb1;replace bj:=ah bj hb1;clear hb1;have hSl:=hS.lt
 go_wp2_with (first
  | (with_reducible refine aK rfl _ rfl _ rfl _ (hA.alloc _) rfl ?_)
  | (with_reducible refine bg rfl _ _ rfl _ _ rfl rfl _ (Has.Vx _ _) rfl ?_))
 generalize hw2:World.setRow _ _ _=w2
 have h0:Qs w w2 w.heap.size (w.heap.size+1) (w.heap.size+1+1) (w.heap.size+1+1+1) v1.heap.size (v1.heap.size+1) a b 0 a:=by
  rw[<-hw2];exact⟨below_setRow ((bj.alloc bj.size _).alloc (by simp;omega) _) (by omega) _,((hA.alloc _).alloc _).R1 _ _ (by omega),((hB.alloc _).alloc _).R1 _ _ (by omega),⟨_,((hR.alloc _).alloc _).R1 _ _ (by omega),rfl⟩,⟨_,((hS.alloc _).alloc _).R1 _ _ (by omega),rfl⟩,((Has.R2 _).alloc _).R1 _ _ (by omega),(Has.Vx _ _).row _⟩
 have hd:gS w w.heap.size (w.heap.size+1) (w.heap.size+1+1) (w.heap.size+1+1+1) v1.heap.size (v1.heap.size+1):=⟨Nat.le_refl _,by omega,by omega,by omega,by omega,by omega⟩;have HD:=h_ hd;clear hw2 hA hB hR hS bj hSl hd;generalize v1.heap.size+1=T at*;generalize v1.heap.size=O at*;generalize w.heap.size+1+1+1=S at*;generalize w.heap.size+1+1=R at*;generalize w.heap.size+1=B at*;generalize Sn:w.heap.size=A at h0 HD|-;have HAA:=h_ Sn;clear Sn;simp only[Act.put];refine wp_region_quiet_below (by kernel_rfl) (by kernel_rfl) ?_
 repeat(first
  | (go_big_quiet_want;(with_reducible first|refine og _ rfl _ rfl _ h0.a.cls ?_|refine og _ rfl _ rfl _ h0.b.cls ?_);(simp only[Act.put,List.setIfInBounds_toArray,List.set_cons_zero,List.set_cons_succ]);go_big_quiet_on)
  | go_big_quiet_step (first|(go_at_call 208;(with_reducible exact Calls.regrown_of (KLa.out _)))|(go_at_call 208;(with_reducible exact Calls.regrown_of (KLb.out _)))))
 refine wpQuiet_nil ?_;intro _ hw';obtain⟨p,hw''⟩:=hw';subst hw'';replace h0:=h0.on (below_regrown w2 p.d p.os);generalize Sort.grow (redrawn w2 p.d) p.os=w3 at*;clear p;go_wp2_with fail
 have hst:(∃k:Nat,k<=255/\(la:Int)-(lb:Int)=(k:Int)/\Hid (Nm.QI a b (k+1) 0 a)/\Hid (∀j,j<=k->b*2^j<Nm.ai))\/(∃z:Int,z<0/\(la:Int)-(lb:Int)=z/\Hid (Nm.QI a b 0 0 a)):=by
  by_cases hl:lb<=la;exact .inl ⟨la-lb,by omega,by omega,h_ (Nm.QI.start _ (S1.out hl)),h_ (S2.out hl)⟩;exact .inr ⟨(la:Int)-(lb:Int),by omega,rfl,h_ (Nm.QI.start 0 (by have:=S3.out (by omega);simpa using this))⟩
 have HST:=h_ hst;clear hst bla blb Zt S1 S2 S3 KLa KLb Vy;go_loopw [8] (fun i wr=>∃out rest:Nat,Qs w wr A B R S O T a b out rest/\((∃k:Nat,k<=255/\i=i_ k/\Hid (Nm.QI a b (k+1) out rest)/\Hid (∀j,j<=k->b*2^j<Nm.ai))\/(∃z:Int,z<0/\i=i_ z/\Hid (Nm.QI a b 0 out rest)))) (fun i _=>(intOf i+1).toNat)
 case atStart=>
  rcases HST.out with⟨k,h1,h2,h3,h4⟩|⟨z,h1,h2,h3⟩
  exact⟨_,_,h0,.inl ⟨k,h1,congrArg (Value.int .i64) h2,h3,h4⟩⟩;exact⟨_,_,h0,.inr ⟨z,h1,congrArg (Value.int .i64) h2,h3⟩⟩
 case round=>
  clear HST h0;obtain⟨out,rest,hs,⟨k,hk,rfl,HQ,HK⟩|⟨z,hz,rfl,HQ⟩⟩:=hrel
  ·obtain⟨d,hdd⟩:∃d,d=b*2^k:=⟨_,rfl⟩;have hdl:d<Nm.ai:=by rw[hdd];exact HK.out k (Nat.le_refl _)
   have hrl:rest<Nm.ai:=Nat.lt_of_le_of_lt HQ.out.U6 HA0.out;have kh:=fun w=>BT b k HB0.out hk w
   rw[Nm.IL (HK.out k (Nat.le_refl _)),<-hdd]at kh;have TT:=fun w=>sub rest d hrl hdl w
   obtain⟨s,hsd⟩:∃s,s=(rest+Nm.ai-d)%Nm.ai:=⟨_,rfl⟩;rw[<-hsd]at TT;have hT:T<wr.heap.size:=hs.t.lt;have KUp:=h_ kh;have hown:=hs.own;by_cases htake:d<=rest
   ·have hs2:s=rest-d:=(by rw[hsd];exact sR hrl htake);rw[show decide (rest<d)=false by simp;omega]at TT;have V5:=h_ TT;have hq:=HQ.out.take (by rw[<-hdd];exact htake);rw[<-hdd,<-hs2]at hq;have Xu:=h_ hq;clear kh TT hsd hs2 hq htake hdl hrl hdd;(go_wp2_with fail);refine Si.ix (by kernel_rfl) (fun w'=>Qs wr w' A B R S O T a b out rest) (fun i v w'=>(rO b k rest d s false i).holds wr.heap.size v w') (aU 9 9 wr.heap.size s) (aj wr.heap.size) (fun _ _=>aj.refl _ _) (fun _ _ _ _ _ hs h=>eG.stays _ _ _ _ hs h) (by kernel_rfl) (hown.on bf.drew) ?_ ?_ ?_;exact fun l hl=>fun hk=>by rw[hl]at hk;cases hk
    ·intro i o lz a wx ho hn dq Z;have hC:=Z.c;have hI:=Z.i;have hi:i<11:=(Array.getElem?_eq_some_iff.1 ho).1;obtain rfl|rfl|rfl|rfl|rfl|rfl|rfl|rfl|rfl|rfl|rfl:i=0\/i=1\/i=2\/i=3\/i=4\/i=5\/i=6\/i=7\/i=8\/i=9\/i=10:=(by omega);all_goals obtain rfl:=Option.some.inj ho
     exact dX ((fun _ _=>aj.refl _ _)) hC (an rfl) (fZ rfl (Z.old' 7) hC.t) rfl (aU.pre (cX Z hn 3));exact dX ((fun _ _=>aj.refl _ _)) hC (an rfl) (fZ rfl (Z.old' 3) hC.b) rfl (aU.pre (cX Z hn 3));exact dX ((fun _ _=>aj.refl _ _)) hC (an rfl) (dy rfl) (Z.old' 8) (aU.pre (cX Z hn 3))
     ·have e27:=Z.got 1 _ 27 rfl (dq ⟨1,.data⟩ (by simp) rfl) rfl;have e28:=Z.got 2 _ 28 rfl (dq ⟨2,.data⟩ (by simp) rfl) rfl;exact iS (an rfl) (f:=207) (args:=#[a.eval (.tmp 27),a.eval (.tmp 28)]) (by kernel_rfl) (by rw[show a.eval (.tmp 27)=_ from e27];rw[show a.eval (.tmp 28)=_ from e28];  exact KUp.out wx) (fun w' hb=>⟨hC.on hb,aj.below hb,rfl,aU.pre (cX Z hn 3)⟩)
     ·have e26:=Z.got 0 _ 26 rfl (dq ⟨0,.data⟩ (by simp) rfl) rfl;have e29:=Z.got 3 _ 29 rfl (dq ⟨3,.data⟩ (by simp) rfl) rfl;exact iS (an rfl) (f:=209) (args:=#[a.eval (.tmp 26),a.eval (.tmp 29)]) (by kernel_rfl) (by rw[show a.eval (.tmp 26)=_ from e26];rw[show a.eval (.tmp 29)=_ from e29];  exact V5.out wx) (fun w' hb=>⟨hC.on hb,aj.below hb,rfl,aU.pre (cX Z hn 3)⟩)
     exact dX ((fun _ _=>aj.refl _ _)) hC (an rfl) (dy rfl) (ar Z dq 4 30) (aU.pre (cX Z hn 3));exact dX ((fun _ _=>aj.refl _ _)) hC (an rfl) (fc rfl (ar Z dq 5 25) rfl) rfl (aU.pre (cX Z hn 3));exact dX ((fun _ _=>aj.refl _ _)) hC (an rfl) (fc rfl (ar Z dq 5 25) rfl) rfl (aU.keep hI (by rw[Z.size];decide) (by decide) (by decide) fun _ h=>h);have bj:Below wx.heap.size wx (wx.alloc (.cells (aa 0) 26)):=aY;exact mL (an rfl) (oO rfl) (hC.on bj) (aj.below bj) ⟨wx.heap.size,aa 0,hC.below.size,rfl,Has.new _ _,rfl⟩ (aU.pre (cX Z hn 3));obtain⟨b,cs,hb,he,hh,hsz⟩:eG.ptr.holds wr.heap.size (a.eval (.tmp 9)) wx:=Z.got 8 _ 9 rfl (dq ⟨8,.data⟩ (by simp) rfl) rfl;exact jB (an rfl) (jC rfl he (ar Z dq 6 31) hh hsz) (hC.Ti HD.out hT hb _) (aj.row hh) trivial (fun _=>⟨b,hb,he,hh.row _⟩);exact dX ((fun _ _=>aj.refl _ _)) hC (an rfl) (fp rfl) (ar Z dq 7 32) (aU.keep hI (by rw[Z.size];decide) (by decide) (by decide) fun _ h=>h)
    ·intro lz act wx hall Z;obtain⟨bN,hbN,e9,hN⟩:=Z.i (hall 9 (by decide));have hC:=hs.base Z.c;have Yw:T<bN:=(by omega);obtain⟨u,hu⟩:∃u:Nat->Value,∀t,u t=act.eval (.tmp t):=⟨_,fun _=>rfl⟩;rw[Hy act 47 u Z.R4 Z.defers hu];have f0:=Z.old' 0;have f1:=Z.old' 1;have f2:=Z.old' 2;have f3:=Z.old' 3;have f4:=Z.old' 4;have f5:=Z.old' 5;have f6:=Z.old' 6;have f7:=Z.old' 7;have f8:=Z.old' 8;have f11:=Z.old' 11;have f12:=Z.old' 12;have f13:=Z.old' 13;have f14:=Z.old' 14;have f15:=Z.old' 15;have f16:=Z.old' 16;have f17:=Z.old' 17;have f18:=Z.old' 18;have f19:=Z.old' 19;have f20:=Z.old' 20;have f21:=Z.old' 21;have f22:=Z.old' 22;have f23:=Z.old' 23;have f24:=Z.old' 24;have f33:=Z.old' 33;have f34:=Z.old' 34;have f35:=Z.old' 35;have f36:=Z.old' 36;have f37:=Z.old' 37;have f38:=Z.old' 38;have f39:=Z.old' 39;have f40:=Z.old' 40;have f41:=Z.old' 41;have f42:=Z.old' 42;have f43:=Z.old' 43;have f44:=Z.old' 44;have f45:=Z.old' 45;have f46:=Z.old' 46;have f9:=e9;have f10:=(Z.got 10 _ 10 rfl (hall 10 (by decide)) rfl:act.eval (.tmp 10)=.bool false);simp only[<-hu]at f0 f1 f2 f3 f4 f5 f6 f7 f8 f9 f10 f11 f12 f13 f14 f15 f16 f17 f18 f19 f20 f21 f22 f23 f24 f33 f34 f35 f36 f37 f38 f39 f40 f41 f42 f43 f44 f45 f46;simp[Act.eval]at f0 f1 f2 f3 f4 f5 f6 f7 f8 f11 f12 f13 f14 f15 f16 f17 f18 f19 f20 f21 f22 f23 f24 f33 f34 f35 f36 f37 f38 f39 f40 f41 f42 f43 f44 f45 f46;clear hu Z hall;simp only[List.range,List.range.loop,List.map_cons,List.map_nil];rw[f0,f1,f2,f3,f4,f5,f6,f7,f8,f9,f10,f11,f12,f13,f14,f15,f16,f17,f18,f19,f20,f21,f22,f23,f24,f33,f34,f35,f36,f37,f38,f39,f40,f41,f42,f43,f44,f45,f46];clear f0 f1 f2 f3 f4 f5 f6 f7 f8 f9 f10 f11 f12 f13 f14 f15 f16 f17 f18 f19 f20 f21 f22 f23 f24 f33 f34 f35 f36 f37 f38 f39 f40 f41 f42 f43 f44 f45 f46;clear hs hown hT hbN
     go_wp2_with (first
      | (with_reducible refine aK rfl _ rfl _ rfl _ hN rfl ?_)
      | (with_reducible refine bg rfl _ _ rfl _ _ rfl rfl _ hC.t rfl ?_))
     simp only[Act.put,List.setIfInBounds_toArray,List.set_cons_zero,List.set_cons_succ];have hP:=hC.Y1 HD.out s;clear hN hC Yw;generalize World.setRow _ _ _=w5 at*;have c1:=hP.o.num (j:=k/64) (by omega);have fo:=hP.o.free (k/64);go_region
     have h5:=hP.Y2 HD.out (k/64) _ (out|||2^k) (yI out k (by omega));clear c1 fo hP;generalize World.drew _=w6 at*;(go_wp2_with fail);go_roundw
     case rel=>
      refine⟨_,_,h5,?_⟩;by_cases hk0:k=0;subst hk0;exact .inr ⟨-1,by omega,rfl,Xu⟩;exact .inl ⟨k-1,by omega,congrArg (Value.int .i64) (by omega),by rw[show k-1+1=k by omega];exact Xu,h_ fun j hj=>HK.out j (by omega)⟩
     case measure=>first|(simp[intOf];done)|(simp[intOf];omega)
   ·rw[show decide (rest<d)=true by simp;omega]at TT;have V5:=h_ TT;have hq:=HQ.out.skip (by rw[<-hdd];omega);have Xu:=h_ hq;clear kh TT hsd hq htake hdl hrl hdd;(go_wp2_with fail);refine Si.ix (by kernel_rfl) (fun w'=>Qs wr w' A B R S O T a b out rest) (fun i v w'=>(rO b k rest d s true i).holds wr.heap.size v w') (aU 9 9 wr.heap.size s) (aj wr.heap.size) (fun _ _=>aj.refl _ _) (fun _ _ _ _ _ hs h=>eG.stays _ _ _ _ hs h) (by kernel_rfl) (hown.on bf.drew) ?_ ?_ ?_;exact fun l hl=>fun hk=>by rw[hl]at hk;cases hk
    ·intro i o lz a wx ho hn dq Z;have hC:=Z.c;have hI:=Z.i;have hi:i<11:=(Array.getElem?_eq_some_iff.1 ho).1;obtain rfl|rfl|rfl|rfl|rfl|rfl|rfl|rfl|rfl|rfl|rfl:i=0\/i=1\/i=2\/i=3\/i=4\/i=5\/i=6\/i=7\/i=8\/i=9\/i=10:=(by omega);all_goals obtain rfl:=Option.some.inj ho
     exact dX ((fun _ _=>aj.refl _ _)) hC (an rfl) (fZ rfl (Z.old' 7) hC.t) rfl (aU.pre (cX Z hn 3));exact dX ((fun _ _=>aj.refl _ _)) hC (an rfl) (fZ rfl (Z.old' 3) hC.b) rfl (aU.pre (cX Z hn 3));exact dX ((fun _ _=>aj.refl _ _)) hC (an rfl) (dy rfl) (Z.old' 8) (aU.pre (cX Z hn 3))
     ·have e27:=Z.got 1 _ 27 rfl (dq ⟨1,.data⟩ (by simp) rfl) rfl;have e28:=Z.got 2 _ 28 rfl (dq ⟨2,.data⟩ (by simp) rfl) rfl;exact iS (an rfl) (f:=207) (args:=#[a.eval (.tmp 27),a.eval (.tmp 28)]) (by kernel_rfl) (by rw[show a.eval (.tmp 27)=_ from e27];rw[show a.eval (.tmp 28)=_ from e28];  exact KUp.out wx) (fun w' hb=>⟨hC.on hb,aj.below hb,rfl,aU.pre (cX Z hn 3)⟩)
     ·have e26:=Z.got 0 _ 26 rfl (dq ⟨0,.data⟩ (by simp) rfl) rfl;have e29:=Z.got 3 _ 29 rfl (dq ⟨3,.data⟩ (by simp) rfl) rfl;exact iS (an rfl) (f:=209) (args:=#[a.eval (.tmp 26),a.eval (.tmp 29)]) (by kernel_rfl) (by rw[show a.eval (.tmp 26)=_ from e26];rw[show a.eval (.tmp 29)=_ from e29];  exact V5.out wx) (fun w' hb=>⟨hC.on hb,aj.below hb,rfl,aU.pre (cX Z hn 3)⟩)
     exact dX ((fun _ _=>aj.refl _ _)) hC (an rfl) (dy rfl) (ar Z dq 4 30) (aU.pre (cX Z hn 3));exact dX ((fun _ _=>aj.refl _ _)) hC (an rfl) (fc rfl (ar Z dq 5 25) rfl) rfl (aU.pre (cX Z hn 3));exact dX ((fun _ _=>aj.refl _ _)) hC (an rfl) (fc rfl (ar Z dq 5 25) rfl) rfl (aU.keep hI (by rw[Z.size];decide) (by decide) (by decide) fun _ h=>h);have bj:Below wx.heap.size wx (wx.alloc (.cells (aa 0) 26)):=aY;exact mL (an rfl) (oO rfl) (hC.on bj) (aj.below bj) ⟨wx.heap.size,aa 0,hC.below.size,rfl,Has.new _ _,rfl⟩ (aU.pre (cX Z hn 3));obtain⟨b,cs,hb,he,hh,hsz⟩:eG.ptr.holds wr.heap.size (a.eval (.tmp 9)) wx:=Z.got 8 _ 9 rfl (dq ⟨8,.data⟩ (by simp) rfl) rfl;exact jB (an rfl) (jC rfl he (ar Z dq 6 31) hh hsz) (hC.Ti HD.out hT hb _) (aj.row hh) trivial (fun _=>⟨b,hb,he,hh.row _⟩);exact dX ((fun _ _=>aj.refl _ _)) hC (an rfl) (fp rfl) (ar Z dq 7 32) (aU.keep hI (by rw[Z.size];decide) (by decide) (by decide) fun _ h=>h)
    ·intro lz act wx hall Z;obtain⟨bN,hbN,e9,hN⟩:=Z.i (hall 9 (by decide));have hC:=hs.base Z.c;obtain⟨u,hu⟩:∃u:Nat->Value,∀t,u t=act.eval (.tmp t):=⟨_,fun _=>rfl⟩;rw[Hy act 47 u Z.R4 Z.defers hu];have f0:=Z.old' 0;have f1:=Z.old' 1;have f2:=Z.old' 2;have f3:=Z.old' 3;have f4:=Z.old' 4;have f5:=Z.old' 5;have f6:=Z.old' 6;have f7:=Z.old' 7;have f8:=Z.old' 8;have f11:=Z.old' 11;have f12:=Z.old' 12;have f13:=Z.old' 13;have f14:=Z.old' 14;have f15:=Z.old' 15;have f16:=Z.old' 16;have f17:=Z.old' 17;have f18:=Z.old' 18;have f19:=Z.old' 19;have f20:=Z.old' 20;have f21:=Z.old' 21;have f22:=Z.old' 22;have f23:=Z.old' 23;have f24:=Z.old' 24;have f33:=Z.old' 33;have f34:=Z.old' 34;have f35:=Z.old' 35;have f36:=Z.old' 36;have f37:=Z.old' 37;have f38:=Z.old' 38;have f39:=Z.old' 39;have f40:=Z.old' 40;have f41:=Z.old' 41;have f42:=Z.old' 42;have f43:=Z.old' 43;have f44:=Z.old' 44;have f45:=Z.old' 45;have f46:=Z.old' 46;have f9:=e9;have f10:=(Z.got 10 _ 10 rfl (hall 10 (by decide)) rfl:act.eval (.tmp 10)=.bool true);simp only[<-hu]at f0 f1 f2 f3 f4 f5 f6 f7 f8 f9 f10 f11 f12 f13 f14 f15 f16 f17 f18 f19 f20 f21 f22 f23 f24 f33 f34 f35 f36 f37 f38 f39 f40 f41 f42 f43 f44 f45 f46;simp[Act.eval]at f0 f1 f2 f3 f4 f5 f6 f7 f8 f11 f12 f13 f14 f15 f16 f17 f18 f19 f20 f21 f22 f23 f24 f33 f34 f35 f36 f37 f38 f39 f40 f41 f42 f43 f44 f45 f46;clear hu Z hall;simp only[List.range,List.range.loop,List.map_cons,List.map_nil];rw[f0,f1,f2,f3,f4,f5,f6,f7,f8,f9,f10,f11,f12,f13,f14,f15,f16,f17,f18,f19,f20,f21,f22,f23,f24,f33,f34,f35,f36,f37,f38,f39,f40,f41,f42,f43,f44,f45,f46];clear f0 f1 f2 f3 f4 f5 f6 f7 f8 f9 f10 f11 f12 f13 f14 f15 f16 f17 f18 f19 f20 f21 f22 f23 f24 f33 f34 f35 f36 f37 f38 f39 f40 f41 f42 f43 f44 f45 f46;clear hs hown hT hbN;(go_wp2_with fail);go_roundw
     case rel=>
      refine⟨_,_,hC,?_⟩;by_cases hk0:k=0;subst hk0;exact .inr ⟨-1,by omega,rfl,Xu⟩;exact .inl ⟨k-1,by omega,congrArg (Value.int .i64) (by omega),by rw[show k-1+1=k by omega];exact Xu,h_ fun j hj=>HK.out j (by omega)⟩
     case measure=>first|(simp[intOf];done)|(simp[intOf];omega)
  ·go_wp2_with fail
   refine Si.ix (by kernel_rfl) (fun w'=>Qs w w' A B R S O T a b out rest) (fun i v w'=>(B4 out rest i).holds w.heap.size v w') (fun l _ w'=>dE 2 R out l w'/\dE 3 S rest l w') (aj w.heap.size) (fun _ _=>aj.refl _ _) (fun _ _ _ _ _ hs h=>eG.stays _ _ _ _ hs h) (by kernel_rfl) (hs.on bf.drew) ?_ ?_ ?_;exact fun l hl=>⟨fun hk=>(by rw[hl]at hk;cases hk),fun hk=>(by rw[hl]at hk;cases hk)⟩
   ·intro i o lz a wx ho hn dq Z;have hC:=Z.c;have hI:=Z.i;have hi:i<4:=(Array.getElem?_eq_some_iff.1 ho).1;obtain rfl|rfl|rfl|rfl:i=0\/i=1\/i=2\/i=3:=(by omega);all_goals obtain rfl:=Option.some.inj ho
    exact dX ((fun _ _=>aj.refl _ _)) hC (an rfl) (fZ rfl (Z.old' 6) hC.o) rfl (⟨dE.pre (cX Z hn 3),dE.pre (cX Z hn 3)⟩);exact dX ((fun _ _=>aj.refl _ _)) hC (an rfl) (fZ rfl (Z.old' 7) hC.t) rfl (⟨dE.keep hI.1 (by rw[Z.size];decide) (by decide) (fun h=>h),dE.pre (cX Z hn 3)⟩);obtain⟨cs,hh,hsz⟩:=hC.r;have he:a.eval (.tmp 4)=af R:=Z.old' 4;exact jB (an rfl) (jC rfl he (ar Z dq 0 45) hh hsz) (hC.Y3 HD.out _) (aj.row hh) trivial ⟨fun _=>hh.row _,dE.pre (cX Z hn 3)⟩;obtain⟨cs,hh,hsz⟩:=hC.s;have he:a.eval (.tmp 5)=af S:=Z.old' 5;exact jB (an rfl) (jC rfl he (ar Z dq 1 46) hh hsz) (hC.dY HD.out _) (aj.row hh) trivial ⟨dE.keep hI.1 (by rw[Z.size];decide) (by decide) (fun h=>h.R1 _ _ (by have:=HD.out;unfold gS at this;omega)),fun _=>hh.row _⟩
   ·intro lz act wx hall Z;have hr:=Z.i.1 (hall 2 (by decide));have hsr:=Z.i.2 (hall 3 (by decide));have e4:act.eval (.tmp 4)=af R:=Z.old' 4;have e5:act.eval (.tmp 5)=af S:=Z.old' 5;have bj:=Z.c.below;have hdf:=Z.defers;obtain⟨tm,df⟩:=act;obtain rfl:df=[]:=hdf;clear Z hall;(go_wp2_with fail);refine bodyPost_ret (v:=.tuple #[.agg (aa out),.agg (aa rest)]) (QK Tryz.results189 _ _ _ _ _ e4 e5 hr hsr) rfl ⟨?_,bj⟩;obtain⟨q1,q2⟩:=HQ.out.done;rw[q1,q2]
theorem AN(x:Nat)(hx:x<Nm.ai)(g:Bool)(hg:decide (x=0)=g)(w:World):ak 163 #[.agg (aa x)] w (.bool g):=by rw[<-hg];exact zero x hx w
theorem sr(x y:Nat)(hx:x<Nm.ai)(hy:y<Nm.ai)(s:Nat)(g:Bool)(hs:(x+y)%Nm.ai=s)(hg:decide (Nm.ai<=x+y)=g)(w:World):ak 184 #[.agg (aa x),.agg (aa y)] w (.tuple #[.agg (aa s),.bool g]):=by rw[<-hg,<-hs];exact add x y hx hy w
theorem rJ(w:World):ak 187 #[ay 1] w (.agg (aa 1)):=of 1 (by decide) w
theorem AO(x y:Nat)(w:World):(Instr.buildSlice 70 2 #[(0,.agg (aa x)),(1,.agg (aa y))]).run Tryz.prog w=.ok (.slice (some ⟨w.heap.size,0,none⟩) 2 2) (w.alloc (.cells (bp [x,y]) 26)):=by kernel_rfl
variable{o:Oper}
theorem IK{ρ:Operand->Value}{p0 p1:Operand}(ho:o.op=.buildSlice 70 2 #[(0,p0),(1,p1)]){x y:Nat}(h0:ρ p0=.agg (aa x))(h1:ρ p1=.agg (aa y)):(execOp ρ o).run Tryz.prog w=.ok (.value (.slice (some ⟨w.heap.size,0,none⟩) 2 2)) (w.alloc (.cells (bp [x,y]) 26)):=by unfold execOp;simp only[ho,Sem.run_bind];rw[show(#[(0,p0),(1,p1)]:Array (Nat×Operand)).map (fun(i,x)=>(i,ρ x))=#[(0,.agg (aa x)),(1,.agg (aa y))] by simp[h0,h1]];rw[AO x y w];rfl
theorem NY{ops:Array Oper}{rest:List Oper}{Q:Exit->Act->World->Prop}(hgd:o.guard=none)(p0 p1:Operand)(ho:o.op=.buildSlice 70 2 #[(0,p0),(1,p1)])(x y:Nat)(h0:a.eval p0=.agg (aa x))(h1:a.eval p1=.agg (aa y))(h:wpList Tryz.prog ops Q rest (a.put o.dst (.slice (some ⟨w.heap.size,0,none⟩) 2 2)) (w.alloc (.cells (bp [x,y]) 26))):wpList Tryz.prog ops Q (o::rest) a w:=
 wpList_plain hgd fun _ hK=>by
  unfold Oper.wp;rw[IK ho h0 h1];exact hK _ _ h
namespace Nm
def cap(n:Nat):Nat:=if n<ai then n else ai-1
theorem nc(n:Nat):cap n<ai:=by
 have:0<ai:=by decide
 unfold cap;split<;>omega
def work(t:Nat):Nat:=cap (ai/(t+1))
theorem vv(t:Nat):work t<ai:=nc _
variable{t:Nat}
theorem Ib(h:t+1=ai):work t=1:=by unfold work;rw[h,Nat.div_self (by decide)];decide
theorem JK(h:t+1<ai):work t=cap ((ai-1-t)/(t+1)+1):=by unfold work;rw[show ai=(ai-1-t)+(t+1) by omega,Nat.add_div_right _ (by omega)];rw[show(ai-1-t)+(t+1)=ai by omega]
end Nm
def ofBits(b:Int):Nat:=if 0<=b/\b<=4294967295 then(if Nm.gi b.toNat||Nm.eL b.toNat||decide (Nm.j_ b.toNat=0)then 0 else Nm.work (Nm.j_ b.toNat))else 0
theorem IS(b:Int):ofBits b<Nm.ai:=by
 unfold ofBits;split
 ·split;decide;exact Nm.vv _
 decide
theorem Qk(x y:Nat)(hx:x<Nm.ai):fi [x,y] 2=(x+y)%Nm.ai:=by simp[fi,item,Nat.mod_eq_of_lt hx]
theorem dZ(x y:Nat)(hx:x<Nm.ai):fa [x,y] 2=decide (Nm.ai<=x+y):=by
 have h:¬Nm.ai<=x:=by omega
 simp[fa,fi,item,Nat.mod_eq_of_lt hx,h]
theorem GD(b n s:Nat)(xs:List Nat)(KS:Hid (∀w,Has w b (bp xs) 26->ak 160 #[.slice (aT b) n n] w (.tuple #[.agg (aa s),.bool true])))(w:World):Has w b (bp xs) 26->ak 122 #[.slice (aT b) n n] w (.agg (aa (Nm.ai-1))):=by
 intro hL;go_enter Tryz.func122,Tryz.ntmps122;go_upto_region 1 with fail
 generalize hw0:World.alloc _ _=v0;have bj:Below w.heap.size w v0:=by rw[<-hw0];exact bf.alloc (by simp<;>omega) _
 have hR:Has v0 (w.heap.size) (aa 0) 26:=by rw[<-hw0];exact Has.new (aa 0) _
 have R_:Hid (w.heap.size<=w.heap.size):=h_ (by omega);replace hL:=hL.on bj;clear hw0;go_wp2_with (first|fail|(with_reducible refine aK rfl _ rfl _ rfl _ hR rfl ?_))
 refine au (KS.out _ hL) fun v1 hb1=>?_;replace hR:=hR.on hb1;replace hL:=hL.on hb1;replace bj:=ah bj hb1;clear hb1;go_upto_region 2 with(with_reducible refine bg rfl _ _ rfl _ _ rfl rfl _ (Has.R2 _) rfl ?_)
 generalize hw2:World.setRow _ _ _=v2;have hb2:Below v1.heap.size v1 v2:=cU hw2;have hS:Has v2 v1.heap.size (aa s) 26:=by rw[<-hw2];exact(Has.R2 _).row _
 replace hR:=hR.on hb2;replace hL:=hL.on hb2;replace bj:=ah bj hb2;clear hw2 hb2;generalize v1.heap.size=Zu at hS|-;go_wp2_with (first|fail|(with_reducible refine aK rfl _ rfl _ rfl _ (by assumption) rfl ?_))
 refine au (gT _) fun v3 hb3=>?_;replace hR:=hR.on hb3;replace hS:=hS.on hb3;replace hL:=hL.on hb3;replace bj:=ah bj hb3;clear hb3;go_wp2_with (with_reducible first|refine aK rfl _ rfl _ rfl _ (by assumption) rfl ?_|refine bg rfl _ _ rfl _ _ rfl rfl _ hR rfl ?_)
 exact bodyPost_ret (v:=.agg (aa (Nm.ai-1))) (fw Tryz.results122 _ _ _ rfl (hR.row _)) rfl ⟨rfl,below_setRow bj R_.out _⟩
theorem xO(b n s:Nat)(xs:List Nat)(KS:Hid (∀w,Has w b (bp xs) 26->ak 160 #[.slice (aT b) n n] w (.tuple #[.agg (aa s),.bool false])))(w:World):Has w b (bp xs) 26->ak 122 #[.slice (aT b) n n] w (.agg (aa (s))):=by
 intro hL;go_enter Tryz.func122,Tryz.ntmps122;go_upto_region 1 with fail
 generalize hw0:World.alloc _ _=v0;have bj:Below w.heap.size w v0:=by rw[<-hw0];exact bf.alloc (by simp<;>omega) _
 have hR:Has v0 (w.heap.size) (aa 0) 26:=by rw[<-hw0];exact Has.new (aa 0) _
 have R_:Hid (w.heap.size<=w.heap.size):=h_ (by omega);replace hL:=hL.on bj;clear hw0;go_wp2_with (first|fail|(with_reducible refine aK rfl _ rfl _ rfl _ hR rfl ?_))
 refine au (KS.out _ hL) fun v1 hb1=>?_;replace hR:=hR.on hb1;replace hL:=hL.on hb1;replace bj:=ah bj hb1;clear hb1;go_upto_region 2 with(with_reducible refine bg rfl _ _ rfl _ _ rfl rfl _ (Has.R2 _) rfl ?_)
 generalize hw2:World.setRow _ _ _=v2;have hb2:Below v1.heap.size v1 v2:=cU hw2;have hS:Has v2 v1.heap.size (aa s) 26:=by rw[<-hw2];exact(Has.R2 _).row _
 replace hR:=hR.on hb2;replace hL:=hL.on hb2;replace bj:=ah bj hb2;clear hw2 hb2;generalize v1.heap.size=Zu at hS|-;go_wp2_with (with_reducible first|refine aK rfl _ rfl _ rfl _ (by assumption) rfl ?_|refine bg rfl _ _ rfl _ _ rfl rfl _ hR rfl ?_)
 exact bodyPost_ret (v:=.agg (aa (s))) (fw Tryz.results122 _ _ _ rfl (hR.row _)) rfl ⟨rfl,below_setRow bj R_.out _⟩
theorem PV(b n:Nat)(xs:List Nat)(hx:∀x∈xs,x<Nm.ai)(hn:n=xs.length)(hm:n<=1000)(w:World)(hL:Has w b (bp xs) 26):ak 122 #[.slice (aT b) n n] w (.agg (aa (if fa xs n then Nm.ai-1 else fi xs n))):=by
 have hS:=fun w=>sum b xs hx n hn hm w
 generalize fa xs n=o at*;cases o;exact xO b n _ xs (h_ hS) w hL;exact GD b n _ xs (h_ hS) w hL
theorem zg(x y:Nat)(hx:x<Nm.ai)(hy:y<Nm.ai)(z:Nat)(hz:Nm.cap (x+y)=z)(b:Nat)(w:World)(hL:Has w b (bp [x,y]) 26):ak 122 #[.slice (aT b) 2 2] w (.agg (aa z)):=by have h:=PV b 2 [x,y] (by simp;exact⟨hx,hy⟩) rfl (by omega) w hL;rw[Qk x y hx,dZ x y hx]at h;rw[<-hz];unfold Nm.cap;by_cases hb:x+y<Nm.ai;rw[decide_eq_false (by omega:¬Nm.ai<=x+y),Nat.mod_eq_of_lt hb]at h;rw[if_pos hb];exact h;rw[decide_eq_true (by omega:Nm.ai<=x+y)]at h;rw[if_neg hb];exact h
theorem BJ(t:Nat)(V6:Hid (b_ 187 #[ay 1] (.agg (aa 1))))(SP:Hid (b_ 184 #[.agg (aa t),.agg (aa 1)] (.tuple #[.agg (aa 0),.bool true])))(w:World):ak 164 #[.agg (aa t)] w (.agg (aa 1)):=by
 go_enter Tryz.func164,Tryz.ntmps164;go_upto_region 1 with fail
 generalize hw0:World.alloc _ _=v0;have bj:Below w.heap.size w v0:=by rw[<-hw0];exact(bf.alloc (by simp<;>omega) _).alloc (by simp<;>omega) _
 have hA:Has v0 (w.heap.size) (aa t) 26:=by rw[<-hw0];exact(Has.new _ _).alloc _
 have hR:Has v0 (w.heap.size+1) (aa 0) 26:=by rw[<-hw0];exact Has.R6 _ (aa 0) _
 have R_:Hid (w.heap.size<=w.heap.size+1):=h_ (by omega);clear hw0;generalize hg1:w.heap.size+1=Sj at hR R_|-;clear hg1;go_wp2_with (first|fail|(with_reducible refine aK rfl _ rfl _ rfl _ (by assumption) rfl ?_))
 refine au (V6.out _) fun v1 hb1=>?_;replace hA:=hA.on hb1;replace hR:=hR.on hb1;replace bj:=ah bj hb1;clear hb1;go_upto_region 2 with(with_reducible refine bg rfl _ _ rfl _ _ rfl rfl _ (Has.R2 _) rfl ?_)
 generalize hw2:World.setRow _ _ _=v2;have hb2:Below v1.heap.size v1 v2:=cU hw2;have hO:Has v2 v1.heap.size (aa 1) 26:=by rw[<-hw2];exact(Has.R2 _).row _
 replace hA:=hA.on hb2;replace hR:=hR.on hb2;replace bj:=ah bj hb2;clear hw2 hb2;generalize v1.heap.size=Sq at hO|-;go_wp2_with (first|fail|(with_reducible refine aK rfl _ rfl _ rfl _ (by assumption) rfl ?_))
 refine au (SP.out _) fun v3 hb3=>?_;replace hA:=hA.on hb3;replace hR:=hR.on hb3;replace hO:=hO.on hb3;replace bj:=ah bj hb3;clear hb3;go_upto_region 3 with(with_reducible refine bg rfl _ _ rfl _ _ rfl rfl _ (Has.R2 _) rfl ?_)
 generalize hw4:World.setRow _ _ _=v4;have hb4:Below v3.heap.size v3 v4:=cU hw4;have hM:Has v4 v3.heap.size (aa 0) 26:=by rw[<-hw4];exact(Has.R2 _).row _
 replace hA:=hA.on hb4;replace hR:=hR.on hb4;replace hO:=hO.on hb4;replace bj:=ah bj hb4;clear hw4 hb4;generalize v3.heap.size=Zv at hM|-;go_wp2_with (with_reducible first|refine aK rfl _ rfl _ rfl _ (by assumption) rfl ?_|refine bg rfl _ _ rfl _ _ rfl rfl _ hR rfl ?_)
 exact bodyPost_ret (v:=.agg (aa (1))) (fw Tryz.results164 _ _ _ rfl (hR.row _)) rfl ⟨rfl,below_setRow bj R_.out _⟩
def DO(t n m q r:Nat):Nat->eG
 | 0=>.val (.agg (aa t))
 | 1=>.val (.agg (aa n))
 | 2=>.val (.agg (aa m))
 | 3=>.val (.tuple #[.agg (aa q),.agg (aa r)])
 | 4=>.val (.tuple #[.agg (aa q),.agg (aa r)])
 | 5=>.val (.agg (aa q))
 | 6=>.val (.agg (aa r))
 | 7=>.ptr
 | 8=>.ptr
 | _=>.any
theorem Bb(t n m q r z:Nat)(V6:Hid (b_ 187 #[ay 1] (.agg (aa 1))))(SP:Hid (b_ 184 #[.agg (aa t),.agg (aa 1)] (.tuple #[.agg (aa m),.bool false])))(Zw:Hid (b_ 190 #[.agg (aa t)] (.agg (aa n))))(Zx:Hid (b_ 189 #[.agg (aa n),.agg (aa m)] (.tuple #[.agg (aa q),.agg (aa r)])))(Zy:Hid (∀b w,Has w b (bp [q,1]) 26->ak 122 #[.slice (aT b) 2 2] w (.agg (aa z))))(w:World):ak 164 #[.agg (aa t)] w (.agg (aa z)):=by
 go_enter Tryz.func164,Tryz.ntmps164;go_upto_region 1 with fail
 generalize hw0:World.alloc _ _=v0;have bj:Below w.heap.size w v0:=by rw[<-hw0];exact(bf.alloc (by simp<;>omega) _).alloc (by simp<;>omega) _
 have hA:Has v0 (w.heap.size) (aa t) 26:=by rw[<-hw0];exact(Has.new _ _).alloc _
 have hR:Has v0 (w.heap.size+1) (aa 0) 26:=by rw[<-hw0];exact Has.R6 _ (aa 0) _
 have R_:Hid (w.heap.size<=w.heap.size+1):=h_ (by omega);clear hw0;generalize hg1:w.heap.size+1=Sj at hR R_|-;clear hg1;go_wp2_with (first|fail|(with_reducible refine aK rfl _ rfl _ rfl _ (by assumption) rfl ?_))
 refine au (V6.out _) fun v1 hb1=>?_;replace hA:=hA.on hb1;replace hR:=hR.on hb1;replace bj:=ah bj hb1;clear hb1;go_upto_region 2 with(with_reducible refine bg rfl _ _ rfl _ _ rfl rfl _ (Has.R2 _) rfl ?_)
 generalize hw2:World.setRow _ _ _=v2;have hb2:Below v1.heap.size v1 v2:=cU hw2;have hO:Has v2 v1.heap.size (aa 1) 26:=by rw[<-hw2];exact(Has.R2 _).row _
 replace hA:=hA.on hb2;replace hR:=hR.on hb2;replace bj:=ah bj hb2;clear hw2 hb2;generalize v1.heap.size=Sq at hO|-;go_wp2_with (first|fail|(with_reducible refine aK rfl _ rfl _ rfl _ (by assumption) rfl ?_))
 refine au (SP.out _) fun v3 hb3=>?_;replace hA:=hA.on hb3;replace hR:=hR.on hb3;replace hO:=hO.on hb3;replace bj:=ah bj hb3;clear hb3;go_upto_region 3 with(with_reducible refine bg rfl _ _ rfl _ _ rfl rfl _ (Has.R2 _) rfl ?_)
 generalize hw4:World.setRow _ _ _=v4;have hb4:Below v3.heap.size v3 v4:=cU hw4;have hM:Has v4 v3.heap.size (aa m) 26:=by rw[<-hw4];exact(Has.R2 _).row _
 replace hA:=hA.on hb4;replace hR:=hR.on hb4;replace hO:=hO.on hb4;replace bj:=ah bj hb4;clear hw4 hb4;generalize v3.heap.size=Zv at hM|-;go_wp2_with fail
 refine Si.ix (by kernel_rfl) (fun w'=>Below v4.heap.size v4 w') (fun i v' w'=>(DO t n m q r i).holds v4.heap.size v' w') (fun l a w'=>(aU 9 6 v4.heap.size q l a w'/\aU 10 7 v4.heap.size r l a w')/\fy 7 6 8 7 l a) (aj v4.heap.size) (fun _ _=>aj.refl _ _) (fun _ _ _ _ _ hs h=>eG.stays _ _ _ _ hs h) (by kernel_rfl) bf.drew ?_ ?_ ?_;exact fun l hl=>⟨⟨fun hk=>(by rw[hl]at hk;cases hk),fun hk=>(by rw[hl]at hk;cases hk)⟩,fun hk _=>(by rw[hl]at hk;cases hk)⟩
 ·intro i o lz a wx ho hn dq Z;have hC:=Z.c;have hI:=Z.i;have hi:i<11:=(Array.getElem?_eq_some_iff.1 ho).1;obtain rfl|rfl|rfl|rfl|rfl|rfl|rfl|rfl|rfl|rfl|rfl:i=0\/i=1\/i=2\/i=3\/i=4\/i=5\/i=6\/i=7\/i=8\/i=9\/i=10:=by omega
  all_goals obtain rfl:=Option.some.inj ho
  exact dX ((fun _ _=>aj.refl _ _)) hC (an rfl) (fZ rfl (Z.old' 1) (hA.on hC)) rfl (⟨⟨aU.pre (cX Z hn 8),aU.pre (cX Z hn 8)⟩,fy.keep hI.2 (by rw[Z.size];decide) (by decide) (by decide) (by decide) (by decide)⟩)
  ·have e18:=Z.got 0 _ 18 rfl (dq ⟨0,.data⟩ (by simp) rfl) rfl;exact iS (an rfl) (f:=190) (args:=#[a.eval (.tmp 18)]) (by kernel_rfl) (by rw[show a.eval (.tmp 18)=_ from e18];  exact Zw.out wx) (fun w' hb=>⟨ah hC hb,aj.below hb,rfl,⟨⟨aU.pre (cX Z hn 8),aU.pre (cX Z hn 8)⟩,fy.keep hI.2 (by rw[Z.size];decide) (by decide) (by decide) (by decide) (by decide)⟩⟩)
  exact dX ((fun _ _=>aj.refl _ _)) hC (an rfl) (fZ rfl (Z.old' 4) (hM.on hC)) rfl (⟨⟨aU.pre (cX Z hn 8),aU.pre (cX Z hn 8)⟩,fy.keep hI.2 (by rw[Z.size];decide) (by decide) (by decide) (by decide) (by decide)⟩)
  ·have e19:=Z.got 1 _ 19 rfl (dq ⟨1,.data⟩ (by simp) rfl) rfl;have e20:=Z.got 2 _ 20 rfl (dq ⟨2,.data⟩ (by simp) rfl) rfl;exact iS (an rfl) (f:=189) (args:=#[a.eval (.tmp 19),a.eval (.tmp 20)]) (by kernel_rfl) (by rw[show a.eval (.tmp 19)=_ from e19];rw[show a.eval (.tmp 20)=_ from e20];  exact Zx.out wx) (fun w' hb=>⟨ah hC hb,aj.below hb,rfl,⟨⟨aU.pre (cX Z hn 8),aU.pre (cX Z hn 8)⟩,fy.keep hI.2 (by rw[Z.size];decide) (by decide) (by decide) (by decide) (by decide)⟩⟩)
  exact dX ((fun _ _=>aj.refl _ _)) hC (an rfl) (dy rfl) (ar Z dq 3 21) (⟨⟨aU.pre (cX Z hn 8),aU.pre (cX Z hn 8)⟩,fy.keep hI.2 (by rw[Z.size];decide) (by decide) (by decide) (by decide) (by decide)⟩);exact dX ((fun _ _=>aj.refl _ _)) hC (an rfl) (fc rfl (ar Z dq 4 17) rfl) rfl (⟨⟨aU.pre (cX Z hn 8),aU.pre (cX Z hn 8)⟩,fy.keep hI.2 (by rw[Z.size];decide) (by decide) (by decide) (by decide) (by decide)⟩);exact dX ((fun _ _=>aj.refl _ _)) hC (an rfl) (fc rfl (ar Z dq 4 17) rfl) rfl (⟨⟨aU.keep hI.1.1 (by rw[Z.size];decide) (by decide) (by decide) (fun _ h=>h),aU.pre (cX Z hn 8)⟩,fy.keep hI.2 (by rw[Z.size];decide) (by decide) (by decide) (by decide) (by decide)⟩);have Sy:Below wx.heap.size wx (wx.alloc (.cells (aa 0) 26)):=aY;exact mL (an rfl) (oO rfl) (ah hC Sy) (aj.below Sy) ⟨wx.heap.size,aa 0,hC.size,rfl,Has.new _ _,rfl⟩ (⟨⟨aU.pre (cX Z hn 8),aU.pre (cX Z hn 8)⟩,fy.fst (B:=v4.heap.size) (fun l=>Z.got 8 _ 7 rfl l rfl) (by rw[Z.size];decide) (by decide) (by decide) (by rw[Z.R4];exact(by decide:6<28))⟩);have Sy:Below wx.heap.size wx (wx.alloc (.cells (aa 0) 26)):=aY;exact mL (an rfl) (oO rfl) (ah hC Sy) (aj.below Sy) ⟨wx.heap.size,aa 0,hC.size,rfl,Has.new _ _,rfl⟩ (⟨⟨aU.keep hI.1.1 (by rw[Z.size];decide) (by decide) (by decide) (fun _ h=>h.on Sy),aU.pre (cX Z hn 8)⟩,fy.snd (B:=v4.heap.size) (fun l=>Z.got 7 _ 6 rfl l rfl) (by rw[Z.size];decide) (by decide) (by decide) (by rw[Z.R4];exact(by decide:7<28))⟩);obtain⟨b,cs,hb,he,hh,hsz⟩:eG.ptr.holds v4.heap.size (a.eval (.tmp 6)) wx:=Z.got 7 _ 6 rfl (dq ⟨7,.data⟩ (by simp) rfl) rfl;exact jB (an rfl) (jC rfl he (ar Z dq 5 22) hh hsz) (below_setRow hC hb _) (aj.row hh) trivial ⟨⟨fun _=>⟨b,hb,he,hh.row _⟩,aU.pre (cX Z hn 8)⟩,fy.keep hI.2 (by rw[Z.size];decide) (by decide) (by decide) (by decide) (by decide)⟩
  ·obtain⟨b,cs,hb,he,hh,hsz⟩:eG.ptr.holds v4.heap.size (a.eval (.tmp 7)) wx:=Z.got 8 _ 7 rfl (dq ⟨8,.data⟩ (by simp) rfl) rfl;have l10:lz.getD 7 false=true:=Z.after (k:=9) (by kernel_rfl) (dq ⟨9,.phase⟩ (by simp) rfl);have l11:lz.getD 8 false=true:=dq ⟨8,.data⟩ (by simp) rfl;have hne:=hI.2 l10 l11;refine jB (an rfl) (jC rfl he (ar Z dq 6 23) hh hsz) (below_setRow hC hb _) (aj.row hh) trivial ⟨⟨fun hl=>?_,fun _=>⟨b,hb,he,hh.row _⟩⟩,fy.keep hI.2 (by rw[Z.size];decide) (by decide) (by decide) (by decide) (by decide)⟩;rw[gF _ _ _ (by rw[Z.size];decide),if_neg (by decide)]at hl;obtain⟨b',hb',he',hh'⟩:=hI.1.1 hl;exact⟨b',hb',he',hh'.R1 _ _ (fun e=>hne (by rw[he',he,e]))⟩
 ·intro lz a wx hall Z;have hC:=Z.c;obtain⟨Y_,Xv,e6,hQ⟩:=Z.i.1.1 (hall 9 (by decide));obtain⟨UD,Xw,e7,hT⟩:=Z.i.1.2 (hall 10 (by decide));have e2:a.eval (.tmp 2)=af Sj:=Z.old' 2;have e3:a.eval (.tmp 3)=af Sq:=Z.old' 3;replace hA:=hA.on hC;replace hR:=hR.on hC;replace hO:=hO.on hC;replace hM:=hM.on hC;replace bj:=ah bj hC;obtain⟨u,hu⟩:∃u:Nat->Value,∀t,u t=a.eval (.tmp t):=⟨_,fun _=>rfl⟩;rw[RA a 28 u Z.R4 Z.defers hu];rw[<-hu]at e2 e3 e6 e7;clear hu Z hall hC Xv Xw;simp only[List.range,List.range.loop,List.map_cons,List.map_nil];rw[e2,e3,e6,e7];clear e2 e3 e6 e7;go_wp2_with (with_reducible first|refine aK rfl _ rfl _ rfl _ (by assumption) rfl ?_|refine NY rfl _ _ rfl _ _ rfl rfl ?_)
  refine au (Zy.out _ _ (Has.new _ _)) fun VV hbs=>?_;have S4:Below wx.heap.size wx VV:=aY.trans (hbs.mono (by simp));replace hA:=hA.on S4;replace hR:=hR.on S4;replace hO:=hO.on S4;replace hM:=hM.on S4;replace hQ:=hQ.on S4;replace hT:=hT.on S4;replace bj:=ah bj S4;clear hbs S4;go_wp2_with (with_reducible first|refine aK rfl _ rfl _ rfl _ (by assumption) rfl ?_|refine bg rfl _ _ rfl _ _ rfl rfl _ hR rfl ?_)
  exact bodyPost_ret (v:=.agg (aa (z))) (fw Tryz.results164 _ _ _ rfl (hR.row _)) rfl ⟨rfl,below_setRow bj R_.out _⟩
theorem RO(t:Nat)(ht:t<Nm.ai)(z:Nat)(hz:Nm.work t=z)(w:World):ak 164 #[.agg (aa t)] w (.agg (aa z)):=by
 rw[<-hz];by_cases h:t+1<Nm.ai
 ·rw[Nm.JK h]
  refine Bb t (Nm.ai-1-t) (t+1) ((Nm.ai-1-t)/(t+1)) ((Nm.ai-1-t)%(t+1)) _ (h_ rJ) (h_ (sr t 1 ht (by decide) _ false (Nat.mod_eq_of_lt h) (decide_eq_false (by omega)))) (h_ (not t ht))
   (h_ (wJ _ _ (by omega) h (by omega))) (h_ fun b w hL=>zg _ 1 ?_ (by decide) _ rfl b w hL) w
  exact Nat.lt_of_le_of_lt (Nat.div_le_self _ _) (by omega)
 ·have he:t+1=Nm.ai:=by omega
  rw[Nm.Ib he];exact BJ t (h_ rJ) (h_ (sr t 1 ht (by decide) 0 true (by rw[he];exact Nat.mod_self _) (decide_eq_true (by omega)))) w
theorem yE:(∀(b:Int)(z:Nat)(over:Bool)(_KD:Hid (b_ 162 #[i_ b] (.tuple #[.agg (aa z),.bool true,.bool over])))(w:World),ak 123 #[i_ b] w (.agg (aa 0)))/\ (∀(b:Int)(z:Nat)(_KD:Hid (b_ 162 #[i_ b] (.tuple #[.agg (aa z),.bool false,.bool true])))(w:World),ak 123 #[i_ b] w (.agg (aa 0))):=by
 refine⟨fun b z over KD w=>?_,
  fun b z KD w=>?_⟩
 all_goals
  go_enter Tryz.func123,Tryz.ntmps123;go_upto_region 1 with fail
  generalize hw0:World.alloc _ _=v0;have bj:Below w.heap.size w v0:=by rw[<-hw0];exact bf.alloc (by simp<;>omega) _
  have hR:Has v0 (w.heap.size) (aa 0) 26:=by rw[<-hw0];exact Has.new (aa 0) _
  have R_:Hid (w.heap.size<=w.heap.size):=h_ (by omega);clear hw0;go_wp2_with (with_reducible first|refine aK rfl _ rfl _ rfl _ hR rfl ?_|refine dG (by with_unfolding_all rfl) _ rfl _ rfl _ hR rfl ?_)
  refine au (KD.out _) fun v1 hb1=>?_;replace hR:=hR.on hb1;replace bj:=ah bj hb1;clear hb1;go_upto_region 2 with(with_reducible refine bg rfl _ _ rfl _ _ rfl rfl _ (Has.R2 _) rfl ?_)
  generalize hw2:World.setRow _ _ _=v2;have hb2:Below v1.heap.size v1 v2:=cU hw2;have hZ:Has v2 v1.heap.size (aa z) 26:=by rw[<-hw2];exact(Has.R2 _).row _
  replace hR:=hR.on hb2;replace bj:=ah bj hb2;clear hw2 hb2;generalize v1.heap.size=T' at hZ|-;go_wp2_with (with_reducible first|refine aK rfl _ rfl _ rfl _ (by assumption) rfl ?_|refine dG (by with_unfolding_all rfl) _ rfl _ rfl _ (by assumption) rfl ?_|refine lY rfl _ _ rfl _ 0 _ rfl rfl fN _ hR rfl ?_)
  exact bodyPost_ret (v:=.agg (aa (0))) (fw Tryz.results123 _ _ _ rfl (hR.row _)) rfl ⟨rfl,below_setRow bj R_.out _⟩
theorem Ij(b:Int)(z:Nat)(KD:Hid (b_ 162 #[i_ b] (.tuple #[.agg (aa z),.bool false,.bool false])))(KZ:Hid (b_ 163 #[.agg (aa z)] (.bool true)))(w:World):ak 123 #[i_ b] w (.agg (aa 0)):=by
 go_enter Tryz.func123,Tryz.ntmps123;go_upto_region 1 with fail
 generalize hw0:World.alloc _ _=v0;have bj:Below w.heap.size w v0:=by rw[<-hw0];exact bf.alloc (by simp<;>omega) _
 have hR:Has v0 (w.heap.size) (aa 0) 26:=by rw[<-hw0];exact Has.new (aa 0) _
 have R_:Hid (w.heap.size<=w.heap.size):=h_ (by omega);clear hw0;go_wp2_with (with_reducible first|refine aK rfl _ rfl _ rfl _ hR rfl ?_|refine dG (by with_unfolding_all rfl) _ rfl _ rfl _ hR rfl ?_)
 refine au (KD.out _) fun v1 hb1=>?_;replace hR:=hR.on hb1;replace bj:=ah bj hb1;clear hb1;go_upto_region 2 with(with_reducible refine bg rfl _ _ rfl _ _ rfl rfl _ (Has.R2 _) rfl ?_)
 generalize hw2:World.setRow _ _ _=v2;have hb2:Below v1.heap.size v1 v2:=cU hw2;have hZ:Has v2 v1.heap.size (aa z) 26:=by rw[<-hw2];exact(Has.R2 _).row _
 replace hR:=hR.on hb2;replace bj:=ah bj hb2;clear hw2 hb2;generalize v1.heap.size=T' at hZ|-;go_wp2_with (with_reducible first|refine aK rfl _ rfl _ rfl _ (by assumption) rfl ?_|refine dG (by with_unfolding_all rfl) _ rfl _ rfl _ (by assumption) rfl ?_)
 refine au (KZ.out _) fun v3 hb3=>?_;replace hR:=hR.on hb3;replace hZ:=hZ.on hb3;replace bj:=ah bj hb3;clear hb3;go_wp2_with (with_reducible first|refine aK rfl _ rfl _ rfl _ (by assumption) rfl ?_|refine dG (by with_unfolding_all rfl) _ rfl _ rfl _ (by assumption) rfl ?_|refine lY rfl _ _ rfl _ 0 _ rfl rfl fN _ hR rfl ?_)
 exact bodyPost_ret (v:=.agg (aa (0))) (fw Tryz.results123 _ _ _ rfl (hR.row _)) rfl ⟨rfl,below_setRow bj R_.out _⟩
theorem Ev(b:Int)(z:Nat)(KD:Hid (b_ 162 #[i_ b] (.tuple #[.agg (aa z),.bool false,.bool false])))(KZ:Hid (b_ 163 #[.agg (aa z)] (.bool false)))(v:Nat)(KO:Hid (b_ 164 #[.agg (aa z)] (.agg (aa v))))(w:World):ak 123 #[i_ b] w (.agg (aa v)):=by
 go_enter Tryz.func123,Tryz.ntmps123;go_upto_region 1 with fail
 generalize hw0:World.alloc _ _=v0;have bj:Below w.heap.size w v0:=by rw[<-hw0];exact bf.alloc (by simp<;>omega) _
 have hR:Has v0 (w.heap.size) (aa 0) 26:=by rw[<-hw0];exact Has.new (aa 0) _
 have R_:Hid (w.heap.size<=w.heap.size):=h_ (by omega);clear hw0;go_wp2_with (with_reducible first|refine aK rfl _ rfl _ rfl _ hR rfl ?_|refine dG (by with_unfolding_all rfl) _ rfl _ rfl _ hR rfl ?_)
 refine au (KD.out _) fun v1 hb1=>?_;replace hR:=hR.on hb1;replace bj:=ah bj hb1;clear hb1;go_upto_region 2 with(with_reducible refine bg rfl _ _ rfl _ _ rfl rfl _ (Has.R2 _) rfl ?_)
 generalize hw2:World.setRow _ _ _=v2;have hb2:Below v1.heap.size v1 v2:=cU hw2;have hZ:Has v2 v1.heap.size (aa z) 26:=by rw[<-hw2];exact(Has.R2 _).row _
 replace hR:=hR.on hb2;replace bj:=ah bj hb2;clear hw2 hb2;generalize v1.heap.size=T' at hZ|-;go_wp2_with (with_reducible first|refine aK rfl _ rfl _ rfl _ (by assumption) rfl ?_|refine dG (by with_unfolding_all rfl) _ rfl _ rfl _ (by assumption) rfl ?_)
 refine au (KZ.out _) fun v3 hb3=>?_;replace hR:=hR.on hb3;replace hZ:=hZ.on hb3;replace bj:=ah bj hb3;clear hb3;go_wp2_with (with_reducible first|refine aK rfl _ rfl _ rfl _ (by assumption) rfl ?_|refine dG (by with_unfolding_all rfl) _ rfl _ rfl _ (by assumption) rfl ?_)
 refine au (KO.out _) fun v4 hb4=>?_;replace hR:=hR.on hb4;replace hZ:=hZ.on hb4;replace bj:=ah bj hb4;clear hb4;go_wp2_with (with_reducible first|refine aK rfl _ rfl _ rfl _ (by assumption) rfl ?_|refine dG (by with_unfolding_all rfl) _ rfl _ rfl _ (by assumption) rfl ?_|refine bg rfl _ _ rfl _ _ rfl rfl _ hR rfl ?_)
 exact bodyPost_ret (v:=.agg (aa (v))) (fw Tryz.results123 _ _ _ rfl (hR.row _)) rfl ⟨rfl,below_setRow bj R_.out _⟩
theorem Nm.SR{n:Nat}:Nm.j_ n<Nm.ai:=Nm.y4 (Nat.lt_trans (Nat.mod_lt _ (by decide:0<8388608)) (by decide)) _
theorem xQ(b:Int)(w:World):ak 123 #[i_ b] w (.agg (aa (ofBits b))):=by
 unfold ofBits;by_cases hb:0<=b/\b<=4294967295
 ·rw[if_pos hb];obtain⟨n,rfl⟩:=Int.eq_ofNat_of_zero_le hb.1;have hd:=fun w=>He n (by omega) w
  rw[Int.toNat_natCast];generalize hl:Nm.gi n=low at*;generalize ho:Nm.eL n=over at*;cases low
  ·cases over
   ·by_cases hz:Nm.j_ n=0;rw[decide_eq_true hz];exact Ij _ _ (h_ hd) (h_ (AN _ Nm.SR true (decide_eq_true hz))) w;rw[decide_eq_false hz];exact Ev _ _ (h_ hd) (h_ (AN _ Nm.SR false (decide_eq_false hz))) _ (h_ (RO _ Nm.SR _ rfl)) w
   exact yE.2 _ _ (h_ hd) w
  exact yE.1 _ _ _ (h_ hd) w
 rw[if_neg hb];exact Ij b 0 (h_ (DG b hb)) (h_ (AN 0 (by decide) true (by decide))) w
end NN
namespace NN
namespace Nm
def pv(x:Nat)(z:Int):Nat:=if 0<=z then up x z.toNat else down x (-z).toNat
theorem jZ(x n:Nat):pv x (n:Int)=x*2^n%ai:=by unfold pv;rw[if_pos (by omega),oo,Int.toNat_natCast]
theorem Gn(x n:Nat)(hn:0<n):pv x (-(n:Int))=x/2^n:=by unfold pv;rw[if_neg (by omega),CN,Int.neg_neg,Int.toNat_natCast]
theorem FR{m i:Nat}(hm:m<ai):pv (pv m (i:Int)) (-(i:Int))=m↔m*2^i<ai:=by
 have hb:0<ai:=by decide
 by_cases h0:i=0;subst h0;rw[show(-((0:Nat):Int))=((0:Nat):Int) by rfl,jZ,jZ,Nat.pow_zero,Nat.mul_one,Nat.mul_one,Nat.mod_mod,Nat.mod_eq_of_lt hm];exact⟨fun _=>hm,fun _=>rfl⟩
 ·rw[Gn _ _ (by omega),jZ];constructor
  ·intro h;have h1:=Nat.mod_lt (m*2^i) hb
   have h2:m*2^i<=m*2^i%ai:=by
    have:=Nat.div_mul_le_self (m*2^i%ai) (2^i);rwa[h]at this
   omega
  intro h;rw[Nat.mod_eq_of_lt h,Nat.mul_div_cancel _ (Nat.two_pow_pos i)]
variable{t o r:Nat}
theorem Je(ht:0<t):work t=ai/(t+1):=by have h:ai/(t+1)<ai:=Nat.div_lt_self (by decide) (by omega);unfold work cap;rw[if_pos h]
theorem Hf:work 0=ai-1:=by unfold work;decide
def LD(t k o r:Nat):Prop:=r+1+o*(t+1)=ai/\r+1<=(t+1)*2^(256-k)
theorem LD.start(t:Nat):LD t 0 0 (ai-1):=by
 have e:ai-1+1=ai:=by decide
 refine⟨by rw[e];omega,?_⟩;rw[e,show 256-0=256 from rfl,<-bU];exact Nat.le_mul_of_pos_left _ (by omega)
theorem LD.last(ht:0<t)(h:LD t 256 o r):(decide (r<t)=true->o=work t)/\(decide (r<t)=false->(o+1)%ai=work t):=by
 obtain⟨h1,h2⟩:=h;rw[show 256-256=0 from rfl,Nat.pow_zero,Nat.mul_one]at h2;rw[Je ht];constructor;intro h3;have h3:=of_decide_eq_true h3;rw[<-h1,Nat.add_mul_div_right _ _ (by omega),Nat.div_eq_of_lt (by omega),Nat.zero_add]
 ·intro h3;have h3:=of_decide_eq_false h3;have e:(o+1)*(t+1)=ai:=by rw[Nat.add_mul];omega
  have e2:ai/(t+1)=o+1:=by rw[<-e,Nat.mul_div_cancel _ (by omega)]
  rw[e2];refine Nat.mod_eq_of_lt ?_;rw[<-e2];exact Nat.div_lt_self (by decide) (by omega)
theorem LD.step{k d m2 s r2 m3 o2:Nat}{z:Int}(ht:0<t)(htb:t+1<ai)(hk:k<256)(hz:z=255-(k:Int))(hr:r<ai)(h:LD t k o r)(hd:d=pv (t+1) z)(hm2:m2=pv d (-z))(hs:s=(d+ai-1)%ai)(hr2:r2=(r+ai-d)%ai)(Yz:m3=pv 1 z)(ho2:o2=(o+m3)%ai):((!decide (m2=t+1))=true->LD t (k+1) o r)/\((!decide (m2=t+1))=false->decide (r<s)=true->LD t (k+1) o r)/\ ((!decide (m2=t+1))=false->decide (r<s)=false->decide (r2=ai-1)=false->LD t (k+1) o2 r2)/\((!decide (m2=t+1))=false->decide (r<s)=false->decide (r2=ai-1)=true->o2=work t):=by
 obtain⟨h1,h2⟩:=h;obtain⟨i,hi⟩:∃i,i=255-k:=⟨_,rfl⟩;have hzi:z=(i:Int):=by omega
 have e1:256-(k+1)=i:=by omega
 have e2:256-k=i+1:=by omega
 rw[e2,Nat.pow_succ]at h2;subst hzi;have hf:=FR (m:=t+1) (i:=i) htb;rw[<-hd,<-hm2]at hf;unfold LD;rw[e1];have hbp:0<ai:=by decide
 by_cases hm:m2=t+1
 ·have hfit:=hf.1 hm;have hd':d=(t+1)*2^i:=by rw[hd,jZ,Nat.mod_eq_of_lt hfit]
  have hp:0<2^i:=Nat.two_pow_pos i;have hdp:0<d:=by rw[hd'];exact Nat.mul_pos (by omega) hp
  have hs':s=d-1:=by
   rw[hs,show d+ai-1=(d-1)+ai by omega,Nat.add_mod_right,Nat.mod_eq_of_lt (by omega)]
  have h2i:2^i<ai:=Nat.lt_of_le_of_lt (Nat.le_mul_of_pos_left _ (by omega)) hfit;have Zz:m3=2^i:=by rw[Yz,jZ,Nat.one_mul,Nat.mod_eq_of_lt h2i]
  have hdec:(!decide (m2=t+1))=false:=by simp[hm]
  rw[<-hd'];rw[<-Nat.mul_assoc,<-hd']at h2;refine⟨fun hc=>(by rw[hdec]at hc;cases hc),fun _ h3=>?_,fun _ h3 h4=>?_,fun _ h3 h4=>?_⟩;have:=of_decide_eq_true h3;exact⟨h1,by omega⟩
  all_goals
   have h3:=of_decide_eq_false h3;have hrd:d<=r+1:=by omega
   have e3:(o+2^i)*(t+1)=o*(t+1)+d:=by rw[Nat.add_mul,hd',Nat.mul_comm (2^i)]
   have hol:o+2^i<ai:=by
    have h5:(o+2^i)*(t+1)<=ai:=(by omega);have h6:o+2^i<=ai/(t+1):=(Nat.le_div_iff_mul_le (by omega)).2 h5;have h7:ai/(t+1)<ai:=Nat.div_lt_self hbp (by omega);omega
   have Xx:o2=o+2^i:=by rw[ho2,Zz,Nat.mod_eq_of_lt hol]
  ·have h4:=of_decide_eq_false h4
   have ZA:d<=r:=by
    rcases Nat.lt_or_ge r d with hc|hc
    exact absurd (by rw[hr2,Nat.mod_eq_of_lt (by omega)];omega) h4;exact hc
   have hr2':r2=r-d:=by rw[hr2,show r+ai-d=(r-d)+ai by omega,Nat.add_mod_right,Nat.mod_eq_of_lt (by omega)]
   rw[Xx,e3,hr2'];exact⟨by omega,by omega⟩
  ·have h4:=of_decide_eq_true h4
   have ZA:r+1=d:=by
    rcases Nat.lt_or_ge r d with hc|hc
    omega;have hr2':r2=r-d:=(by rw[hr2,show r+ai-d=(r-d)+ai by omega,Nat.add_mod_right,Nat.mod_eq_of_lt (by omega)]);omega
   have e4:(o+2^i)*(t+1)=ai:=by rw[e3];omega
   rw[Je ht,Xx,<-e4,Nat.mul_div_cancel _ (by omega)]
 ·have hfit:ai<=(t+1)*2^i:=Nat.le_of_not_lt fun hc=>hm (hf.2 hc)
  have hdec:(!decide (m2=t+1))=true:=by simp[hm]
  refine⟨fun _=>⟨h1,by omega⟩,fun hc=>(by rw[hdec]at hc;cases hc),fun hc=>(by rw[hdec]at hc;cases hc),fun hc=>(by rw[hdec]at hc;cases hc)⟩
end Nm
open Go.RowKit Si
theorem jx:0<Nm.ai:=by rw[Nm.bU];exact Nat.two_pow_pos _
theorem sE:(#[ay 1,ay 0,ay 0,ay 0]:Array Value)=aa 1:=rfl
theorem Ft(w:World):ak 150 #[.agg #[ay 0,ay 0,ay 0,ay 0]] w (.agg (aa (Nm.ai-1))):=yM 0 jx w
theorem ry(w:World):ak 116 #[] w (.agg (aa (Nm.ai-1))):=by
 have KN:=h_ Ft;go_enter Tryz.func116,Tryz.ntmps116;go_upto_region 1 with fail
 generalize hw0:World.alloc _ _=v0;have hR:Has v0 w.heap.size (aa 0) 26:=by rw[<-hw0];exact Has.R2 _
 have bj:Bl w v0:=dd hw0;clear hw0;go_wp2_with fail
 refine au (KN.out _) fun v1 hb=>?_;replace hR:=hR.on hb;replace bj:=ah bj hb;go_wp2_with (with_reducible refine bg rfl _ _ rfl _ _ rfl rfl _ hR rfl ?_)
 exact bodyPost_ret (v:=.agg (aa (Nm.ai-1))) (fw Tryz.results116 _ _ _ rfl (hR.row _)) rfl ⟨rfl,below_setRow bj (Nat.le_refl _) _⟩
theorem Et(x y s:Nat)(KA:Hid (b_ 115 #[.agg (aa x),.agg (aa y)] (.tuple #[.agg (aa s),.bool true])))(w:World):ak 80 #[.agg (aa x),.agg (aa y)] w (.agg (aa (Nm.ai-1))):=by
 have KM:=h_ ry;go_enter Tryz.func80,Tryz.ntmps80;go_upto_region 1 with fail
 generalize hw0:World.alloc _ _=v0;have bj:Below w.heap.size w v0:=by rw[<-hw0];exact((bf.alloc (by simp<;>omega) _).alloc (by simp<;>omega) _).alloc (by simp<;>omega) _
 have h1:Has v0 (w.heap.size) (aa x) 26:=by rw[<-hw0];exact((Has.new _ _).alloc _).alloc _
 have h2:Has v0 (w.heap.size+1) (aa y) 26:=by rw[<-hw0];exact(Has.R6 _ _ _).alloc _
 have hR:Has v0 (w.heap.size+1+1) (aa 0) 26:=by rw[<-hw0];exact Has.Sw _ _ (aa 0) _
 have R_:Hid (w.heap.size<=w.heap.size+1+1):=h_ (by omega);clear hw0;generalize hg2:w.heap.size+1+1=Sj at hR R_|-;clear hg2;generalize hg1:w.heap.size+1=ZB at h2|-;clear hg1;go_wp2_with (first|fail|(with_reducible refine aK rfl _ rfl _ rfl _ (by assumption) rfl ?_))
 refine au (KA.out _) fun v1 hb1=>?_;replace h1:=h1.on hb1;replace h2:=h2.on hb1;replace hR:=hR.on hb1;replace bj:=ah bj hb1;clear hb1;go_upto_region 2 with(with_reducible refine bg rfl _ _ rfl _ _ rfl rfl _ (Has.R2 _) rfl ?_)
 generalize hw2:World.setRow _ _ _=v2;have hb2:Below v1.heap.size v1 v2:=cU hw2;have h5:Has v2 v1.heap.size (aa s) 26:=by rw[<-hw2];exact(Has.R2 _).row _
 replace h1:=h1.on hb2;replace h2:=h2.on hb2;replace hR:=hR.on hb2;replace bj:=ah bj hb2;clear hw2 hb2;generalize v1.heap.size=ZC at h5|-;go_wp2_with (first|fail|(with_reducible refine aK rfl _ rfl _ rfl _ (by assumption) rfl ?_))
 refine au (KM.out _) fun v3 hb3=>?_;replace h1:=h1.on hb3;replace h2:=h2.on hb3;replace hR:=hR.on hb3;replace h5:=h5.on hb3;replace bj:=ah bj hb3;clear hb3;go_wp2_with (with_reducible first|refine aK rfl _ rfl _ rfl _ (by assumption) rfl ?_|refine bg rfl _ _ rfl _ _ rfl rfl _ hR rfl ?_)
 exact bodyPost_ret (v:=.agg (aa (Nm.ai-1))) (fw Tryz.results80 _ _ _ rfl (hR.row _)) rfl ⟨rfl,below_setRow bj R_.out _⟩
theorem wG(x y s:Nat)(KA:Hid (b_ 115 #[.agg (aa x),.agg (aa y)] (.tuple #[.agg (aa s),.bool false])))(w:World):ak 80 #[.agg (aa x),.agg (aa y)] w (.agg (aa s)):=by
 go_enter Tryz.func80,Tryz.ntmps80;go_upto_region 1 with fail
 generalize hw0:World.alloc _ _=v0;have bj:Below w.heap.size w v0:=by rw[<-hw0];exact((bf.alloc (by simp<;>omega) _).alloc (by simp<;>omega) _).alloc (by simp<;>omega) _
 have h1:Has v0 (w.heap.size) (aa x) 26:=by rw[<-hw0];exact((Has.new _ _).alloc _).alloc _
 have h2:Has v0 (w.heap.size+1) (aa y) 26:=by rw[<-hw0];exact(Has.R6 _ _ _).alloc _
 have hR:Has v0 (w.heap.size+1+1) (aa 0) 26:=by rw[<-hw0];exact Has.Sw _ _ (aa 0) _
 have R_:Hid (w.heap.size<=w.heap.size+1+1):=h_ (by omega);clear hw0;generalize hg2:w.heap.size+1+1=Sj at hR R_|-;clear hg2;generalize hg1:w.heap.size+1=ZB at h2|-;clear hg1;go_wp2_with (first|fail|(with_reducible refine aK rfl _ rfl _ rfl _ (by assumption) rfl ?_))
 refine au (KA.out _) fun v1 hb1=>?_;replace h1:=h1.on hb1;replace h2:=h2.on hb1;replace hR:=hR.on hb1;replace bj:=ah bj hb1;clear hb1;go_upto_region 2 with(with_reducible refine bg rfl _ _ rfl _ _ rfl rfl _ (Has.R2 _) rfl ?_)
 generalize hw2:World.setRow _ _ _=v2;have hb2:Below v1.heap.size v1 v2:=cU hw2;have h5:Has v2 v1.heap.size (aa s) 26:=by rw[<-hw2];exact(Has.R2 _).row _
 replace h1:=h1.on hb2;replace h2:=h2.on hb2;replace hR:=hR.on hb2;replace bj:=ah bj hb2;clear hw2 hb2;generalize v1.heap.size=ZC at h5|-;go_wp2_with (with_reducible first|refine aK rfl _ rfl _ rfl _ (by assumption) rfl ?_|refine bg rfl _ _ rfl _ _ rfl rfl _ hR rfl ?_)
 exact bodyPost_ret (v:=.agg (aa (s))) (fw Tryz.results80 _ _ _ rfl (hR.row _)) rfl ⟨rfl,below_setRow bj R_.out _⟩
theorem Bn(x:Nat)(hx:x<Nm.ai)(z:Int)(h1:-300<=z)(h2:z<=300):∃d,d=Nm.pv x z/\d<Nm.ai/\b_ 145 #[.agg (aa x),i_ z] (.agg (aa d)):=by by_cases h0:0<=z;obtain⟨n,rfl⟩:∃n:Nat,z=(n:Int):=⟨z.toNat,by omega⟩;refine⟨Nm.up x n,?_,Nm.my _ _,fun w=>AD x n hx (by omega) w⟩;unfold Nm.pv;rw[if_pos h0,Int.toNat_natCast];obtain⟨n,rfl⟩:∃n:Nat,z = -(n:Int):=⟨(-z).toNat,by omega⟩;refine⟨Nm.down x n,?_,Nm.AK hx _,fun w=>Kz x n hx (by omega) (by omega) w⟩;unfold Nm.pv;rw[if_neg h0,Int.neg_neg,Int.toNat_natCast]
theorem xl(x y:Nat)(hx:x<Nm.ai)(hy:y<Nm.ai)(w:World):ak 80 #[.agg (aa x),.agg (aa y)] w (.agg (aa (Nm.cap (x+y)))):=by
 unfold Nm.cap;cases h:decide (Nm.ai<=x+y);have h1:=of_decide_eq_false h;rw[if_pos (by omega)];have:=wG x y ((x+y)%Nm.ai) (h_ fun w=>by have:=pG x y hx hy w;rwa[h]at this) w;rwa[Nat.mod_eq_of_lt (by omega)]at this
 have h1:=of_decide_eq_true h;rw[if_neg (by omega)];exact Et x y ((x+y)%Nm.ai) (h_ fun w=>by have:=pG x y hx hy w;rwa[h]at this) w
