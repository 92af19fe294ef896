import Derived.OpenShut
import Derived.Test.YtkbjaadjnbgfbaaGreatDoorHBunQ28
set_option maxRecDepth 100000
set_option maxHeartbeats 8000000
namespace Go.Proofs.YtkbjaadjnbgfbaaGreatDoor
namespace NN
open Go.RowKit VI
theorem Ul(a:Act)(n:Nat)(u:Nat->Value)(hs:a.tmps.size=n)(hd:a.defers=[])(hu:∀t,u t=a.eval (.tmp t)):a=⟨((List.range n).map u).toArray,[]⟩:=by obtain⟨tm,df⟩:=a;obtain rfl:df=[]:=hd;congr 1;apply Array.ext;simpa using hs;intro i h1 h2;simp only[om,jh,jo,hu];simp[Act.eval,Array.getD_eq_getD_getElem?,h1]
theorem Fp(x n:Nat)(hx:x<Nm.ak)(hn:n<=255)(w:World):ar 207 #[.agg (aa x),i_ n] w (.agg (aa (Nm.up x n))):=by by_cases h:n=0;subst h;rw[Nm.xP hx];exact vB x 0 (by omega) w;exact wL x n hx (by omega) (by omega) w
theorem Lo{n:Nat}(hn:n<=255):Nm.ak=2^n*2^(256-n):=by rw[Nm.dj,<-Nat.pow_add,show n+(256-n)=256 by omega]
theorem tF(x n:Nat)(hn:n<=255):Nm.up x n=2^n*(x%2^(256-n)):=by unfold Nm.up;rw[jz,Lo hn,gd x,Nat.mul_mod_mul_left]
theorem xu{x y:Nat}(hx:x<Nm.ak)(hy:y<=x):(x+Nm.ak-y)%Nm.ak=x-y:=by rw[show x+Nm.ak-y=x-y+Nm.ak by omega,oe,bp (by omega)]
def ji(k1:Nat)(p1:Tmp)(k2:Nat)(p2:Tmp)(lz:Array Bool)(a:Act):Prop:=lz.getD k1 false=true->lz.getD k2 false=true->a.eval (.tmp p1)≠a.eval (.tmp p2)
theorem AM(a:Act)(d:Option Tmp)(p:Tmp)(v:Value)(h:d≠some p):(a.put d v).eval (.tmp p)=a.eval (.tmp p):=
 fV (fun d' hdd e=>h (by rw[hdd];cases e;rfl))
variable{k1 k2 B A R S O T b out rest:Nat}{p1 p2:Tmp}{lz:Array Bool}{a:Act}
theorem ji.keep{i:Nat}{d:Option Tmp}{v:Value}(h:ji k1 p1 k2 p2 lz a)(hi:i<lz.size)(h1:i≠k1)(h2:i≠k2)(d1:d≠some p1)(d2:d≠some p2):ji k1 p1 k2 p2 (lz.setIfInBounds i true) (a.put d v):=fun l1 l2=>by
 rw[ko _ _ _ hi,ah h1]at l1;rw[ko _ _ _ hi,ah h2]at l2;rw[AM _ _ _ _ d1,AM _ _ _ _ d2];exact h l1 l2
variable{w wr:World}
theorem ji.fst(hg:lz.getD k2 false=true->gV.ptr.holds B (a.eval (.tmp p2)) w)(hi:k1<lz.size)(hk:k1≠k2)(hp:p1≠p2)(hs:p1<a.tmps.size):ji k1 p1 k2 p2 (lz.setIfInBounds k1 true) (a.put (some p1) (.pointer (some ⟨w.heap.size,0,none⟩))):=fun _ l2 e=>by
 rw[ko _ _ _ hi,ah hk]at l2;obtain⟨b,cs,_,hv,hh,_⟩:=hg l2;rw[oq _ _ _ hs,AM _ _ _ _ (fun h=>hp (Option.some.inj h)),hv]at e;injection e with e;injection e with e;injection e with e
 have:=hh.lt;omega
theorem ji.snd(hg:lz.getD k1 false=true->gV.ptr.holds B (a.eval (.tmp p1)) w)(hi:k2<lz.size)(hk:k2≠k1)(hp:p2≠p1)(hs:p2<a.tmps.size):ji k1 p1 k2 p2 (lz.setIfInBounds k2 true) (a.put (some p2) (.pointer (some ⟨w.heap.size,0,none⟩))):=fun l1 _ e=>by
 rw[ko _ _ _ hi,ah hk]at l1;obtain⟨b,cs,_,hv,hh,_⟩:=hg l1;rw[oq _ _ _ hs,AM _ _ _ _ (fun h=>hp (Option.some.inj h)),hv]at e;injection e with e;injection e with e;injection e with e
 have:=hh.lt;omega
theorem Has.YZ(o:Obj)(t:TypeId):Has ((w.alloc o).alloc (.cells #[aH 0,aH 0,aH 0,aH 0] t)) (w.heap.size+1) (aa 0) t:=Has.Vt o (aa 0) t
theorem Qs.WA{a:Nat}(h:Qs w wr A B R S O T a b out rest){w0:World}(hd:kO w0 A B R S O T)(hT:T<w.heap.size){g:Nat}(hg:w.heap.size<=g)(cs:Array Value):Qs w (wr.setRow g cs) A B R S O T a b out rest:=by obtain⟨_,d2,d3,d4,d5,d6⟩:=hd;exact⟨below_setRow h.below hg _,h.a.Vo _ _ (by omega),h.b.Vo _ _ (by omega),let ⟨cs,h1,h2⟩:=h.r; ⟨cs,h1.Vo _ _ (by omega),h2⟩,let ⟨cs,h1,h2⟩:=h.s; ⟨cs,h1.Vo _ _ (by omega),h2⟩,h.o.Vo _ _ (by omega),h.t.Vo _ _ (by omega)⟩
theorem Qs.base{w':World}{a:Nat}(h:Qs w wr A B R S O T a b out rest)(h':Qs wr w' A B R S O T a b out rest):Qs w w' A B R S O T a b out rest:=⟨ai h.below h'.below,h'.a,h'.b,h'.r,h'.s,h'.o,h'.t⟩
theorem Qs.own{a:Nat}(h:Qs w wr A B R S O T a b out rest):Qs wr wr A B R S O T a b out rest:=⟨cg,h.a,h.b,h.r,h.s,h.o,h.t⟩
def xk(b k rest d s:Nat)(c:Bool):Nat->gV
 | 0=>.val (.agg (aa rest))|1=>.val (.agg (aa b))|2=>.val (i_ k)|3=>.val (.agg (aa d))|4=>.val (.tuple #[.agg (aa s),.bool c])|5=>.val (.tuple #[.agg (aa s),.bool c])
 | 6=>.val (.agg (aa s))|7=>.val (.bool c)|8=>.ptr|9=>.any|_=>.val (.bool c)
theorem xK(a b:Nat)(ha:a<Nm.ak)(hb:b<Nm.ak)(hb0:0<b)(w:World):ar 189 #[.agg (aa a),.agg (aa b)] w (.tuple #[.agg (aa (a/b)),.agg (aa (a%b))]):=by
 have X_:=fun w=>zero b hb w
 rw[show decide (b=0)=false by simp;omega]at X_;have cLa:=fun w=>len a ha w
 have cLb:=fun w=>len b hb w
 obtain⟨la,hla⟩:∃l,l=Nm.len a:=⟨_,rfl⟩;obtain⟨lb,hlb⟩:∃l,l=Nm.len b:=⟨_,rfl⟩;have bla:la<=256:=by rw[hla];exact Nm.ll (by rw[<-Nm.dj];exact ha)
 have blb:lb<=256:=by rw[hlb];exact Nm.ll (by rw[<-Nm.dj];exact hb)
 have ai0:0<lb:=by
  rcases lg lb with h|h
  have:=(Nm.lD b).1;rw[<-hlb,h]at this;simp at this;omega;exact h
 have s1:lb<=la->a<b*2^(la-lb+1):=fun h=>by
  rw[hla,hlb]at*;rcases Nm.Hi h with h'|h'
  exact h';omega
 have s2:lb<=la->∀k,k<=la-lb->b*2^k<Nm.ak:=fun h k hk=>by
  rw[hla,hlb]at*;exact Nm.Jh ha h hk
 have s3:la<lb->a<b:=fun h=>by rw[hla,hlb]at*;exact Nm.Nh h
 rw[<-hla]at cLa;rw[<-hlb]at cLb;have Y0:=h_ X_;have KLa:=h_ cLa;have KLb:=h_ cLb;have S1:=h_ s1;have S2:=h_ s2;have S3:=h_ s3;have HA0:=h_ ha;have HB0:=h_ hb;have ZT:=h_ hb0;clear X_ cLa cLb hla hlb s1 s2 s3 ha hb hb0;go_enter Tryz.func189,Tryz.ntmps189;go_upto_region 1 with fail
 generalize hw1:World.alloc _ _=w1;have bj:Below w.heap.size w w1:=by rw[<-hw1];exact((cu.alloc (by simp) _).alloc (by simp;omega) _).alloc (by simp;omega) _
 have hA:Has w1 w.heap.size (aa a) 26:=by rw[<-hw1];exact(((Has.new _ _).alloc _).alloc _).alloc _
 have hB:Has w1 (w.heap.size+1) (aa b) 26:=by rw[<-hw1];exact((Has.Vt _ _ _).alloc _).alloc _
 have hR:Has w1 (w.heap.size+1+1) (aa 0) 26:=by rw[<-hw1];exact(Has.VT _ _ (aa 0) _).alloc _
 have hS:Has w1 (w.heap.size+1+1+1) (aa 0) 26:=by rw[<-hw1];exact Has.ab4 _ _ _ (aa 0) _
 clear hw1;go_wp2_with (with_reducible refine a_ rfl _ rfl _ rfl _ hB rfl ?_)
 refine az (Y0.out _) fun v1 hb1=>?_;replace hA:=hA.on hb1;replace hB:=hB.on hb1;replace hR:=hR.on hb1;replace hS:=hS.on hb1;replace bj:=ai bj hb1;clear hb1;have hSl:=hS.lt
 go_wp2_with (first
  | (with_reducible refine a_ rfl _ rfl _ rfl _ (hA.alloc _) rfl ?_)
  | (with_reducible refine cB rfl _ _ rfl _ _ rfl rfl _ (Has.YZ _ _) rfl ?_))
 generalize hw2:World.setRow _ _ _=w2
 have h0:Qs w w2 w.heap.size (w.heap.size+1) (w.heap.size+1+1) (w.heap.size+1+1+1) v1.heap.size (v1.heap.size+1) a b 0 a:=by
  rw[<-hw2];exact⟨below_setRow ((bj.alloc bj.size _).alloc (by simp;omega) _) (by omega) _,((hA.alloc _).alloc _).Vo _ _ (by omega),((hB.alloc _).alloc _).Vo _ _ (by omega),⟨_,((hR.alloc _).alloc _).Vo _ _ (by omega),rfl⟩,⟨_,((hS.alloc _).alloc _).Vo _ _ (by omega),rfl⟩,((Has.Vp _).alloc _).Vo _ _ (by omega),(Has.YZ _ _).row _⟩
 have hd:kO w w.heap.size (w.heap.size+1) (w.heap.size+1+1) (w.heap.size+1+1+1) v1.heap.size (v1.heap.size+1):=⟨au _,by omega,by omega,by omega,by omega,by omega⟩;have HD:=h_ hd;clear hw2 hA hB hR hS bj hSl hd;generalize v1.heap.size+1=T at*;generalize v1.heap.size=O at*;generalize w.heap.size+1+1+1=S at*;generalize w.heap.size+1+1=R at*;generalize w.heap.size+1=B at*;generalize VN:w.heap.size=A at h0 HD|-;have HAA:=h_ VN;clear VN;simp only[Act.put];refine wp_region_quiet_below (by kernel_rfl) (by kernel_rfl) ?_
 repeat(first
  | (go_big_quiet_want;(with_reducible first|refine s_ _ rfl _ rfl _ h0.a.cls ?_|refine s_ _ rfl _ rfl _ h0.b.cls ?_);(simp only[Act.put,da,aZ,bg]);go_big_quiet_on)
  | go_big_quiet_step (first|(go_at_call 208;(with_reducible exact Calls.regrown_of (KLa.out _)))|(go_at_call 208;(with_reducible exact Calls.regrown_of (KLb.out _)))))
 refine wpQuiet_nil ?_;intro _ hw';obtain⟨p,hw''⟩:=hw';subst hw'';replace h0:=h0.on (below_regrown w2 p.d p.os);generalize Sort.grow (redrawn w2 p.d) p.os=w3 at*;clear p;go_wp2_with fail
 have hst:(∃k:Nat,k<=255/\(la:Int)-(lb:Int)=(k:Int)/\Hid (Nm.QI a b (k+1) 0 a)/\Hid (∀j,j<=k->b*2^j<Nm.ak))\/(∃z:Int,z<0/\(la:Int)-(lb:Int)=z/\Hid (Nm.QI a b 0 0 a)):=by
  by_cases hl:lb<=la;exact .inl ⟨la-lb,by omega,by omega,h_ (Nm.QI.start _ (S1.out hl)),h_ (S2.out hl)⟩;exact .inr ⟨(la:Int)-(lb:Int),by omega,rfl,h_ (Nm.QI.start 0 (by have:=S3.out (by omega);simpa using this))⟩
 have HST:=h_ hst;clear hst bla blb ai0 S1 S2 S3 KLa KLb Y0;go_loopw [8] (fun i wr=>∃out rest:Nat,Qs w wr A B R S O T a b out rest/\((∃k:Nat,k<=255/\i=i_ k/\Hid (Nm.QI a b (k+1) out rest)/\Hid (∀j,j<=k->b*2^j<Nm.ak))\/(∃z:Int,z<0/\i=i_ z/\Hid (Nm.QI a b 0 out rest)))) (fun i _=>(intOf i+1).toNat)
 case atStart=>
  rcases HST.out with⟨k,h1,h2,h3,h4⟩|⟨z,h1,h2,h3⟩
  exact⟨_,_,h0,.inl ⟨k,h1,aJ (Value.int .i64) h2,h3,h4⟩⟩;exact⟨_,_,h0,.inr ⟨z,h1,aJ (Value.int .i64) h2,h3⟩⟩
 case round=>
  clear HST h0;obtain⟨out,rest,hs,⟨k,hk,rfl,HQ,HK⟩|⟨z,hz,rfl,HQ⟩⟩:=hrel
  ·obtain⟨d,hdd⟩:∃d,d=b*2^k:=⟨_,rfl⟩;have hdl:d<Nm.ak:=by rw[hdd];exact HK.out k (au _)
   have hrl:rest<Nm.ak:=eH HQ.out.Yu HA0.out;have oH:=fun w=>Fp b k HB0.out hk w
   rw[Nm.JG (HK.out k (au _)),<-hdd]at oH;have W_:=fun w=>sub rest d hrl hdl w
   obtain⟨s,hsd⟩:∃s,s=(rest+Nm.ak-d)%Nm.ak:=⟨_,rfl⟩;rw[<-hsd]at W_;have hT:T<wr.heap.size:=hs.t.lt;have KUp:=h_ oH;have hown:=hs.own;by_cases htake:d<=rest
   ·have hs2:s=rest-d:=(by rw[hsd];exact xu hrl htake);rw[show decide (rest<d)=false by simp;omega]at W_;have Zs:=h_ W_;have hq:=HQ.out.take (by rw[<-hdd];exact htake);rw[<-hdd,<-hs2]at hq;have HQN:=h_ hq;clear oH W_ hsd hs2 hq htake hdl hrl hdd;(go_wp2_with fail);refine VI.lG (by kernel_rfl) (fun w'=>Qs wr w' A B R S O T a b out rest) (fun i v w'=>(xk b k rest d s false i).holds wr.heap.size v w') (bK 9 9 wr.heap.size s) (an wr.heap.size) (fun _ _=>an.refl _ _) (fun _ _ _ _ _ hs h=>gV.stays _ _ _ _ hs h) (by kernel_rfl) (hown.on cg.drew) ?_ ?_ ?_;exact fun l hl=>fun hk=>by rw[hl]at hk;cases hk
    ·intro i o lz a wx ho hn dq Z;have hC:=Z.c;have hI:=Z.i;have hi:i<11:=(dA.1 ho).1;obtain rfl|rfl|rfl|rfl|rfl|rfl|rfl|rfl|rfl|rfl|rfl:i=0\/i=1\/i=2\/i=3\/i=4\/i=5\/i=6\/i=7\/i=8\/i=9\/i=10:=(by omega);all_goals obtain rfl:=Option.some.inj ho
     exact gv ((fun _ _=>an.refl _ _)) hC (aq rfl) (kh rfl (Z.old' 7) hC.t) rfl (bK.pre (d_ Z hn 3));exact gv ((fun _ _=>an.refl _ _)) hC (aq rfl) (kh rfl (Z.old' 3) hC.b) rfl (bK.pre (d_ Z hn 3));exact gv ((fun _ _=>an.refl _ _)) hC (aq rfl) (fs rfl) (Z.old' 8) (bK.pre (d_ Z hn 3))
     ·have e27:=Z.got 1 _ 27 rfl (dq ⟨1,.data⟩ (by simp) rfl) rfl;have e28:=Z.got 2 _ 28 rfl (dq ⟨2,.data⟩ (by simp) rfl) rfl;exact mz (aq rfl) (f:=207) (args:=#[a.eval (.tmp 27),a.eval (.tmp 28)]) (by kernel_rfl) (by rw[show a.eval (.tmp 27)=_ from e27];rw[show a.eval (.tmp 28)=_ from e28];  exact KUp.out wx) (fun w' hb=>⟨hC.on hb,an.below hb,rfl,bK.pre (d_ Z hn 3)⟩)
     ·have e26:=Z.got 0 _ 26 rfl (dq ⟨0,.data⟩ (by simp) rfl) rfl;have e29:=Z.got 3 _ 29 rfl (dq ⟨3,.data⟩ (by simp) rfl) rfl;exact mz (aq rfl) (f:=209) (args:=#[a.eval (.tmp 26),a.eval (.tmp 29)]) (by kernel_rfl) (by rw[show a.eval (.tmp 26)=_ from e26];rw[show a.eval (.tmp 29)=_ from e29];  exact Zs.out wx) (fun w' hb=>⟨hC.on hb,an.below hb,rfl,bK.pre (d_ Z hn 3)⟩)
     exact gv ((fun _ _=>an.refl _ _)) hC (aq rfl) (fs rfl) (aw Z dq 4 30) (bK.pre (d_ Z hn 3));exact gv ((fun _ _=>an.refl _ _)) hC (aq rfl) (iy rfl (aw Z dq 5 25) rfl) rfl (bK.pre (d_ Z hn 3));exact gv ((fun _ _=>an.refl _ _)) hC (aq rfl) (iy rfl (aw Z dq 5 25) rfl) rfl (bK.keep hI (by rw[Z.size];decide) (by decide) (by decide) fun _ h=>h);have bj:Below wx.heap.size wx (wx.alloc (.cells (aa 0) 26)):=cu;exact qU (aq rfl) (uw rfl) (hC.on bj) (an.below bj) ⟨wx.heap.size,aa 0,hC.below.size,rfl,Has.new _ _,rfl⟩ (bK.pre (d_ Z hn 3));obtain⟨b,cs,hb,he,hh,hsz⟩:gV.ptr.holds wr.heap.size (a.eval (.tmp 9)) wx:=Z.got 8 _ 9 rfl (dq ⟨8,.data⟩ (by simp) rfl) rfl;exact nw (aq rfl) (nk rfl he (aw Z dq 6 31) hh hsz) (hC.WA HD.out hT hb _) (an.row hh) trivial (fun _=>⟨b,hb,he,hh.row _⟩);exact gv ((fun _ _=>an.refl _ _)) hC (aq rfl) (iX rfl) (aw Z dq 7 32) (bK.keep hI (by rw[Z.size];decide) (by decide) (by decide) fun _ h=>h)
    ·intro lz act wx hall Z;obtain⟨bN,hbN,e9,hN⟩:=Z.i (hall 9 (by decide));have hC:=hs.base Z.c;have hTb:T<bN:=(by omega);obtain⟨u,hu⟩:∃u:Nat->Value,∀t,u t=act.eval (.tmp t):=⟨_,fun _=>rfl⟩;rw[H8 act 47 u Z.Vr Z.defers hu];have f0:=Z.old' 0;have f1:=Z.old' 1;have f2:=Z.old' 2;have f3:=Z.old' 3;have f4:=Z.old' 4;have f5:=Z.old' 5;have f6:=Z.old' 6;have f7:=Z.old' 7;have f8:=Z.old' 8;have f11:=Z.old' 11;have f12:=Z.old' 12;have f13:=Z.old' 13;have f14:=Z.old' 14;have f15:=Z.old' 15;have f16:=Z.old' 16;have f17:=Z.old' 17;have f18:=Z.old' 18;have f19:=Z.old' 19;have f20:=Z.old' 20;have f21:=Z.old' 21;have f22:=Z.old' 22;have f23:=Z.old' 23;have f24:=Z.old' 24;have f33:=Z.old' 33;have f34:=Z.old' 34;have f35:=Z.old' 35;have f36:=Z.old' 36;have f37:=Z.old' 37;have f38:=Z.old' 38;have f39:=Z.old' 39;have f40:=Z.old' 40;have f41:=Z.old' 41;have f42:=Z.old' 42;have f43:=Z.old' 43;have f44:=Z.old' 44;have f45:=Z.old' 45;have f46:=Z.old' 46;have f9:=e9;have f10:=(Z.got 10 _ 10 rfl (hall 10 (by decide)) rfl:act.eval (.tmp 10)=.bool false);simp only[<-hu]at f0 f1 f2 f3 f4 f5 f6 f7 f8 f9 f10 f11 f12 f13 f14 f15 f16 f17 f18 f19 f20 f21 f22 f23 f24 f33 f34 f35 f36 f37 f38 f39 f40 f41 f42 f43 f44 f45 f46;simp[Act.eval]at f0 f1 f2 f3 f4 f5 f6 f7 f8 f11 f12 f13 f14 f15 f16 f17 f18 f19 f20 f21 f22 f23 f24 f33 f34 f35 f36 f37 f38 f39 f40 f41 f42 f43 f44 f45 f46;clear hu Z hall;simp only[List.range,List.range.loop,bZ,cx];rw[f0,f1,f2,f3,f4,f5,f6,f7,f8,f9,f10,f11,f12,f13,f14,f15,f16,f17,f18,f19,f20,f21,f22,f23,f24,f33,f34,f35,f36,f37,f38,f39,f40,f41,f42,f43,f44,f45,f46];clear f0 f1 f2 f3 f4 f5 f6 f7 f8 f9 f10 f11 f12 f13 f14 f15 f16 f17 f18 f19 f20 f21 f22 f23 f24 f33 f34 f35 f36 f37 f38 f39 f40 f41 f42 f43 f44 f45 f46;clear hs hown hT hbN
     go_wp2_with (first
      | (with_reducible refine a_ rfl _ rfl _ rfl _ hN rfl ?_)
      | (with_reducible refine cB rfl _ _ rfl _ _ rfl rfl _ hC.t rfl ?_))
     simp only[Act.put,da,aZ,bg];have hP:=hC.ag2 HD.out s;clear hN hC hTb;generalize World.setRow _ _ _=w5 at*;have c1:=hP.o.num (j:=k/64) (by omega);have fo:=hP.o.free (k/64);go_region
     have h5:=hP.ag3 HD.out (k/64) _ (out|||2^k) (Dh out k (by omega));clear c1 fo hP;generalize World.drew _=w6 at*;(go_wp2_with fail);go_roundw
     case rel=>
      refine⟨_,_,h5,?_⟩;by_cases hk0:k=0;subst hk0;exact .inr ⟨-1,by omega,rfl,HQN⟩;exact .inl ⟨k-1,by omega,aJ (Value.int .i64) (by omega),by rw[show k-1+1=k by omega];exact HQN,h_ fun j hj=>HK.out j (by omega)⟩
     case measure=>first|(simp[intOf];done)|(simp[intOf];omega)
   ·rw[show decide (rest<d)=true by simp;omega]at W_;have Zs:=h_ W_;have hq:=HQ.out.skip (by rw[<-hdd];omega);have HQN:=h_ hq;clear oH W_ hsd hq htake hdl hrl hdd;(go_wp2_with fail);refine VI.lG (by kernel_rfl) (fun w'=>Qs wr w' A B R S O T a b out rest) (fun i v w'=>(xk b k rest d s true i).holds wr.heap.size v w') (bK 9 9 wr.heap.size s) (an wr.heap.size) (fun _ _=>an.refl _ _) (fun _ _ _ _ _ hs h=>gV.stays _ _ _ _ hs h) (by kernel_rfl) (hown.on cg.drew) ?_ ?_ ?_;exact fun l hl=>fun hk=>by rw[hl]at hk;cases hk
    ·intro i o lz a wx ho hn dq Z;have hC:=Z.c;have hI:=Z.i;have hi:i<11:=(dA.1 ho).1;obtain rfl|rfl|rfl|rfl|rfl|rfl|rfl|rfl|rfl|rfl|rfl:i=0\/i=1\/i=2\/i=3\/i=4\/i=5\/i=6\/i=7\/i=8\/i=9\/i=10:=(by omega);all_goals obtain rfl:=Option.some.inj ho
     exact gv ((fun _ _=>an.refl _ _)) hC (aq rfl) (kh rfl (Z.old' 7) hC.t) rfl (bK.pre (d_ Z hn 3));exact gv ((fun _ _=>an.refl _ _)) hC (aq rfl) (kh rfl (Z.old' 3) hC.b) rfl (bK.pre (d_ Z hn 3));exact gv ((fun _ _=>an.refl _ _)) hC (aq rfl) (fs rfl) (Z.old' 8) (bK.pre (d_ Z hn 3))
     ·have e27:=Z.got 1 _ 27 rfl (dq ⟨1,.data⟩ (by simp) rfl) rfl;have e28:=Z.got 2 _ 28 rfl (dq ⟨2,.data⟩ (by simp) rfl) rfl;exact mz (aq rfl) (f:=207) (args:=#[a.eval (.tmp 27),a.eval (.tmp 28)]) (by kernel_rfl) (by rw[show a.eval (.tmp 27)=_ from e27];rw[show a.eval (.tmp 28)=_ from e28];  exact KUp.out wx) (fun w' hb=>⟨hC.on hb,an.below hb,rfl,bK.pre (d_ Z hn 3)⟩)
     ·have e26:=Z.got 0 _ 26 rfl (dq ⟨0,.data⟩ (by simp) rfl) rfl;have e29:=Z.got 3 _ 29 rfl (dq ⟨3,.data⟩ (by simp) rfl) rfl;exact mz (aq rfl) (f:=209) (args:=#[a.eval (.tmp 26),a.eval (.tmp 29)]) (by kernel_rfl) (by rw[show a.eval (.tmp 26)=_ from e26];rw[show a.eval (.tmp 29)=_ from e29];  exact Zs.out wx) (fun w' hb=>⟨hC.on hb,an.below hb,rfl,bK.pre (d_ Z hn 3)⟩)
     exact gv ((fun _ _=>an.refl _ _)) hC (aq rfl) (fs rfl) (aw Z dq 4 30) (bK.pre (d_ Z hn 3));exact gv ((fun _ _=>an.refl _ _)) hC (aq rfl) (iy rfl (aw Z dq 5 25) rfl) rfl (bK.pre (d_ Z hn 3));exact gv ((fun _ _=>an.refl _ _)) hC (aq rfl) (iy rfl (aw Z dq 5 25) rfl) rfl (bK.keep hI (by rw[Z.size];decide) (by decide) (by decide) fun _ h=>h);have bj:Below wx.heap.size wx (wx.alloc (.cells (aa 0) 26)):=cu;exact qU (aq rfl) (uw rfl) (hC.on bj) (an.below bj) ⟨wx.heap.size,aa 0,hC.below.size,rfl,Has.new _ _,rfl⟩ (bK.pre (d_ Z hn 3));obtain⟨b,cs,hb,he,hh,hsz⟩:gV.ptr.holds wr.heap.size (a.eval (.tmp 9)) wx:=Z.got 8 _ 9 rfl (dq ⟨8,.data⟩ (by simp) rfl) rfl;exact nw (aq rfl) (nk rfl he (aw Z dq 6 31) hh hsz) (hC.WA HD.out hT hb _) (an.row hh) trivial (fun _=>⟨b,hb,he,hh.row _⟩);exact gv ((fun _ _=>an.refl _ _)) hC (aq rfl) (iX rfl) (aw Z dq 7 32) (bK.keep hI (by rw[Z.size];decide) (by decide) (by decide) fun _ h=>h)
    ·intro lz act wx hall Z;obtain⟨bN,hbN,e9,hN⟩:=Z.i (hall 9 (by decide));have hC:=hs.base Z.c;obtain⟨u,hu⟩:∃u:Nat->Value,∀t,u t=act.eval (.tmp t):=⟨_,fun _=>rfl⟩;rw[H8 act 47 u Z.Vr Z.defers hu];have f0:=Z.old' 0;have f1:=Z.old' 1;have f2:=Z.old' 2;have f3:=Z.old' 3;have f4:=Z.old' 4;have f5:=Z.old' 5;have f6:=Z.old' 6;have f7:=Z.old' 7;have f8:=Z.old' 8;have f11:=Z.old' 11;have f12:=Z.old' 12;have f13:=Z.old' 13;have f14:=Z.old' 14;have f15:=Z.old' 15;have f16:=Z.old' 16;have f17:=Z.old' 17;have f18:=Z.old' 18;have f19:=Z.old' 19;have f20:=Z.old' 20;have f21:=Z.old' 21;have f22:=Z.old' 22;have f23:=Z.old' 23;have f24:=Z.old' 24;have f33:=Z.old' 33;have f34:=Z.old' 34;have f35:=Z.old' 35;have f36:=Z.old' 36;have f37:=Z.old' 37;have f38:=Z.old' 38;have f39:=Z.old' 39;have f40:=Z.old' 40;have f41:=Z.old' 41;have f42:=Z.old' 42;have f43:=Z.old' 43;have f44:=Z.old' 44;have f45:=Z.old' 45;have f46:=Z.old' 46;have f9:=e9;have f10:=(Z.got 10 _ 10 rfl (hall 10 (by decide)) rfl:act.eval (.tmp 10)=.bool true);simp only[<-hu]at f0 f1 f2 f3 f4 f5 f6 f7 f8 f9 f10 f11 f12 f13 f14 f15 f16 f17 f18 f19 f20 f21 f22 f23 f24 f33 f34 f35 f36 f37 f38 f39 f40 f41 f42 f43 f44 f45 f46;simp[Act.eval]at f0 f1 f2 f3 f4 f5 f6 f7 f8 f11 f12 f13 f14 f15 f16 f17 f18 f19 f20 f21 f22 f23 f24 f33 f34 f35 f36 f37 f38 f39 f40 f41 f42 f43 f44 f45 f46;clear hu Z hall;simp only[List.range,List.range.loop,bZ,cx];rw[f0,f1,f2,f3,f4,f5,f6,f7,f8,f9,f10,f11,f12,f13,f14,f15,f16,f17,f18,f19,f20,f21,f22,f23,f24,f33,f34,f35,f36,f37,f38,f39,f40,f41,f42,f43,f44,f45,f46];clear f0 f1 f2 f3 f4 f5 f6 f7 f8 f9 f10 f11 f12 f13 f14 f15 f16 f17 f18 f19 f20 f21 f22 f23 f24 f33 f34 f35 f36 f37 f38 f39 f40 f41 f42 f43 f44 f45 f46;clear hs hown hT hbN;(go_wp2_with fail);go_roundw
     case rel=>
      refine⟨_,_,hC,?_⟩;by_cases hk0:k=0;subst hk0;exact .inr ⟨-1,by omega,rfl,HQN⟩;exact .inl ⟨k-1,by omega,aJ (Value.int .i64) (by omega),by rw[show k-1+1=k by omega];exact HQN,h_ fun j hj=>HK.out j (by omega)⟩
     case measure=>first|(simp[intOf];done)|(simp[intOf];omega)
  ·go_wp2_with fail
   refine VI.lG (by kernel_rfl) (fun w'=>Qs w w' A B R S O T a b out rest) (fun i v w'=>(FK out rest i).holds w.heap.size v w') (fun l _ w'=>fF 2 R out l w'/\fF 3 S rest l w') (an w.heap.size) (fun _ _=>an.refl _ _) (fun _ _ _ _ _ hs h=>gV.stays _ _ _ _ hs h) (by kernel_rfl) (hs.on cg.drew) ?_ ?_ ?_;exact fun l hl=>⟨fun hk=>(by rw[hl]at hk;cases hk),fun hk=>(by rw[hl]at hk;cases hk)⟩
   ·intro i o lz a wx ho hn dq Z;have hC:=Z.c;have hI:=Z.i;have hi:i<4:=(dA.1 ho).1;obtain rfl|rfl|rfl|rfl:i=0\/i=1\/i=2\/i=3:=(by omega);all_goals obtain rfl:=Option.some.inj ho
    exact gv ((fun _ _=>an.refl _ _)) hC (aq rfl) (kh rfl (Z.old' 6) hC.o) rfl (⟨fF.pre (d_ Z hn 3),fF.pre (d_ Z hn 3)⟩);exact gv ((fun _ _=>an.refl _ _)) hC (aq rfl) (kh rfl (Z.old' 7) hC.t) rfl (⟨fF.keep hI.1 (by rw[Z.size];decide) (by decide) (fun h=>h),fF.pre (d_ Z hn 3)⟩);obtain⟨cs,hh,hsz⟩:=hC.r;have he:a.eval (.tmp 4)=af R:=Z.old' 4;exact nw (aq rfl) (nk rfl he (aw Z dq 0 45) hh hsz) (hC.ag4 HD.out _) (an.row hh) trivial ⟨fun _=>hh.row _,fF.pre (d_ Z hn 3)⟩;obtain⟨cs,hh,hsz⟩:=hC.s;have he:a.eval (.tmp 5)=af S:=Z.old' 5;exact nw (aq rfl) (nk rfl he (aw Z dq 1 46) hh hsz) (hC.gz HD.out _) (an.row hh) trivial ⟨fF.keep hI.1 (by rw[Z.size];decide) (by decide) (fun h=>h.Vo _ _ (by have:=HD.out;unfold kO at this;omega)),fun _=>hh.row _⟩
   ·intro lz act wx hall Z;have hr:=Z.i.1 (hall 2 (by decide));have hsr:=Z.i.2 (hall 3 (by decide));have e4:act.eval (.tmp 4)=af R:=Z.old' 4;have e5:act.eval (.tmp 5)=af S:=Z.old' 5;have bj:=Z.c.below;have hdf:=Z.defers;obtain⟨tm,df⟩:=act;obtain rfl:df=[]:=hdf;clear Z hall;(go_wp2_with fail);refine ay (v:=.tuple #[.agg (aa out),.agg (aa rest)]) (TC Tryz.results189 _ _ _ _ _ e4 e5 hr hsr) rfl ⟨?_,bj⟩;obtain⟨q1,q2⟩:=HQ.out.done;rw[q1,q2]
theorem F_(x:Nat)(hx:x<Nm.ak)(g:Bool)(hg:decide (x=0)=g)(w:World):ar 163 #[.agg (aa x)] w (.bool g):=by rw[<-hg];exact zero x hx w
theorem xj(x y:Nat)(hx:x<Nm.ak)(hy:y<Nm.ak)(s:Nat)(g:Bool)(hs:(x+y)%Nm.ak=s)(hg:decide (Nm.ak<=x+y)=g)(w:World):ar 184 #[.agg (aa x),.agg (aa y)] w (.tuple #[.agg (aa s),.bool g]):=by rw[<-hg,<-hs];exact add x y hx hy w
theorem ve(w:World):ar 187 #[aH 1] w (.agg (aa 1)):=of 1 (by decide) w
theorem DZ(x y:Nat)(w:World):(Instr.buildSlice 70 2 #[(0,.agg (aa x)),(1,.agg (aa y))]).run Tryz.prog w=.ok (.slice (some ⟨w.heap.size,0,none⟩) 2 2) (w.alloc (.cells (cK [x,y]) 26)):=by kernel_rfl
variable{o:Oper}
theorem Iw{ρ:Operand->Value}{p0 p1:Operand}(ho:o.op=.buildSlice 70 2 #[(0,p0),(1,p1)]){x y:Nat}(h0:ρ p0=.agg (aa x))(h1:ρ p1=.agg (aa y)):(execOp ρ o).run Tryz.prog w=.ok (.value (.slice (some ⟨w.heap.size,0,none⟩) 2 2)) (w.alloc (.cells (cK [x,y]) 26)):=by unfold execOp;simp only[ho,aB];rw[show(#[(0,p0),(1,p1)]:Array (Nat×Operand)).map (fun(i,x)=>(i,ρ x))=#[(0,.agg (aa x)),(1,.agg (aa y))] by simp[h0,h1]];rw[DZ x y w];rfl
theorem Sd{ops:Array Oper}{rest:List Oper}{Q:Exit->Act->World->Prop}(hgd:o.guard=none)(p0 p1:Operand)(ho:o.op=.buildSlice 70 2 #[(0,p0),(1,p1)])(x y:Nat)(h0:a.eval p0=.agg (aa x))(h1:a.eval p1=.agg (aa y))(h:wpList Tryz.prog ops Q rest (a.put o.dst (.slice (some ⟨w.heap.size,0,none⟩) 2 2)) (w.alloc (.cells (cK [x,y]) 26))):wpList Tryz.prog ops Q (o::rest) a w:=
 gk hgd fun _ hK=>by
  unfold Oper.wp;rw[Iw ho h0 h1];exact hK _ _ h
namespace Nm
def cap(n:Nat):Nat:=if n<ak then n else ak-1
theorem sk(n:Nat):cap n<ak:=by
 have:0<ak:=by decide
 unfold cap;split<;>omega
def work(t:Nat):Nat:=cap (ak/(t+1))
theorem zC(t:Nat):work t<ak:=sk _
variable{t:Nat}
theorem Oj(h:t+1=ak):work t=1:=by unfold work;rw[h,Nat.div_self (by decide)];decide
theorem NF(h:t+1<ak):work t=cap ((ak-1-t)/(t+1)+1):=by unfold work;rw[show ak=(ak-1-t)+(t+1) by omega,Nat.add_div_right _ (by omega)];rw[show(ak-1-t)+(t+1)=ak by omega]
end Nm
def ofBits(b:Int):Nat:=if 0<=b/\b<=4294967295 then(if Nm.j5 b.toNat||Nm.ib b.toNat||decide (Nm.oG b.toNat=0)then 0 else Nm.work (Nm.oG b.toNat))else 0
theorem Js(b:Int):ofBits b<Nm.ak:=by
 unfold ofBits;split
 ·split;decide;exact Nm.zC _
 decide
theorem Rc(x y:Nat)(hx:x<Nm.ak):iT [x,y] 2=(x+y)%Nm.ak:=by simp[iT,item,Nat.mod_eq_of_lt hx]
theorem gG(x y:Nat)(hx:x<Nm.ak):iB [x,y] 2=decide (Nm.ak<=x+y):=by
 have h:¬Nm.ak<=x:=by omega
 simp[iB,iT,item,Nat.mod_eq_of_lt hx,h]
theorem QH(b n s:Nat)(xs:List Nat)(KS:Hid (∀w,Has w b (cK xs) 26->ar 160 #[.slice (bs b) n n] w (.tuple #[.agg (aa s),.bool true])))(w:World):Has w b (cK xs) 26->ar 122 #[.slice (bs b) n n] w (.agg (aa (Nm.ak-1))):=by
 intro hL;go_enter Tryz.func122,Tryz.ntmps122;go_upto_region 1 with fail
 generalize hw0:World.alloc _ _=v0;have bj:Below w.heap.size w v0:=by rw[<-hw0];exact cg.alloc (by simp<;>omega) _
 have hR:Has v0 (w.heap.size) (aa 0) 26:=by rw[<-hw0];exact Has.new (aa 0) _
 have Vx:Hid (w.heap.size<=w.heap.size):=h_ (by omega);replace hL:=hL.on bj;clear hw0;go_wp2_with (first|fail|(with_reducible refine a_ rfl _ rfl _ rfl _ hR rfl ?_))
 refine az (KS.out _ hL) fun v1 hb1=>?_;replace hR:=hR.on hb1;replace hL:=hL.on hb1;replace bj:=ai bj hb1;clear hb1;go_upto_region 2 with(with_reducible refine cB rfl _ _ rfl _ _ rfl rfl _ (Has.Vp _) rfl ?_)
 generalize hw2:World.setRow _ _ _=v2;have hb2:Below v1.heap.size v1 v2:=dZ hw2;have hS:Has v2 v1.heap.size (aa s) 26:=by rw[<-hw2];exact(Has.Vp _).row _
 replace hR:=hR.on hb2;replace hL:=hL.on hb2;replace bj:=ai bj hb2;clear hw2 hb2;generalize v1.heap.size=ai1 at hS|-;go_wp2_with (first|fail|(with_reducible refine a_ rfl _ rfl _ rfl _ (by assumption) rfl ?_))
 refine az (kS _) fun v3 hb3=>?_;replace hR:=hR.on hb3;replace hS:=hS.on hb3;replace hL:=hL.on hb3;replace bj:=ai bj hb3;clear hb3;go_wp2_with (with_reducible first|refine a_ rfl _ rfl _ rfl _ (by assumption) rfl ?_|refine cB rfl _ _ rfl _ _ rfl rfl _ hR rfl ?_)
 exact ay (v:=.agg (aa (Nm.ak-1))) (jm Tryz.results122 _ _ _ rfl (hR.row _)) rfl ⟨rfl,below_setRow bj Vx.out _⟩
theorem xy(b n s:Nat)(xs:List Nat)(KS:Hid (∀w,Has w b (cK xs) 26->ar 160 #[.slice (bs b) n n] w (.tuple #[.agg (aa s),.bool false])))(w:World):Has w b (cK xs) 26->ar 122 #[.slice (bs b) n n] w (.agg (aa (s))):=by
 intro hL;go_enter Tryz.func122,Tryz.ntmps122;go_upto_region 1 with fail
 generalize hw0:World.alloc _ _=v0;have bj:Below w.heap.size w v0:=by rw[<-hw0];exact cg.alloc (by simp<;>omega) _
 have hR:Has v0 (w.heap.size) (aa 0) 26:=by rw[<-hw0];exact Has.new (aa 0) _
 have Vx:Hid (w.heap.size<=w.heap.size):=h_ (by omega);replace hL:=hL.on bj;clear hw0;go_wp2_with (first|fail|(with_reducible refine a_ rfl _ rfl _ rfl _ hR rfl ?_))
 refine az (KS.out _ hL) fun v1 hb1=>?_;replace hR:=hR.on hb1;replace hL:=hL.on hb1;replace bj:=ai bj hb1;clear hb1;go_upto_region 2 with(with_reducible refine cB rfl _ _ rfl _ _ rfl rfl _ (Has.Vp _) rfl ?_)
 generalize hw2:World.setRow _ _ _=v2;have hb2:Below v1.heap.size v1 v2:=dZ hw2;have hS:Has v2 v1.heap.size (aa s) 26:=by rw[<-hw2];exact(Has.Vp _).row _
 replace hR:=hR.on hb2;replace hL:=hL.on hb2;replace bj:=ai bj hb2;clear hw2 hb2;generalize v1.heap.size=ai1 at hS|-;go_wp2_with (with_reducible first|refine a_ rfl _ rfl _ rfl _ (by assumption) rfl ?_|refine cB rfl _ _ rfl _ _ rfl rfl _ hR rfl ?_)
 exact ay (v:=.agg (aa (s))) (jm Tryz.results122 _ _ _ rfl (hR.row _)) rfl ⟨rfl,below_setRow bj Vx.out _⟩
theorem RF(b n:Nat)(xs:List Nat)(hx:∀x∈xs,x<Nm.ak)(hn:n=xs.length)(hm:n<=1000)(w:World)(hL:Has w b (cK xs) 26):ar 122 #[.slice (bs b) n n] w (.agg (aa (if iB xs n then Nm.ak-1 else iT xs n))):=by
 have hS:=fun w=>sum b xs hx n hn hm w
 generalize iB xs n=o at*;cases o;exact xy b n _ xs (h_ hS) w hL;exact QH b n _ xs (h_ hS) w hL
theorem Da(x y:Nat)(hx:x<Nm.ak)(hy:y<Nm.ak)(z:Nat)(hz:Nm.cap (x+y)=z)(b:Nat)(w:World)(hL:Has w b (cK [x,y]) 26):ar 122 #[.slice (bs b) 2 2] w (.agg (aa z)):=by have h:=RF b 2 [x,y] (by simp;exact⟨hx,hy⟩) rfl (by omega) w hL;rw[Rc x y hx,gG x y hx]at h;rw[<-hz];unfold Nm.cap;by_cases hb:x+y<Nm.ak;rw[aE (by omega:¬Nm.ak<=x+y),bp hb]at h;rw[aj hb];exact h;rw[aG (by omega:Nm.ak<=x+y)]at h;rw[ah hb];exact h
theorem E'(t:Nat)(Zt:Hid (dx 187 #[aH 1] (.agg (aa 1))))(V_:Hid (dx 184 #[.agg (aa t),.agg (aa 1)] (.tuple #[.agg (aa 0),.bool true])))(w:World):ar 164 #[.agg (aa t)] w (.agg (aa 1)):=by
 go_enter Tryz.func164,Tryz.ntmps164;go_upto_region 1 with fail
 generalize hw0:World.alloc _ _=v0;have bj:Below w.heap.size w v0:=by rw[<-hw0];exact(cg.alloc (by simp<;>omega) _).alloc (by simp<;>omega) _
 have hA:Has v0 (w.heap.size) (aa t) 26:=by rw[<-hw0];exact(Has.new _ _).alloc _
 have hR:Has v0 (w.heap.size+1) (aa 0) 26:=by rw[<-hw0];exact Has.Vt _ (aa 0) _
 have Vx:Hid (w.heap.size<=w.heap.size+1):=h_ (by omega);clear hw0;generalize hg1:w.heap.size+1=VJ at hR Vx|-;clear hg1;go_wp2_with (first|fail|(with_reducible refine a_ rfl _ rfl _ rfl _ (by assumption) rfl ?_))
 refine az (Zt.out _) fun v1 hb1=>?_;replace hA:=hA.on hb1;replace hR:=hR.on hb1;replace bj:=ai bj hb1;clear hb1;go_upto_region 2 with(with_reducible refine cB rfl _ _ rfl _ _ rfl rfl _ (Has.Vp _) rfl ?_)
 generalize hw2:World.setRow _ _ _=v2;have hb2:Below v1.heap.size v1 v2:=dZ hw2;have hO:Has v2 v1.heap.size (aa 1) 26:=by rw[<-hw2];exact(Has.Vp _).row _
 replace hA:=hA.on hb2;replace hR:=hR.on hb2;replace bj:=ai bj hb2;clear hw2 hb2;generalize v1.heap.size=VO at hO|-;go_wp2_with (first|fail|(with_reducible refine a_ rfl _ rfl _ rfl _ (by assumption) rfl ?_))
 refine az (V_.out _) fun v3 hb3=>?_;replace hA:=hA.on hb3;replace hR:=hR.on hb3;replace hO:=hO.on hb3;replace bj:=ai bj hb3;clear hb3;go_upto_region 3 with(with_reducible refine cB rfl _ _ rfl _ _ rfl rfl _ (Has.Vp _) rfl ?_)
 generalize hw4:World.setRow _ _ _=v4;have hb4:Below v3.heap.size v3 v4:=dZ hw4;have hM:Has v4 v3.heap.size (aa 0) 26:=by rw[<-hw4];exact(Has.Vp _).row _
 replace hA:=hA.on hb4;replace hR:=hR.on hb4;replace hO:=hO.on hb4;replace bj:=ai bj hb4;clear hw4 hb4;generalize v3.heap.size=ai2 at hM|-;go_wp2_with (with_reducible first|refine a_ rfl _ rfl _ rfl _ (by assumption) rfl ?_|refine cB rfl _ _ rfl _ _ rfl rfl _ hR rfl ?_)
 exact ay (v:=.agg (aa (1))) (jm Tryz.results164 _ _ _ rfl (hR.row _)) rfl ⟨rfl,below_setRow bj Vx.out _⟩
def GZ(t n m q r:Nat):Nat->gV
 | 0=>.val (.agg (aa t))
 | 1=>.val (.agg (aa n))
 | 2=>.val (.agg (aa m))
 | 3=>.val (.tuple #[.agg (aa q),.agg (aa r)])
 | 4=>.val (.tuple #[.agg (aa q),.agg (aa r)])
 | 5=>.val (.agg (aa q))
 | 6=>.val (.agg (aa r))
 | 7=>.ptr
 | 8=>.ptr
 | _=>.any
theorem EZ(t n m q r z:Nat)(Zt:Hid (dx 187 #[aH 1] (.agg (aa 1))))(V_:Hid (dx 184 #[.agg (aa t),.agg (aa 1)] (.tuple #[.agg (aa m),.bool false])))(ai3:Hid (dx 190 #[.agg (aa t)] (.agg (aa n))))(ai4:Hid (dx 189 #[.agg (aa n),.agg (aa m)] (.tuple #[.agg (aa q),.agg (aa r)])))(ai5:Hid (∀b w,Has w b (cK [q,1]) 26->ar 122 #[.slice (bs b) 2 2] w (.agg (aa z))))(w:World):ar 164 #[.agg (aa t)] w (.agg (aa z)):=by
 go_enter Tryz.func164,Tryz.ntmps164;go_upto_region 1 with fail
 generalize hw0:World.alloc _ _=v0;have bj:Below w.heap.size w v0:=by rw[<-hw0];exact(cg.alloc (by simp<;>omega) _).alloc (by simp<;>omega) _
 have hA:Has v0 (w.heap.size) (aa t) 26:=by rw[<-hw0];exact(Has.new _ _).alloc _
 have hR:Has v0 (w.heap.size+1) (aa 0) 26:=by rw[<-hw0];exact Has.Vt _ (aa 0) _
 have Vx:Hid (w.heap.size<=w.heap.size+1):=h_ (by omega);clear hw0;generalize hg1:w.heap.size+1=VJ at hR Vx|-;clear hg1;go_wp2_with (first|fail|(with_reducible refine a_ rfl _ rfl _ rfl _ (by assumption) rfl ?_))
 refine az (Zt.out _) fun v1 hb1=>?_;replace hA:=hA.on hb1;replace hR:=hR.on hb1;replace bj:=ai bj hb1;clear hb1;go_upto_region 2 with(with_reducible refine cB rfl _ _ rfl _ _ rfl rfl _ (Has.Vp _) rfl ?_)
 generalize hw2:World.setRow _ _ _=v2;have hb2:Below v1.heap.size v1 v2:=dZ hw2;have hO:Has v2 v1.heap.size (aa 1) 26:=by rw[<-hw2];exact(Has.Vp _).row _
 replace hA:=hA.on hb2;replace hR:=hR.on hb2;replace bj:=ai bj hb2;clear hw2 hb2;generalize v1.heap.size=VO at hO|-;go_wp2_with (first|fail|(with_reducible refine a_ rfl _ rfl _ rfl _ (by assumption) rfl ?_))
 refine az (V_.out _) fun v3 hb3=>?_;replace hA:=hA.on hb3;replace hR:=hR.on hb3;replace hO:=hO.on hb3;replace bj:=ai bj hb3;clear hb3;go_upto_region 3 with(with_reducible refine cB rfl _ _ rfl _ _ rfl rfl _ (Has.Vp _) rfl ?_)
 generalize hw4:World.setRow _ _ _=v4;have hb4:Below v3.heap.size v3 v4:=dZ hw4;have hM:Has v4 v3.heap.size (aa m) 26:=by rw[<-hw4];exact(Has.Vp _).row _
 replace hA:=hA.on hb4;replace hR:=hR.on hb4;replace hO:=hO.on hb4;replace bj:=ai bj hb4;clear hw4 hb4;generalize v3.heap.size=ai2 at hM|-;go_wp2_with fail
 refine VI.lG (by kernel_rfl) (fun w'=>Below v4.heap.size v4 w') (fun i v' w'=>(GZ t n m q r i).holds v4.heap.size v' w') (fun l a w'=>(bK 9 6 v4.heap.size q l a w'/\bK 10 7 v4.heap.size r l a w')/\ji 7 6 8 7 l a) (an v4.heap.size) (fun _ _=>an.refl _ _) (fun _ _ _ _ _ hs h=>gV.stays _ _ _ _ hs h) (by kernel_rfl) cg.drew ?_ ?_ ?_;exact fun l hl=>⟨⟨fun hk=>(by rw[hl]at hk;cases hk),fun hk=>(by rw[hl]at hk;cases hk)⟩,fun hk _=>(by rw[hl]at hk;cases hk)⟩
 ·intro i o lz a wx ho hn dq Z;have hC:=Z.c;have hI:=Z.i;have hi:i<11:=(dA.1 ho).1;obtain rfl|rfl|rfl|rfl|rfl|rfl|rfl|rfl|rfl|rfl|rfl:i=0\/i=1\/i=2\/i=3\/i=4\/i=5\/i=6\/i=7\/i=8\/i=9\/i=10:=by omega
  all_goals obtain rfl:=Option.some.inj ho
  exact gv ((fun _ _=>an.refl _ _)) hC (aq rfl) (kh rfl (Z.old' 1) (hA.on hC)) rfl (⟨⟨bK.pre (d_ Z hn 8),bK.pre (d_ Z hn 8)⟩,ji.keep hI.2 (by rw[Z.size];decide) (by decide) (by decide) (by decide) (by decide)⟩)
  ·have e18:=Z.got 0 _ 18 rfl (dq ⟨0,.data⟩ (by simp) rfl) rfl;exact mz (aq rfl) (f:=190) (args:=#[a.eval (.tmp 18)]) (by kernel_rfl) (by rw[show a.eval (.tmp 18)=_ from e18];  exact ai3.out wx) (fun w' hb=>⟨ai hC hb,an.below hb,rfl,⟨⟨bK.pre (d_ Z hn 8),bK.pre (d_ Z hn 8)⟩,ji.keep hI.2 (by rw[Z.size];decide) (by decide) (by decide) (by decide) (by decide)⟩⟩)
  exact gv ((fun _ _=>an.refl _ _)) hC (aq rfl) (kh rfl (Z.old' 4) (hM.on hC)) rfl (⟨⟨bK.pre (d_ Z hn 8),bK.pre (d_ Z hn 8)⟩,ji.keep hI.2 (by rw[Z.size];decide) (by decide) (by decide) (by decide) (by decide)⟩)
  ·have e19:=Z.got 1 _ 19 rfl (dq ⟨1,.data⟩ (by simp) rfl) rfl;have e20:=Z.got 2 _ 20 rfl (dq ⟨2,.data⟩ (by simp) rfl) rfl;exact mz (aq rfl) (f:=189) (args:=#[a.eval (.tmp 19),a.eval (.tmp 20)]) (by kernel_rfl) (by rw[show a.eval (.tmp 19)=_ from e19];rw[show a.eval (.tmp 20)=_ from e20];  exact ai4.out wx) (fun w' hb=>⟨ai hC hb,an.below hb,rfl,⟨⟨bK.pre (d_ Z hn 8),bK.pre (d_ Z hn 8)⟩,ji.keep hI.2 (by rw[Z.size];decide) (by decide) (by decide) (by decide) (by decide)⟩⟩)
  exact gv ((fun _ _=>an.refl _ _)) hC (aq rfl) (fs rfl) (aw Z dq 3 21) (⟨⟨bK.pre (d_ Z hn 8),bK.pre (d_ Z hn 8)⟩,ji.keep hI.2 (by rw[Z.size];decide) (by decide) (by decide) (by decide) (by decide)⟩);exact gv ((fun _ _=>an.refl _ _)) hC (aq rfl) (iy rfl (aw Z dq 4 17) rfl) rfl (⟨⟨bK.pre (d_ Z hn 8),bK.pre (d_ Z hn 8)⟩,ji.keep hI.2 (by rw[Z.size];decide) (by decide) (by decide) (by decide) (by decide)⟩);exact gv ((fun _ _=>an.refl _ _)) hC (aq rfl) (iy rfl (aw Z dq 4 17) rfl) rfl (⟨⟨bK.keep hI.1.1 (by rw[Z.size];decide) (by decide) (by decide) (fun _ h=>h),bK.pre (d_ Z hn 8)⟩,ji.keep hI.2 (by rw[Z.size];decide) (by decide) (by decide) (by decide) (by decide)⟩);have VV:Below wx.heap.size wx (wx.alloc (.cells (aa 0) 26)):=cu;exact qU (aq rfl) (uw rfl) (ai hC VV) (an.below VV) ⟨wx.heap.size,aa 0,hC.size,rfl,Has.new _ _,rfl⟩ (⟨⟨bK.pre (d_ Z hn 8),bK.pre (d_ Z hn 8)⟩,ji.fst (B:=v4.heap.size) (fun l=>Z.got 8 _ 7 rfl l rfl) (by rw[Z.size];decide) (by decide) (by decide) (by rw[Z.Vr];exact(by decide:6<28))⟩);have VV:Below wx.heap.size wx (wx.alloc (.cells (aa 0) 26)):=cu;exact qU (aq rfl) (uw rfl) (ai hC VV) (an.below VV) ⟨wx.heap.size,aa 0,hC.size,rfl,Has.new _ _,rfl⟩ (⟨⟨bK.keep hI.1.1 (by rw[Z.size];decide) (by decide) (by decide) (fun _ h=>h.on VV),bK.pre (d_ Z hn 8)⟩,ji.snd (B:=v4.heap.size) (fun l=>Z.got 7 _ 6 rfl l rfl) (by rw[Z.size];decide) (by decide) (by decide) (by rw[Z.Vr];exact(by decide:7<28))⟩);obtain⟨b,cs,hb,he,hh,hsz⟩:gV.ptr.holds v4.heap.size (a.eval (.tmp 6)) wx:=Z.got 7 _ 6 rfl (dq ⟨7,.data⟩ (by simp) rfl) rfl;exact nw (aq rfl) (nk rfl he (aw Z dq 5 22) hh hsz) (below_setRow hC hb _) (an.row hh) trivial ⟨⟨fun _=>⟨b,hb,he,hh.row _⟩,bK.pre (d_ Z hn 8)⟩,ji.keep hI.2 (by rw[Z.size];decide) (by decide) (by decide) (by decide) (by decide)⟩
  ·obtain⟨b,cs,hb,he,hh,hsz⟩:gV.ptr.holds v4.heap.size (a.eval (.tmp 7)) wx:=Z.got 8 _ 7 rfl (dq ⟨8,.data⟩ (by simp) rfl) rfl;have l10:lz.getD 7 false=true:=Z.after (k:=9) (by kernel_rfl) (dq ⟨9,.phase⟩ (by simp) rfl);have l11:lz.getD 8 false=true:=dq ⟨8,.data⟩ (by simp) rfl;have hne:=hI.2 l10 l11;refine nw (aq rfl) (nk rfl he (aw Z dq 6 23) hh hsz) (below_setRow hC hb _) (an.row hh) trivial ⟨⟨fun hl=>?_,fun _=>⟨b,hb,he,hh.row _⟩⟩,ji.keep hI.2 (by rw[Z.size];decide) (by decide) (by decide) (by decide) (by decide)⟩;rw[ko _ _ _ (by rw[Z.size];decide),ah (by decide)]at hl;obtain⟨b',hb',he',hh'⟩:=hI.1.1 hl;exact⟨b',hb',he',hh'.Vo _ _ (fun e=>hne (by rw[he',he,e]))⟩
 ·intro lz a wx hall Z;have hC:=Z.c;obtain⟨ag9,ac6,e6,hQ⟩:=Z.i.1.1 (hall 9 (by decide));obtain⟨X3,ac7,e7,hT⟩:=Z.i.1.2 (hall 10 (by decide));have e2:a.eval (.tmp 2)=af VJ:=Z.old' 2;have e3:a.eval (.tmp 3)=af VO:=Z.old' 3;replace hA:=hA.on hC;replace hR:=hR.on hC;replace hO:=hO.on hC;replace hM:=hM.on hC;replace bj:=ai bj hC;obtain⟨u,hu⟩:∃u:Nat->Value,∀t,u t=a.eval (.tmp t):=⟨_,fun _=>rfl⟩;rw[Ul a 28 u Z.Vr Z.defers hu];rw[<-hu]at e2 e3 e6 e7;clear hu Z hall hC ac6 ac7;simp only[List.range,List.range.loop,bZ,cx];rw[e2,e3,e6,e7];clear e2 e3 e6 e7;go_wp2_with (with_reducible first|refine a_ rfl _ rfl _ rfl _ (by assumption) rfl ?_|refine Sd rfl _ _ rfl _ _ rfl rfl ?_)
  refine az (ai5.out _ _ (Has.new _ _)) fun Zg hbs=>?_;have Wl:Below wx.heap.size wx Zg:=cu.trans (hbs.mono (by simp));replace hA:=hA.on Wl;replace hR:=hR.on Wl;replace hO:=hO.on Wl;replace hM:=hM.on Wl;replace hQ:=hQ.on Wl;replace hT:=hT.on Wl;replace bj:=ai bj Wl;clear hbs Wl;go_wp2_with (with_reducible first|refine a_ rfl _ rfl _ rfl _ (by assumption) rfl ?_|refine cB rfl _ _ rfl _ _ rfl rfl _ hR rfl ?_)
  exact ay (v:=.agg (aa (z))) (jm Tryz.results164 _ _ _ rfl (hR.row _)) rfl ⟨rfl,below_setRow bj Vx.out _⟩
theorem Va(t:Nat)(ht:t<Nm.ak)(z:Nat)(hz:Nm.work t=z)(w:World):ar 164 #[.agg (aa t)] w (.agg (aa z)):=by
 rw[<-hz];by_cases h:t+1<Nm.ak
 ·rw[Nm.NF h]
  refine EZ t (Nm.ak-1-t) (t+1) ((Nm.ak-1-t)/(t+1)) ((Nm.ak-1-t)%(t+1)) _ (h_ ve) (h_ (xj t 1 ht (by decide) _ false (bp h) (aE (by omega)))) (h_ (not t ht))
   (h_ (xK _ _ (by omega) h (by omega))) (h_ fun b w hL=>Da _ 1 ?_ (by decide) _ rfl b w hL) w
  exact eH (f' _ _) (by omega)
 ·have he:t+1=Nm.ak:=by omega
  rw[Nm.Oj he];exact E' t (h_ ve) (h_ (xj t 1 ht (by decide) 0 true (by rw[he];exact Nat.mod_self _) (aG (by omega)))) w
theorem B5:(∀(b:Int)(z:Nat)(over:Bool)(_KD:Hid (dx 162 #[i_ b] (.tuple #[.agg (aa z),.bool true,.bool over])))(w:World),ar 123 #[i_ b] w (.agg (aa 0)))/\ (∀(b:Int)(z:Nat)(_KD:Hid (dx 162 #[i_ b] (.tuple #[.agg (aa z),.bool false,.bool true])))(w:World),ar 123 #[i_ b] w (.agg (aa 0))):=by
 refine⟨fun b z over KD w=>?_,
  fun b z KD w=>?_⟩
 all_goals
  go_enter Tryz.func123,Tryz.ntmps123;go_upto_region 1 with fail
  generalize hw0:World.alloc _ _=v0;have bj:Below w.heap.size w v0:=by rw[<-hw0];exact cg.alloc (by simp<;>omega) _
  have hR:Has v0 (w.heap.size) (aa 0) 26:=by rw[<-hw0];exact Has.new (aa 0) _
  have Vx:Hid (w.heap.size<=w.heap.size):=h_ (by omega);clear hw0;go_wp2_with (with_reducible first|refine a_ rfl _ rfl _ rfl _ hR rfl ?_|refine fM (by with_unfolding_all rfl) _ rfl _ rfl _ hR rfl ?_)
  refine az (KD.out _) fun v1 hb1=>?_;replace hR:=hR.on hb1;replace bj:=ai bj hb1;clear hb1;go_upto_region 2 with(with_reducible refine cB rfl _ _ rfl _ _ rfl rfl _ (Has.Vp _) rfl ?_)
  generalize hw2:World.setRow _ _ _=v2;have hb2:Below v1.heap.size v1 v2:=dZ hw2;have hZ:Has v2 v1.heap.size (aa z) 26:=by rw[<-hw2];exact(Has.Vp _).row _
  replace hR:=hR.on hb2;replace bj:=ai bj hb2;clear hw2 hb2;generalize v1.heap.size=Xq at hZ|-;go_wp2_with (with_reducible first|refine a_ rfl _ rfl _ rfl _ (by assumption) rfl ?_|refine fM (by with_unfolding_all rfl) _ rfl _ rfl _ (by assumption) rfl ?_|refine qY rfl _ _ rfl _ 0 _ rfl rfl jt _ hR rfl ?_)
  exact ay (v:=.agg (aa (0))) (jm Tryz.results123 _ _ _ rfl (hR.row _)) rfl ⟨rfl,below_setRow bj Vx.out _⟩
theorem Ni(b:Int)(z:Nat)(KD:Hid (dx 162 #[i_ b] (.tuple #[.agg (aa z),.bool false,.bool false])))(KZ:Hid (dx 163 #[.agg (aa z)] (.bool true)))(w:World):ar 123 #[i_ b] w (.agg (aa 0)):=by
 go_enter Tryz.func123,Tryz.ntmps123;go_upto_region 1 with fail
 generalize hw0:World.alloc _ _=v0;have bj:Below w.heap.size w v0:=by rw[<-hw0];exact cg.alloc (by simp<;>omega) _
 have hR:Has v0 (w.heap.size) (aa 0) 26:=by rw[<-hw0];exact Has.new (aa 0) _
 have Vx:Hid (w.heap.size<=w.heap.size):=h_ (by omega);clear hw0;go_wp2_with (with_reducible first|refine a_ rfl _ rfl _ rfl _ hR rfl ?_|refine fM (by with_unfolding_all rfl) _ rfl _ rfl _ hR rfl ?_)
 refine az (KD.out _) fun v1 hb1=>?_;replace hR:=hR.on hb1;replace bj:=ai bj hb1;clear hb1;go_upto_region 2 with(with_reducible refine cB rfl _ _ rfl _ _ rfl rfl _ (Has.Vp _) rfl ?_)
 generalize hw2:World.setRow _ _ _=v2;have hb2:Below v1.heap.size v1 v2:=dZ hw2;have hZ:Has v2 v1.heap.size (aa z) 26:=by rw[<-hw2];exact(Has.Vp _).row _
 replace hR:=hR.on hb2;replace bj:=ai bj hb2;clear hw2 hb2;generalize v1.heap.size=Xq at hZ|-;go_wp2_with (with_reducible first|refine a_ rfl _ rfl _ rfl _ (by assumption) rfl ?_|refine fM (by with_unfolding_all rfl) _ rfl _ rfl _ (by assumption) rfl ?_)
 refine az (KZ.out _) fun v3 hb3=>?_;replace hR:=hR.on hb3;replace hZ:=hZ.on hb3;replace bj:=ai bj hb3;clear hb3;go_wp2_with (with_reducible first|refine a_ rfl _ rfl _ rfl _ (by assumption) rfl ?_|refine fM (by with_unfolding_all rfl) _ rfl _ rfl _ (by assumption) rfl ?_|refine qY rfl _ _ rfl _ 0 _ rfl rfl jt _ hR rfl ?_)
 exact ay (v:=.agg (aa (0))) (jm Tryz.results123 _ _ _ rfl (hR.row _)) rfl ⟨rfl,below_setRow bj Vx.out _⟩
theorem Oa(b:Int)(z:Nat)(KD:Hid (dx 162 #[i_ b] (.tuple #[.agg (aa z),.bool false,.bool false])))(KZ:Hid (dx 163 #[.agg (aa z)] (.bool false)))(v:Nat)(KO:Hid (dx 164 #[.agg (aa z)] (.agg (aa v))))(w:World):ar 123 #[i_ b] w (.agg (aa v)):=by
 go_enter Tryz.func123,Tryz.ntmps123;go_upto_region 1 with fail
 generalize hw0:World.alloc _ _=v0;have bj:Below w.heap.size w v0:=by rw[<-hw0];exact cg.alloc (by simp<;>omega) _
 have hR:Has v0 (w.heap.size) (aa 0) 26:=by rw[<-hw0];exact Has.new (aa 0) _
 have Vx:Hid (w.heap.size<=w.heap.size):=h_ (by omega);clear hw0;go_wp2_with (with_reducible first|refine a_ rfl _ rfl _ rfl _ hR rfl ?_|refine fM (by with_unfolding_all rfl) _ rfl _ rfl _ hR rfl ?_)
 refine az (KD.out _) fun v1 hb1=>?_;replace hR:=hR.on hb1;replace bj:=ai bj hb1;clear hb1;go_upto_region 2 with(with_reducible refine cB rfl _ _ rfl _ _ rfl rfl _ (Has.Vp _) rfl ?_)
 generalize hw2:World.setRow _ _ _=v2;have hb2:Below v1.heap.size v1 v2:=dZ hw2;have hZ:Has v2 v1.heap.size (aa z) 26:=by rw[<-hw2];exact(Has.Vp _).row _
 replace hR:=hR.on hb2;replace bj:=ai bj hb2;clear hw2 hb2;generalize v1.heap.size=Xq at hZ|-;go_wp2_with (with_reducible first|refine a_ rfl _ rfl _ rfl _ (by assumption) rfl ?_|refine fM (by with_unfolding_all rfl) _ rfl _ rfl _ (by assumption) rfl ?_)
 refine az (KZ.out _) fun v3 hb3=>?_;replace hR:=hR.on hb3;replace hZ:=hZ.on hb3;replace bj:=ai bj hb3;clear hb3;go_wp2_with (with_reducible first|refine a_ rfl _ rfl _ rfl _ (by assumption) rfl ?_|refine fM (by with_unfolding_all rfl) _ rfl _ rfl _ (by assumption) rfl ?_)
 refine az (KO.out _) fun v4 hb4=>?_;replace hR:=hR.on hb4;replace hZ:=hZ.on hb4;replace bj:=ai bj hb4;clear hb4;go_wp2_with (with_reducible first|refine a_ rfl _ rfl _ rfl _ (by assumption) rfl ?_|refine fM (by with_unfolding_all rfl) _ rfl _ rfl _ (by assumption) rfl ?_|refine cB rfl _ _ rfl _ _ rfl rfl _ hR rfl ?_)
 exact ay (v:=.agg (aa (v))) (jm Tryz.results123 _ _ _ rfl (hR.row _)) rfl ⟨rfl,below_setRow bj Vx.out _⟩
theorem Nm.Wa{n:Nat}:Nm.oG n<Nm.ak:=Nm.B4 (Nat.lt_trans (bq _ (by decide:0<8388608)) (by decide)) _
theorem BM(b:Int)(w:World):ar 123 #[i_ b] w (.agg (aa (ofBits b))):=by
 unfold ofBits;by_cases hb:0<=b/\b<=4294967295
 ·rw[aj hb];obtain⟨n,rfl⟩:=eG hb.1;have hd:=fun w=>Lc n (by omega) w
  rw[bU];generalize hl:Nm.j5 n=low at*;generalize ho:Nm.ib n=over at*;cases low
  ·cases over
   ·by_cases hz:Nm.oG n=0;rw[aG hz];exact Ni _ _ (h_ hd) (h_ (F_ _ Nm.Wa true (aG hz))) w;rw[aE hz];exact Oa _ _ (h_ hd) (h_ (F_ _ Nm.Wa false (aE hz))) _ (h_ (Va _ Nm.Wa _ rfl)) w
   exact B5.2 _ _ (h_ hd) w
  exact B5.1 _ _ _ (h_ hd) w
 rw[ah hb];exact Ni b 0 (h_ (Mp b hb)) (h_ (F_ 0 (by decide) true (by decide))) w
end NN
namespace NN
namespace Nm
def uB(x:Nat)(z:Int):Nat:=if 0<=z then up x z.toNat else down x (-z).toNat
theorem ow(x n:Nat):uB x (n:Int)=x*2^n%ak:=by unfold uB;rw[aj (by omega),tF,bU]
theorem Jp(x n:Nat)(hn:0<n):uB x (-(n:Int))=x/2^n:=by unfold uB;rw[ah (by omega),Ew,Int.neg_neg,bU]
theorem Ox{m i:Nat}(hm:m<ak):uB (uB m (i:Int)) (-(i:Int))=m↔m*2^i<ak:=by
 have hb:0<ak:=by decide
 by_cases h0:i=0;subst h0;rw[show(-((0:Nat):Int))=((0:Nat):Int) by rfl,ow,ow,Nat.pow_zero,fx,fx,Nat.mod_mod,bp hm];exact⟨fun _=>hm,fun _=>rfl⟩
 ·rw[Jp _ _ (by omega),ow];constructor
  ·intro h;have h1:=bq (m*2^i) hb
   have h2:m*2^i<=m*2^i%ak:=by
    have:=Nat.div_mul_le_self (m*2^i%ak) (2^i);rwa[h]at this
   omega
  intro h;rw[bp h,Nat.mul_div_cancel _ (Nat.two_pow_pos i)]
variable{t o r:Nat}
theorem Ik(ht:0<t):work t=ak/(t+1):=by have h:ak/(t+1)<ak:=Nat.div_lt_self (by decide) (by omega);unfold work cap;rw[aj h]
theorem JZ:work 0=ak-1:=by unfold work;decide
def LD(t k o r:Nat):Prop:=r+1+o*(t+1)=ak/\r+1<=(t+1)*2^(256-k)
theorem LD.start(t:Nat):LD t 0 0 (ak-1):=by
 have e:ak-1+1=ak:=by decide
 refine⟨by rw[e];omega,?_⟩;rw[e,show 256-0=256 from rfl,<-dj];exact Nat.le_mul_of_pos_left _ (by omega)
theorem LD.last(ht:0<t)(h:LD t 256 o r):(decide (r<t)=true->o=work t)/\(decide (r<t)=false->(o+1)%ak=work t):=by
 obtain⟨h1,h2⟩:=h;rw[show 256-256=0 from rfl,Nat.pow_zero,fx]at h2;rw[Ik ht];constructor;intro h3;have h3:=dX h3;rw[<-h1,Nat.add_mul_div_right _ _ (by omega),eY (by omega),cy]
 ·intro h3;have h3:=fc h3;have e:(o+1)*(t+1)=ak:=by rw[fN];omega
  have e2:ak/(t+1)=o+1:=by rw[<-e,Nat.mul_div_cancel _ (by omega)]
  rw[e2];refine bp ?_;rw[<-e2];exact Nat.div_lt_self (by decide) (by omega)
theorem LD.step{k d m2 s r2 m3 o2:Nat}{z:Int}(ht:0<t)(htb:t+1<ak)(hk:k<256)(hz:z=255-(k:Int))(hr:r<ak)(h:LD t k o r)(hd:d=uB (t+1) z)(hm2:m2=uB d (-z))(hs:s=(d+ak-1)%ak)(hr2:r2=(r+ak-d)%ak)(hm3:m3=uB 1 z)(ho2:o2=(o+m3)%ak):((!decide (m2=t+1))=true->LD t (k+1) o r)/\((!decide (m2=t+1))=false->decide (r<s)=true->LD t (k+1) o r)/\ ((!decide (m2=t+1))=false->decide (r<s)=false->decide (r2=ak-1)=false->LD t (k+1) o2 r2)/\((!decide (m2=t+1))=false->decide (r<s)=false->decide (r2=ak-1)=true->o2=work t):=by
 obtain⟨h1,h2⟩:=h;obtain⟨i,hi⟩:∃i,i=255-k:=⟨_,rfl⟩;have hzi:z=(i:Int):=by omega
 have e1:256-(k+1)=i:=by omega
 have e2:256-k=i+1:=by omega
 rw[e2,fG]at h2;subst hzi;have hf:=Ox (m:=t+1) (i:=i) htb;rw[<-hd,<-hm2]at hf;unfold LD;rw[e1];have hbp:0<ak:=by decide
 by_cases hm:m2=t+1
 ·have hfit:=hf.1 hm;have hd':d=(t+1)*2^i:=by rw[hd,ow,bp hfit]
  have hp:0<2^i:=Nat.two_pow_pos i;have hdp:0<d:=by rw[hd'];exact Nat.mul_pos (by omega) hp
  have hs':s=d-1:=by
   rw[hs,show d+ak-1=(d-1)+ak by omega,oe,bp (by omega)]
  have h2i:2^i<ak:=eH (Nat.le_mul_of_pos_left _ (by omega)) hfit;have ai6:m3=2^i:=by rw[hm3,ow,Nat.one_mul,bp h2i]
  have hdec:(!decide (m2=t+1))=false:=by simp[hm]
  rw[<-hd'];rw[<-Nat.mul_assoc,<-hd']at h2;refine⟨fun hc=>(by rw[hdec]at hc;cases hc),fun _ h3=>?_,fun _ h3 h4=>?_,fun _ h3 h4=>?_⟩;have:=dX h3;exact⟨h1,by omega⟩
  all_goals
   have h3:=fc h3;have hrd:d<=r+1:=by omega
   have e3:(o+2^i)*(t+1)=o*(t+1)+d:=by rw[fN,hd',gd (2^i)]
   have hol:o+2^i<ak:=by
    have h5:(o+2^i)*(t+1)<=ak:=(by omega);have h6:o+2^i<=ak/(t+1):=(Nat.le_div_iff_mul_le (by omega)).2 h5;have h7:ak/(t+1)<ak:=Nat.div_lt_self hbp (by omega);omega
   have ac8:o2=o+2^i:=by rw[ho2,ai6,bp hol]
  ·have h4:=fc h4
   have ai7:d<=r:=by
    rcases fQ r d with hc|hc
    exact absurd (by rw[hr2,bp (by omega)];omega) h4;exact hc
   have hr2':r2=r-d:=by rw[hr2,show r+ak-d=(r-d)+ak by omega,oe,bp (by omega)]
   rw[ac8,e3,hr2'];exact⟨by omega,by omega⟩
  ·have h4:=dX h4
   have ai7:r+1=d:=by
    rcases fQ r d with hc|hc
    omega;have hr2':r2=r-d:=(by rw[hr2,show r+ak-d=(r-d)+ak by omega,oe,bp (by omega)]);omega
   have e4:(o+2^i)*(t+1)=ak:=by rw[e3];omega
   rw[Ik ht,ac8,<-e4,Nat.mul_div_cancel _ (by omega)]
 ·have hfit:ak<=(t+1)*2^i:=Nat.le_of_not_lt fun hc=>hm (hf.2 hc)
  have hdec:(!decide (m2=t+1))=true:=by simp[hm]
  refine⟨fun _=>⟨h1,by omega⟩,fun hc=>(by rw[hdec]at hc;cases hc),fun hc=>(by rw[hdec]at hc;cases hc),fun hc=>(by rw[hdec]at hc;cases hc)⟩
end Nm
open Go.RowKit VI
theorem ni:0<Nm.ak:=by rw[Nm.dj];exact Nat.two_pow_pos _
theorem u':(#[aH 1,aH 0,aH 0,aH 0]:Array Value)=aa 1:=rfl
theorem QB(w:World):ar 150 #[.agg #[aH 0,aH 0,aH 0,aH 0]] w (.agg (aa (Nm.ak-1))):=Cy 0 ni w
theorem vv(w:World):ar 116 #[] w (.agg (aa (Nm.ak-1))):=by
 have KN:=h_ QB;go_enter Tryz.func116,Tryz.ntmps116;go_upto_region 1 with fail
 generalize hw0:World.alloc _ _=v0;have hR:Has v0 w.heap.size (aa 0) 26:=by rw[<-hw0];exact Has.Vp _
 have bj:Bl w v0:=eT hw0;clear hw0;go_wp2_with fail
 refine az (KN.out _) fun v1 hb=>?_;replace hR:=hR.on hb;replace bj:=ai bj hb;go_wp2_with (with_reducible refine cB rfl _ _ rfl _ _ rfl rfl _ hR rfl ?_)
 exact ay (v:=.agg (aa (Nm.ak-1))) (jm Tryz.results116 _ _ _ rfl (hR.row _)) rfl ⟨rfl,below_setRow bj (au _) _⟩
theorem PF(x y s:Nat)(KA:Hid (dx 115 #[.agg (aa x),.agg (aa y)] (.tuple #[.agg (aa s),.bool true])))(w:World):ar 80 #[.agg (aa x),.agg (aa y)] w (.agg (aa (Nm.ak-1))):=by
 have KM:=h_ vv;go_enter Tryz.func80,Tryz.ntmps80;go_upto_region 1 with fail
 generalize hw0:World.alloc _ _=v0;have bj:Below w.heap.size w v0:=by rw[<-hw0];exact((cg.alloc (by simp<;>omega) _).alloc (by simp<;>omega) _).alloc (by simp<;>omega) _
 have h1:Has v0 (w.heap.size) (aa x) 26:=by rw[<-hw0];exact((Has.new _ _).alloc _).alloc _
 have h2:Has v0 (w.heap.size+1) (aa y) 26:=by rw[<-hw0];exact(Has.Vt _ _ _).alloc _
 have hR:Has v0 (w.heap.size+1+1) (aa 0) 26:=by rw[<-hw0];exact Has.VT _ _ (aa 0) _
 have Vx:Hid (w.heap.size<=w.heap.size+1+1):=h_ (by omega);clear hw0;generalize hg2:w.heap.size+1+1=VJ at hR Vx|-;clear hg2;generalize hg1:w.heap.size+1=ai8 at h2|-;clear hg1;go_wp2_with (first|fail|(with_reducible refine a_ rfl _ rfl _ rfl _ (by assumption) rfl ?_))
 refine az (KA.out _) fun v1 hb1=>?_;replace h1:=h1.on hb1;replace h2:=h2.on hb1;replace hR:=hR.on hb1;replace bj:=ai bj hb1;clear hb1;go_upto_region 2 with(with_reducible refine cB rfl _ _ rfl _ _ rfl rfl _ (Has.Vp _) rfl ?_)
 generalize hw2:World.setRow _ _ _=v2;have hb2:Below v1.heap.size v1 v2:=dZ hw2;have h5:Has v2 v1.heap.size (aa s) 26:=by rw[<-hw2];exact(Has.Vp _).row _
 replace h1:=h1.on hb2;replace h2:=h2.on hb2;replace hR:=hR.on hb2;replace bj:=ai bj hb2;clear hw2 hb2;generalize v1.heap.size=ai9 at h5|-;go_wp2_with (first|fail|(with_reducible refine a_ rfl _ rfl _ rfl _ (by assumption) rfl ?_))
 refine az (KM.out _) fun v3 hb3=>?_;replace h1:=h1.on hb3;replace h2:=h2.on hb3;replace hR:=hR.on hb3;replace h5:=h5.on hb3;replace bj:=ai bj hb3;clear hb3;go_wp2_with (with_reducible first|refine a_ rfl _ rfl _ rfl _ (by assumption) rfl ?_|refine cB rfl _ _ rfl _ _ rfl rfl _ hR rfl ?_)
 exact ay (v:=.agg (aa (Nm.ak-1))) (jm Tryz.results80 _ _ _ rfl (hR.row _)) rfl ⟨rfl,below_setRow bj Vx.out _⟩
theorem xT(x y s:Nat)(KA:Hid (dx 115 #[.agg (aa x),.agg (aa y)] (.tuple #[.agg (aa s),.bool false])))(w:World):ar 80 #[.agg (aa x),.agg (aa y)] w (.agg (aa s)):=by
 go_enter Tryz.func80,Tryz.ntmps80;go_upto_region 1 with fail
 generalize hw0:World.alloc _ _=v0;have bj:Below w.heap.size w v0:=by rw[<-hw0];exact((cg.alloc (by simp<;>omega) _).alloc (by simp<;>omega) _).alloc (by simp<;>omega) _
 have h1:Has v0 (w.heap.size) (aa x) 26:=by rw[<-hw0];exact((Has.new _ _).alloc _).alloc _
 have h2:Has v0 (w.heap.size+1) (aa y) 26:=by rw[<-hw0];exact(Has.Vt _ _ _).alloc _
 have hR:Has v0 (w.heap.size+1+1) (aa 0) 26:=by rw[<-hw0];exact Has.VT _ _ (aa 0) _
 have Vx:Hid (w.heap.size<=w.heap.size+1+1):=h_ (by omega);clear hw0;generalize hg2:w.heap.size+1+1=VJ at hR Vx|-;clear hg2;generalize hg1:w.heap.size+1=ai8 at h2|-;clear hg1;go_wp2_with (first|fail|(with_reducible refine a_ rfl _ rfl _ rfl _ (by assumption) rfl ?_))
 refine az (KA.out _) fun v1 hb1=>?_;replace h1:=h1.on hb1;replace h2:=h2.on hb1;replace hR:=hR.on hb1;replace bj:=ai bj hb1;clear hb1;go_upto_region 2 with(with_reducible refine cB rfl _ _ rfl _ _ rfl rfl _ (Has.Vp _) rfl ?_)
 generalize hw2:World.setRow _ _ _=v2;have hb2:Below v1.heap.size v1 v2:=dZ hw2;have h5:Has v2 v1.heap.size (aa s) 26:=by rw[<-hw2];exact(Has.Vp _).row _
 replace h1:=h1.on hb2;replace h2:=h2.on hb2;replace hR:=hR.on hb2;replace bj:=ai bj hb2;clear hw2 hb2;generalize v1.heap.size=ai9 at h5|-;go_wp2_with (with_reducible first|refine a_ rfl _ rfl _ rfl _ (by assumption) rfl ?_|refine cB rfl _ _ rfl _ _ rfl rfl _ hR rfl ?_)
 exact ay (v:=.agg (aa (s))) (jm Tryz.results80 _ _ _ rfl (hR.row _)) rfl ⟨rfl,below_setRow bj Vx.out _⟩
theorem FC(x:Nat)(hx:x<Nm.ak)(z:Int)(h1:-300<=z)(h2:z<=300):∃d,d=Nm.uB x z/\d<Nm.ak/\dx 145 #[.agg (aa x),i_ z] (.agg (aa d)):=by by_cases h0:0<=z;obtain⟨n,rfl⟩:∃n:Nat,z=(n:Int):=⟨z.toNat,by omega⟩;refine⟨Nm.up x n,?_,Nm.rr _ _,fun w=>DQ x n hx (by omega) w⟩;unfold Nm.uB;rw[aj h0,bU];obtain⟨n,rfl⟩:∃n:Nat,z = -(n:Int):=⟨(-z).toNat,by omega⟩;refine⟨Nm.down x n,?_,Nm.Ed hx _,fun w=>OK x n hx (by omega) (by omega) w⟩;unfold Nm.uB;rw[ah h0,Int.neg_neg,bU]
theorem y5(x y:Nat)(hx:x<Nm.ak)(hy:y<Nm.ak)(w:World):ar 80 #[.agg (aa x),.agg (aa y)] w (.agg (aa (Nm.cap (x+y)))):=by
 unfold Nm.cap;cases h:decide (Nm.ak<=x+y);have h1:=fc h;rw[aj (by omega)];have:=xT x y ((x+y)%Nm.ak) (h_ fun w=>by have:=vN x y hx hy w;rwa[h]at this) w;rwa[bp (by omega)]at this
 have h1:=dX h;rw[ah (by omega)];exact PF x y ((x+y)%Nm.ak) (h_ fun w=>by have:=vN x y hx hy w;rwa[h]at this) w
