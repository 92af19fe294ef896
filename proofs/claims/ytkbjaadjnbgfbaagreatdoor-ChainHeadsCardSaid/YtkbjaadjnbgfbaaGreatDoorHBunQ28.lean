import Derived.Test.YtkbjaadjnbgfbaaGreatDoorHBunQ24
import Derived.Test.YtkbjaadjnbgfbaaGreatDoorHBunQ27
set_option maxRecDepth 100000
set_option maxHeartbeats 8000000
namespace Go.Proofs.YtkbjaadjnbgfbaaGreatDoor
open Go.RowKit
namespace NN
open VI
def di(k O x y:Nat)(l:Array Bool)(w:World):Prop:=(l.getD k false=false->Has w O (aa x) 26)/\(l.getD k false=true->Has w O (aa y) 26)
variable{k O x y i:Nat}{l:Array Bool}{w w':World}
theorem di.now(h:di k O x y l w)(hi:i<l.size)(hik:i≠k)(ha:(l.setIfInBounds i true).getD k false=false):Has w O (aa x) 26:=
 h.1 (by rw[ko _ _ _ hi,ah hik]at ha;exact ha)
theorem di.pre(h:di k O x y l w)(hi:i<l.size)(hik:i≠k)(ha:(l.setIfInBounds i true).getD k false=false)(hw:Has w O (aa x) 26->Has w' O (aa x) 26):di k O x y (l.setIfInBounds i true) w':=⟨fun _=>hw (h.now hi hik ha),fun hk=>by rw[ha]at hk;cases hk⟩
theorem di.keep(h:di k O x y l w)(hi:i<l.size)(hik:i≠k:=by decide):di k O x y (l.setIfInBounds i true) w:=⟨fun hk=>h.1 (by rw[ko _ _ _ hi,ah hik]at hk;exact hk),fun hk=>h.2 (by rw[ko _ _ _ hi,ah hik]at hk;exact hk)⟩
theorem Ur(a:Act)(n:Nat)(u:Nat->Value)(hs:a.tmps.size=n)(hd:a.defers=[])(hu:∀t,u t=a.eval (.tmp t)):a=⟨((List.range n).map u).toArray,[]⟩:=by obtain⟨tm,df⟩:=a;obtain rfl:df=[]:=hd;congr 1;apply Array.ext;simpa using hs;intro i h1 h2;simp only[om,jh,jo,hu];simp[Act.eval,Array.getD_eq_getD_getElem?,h1]
structure qy (w wr:World) (R:Nat):Prop where
 below:Bl w wr
 r:Has wr R (aa 0) 26
theorem qy.on{wr:World}{R:Nat}(h:qy w wr R)(hb:Bl wr w'):qy w w' R:=⟨ai h.below hb,h.r.on hb⟩
def tu(o1 r a m1 b m s:Nat)(g2:Bool):Nat->Value->Prop
 | 0,v=>v=.agg (aa o1)
 | 1,v=>v=aH (r:Int)
 | 2,v=>v=aH (a:Int)
 | 3,v=>v=aH (m1:Int)
 | 4,v=>v=aH (b:Int)
 | 5,v=>v=aH (m:Int)
 | 6,v=>v=.agg (aa m)
 | 7,v=>v=.tuple #[.agg (aa s),.bool g2]
 | 8,v=>v=.tuple #[.agg (aa s),.bool g2]
 | 9,v=>v=.agg (aa s)
 | 10,v=>v=.bool g2
 | 12,v=>v=.bool g2
 | _,_=>True
theorem Cr:(∀(n c b q r o1 m1 m s:Nat)(g2:Bool)(_f1:IntKind.u64.wrap ((r:Int)*(c:Int))=(m1:Int))(_f2:IntKind.u64.wrap ((m1:Int)/(b:Int))=(m:Int))(_f3:(b:Int)≠0)(_KO:Hid (dx 214 #[.agg (aa n),aH (b:Int)] (.tuple #[.agg (aa q),aH (r:Int)])))(_KT:Hid (dx 215 #[.agg (aa q),aH (c:Int)] (.tuple #[.agg (aa o1),.bool true])))(_KF:Hid (dx 187 #[aH (m:Int)] (.agg (aa m))))(_KA:Hid (dx 184 #[.agg (aa o1),.agg (aa m)] (.tuple #[.agg (aa s),.bool g2])))(w:World),ar 199 #[.agg (aa n),aH (c:Int),aH (b:Int)] w (.tuple #[.agg (aa s),.bool true]))/\ (∀(n c b q r o1 m1 m s:Nat)(g2:Bool)(_f1:IntKind.u64.wrap ((r:Int)*(c:Int))=(m1:Int))(_f2:IntKind.u64.wrap ((m1:Int)/(b:Int))=(m:Int))(_f3:(b:Int)≠0)(_KO:Hid (dx 214 #[.agg (aa n),aH (b:Int)] (.tuple #[.agg (aa q),aH (r:Int)])))(_KT:Hid (dx 215 #[.agg (aa q),aH (c:Int)] (.tuple #[.agg (aa o1),.bool false])))(_KF:Hid (dx 187 #[aH (m:Int)] (.agg (aa m))))(_KA:Hid (dx 184 #[.agg (aa o1),.agg (aa m)] (.tuple #[.agg (aa s),.bool g2])))(w:World),ar 199 #[.agg (aa n),aH (c:Int),aH (b:Int)] w (.tuple #[.agg (aa s),.bool g2])):=by
 refine⟨fun n c b q r o1 m1 m s g2 f1 f2 f3 KO KT KF KA w=>?_,
  fun n c b q r o1 m1 m s g2 f1 f2 f3 KO KT KF KA w=>?_⟩
 all_goals
  go_enter Tryz.func199,Tryz.ntmps199;go_upto_region 1 with fail
  generalize hw0:World.alloc _ _=v0;have bj:Below w.heap.size w v0:=by rw[<-hw0];exact(cg.alloc (by simp<;>omega) _).alloc (by simp<;>omega) _
  have hN:Has v0 (w.heap.size) (aa n) 26:=by rw[<-hw0];exact(Has.new _ _).alloc _
  have hR:Has v0 (w.heap.size+1) (aa 0) 26:=by rw[<-hw0];exact Has.Vt _ (aa 0) _
  have Vx:Hid (w.heap.size<=w.heap.size+1):=h_ (by omega);clear hw0;generalize hg1:w.heap.size+1=VJ at hR Vx|-;clear hg1;go_wp2_with (first|fail|(with_reducible refine a_ rfl _ rfl _ rfl _ (by assumption) rfl ?_))
  refine az (KO.out _) fun v1 hb1=>?_;replace hN:=hN.on hb1;replace hR:=hR.on hb1;replace bj:=ai bj hb1;clear hb1;go_upto_region 2 with(with_reducible refine cB rfl _ _ rfl _ _ rfl rfl _ (Has.Vp _) rfl ?_)
  generalize hw2:World.setRow _ _ _=v2;have hb2:Below v1.heap.size v1 v2:=dZ hw2;have hQ:Has v2 v1.heap.size (aa q) 26:=by rw[<-hw2];exact(Has.Vp _).row _
  replace hN:=hN.on hb2;replace hR:=hR.on hb2;replace bj:=ai bj hb2;clear hw2 hb2;generalize v1.heap.size=ag9 at hQ|-;go_wp2_with (first|fail|(with_reducible refine a_ rfl _ rfl _ rfl _ (by assumption) rfl ?_))
  refine az (KT.out _) fun v3 hb3=>?_;replace hN:=hN.on hb3;replace hR:=hR.on hb3;replace hQ:=hQ.on hb3;replace bj:=ai bj hb3;clear hb3;have hbel0:=bj;have ab9:=hR.lt;go_upto_region 3 with(with_reducible refine cB rfl _ _ rfl _ _ rfl rfl _ (Has.Vp _) rfl ?_)
  generalize hw4:World.setRow _ _ _=v4;have hb4:Below v3.heap.size v3 v4:=dZ hw4;have hO:Has v4 v3.heap.size (aa o1) 26:=by rw[<-hw4];exact(Has.Vp _).row _
  replace hN:=hN.on hb4;replace hR:=hR.on hb4;replace hQ:=hQ.on hb4;replace bj:=ai bj hb4;clear hw4 hb4;have ac0:Hid (w.heap.size<=v3.heap.size):=h_ hbel0.size;have hne:Hid (VJ≠v3.heap.size):=h_ (by have:=ab9;omega);clear hbel0 ab9;generalize v3.heap.size=VO at hO ac0 hne|-;have hT:qy w v4 VJ:=⟨bj,hR⟩;refine VI.lG (by kernel_rfl) (fun w'=>qy w w' VJ) (fun i v _=>tu o1 r c m1 b m s g2 i v) (fun l _ w'=>di 11 VO o1 s l w') (fun _ _=>True) (fun _ _=>trivial) (fun _ _ _ _ _ _ h=>h) (by kernel_rfl) ⟨hT.below.drew,hT.r.drew⟩ ?_ ?_ ?_;exact fun l hl=>⟨fun _=>hO.drew,fun hk=>(by rw[hl]at hk;cases hk)⟩
  ·intro i o lz a wx ho hn dq Z;have hC:=Z.c;have hI:=Z.i;have hi:i<13:=(dA.1 ho).1;obtain rfl|rfl|rfl|rfl|rfl|rfl|rfl|rfl|rfl|rfl|rfl|rfl|rfl:i=0\/i=1\/i=2\/i=3\/i=4\/i=5\/i=6\/i=7\/i=8\/i=9\/i=10\/i=11\/i=12:=by omega
   all_goals obtain rfl:=Option.some.inj ho
   exact gv (C:=fun w'=>qy w w' VJ) (S:=fun _ _=>True) (R:=fun v _=>tu o1 r c m1 b m s g2 0 v) (J:=fun _ w'=>di 11 VO o1 s (lz.setIfInBounds 0 true) w') (fun _ _=>trivial) hC (aq rfl) (kh rfl (Z.old' 10) (hI.now (by rw[Z.size];decide) (by decide) (d_ Z hn 8))) rfl (hI.pre (by rw[Z.size];decide) (by decide) (d_ Z hn 8) (fun h=>h));exact gv (C:=fun w'=>qy w w' VJ) (S:=fun _ _=>True) (R:=fun v _=>tu o1 r c m1 b m s g2 1 v) (J:=fun _ w'=>di 11 VO o1 s (lz.setIfInBounds 1 true) w') (fun _ _=>trivial) hC (aq rfl) (fs rfl) (Z.old' 9) (hI.pre (by rw[Z.size];decide) (by decide) (d_ Z hn 8) (fun h=>h));exact gv (C:=fun w'=>qy w w' VJ) (S:=fun _ _=>True) (R:=fun v _=>tu o1 r c m1 b m s g2 2 v) (J:=fun _ w'=>di 11 VO o1 s (lz.setIfInBounds 2 true) w') (fun _ _=>trivial) hC (aq rfl) (fs rfl) (Z.old' 1) (hI.pre (by rw[Z.size];decide) (by decide) (d_ Z hn 8) (fun h=>h));exact gv (C:=fun w'=>qy w w' VJ) (S:=fun _ _=>True) (R:=fun v _=>tu o1 r c m1 b m s g2 3 v) (J:=fun _ w'=>di 11 VO o1 s (lz.setIfInBounds 3 true) w') (fun _ _=>trivial) hC (aq rfl) (Qa rfl (aw Z dq 1 27) (aw Z dq 2 28) (m1:Int) f1) rfl (hI.pre (by rw[Z.size];decide) (by decide) (d_ Z hn 8) (fun h=>h));exact gv (C:=fun w'=>qy w w' VJ) (S:=fun _ _=>True) (R:=fun v _=>tu o1 r c m1 b m s g2 4 v) (J:=fun _ w'=>di 11 VO o1 s (lz.setIfInBounds 4 true) w') (fun _ _=>trivial) hC (aq rfl) (fs rfl) (Z.old' 2) (hI.pre (by rw[Z.size];decide) (by decide) (d_ Z hn 8) (fun h=>h));exact gv (C:=fun w'=>qy w w' VJ) (S:=fun _ _=>True) (R:=fun v _=>tu o1 r c m1 b m s g2 5 v) (J:=fun _ w'=>di 11 VO o1 s (lz.setIfInBounds 5 true) w') (fun _ _=>trivial) hC (aq rfl) (I_ rfl (aw Z dq 3 29) (aw Z dq 4 30) f3 (m:Int) f2) rfl (hI.pre (by rw[Z.size];decide) (by decide) (d_ Z hn 8) (fun h=>h))
   ·have e31:a.eval (.tmp 31)=aH (m:Int):=Z.got 5 _ 31 rfl (dq ⟨5,.data⟩ (by simp) rfl) rfl;exact mz (C:=fun w'=>qy w w' VJ) (S:=fun _ _=>True) (R:=fun v _=>tu o1 r c m1 b m s g2 6 v) (J:=fun _ w'=>di 11 VO o1 s (lz.setIfInBounds 6 true) w') (aq rfl) (f:=187) (args:=#[a.eval (.tmp 31)]) (by kernel_rfl) (by rw[e31];exact KF.out wx) (fun w' hb=>⟨hC.on hb,trivial,rfl,hI.pre (by rw[Z.size];decide) (by decide) (d_ Z hn 8) (fun h=>h.on hb)⟩)
   ·have e26:a.eval (.tmp 26)=.agg (aa o1):=Z.got 0 _ 26 rfl (dq ⟨0,.data⟩ (by simp) rfl) rfl;have e32:a.eval (.tmp 32)=.agg (aa m):=Z.got 6 _ 32 rfl (dq ⟨6,.data⟩ (by simp) rfl) rfl;exact mz (C:=fun w'=>qy w w' VJ) (S:=fun _ _=>True) (R:=fun v _=>tu o1 r c m1 b m s g2 7 v) (J:=fun _ w'=>di 11 VO o1 s (lz.setIfInBounds 7 true) w') (aq rfl) (f:=184) (args:=#[a.eval (.tmp 26),a.eval (.tmp 32)]) (by kernel_rfl) (by rw[e26,e32];exact KA.out wx) (fun w' hb=>⟨hC.on hb,trivial,rfl,hI.pre (by rw[Z.size];decide) (by decide) (d_ Z hn 8) (fun h=>h.on hb)⟩)
   exact gv (C:=fun w'=>qy w w' VJ) (S:=fun _ _=>True) (R:=fun v _=>tu o1 r c m1 b m s g2 8 v) (J:=fun _ w'=>di 11 VO o1 s (lz.setIfInBounds 8 true) w') (fun _ _=>trivial) hC (aq rfl) (fs rfl) (aw Z dq 7 33) (hI.pre (by rw[Z.size];decide) (by decide) (d_ Z hn 8) (fun h=>h));exact gv (C:=fun w'=>qy w w' VJ) (S:=fun _ _=>True) (R:=fun v _=>tu o1 r c m1 b m s g2 9 v) (J:=fun _ w'=>di 11 VO o1 s (lz.setIfInBounds 9 true) w') (fun _ _=>trivial) hC (aq rfl) (iy rfl (aw Z dq 8 25) rfl) rfl (hI.pre (by rw[Z.size];decide) (by decide) (d_ Z hn 8) (fun h=>h));exact gv (C:=fun w'=>qy w w' VJ) (S:=fun _ _=>True) (R:=fun v _=>tu o1 r c m1 b m s g2 10 v) (J:=fun _ w'=>di 11 VO o1 s (lz.setIfInBounds 10 true) w') (fun _ _=>trivial) hC (aq rfl) (iy rfl (aw Z dq 8 25) rfl) rfl (hI.keep (by rw[Z.size];decide) (by decide));have hO:=hI.1 (by exact hn);exact nw (C:=fun w'=>qy w w' VJ) (S:=fun _ _=>True) (R:=fun v _=>tu o1 r c m1 b m s g2 11 v) (J:=fun _ w'=>di 11 VO o1 s (lz.setIfInBounds 11 true) w') (aq rfl) (nk rfl (Z.old' 10) (aw Z dq 9 34) hO rfl) ⟨below_setRow hC.below ac0.out _,hC.r.Vo _ _ hne.out⟩ trivial trivial ⟨fun hk=>(by rw[ko _ _ _ (by rw[Z.size];decide),aj rfl]at hk;cases hk),fun _=>hO.row _⟩;exact gv (C:=fun w'=>qy w w' VJ) (S:=fun _ _=>True) (R:=fun v _=>tu o1 r c m1 b m s g2 12 v) (J:=fun _ w'=>di 11 VO o1 s (lz.setIfInBounds 12 true) w') (fun _ _=>trivial) hC (aq rfl) (iX rfl) (aw Z dq 10 35) (hI.keep (by rw[Z.size];decide) (by decide))
  ·intro lz a wx hall Z;have hC:=Z.c;have hO2:=Z.i.2 (hall 11 (by decide));have hR2:=hC.r;have We:=hC.below;obtain⟨u,hu⟩:∃u:Nat->Value,∀t,u t=a.eval (.tmp t):=⟨_,fun _=>rfl⟩;rw[Ur a 41 u Z.Vr Z.defers hu];have f0:=Z.old' 0;have f1:=Z.old' 1;have f2:=Z.old' 2;have f3:=Z.old' 3;have f4:=Z.old' 4;have f5:=Z.old' 5;have f6:=Z.old' 6;have f7:=Z.old' 7;have f8:=Z.old' 8;have f9:=Z.old' 9;have f10:=Z.old' 10;have f11:=Z.old' 11;have f13:=Z.old' 13;have f14:=Z.old' 14;have f15:=Z.old' 15;have f16:=Z.old' 16;have f17:=Z.old' 17;have f18:=Z.old' 18;have f19:=Z.old' 19;have f20:=Z.old' 20;have f21:=Z.old' 21;have f22:=Z.old' 22;have f23:=Z.old' 23;have f24:=Z.old' 24;have f36:=Z.old' 36;have f37:=Z.old' 37;have f38:=Z.old' 38;have f39:=Z.old' 39;have f40:=Z.old' 40;have f12:=Z.got 12 _ 12 rfl (hall 12 (by decide)) rfl;simp only[<-hu]at f0 f1 f2 f3 f4 f5 f6 f7 f8 f9 f10 f11 f12 f13 f14 f15 f16 f17 f18 f19 f20 f21 f22 f23 f24 f36 f37 f38 f39 f40;simp[Act.eval]at f0 f1 f2 f3 f4 f5 f6 f7 f8 f9 f10 f11 f13 f14 f15 f16 f17 f18 f19 f20 f21 f22 f23 f24 f36 f37 f38 f39 f40;clear hu Z hall;simp only[List.range,List.range.loop,bZ,cx];rw[f0,f1,f2,f3,f4,f5,f6,f7,f8,f9,f10,f11,f12,f13,f14,f15,f16,f17,f18,f19,f20,f21,f22,f23,f24,f36,f37,f38,f39,f40];clear f0 f1 f2 f3 f4 f5 f6 f7 f8 f9 f10 f11 f12 f13 f14 f15 f16 f17 f18 f19 f20 f21 f22 f23 f24 f36 f37 f38 f39 f40;clear hN hQ hO hR bj hT hC;go_wp2_with (with_reducible first|refine a_ rfl _ rfl _ rfl _ hO2 rfl ?_|refine cB rfl _ _ rfl _ _ rfl rfl _ hR2 rfl ?_)
   exact ay (mM Tryz.results199 _ _ _ _ rfl rfl (hR2.row _)) rfl ⟨rfl,below_setRow We Vx.out _⟩
theorem Ix(n a b:Nat)(hn:n<Nm.ak)(ha:a<4294967296)(hb:b<4294967296)(h0:b≠0)(w:World):ar 199 #[.agg (aa n),aH (a:Int),aH (b:Int)] w (.tuple #[.agg (aa (n*a/b%Nm.ak)),.bool (decide (Nm.ak<=n*a/b))]):=by
 have hr:n%b<b:=bq _ (by omega)
 have hm1:n%b*a<18446744073709551616:=by
  have:=kU (show n%b<=4294967295 by omega) (show a<=4294967295 by omega);omega
 have hm:n%b*a/b<=n%b*a:=f' _ _;have KO:=fun w=>over n b hn (by omega) w
 rw[ah h0]at KO;have hq:n/b<Nm.ak:=eH (f' _ _) hn;have KT:=fun w=>times (n/b) a hq (by omega) w
 have KF:=fun w=>of (n%b*a/b) (by omega) w
 have KA:=fun w=>add (n/b*a%Nm.ak) (n%b*a/b) (bq _ (by decide)) (by unfold Nm.ak;omega) w
 have f1:IntKind.u64.wrap (((n%b:Nat):Int)*(a:Int))=((n%b*a:Nat):Int):=by rw[<-Int.natCast_mul,IntKind.wrap_u64];omega
 have f2:IntKind.u64.wrap (((n%b*a:Nat):Int)/(b:Int))=((n%b*a/b:Nat):Int):=by
  rw[<-Int.natCast_ediv,IntKind.wrap_u64];have h9:=eH hm hm1;generalize n%b*a/b=M at h9|-;omega
 have e1:=O2 n a b (by omega);have e2:=Mw (n/b*a) (n%b*a/b);have e3:=RY (n/b*a) (n%b*a/b);rw[<-e1]at e2 e3;rw[<-e2,<-e3];by_cases hg:Nm.ak<=n/b*a;rw[aG hg]at KT|-;rw[Bool.true_or];exact Cr.1 n a b _ _ _ _ _ _ _ f1 f2 (by omega) (h_ KO) (h_ KT) (h_ KF) (h_ KA) w;rw[aE hg]at KT|-;rw[j6];exact Cr.2 n a b _ _ _ _ _ _ _ f1 f2 (by omega) (h_ KO) (h_ KT) (h_ KF) (h_ KA) w
end NN
namespace NN
theorem IU(p : Pr)(hz : (aV p).size=83)(b fr VY lim : Int)(e0 : Hid (p.lim=lim))(t : Nat)(KT:Hid (dx 181 #[i_ b,i_ b] (.tuple #[.agg (aa t),.bool false])))(w:World):ar 180 #[.agg (aV p),i_ b,i_ fr,i_ VY] w (i_ lim):=by
  have Vq:=hz;go_enter Tryz.func180,Tryz.ntmps180;go_upto_region 1 with fail
  generalize hw0:World.alloc _ _=v0;have bj:Below w.heap.size w v0:=by rw[<-hw0];exact cg.alloc (by simp<;>omega) _
  have hP:aK v0 (w.heap.size) p:=by rw[<-hw0];exact Has.new _ _
  clear hw0;have c0:=hP.c0 e0;go_wp2_with (with_reducible first|refine fK rfl _ rfl _ rfl hP Vq ?_|refine jF (by with_unfolding_all rfl) _ rfl _ rfl hP Vq ?_)
  refine az (KT.out _) fun v1 hb1=>?_;replace hP:=hP.on hb1;replace c0:=hP.c0 e0;replace bj:=ai bj hb1;clear hb1;go_upto_region 2 with(with_reducible refine cB rfl _ _ rfl _ _ rfl rfl _ (Has.Vp _) rfl ?_)
  generalize hw2:World.setRow _ _ _=v2;have hb2:Below v1.heap.size v1 v2:=dZ hw2;have hT:Has v2 v1.heap.size (aa t) 26:=by rw[<-hw2];exact(Has.Vp _).row _
  replace hP:=hP.on hb2;replace c0:=hP.c0 e0;replace bj:=ai bj hb2;clear hw2 hb2;generalize v1.heap.size=X3 at hT|-;go_wp2_with (with_reducible first|refine fK rfl _ rfl _ rfl hP Vq ?_|refine jF (by with_unfolding_all rfl) _ rfl _ rfl hP Vq ?_|refine a_ rfl _ rfl _ rfl _ hT rfl ?_|refine fM (by with_unfolding_all rfl) _ rfl _ rfl _ hT rfl ?_)
  go_ret;exact⟨rfl,bj⟩
theorem AP(p : Pr)(hz : (aV p).size=83)(b fr VY lim : Int)(e0 : Hid (p.lim=lim))(t : Nat)(KT:Hid (dx 181 #[i_ b,i_ b] (.tuple #[.agg (aa t),.bool true])))(KG:Hid (dx 168 #[.agg (aV p)] (.bool false)))(w:World):ar 180 #[.agg (aV p),i_ b,i_ fr,i_ VY] w (i_ lim):=by
  have Vq:=hz;go_enter Tryz.func180,Tryz.ntmps180;go_upto_region 1 with fail
  generalize hw0:World.alloc _ _=v0;have bj:Below w.heap.size w v0:=by rw[<-hw0];exact cg.alloc (by simp<;>omega) _
  have hP:aK v0 (w.heap.size) p:=by rw[<-hw0];exact Has.new _ _
  clear hw0;have c0:=hP.c0 e0;go_wp2_with (with_reducible first|refine fK rfl _ rfl _ rfl hP Vq ?_|refine jF (by with_unfolding_all rfl) _ rfl _ rfl hP Vq ?_)
  refine az (KT.out _) fun v1 hb1=>?_;replace hP:=hP.on hb1;replace c0:=hP.c0 e0;replace bj:=ai bj hb1;clear hb1;go_upto_region 2 with(with_reducible refine cB rfl _ _ rfl _ _ rfl rfl _ (Has.Vp _) rfl ?_)
  generalize hw2:World.setRow _ _ _=v2;have hb2:Below v1.heap.size v1 v2:=dZ hw2;have hT:Has v2 v1.heap.size (aa t) 26:=by rw[<-hw2];exact(Has.Vp _).row _
  replace hP:=hP.on hb2;replace c0:=hP.c0 e0;replace bj:=ai bj hb2;clear hw2 hb2;generalize v1.heap.size=X3 at hT|-;go_wp2_with (with_reducible first|refine fK rfl _ rfl _ rfl hP Vq ?_|refine jF (by with_unfolding_all rfl) _ rfl _ rfl hP Vq ?_|refine a_ rfl _ rfl _ rfl _ hT rfl ?_|refine fM (by with_unfolding_all rfl) _ rfl _ rfl _ hT rfl ?_)
  refine az (KG.out _) fun v3 hb3=>?_;replace hP:=hP.on hb3;replace hT:=hT.on hb3;replace c0:=hP.c0 e0;replace bj:=ai bj hb3;clear hb3;go_wp2_with (with_reducible first|refine fK rfl _ rfl _ rfl hP Vq ?_|refine jF (by with_unfolding_all rfl) _ rfl _ rfl hP Vq ?_|refine a_ rfl _ rfl _ rfl _ hT rfl ?_|refine fM (by with_unfolding_all rfl) _ rfl _ rfl _ hT rfl ?_)
  go_ret;exact⟨rfl,bj⟩
theorem G_(p : Pr)(hz : (aV p).size=83)(b fr VY lim : Int)(e0 : Hid (p.lim=lim))(t : Nat)(Vv VG:Int)(e1:Hid (p.Vv=Vv))(e2:Hid (p.VG=VG))(z L:Nat)(oL:Bool)(sn s4 s16:Nat)(d:Int)(f1:IntKind.i64.wrap (Vv*VG)=(sn:Int))(f2:IntKind.i64.wrap (VY-fr)=d)(f3:(sn:Int)/4=(s4:Int))(f4:IntKind.i64.wrap ((sn:Int)*4)=(s16:Int))(f5:IntKind.i64.wrap (s4:Int)=(s4:Int))(tk:Nat)(mx:Int)(f6:mx=max d (s4:Int))(f7:(tk:Int)=min mx (s16:Int))(f8:IntKind.u64.wrap (tk:Int)=(tk:Int))(f9:IntKind.u64.wrap (sn:Int)=(sn:Int))(so ls zr:Bool)(en res:Int)(Ww:Hid (res=if so=true\/ls=true then lim else en))(KT:Hid (dx 181 #[i_ b,i_ b] (.tuple #[.agg (aa t),.bool true])))(KG:Hid (dx 168 #[.agg (aV p)] (.bool true)))(KS:Hid (dx 199 #[.agg (aa t),aH (tk:Int),aH (sn:Int)] (.tuple #[.agg (aa z),.bool so])))(KL:Hid (dx 181 #[i_ lim,i_ lim] (.tuple #[.agg (aa L),.bool oL])))(X4:Hid (dx 200 #[.agg (aa L),.agg (aa z)] (.bool ls)))(KZ:Hid (dx 163 #[.agg (aa z)] (.bool zr)))(KO:Hid (dx 187 #[aH 1] (.agg (aa 1))))(KE:Hid (dx 201 #[.agg (aa (if zr=true then 1 else z))] (i_ en)))(w:World):ar 180 #[.agg (aV p),i_ b,i_ fr,i_ VY] w (i_ res):=by
  have Vq:=hz;go_enter Tryz.func180,Tryz.ntmps180;go_upto_region 1 with fail
  generalize hw0:World.alloc _ _=v0;have bj:Below w.heap.size w v0:=by rw[<-hw0];exact cg.alloc (by simp<;>omega) _
  have hP:aK v0 (w.heap.size) p:=by rw[<-hw0];exact Has.new _ _
  clear hw0;have c0:=hP.c0 e0;have c1:=hP.c1 e1;have c2:=hP.c2 e2;go_wp2_with (with_reducible first|refine fK rfl _ rfl _ rfl hP Vq ?_|refine jF (by with_unfolding_all rfl) _ rfl _ rfl hP Vq ?_)
  refine az (KT.out _) fun v1 hb1=>?_;replace hP:=hP.on hb1;replace c0:=hP.c0 e0;replace c1:=hP.c1 e1;replace c2:=hP.c2 e2;replace bj:=ai bj hb1;clear hb1;go_upto_region 2 with(with_reducible refine cB rfl _ _ rfl _ _ rfl rfl _ (Has.Vp _) rfl ?_)
  generalize hw2:World.setRow _ _ _=v2;have hb2:Below v1.heap.size v1 v2:=dZ hw2;have hT:Has v2 v1.heap.size (aa t) 26:=by rw[<-hw2];exact(Has.Vp _).row _
  replace hP:=hP.on hb2;replace c0:=hP.c0 e0;replace c1:=hP.c1 e1;replace c2:=hP.c2 e2;replace bj:=ai bj hb2;clear hw2 hb2;generalize v1.heap.size=X3 at hT|-;go_wp2_with (with_reducible first|refine fK rfl _ rfl _ rfl hP Vq ?_|refine jF (by with_unfolding_all rfl) _ rfl _ rfl hP Vq ?_|refine a_ rfl _ rfl _ rfl _ hT rfl ?_|refine fM (by with_unfolding_all rfl) _ rfl _ rfl _ hT rfl ?_)
  refine az (KG.out _) fun v3 hb3=>?_;replace hP:=hP.on hb3;replace hT:=hT.on hb3;replace c0:=hP.c0 e0;replace c1:=hP.c1 e1;replace c2:=hP.c2 e2;replace bj:=ai bj hb3;clear hb3;have M1:=p7 (P:=Tryz.prog) d (s4:Int) mx f6;have M2:=ln (P:=Tryz.prog) mx (s16:Int) (tk:Int) f7;clear f6 f7;go_wp2_with (with_reducible first|refine fK rfl _ rfl _ rfl hP Vq ?_|refine jF (by with_unfolding_all rfl) _ rfl _ rfl hP Vq ?_|refine a_ rfl _ rfl _ rfl _ hT rfl ?_|refine fM (by with_unfolding_all rfl) _ rfl _ rfl _ hT rfl ?_)
  refine az (KS.out _) fun v4 hb4=>?_;replace hP:=hP.on hb4;replace hT:=hT.on hb4;replace c0:=hP.c0 e0;replace c1:=hP.c1 e1;replace c2:=hP.c2 e2;replace bj:=ai bj hb4;clear hb4;have hbel0:=bj;go_upto_region 7 with(with_reducible refine cB rfl _ _ rfl _ _ rfl rfl _ (Has.Vp _) rfl ?_)
  generalize Ym:World.setRow _ _ _=v5;have hb5:Below v4.heap.size v4 v5:=dZ Ym;have hZ:Has v5 v4.heap.size (aa z) 26:=by rw[<-Ym];exact(Has.Vp _).row _
  replace hP:=hP.on hb5;replace hT:=hT.on hb5;replace c0:=hP.c0 e0;replace c1:=hP.c1 e1;replace c2:=hP.c2 e2;replace bj:=ai bj hb5;clear Ym hb5;have HZ:Hid (w.heap.size<=v4.heap.size):=h_ hbel0.size;clear hbel0;generalize v4.heap.size=Xq at hZ HZ|-;clear M1 M2;go_wp2_with (with_reducible first|refine fK rfl _ rfl _ rfl hP Vq ?_|refine jF (by with_unfolding_all rfl) _ rfl _ rfl hP Vq ?_|refine a_ rfl _ rfl _ rfl _ (by assumption) rfl ?_|refine fM (by with_unfolding_all rfl) _ rfl _ rfl _ (by assumption) rfl ?_)
  refine az (KL.out _) fun v6 hb6=>?_;replace hP:=hP.on hb6;replace hT:=hT.on hb6;replace hZ:=hZ.on hb6;replace c0:=hP.c0 e0;replace c1:=hP.c1 e1;replace c2:=hP.c2 e2;replace bj:=ai bj hb6;clear hb6;go_upto_region 8 with(with_reducible refine cB rfl _ _ rfl _ _ rfl rfl _ (Has.Vp _) rfl ?_)
  generalize hw7:World.setRow _ _ _=v7;have Xl:Below v6.heap.size v6 v7:=dZ hw7;have hL:Has v7 v6.heap.size (aa L) 26:=by rw[<-hw7];exact(Has.Vp _).row _
  replace hP:=hP.on Xl;replace hT:=hT.on Xl;replace hZ:=hZ.on Xl;replace c0:=hP.c0 e0;replace c1:=hP.c1 e1;replace c2:=hP.c2 e2;replace bj:=ai bj Xl;clear hw7 Xl;generalize v6.heap.size=ah0 at hL|-;cases so
  case true=>
    (go_wp2_with (with_reducible first|refine fK rfl _ rfl _ rfl hP Vq ?_|refine jF (by with_unfolding_all rfl) _ rfl _ rfl hP Vq ?_|refine a_ rfl _ rfl _ rfl _ (by assumption) rfl ?_|refine fM (by with_unfolding_all rfl) _ rfl _ rfl _ (by assumption) rfl ?_));go_ret;exact⟨by rw[Ww.out];rfl,bj⟩
  go_wp2_with (with_reducible first|refine fK rfl _ rfl _ rfl hP Vq ?_|refine jF (by with_unfolding_all rfl) _ rfl _ rfl hP Vq ?_|refine a_ rfl _ rfl _ rfl _ (by assumption) rfl ?_|refine fM (by with_unfolding_all rfl) _ rfl _ rfl _ (by assumption) rfl ?_)
  refine az (X4.out _) fun v8 Wv=>?_;replace hP:=hP.on Wv;replace hT:=hT.on Wv;replace hZ:=hZ.on Wv;replace hL:=hL.on Wv;replace c0:=hP.c0 e0;replace c1:=hP.c1 e1;replace c2:=hP.c2 e2;replace bj:=ai bj Wv;clear Wv;cases ls
  case true=>
    (go_wp2_with (with_reducible first|refine fK rfl _ rfl _ rfl hP Vq ?_|refine jF (by with_unfolding_all rfl) _ rfl _ rfl hP Vq ?_|refine a_ rfl _ rfl _ rfl _ (by assumption) rfl ?_|refine fM (by with_unfolding_all rfl) _ rfl _ rfl _ (by assumption) rfl ?_));go_ret;exact⟨by rw[Ww.out];rfl,bj⟩
  go_wp2_with (with_reducible first|refine fK rfl _ rfl _ rfl hP Vq ?_|refine jF (by with_unfolding_all rfl) _ rfl _ rfl hP Vq ?_|refine a_ rfl _ rfl _ rfl _ (by assumption) rfl ?_|refine fM (by with_unfolding_all rfl) _ rfl _ rfl _ (by assumption) rfl ?_)
  refine az (KZ.out _) fun v9 VE=>?_;replace hP:=hP.on VE;replace hT:=hT.on VE;replace hZ:=hZ.on VE;replace hL:=hL.on VE;replace c0:=hP.c0 e0;replace c1:=hP.c1 e1;replace c2:=hP.c2 e2;replace bj:=ai bj VE;clear VE;cases zr
  case false=>
    (go_wp2_with (with_reducible first|refine fK rfl _ rfl _ rfl hP Vq ?_|refine jF (by with_unfolding_all rfl) _ rfl _ rfl hP Vq ?_|refine a_ rfl _ rfl _ rfl _ (by assumption) rfl ?_|refine fM (by with_unfolding_all rfl) _ rfl _ rfl _ (by assumption) rfl ?_));refine az (KE.out _) fun v10 VZ=>?_;replace hP:=hP.on VZ;replace hT:=hT.on VZ;replace hZ:=hZ.on VZ;replace hL:=hL.on VZ;replace c0:=hP.c0 e0;replace c1:=hP.c1 e1;replace c2:=hP.c2 e2;replace bj:=ai bj VZ;clear VZ;(go_wp2_with (with_reducible first|refine fK rfl _ rfl _ rfl hP Vq ?_|refine jF (by with_unfolding_all rfl) _ rfl _ rfl hP Vq ?_|refine a_ rfl _ rfl _ rfl _ (by assumption) rfl ?_|refine fM (by with_unfolding_all rfl) _ rfl _ rfl _ (by assumption) rfl ?_));go_ret;exact⟨by rw[Ww.out];rfl,bj⟩
  go_wp2_with (with_reducible first|refine fK rfl _ rfl _ rfl hP Vq ?_|refine jF (by with_unfolding_all rfl) _ rfl _ rfl hP Vq ?_|refine a_ rfl _ rfl _ rfl _ (by assumption) rfl ?_|refine fM (by with_unfolding_all rfl) _ rfl _ rfl _ (by assumption) rfl ?_)
  refine az (KO.out _) fun v10 VZ=>?_;replace hP:=hP.on VZ;replace hT:=hT.on VZ;replace hZ:=hZ.on VZ;replace hL:=hL.on VZ;replace c0:=hP.c0 e0;replace c1:=hP.c1 e1;replace c2:=hP.c2 e2;replace bj:=ai bj VZ;clear VZ;go_upto_region 12 with(with_reducible refine cB rfl _ _ rfl _ _ rfl rfl _ hZ rfl ?_)
  generalize hw:World.setRow _ _ _=Zg;replace hZ:Has Zg Xq (aa 1) 26:=by rw[<-hw];exact hZ.row _
  replace bj:Below w.heap.size w Zg:=by rw[<-hw];exact below_setRow bj HZ.out _
  clear hw;go_wp2_with (with_reducible first|refine a_ rfl _ rfl _ rfl _ hZ rfl ?_|refine fM (by with_unfolding_all rfl) _ rfl _ rfl _ hZ rfl ?_)
  refine az (KE.out _) fun v11 Zh=>?_;replace hZ:=hZ.on Zh;replace bj:=ai bj Zh;clear Zh;go_wp2_with fail
  go_ret;exact⟨by rw[Ww.out];rfl,bj⟩
def Pr.should(p:Pr):Nat:=(p.Vv*p.VG).toNat
def Pr.nl(p:Pr)(b d:Int):Nat:=Go.Proofs.YtkbjaadjnbgfbaaGreatDoor.NN.nl (tg b b) p.should d
def rt(p:Pr)(b d:Int):Int:=if(tok b b&&p.du)=true then(if tg p.lim p.lim<p.nl b d then p.lim else(Nm.enc (max 1 (p.nl b d)):Nat))else p.lim
variable{p:Pr}
theorem RR(h:p.du=true):tok p.lim p.lim=true/\2<=p.Vv/\p.Vv<=64/\1<=p.VG/\p.VG<=10000/\0<=p.Vz/\p.Vz<4294967296:=by unfold Pr.du at h;simp only[dv,fp]at h;obtain⟨⟨⟨⟨⟨⟨h0,h1⟩,h2⟩,h3⟩,h4⟩,h5⟩,h6⟩:=h;exact⟨h0,h1,h2,h3,h4,h5,h6⟩
theorem M8(h:p.du=true):0<p.should/\p.should<=640000/\(p.should:Int)=p.Vv*p.VG:=by
 obtain⟨_,h1,h2,h3,h4,_,_⟩:=RR h;obtain⟨i,hi⟩:=eG (show 0<=p.Vv by omega);obtain⟨s,hs⟩:=eG (show 0<=p.VG by omega);have e:p.should=i*s:=by unfold Pr.should;rw[hi,hs,<-Int.natCast_mul,bU]
 have hp:0<i*s:=Nat.mul_pos (by omega) (by omega);have hle:i*s<=64*10000:=kU (by omega) (by omega);rw[e,hi,hs,<-Int.natCast_mul];exact⟨hp,by omega,rfl⟩
theorem Tx(p:Pr)(ho:p.ok)(b fr VY d:Int)(hd:IntKind.i64.wrap (VY-fr)=d)(w:World):ar 180 #[.agg (aV p),i_ b,i_ fr,i_ VY] w (i_ (rt p b d)):=by
 have hz:=gT ho;have KT:=fun w=>pM b b w
 by_cases h1:tok b b=false
 ·rw[h1]at KT;have e:rt p b d=p.lim:=by unfold rt;rw[h1];rfl
  rw[e];exact IU p hz b fr VY _ (h_ rfl) _ (h_ KT) w
 rw[Bool.not_eq_false]at h1;rw[h1]at KT;have KG:=fun w=>NX p w
 by_cases h2:p.du=false
 ·rw[h2]at KG;have e:rt p b d=p.lim:=by unfold rt;rw[h2,mm];rfl
  rw[e];exact AP p hz b fr VY _ (h_ rfl) _ (h_ KT) (h_ KG) w
 rw[Bool.not_eq_false]at h2;rw[h2]at KG;obtain⟨s0,s1,s2⟩:=M8 h2;have e:rt p b d=if tg p.lim p.lim<p.nl b d then p.lim else(Nm.enc (max 1 (p.nl b d)):Nat):=by unfold rt;rw[h1,h2];rfl
 rw[e];have ha:p.nl b d=tg b b*tk p.should d/p.should:=rfl;obtain⟨sn,hsn⟩:∃sn,sn=p.should:=⟨_,rfl⟩;rw[<-hsn]at s0 s1 s2 ha;have htk:=B_ sn d;have hti:=vn sn d;have KS:=fun w=>Ix (tg b b) (tk sn d) sn (o_ b b) (by omega) (by omega) (by omega) w
 rw[<-ha]at KS;have KL:=fun w=>pM p.lim p.lim w
 have hL:=o_ p.lim p.lim;have f1:IntKind.i64.wrap (p.Vv*p.VG)=(sn:Int):=by rw[<-s2,IntKind.wrap_i64];omega
 have f4:IntKind.i64.wrap ((sn:Int)*4)=((sn*4:Nat):Int):=by rw[IntKind.wrap_i64];omega
 have f5:IntKind.i64.wrap ((sn/4:Nat):Int)=((sn/4:Nat):Int):=by rw[IntKind.wrap_i64];omega
 have f3:(sn:Int)/4=((sn/4:Nat):Int):=by omega
 have f8:IntKind.u64.wrap (tk sn d:Int)=(tk sn d:Int):=by rw[IntKind.wrap_u64];omega
 have f9:IntKind.u64.wrap (sn:Int)=(sn:Int):=by rw[IntKind.wrap_u64];omega
 generalize p.nl b d=q at*;have hzl:q%Nm.ak<Nm.ak:=bq _ (by rw[Nm.dj];exact Nat.two_pow_pos _);refine G_ p hz b fr VY _ (h_ rfl) _ _ _ (h_ rfl) (h_ rfl) (q%Nm.ak) _ _ sn _ _ d f1 hd f3 f4 f5 _ _ rfl hti f8 f9 (decide (Nm.ak<=q)) (decide (tg p.lim p.lim<q%Nm.ak)) (decide (q%Nm.ak=0)) (Nm.enc (if decide (q%Nm.ak=0)=true then 1 else q%Nm.ak):Nat) _ (h_ ?_) (h_ KT) (h_ KG) (h_ KS) (h_ KL) (h_ (Cv _ _ hL hzl _ rfl)) (h_ (BS _ hzl _ rfl)) (h_ (of 1 (by decide))) (h_ (encode _ ?_)) w
 ·by_cases h3:Nm.ak<=q;rw[aj (by omega),aj (.inl (aG h3))];rw[bp (by omega)];by_cases h4:tg p.lim p.lim<q;rw[aj h4,aj (.inr (aG h4))];rw[ah h4,ah (by simp only[fp];omega)];by_cases h5:q=0;rw[aj (aG h5),show max 1 q=1 by omega];rw[ah (by simp only[fp];omega),show max 1 q=q by omega]
 ·split;decide;exact hzl
def c_(i h:Int):Bool:=decide (0<i)&&(h.tmod i==0)
theorem Us(p:Pr)(h i m:Int)(e1:Hid (p.Vv=i))(t1:decide (0<i)=true)(hne:¬i=0)(hm:h.tmod i=m)(w:World):ar 165 #[.agg (aV p),i_ h] w (.bool (m==0)):=by
 have hP:=qo w p;have bj:Bl w (w.alloc (.cells (aV p) 32)):=cu;have c1:=hP.c1 e1;go_enter Tryz.func165,Tryz.ntmps165;go_wp2_with fail
 go_ret;exact⟨rfl,bj⟩
theorem O0(p:Pr)(h i:Int)(e1:Hid (p.Vv=i))(t1:decide (0<i)=false)(w:World):ar 165 #[.agg (aV p),i_ h] w (.bool false):=by
 have hP:=qo w p;have bj:Bl w (w.alloc (.cells (aV p) 32)):=cu;have c1:=hP.c1 e1;go_enter Tryz.func165,Tryz.ntmps165;go_wp2_with fail
 go_ret;exact⟨rfl,bj⟩
theorem Kq(p:Pr)(h:Int)(g:Bool)(hg:c_ p.Vv h=g)(w:World):ar 165 #[.agg (aV p),i_ h] w (.bool g):=by by_cases h0:0<p.Vv;rw[<-hg,c_,aG h0,dG];exact Us p h _ _ (h_ rfl) (aG h0) (by omega) rfl w;rw[<-hg,c_,aE h0,j'];exact O0 p h _ (h_ rfl) (aE h0) w
structure Pt where
 h:Int
 b:Int
 t:Int
 f:Int
 r:Int
def nB(x:Pt):Array Value:=#[i_ x.h,i_ x.b,i_ x.t,i_ x.f,i_ x.r]
theorem wc:(Tryz.prog.info? 139).map (·.size)=some 5:=by kernel_rfl
def k6(w:World)(k:Nat)(x:Pt):Prop:=Has w k (nB x) 139
section
variable{w w':World}{k:Nat}{x:Pt}
theorem k6.on(h:k6 w k x)(hb:Bl w w'):k6 w' k x:=Has.on h hb
theorem k6.c0(h:k6 w k x){z:Int}(e:Hid (x.h=z)):w.cell? ⟨k,0,none⟩=some (i_ z):=(Has.cell h 0).trans (by rw[<-e.out];rfl)
theorem k6.c1(h:k6 w k x){z:Int}(e:Hid (x.b=z)):w.cell? ⟨k,1,none⟩=some (i_ z):=(Has.cell h 1).trans (by rw[<-e.out];rfl)
theorem k6.c2(h:k6 w k x){z:Int}(e:Hid (x.t=z)):w.cell? ⟨k,2,none⟩=some (i_ z):=(Has.cell h 2).trans (by rw[<-e.out];rfl)
theorem k6.c3(h:k6 w k x){z:Int}(e:Hid (x.f=z)):w.cell? ⟨k,3,none⟩=some (i_ z):=(Has.cell h 3).trans (by rw[<-e.out];rfl)
theorem k6.c4(h:k6 w k x){z:Int}(e:Hid (x.r=z)):w.cell? ⟨k,4,none⟩=some (i_ z):=(Has.cell h 4).trans (by rw[<-e.out];rfl)
variable{ops:Array Oper}{rest:List Oper}{o:Oper}{a:Act}{Q:Exit->Act->World->Prop}
theorem Gf(hgd:o.guard=none)(y:Operand)(ho:o.op=.load 139 y)(g:Nat)(hx:a.eval y=af g)(hg:k6 w g x)(hk:wpList Tryz.prog ops Q rest (a.put o.dst (.agg (nB x))) w):wpList Tryz.prog ops Q (o::rest) a w:=
 iQ hgd 139 y ho g hx 139 (nB x) (0,0) _ (Has.out hg) Tryz.underlying139 rfl wc hk
end
theorem F9(p:Pr)(x:Pt)(own:Int)(Vq:(aV p).size=83)(lim VG xh xb xt xf xr d s2 rb:Int)(a s z l:Bool)(e0:Hid (p.lim=lim))(e2:Hid (p.VG=VG))(e4:Hid (p.VD=z))(g0:Hid (x.h=xh))(g1:Hid (x.b=xb))(g2:Hid (x.t=xt))(g3:Hid (x.f=xf))(g4:Hid (x.r=xr))(t0:decide (xh<=0)=a)(f1:IntKind.i64.wrap (own-xt)=d)(f2:IntKind.i64.wrap (2*VG)=s2)(f3:decide (s2<d)=l)(KS:Hid (dx 165 #[.agg (aV p),i_ xh] (.bool s)))(KR:Hid (dx 180 #[.agg (aV p),i_ xb,i_ xf,i_ xt] (i_ rb)))(w:World):ar 154 #[.agg (aV p),.agg (nB x),i_ own] w (i_ (if a=true then lim else if s=true then rb else if z=false then xb else if l=true then lim else xr)):=by
 go_enter Tryz.func154,Tryz.ntmps154;go_upto_region 1 with fail
 generalize hw0:World.alloc _ _=v0;have bj:Below w.heap.size w v0:=by rw[<-hw0];exact(cg.alloc (by simp<;>omega) _).alloc (by simp<;>omega) _
 have hP:aK v0 (w.heap.size) p:=by rw[<-hw0];exact(Has.new _ _).alloc _
 have hX:k6 v0 (w.heap.size+1) x:=by rw[<-hw0];exact Has.Vt _ _ _
 clear hw0;generalize hg1:w.heap.size+1=ab6 at hX|-;clear hg1;have c0:=hP.c0 e0;have c2:=hP.c2 e2;have c4:=hP.c4 e4;have d0:=hX.c0 g0;have d1:=hX.c1 g1;have d2:=hX.c2 g2;have d3:=hX.c3 g3;have d4:=hX.c4 g4;cases a
 case' false=>
  go_wp2_with (with_reducible first|refine fK rfl _ rfl _ rfl hP Vq ?_|refine jF (by with_unfolding_all rfl) _ rfl _ rfl hP Vq ?_|refine Gf rfl _ rfl _ rfl hX ?_|refine Wr (by with_unfolding_all rfl) _ rfl _ rfl hX ?_)
  refine az (KS.out _) fun v1 hb1=>?_;replace hP:=hP.on hb1;replace hX:=hX.on hb1;replace c0:=hP.c0 e0;replace c2:=hP.c2 e2;replace c4:=hP.c4 e4;replace d0:=hX.c0 g0;replace d1:=hX.c1 g1;replace d2:=hX.c2 g2;replace d3:=hX.c3 g3;replace d4:=hX.c4 g4;replace bj:=ai bj hb1;clear hb1;cases s
  case' true=>
   go_wp2_with (with_reducible first|refine fK rfl _ rfl _ rfl hP Vq ?_|refine jF (by with_unfolding_all rfl) _ rfl _ rfl hP Vq ?_|refine Gf rfl _ rfl _ rfl hX ?_|refine Wr (by with_unfolding_all rfl) _ rfl _ rfl hX ?_)
   refine az (KR.out _) fun v2 hb2=>?_;replace hP:=hP.on hb2;replace hX:=hX.on hb2;replace c0:=hP.c0 e0;replace c2:=hP.c2 e2;replace c4:=hP.c4 e4;replace d0:=hX.c0 g0;replace d1:=hX.c1 g1;replace d2:=hX.c2 g2;replace d3:=hX.c3 g3;replace d4:=hX.c4 g4;replace bj:=ai bj hb2;clear hb2
  case' false=>
   cases z
   case' true=>
    cases l
 all_goals
  go_wp2_with (with_reducible first|refine fK rfl _ rfl _ rfl hP Vq ?_|refine jF (by with_unfolding_all rfl) _ rfl _ rfl hP Vq ?_|refine Gf rfl _ rfl _ rfl hX ?_|refine Wr (by with_unfolding_all rfl) _ rfl _ rfl hX ?_)
  go_ret;exact⟨rfl,bj⟩
def nx(p:Pr)(x:Pt)(own:Int):Int:=
 if x.h<=0 then p.lim else if c_ p.Vv x.h=true then rt p x.b (IntKind.i64.wrap (x.t-x.f))else if p.VD=false then x.b else if IntKind.i64.wrap (2*p.VG)<IntKind.i64.wrap (own-x.t)then p.lim else x.r
theorem zM(p:Pr)(ho:p.ok)(x:Pt)(own:Int)(w:World):ar 154 #[.agg (aV p),.agg (nB x),i_ own] w (i_ (nx p x own)):=by have hz:=gT ho;have h:=F9 p x own hz _ _ _ _ _ _ _ _ _ _ _ _ _ _ (h_ rfl) (h_ rfl) (h_ rfl) (h_ rfl) (h_ rfl) (h_ rfl) (h_ rfl) (h_ rfl) rfl rfl rfl rfl (h_ (Kq p x.h _ rfl)) (h_ (Tx p ho x.b x.f x.t _ rfl)) w;simp only[fp]at h;exact h
theorem SH:#[Value.int .u64 1,aH 0,aH 0,aH 0]=aa 1:=rfl
theorem Jo(z:Nat)(hz:z<Nm.ak)(g:Bool)(hg:decide (z=0)=g)(w:World):(binOp .eql 26 (.agg (aa z)) (.agg #[aH 0,aH 0,aH 0,aH 0])).run Tryz.prog w=.ok (.bool g) w:=by rw[<-hg];exact wZ hz (show 0<Nm.ak by decide) w
theorem Cl:(∀(p : Pr)(_hz : (aV p).size=83)(b fr VY lim : Int)(_e0 : Hid (p.lim=lim))(t : Nat)(ok:Bool)(_KT:Hid (dx 106 #[i_ b,i_ lim] (.tuple #[.agg (aa t),.bool ok])))(_KG:Hid (dx 72 #[.agg (aV p)] (.bool false)))(w:World),ar 176 #[.agg (aV p),i_ b,i_ fr,i_ VY] w (i_ lim))/\ (∀(p:Pr)(_hz:(aV p).size=83)(b fr VY lim:Int)(_e0:Hid (p.lim=lim))(t:Nat)(_KT:Hid (dx 106 #[i_ b,i_ lim] (.tuple #[.agg (aa t),.bool false])))(_KG:Hid (dx 72 #[.agg (aV p)] (.bool true)))(w:World),ar 176 #[.agg (aV p),i_ b,i_ fr,i_ VY] w (i_ lim)):=by
  refine⟨fun p hz b fr VY lim e0 t ok KT KG w=>?_,
    fun p hz b fr VY lim e0 t KT KG w=>?_⟩
  all_goals
    have Vq:=hz;go_enter Tryz.func176,Tryz.ntmps176;(go_upto_region 1 with fail);generalize hw0:World.alloc _ _=v0;have bj:Below w.heap.size w v0:=(by rw[<-hw0];exact cg.alloc (by simp<;>omega) _);have hP:aK v0 (w.heap.size) p:=(by rw[<-hw0];exact Has.new _ _);clear hw0;have c0:=hP.c0 e0;(go_wp2_with (with_reducible first|refine fK rfl _ rfl _ rfl hP Vq ?_|refine jF (by with_unfolding_all rfl) _ rfl _ rfl hP Vq ?_));refine az (KT.out _) fun v1 hb1=>?_;replace hP:=hP.on hb1;replace c0:=hP.c0 e0;replace bj:=ai bj hb1;clear hb1;(go_upto_region 2 with(with_reducible refine cB rfl _ _ rfl _ _ rfl rfl _ (Has.Vp _) rfl ?_));generalize hw2:World.setRow _ _ _=v2;have hb2:Below v1.heap.size v1 v2:=dZ hw2;have hT:Has v2 v1.heap.size (aa t) 26:=(by rw[<-hw2];exact(Has.Vp _).row _);replace hP:=hP.on hb2;replace c0:=hP.c0 e0;replace bj:=ai bj hb2;clear hw2 hb2;generalize v1.heap.size=X3 at hT|-;(go_wp2_with (with_reducible first|refine fK rfl _ rfl _ rfl hP Vq ?_|refine jF (by with_unfolding_all rfl) _ rfl _ rfl hP Vq ?_|refine a_ rfl _ rfl _ rfl _ hT rfl ?_|refine fM (by with_unfolding_all rfl) _ rfl _ rfl _ hT rfl ?_));refine az (KG.out _) fun v3 hb3=>?_;replace hP:=hP.on hb3;replace hT:=hT.on hb3;replace c0:=hP.c0 e0;replace bj:=ai bj hb3;clear hb3;(go_wp2_with (with_reducible first|refine fK rfl _ rfl _ rfl hP Vq ?_|refine jF (by with_unfolding_all rfl) _ rfl _ rfl hP Vq ?_|refine a_ rfl _ rfl _ rfl _ hT rfl ?_|refine fM (by with_unfolding_all rfl) _ rfl _ rfl _ hT rfl ?_));go_ret;exact⟨rfl,bj⟩
theorem M0(p : Pr)(hz : (aV p).size=83)(b fr VY lim : Int)(e0 : Hid (p.lim=lim))(t : Nat)(Vv VG:Int)(e1:Hid (p.Vv=Vv))(e2:Hid (p.VG=VG))(z L:Nat)(oL:Bool)(sn s4 s16:Nat)(d:Int)(f1:IntKind.i64.wrap (Vv*VG)=(sn:Int))(f2:IntKind.i64.wrap (VY-fr)=d)(f3:(sn:Int)/4=(s4:Int))(f4:IntKind.i64.wrap ((sn:Int)*4)=(s16:Int))(f5:IntKind.i64.wrap (s4:Int)=(s4:Int))(tk:Nat)(HK3:Hid ((decide (d<(s4:Int))=true/\¬s16<s4/\tk=s4)\/(∃dn:Nat,d=(dn:Int)/\¬dn<s4/\s16<dn/\tk=s16)\/(∃dn:Nat,d=(dn:Int)/\¬dn<s4/\¬s16<dn/\tk=dn)))(so ls zr:Bool)(en res:Int)(Ww:Hid (res=if so=false\/ls=true then lim else en))(KT:Hid (dx 106 #[i_ b,i_ lim] (.tuple #[.agg (aa t),.bool true])))(KG:Hid (dx 72 #[.agg (aV p)] (.bool true)))(KS:Hid (dx 192 #[.agg (aa t),i_ tk,i_ sn] (.tuple #[.agg (aa z),.bool so])))(KL:Hid (dx 106 #[i_ lim,i_ lim] (.tuple #[.agg (aa L),.bool oL])))(X4:Hid (dx 102 #[.agg (aa L),.agg (aa z)] (.bool ls)))(hq:∀w,(binOp .eql 26 (.agg (aa z)) (.agg #[aH 0,aH 0,aH 0,aH 0])).run Tryz.prog w=.ok (.bool zr) w)(KE:Hid (dx 193 #[.agg (aa (if zr=true then 1 else z))] (i_ en)))(w:World):ar 176 #[.agg (aV p),i_ b,i_ fr,i_ VY] w (i_ res):=by
  rcases HK3.out with⟨t1,t2,rfl⟩|⟨dn,rfl,t1,t2,rfl⟩|⟨dn,rfl,t1,t2,rfl⟩
  all_goals
    clear HK3;have Vq:=hz;go_enter Tryz.func176,Tryz.ntmps176;(go_upto_region 1 with fail);generalize hw0:World.alloc _ _=v0;have bj:Below w.heap.size w v0:=(by rw[<-hw0];exact cg.alloc (by simp<;>omega) _);have hP:aK v0 (w.heap.size) p:=(by rw[<-hw0];exact Has.new _ _);clear hw0;have c0:=hP.c0 e0;have c1:=hP.c1 e1;have c2:=hP.c2 e2;(go_wp2_with (with_reducible first|refine fK rfl _ rfl _ rfl hP Vq ?_|refine jF (by with_unfolding_all rfl) _ rfl _ rfl hP Vq ?_));refine az (KT.out _) fun v1 hb1=>?_;replace hP:=hP.on hb1;replace c0:=hP.c0 e0;replace c1:=hP.c1 e1;replace c2:=hP.c2 e2;replace bj:=ai bj hb1;clear hb1;(go_upto_region 2 with(with_reducible refine cB rfl _ _ rfl _ _ rfl rfl _ (Has.Vp _) rfl ?_));generalize hw2:World.setRow _ _ _=v2;have hb2:Below v1.heap.size v1 v2:=dZ hw2;have hT:Has v2 v1.heap.size (aa t) 26:=(by rw[<-hw2];exact(Has.Vp _).row _);replace hP:=hP.on hb2;replace c0:=hP.c0 e0;replace c1:=hP.c1 e1;replace c2:=hP.c2 e2;replace bj:=ai bj hb2;clear hw2 hb2;generalize v1.heap.size=X3 at hT|-;(go_wp2_with (with_reducible first|refine fK rfl _ rfl _ rfl hP Vq ?_|refine jF (by with_unfolding_all rfl) _ rfl _ rfl hP Vq ?_|refine a_ rfl _ rfl _ rfl _ hT rfl ?_|refine fM (by with_unfolding_all rfl) _ rfl _ rfl _ hT rfl ?_));refine az (KG.out _) fun v3 hb3=>?_;replace hP:=hP.on hb3;replace hT:=hT.on hb3;replace c0:=hP.c0 e0;replace c1:=hP.c1 e1;replace c2:=hP.c2 e2;replace bj:=ai bj hb3;clear hb3;(go_wp2_with (with_reducible first|refine fK rfl _ rfl _ rfl hP Vq ?_|refine jF (by with_unfolding_all rfl) _ rfl _ rfl hP Vq ?_|refine a_ rfl _ rfl _ rfl _ hT rfl ?_|refine fM (by with_unfolding_all rfl) _ rfl _ rfl _ hT rfl ?_));refine az (KS.out _) fun v4 hb4=>?_;replace hP:=hP.on hb4;replace hT:=hT.on hb4;replace c0:=hP.c0 e0;replace c1:=hP.c1 e1;replace c2:=hP.c2 e2;replace bj:=ai bj hb4;clear hb4;have hbel0:=bj;(go_upto_region 11 with(with_reducible refine cB rfl _ _ rfl _ _ rfl rfl _ (Has.Vp _) rfl ?_));generalize Ym:World.setRow _ _ _=v5;have hb5:Below v4.heap.size v4 v5:=dZ Ym;have hZ:Has v5 v4.heap.size (aa z) 26:=(by rw[<-Ym];exact(Has.Vp _).row _);replace hP:=hP.on hb5;replace hT:=hT.on hb5;replace c0:=hP.c0 e0;replace c1:=hP.c1 e1;replace c2:=hP.c2 e2;replace bj:=ai bj hb5;clear Ym hb5;have HZ:Hid (w.heap.size<=v4.heap.size):=h_ hbel0.size;clear hbel0;generalize v4.heap.size=Xq at hZ HZ|-;(go_wp2_with (with_reducible first|refine fK rfl _ rfl _ rfl hP Vq ?_|refine jF (by with_unfolding_all rfl) _ rfl _ rfl hP Vq ?_|refine a_ rfl _ rfl _ rfl _ (by assumption) rfl ?_|refine fM (by with_unfolding_all rfl) _ rfl _ rfl _ (by assumption) rfl ?_));refine az (KL.out _) fun v6 hb6=>?_;replace hP:=hP.on hb6;replace hT:=hT.on hb6;replace hZ:=hZ.on hb6;replace c0:=hP.c0 e0;replace c1:=hP.c1 e1;replace c2:=hP.c2 e2;replace bj:=ai bj hb6;clear hb6;(go_upto_region 12 with(with_reducible refine cB rfl _ _ rfl _ _ rfl rfl _ (Has.Vp _) rfl ?_));generalize hw7:World.setRow _ _ _=v7;have Xl:Below v6.heap.size v6 v7:=dZ hw7;have hL:Has v7 v6.heap.size (aa L) 26:=(by rw[<-hw7];exact(Has.Vp _).row _);replace hP:=hP.on Xl;replace hT:=hT.on Xl;replace hZ:=hZ.on Xl;replace c0:=hP.c0 e0;replace c1:=hP.c1 e1;replace c2:=hP.c2 e2;replace bj:=ai bj Xl;clear hw7 Xl;generalize v6.heap.size=ah0 at hL|-;cases so
    case false=>
      (go_wp2_with (with_reducible first|refine fK rfl _ rfl _ rfl hP Vq ?_|refine jF (by with_unfolding_all rfl) _ rfl _ rfl hP Vq ?_|refine a_ rfl _ rfl _ rfl _ (by assumption) rfl ?_|refine fM (by with_unfolding_all rfl) _ rfl _ rfl _ (by assumption) rfl ?_));go_ret;exact⟨by rw[Ww.out];rfl,bj⟩
    (go_wp2_with (with_reducible first|refine fK rfl _ rfl _ rfl hP Vq ?_|refine jF (by with_unfolding_all rfl) _ rfl _ rfl hP Vq ?_|refine a_ rfl _ rfl _ rfl _ (by assumption) rfl ?_|refine fM (by with_unfolding_all rfl) _ rfl _ rfl _ (by assumption) rfl ?_));refine az (X4.out _) fun v8 Wv=>?_;replace hP:=hP.on Wv;replace hT:=hT.on Wv;replace hZ:=hZ.on Wv;replace hL:=hL.on Wv;replace c0:=hP.c0 e0;replace c1:=hP.c1 e1;replace c2:=hP.c2 e2;replace bj:=ai bj Wv;clear Wv;cases ls
    case true=>
      (go_wp2_with (with_reducible first|refine fK rfl _ rfl _ rfl hP Vq ?_|refine jF (by with_unfolding_all rfl) _ rfl _ rfl hP Vq ?_|refine a_ rfl _ rfl _ rfl _ (by assumption) rfl ?_|refine fM (by with_unfolding_all rfl) _ rfl _ rfl _ (by assumption) rfl ?_));go_ret;exact⟨by rw[Ww.out];rfl,bj⟩
    cases zr
    case false=>
      (go_wp2_with (with_reducible first|refine fK rfl _ rfl _ rfl hP Vq ?_|refine jF (by with_unfolding_all rfl) _ rfl _ rfl hP Vq ?_|refine a_ rfl _ rfl _ rfl _ (by assumption) rfl ?_|refine fM (by with_unfolding_all rfl) _ rfl _ rfl _ (by assumption) rfl ?_));refine az (KE.out _) fun v9 VE=>?_;replace hP:=hP.on VE;replace hT:=hT.on VE;replace hZ:=hZ.on VE;replace hL:=hL.on VE;replace c0:=hP.c0 e0;replace c1:=hP.c1 e1;replace c2:=hP.c2 e2;replace bj:=ai bj VE;clear VE;(go_wp2_with (with_reducible first|refine fK rfl _ rfl _ rfl hP Vq ?_|refine jF (by with_unfolding_all rfl) _ rfl _ rfl hP Vq ?_|refine a_ rfl _ rfl _ rfl _ (by assumption) rfl ?_|refine fM (by with_unfolding_all rfl) _ rfl _ rfl _ (by assumption) rfl ?_));go_ret;exact⟨by rw[Ww.out];rfl,bj⟩
    (go_upto_region 16 with(with_reducible first|refine fK rfl _ rfl _ rfl hP Vq ?_|refine jF (by with_unfolding_all rfl) _ rfl _ rfl hP Vq ?_|refine a_ rfl _ rfl _ rfl _ (by assumption) rfl ?_|refine fM (by with_unfolding_all rfl) _ rfl _ rfl _ (by assumption) rfl ?_|refine qY rfl _ _ rfl _ 1 _ rfl rfl SH _ hZ rfl ?_));generalize hw:World.setRow _ _ _=Zg;replace hZ:Has Zg Xq (aa 1) 26:=(by rw[<-hw];exact hZ.row _);replace bj:Below w.heap.size w Zg:=(by rw[<-hw];exact below_setRow bj HZ.out _);clear hw;(go_wp2_with (with_reducible first|refine a_ rfl _ rfl _ rfl _ hZ rfl ?_|refine fM (by with_unfolding_all rfl) _ rfl _ rfl _ hZ rfl ?_));refine az (KE.out _) fun v9 VE=>?_;replace hZ:=hZ.on VE;replace bj:=ai bj VE;clear VE;(go_wp2_with fail);go_ret;exact⟨by rw[Ww.out];rfl,bj⟩
def y6(p:Pr)(b d:Int):Int:=if tok b p.lim=true then rt p b d else p.lim
variable{p:Pr}
theorem Lu{b d:Int}(h:tok b p.lim=true):y6 p b d=rt p b d:=aj h
theorem RS(p:Pr)(ho:p.ok)(b fr VY d:Int)(hd:IntKind.i64.wrap (VY-fr)=d)(w:World):ar 176 #[.agg (aV p),i_ b,i_ fr,i_ VY] w (i_ (y6 p b d)):=by
 have hz:=gT ho;have KT:=fun w=>zg b p.lim w
 have KG:=fun w=>qD p w
 by_cases h2:p.du=false
 ·rw[h2]at KG;have e:y6 p b d=p.lim:=by unfold y6 rt;rw[h2,mm];simp
  rw[e];exact Cl.1 p hz b fr VY _ (h_ rfl) _ _ (h_ KT) (h_ KG) w
 rw[Bool.not_eq_false]at h2;rw[h2]at KG;by_cases h1:tok b p.lim=false
 ·rw[h1]at KT;have e:y6 p b d=p.lim:=by unfold y6;rw[h1];rfl
  rw[e];exact Cl.2 p hz b fr VY _ (h_ rfl) _ (h_ KT) (h_ KG) w
 rw[Bool.not_eq_false]at h1;rw[h1]at KT;obtain⟨s0,s1,s2⟩:=M8 h2;have hbb:=J9 h1;have e:y6 p b d=if tg p.lim p.lim<p.nl b d then p.lim else(Nm.enc (max 1 (p.nl b d)):Nat):=by unfold y6 rt;rw[h1,hbb,h2];rfl
 rw[e]
 have ha:p.nl b d=tg b p.lim*tk p.should d/p.should:=by
  show tg b b*tk p.should d/p.should=_;rw[vl hbb,vl h1]
 obtain⟨sn,hsn⟩:∃sn,sn=p.should:=⟨_,rfl⟩;rw[<-hsn]at s0 s1 s2 ha;have htk:=B_ sn d;have hti:=vn sn d;have htb:=o_ b p.lim;have KL:=fun w=>zg p.lim p.lim w
 have hL:=o_ p.lim p.lim;have f1:IntKind.i64.wrap (p.Vv*p.VG)=(sn:Int):=by rw[<-s2,IntKind.wrap_i64];omega
 have f4:IntKind.i64.wrap ((sn:Int)*4)=((sn*4:Nat):Int):=by rw[IntKind.wrap_i64];omega
 have f5:IntKind.i64.wrap ((sn/4:Nat):Int)=((sn/4:Nat):Int):=by rw[IntKind.wrap_i64];omega
 have f3:(sn:Int)/4=((sn/4:Nat):Int):=by omega
 have KS:=fun w=>yL (tg b p.lim) (tk sn d) sn htb (by omega) s0 (by omega) w
 rw[<-ha]at KS;generalize p.nl b d=q at*;have hzl:q%Nm.ak<Nm.ak:=bq _ (by rw[Nm.dj];exact Nat.two_pow_pos _);refine M0 p hz b fr VY _ (h_ rfl) _ _ _ (h_ rfl) (h_ rfl) (q%Nm.ak) _ _ sn (sn/4) (sn*4) d f1 hd f3 f4 f5 (tk sn d) (h_ ?_) (decide (q<Nm.ak)) (decide (tg p.lim p.lim<q%Nm.ak)) (decide (q%Nm.ak=0)) (Nm.enc (if decide (q%Nm.ak=0)=true then 1 else q%Nm.ak):Nat) _ (h_ ?_) (h_ KT) (h_ KG) (h_ KS) (h_ KL) (h_ (sf _ _ hL hzl)) (Jo _ hzl _ rfl) (h_ (T1 _ ?_)) w
 ·by_cases c1:d<((sn/4:Nat):Int);exact .inl ⟨aG c1,by omega,by omega⟩;obtain⟨dn,hdn⟩:=eG (show 0<=d by omega);subst hdn;by_cases c2:sn*4<dn;exact .inr (.inl ⟨dn,rfl,by omega,c2,by omega⟩);exact .inr (.inr ⟨dn,rfl,by omega,c2,by omega⟩)
 ·by_cases h3:q<Nm.ak;rw[bp h3];by_cases h4:tg p.lim p.lim<q;rw[aj h4,aj (.inr (aG h4))];rw[ah h4,ah (by simp only[fp,lk];omega)];by_cases h5:q=0;rw[aj (aG h5),show max 1 q=1 by omega];rw[ah (by simp only[fp];omega),show max 1 q=q by omega];rw[aj (by omega),aj (.inl (aE h3))]
 ·split;decide;exact hzl
def tR(p:Pr)(x:Pt)(own:Int):Int:=
 if x.h<=0 then p.lim else if c_ p.Vv x.h=true then y6 p x.b (IntKind.i64.wrap (x.t-x.f))else if p.VD=false then x.b else if IntKind.i64.wrap (2*p.VG)<IntKind.i64.wrap (own-x.t)then p.lim else x.r
theorem G6{x:Pt}{own:Int}(h:c_ p.Vv x.h=true->0<x.h->tok x.b p.lim=true):tR p x own=nx p x own:=by unfold tR nx;by_cases h0:x.h<=0;rw[aj h0,aj h0];rw[ah h0,ah h0];by_cases h1:c_ p.Vv x.h=true;rw[aj h1,aj h1,Lu (h h1 (by omega))];rw[ah h1,ah h1]
theorem ya(p:Pr)(Vq:(aV p).size=83)(xh xb xt xf xr own Vv lim VG d2 s2 m rb:Int)(a i m0 z l:Bool)(e0:Hid (p.lim=lim))(e1:Hid (p.Vv=Vv))(e2:Hid (p.VG=VG))(e4:Hid (p.VD=z))(t0:decide (xh<=0)=a)(ti:decide (0<Vv)=i)(hm:xh.tmod Vv=m)(tm:(m==0)=m0)(g1:IntKind.i64.wrap (own-xt)=d2)(g2:IntKind.i64.wrap (2*VG)=s2)(tl:decide (s2<d2)=l)(KR:Hid (dx 176 #[.agg (aV p),i_ xb,i_ xf,i_ xt] (i_ rb)))(w:World):ar 147 #[.agg (aV p),i_ xh,i_ xb,i_ xt,i_ xf,i_ xr,i_ own] w (i_ (if a=true then lim else if(i&&m0)=true then rb else if z=false then xb else if l=true then lim else xr)):=by
 go_enter Tryz.func147,Tryz.ntmps147;go_upto_region 1 with fail
 generalize hw0:World.alloc _ _=v0;have bj:Bl w v0:=by rw[<-hw0];exact cg.alloc (by simp<;>omega) _
 have hP:aK v0 (w.heap.size) p:=by rw[<-hw0];exact Has.new _ _
 clear hw0;have c0:=hP.c0 e0;have c1:=hP.c1 e1;have c2:=hP.c2 e2;have c4:=hP.c4 e4;cases a
 case' false=>
  cases i
  case' true=>
   have hne:¬Vv=0:=by have:=dX ti;omega
   cases m0
   case' true=>
    (go_wp2_with (with_reducible first|refine fK rfl _ rfl _ rfl hP Vq ?_|refine jF (by with_unfolding_all rfl) _ rfl _ rfl hP Vq ?_));refine az (KR.out _) fun v1 hb1=>?_;replace hP:=hP.on hb1;replace c0:=hP.c0 e0;replace c1:=hP.c1 e1;replace c2:=hP.c2 e2;replace c4:=hP.c4 e4;replace bj:=ai bj hb1;clear hb1
 all_goals cases z
 all_goals cases l
 all_goals
  go_wp2_with (with_reducible first|refine fK rfl _ rfl _ rfl hP Vq ?_|refine jF (by with_unfolding_all rfl) _ rfl _ rfl hP Vq ?_)
  go_ret;exact⟨rfl,bj⟩
theorem Nx(p:Pr)(ho:p.ok)(x:Pt)(own:Int)(w:World):ar 147 #[.agg (aV p),i_ x.h,i_ x.b,i_ x.t,i_ x.f,i_ x.r,i_ own] w (i_ (tR p x own)):=by obtain⟨xh,xb,xt,xf,xr⟩:=x;have h:=ya p (gT ho) xh xb xt xf xr own _ _ _ _ _ _ _ _ _ _ _ _ (h_ rfl) (h_ rfl) (h_ rfl) (h_ rfl) rfl rfl rfl rfl rfl rfl rfl (h_ (RS p ho xb xf xt _ rfl)) w;simp only[fp]at h;exact h
def Ig:List Value:=.slice none 0 0 :: .slice none 0 0::(List.replicate 8 (aH 0)++(i_ 0::(List.replicate 64 (bf)++[i_ 0,i_ 0,i_ 0])))
def Bq:Pr:=⟨545259519,4,10,0,false,Ig⟩
theorem wR(a b c d:Int)(e:Bool):Pr.ok ⟨a,b,c,d,e,Ig⟩:=show Ig.length=78 from by decide
theorem yc(a b c d:Int)(e:Bool):Pr.one ⟨a,b,c,d,e,Ig⟩:=by intro v hv;simp only[Ig,cJ,dL,List.mem_replicate,List.not_mem_nil,or_false]at hv;rcases hv with rfl|rfl|⟨_,rfl⟩|rfl|⟨_,rfl⟩|rfl|rfl|rfl<;>rfl
theorem MQ:Tryz.prog.built 32 [(0,i_ 545259519),(1,i_ 4),(2,i_ 10)]=some (aV Bq):=by kernel_rfl
section
variable{w:World}{ops:Array Oper}{rest:List Oper}{o o2 o3:Oper}{a:Act}{Q:Exit->Act->World->Prop}
theorem Ku(hgd:o.guard=none)(ho:o.op=.build 32 #[(0,.const (i_ 545259519)),(1,.const (i_ 4)),(2,.const (i_ 10))])(hk:wpList Tryz.prog ops Q rest (a.put o.dst (.agg (aV Bq))) w):wpList Tryz.prog ops Q (o::rest) a w:=
 gk hgd fun _ hK=>by
  unfold Oper.wp execOp;simp only[ho,aB];rw[show(#[(0,.const (i_ 545259519)),(1,.const (i_ 4)),(2,.const (i_ 10))]:Array (Nat×Operand)).map (fun(i,x)=>(i,a.eval x))=#[(0,i_ 545259519),(1,i_ 4),(2,i_ 10)] by simp[Act.eval],gw w 32 _ _ MQ];exact hK _ _ hk
end
