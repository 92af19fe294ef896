import Derived.Test.YtkbjaadjnbgfbaaGreatDoorCBunQ24
import Derived.Test.YtkbjaadjnbgfbaaGreatDoorCBunQ27
set_option maxRecDepth 100000
set_option maxHeartbeats 8000000
namespace Go.Proofs.YtkbjaadjnbgfbaaGreatDoor
open Go.RowKit
namespace NN
open Rz
def bG(k O x y:Nat)(l:Array Bool)(w:World):Prop:=(l.getD k false=false->Has w O (aa x) 26)/\(l.getD k false=true->Has w O (aa y) 26)
variable{k O x y i:Nat}{l:Array Bool}{w w':World}
theorem bG.now(h:bG k O x y l w)(hi:i<l.size)(hik:i≠k)(ha:(l.setIfInBounds i true).getD k false=false):Has w O (aa x) 26:=
 h.1 (by rw[gi _ _ _ hi,if_neg hik]at ha;exact ha)
theorem bG.pre(h:bG k O x y l w)(hi:i<l.size)(hik:i≠k)(ha:(l.setIfInBounds i true).getD k false=false)(hw:Has w O (aa x) 26->Has w' O (aa x) 26):bG k O x y (l.setIfInBounds i true) w':=⟨fun _=>hw (h.now hi hik ha),fun hk=>by rw[ha]at hk;cases hk⟩
theorem bG.keep(h:bG k O x y l w)(hi:i<l.size)(hik:i≠k:=by decide):bG k O x y (l.setIfInBounds i true) w:=⟨fun hk=>h.1 (by rw[gi _ _ _ hi,if_neg hik]at hk;exact hk),fun hk=>h.2 (by rw[gi _ _ _ hi,if_neg hik]at hk;exact hk)⟩
theorem NL(a:Act)(n:Nat)(u:Nat->Value)(hs:a.tmps.size=n)(hd:a.defers=[])(hu:∀t,u t=a.eval (.tmp t)):a=⟨((List.range n).map u).toArray,[]⟩:=by obtain⟨tm,df⟩:=a;obtain rfl:df=[]:=hd;congr 1;apply Array.ext;simpa using hs;intro i h1 h2;simp only[List.getElem_toArray,List.getElem_map,List.getElem_range,hu];simp[Act.eval,Array.getD_eq_getD_getElem?,h1]
structure lL (w wr:World) (R:Nat):Prop where
 below:Bl w wr
 r:Has wr R (aa 0) 26
theorem lL.on{wr:World}{R:Nat}(h:lL w wr R)(hb:Bl wr w'):lL w w' R:=⟨af h.below hb,h.r.on hb⟩
def n_(o1 r a m1 b m s:Nat)(g2:Bool):Nat->Value->Prop
 | 0,v=>v=.agg (aa o1)
 | 1,v=>v=ay (r:Int)
 | 2,v=>v=ay (a:Int)
 | 3,v=>v=ay (m1:Int)
 | 4,v=>v=ay (b:Int)
 | 5,v=>v=ay (m:Int)
 | 6,v=>v=.agg (aa m)
 | 7,v=>v=.tuple #[.agg (aa s),.bool g2]
 | 8,v=>v=.tuple #[.agg (aa s),.bool g2]
 | 9,v=>v=.agg (aa s)
 | 10,v=>v=.bool g2
 | 12,v=>v=.bool g2
 | _,_=>True
theorem yt:(∀(n c b q r o1 m1 m s:Nat)(g2:Bool)(_f1:IntKind.u64.wrap ((r:Int)*(c:Int))=(m1:Int))(_f2:IntKind.u64.wrap ((m1:Int)/(b:Int))=(m:Int))(_f3:(b:Int)≠0)(_KO:Hid (bU 214 #[.agg (aa n),ay (b:Int)] (.tuple #[.agg (aa q),ay (r:Int)])))(_KT:Hid (bU 215 #[.agg (aa q),ay (c:Int)] (.tuple #[.agg (aa o1),.bool true])))(_KF:Hid (bU 187 #[ay (m:Int)] (.agg (aa m))))(_KA:Hid (bU 184 #[.agg (aa o1),.agg (aa m)] (.tuple #[.agg (aa s),.bool g2])))(w:World),an 199 #[.agg (aa n),ay (c:Int),ay (b:Int)] w (.tuple #[.agg (aa s),.bool true]))/\ (∀(n c b q r o1 m1 m s:Nat)(g2:Bool)(_f1:IntKind.u64.wrap ((r:Int)*(c:Int))=(m1:Int))(_f2:IntKind.u64.wrap ((m1:Int)/(b:Int))=(m:Int))(_f3:(b:Int)≠0)(_KO:Hid (bU 214 #[.agg (aa n),ay (b:Int)] (.tuple #[.agg (aa q),ay (r:Int)])))(_KT:Hid (bU 215 #[.agg (aa q),ay (c:Int)] (.tuple #[.agg (aa o1),.bool false])))(_KF:Hid (bU 187 #[ay (m:Int)] (.agg (aa m))))(_KA:Hid (bU 184 #[.agg (aa o1),.agg (aa m)] (.tuple #[.agg (aa s),.bool g2])))(w:World),an 199 #[.agg (aa n),ay (c:Int),ay (b:Int)] w (.tuple #[.agg (aa s),.bool g2])):=by
 refine⟨fun n c b q r o1 m1 m s g2 f1 f2 f3 KO KT KF KA w=>?_,
  fun n c b q r o1 m1 m s g2 f1 f2 f3 KO KT KF KA w=>?_⟩
 all_goals
  go_enter Tryz.func199,Tryz.ntmps199;go_upto_region 1 with fail
  generalize hw0:World.alloc _ _=v0;have bj:Below w.heap.size w v0:=by rw[<-hw0];exact(a_.alloc (by simp<;>omega) _).alloc (by simp<;>omega) _
  have hN:Has v0 (w.heap.size) (aa n) 26:=by rw[<-hw0];exact(Has.new _ _).alloc _
  have hR:Has v0 (w.heap.size+1) (aa 0) 26:=by rw[<-hw0];exact Has.Rg _ (aa 0) _
  have Rl:Hid (w.heap.size<=w.heap.size+1):=h_ (by omega);clear hw0;generalize hg1:w.heap.size+1=RA at hR Rl|-;clear hg1;go_wp2_with (first|fail|(with_reducible refine aJ rfl _ rfl _ rfl _ (by assumption) rfl ?_))
  refine au (KO.out _) fun v1 hb1=>?_;replace hN:=hN.on hb1;replace hR:=hR.on hb1;replace bj:=af bj hb1;clear hb1;go_upto_region 2 with(with_reducible refine aZ rfl _ _ rfl _ _ rfl rfl _ (Has.Rb _) rfl ?_)
  generalize hw2:World.setRow _ _ _=v2;have hb2:Below v1.heap.size v1 v2:=cG hw2;have hQ:Has v2 v1.heap.size (aa q) 26:=by rw[<-hw2];exact(Has.Rb _).row _
  replace hN:=hN.on hb2;replace hR:=hR.on hb2;replace bj:=af bj hb2;clear hw2 hb2;generalize v1.heap.size=X_ at hQ|-;go_wp2_with (first|fail|(with_reducible refine aJ rfl _ rfl _ rfl _ (by assumption) rfl ?_))
  refine au (KT.out _) fun v3 hb3=>?_;replace hN:=hN.on hb3;replace hR:=hR.on hb3;replace hQ:=hQ.on hb3;replace bj:=af bj hb3;clear hb3;have hbel0:=bj;have Wk:=hR.lt;go_upto_region 3 with(with_reducible refine aZ rfl _ _ rfl _ _ rfl rfl _ (Has.Rb _) rfl ?_)
  generalize hw4:World.setRow _ _ _=v4;have hb4:Below v3.heap.size v3 v4:=cG hw4;have hO:Has v4 v3.heap.size (aa o1) 26:=by rw[<-hw4];exact(Has.Rb _).row _
  replace hN:=hN.on hb4;replace hR:=hR.on hb4;replace hQ:=hQ.on hb4;replace bj:=af bj hb4;clear hw4 hb4;have Wl:Hid (w.heap.size<=v3.heap.size):=h_ hbel0.size;have hne:Hid (RA≠v3.heap.size):=h_ (by have:=Wk;omega);clear hbel0 Wk;generalize v3.heap.size=RE at hO Wl hne|-;have hT:lL w v4 RA:=⟨bj,hR⟩;refine Rz.ig (by kernel_rfl) (fun w'=>lL w w' RA) (fun i v _=>n_ o1 r c m1 b m s g2 i v) (fun l _ w'=>bG 11 RE o1 s l w') (fun _ _=>True) (fun _ _=>trivial) (fun _ _ _ _ _ _ h=>h) (by kernel_rfl) ⟨hT.below.drew,hT.r.drew⟩ ?_ ?_ ?_;exact fun l hl=>⟨fun _=>hO.drew,fun hk=>(by rw[hl]at hk;cases hk)⟩
  ·intro i o lz a wx ho hn dq Z;have hC:=Z.c;have hI:=Z.i;have hi:i<13:=(Array.getElem?_eq_some_iff.1 ho).1;obtain rfl|rfl|rfl|rfl|rfl|rfl|rfl|rfl|rfl|rfl|rfl|rfl|rfl:i=0\/i=1\/i=2\/i=3\/i=4\/i=5\/i=6\/i=7\/i=8\/i=9\/i=10\/i=11\/i=12:=by omega
   all_goals obtain rfl:=Option.some.inj ho
   exact dQ (C:=fun w'=>lL w w' RA) (S:=fun _ _=>True) (R:=fun v _=>n_ o1 r c m1 b m s g2 0 v) (J:=fun _ w'=>bG 11 RE o1 s (lz.setIfInBounds 0 true) w') (fun _ _=>trivial) hC (ak rfl) (fV rfl (Z.old' 10) (hI.now (by rw[Z.size];decide) (by decide) (cK Z hn 8))) rfl (hI.pre (by rw[Z.size];decide) (by decide) (cK Z hn 8) (fun h=>h));exact dQ (C:=fun w'=>lL w w' RA) (S:=fun _ _=>True) (R:=fun v _=>n_ o1 r c m1 b m s g2 1 v) (J:=fun _ w'=>bG 11 RE o1 s (lz.setIfInBounds 1 true) w') (fun _ _=>trivial) hC (ak rfl) (dk rfl) (Z.old' 9) (hI.pre (by rw[Z.size];decide) (by decide) (cK Z hn 8) (fun h=>h));exact dQ (C:=fun w'=>lL w w' RA) (S:=fun _ _=>True) (R:=fun v _=>n_ o1 r c m1 b m s g2 2 v) (J:=fun _ w'=>bG 11 RE o1 s (lz.setIfInBounds 2 true) w') (fun _ _=>trivial) hC (ak rfl) (dk rfl) (Z.old' 1) (hI.pre (by rw[Z.size];decide) (by decide) (cK Z hn 8) (fun h=>h));exact dQ (C:=fun w'=>lL w w' RA) (S:=fun _ _=>True) (R:=fun v _=>n_ o1 r c m1 b m s g2 3 v) (J:=fun _ w'=>bG 11 RE o1 s (lz.setIfInBounds 3 true) w') (fun _ _=>trivial) hC (ak rfl) (K7 rfl (ar Z dq 1 27) (ar Z dq 2 28) (m1:Int) f1) rfl (hI.pre (by rw[Z.size];decide) (by decide) (cK Z hn 8) (fun h=>h));exact dQ (C:=fun w'=>lL w w' RA) (S:=fun _ _=>True) (R:=fun v _=>n_ o1 r c m1 b m s g2 4 v) (J:=fun _ w'=>bG 11 RE o1 s (lz.setIfInBounds 4 true) w') (fun _ _=>trivial) hC (ak rfl) (dk rfl) (Z.old' 2) (hI.pre (by rw[Z.size];decide) (by decide) (cK Z hn 8) (fun h=>h));exact dQ (C:=fun w'=>lL w w' RA) (S:=fun _ _=>True) (R:=fun v _=>n_ o1 r c m1 b m s g2 5 v) (J:=fun _ w'=>bG 11 RE o1 s (lz.setIfInBounds 5 true) w') (fun _ _=>trivial) hC (ak rfl) (DD rfl (ar Z dq 3 29) (ar Z dq 4 30) f3 (m:Int) f2) rfl (hI.pre (by rw[Z.size];decide) (by decide) (cK Z hn 8) (fun h=>h))
   ·have e31:a.eval (.tmp 31)=ay (m:Int):=Z.got 5 _ 31 rfl (dq ⟨5,.data⟩ (by simp) rfl) rfl;exact iJ (C:=fun w'=>lL w w' RA) (S:=fun _ _=>True) (R:=fun v _=>n_ o1 r c m1 b m s g2 6 v) (J:=fun _ w'=>bG 11 RE o1 s (lz.setIfInBounds 6 true) w') (ak rfl) (f:=187) (args:=#[a.eval (.tmp 31)]) (by kernel_rfl) (by rw[e31];exact KF.out wx) (fun w' hb=>⟨hC.on hb,trivial,rfl,hI.pre (by rw[Z.size];decide) (by decide) (cK Z hn 8) (fun h=>h.on hb)⟩)
   ·have e26:a.eval (.tmp 26)=.agg (aa o1):=Z.got 0 _ 26 rfl (dq ⟨0,.data⟩ (by simp) rfl) rfl;have e32:a.eval (.tmp 32)=.agg (aa m):=Z.got 6 _ 32 rfl (dq ⟨6,.data⟩ (by simp) rfl) rfl;exact iJ (C:=fun w'=>lL w w' RA) (S:=fun _ _=>True) (R:=fun v _=>n_ o1 r c m1 b m s g2 7 v) (J:=fun _ w'=>bG 11 RE o1 s (lz.setIfInBounds 7 true) w') (ak rfl) (f:=184) (args:=#[a.eval (.tmp 26),a.eval (.tmp 32)]) (by kernel_rfl) (by rw[e26,e32];exact KA.out wx) (fun w' hb=>⟨hC.on hb,trivial,rfl,hI.pre (by rw[Z.size];decide) (by decide) (cK Z hn 8) (fun h=>h.on hb)⟩)
   exact dQ (C:=fun w'=>lL w w' RA) (S:=fun _ _=>True) (R:=fun v _=>n_ o1 r c m1 b m s g2 8 v) (J:=fun _ w'=>bG 11 RE o1 s (lz.setIfInBounds 8 true) w') (fun _ _=>trivial) hC (ak rfl) (dk rfl) (ar Z dq 7 33) (hI.pre (by rw[Z.size];decide) (by decide) (cK Z hn 8) (fun h=>h));exact dQ (C:=fun w'=>lL w w' RA) (S:=fun _ _=>True) (R:=fun v _=>n_ o1 r c m1 b m s g2 9 v) (J:=fun _ w'=>bG 11 RE o1 s (lz.setIfInBounds 9 true) w') (fun _ _=>trivial) hC (ak rfl) (er rfl (ar Z dq 8 25) rfl) rfl (hI.pre (by rw[Z.size];decide) (by decide) (cK Z hn 8) (fun h=>h));exact dQ (C:=fun w'=>lL w w' RA) (S:=fun _ _=>True) (R:=fun v _=>n_ o1 r c m1 b m s g2 10 v) (J:=fun _ w'=>bG 11 RE o1 s (lz.setIfInBounds 10 true) w') (fun _ _=>trivial) hC (ak rfl) (er rfl (ar Z dq 8 25) rfl) rfl (hI.keep (by rw[Z.size];decide) (by decide));have hO:=hI.1 (by exact hn);exact jo (C:=fun w'=>lL w w' RA) (S:=fun _ _=>True) (R:=fun v _=>n_ o1 r c m1 b m s g2 11 v) (J:=fun _ w'=>bG 11 RE o1 s (lz.setIfInBounds 11 true) w') (ak rfl) (js rfl (Z.old' 10) (ar Z dq 9 34) hO rfl) ⟨below_setRow hC.below Wl.out _,hC.r.Ra _ _ hne.out⟩ trivial trivial ⟨fun hk=>(by rw[gi _ _ _ (by rw[Z.size];decide),if_pos rfl]at hk;cases hk),fun _=>hO.row _⟩;exact dQ (C:=fun w'=>lL w w' RA) (S:=fun _ _=>True) (R:=fun v _=>n_ o1 r c m1 b m s g2 12 v) (J:=fun _ w'=>bG 11 RE o1 s (lz.setIfInBounds 12 true) w') (fun _ _=>trivial) hC (ak rfl) (eT rfl) (ar Z dq 10 35) (hI.keep (by rw[Z.size];decide) (by decide))
  ·intro lz a wx hall Z;have hC:=Z.c;have hO2:=Z.i.2 (hall 11 (by decide));have hR2:=hC.r;have R4:=hC.below;obtain⟨u,hu⟩:∃u:Nat->Value,∀t,u t=a.eval (.tmp t):=⟨_,fun _=>rfl⟩;rw[NL a 41 u Z.Re Z.defers hu];have f0:=Z.old' 0;have f1:=Z.old' 1;have f2:=Z.old' 2;have f3:=Z.old' 3;have f4:=Z.old' 4;have f5:=Z.old' 5;have f6:=Z.old' 6;have f7:=Z.old' 7;have f8:=Z.old' 8;have f9:=Z.old' 9;have f10:=Z.old' 10;have f11:=Z.old' 11;have f13:=Z.old' 13;have f14:=Z.old' 14;have f15:=Z.old' 15;have f16:=Z.old' 16;have f17:=Z.old' 17;have f18:=Z.old' 18;have f19:=Z.old' 19;have f20:=Z.old' 20;have f21:=Z.old' 21;have f22:=Z.old' 22;have f23:=Z.old' 23;have f24:=Z.old' 24;have f36:=Z.old' 36;have f37:=Z.old' 37;have f38:=Z.old' 38;have f39:=Z.old' 39;have f40:=Z.old' 40;have f12:=Z.got 12 _ 12 rfl (hall 12 (by decide)) rfl;simp only[<-hu]at f0 f1 f2 f3 f4 f5 f6 f7 f8 f9 f10 f11 f12 f13 f14 f15 f16 f17 f18 f19 f20 f21 f22 f23 f24 f36 f37 f38 f39 f40;simp[Act.eval]at f0 f1 f2 f3 f4 f5 f6 f7 f8 f9 f10 f11 f13 f14 f15 f16 f17 f18 f19 f20 f21 f22 f23 f24 f36 f37 f38 f39 f40;clear hu Z hall;simp only[List.range,List.range.loop,List.map_cons,List.map_nil];rw[f0,f1,f2,f3,f4,f5,f6,f7,f8,f9,f10,f11,f12,f13,f14,f15,f16,f17,f18,f19,f20,f21,f22,f23,f24,f36,f37,f38,f39,f40];clear f0 f1 f2 f3 f4 f5 f6 f7 f8 f9 f10 f11 f12 f13 f14 f15 f16 f17 f18 f19 f20 f21 f22 f23 f24 f36 f37 f38 f39 f40;clear hN hQ hO hR bj hT hC;go_wp2_with (with_reducible first|refine aJ rfl _ rfl _ rfl _ hO2 rfl ?_|refine aZ rfl _ _ rfl _ _ rfl rfl _ hR2 rfl ?_)
   exact bodyPost_ret (iN Tryz.results199 _ _ _ _ rfl rfl (hR2.row _)) rfl ⟨rfl,below_setRow R4 Rl.out _⟩
theorem NO(n a b:Nat)(hn:n<Nm.ai)(ha:a<4294967296)(hb:b<4294967296)(h0:b≠0)(w:World):an 199 #[.agg (aa n),ay (a:Int),ay (b:Int)] w (.tuple #[.agg (aa (n*a/b%Nm.ai)),.bool (decide (Nm.ai<=n*a/b))]):=by
 have hr:n%b<b:=Nat.mod_lt _ (by omega)
 have hm1:n%b*a<18446744073709551616:=by
  have:=Nat.mul_le_mul (show n%b<=4294967295 by omega) (show a<=4294967295 by omega);omega
 have hm:n%b*a/b<=n%b*a:=Nat.div_le_self _ _;have KO:=fun w=>over n b hn (by omega) w
 rw[if_neg h0]at KO;have hq:n/b<Nm.ai:=Nat.lt_of_le_of_lt (Nat.div_le_self _ _) hn;have KT:=fun w=>times (n/b) a hq (by omega) w
 have KF:=fun w=>of (n%b*a/b) (by omega) w
 have KA:=fun w=>add (n/b*a%Nm.ai) (n%b*a/b) (Nat.mod_lt _ (by decide)) (by unfold Nm.ai;omega) w
 have f1:IntKind.u64.wrap (((n%b:Nat):Int)*(a:Int))=((n%b*a:Nat):Int):=by rw[<-Int.natCast_mul,IntKind.wrap_u64];omega
 have f2:IntKind.u64.wrap (((n%b*a:Nat):Int)/(b:Int))=((n%b*a/b:Nat):Int):=by
  rw[<-Int.natCast_ediv,IntKind.wrap_u64];have h9:=Nat.lt_of_le_of_lt hm hm1;generalize n%b*a/b=M at h9|-;omega
 have e1:=OQ n a b (by omega);have e2:=MO (n/b*a) (n%b*a/b);have e3:=N9 (n/b*a) (n%b*a/b);rw[<-e1]at e2 e3;rw[<-e2,<-e3];by_cases hg:Nm.ai<=n/b*a;rw[decide_eq_true hg]at KT|-;rw[Bool.true_or];exact yt.1 n a b _ _ _ _ _ _ _ f1 f2 (by omega) (h_ KO) (h_ KT) (h_ KF) (h_ KA) w;rw[decide_eq_false hg]at KT|-;rw[Bool.false_or];exact yt.2 n a b _ _ _ _ _ _ _ f1 f2 (by omega) (h_ KO) (h_ KT) (h_ KF) (h_ KA) w
end NN
namespace NN
theorem IB(p : Pr)(hz : (aE p).size=83)(b fr RN lim : Int)(e0 : Hid (p.lim=lim))(t : Nat)(KT:Hid (bU 181 #[i_ b,i_ b] (.tuple #[.agg (aa t),.bool false])))(w:World):an 180 #[.agg (aE p),i_ b,i_ fr,i_ RN] w (i_ lim):=by
  have Rc:=hz;go_enter Tryz.func180,Tryz.ntmps180;go_upto_region 1 with fail
  generalize hw0:World.alloc _ _=v0;have bj:Below w.heap.size w v0:=by rw[<-hw0];exact a_.alloc (by simp<;>omega) _
  have hP:aA v0 (w.heap.size) p:=by rw[<-hw0];exact Has.new _ _
  clear hw0;have c0:=hP.c0 e0;go_wp2_with (with_reducible first|refine dA rfl _ rfl _ rfl hP Rc ?_|refine fL (by with_unfolding_all rfl) _ rfl _ rfl hP Rc ?_)
  refine au (KT.out _) fun v1 hb1=>?_;replace hP:=hP.on hb1;replace c0:=hP.c0 e0;replace bj:=af bj hb1;clear hb1;go_upto_region 2 with(with_reducible refine aZ rfl _ _ rfl _ _ rfl rfl _ (Has.Rb _) rfl ?_)
  generalize hw2:World.setRow _ _ _=v2;have hb2:Below v1.heap.size v1 v2:=cG hw2;have hT:Has v2 v1.heap.size (aa t) 26:=by rw[<-hw2];exact(Has.Rb _).row _
  replace hP:=hP.on hb2;replace c0:=hP.c0 e0;replace bj:=af bj hb2;clear hw2 hb2;generalize v1.heap.size=TI at hT|-;go_wp2_with (with_reducible first|refine dA rfl _ rfl _ rfl hP Rc ?_|refine fL (by with_unfolding_all rfl) _ rfl _ rfl hP Rc ?_|refine aJ rfl _ rfl _ rfl _ hT rfl ?_|refine dD (by with_unfolding_all rfl) _ rfl _ rfl _ hT rfl ?_)
  go_ret;exact⟨rfl,bj⟩
theorem su(p : Pr)(hz : (aE p).size=83)(b fr RN lim : Int)(e0 : Hid (p.lim=lim))(t : Nat)(KT:Hid (bU 181 #[i_ b,i_ b] (.tuple #[.agg (aa t),.bool true])))(KG:Hid (bU 168 #[.agg (aE p)] (.bool false)))(w:World):an 180 #[.agg (aE p),i_ b,i_ fr,i_ RN] w (i_ lim):=by
  have Rc:=hz;go_enter Tryz.func180,Tryz.ntmps180;go_upto_region 1 with fail
  generalize hw0:World.alloc _ _=v0;have bj:Below w.heap.size w v0:=by rw[<-hw0];exact a_.alloc (by simp<;>omega) _
  have hP:aA v0 (w.heap.size) p:=by rw[<-hw0];exact Has.new _ _
  clear hw0;have c0:=hP.c0 e0;go_wp2_with (with_reducible first|refine dA rfl _ rfl _ rfl hP Rc ?_|refine fL (by with_unfolding_all rfl) _ rfl _ rfl hP Rc ?_)
  refine au (KT.out _) fun v1 hb1=>?_;replace hP:=hP.on hb1;replace c0:=hP.c0 e0;replace bj:=af bj hb1;clear hb1;go_upto_region 2 with(with_reducible refine aZ rfl _ _ rfl _ _ rfl rfl _ (Has.Rb _) rfl ?_)
  generalize hw2:World.setRow _ _ _=v2;have hb2:Below v1.heap.size v1 v2:=cG hw2;have hT:Has v2 v1.heap.size (aa t) 26:=by rw[<-hw2];exact(Has.Rb _).row _
  replace hP:=hP.on hb2;replace c0:=hP.c0 e0;replace bj:=af bj hb2;clear hw2 hb2;generalize v1.heap.size=TI at hT|-;go_wp2_with (with_reducible first|refine dA rfl _ rfl _ rfl hP Rc ?_|refine fL (by with_unfolding_all rfl) _ rfl _ rfl hP Rc ?_|refine aJ rfl _ rfl _ rfl _ hT rfl ?_|refine dD (by with_unfolding_all rfl) _ rfl _ rfl _ hT rfl ?_)
  refine au (KG.out _) fun v3 hb3=>?_;replace hP:=hP.on hb3;replace hT:=hT.on hb3;replace c0:=hP.c0 e0;replace bj:=af bj hb3;clear hb3;go_wp2_with (with_reducible first|refine dA rfl _ rfl _ rfl hP Rc ?_|refine fL (by with_unfolding_all rfl) _ rfl _ rfl hP Rc ?_|refine aJ rfl _ rfl _ rfl _ hT rfl ?_|refine dD (by with_unfolding_all rfl) _ rfl _ rfl _ hT rfl ?_)
  go_ret;exact⟨rfl,bj⟩
theorem IL(p : Pr)(hz : (aE p).size=83)(b fr RN lim : Int)(e0 : Hid (p.lim=lim))(t : Nat)(Rj Rx:Int)(e1:Hid (p.Rj=Rj))(e2:Hid (p.Rx=Rx))(z L:Nat)(oL:Bool)(sn s4 s16:Nat)(d:Int)(f1:IntKind.i64.wrap (Rj*Rx)=(sn:Int))(f2:IntKind.i64.wrap (RN-fr)=d)(f3:(sn:Int)/4=(s4:Int))(f4:IntKind.i64.wrap ((sn:Int)*4)=(s16:Int))(f5:IntKind.i64.wrap (s4:Int)=(s4:Int))(tk:Nat)(mx:Int)(f6:mx=max d (s4:Int))(f7:(tk:Int)=min mx (s16:Int))(f8:IntKind.u64.wrap (tk:Int)=(tk:Int))(f9:IntKind.u64.wrap (sn:Int)=(sn:Int))(so ls zr:Bool)(en res:Int)(Sg:Hid (res=if so=true\/ls=true then lim else en))(KT:Hid (bU 181 #[i_ b,i_ b] (.tuple #[.agg (aa t),.bool true])))(KG:Hid (bU 168 #[.agg (aE p)] (.bool true)))(KS:Hid (bU 199 #[.agg (aa t),ay (tk:Int),ay (sn:Int)] (.tuple #[.agg (aa z),.bool so])))(KL:Hid (bU 181 #[i_ lim,i_ lim] (.tuple #[.agg (aa L),.bool oL])))(TJ:Hid (bU 200 #[.agg (aa L),.agg (aa z)] (.bool ls)))(KZ:Hid (bU 163 #[.agg (aa z)] (.bool zr)))(KO:Hid (bU 187 #[ay 1] (.agg (aa 1))))(KE:Hid (bU 201 #[.agg (aa (if zr=true then 1 else z))] (i_ en)))(w:World):an 180 #[.agg (aE p),i_ b,i_ fr,i_ RN] w (i_ res):=by
  have Rc:=hz;go_enter Tryz.func180,Tryz.ntmps180;go_upto_region 1 with fail
  generalize hw0:World.alloc _ _=v0;have bj:Below w.heap.size w v0:=by rw[<-hw0];exact a_.alloc (by simp<;>omega) _
  have hP:aA v0 (w.heap.size) p:=by rw[<-hw0];exact Has.new _ _
  clear hw0;have c0:=hP.c0 e0;have c1:=hP.c1 e1;have c2:=hP.c2 e2;go_wp2_with (with_reducible first|refine dA rfl _ rfl _ rfl hP Rc ?_|refine fL (by with_unfolding_all rfl) _ rfl _ rfl hP Rc ?_)
  refine au (KT.out _) fun v1 hb1=>?_;replace hP:=hP.on hb1;replace c0:=hP.c0 e0;replace c1:=hP.c1 e1;replace c2:=hP.c2 e2;replace bj:=af bj hb1;clear hb1;go_upto_region 2 with(with_reducible refine aZ rfl _ _ rfl _ _ rfl rfl _ (Has.Rb _) rfl ?_)
  generalize hw2:World.setRow _ _ _=v2;have hb2:Below v1.heap.size v1 v2:=cG hw2;have hT:Has v2 v1.heap.size (aa t) 26:=by rw[<-hw2];exact(Has.Rb _).row _
  replace hP:=hP.on hb2;replace c0:=hP.c0 e0;replace c1:=hP.c1 e1;replace c2:=hP.c2 e2;replace bj:=af bj hb2;clear hw2 hb2;generalize v1.heap.size=TI at hT|-;go_wp2_with (with_reducible first|refine dA rfl _ rfl _ rfl hP Rc ?_|refine fL (by with_unfolding_all rfl) _ rfl _ rfl hP Rc ?_|refine aJ rfl _ rfl _ rfl _ hT rfl ?_|refine dD (by with_unfolding_all rfl) _ rfl _ rfl _ hT rfl ?_)
  refine au (KG.out _) fun v3 hb3=>?_;replace hP:=hP.on hb3;replace hT:=hT.on hb3;replace c0:=hP.c0 e0;replace c1:=hP.c1 e1;replace c2:=hP.c2 e2;replace bj:=af bj hb3;clear hb3;have M1:=kQ (P:=Tryz.prog) d (s4:Int) mx f6;have M2:=gL (P:=Tryz.prog) mx (s16:Int) (tk:Int) f7;clear f6 f7;go_wp2_with (with_reducible first|refine dA rfl _ rfl _ rfl hP Rc ?_|refine fL (by with_unfolding_all rfl) _ rfl _ rfl hP Rc ?_|refine aJ rfl _ rfl _ rfl _ hT rfl ?_|refine dD (by with_unfolding_all rfl) _ rfl _ rfl _ hT rfl ?_)
  refine au (KS.out _) fun v4 hb4=>?_;replace hP:=hP.on hb4;replace hT:=hT.on hb4;replace c0:=hP.c0 e0;replace c1:=hP.c1 e1;replace c2:=hP.c2 e2;replace bj:=af bj hb4;clear hb4;have hbel0:=bj;go_upto_region 7 with(with_reducible refine aZ rfl _ _ rfl _ _ rfl rfl _ (Has.Rb _) rfl ?_)
  generalize T4:World.setRow _ _ _=v5;have hb5:Below v4.heap.size v4 v5:=cG T4;have hZ:Has v5 v4.heap.size (aa z) 26:=by rw[<-T4];exact(Has.Rb _).row _
  replace hP:=hP.on hb5;replace hT:=hT.on hb5;replace c0:=hP.c0 e0;replace c1:=hP.c1 e1;replace c2:=hP.c2 e2;replace bj:=af bj hb5;clear T4 hb5;have HZ:Hid (w.heap.size<=v4.heap.size):=h_ hbel0.size;clear hbel0;generalize v4.heap.size=Tb at hZ HZ|-;clear M1 M2;go_wp2_with (with_reducible first|refine dA rfl _ rfl _ rfl hP Rc ?_|refine fL (by with_unfolding_all rfl) _ rfl _ rfl hP Rc ?_|refine aJ rfl _ rfl _ rfl _ (by assumption) rfl ?_|refine dD (by with_unfolding_all rfl) _ rfl _ rfl _ (by assumption) rfl ?_)
  refine au (KL.out _) fun v6 hb6=>?_;replace hP:=hP.on hb6;replace hT:=hT.on hb6;replace hZ:=hZ.on hb6;replace c0:=hP.c0 e0;replace c1:=hP.c1 e1;replace c2:=hP.c2 e2;replace bj:=af bj hb6;clear hb6;go_upto_region 8 with(with_reducible refine aZ rfl _ _ rfl _ _ rfl rfl _ (Has.Rb _) rfl ?_)
  generalize hw7:World.setRow _ _ _=v7;have S7:Below v6.heap.size v6 v7:=cG hw7;have hL:Has v7 v6.heap.size (aa L) 26:=by rw[<-hw7];exact(Has.Rb _).row _
  replace hP:=hP.on S7;replace hT:=hT.on S7;replace hZ:=hZ.on S7;replace c0:=hP.c0 e0;replace c1:=hP.c1 e1;replace c2:=hP.c2 e2;replace bj:=af bj S7;clear hw7 S7;generalize v6.heap.size=Ya at hL|-;cases so
  case true=>
    (go_wp2_with (with_reducible first|refine dA rfl _ rfl _ rfl hP Rc ?_|refine fL (by with_unfolding_all rfl) _ rfl _ rfl hP Rc ?_|refine aJ rfl _ rfl _ rfl _ (by assumption) rfl ?_|refine dD (by with_unfolding_all rfl) _ rfl _ rfl _ (by assumption) rfl ?_));go_ret;exact⟨by rw[Sg.out];rfl,bj⟩
  go_wp2_with (with_reducible first|refine dA rfl _ rfl _ rfl hP Rc ?_|refine fL (by with_unfolding_all rfl) _ rfl _ rfl hP Rc ?_|refine aJ rfl _ rfl _ rfl _ (by assumption) rfl ?_|refine dD (by with_unfolding_all rfl) _ rfl _ rfl _ (by assumption) rfl ?_)
  refine au (TJ.out _) fun v8 SO=>?_;replace hP:=hP.on SO;replace hT:=hT.on SO;replace hZ:=hZ.on SO;replace hL:=hL.on SO;replace c0:=hP.c0 e0;replace c1:=hP.c1 e1;replace c2:=hP.c2 e2;replace bj:=af bj SO;clear SO;cases ls
  case true=>
    (go_wp2_with (with_reducible first|refine dA rfl _ rfl _ rfl hP Rc ?_|refine fL (by with_unfolding_all rfl) _ rfl _ rfl hP Rc ?_|refine aJ rfl _ rfl _ rfl _ (by assumption) rfl ?_|refine dD (by with_unfolding_all rfl) _ rfl _ rfl _ (by assumption) rfl ?_));go_ret;exact⟨by rw[Sg.out];rfl,bj⟩
  go_wp2_with (with_reducible first|refine dA rfl _ rfl _ rfl hP Rc ?_|refine fL (by with_unfolding_all rfl) _ rfl _ rfl hP Rc ?_|refine aJ rfl _ rfl _ rfl _ (by assumption) rfl ?_|refine dD (by with_unfolding_all rfl) _ rfl _ rfl _ (by assumption) rfl ?_)
  refine au (KZ.out _) fun v9 RM=>?_;replace hP:=hP.on RM;replace hT:=hT.on RM;replace hZ:=hZ.on RM;replace hL:=hL.on RM;replace c0:=hP.c0 e0;replace c1:=hP.c1 e1;replace c2:=hP.c2 e2;replace bj:=af bj RM;clear RM;cases zr
  case false=>
    (go_wp2_with (with_reducible first|refine dA rfl _ rfl _ rfl hP Rc ?_|refine fL (by with_unfolding_all rfl) _ rfl _ rfl hP Rc ?_|refine aJ rfl _ rfl _ rfl _ (by assumption) rfl ?_|refine dD (by with_unfolding_all rfl) _ rfl _ rfl _ (by assumption) rfl ?_));refine au (KE.out _) fun v10 RO=>?_;replace hP:=hP.on RO;replace hT:=hT.on RO;replace hZ:=hZ.on RO;replace hL:=hL.on RO;replace c0:=hP.c0 e0;replace c1:=hP.c1 e1;replace c2:=hP.c2 e2;replace bj:=af bj RO;clear RO;(go_wp2_with (with_reducible first|refine dA rfl _ rfl _ rfl hP Rc ?_|refine fL (by with_unfolding_all rfl) _ rfl _ rfl hP Rc ?_|refine aJ rfl _ rfl _ rfl _ (by assumption) rfl ?_|refine dD (by with_unfolding_all rfl) _ rfl _ rfl _ (by assumption) rfl ?_));go_ret;exact⟨by rw[Sg.out];rfl,bj⟩
  go_wp2_with (with_reducible first|refine dA rfl _ rfl _ rfl hP Rc ?_|refine fL (by with_unfolding_all rfl) _ rfl _ rfl hP Rc ?_|refine aJ rfl _ rfl _ rfl _ (by assumption) rfl ?_|refine dD (by with_unfolding_all rfl) _ rfl _ rfl _ (by assumption) rfl ?_)
  refine au (KO.out _) fun v10 RO=>?_;replace hP:=hP.on RO;replace hT:=hT.on RO;replace hZ:=hZ.on RO;replace hL:=hL.on RO;replace c0:=hP.c0 e0;replace c1:=hP.c1 e1;replace c2:=hP.c2 e2;replace bj:=af bj RO;clear RO;go_upto_region 12 with(with_reducible refine aZ rfl _ _ rfl _ _ rfl rfl _ hZ rfl ?_)
  generalize hw:World.setRow _ _ _=U5;replace hZ:Has U5 Tb (aa 1) 26:=by rw[<-hw];exact hZ.row _
  replace bj:Below w.heap.size w U5:=by rw[<-hw];exact below_setRow bj HZ.out _
  clear hw;go_wp2_with (with_reducible first|refine aJ rfl _ rfl _ rfl _ hZ rfl ?_|refine dD (by with_unfolding_all rfl) _ rfl _ rfl _ hZ rfl ?_)
  refine au (KE.out _) fun v11 U6=>?_;replace hZ:=hZ.on U6;replace bj:=af bj U6;clear U6;go_wp2_with fail
  go_ret;exact⟨by rw[Sg.out];rfl,bj⟩
def Pr.should(p:Pr):Nat:=(p.Rj*p.Rx).toNat
def Pr.jn(p:Pr)(b d:Int):Nat:=Go.Proofs.YtkbjaadjnbgfbaaGreatDoor.NN.jn (tg b b) p.should d
def rt(p:Pr)(b d:Int):Int:=if(tok b b&&p.bK)=true then(if tg p.lim p.lim<p.jn b d then p.lim else(Nm.enc (max 1 (p.jn b d)):Nat))else p.lim
variable{p:Pr}
theorem N0(h:p.bK=true):tok p.lim p.lim=true/\2<=p.Rj/\p.Rj<=64/\1<=p.Rx/\p.Rx<=10000/\0<=p.Rp/\p.Rp<4294967296:=by unfold Pr.bK at h;simp only[Bool.and_eq_true,decide_eq_true_eq]at h;obtain⟨⟨⟨⟨⟨⟨h0,h1⟩,h2⟩,h3⟩,h4⟩,h5⟩,h6⟩:=h;exact⟨h0,h1,h2,h3,h4,h5,h6⟩
theorem D6(h:p.bK=true):0<p.should/\p.should<=640000/\(p.should:Int)=p.Rj*p.Rx:=by
 obtain⟨_,h1,h2,h3,h4,_,_⟩:=N0 h;obtain⟨i,hi⟩:=Int.eq_ofNat_of_zero_le (show 0<=p.Rj by omega);obtain⟨s,hs⟩:=Int.eq_ofNat_of_zero_le (show 0<=p.Rx by omega);have e:p.should=i*s:=by unfold Pr.should;rw[hi,hs,<-Int.natCast_mul,Int.toNat_natCast]
 have hp:0<i*s:=Nat.mul_pos (by omega) (by omega);have hle:i*s<=64*10000:=Nat.mul_le_mul (by omega) (by omega);rw[e,hi,hs,<-Int.natCast_mul];exact⟨hp,by omega,rfl⟩
theorem Oo(p:Pr)(ho:p.ok)(b fr RN d:Int)(hd:IntKind.i64.wrap (RN-fr)=d)(w:World):an 180 #[.agg (aE p),i_ b,i_ fr,i_ RN] w (i_ (rt p b d)):=by
 have hz:=ef ho;have KT:=fun w=>kO b b w
 by_cases h1:tok b b=false
 ·rw[h1]at KT;have e:rt p b d=p.lim:=by unfold rt;rw[h1];rfl
  rw[e];exact IB p hz b fr RN _ (h_ rfl) _ (h_ KT) w
 rw[Bool.not_eq_false]at h1;rw[h1]at KT;have KG:=fun w=>EF p w
 by_cases h2:p.bK=false
 ·rw[h2]at KG;have e:rt p b d=p.lim:=by unfold rt;rw[h2,Bool.and_false];rfl
  rw[e];exact su p hz b fr RN _ (h_ rfl) _ (h_ KT) (h_ KG) w
 rw[Bool.not_eq_false]at h2;rw[h2]at KG;obtain⟨s0,s1,s2⟩:=D6 h2;have e:rt p b d=if tg p.lim p.lim<p.jn b d then p.lim else(Nm.enc (max 1 (p.jn b d)):Nat):=by unfold rt;rw[h1,h2];rfl
 rw[e];have ha:p.jn b d=tg b b*tk p.should d/p.should:=rfl;obtain⟨sn,hsn⟩:∃sn,sn=p.should:=⟨_,rfl⟩;rw[<-hsn]at s0 s1 s2 ha;have htk:=yQ sn d;have hti:=sk sn d;have KS:=fun w=>NO (tg b b) (tk sn d) sn (kq b b) (by omega) (by omega) (by omega) w
 rw[<-ha]at KS;have KL:=fun w=>kO p.lim p.lim w
 have hL:=kq p.lim p.lim;have f1:IntKind.i64.wrap (p.Rj*p.Rx)=(sn:Int):=by rw[<-s2,IntKind.wrap_i64];omega
 have f4:IntKind.i64.wrap ((sn:Int)*4)=((sn*4:Nat):Int):=by rw[IntKind.wrap_i64];omega
 have f5:IntKind.i64.wrap ((sn/4:Nat):Int)=((sn/4:Nat):Int):=by rw[IntKind.wrap_i64];omega
 have f3:(sn:Int)/4=((sn/4:Nat):Int):=by omega
 have f8:IntKind.u64.wrap (tk sn d:Int)=(tk sn d:Int):=by rw[IntKind.wrap_u64];omega
 have f9:IntKind.u64.wrap (sn:Int)=(sn:Int):=by rw[IntKind.wrap_u64];omega
 generalize p.jn b d=q at*;have hzl:q%Nm.ai<Nm.ai:=Nat.mod_lt _ (by rw[Nm.bJ];exact Nat.two_pow_pos _);refine IL p hz b fr RN _ (h_ rfl) _ _ _ (h_ rfl) (h_ rfl) (q%Nm.ai) _ _ sn _ _ d f1 hd f3 f4 f5 _ _ rfl hti f8 f9 (decide (Nm.ai<=q)) (decide (tg p.lim p.lim<q%Nm.ai)) (decide (q%Nm.ai=0)) (Nm.enc (if decide (q%Nm.ai=0)=true then 1 else q%Nm.ai):Nat) _ (h_ ?_) (h_ KT) (h_ KG) (h_ KS) (h_ KL) (h_ (yU _ _ hL hzl _ rfl)) (h_ (yp _ hzl _ rfl)) (h_ (of 1 (by decide))) (h_ (encode _ ?_)) w
 ·by_cases h3:Nm.ai<=q;rw[if_pos (by omega),if_pos (.inl (decide_eq_true h3))];rw[Nat.mod_eq_of_lt (by omega)];by_cases h4:tg p.lim p.lim<q;rw[if_pos h4,if_pos (.inr (decide_eq_true h4))];rw[if_neg h4,if_neg (by simp only[decide_eq_true_eq];omega)];by_cases h5:q=0;rw[if_pos (decide_eq_true h5),show max 1 q=1 by omega];rw[if_neg (by simp only[decide_eq_true_eq];omega),show max 1 q=q by omega]
 ·split;decide;exact hzl
def bs(i h:Int):Bool:=decide (0<i)&&(h.tmod i==0)
theorem Oa(p:Pr)(h i m:Int)(e1:Hid (p.Rj=i))(t1:decide (0<i)=true)(hne:¬i=0)(hm:h.tmod i=m)(w:World):an 165 #[.agg (aE p),i_ h] w (.bool (m==0)):=by
 have hP:=lg w p;have bj:Bl w (w.alloc (.cells (aE p) 32)):=aY;have c1:=hP.c1 e1;go_enter Tryz.func165,Tryz.ntmps165;go_wp2_with fail
 go_ret;exact⟨rfl,bj⟩
theorem PQ(p:Pr)(h i:Int)(e1:Hid (p.Rj=i))(t1:decide (0<i)=false)(w:World):an 165 #[.agg (aE p),i_ h] w (.bool false):=by
 have hP:=lg w p;have bj:Bl w (w.alloc (.cells (aE p) 32)):=aY;have c1:=hP.c1 e1;go_enter Tryz.func165,Tryz.ntmps165;go_wp2_with fail
 go_ret;exact⟨rfl,bj⟩
theorem Dx(p:Pr)(h:Int)(g:Bool)(hg:bs p.Rj h=g)(w:World):an 165 #[.agg (aE p),i_ h] w (.bool g):=by by_cases h0:0<p.Rj;rw[<-hg,bs,decide_eq_true h0,Bool.true_and];exact Oa p h _ _ (h_ rfl) (decide_eq_true h0) (by omega) rfl w;rw[<-hg,bs,decide_eq_false h0,Bool.false_and];exact PQ p h _ (h_ rfl) (decide_eq_false h0) w
structure Pt where
 h:Int
 b:Int
 t:Int
 f:Int
 r:Int
def jv(x:Pt):Array Value:=#[i_ x.h,i_ x.b,i_ x.t,i_ x.f,i_ x.r]
theorem rQ:(Tryz.prog.info? 139).map (·.size)=some 5:=by kernel_rfl
def ic(w:World)(k:Nat)(x:Pt):Prop:=Has w k (jv x) 139
section
variable{w w':World}{k:Nat}{x:Pt}
theorem ic.on(h:ic w k x)(hb:Bl w w'):ic w' k x:=Has.on h hb
theorem ic.c0(h:ic w k x){z:Int}(e:Hid (x.h=z)):w.cell? ⟨k,0,none⟩=some (i_ z):=(Has.cell h 0).trans (by rw[<-e.out];rfl)
theorem ic.c1(h:ic w k x){z:Int}(e:Hid (x.b=z)):w.cell? ⟨k,1,none⟩=some (i_ z):=(Has.cell h 1).trans (by rw[<-e.out];rfl)
theorem ic.c2(h:ic w k x){z:Int}(e:Hid (x.t=z)):w.cell? ⟨k,2,none⟩=some (i_ z):=(Has.cell h 2).trans (by rw[<-e.out];rfl)
theorem ic.c3(h:ic w k x){z:Int}(e:Hid (x.f=z)):w.cell? ⟨k,3,none⟩=some (i_ z):=(Has.cell h 3).trans (by rw[<-e.out];rfl)
theorem ic.c4(h:ic w k x){z:Int}(e:Hid (x.r=z)):w.cell? ⟨k,4,none⟩=some (i_ z):=(Has.cell h 4).trans (by rw[<-e.out];rfl)
variable{ops:Array Oper}{rest:List Oper}{o:Oper}{a:Act}{Q:Exit->Act->World->Prop}
theorem zG(hgd:o.guard=none)(y:Operand)(ho:o.op=.load 139 y)(g:Nat)(hx:a.eval y=ah g)(hg:ic w g x)(hk:wpList Tryz.prog ops Q rest (a.put o.dst (.agg (jv x))) w):wpList Tryz.prog ops Q (o::rest) a w:=
 wpList_load_row hgd 139 y ho g hx 139 (jv x) (0,0) _ (Has.out hg) Tryz.underlying139 rfl rQ hk
end
theorem zK(p:Pr)(x:Pt)(own:Int)(Rc:(aE p).size=83)(lim Rx xh xb xt xf xr d s2 rb:Int)(a s z l:Bool)(e0:Hid (p.lim=lim))(e2:Hid (p.Rx=Rx))(e4:Hid (p.Rt=z))(g0:Hid (x.h=xh))(g1:Hid (x.b=xb))(g2:Hid (x.t=xt))(g3:Hid (x.f=xf))(g4:Hid (x.r=xr))(t0:decide (xh<=0)=a)(f1:IntKind.i64.wrap (own-xt)=d)(f2:IntKind.i64.wrap (2*Rx)=s2)(f3:decide (s2<d)=l)(KS:Hid (bU 165 #[.agg (aE p),i_ xh] (.bool s)))(KR:Hid (bU 180 #[.agg (aE p),i_ xb,i_ xf,i_ xt] (i_ rb)))(w:World):an 154 #[.agg (aE p),.agg (jv x),i_ own] w (i_ (if a=true then lim else if s=true then rb else if z=false then xb else if l=true then lim else xr)):=by
 go_enter Tryz.func154,Tryz.ntmps154;go_upto_region 1 with fail
 generalize hw0:World.alloc _ _=v0;have bj:Below w.heap.size w v0:=by rw[<-hw0];exact(a_.alloc (by simp<;>omega) _).alloc (by simp<;>omega) _
 have hP:aA v0 (w.heap.size) p:=by rw[<-hw0];exact(Has.new _ _).alloc _
 have hX:ic v0 (w.heap.size+1) x:=by rw[<-hw0];exact Has.Rg _ _ _
 clear hw0;generalize hg1:w.heap.size+1=Wb at hX|-;clear hg1;have c0:=hP.c0 e0;have c2:=hP.c2 e2;have c4:=hP.c4 e4;have d0:=hX.c0 g0;have d1:=hX.c1 g1;have d2:=hX.c2 g2;have d3:=hX.c3 g3;have d4:=hX.c4 g4;cases a
 case' false=>
  go_wp2_with (with_reducible first|refine dA rfl _ rfl _ rfl hP Rc ?_|refine fL (by with_unfolding_all rfl) _ rfl _ rfl hP Rc ?_|refine zG rfl _ rfl _ rfl hX ?_|refine Sb (by with_unfolding_all rfl) _ rfl _ rfl hX ?_)
  refine au (KS.out _) fun v1 hb1=>?_;replace hP:=hP.on hb1;replace hX:=hX.on hb1;replace c0:=hP.c0 e0;replace c2:=hP.c2 e2;replace c4:=hP.c4 e4;replace d0:=hX.c0 g0;replace d1:=hX.c1 g1;replace d2:=hX.c2 g2;replace d3:=hX.c3 g3;replace d4:=hX.c4 g4;replace bj:=af bj hb1;clear hb1;cases s
  case' true=>
   go_wp2_with (with_reducible first|refine dA rfl _ rfl _ rfl hP Rc ?_|refine fL (by with_unfolding_all rfl) _ rfl _ rfl hP Rc ?_|refine zG rfl _ rfl _ rfl hX ?_|refine Sb (by with_unfolding_all rfl) _ rfl _ rfl hX ?_)
   refine au (KR.out _) fun v2 hb2=>?_;replace hP:=hP.on hb2;replace hX:=hX.on hb2;replace c0:=hP.c0 e0;replace c2:=hP.c2 e2;replace c4:=hP.c4 e4;replace d0:=hX.c0 g0;replace d1:=hX.c1 g1;replace d2:=hX.c2 g2;replace d3:=hX.c3 g3;replace d4:=hX.c4 g4;replace bj:=af bj hb2;clear hb2
  case' false=>
   cases z
   case' true=>
    cases l
 all_goals
  go_wp2_with (with_reducible first|refine dA rfl _ rfl _ rfl hP Rc ?_|refine fL (by with_unfolding_all rfl) _ rfl _ rfl hP Rc ?_|refine zG rfl _ rfl _ rfl hX ?_|refine Sb (by with_unfolding_all rfl) _ rfl _ rfl hX ?_)
  go_ret;exact⟨rfl,bj⟩
def nx(p:Pr)(x:Pt)(own:Int):Int:=
 if x.h<=0 then p.lim else if bs p.Rj x.h=true then rt p x.b (IntKind.i64.wrap (x.t-x.f))else if p.Rt=false then x.b else if IntKind.i64.wrap (2*p.Rx)<IntKind.i64.wrap (own-x.t)then p.lim else x.r
theorem uK(p:Pr)(ho:p.ok)(x:Pt)(own:Int)(w:World):an 154 #[.agg (aE p),.agg (jv x),i_ own] w (i_ (nx p x own)):=by have hz:=ef ho;have h:=zK p x own hz _ _ _ _ _ _ _ _ _ _ _ _ _ _ (h_ rfl) (h_ rfl) (h_ rfl) (h_ rfl) (h_ rfl) (h_ rfl) (h_ rfl) (h_ rfl) rfl rfl rfl rfl (h_ (Dx p x.h _ rfl)) (h_ (Oo p ho x.b x.f x.t _ rfl)) w;simp only[decide_eq_true_eq]at h;exact h
theorem O3:#[Value.int .u64 1,ay 0,ay 0,ay 0]=aa 1:=rfl
theorem Jt(z:Nat)(hz:z<Nm.ai)(g:Bool)(hg:decide (z=0)=g)(w:World):(binOp .eql 26 (.agg (aa z)) (.agg #[ay 0,ay 0,ay 0,ay 0])).run Tryz.prog w=.ok (.bool g) w:=by rw[<-hg];exact qj hz (show 0<Nm.ai by decide) w
theorem xP:(∀(p : Pr)(_hz : (aE p).size=83)(b fr RN lim : Int)(_e0 : Hid (p.lim=lim))(t : Nat)(ok:Bool)(_KT:Hid (bU 106 #[i_ b,i_ lim] (.tuple #[.agg (aa t),.bool ok])))(_KG:Hid (bU 72 #[.agg (aE p)] (.bool false)))(w:World),an 176 #[.agg (aE p),i_ b,i_ fr,i_ RN] w (i_ lim))/\ (∀(p:Pr)(_hz:(aE p).size=83)(b fr RN lim:Int)(_e0:Hid (p.lim=lim))(t:Nat)(_KT:Hid (bU 106 #[i_ b,i_ lim] (.tuple #[.agg (aa t),.bool false])))(_KG:Hid (bU 72 #[.agg (aE p)] (.bool true)))(w:World),an 176 #[.agg (aE p),i_ b,i_ fr,i_ RN] w (i_ lim)):=by
  refine⟨fun p hz b fr RN lim e0 t ok KT KG w=>?_,
    fun p hz b fr RN lim e0 t KT KG w=>?_⟩
  all_goals
    have Rc:=hz;go_enter Tryz.func176,Tryz.ntmps176;(go_upto_region 1 with fail);generalize hw0:World.alloc _ _=v0;have bj:Below w.heap.size w v0:=(by rw[<-hw0];exact a_.alloc (by simp<;>omega) _);have hP:aA v0 (w.heap.size) p:=(by rw[<-hw0];exact Has.new _ _);clear hw0;have c0:=hP.c0 e0;(go_wp2_with (with_reducible first|refine dA rfl _ rfl _ rfl hP Rc ?_|refine fL (by with_unfolding_all rfl) _ rfl _ rfl hP Rc ?_));refine au (KT.out _) fun v1 hb1=>?_;replace hP:=hP.on hb1;replace c0:=hP.c0 e0;replace bj:=af bj hb1;clear hb1;(go_upto_region 2 with(with_reducible refine aZ rfl _ _ rfl _ _ rfl rfl _ (Has.Rb _) rfl ?_));generalize hw2:World.setRow _ _ _=v2;have hb2:Below v1.heap.size v1 v2:=cG hw2;have hT:Has v2 v1.heap.size (aa t) 26:=(by rw[<-hw2];exact(Has.Rb _).row _);replace hP:=hP.on hb2;replace c0:=hP.c0 e0;replace bj:=af bj hb2;clear hw2 hb2;generalize v1.heap.size=TI at hT|-;(go_wp2_with (with_reducible first|refine dA rfl _ rfl _ rfl hP Rc ?_|refine fL (by with_unfolding_all rfl) _ rfl _ rfl hP Rc ?_|refine aJ rfl _ rfl _ rfl _ hT rfl ?_|refine dD (by with_unfolding_all rfl) _ rfl _ rfl _ hT rfl ?_));refine au (KG.out _) fun v3 hb3=>?_;replace hP:=hP.on hb3;replace hT:=hT.on hb3;replace c0:=hP.c0 e0;replace bj:=af bj hb3;clear hb3;(go_wp2_with (with_reducible first|refine dA rfl _ rfl _ rfl hP Rc ?_|refine fL (by with_unfolding_all rfl) _ rfl _ rfl hP Rc ?_|refine aJ rfl _ rfl _ rfl _ hT rfl ?_|refine dD (by with_unfolding_all rfl) _ rfl _ rfl _ hT rfl ?_));go_ret;exact⟨rfl,bj⟩
theorem Ob(p : Pr)(hz : (aE p).size=83)(b fr RN lim : Int)(e0 : Hid (p.lim=lim))(t : Nat)(Rj Rx:Int)(e1:Hid (p.Rj=Rj))(e2:Hid (p.Rx=Rx))(z L:Nat)(oL:Bool)(sn s4 s16:Nat)(d:Int)(f1:IntKind.i64.wrap (Rj*Rx)=(sn:Int))(f2:IntKind.i64.wrap (RN-fr)=d)(f3:(sn:Int)/4=(s4:Int))(f4:IntKind.i64.wrap ((sn:Int)*4)=(s16:Int))(f5:IntKind.i64.wrap (s4:Int)=(s4:Int))(tk:Nat)(ZM:Hid ((decide (d<(s4:Int))=true/\¬s16<s4/\tk=s4)\/(∃dn:Nat,d=(dn:Int)/\¬dn<s4/\s16<dn/\tk=s16)\/(∃dn:Nat,d=(dn:Int)/\¬dn<s4/\¬s16<dn/\tk=dn)))(so ls zr:Bool)(en res:Int)(Sg:Hid (res=if so=false\/ls=true then lim else en))(KT:Hid (bU 106 #[i_ b,i_ lim] (.tuple #[.agg (aa t),.bool true])))(KG:Hid (bU 72 #[.agg (aE p)] (.bool true)))(KS:Hid (bU 192 #[.agg (aa t),i_ tk,i_ sn] (.tuple #[.agg (aa z),.bool so])))(KL:Hid (bU 106 #[i_ lim,i_ lim] (.tuple #[.agg (aa L),.bool oL])))(TJ:Hid (bU 102 #[.agg (aa L),.agg (aa z)] (.bool ls)))(hq:∀w,(binOp .eql 26 (.agg (aa z)) (.agg #[ay 0,ay 0,ay 0,ay 0])).run Tryz.prog w=.ok (.bool zr) w)(KE:Hid (bU 193 #[.agg (aa (if zr=true then 1 else z))] (i_ en)))(w:World):an 176 #[.agg (aE p),i_ b,i_ fr,i_ RN] w (i_ res):=by
  rcases ZM.out with⟨t1,t2,rfl⟩|⟨dn,rfl,t1,t2,rfl⟩|⟨dn,rfl,t1,t2,rfl⟩
  all_goals
    clear ZM;have Rc:=hz;go_enter Tryz.func176,Tryz.ntmps176;(go_upto_region 1 with fail);generalize hw0:World.alloc _ _=v0;have bj:Below w.heap.size w v0:=(by rw[<-hw0];exact a_.alloc (by simp<;>omega) _);have hP:aA v0 (w.heap.size) p:=(by rw[<-hw0];exact Has.new _ _);clear hw0;have c0:=hP.c0 e0;have c1:=hP.c1 e1;have c2:=hP.c2 e2;(go_wp2_with (with_reducible first|refine dA rfl _ rfl _ rfl hP Rc ?_|refine fL (by with_unfolding_all rfl) _ rfl _ rfl hP Rc ?_));refine au (KT.out _) fun v1 hb1=>?_;replace hP:=hP.on hb1;replace c0:=hP.c0 e0;replace c1:=hP.c1 e1;replace c2:=hP.c2 e2;replace bj:=af bj hb1;clear hb1;(go_upto_region 2 with(with_reducible refine aZ rfl _ _ rfl _ _ rfl rfl _ (Has.Rb _) rfl ?_));generalize hw2:World.setRow _ _ _=v2;have hb2:Below v1.heap.size v1 v2:=cG hw2;have hT:Has v2 v1.heap.size (aa t) 26:=(by rw[<-hw2];exact(Has.Rb _).row _);replace hP:=hP.on hb2;replace c0:=hP.c0 e0;replace c1:=hP.c1 e1;replace c2:=hP.c2 e2;replace bj:=af bj hb2;clear hw2 hb2;generalize v1.heap.size=TI at hT|-;(go_wp2_with (with_reducible first|refine dA rfl _ rfl _ rfl hP Rc ?_|refine fL (by with_unfolding_all rfl) _ rfl _ rfl hP Rc ?_|refine aJ rfl _ rfl _ rfl _ hT rfl ?_|refine dD (by with_unfolding_all rfl) _ rfl _ rfl _ hT rfl ?_));refine au (KG.out _) fun v3 hb3=>?_;replace hP:=hP.on hb3;replace hT:=hT.on hb3;replace c0:=hP.c0 e0;replace c1:=hP.c1 e1;replace c2:=hP.c2 e2;replace bj:=af bj hb3;clear hb3;(go_wp2_with (with_reducible first|refine dA rfl _ rfl _ rfl hP Rc ?_|refine fL (by with_unfolding_all rfl) _ rfl _ rfl hP Rc ?_|refine aJ rfl _ rfl _ rfl _ hT rfl ?_|refine dD (by with_unfolding_all rfl) _ rfl _ rfl _ hT rfl ?_));refine au (KS.out _) fun v4 hb4=>?_;replace hP:=hP.on hb4;replace hT:=hT.on hb4;replace c0:=hP.c0 e0;replace c1:=hP.c1 e1;replace c2:=hP.c2 e2;replace bj:=af bj hb4;clear hb4;have hbel0:=bj;(go_upto_region 11 with(with_reducible refine aZ rfl _ _ rfl _ _ rfl rfl _ (Has.Rb _) rfl ?_));generalize T4:World.setRow _ _ _=v5;have hb5:Below v4.heap.size v4 v5:=cG T4;have hZ:Has v5 v4.heap.size (aa z) 26:=(by rw[<-T4];exact(Has.Rb _).row _);replace hP:=hP.on hb5;replace hT:=hT.on hb5;replace c0:=hP.c0 e0;replace c1:=hP.c1 e1;replace c2:=hP.c2 e2;replace bj:=af bj hb5;clear T4 hb5;have HZ:Hid (w.heap.size<=v4.heap.size):=h_ hbel0.size;clear hbel0;generalize v4.heap.size=Tb at hZ HZ|-;(go_wp2_with (with_reducible first|refine dA rfl _ rfl _ rfl hP Rc ?_|refine fL (by with_unfolding_all rfl) _ rfl _ rfl hP Rc ?_|refine aJ rfl _ rfl _ rfl _ (by assumption) rfl ?_|refine dD (by with_unfolding_all rfl) _ rfl _ rfl _ (by assumption) rfl ?_));refine au (KL.out _) fun v6 hb6=>?_;replace hP:=hP.on hb6;replace hT:=hT.on hb6;replace hZ:=hZ.on hb6;replace c0:=hP.c0 e0;replace c1:=hP.c1 e1;replace c2:=hP.c2 e2;replace bj:=af bj hb6;clear hb6;(go_upto_region 12 with(with_reducible refine aZ rfl _ _ rfl _ _ rfl rfl _ (Has.Rb _) rfl ?_));generalize hw7:World.setRow _ _ _=v7;have S7:Below v6.heap.size v6 v7:=cG hw7;have hL:Has v7 v6.heap.size (aa L) 26:=(by rw[<-hw7];exact(Has.Rb _).row _);replace hP:=hP.on S7;replace hT:=hT.on S7;replace hZ:=hZ.on S7;replace c0:=hP.c0 e0;replace c1:=hP.c1 e1;replace c2:=hP.c2 e2;replace bj:=af bj S7;clear hw7 S7;generalize v6.heap.size=Ya at hL|-;cases so
    case false=>
      (go_wp2_with (with_reducible first|refine dA rfl _ rfl _ rfl hP Rc ?_|refine fL (by with_unfolding_all rfl) _ rfl _ rfl hP Rc ?_|refine aJ rfl _ rfl _ rfl _ (by assumption) rfl ?_|refine dD (by with_unfolding_all rfl) _ rfl _ rfl _ (by assumption) rfl ?_));go_ret;exact⟨by rw[Sg.out];rfl,bj⟩
    (go_wp2_with (with_reducible first|refine dA rfl _ rfl _ rfl hP Rc ?_|refine fL (by with_unfolding_all rfl) _ rfl _ rfl hP Rc ?_|refine aJ rfl _ rfl _ rfl _ (by assumption) rfl ?_|refine dD (by with_unfolding_all rfl) _ rfl _ rfl _ (by assumption) rfl ?_));refine au (TJ.out _) fun v8 SO=>?_;replace hP:=hP.on SO;replace hT:=hT.on SO;replace hZ:=hZ.on SO;replace hL:=hL.on SO;replace c0:=hP.c0 e0;replace c1:=hP.c1 e1;replace c2:=hP.c2 e2;replace bj:=af bj SO;clear SO;cases ls
    case true=>
      (go_wp2_with (with_reducible first|refine dA rfl _ rfl _ rfl hP Rc ?_|refine fL (by with_unfolding_all rfl) _ rfl _ rfl hP Rc ?_|refine aJ rfl _ rfl _ rfl _ (by assumption) rfl ?_|refine dD (by with_unfolding_all rfl) _ rfl _ rfl _ (by assumption) rfl ?_));go_ret;exact⟨by rw[Sg.out];rfl,bj⟩
    cases zr
    case false=>
      (go_wp2_with (with_reducible first|refine dA rfl _ rfl _ rfl hP Rc ?_|refine fL (by with_unfolding_all rfl) _ rfl _ rfl hP Rc ?_|refine aJ rfl _ rfl _ rfl _ (by assumption) rfl ?_|refine dD (by with_unfolding_all rfl) _ rfl _ rfl _ (by assumption) rfl ?_));refine au (KE.out _) fun v9 RM=>?_;replace hP:=hP.on RM;replace hT:=hT.on RM;replace hZ:=hZ.on RM;replace hL:=hL.on RM;replace c0:=hP.c0 e0;replace c1:=hP.c1 e1;replace c2:=hP.c2 e2;replace bj:=af bj RM;clear RM;(go_wp2_with (with_reducible first|refine dA rfl _ rfl _ rfl hP Rc ?_|refine fL (by with_unfolding_all rfl) _ rfl _ rfl hP Rc ?_|refine aJ rfl _ rfl _ rfl _ (by assumption) rfl ?_|refine dD (by with_unfolding_all rfl) _ rfl _ rfl _ (by assumption) rfl ?_));go_ret;exact⟨by rw[Sg.out];rfl,bj⟩
    (go_upto_region 16 with(with_reducible first|refine dA rfl _ rfl _ rfl hP Rc ?_|refine fL (by with_unfolding_all rfl) _ rfl _ rfl hP Rc ?_|refine aJ rfl _ rfl _ rfl _ (by assumption) rfl ?_|refine dD (by with_unfolding_all rfl) _ rfl _ rfl _ (by assumption) rfl ?_|refine lX rfl _ _ rfl _ 1 _ rfl rfl O3 _ hZ rfl ?_));generalize hw:World.setRow _ _ _=U5;replace hZ:Has U5 Tb (aa 1) 26:=(by rw[<-hw];exact hZ.row _);replace bj:Below w.heap.size w U5:=(by rw[<-hw];exact below_setRow bj HZ.out _);clear hw;(go_wp2_with (with_reducible first|refine aJ rfl _ rfl _ rfl _ hZ rfl ?_|refine dD (by with_unfolding_all rfl) _ rfl _ rfl _ hZ rfl ?_));refine au (KE.out _) fun v9 RM=>?_;replace hZ:=hZ.on RM;replace bj:=af bj RM;clear RM;(go_wp2_with fail);go_ret;exact⟨by rw[Sg.out];rfl,bj⟩
def tS(p:Pr)(b d:Int):Int:=if tok b p.lim=true then rt p b d else p.lim
variable{p:Pr}
theorem EI{b d:Int}(h:tok b p.lim=true):tS p b d=rt p b d:=if_pos h
theorem Pg(p:Pr)(ho:p.ok)(b fr RN d:Int)(hd:IntKind.i64.wrap (RN-fr)=d)(w:World):an 176 #[.agg (aE p),i_ b,i_ fr,i_ RN] w (i_ (tS p b d)):=by
 have hz:=ef ho;have KT:=fun w=>sF b p.lim w
 have KG:=fun w=>lQ p w
 by_cases h2:p.bK=false
 ·rw[h2]at KG;have e:tS p b d=p.lim:=by unfold tS rt;rw[h2,Bool.and_false];simp
  rw[e];exact xP.1 p hz b fr RN _ (h_ rfl) _ _ (h_ KT) (h_ KG) w
 rw[Bool.not_eq_false]at h2;rw[h2]at KG;by_cases h1:tok b p.lim=false
 ·rw[h1]at KT;have e:tS p b d=p.lim:=by unfold tS;rw[h1];rfl
  rw[e];exact xP.2 p hz b fr RN _ (h_ rfl) _ (h_ KT) (h_ KG) w
 rw[Bool.not_eq_false]at h1;rw[h1]at KT;obtain⟨s0,s1,s2⟩:=D6 h2;have hbb:=L8 h1;have e:tS p b d=if tg p.lim p.lim<p.jn b d then p.lim else(Nm.enc (max 1 (p.jn b d)):Nat):=by unfold tS rt;rw[h1,hbb,h2];rfl
 rw[e]
 have ha:p.jn b d=tg b p.lim*tk p.should d/p.should:=by
  show tg b b*tk p.should d/p.should=_;rw[p_ hbb,p_ h1]
 obtain⟨sn,hsn⟩:∃sn,sn=p.should:=⟨_,rfl⟩;rw[<-hsn]at s0 s1 s2 ha;have htk:=yQ sn d;have hti:=sk sn d;have htb:=kq b p.lim;have KL:=fun w=>sF p.lim p.lim w
 have hL:=kq p.lim p.lim;have f1:IntKind.i64.wrap (p.Rj*p.Rx)=(sn:Int):=by rw[<-s2,IntKind.wrap_i64];omega
 have f4:IntKind.i64.wrap ((sn:Int)*4)=((sn*4:Nat):Int):=by rw[IntKind.wrap_i64];omega
 have f5:IntKind.i64.wrap ((sn/4:Nat):Int)=((sn/4:Nat):Int):=by rw[IntKind.wrap_i64];omega
 have f3:(sn:Int)/4=((sn/4:Nat):Int):=by omega
 have KS:=fun w=>wD (tg b p.lim) (tk sn d) sn htb (by omega) s0 (by omega) w
 rw[<-ha]at KS;generalize p.jn b d=q at*;have hzl:q%Nm.ai<Nm.ai:=Nat.mod_lt _ (by rw[Nm.bJ];exact Nat.two_pow_pos _);refine Ob p hz b fr RN _ (h_ rfl) _ _ _ (h_ rfl) (h_ rfl) (q%Nm.ai) _ _ sn (sn/4) (sn*4) d f1 hd f3 f4 f5 (tk sn d) (h_ ?_) (decide (q<Nm.ai)) (decide (tg p.lim p.lim<q%Nm.ai)) (decide (q%Nm.ai=0)) (Nm.enc (if decide (q%Nm.ai=0)=true then 1 else q%Nm.ai):Nat) _ (h_ ?_) (h_ KT) (h_ KG) (h_ KS) (h_ KL) (h_ (mS _ _ hL hzl)) (Jt _ hzl _ rfl) (h_ (O1 _ ?_)) w
 ·by_cases c1:d<((sn/4:Nat):Int);exact .inl ⟨decide_eq_true c1,by omega,by omega⟩;obtain⟨dn,hdn⟩:=Int.eq_ofNat_of_zero_le (show 0<=d by omega);subst hdn;by_cases c2:sn*4<dn;exact .inr (.inl ⟨dn,rfl,by omega,c2,by omega⟩);exact .inr (.inr ⟨dn,rfl,by omega,c2,by omega⟩)
 ·by_cases h3:q<Nm.ai;rw[Nat.mod_eq_of_lt h3];by_cases h4:tg p.lim p.lim<q;rw[if_pos h4,if_pos (.inr (decide_eq_true h4))];rw[if_neg h4,if_neg (by simp only[decide_eq_true_eq,decide_eq_false_iff_not];omega)];by_cases h5:q=0;rw[if_pos (decide_eq_true h5),show max 1 q=1 by omega];rw[if_neg (by simp only[decide_eq_true_eq];omega),show max 1 q=q by omega];rw[if_pos (by omega),if_pos (.inl (decide_eq_false h3))]
 ·split;decide;exact hzl
def oH(p:Pr)(x:Pt)(own:Int):Int:=
 if x.h<=0 then p.lim else if bs p.Rj x.h=true then tS p x.b (IntKind.i64.wrap (x.t-x.f))else if p.Rt=false then x.b else if IntKind.i64.wrap (2*p.Rx)<IntKind.i64.wrap (own-x.t)then p.lim else x.r
theorem D8{x:Pt}{own:Int}(h:bs p.Rj x.h=true->0<x.h->tok x.b p.lim=true):oH p x own=nx p x own:=by unfold oH nx;by_cases h0:x.h<=0;rw[if_pos h0,if_pos h0];rw[if_neg h0,if_neg h0];by_cases h1:bs p.Rj x.h=true;rw[if_pos h1,if_pos h1,EI (h h1 (by omega))];rw[if_neg h1,if_neg h1]
theorem wv(p:Pr)(Rc:(aE p).size=83)(xh xb xt xf xr own Rj lim Rx d2 s2 m rb:Int)(a i m0 z l:Bool)(e0:Hid (p.lim=lim))(e1:Hid (p.Rj=Rj))(e2:Hid (p.Rx=Rx))(e4:Hid (p.Rt=z))(t0:decide (xh<=0)=a)(ti:decide (0<Rj)=i)(hm:xh.tmod Rj=m)(tm:(m==0)=m0)(g1:IntKind.i64.wrap (own-xt)=d2)(g2:IntKind.i64.wrap (2*Rx)=s2)(tl:decide (s2<d2)=l)(KR:Hid (bU 176 #[.agg (aE p),i_ xb,i_ xf,i_ xt] (i_ rb)))(w:World):an 147 #[.agg (aE p),i_ xh,i_ xb,i_ xt,i_ xf,i_ xr,i_ own] w (i_ (if a=true then lim else if(i&&m0)=true then rb else if z=false then xb else if l=true then lim else xr)):=by
 go_enter Tryz.func147,Tryz.ntmps147;go_upto_region 1 with fail
 generalize hw0:World.alloc _ _=v0;have bj:Bl w v0:=by rw[<-hw0];exact a_.alloc (by simp<;>omega) _
 have hP:aA v0 (w.heap.size) p:=by rw[<-hw0];exact Has.new _ _
 clear hw0;have c0:=hP.c0 e0;have c1:=hP.c1 e1;have c2:=hP.c2 e2;have c4:=hP.c4 e4;cases a
 case' false=>
  cases i
  case' true=>
   have hne:¬Rj=0:=by have:=of_decide_eq_true ti;omega
   cases m0
   case' true=>
    (go_wp2_with (with_reducible first|refine dA rfl _ rfl _ rfl hP Rc ?_|refine fL (by with_unfolding_all rfl) _ rfl _ rfl hP Rc ?_));refine au (KR.out _) fun v1 hb1=>?_;replace hP:=hP.on hb1;replace c0:=hP.c0 e0;replace c1:=hP.c1 e1;replace c2:=hP.c2 e2;replace c4:=hP.c4 e4;replace bj:=af bj hb1;clear hb1
 all_goals cases z
 all_goals cases l
 all_goals
  go_wp2_with (with_reducible first|refine dA rfl _ rfl _ rfl hP Rc ?_|refine fL (by with_unfolding_all rfl) _ rfl _ rfl hP Rc ?_)
  go_ret;exact⟨rfl,bj⟩
theorem Ll(p:Pr)(ho:p.ok)(x:Pt)(own:Int)(w:World):an 147 #[.agg (aE p),i_ x.h,i_ x.b,i_ x.t,i_ x.f,i_ x.r,i_ own] w (i_ (oH p x own)):=by obtain⟨xh,xb,xt,xf,xr⟩:=x;have h:=wv p (ef ho) xh xb xt xf xr own _ _ _ _ _ _ _ _ _ _ _ _ (h_ rfl) (h_ rfl) (h_ rfl) (h_ rfl) rfl rfl rfl rfl rfl rfl rfl (h_ (Pg p ho xb xf xt _ rfl)) w;simp only[decide_eq_true_eq]at h;exact h
def GS:List Value:=.slice none 0 0 :: .slice none 0 0::(List.replicate 8 (ay 0)++(i_ 0::(List.replicate 64 (aK)++[i_ 0,i_ 0,i_ 0])))
def tM:Pr:=⟨545259519,4,10,0,false,GS⟩
theorem pJ(a b c d:Int)(e:Bool):Pr.ok ⟨a,b,c,d,e,GS⟩:=show GS.length=78 from by decide
theorem vK(a b c d:Int)(e:Bool):Pr.one ⟨a,b,c,d,e,GS⟩:=by intro v hv;simp only[GS,List.mem_cons,List.mem_append,List.mem_replicate,List.not_mem_nil,or_false]at hv;rcases hv with rfl|rfl|⟨_,rfl⟩|rfl|⟨_,rfl⟩|rfl|rfl|rfl<;>rfl
theorem H_:Tryz.prog.built 32 [(0,i_ 545259519),(1,i_ 4),(2,i_ 10)]=some (aE tM):=by kernel_rfl
section
variable{w:World}{ops:Array Oper}{rest:List Oper}{o o2 o3:Oper}{a:Act}{Q:Exit->Act->World->Prop}
theorem G5(hgd:o.guard=none)(ho:o.op=.build 32 #[(0,.const (i_ 545259519)),(1,.const (i_ 4)),(2,.const (i_ 10))])(hk:wpList Tryz.prog ops Q rest (a.put o.dst (.agg (aE tM))) w):wpList Tryz.prog ops Q (o::rest) a w:=
 wpList_plain hgd fun _ hK=>by
  unfold Oper.wp execOp;simp only[ho,Sem.run_bind];rw[show(#[(0,.const (i_ 545259519)),(1,.const (i_ 4)),(2,.const (i_ 10))]:Array (Nat×Operand)).map (fun(i,x)=>(i,a.eval x))=#[(0,i_ 545259519),(1,i_ 4),(2,i_ 10)] by simp[Act.eval],run_build w 32 _ _ H_];exact hK _ _ hk
end
