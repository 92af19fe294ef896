import Derived.Test.YtkbjaadjnbgfbaaGreatDoorWBunQ24
import Derived.Test.YtkbjaadjnbgfbaaGreatDoorWBunQ27
set_option maxRecDepth 100000
set_option maxHeartbeats 8000000
namespace Go.Proofs.YtkbjaadjnbgfbaaGreatDoor.NN
open Go.RowKit Rg2
def Turned (k O x y:Nat) (l:Array Bool) (w:World):Prop:=(l.getD k false=false->Has w O (numC x) 26)/\(l.getD k false=true->Has w O (numC y) 26)
variable {k O x y i:Nat} {l:Array Bool} {w w':World}
theorem Turned.now (h:Turned k O x y l w) (hi:i<l.size) (hik:i ≠ k) (ha:(l.setIfInBounds i true).getD k false=false):Has w O (numC x) 26 :=
 h.1 (by rw[qx_ _ _ _ hi,if_neg hik] at ha;exact ha)
theorem Turned.pre (h:Turned k O x y l w) (hi:i<l.size) (hik:i ≠ k) (ha:(l.setIfInBounds i true).getD k false=false) (hw:Has w O (numC x) 26->Has w' O (numC x) 26):Turned k O x y (l.setIfInBounds i true) w' :=
 ⟨fun _=>hw (h.now hi hik ha),fun hk=>by rw[ha] at hk;cases hk⟩
theorem Turned.keep (h:Turned k O x y l w) (hi:i<l.size) (hik:i ≠ k:=by decide):Turned k O x y (l.setIfInBounds i true) w :=
 ⟨fun hk=>h.1 (by rw[qx_ _ _ _ hi,if_neg hik] at hk;exact hk),fun hk=>h.2 (by rw[qx_ _ _ _ hi,if_neg hik] at hk;exact hk)⟩
theorem qui_ (a:Act) (n:Nat) (u:Nat->Value) (hs:a.tmps.size=n) (hd:a.defers=[]) (hu:∀ t,u t=a.eval (.tmp t)):a=⟨((List.range n).map u).toArray,[]⟩:=by
 obtain ⟨tm,df⟩:=a;obtain rfl:df=[]:=hd;congr 1;apply Array.ext;simpa using hs;intro i h1 h2;simp only[List.getElem_toArray,List.getElem_map,List.getElem_range,hu];simp[Act.eval,Array.getD_eq_getD_getElem?,h1]
structure ScC (w wr:World) (R:Nat):Prop where
 below:Bl w wr
 r:Has wr R (numC 0) 26
theorem ScC.on {wr:World} {R:Nat} (h:ScC w wr R) (hb:Bl wr w'):ScC w w' R:=⟨tb_ h.below hb,h.r.on hb⟩
def scR (o1 r a m1 b m s:Nat) (g2:Bool):Nat->Value->Prop
 | 0,v=>v = .agg (numC o1)
 | 1,v=>v = iu_ (r:Int)
 | 2,v=>v = iu_ (a:Int)
 | 3,v=>v = iu_ (m1:Int)
 | 4,v=>v = iu_ (b:Int)
 | 5,v=>v = iu_ (m:Int)
 | 6,v=>v = .agg (numC m)
 | 7,v=>v = .tuple #[.agg (numC s),.bool g2]
 | 8,v=>v = .tuple #[.agg (numC s),.bool g2]
 | 9,v=>v = .agg (numC s)
 | 10,v=>v = .bool g2
 | 12,v=>v = .bool g2
 | _,_=>True
theorem grp0_:(∀(n c b q r o1 m1 m s:Nat) (g2:Bool) (_f1:IntKind.u64.wrap ((r:Int)*(c:Int))=(m1:Int)) (_f2:IntKind.u64.wrap ((m1:Int) / (b:Int))=(m:Int)) (_f3:(b:Int) ≠ 0)
  (_KO:Hid (Gv_ 214 #[.agg (numC n),iu_ (b:Int)] (.tuple #[.agg (numC q),iu_ (r:Int)])))
  (_KT:Hid (Gv_ 215 #[.agg (numC q),iu_ (c:Int)] (.tuple #[.agg (numC o1),.bool true])))
  (_KF:Hid (Gv_ 187 #[iu_ (m:Int)] (.agg (numC m))))
  (_KA:Hid (Gv_ 184 #[.agg (numC o1),.agg (numC m)] (.tuple #[.agg (numC s),.bool g2]))) (w:World),Ca_ 199 #[.agg (numC n),iu_ (c:Int),iu_ (b:Int)] w (.tuple #[.agg (numC s),.bool true]))/\
  (∀(n c b q r o1 m1 m s:Nat) (g2:Bool) (_f1:IntKind.u64.wrap ((r:Int)*(c:Int))=(m1:Int)) (_f2:IntKind.u64.wrap ((m1:Int) / (b:Int))=(m:Int)) (_f3:(b:Int) ≠ 0)
  (_KO:Hid (Gv_ 214 #[.agg (numC n),iu_ (b:Int)] (.tuple #[.agg (numC q),iu_ (r:Int)])))
  (_KT:Hid (Gv_ 215 #[.agg (numC q),iu_ (c:Int)] (.tuple #[.agg (numC o1),.bool false])))
  (_KF:Hid (Gv_ 187 #[iu_ (m:Int)] (.agg (numC m))))
  (_KA:Hid (Gv_ 184 #[.agg (numC o1),.agg (numC m)] (.tuple #[.agg (numC s),.bool g2]))) (w:World),Ca_ 199 #[.agg (numC n),iu_ (c:Int),iu_ (b:Int)] w (.tuple #[.agg (numC s),.bool g2])):=by
 refine ⟨fun n c b q r o1 m1 m s g2 f1 f2 f3 KO KT KF KA w=>?_,
  fun n c b q r o1 m1 m s g2 f1 f2 f3 KO KT KF KA w=>?_⟩
 all_goals
  go_enter Tryz.func199,Tryz.ntmps199;go_upto_region 1 with fail
  generalize hw0:World.alloc _ _=v0;have bj:Below w.heap.size w v0:=by rw[<-hw0];exact (br_.alloc (by simp <;> omega) _).alloc (by simp <;> omega) _
  have hN:Has v0 (w.heap.size) (numC n) 26:=by rw[<-hw0];exact (Has.new _ _).alloc _
  have hR:Has v0 (w.heap.size+1) (numC 0) 26:=by rw[<-hw0];exact Has.new1 _ (numC 0) _
  have hR_le:Hid (w.heap.size<=w.heap.size+1):=h_ (by omega);clear hw0;generalize hg1:w.heap.size+1=b_hR at hR hR_le |-;clear hg1;go_wp2_with (first|fail|(with_reducible refine qb_ rfl _ rfl _ rfl _ (by assumption) rfl ?_))
  refine (KO.out _).mono ?_;rintro e v1 ⟨rfl,hb1⟩;replace hN:=hN.on hb1;replace hR:=hR.on hb1;replace bj:=tb_ bj hb1;clear hb1;go_upto_region 2 with (with_reducible refine qc_ rfl _ _ rfl _ _ rfl rfl _ (Has.newz _) rfl ?_)
  generalize hw2:World.setRow _ _ _=v2;have hb2:Below v1.heap.size v1 v2:=bw_ hw2;have hQ:Has v2 v1.heap.size (numC q) 26:=by rw[<-hw2];exact (Has.newz _).row _
  replace hN:=hN.on hb2;replace hR:=hR.on hb2;replace bj:=tb_ bj hb2;clear hw2 hb2;generalize v1.heap.size=b_hQ at hQ |-;go_wp2_with (first|fail|(with_reducible refine qb_ rfl _ rfl _ rfl _ (by assumption) rfl ?_))
  refine (KT.out _).mono ?_;rintro e v3 ⟨rfl,hb3⟩;replace hN:=hN.on hb3;replace hR:=hR.on hb3;replace hQ:=hQ.on hb3;replace bj:=tb_ bj hb3;clear hb3;have hbel0:=bj;have hRlt:=hR.lt;go_upto_region 3 with (with_reducible refine qc_ rfl _ _ rfl _ _ rfl rfl _ (Has.newz _) rfl ?_)
  generalize hw4:World.setRow _ _ _=v4;have hb4:Below v3.heap.size v3 v4:=bw_ hw4;have hO:Has v4 v3.heap.size (numC o1) 26:=by rw[<-hw4];exact (Has.newz _).row _
  replace hN:=hN.on hb4;replace hR:=hR.on hb4;replace hQ:=hQ.on hb4;replace bj:=tb_ bj hb4;clear hw4 hb4;have HOle:Hid (w.heap.size<=v3.heap.size):=h_ hbel0.size;have hne:Hid (b_hR ≠ v3.heap.size):=h_ (by have:=hRlt;omega);clear hbel0 hRlt;generalize v3.heap.size=b_hO at hO HOle hne |-;have hT:ScC w v4 b_hR:=⟨bj,hR⟩;refine Rg2.qj_ (by kernel_rfl) (fun w'=>ScC w w' b_hR) (fun i v _=>scR o1 r c m1 b m s g2 i v) (fun l _ w'=>Turned 11 b_hO o1 s l w') (fun _ _=>True) (fun _ _=>trivial) (fun _ _ _ _ _ _ h=>h) (by kernel_rfl) ⟨hT.below.drew,hT.r.drew⟩ ?_ ?_ ?_;exact fun l hl=>⟨fun _=>hO.drew,fun hk=>(by rw[hl] at hk;cases hk)⟩
  ·intro i o lz a wx ho hn dq Z;have hC:=Z.c;have hI:=Z.i;have hi:i<13:=(Array.getElem?_eq_some_iff.1 ho).1;obtain rfl|rfl|rfl|rfl|rfl|rfl|rfl|rfl|rfl|rfl|rfl|rfl|rfl:i=0\/i=1\/i=2\/i=3\/i=4\/i=5\/i=6\/i=7\/i=8\/i=9\/i=10\/i=11\/i=12:=by omega
   all_goals obtain rfl:=Option.some.inj ho
   exact qg_ (C:=fun w'=>ScC w w' b_hR) (S:=fun _ _=>True) (R:=fun v _=>scR o1 r c m1 b m s g2 0 v) (J:=fun _ w'=>Turned 11 b_hO o1 s (lz.setIfInBounds 0 true) w') (fun _ _=>trivial) hC (qa_ rfl) (qad_ rfl (Z.old' 10) (hI.now (by rw[Z.size];decide) (by decide) (ai_ Z hn 8))) rfl (hI.pre (by rw[Z.size];decide) (by decide) (ai_ Z hn 8) (fun h=>h));exact qg_ (C:=fun w'=>ScC w w' b_hR) (S:=fun _ _=>True) (R:=fun v _=>scR o1 r c m1 b m s g2 1 v) (J:=fun _ w'=>Turned 11 b_hO o1 s (lz.setIfInBounds 1 true) w') (fun _ _=>trivial) hC (qa_ rfl) (qr_ rfl) (Z.old' 9) (hI.pre (by rw[Z.size];decide) (by decide) (ai_ Z hn 8) (fun h=>h));exact qg_ (C:=fun w'=>ScC w w' b_hR) (S:=fun _ _=>True) (R:=fun v _=>scR o1 r c m1 b m s g2 2 v) (J:=fun _ w'=>Turned 11 b_hO o1 s (lz.setIfInBounds 2 true) w') (fun _ _=>trivial) hC (qa_ rfl) (qr_ rfl) (Z.old' 1) (hI.pre (by rw[Z.size];decide) (by decide) (ai_ Z hn 8) (fun h=>h));exact qg_ (C:=fun w'=>ScC w w' b_hR) (S:=fun _ _=>True) (R:=fun v _=>scR o1 r c m1 b m s g2 3 v) (J:=fun _ w'=>Turned 11 b_hO o1 s (lz.setIfInBounds 3 true) w') (fun _ _=>trivial) hC (qa_ rfl) (qafw_ rfl (gd_ Z dq 1 27) (gd_ Z dq 2 28) (m1:Int) f1) rfl (hI.pre (by rw[Z.size];decide) (by decide) (ai_ Z hn 8) (fun h=>h));exact qg_ (C:=fun w'=>ScC w w' b_hR) (S:=fun _ _=>True) (R:=fun v _=>scR o1 r c m1 b m s g2 4 v) (J:=fun _ w'=>Turned 11 b_hO o1 s (lz.setIfInBounds 4 true) w') (fun _ _=>trivial) hC (qa_ rfl) (qr_ rfl) (Z.old' 2) (hI.pre (by rw[Z.size];decide) (by decide) (ai_ Z hn 8) (fun h=>h));exact qg_ (C:=fun w'=>ScC w w' b_hR) (S:=fun _ _=>True) (R:=fun v _=>scR o1 r c m1 b m s g2 5 v) (J:=fun _ w'=>Turned 11 b_hO o1 s (lz.setIfInBounds 5 true) w') (fun _ _=>trivial) hC (qa_ rfl) (qafx_ rfl (gd_ Z dq 3 29) (gd_ Z dq 4 30) f3 (m:Int) f2) rfl (hI.pre (by rw[Z.size];decide) (by decide) (ai_ Z hn 8) (fun h=>h))
   ·have e31:a.eval (.tmp 31) = iu_ (m:Int):=Z.got 5 _ 31 rfl (dq ⟨5,.data⟩ (by simp) rfl) rfl;exact qbi_ (C:=fun w'=>ScC w w' b_hR) (S:=fun _ _=>True) (R:=fun v _=>scR o1 r c m1 b m s g2 6 v) (J:=fun _ w'=>Turned 11 b_hO o1 s (lz.setIfInBounds 6 true) w') (qa_ rfl) (f:=187) (args:=#[a.eval (.tmp 31)]) (by kernel_rfl) (by rw[e31];exact KF.out wx) (fun w' hb=>⟨hC.on hb,trivial,rfl,hI.pre (by rw[Z.size];decide) (by decide) (ai_ Z hn 8) (fun h=>h.on hb)⟩)
   ·have e26:a.eval (.tmp 26) = .agg (numC o1):=Z.got 0 _ 26 rfl (dq ⟨0,.data⟩ (by simp) rfl) rfl;have e32:a.eval (.tmp 32) = .agg (numC m):=Z.got 6 _ 32 rfl (dq ⟨6,.data⟩ (by simp) rfl) rfl;exact qbi_ (C:=fun w'=>ScC w w' b_hR) (S:=fun _ _=>True) (R:=fun v _=>scR o1 r c m1 b m s g2 7 v) (J:=fun _ w'=>Turned 11 b_hO o1 s (lz.setIfInBounds 7 true) w') (qa_ rfl) (f:=184) (args:=#[a.eval (.tmp 26),a.eval (.tmp 32)]) (by kernel_rfl) (by rw[e26,e32];exact KA.out wx) (fun w' hb=>⟨hC.on hb,trivial,rfl,hI.pre (by rw[Z.size];decide) (by decide) (ai_ Z hn 8) (fun h=>h.on hb)⟩)
   exact qg_ (C:=fun w'=>ScC w w' b_hR) (S:=fun _ _=>True) (R:=fun v _=>scR o1 r c m1 b m s g2 8 v) (J:=fun _ w'=>Turned 11 b_hO o1 s (lz.setIfInBounds 8 true) w') (fun _ _=>trivial) hC (qa_ rfl) (qr_ rfl) (gd_ Z dq 7 33) (hI.pre (by rw[Z.size];decide) (by decide) (ai_ Z hn 8) (fun h=>h));exact qg_ (C:=fun w'=>ScC w w' b_hR) (S:=fun _ _=>True) (R:=fun v _=>scR o1 r c m1 b m s g2 9 v) (J:=fun _ w'=>Turned 11 b_hO o1 s (lz.setIfInBounds 9 true) w') (fun _ _=>trivial) hC (qa_ rfl) (qz_ rfl (gd_ Z dq 8 25) rfl) rfl (hI.pre (by rw[Z.size];decide) (by decide) (ai_ Z hn 8) (fun h=>h));exact qg_ (C:=fun w'=>ScC w w' b_hR) (S:=fun _ _=>True) (R:=fun v _=>scR o1 r c m1 b m s g2 10 v) (J:=fun _ w'=>Turned 11 b_hO o1 s (lz.setIfInBounds 10 true) w') (fun _ _=>trivial) hC (qa_ rfl) (qz_ rfl (gd_ Z dq 8 25) rfl) rfl (hI.keep (by rw[Z.size];decide) (by decide));have hO:=hI.1 (by exact hn);exact qbe_ (C:=fun w'=>ScC w w' b_hR) (S:=fun _ _=>True) (R:=fun v _=>scR o1 r c m1 b m s g2 11 v) (J:=fun _ w'=>Turned 11 b_hO o1 s (lz.setIfInBounds 11 true) w') (qa_ rfl) (qap_ rfl (Z.old' 10) (gd_ Z dq 9 34) hO rfl) ⟨below_setRow hC.below HOle.out _,hC.r.otherRow _ _ hne.out⟩ trivial trivial ⟨fun hk=>(by rw[qx_ _ _ _ (by rw[Z.size];decide),if_pos rfl] at hk;cases hk),fun _=>hO.row _⟩;exact qg_ (C:=fun w'=>ScC w w' b_hR) (S:=fun _ _=>True) (R:=fun v _=>scR o1 r c m1 b m s g2 12 v) (J:=fun _ w'=>Turned 11 b_hO o1 s (lz.setIfInBounds 12 true) w') (fun _ _=>trivial) hC (qa_ rfl) (qan_ rfl) (gd_ Z dq 10 35) (hI.keep (by rw[Z.size];decide) (by decide))
  ·intro lz a wx hall Z;have hC:=Z.c;have hO2:=Z.i.2 (hall 11 (by decide));have hR2:=hC.r;have hbel2:=hC.below;obtain ⟨u,hu⟩:∃ u:Nat->Value,∀ t,u t=a.eval (.tmp t):=⟨_,fun _=>rfl⟩;rw[qui_ a 41 u Z.tsize Z.defers hu];have f0:=Z.old' 0;have f1:=Z.old' 1;have f2:=Z.old' 2;have f3:=Z.old' 3;have f4:=Z.old' 4;have f5:=Z.old' 5;have f6:=Z.old' 6;have f7:=Z.old' 7;have f8:=Z.old' 8;have f9:=Z.old' 9;have f10:=Z.old' 10;have f11:=Z.old' 11;have f13:=Z.old' 13;have f14:=Z.old' 14;have f15:=Z.old' 15;have f16:=Z.old' 16;have f17:=Z.old' 17;have f18:=Z.old' 18;have f19:=Z.old' 19;have f20:=Z.old' 20;have f21:=Z.old' 21;have f22:=Z.old' 22;have f23:=Z.old' 23;have f24:=Z.old' 24;have f36:=Z.old' 36;have f37:=Z.old' 37;have f38:=Z.old' 38;have f39:=Z.old' 39;have f40:=Z.old' 40;have f12:=Z.got 12 _ 12 rfl (hall 12 (by decide)) rfl;simp only[<-hu] at f0 f1 f2 f3 f4 f5 f6 f7 f8 f9 f10 f11 f12 f13 f14 f15 f16 f17 f18 f19 f20 f21 f22 f23 f24 f36 f37 f38 f39 f40;simp[Act.eval] at f0 f1 f2 f3 f4 f5 f6 f7 f8 f9 f10 f11 f13 f14 f15 f16 f17 f18 f19 f20 f21 f22 f23 f24 f36 f37 f38 f39 f40;clear hu Z hall;simp only[List.range,List.range.loop,List.map_cons,List.map_nil];rw[f0,f1,f2,f3,f4,f5,f6,f7,f8,f9,f10,f11,f12,f13,f14,f15,f16,f17,f18,f19,f20,f21,f22,f23,f24,f36,f37,f38,f39,f40];clear f0 f1 f2 f3 f4 f5 f6 f7 f8 f9 f10 f11 f12 f13 f14 f15 f16 f17 f18 f19 f20 f21 f22 f23 f24 f36 f37 f38 f39 f40;clear hN hQ hO hR bj hT hC;go_wp2_with (with_reducible first|refine qb_ rfl _ rfl _ rfl _ hO2 rfl ?_|refine qc_ rfl _ _ rfl _ _ rfl rfl _ hR2 rfl ?_)
   exact bodyPost_ret (qag_ Tryz.results199 _ _ _ _ rfl rfl (hR2.row _)) rfl ⟨rfl,below_setRow hbel2 hR_le.out _⟩
theorem qyy_ (n a b:Nat) (hn:n<Nm.big) (ha:a<4294967296) (hb:b<4294967296) (h0:b ≠ 0) (w:World) :
  Ca_ 199 #[.agg (numC n),iu_ (a:Int),iu_ (b:Int)] w (.tuple #[.agg (numC (n*a / b % Nm.big)),.bool (decide (Nm.big<=n*a / b))]):=by
 have hr:n % b<b:=Nat.mod_lt _ (by omega)
 have hm1:n % b*a<18446744073709551616:=by
  have:=Nat.mul_le_mul (show n % b<=4294967295 by omega) (show a<=4294967295 by omega);omega
 have hm:n % b*a / b<=n % b*a:=Nat.div_le_self _ _;have KO:=fun w=>over n b hn (by omega) w
 rw[if_neg h0] at KO;have hq:n / b<Nm.big:=Nat.lt_of_le_of_lt (Nat.div_le_self _ _) hn;have KT:=fun w=>times (n / b) a hq (by omega) w
 have KF:=fun w=>of (n % b*a / b) (by omega) w
 have KA:=fun w=>add (n / b*a % Nm.big) (n % b*a / b) (Nat.mod_lt _ (by decide)) (by unfold Nm.big;omega) w
 have f1:IntKind.u64.wrap (((n % b:Nat):Int)*(a:Int))=((n % b*a:Nat):Int):=by rw[<-Int.natCast_mul,IntKind.wrap_u64];omega
 have f2:IntKind.u64.wrap (((n % b*a:Nat):Int) / (b:Int))=((n % b*a / b:Nat):Int):=by
  rw[<-Int.natCast_ediv,IntKind.wrap_u64];have h9:=Nat.lt_of_le_of_lt hm hm1;generalize n % b*a / b=M at h9 |-;omega
 have e1:=qyp_ n a b (by omega);have e2:=qyq_ (n / b*a) (n % b*a / b);have e3:=qty_ (n / b*a) (n % b*a / b);rw[<-e1] at e2 e3;rw[<-e2,<-e3];by_cases hg:Nm.big<=n / b*a;rw[decide_eq_true hg] at KT |-;rw[Bool.true_or];exact grp0_.1 n a b _ _ _ _ _ _ _ f1 f2 (by omega) (h_ KO) (h_ KT) (h_ KF) (h_ KA) w;rw[decide_eq_false hg] at KT |-;rw[Bool.false_or];exact grp0_.2 n a b _ _ _ _ _ _ _ f1 f2 (by omega) (h_ KO) (h_ KT) (h_ KF) (h_ KA) w
end Go.Proofs.YtkbjaadjnbgfbaaGreatDoor.NN
namespace Go.Proofs.YtkbjaadjnbgfbaaGreatDoor.NN
open Go.RowKit
theorem qagc_ (p : Pr) (hz : (prA p).size = 83) (b fr to' lim : Int) (e0 : Hid (p.lim = lim)) (t : Nat)
    (KT:Hid (Gv_ 181 #[i_ b,i_ b] (.tuple #[.agg (numC t),.bool false])))
     (w:World) :
    Ca_ 180 #[.agg (prA p),i_ b,i_ fr,i_ to'] w (i_ lim):=by
  have hP_z:=hz;go_enter Tryz.func180,Tryz.ntmps180;go_upto_region 1 with fail
  generalize hw0:World.alloc _ _=v0;have bj:Below w.heap.size w v0:=by rw[<-hw0];exact br_.alloc (by simp <;> omega) _
  have hP:PrAt v0 (w.heap.size) p:=by rw[<-hw0];exact Has.new _ _
  clear hw0;have c0:=hP.c0 e0;go_wp2_with (with_reducible first|refine qq_ rfl _ rfl _ rfl hP hP_z ?_|refine ql_ (by with_unfolding_all rfl) _ rfl _ rfl hP hP_z ?_)
  refine (KT.out _).mono ?_;rintro e v1 ⟨rfl,hb1⟩;replace hP:=hP.on hb1;replace c0:=hP.c0 e0;replace bj:=tb_ bj hb1;clear hb1;go_upto_region 2 with (with_reducible refine qc_ rfl _ _ rfl _ _ rfl rfl _ (Has.newz _) rfl ?_)
  generalize hw2:World.setRow _ _ _=v2;have hb2:Below v1.heap.size v1 v2:=bw_ hw2;have hT:Has v2 v1.heap.size (numC t) 26:=by rw[<-hw2];exact (Has.newz _).row _
  replace hP:=hP.on hb2;replace c0:=hP.c0 e0;replace bj:=tb_ bj hb2;clear hw2 hb2;generalize v1.heap.size=b_hT at hT |-;go_wp2_with (with_reducible first|refine qq_ rfl _ rfl _ rfl hP hP_z ?_|refine ql_ (by with_unfolding_all rfl) _ rfl _ rfl hP hP_z ?_|refine qb_ rfl _ rfl _ rfl _ hT rfl ?_|refine qf_ (by with_unfolding_all rfl) _ rfl _ rfl _ hT rfl ?_)
  go_ret;exact ⟨rfl,bj⟩
theorem ret_bad (p : Pr) (hz : (prA p).size = 83) (b fr to' lim : Int) (e0 : Hid (p.lim = lim)) (t : Nat)
    (KT:Hid (Gv_ 181 #[i_ b,i_ b] (.tuple #[.agg (numC t),.bool true])))
    (KG:Hid (Gv_ 168 #[.agg (prA p)] (.bool false)))
     (w:World) :
    Ca_ 180 #[.agg (prA p),i_ b,i_ fr,i_ to'] w (i_ lim):=by
  have hP_z:=hz;go_enter Tryz.func180,Tryz.ntmps180;go_upto_region 1 with fail
  generalize hw0:World.alloc _ _=v0;have bj:Below w.heap.size w v0:=by rw[<-hw0];exact br_.alloc (by simp <;> omega) _
  have hP:PrAt v0 (w.heap.size) p:=by rw[<-hw0];exact Has.new _ _
  clear hw0;have c0:=hP.c0 e0;go_wp2_with (with_reducible first|refine qq_ rfl _ rfl _ rfl hP hP_z ?_|refine ql_ (by with_unfolding_all rfl) _ rfl _ rfl hP hP_z ?_)
  refine (KT.out _).mono ?_;rintro e v1 ⟨rfl,hb1⟩;replace hP:=hP.on hb1;replace c0:=hP.c0 e0;replace bj:=tb_ bj hb1;clear hb1;go_upto_region 2 with (with_reducible refine qc_ rfl _ _ rfl _ _ rfl rfl _ (Has.newz _) rfl ?_)
  generalize hw2:World.setRow _ _ _=v2;have hb2:Below v1.heap.size v1 v2:=bw_ hw2;have hT:Has v2 v1.heap.size (numC t) 26:=by rw[<-hw2];exact (Has.newz _).row _
  replace hP:=hP.on hb2;replace c0:=hP.c0 e0;replace bj:=tb_ bj hb2;clear hw2 hb2;generalize v1.heap.size=b_hT at hT |-;go_wp2_with (with_reducible first|refine qq_ rfl _ rfl _ rfl hP hP_z ?_|refine ql_ (by with_unfolding_all rfl) _ rfl _ rfl hP hP_z ?_|refine qb_ rfl _ rfl _ rfl _ hT rfl ?_|refine qf_ (by with_unfolding_all rfl) _ rfl _ rfl _ hT rfl ?_)
  refine (KG.out _).mono ?_;rintro e v3 ⟨rfl,hb3⟩;replace hP:=hP.on hb3;replace hT:=hT.on hb3;replace c0:=hP.c0 e0;replace bj:=tb_ bj hb3;clear hb3;go_wp2_with (with_reducible first|refine qq_ rfl _ rfl _ rfl hP hP_z ?_|refine ql_ (by with_unfolding_all rfl) _ rfl _ rfl hP hP_z ?_|refine qb_ rfl _ rfl _ rfl _ hT rfl ?_|refine qf_ (by with_unfolding_all rfl) _ rfl _ rfl _ hT rfl ?_)
  go_ret;exact ⟨rfl,bj⟩
theorem qagd_ (p : Pr) (hz : (prA p).size = 83) (b fr to' lim : Int) (e0 : Hid (p.lim = lim)) (t : Nat)
    (ivl spc:Int) (e1:Hid (p.ivl=ivl)) (e2:Hid (p.spc=spc)) (z L:Nat) (oL:Bool) (sn s4 s16:Nat) (d:Int) (f1:IntKind.i64.wrap (ivl*spc)=(sn:Int)) (f2:IntKind.i64.wrap (to' - fr)=d) (f3:(sn:Int) / 4=(s4:Int)) (f4:IntKind.i64.wrap ((sn:Int)*4)=(s16:Int)) (f5:IntKind.i64.wrap (s4:Int)=(s4:Int))
    (tk:Nat) (mx:Int) (f6:mx=max d (s4:Int)) (f7:(tk:Int)=min mx (s16:Int)) (f8:IntKind.u64.wrap (tk:Int)=(tk:Int)) (f9:IntKind.u64.wrap (sn:Int)=(sn:Int))
    (so ls zr:Bool) (en res:Int) (HRes:Hid (res=if so=true\/ls=true then lim else en))
    (KT:Hid (Gv_ 181 #[i_ b,i_ b] (.tuple #[.agg (numC t),.bool true])))
    (KG:Hid (Gv_ 168 #[.agg (prA p)] (.bool true)))
    (KS:Hid (Gv_ 199 #[.agg (numC t),iu_ (tk:Int),iu_ (sn:Int)] (.tuple #[.agg (numC z),.bool so])))
    (KL:Hid (Gv_ 181 #[i_ lim,i_ lim] (.tuple #[.agg (numC L),.bool oL])))
    (KLess:Hid (Gv_ 200 #[.agg (numC L),.agg (numC z)] (.bool ls)))
    (KZ:Hid (Gv_ 163 #[.agg (numC z)] (.bool zr)))
    (KO:Hid (Gv_ 187 #[iu_ 1] (.agg (numC 1))))
    (KE:Hid (Gv_ 201 #[.agg (numC (if zr=true then 1 else z))] (i_ en)))
     (w:World) :
    Ca_ 180 #[.agg (prA p),i_ b,i_ fr,i_ to'] w (i_ res):=by
  have hP_z:=hz;go_enter Tryz.func180,Tryz.ntmps180;go_upto_region 1 with fail
  generalize hw0:World.alloc _ _=v0;have bj:Below w.heap.size w v0:=by rw[<-hw0];exact br_.alloc (by simp <;> omega) _
  have hP:PrAt v0 (w.heap.size) p:=by rw[<-hw0];exact Has.new _ _
  clear hw0;have c0:=hP.c0 e0;have c1:=hP.c1 e1;have c2:=hP.c2 e2;go_wp2_with (with_reducible first|refine qq_ rfl _ rfl _ rfl hP hP_z ?_|refine ql_ (by with_unfolding_all rfl) _ rfl _ rfl hP hP_z ?_)
  refine (KT.out _).mono ?_;rintro e v1 ⟨rfl,hb1⟩;replace hP:=hP.on hb1;replace c0:=hP.c0 e0;replace c1:=hP.c1 e1;replace c2:=hP.c2 e2;replace bj:=tb_ bj hb1;clear hb1;go_upto_region 2 with (with_reducible refine qc_ rfl _ _ rfl _ _ rfl rfl _ (Has.newz _) rfl ?_)
  generalize hw2:World.setRow _ _ _=v2;have hb2:Below v1.heap.size v1 v2:=bw_ hw2;have hT:Has v2 v1.heap.size (numC t) 26:=by rw[<-hw2];exact (Has.newz _).row _
  replace hP:=hP.on hb2;replace c0:=hP.c0 e0;replace c1:=hP.c1 e1;replace c2:=hP.c2 e2;replace bj:=tb_ bj hb2;clear hw2 hb2;generalize v1.heap.size=b_hT at hT |-;go_wp2_with (with_reducible first|refine qq_ rfl _ rfl _ rfl hP hP_z ?_|refine ql_ (by with_unfolding_all rfl) _ rfl _ rfl hP hP_z ?_|refine qb_ rfl _ rfl _ rfl _ hT rfl ?_|refine qf_ (by with_unfolding_all rfl) _ rfl _ rfl _ hT rfl ?_)
  refine (KG.out _).mono ?_;rintro e v3 ⟨rfl,hb3⟩;replace hP:=hP.on hb3;replace hT:=hT.on hb3;replace c0:=hP.c0 e0;replace c1:=hP.c1 e1;replace c2:=hP.c2 e2;replace bj:=tb_ bj hb3;clear hb3;have M1:=max_is (P:=Tryz.prog) d (s4:Int) mx f6;have M2:=min_is (P:=Tryz.prog) mx (s16:Int) (tk:Int) f7;clear f6 f7;go_wp2_with (with_reducible first|refine qq_ rfl _ rfl _ rfl hP hP_z ?_|refine ql_ (by with_unfolding_all rfl) _ rfl _ rfl hP hP_z ?_|refine qb_ rfl _ rfl _ rfl _ hT rfl ?_|refine qf_ (by with_unfolding_all rfl) _ rfl _ rfl _ hT rfl ?_)
  refine (KS.out _).mono ?_;rintro e v4 ⟨rfl,hb4⟩;replace hP:=hP.on hb4;replace hT:=hT.on hb4;replace c0:=hP.c0 e0;replace c1:=hP.c1 e1;replace c2:=hP.c2 e2;replace bj:=tb_ bj hb4;clear hb4;have hbel0:=bj;go_upto_region 7 with (with_reducible refine qc_ rfl _ _ rfl _ _ rfl rfl _ (Has.newz _) rfl ?_)
  generalize hw5:World.setRow _ _ _=v5;have hb5:Below v4.heap.size v4 v5:=bw_ hw5;have hZ:Has v5 v4.heap.size (numC z) 26:=by rw[<-hw5];exact (Has.newz _).row _
  replace hP:=hP.on hb5;replace hT:=hT.on hb5;replace c0:=hP.c0 e0;replace c1:=hP.c1 e1;replace c2:=hP.c2 e2;replace bj:=tb_ bj hb5;clear hw5 hb5;have HZ:Hid (w.heap.size<=v4.heap.size):=h_ hbel0.size;clear hbel0;generalize v4.heap.size=b_hZ at hZ HZ |-;clear M1 M2;go_wp2_with (with_reducible first|refine qq_ rfl _ rfl _ rfl hP hP_z ?_|refine ql_ (by with_unfolding_all rfl) _ rfl _ rfl hP hP_z ?_|refine qb_ rfl _ rfl _ rfl _ (by assumption) rfl ?_|refine qf_ (by with_unfolding_all rfl) _ rfl _ rfl _ (by assumption) rfl ?_)
  refine (KL.out _).mono ?_;rintro e v6 ⟨rfl,hb6⟩;replace hP:=hP.on hb6;replace hT:=hT.on hb6;replace hZ:=hZ.on hb6;replace c0:=hP.c0 e0;replace c1:=hP.c1 e1;replace c2:=hP.c2 e2;replace bj:=tb_ bj hb6;clear hb6;go_upto_region 8 with (with_reducible refine qc_ rfl _ _ rfl _ _ rfl rfl _ (Has.newz _) rfl ?_)
  generalize hw7:World.setRow _ _ _=v7;have hb7:Below v6.heap.size v6 v7:=bw_ hw7;have hL:Has v7 v6.heap.size (numC L) 26:=by rw[<-hw7];exact (Has.newz _).row _
  replace hP:=hP.on hb7;replace hT:=hT.on hb7;replace hZ:=hZ.on hb7;replace c0:=hP.c0 e0;replace c1:=hP.c1 e1;replace c2:=hP.c2 e2;replace bj:=tb_ bj hb7;clear hw7 hb7;generalize v6.heap.size=b_hL at hL |-;cases so
  case true=>
    (go_wp2_with (with_reducible first|refine qq_ rfl _ rfl _ rfl hP hP_z ?_|refine ql_ (by with_unfolding_all rfl) _ rfl _ rfl hP hP_z ?_|refine qb_ rfl _ rfl _ rfl _ (by assumption) rfl ?_|refine qf_ (by with_unfolding_all rfl) _ rfl _ rfl _ (by assumption) rfl ?_));go_ret;exact ⟨by rw[HRes.out];rfl,bj⟩
  go_wp2_with (with_reducible first|refine qq_ rfl _ rfl _ rfl hP hP_z ?_|refine ql_ (by with_unfolding_all rfl) _ rfl _ rfl hP hP_z ?_|refine qb_ rfl _ rfl _ rfl _ (by assumption) rfl ?_|refine qf_ (by with_unfolding_all rfl) _ rfl _ rfl _ (by assumption) rfl ?_)
  refine (KLess.out _).mono ?_;rintro e v8 ⟨rfl,hb8⟩;replace hP:=hP.on hb8;replace hT:=hT.on hb8;replace hZ:=hZ.on hb8;replace hL:=hL.on hb8;replace c0:=hP.c0 e0;replace c1:=hP.c1 e1;replace c2:=hP.c2 e2;replace bj:=tb_ bj hb8;clear hb8;cases ls
  case true=>
    (go_wp2_with (with_reducible first|refine qq_ rfl _ rfl _ rfl hP hP_z ?_|refine ql_ (by with_unfolding_all rfl) _ rfl _ rfl hP hP_z ?_|refine qb_ rfl _ rfl _ rfl _ (by assumption) rfl ?_|refine qf_ (by with_unfolding_all rfl) _ rfl _ rfl _ (by assumption) rfl ?_));go_ret;exact ⟨by rw[HRes.out];rfl,bj⟩
  go_wp2_with (with_reducible first|refine qq_ rfl _ rfl _ rfl hP hP_z ?_|refine ql_ (by with_unfolding_all rfl) _ rfl _ rfl hP hP_z ?_|refine qb_ rfl _ rfl _ rfl _ (by assumption) rfl ?_|refine qf_ (by with_unfolding_all rfl) _ rfl _ rfl _ (by assumption) rfl ?_)
  refine (KZ.out _).mono ?_;rintro e v9 ⟨rfl,hb9⟩;replace hP:=hP.on hb9;replace hT:=hT.on hb9;replace hZ:=hZ.on hb9;replace hL:=hL.on hb9;replace c0:=hP.c0 e0;replace c1:=hP.c1 e1;replace c2:=hP.c2 e2;replace bj:=tb_ bj hb9;clear hb9;cases zr
  case false=>
    (go_wp2_with (with_reducible first|refine qq_ rfl _ rfl _ rfl hP hP_z ?_|refine ql_ (by with_unfolding_all rfl) _ rfl _ rfl hP hP_z ?_|refine qb_ rfl _ rfl _ rfl _ (by assumption) rfl ?_|refine qf_ (by with_unfolding_all rfl) _ rfl _ rfl _ (by assumption) rfl ?_));refine (KE.out _).mono ?_;rintro e v10 ⟨rfl,hb10⟩;replace hP:=hP.on hb10;replace hT:=hT.on hb10;replace hZ:=hZ.on hb10;replace hL:=hL.on hb10;replace c0:=hP.c0 e0;replace c1:=hP.c1 e1;replace c2:=hP.c2 e2;replace bj:=tb_ bj hb10;clear hb10;(go_wp2_with (with_reducible first|refine qq_ rfl _ rfl _ rfl hP hP_z ?_|refine ql_ (by with_unfolding_all rfl) _ rfl _ rfl hP hP_z ?_|refine qb_ rfl _ rfl _ rfl _ (by assumption) rfl ?_|refine qf_ (by with_unfolding_all rfl) _ rfl _ rfl _ (by assumption) rfl ?_));go_ret;exact ⟨by rw[HRes.out];rfl,bj⟩
  go_wp2_with (with_reducible first|refine qq_ rfl _ rfl _ rfl hP hP_z ?_|refine ql_ (by with_unfolding_all rfl) _ rfl _ rfl hP hP_z ?_|refine qb_ rfl _ rfl _ rfl _ (by assumption) rfl ?_|refine qf_ (by with_unfolding_all rfl) _ rfl _ rfl _ (by assumption) rfl ?_)
  refine (KO.out _).mono ?_;rintro e v10 ⟨rfl,hb10⟩;replace hP:=hP.on hb10;replace hT:=hT.on hb10;replace hZ:=hZ.on hb10;replace hL:=hL.on hb10;replace c0:=hP.c0 e0;replace c1:=hP.c1 e1;replace c2:=hP.c2 e2;replace bj:=tb_ bj hb10;clear hb10;go_upto_region 12 with (with_reducible refine qc_ rfl _ _ rfl _ _ rfl rfl _ hZ rfl ?_)
  generalize hw:World.setRow _ _ _=v_s;replace hZ:Has v_s b_hZ (numC 1) 26:=by rw[<-hw];exact hZ.row _
  replace bj:Below w.heap.size w v_s:=by rw[<-hw];exact below_setRow bj HZ.out _
  clear hw;go_wp2_with (with_reducible first|refine qb_ rfl _ rfl _ rfl _ hZ rfl ?_|refine qf_ (by with_unfolding_all rfl) _ rfl _ rfl _ hZ rfl ?_)
  refine (KE.out _).mono ?_;rintro e v11 ⟨rfl,hb11⟩;replace hZ:=hZ.on hb11;replace bj:=tb_ bj hb11;clear hb11;go_wp2_with fail
  go_ret;exact ⟨by rw[HRes.out];rfl,bj⟩
def Pr.should (p:Pr):Nat:=(p.ivl*p.spc).toNat
def Pr.anew (p:Pr) (b d:Int):Nat:=Go.Proofs.YtkbjaadjnbgfbaaGreatDoor.NN.anew (tg b b) p.should d
def rt (p:Pr) (b d:Int):Int:=if (tok b b && p.good)=true then (if tg p.lim p.lim<p.anew b d then p.lim else (Nm.enc (max 1 (p.anew b d)):Nat)) else p.lim
variable {p:Pr}
theorem quj_ (h:p.good=true):tok p.lim p.lim=true/\2<=p.ivl/\p.ivl<=64/\1<=p.spc/\p.spc<=10000/\0<=p.fut/\p.fut<4294967296:=by
 unfold Pr.good at h;simp only[Bool.and_eq_true,decide_eq_true_eq] at h;obtain ⟨⟨⟨⟨⟨⟨h0,h1⟩,h2⟩,h3⟩,h4⟩,h5⟩,h6⟩:=h;exact ⟨h0,h1,h2,h3,h4,h5,h6⟩
theorem qoq_ (h:p.good=true):0<p.should/\p.should<=640000/\(p.should:Int)=p.ivl*p.spc:=by
 obtain ⟨_,h1,h2,h3,h4,_,_⟩:=quj_ h;obtain ⟨i,hi⟩:=Int.eq_ofNat_of_zero_le (show 0<=p.ivl by omega);obtain ⟨s,hs⟩:=Int.eq_ofNat_of_zero_le (show 0<=p.spc by omega);have e:p.should=i*s:=by unfold Pr.should;rw[hi,hs,<-Int.natCast_mul,Int.toNat_natCast]
 have hp:0<i*s:=Nat.mul_pos (by omega) (by omega);have hle:i*s<=64*10000:=Nat.mul_le_mul (by omega) (by omega);rw[e,hi,hs,<-Int.natCast_mul];exact ⟨hp,by omega,rfl⟩
theorem qqr_ (p:Pr) (ho:p.ok) (b fr to' d:Int) (hd:IntKind.i64.wrap (to' - fr)=d) (w:World) :
  Ca_ 180 #[.agg (prA p),i_ b,i_ fr,i_ to'] w (i_ (rt p b d)):=by
 have hz:=qav_ ho;have KT:=fun w=>tgt_at b b w
 by_cases h1:tok b b=false
 ·rw[h1] at KT;have e:rt p b d=p.lim:=by unfold rt;rw[h1];rfl
  rw[e];exact qagc_ p hz b fr to' _ (h_ rfl) _ (h_ KT) w
 rw[Bool.not_eq_false] at h1;rw[h1] at KT;have KG:=fun w=>qug_ p w
 by_cases h2:p.good=false
 ·rw[h2] at KG;have e:rt p b d=p.lim:=by unfold rt;rw[h2,Bool.and_false];rfl
  rw[e];exact ret_bad p hz b fr to' _ (h_ rfl) _ (h_ KT) (h_ KG) w
 rw[Bool.not_eq_false] at h2;rw[h2] at KG;obtain ⟨s0,s1,s2⟩:=qoq_ h2;have e:rt p b d=if tg p.lim p.lim<p.anew b d then p.lim else (Nm.enc (max 1 (p.anew b d)):Nat):=by unfold rt;rw[h1,h2];rfl
 rw[e];have ha:p.anew b d=tg b b*tk p.should d / p.should:=rfl;obtain ⟨sn,hsn⟩:∃ sn,sn=p.should:=⟨_,rfl⟩;rw[<-hsn] at s0 s1 s2 ha;have htk:=tk_le sn d;have hti:=tk_int sn d;have KS:=fun w=>qyy_ (tg b b) (tk sn d) sn (tg_lt b b) (by omega) (by omega) (by omega) w
 rw[<-ha] at KS;have KL:=fun w=>tgt_at p.lim p.lim w
 have hL:=tg_lt p.lim p.lim;have f1:IntKind.i64.wrap (p.ivl*p.spc)=(sn:Int):=by rw[<-s2,IntKind.wrap_i64];omega
 have f4:IntKind.i64.wrap ((sn:Int)*4)=((sn*4:Nat):Int):=by rw[IntKind.wrap_i64];omega
 have f5:IntKind.i64.wrap ((sn / 4:Nat):Int)=((sn / 4:Nat):Int):=by rw[IntKind.wrap_i64];omega
 have f3:(sn:Int) / 4=((sn / 4:Nat):Int):=by omega
 have f8:IntKind.u64.wrap (tk sn d:Int)=(tk sn d:Int):=by rw[IntKind.wrap_u64];omega
 have f9:IntKind.u64.wrap (sn:Int)=(sn:Int):=by rw[IntKind.wrap_u64];omega
 generalize p.anew b d=q at *;have hzl:q % Nm.big<Nm.big:=Nat.mod_lt _ (by rw[Nm.big_eq];exact Nat.two_pow_pos _);refine qagd_ p hz b fr to' _ (h_ rfl) _ _ _ (h_ rfl) (h_ rfl) (q % Nm.big) _ _ sn _ _ d f1 hd f3 f4 f5 _ _ rfl hti f8 f9 (decide (Nm.big<=q)) (decide (tg p.lim p.lim<q % Nm.big)) (decide (q % Nm.big=0)) (Nm.enc (if decide (q % Nm.big=0)=true then 1 else q % Nm.big):Nat) _ (h_ ?_) (h_ KT) (h_ KG) (h_ KS) (h_ KL) (h_ (qada_ _ _ hL hzl _ rfl)) (h_ (qadb_ _ hzl _ rfl)) (h_ (of 1 (by decide))) (h_ (encode _ ?_)) w
 ·by_cases h3:Nm.big<=q;rw[if_pos (by omega),if_pos (.inl (decide_eq_true h3))];rw[Nat.mod_eq_of_lt (by omega)];by_cases h4:tg p.lim p.lim<q;rw[if_pos h4,if_pos (.inr (decide_eq_true h4))];rw[if_neg h4,if_neg (by simp only[decide_eq_true_eq];omega)];by_cases h5:q=0;rw[if_pos (decide_eq_true h5),show max 1 q=1 by omega];rw[if_neg (by simp only[decide_eq_true_eq];omega),show max 1 q=q by omega]
 ·split;decide;exact hzl
def starts (i h:Int):Bool:=decide (0<i) && (h.tmod i==0)
theorem quk_ (p:Pr) (h i m:Int) (e1:Hid (p.ivl=i)) (t1:decide (0<i)=true) (hne:¬i=0) (hm:h.tmod i=m) (w:World) :
  Ca_ 165 #[.agg (prA p),i_ h] w (.bool (m==0)):=by
 have hP:=pr_new w p;have bj:Bl w (w.alloc (.cells (prA p) 32)):=ba_;have c1:=hP.c1 e1;go_enter Tryz.func165,Tryz.ntmps165;go_wp2_with fail
 go_ret;exact ⟨rfl,bj⟩
theorem qyz_ (p:Pr) (h i:Int) (e1:Hid (p.ivl=i)) (t1:decide (0<i)=false) (w:World) :
  Ca_ 165 #[.agg (prA p),i_ h] w (.bool false):=by
 have hP:=pr_new w p;have bj:Bl w (w.alloc (.cells (prA p) 32)):=ba_;have c1:=hP.c1 e1;go_enter Tryz.func165,Tryz.ntmps165;go_wp2_with fail
 go_ret;exact ⟨rfl,bj⟩
theorem qor_ (p:Pr) (h:Int) (g:Bool) (hg:starts p.ivl h=g) (w:World) :
  Ca_ 165 #[.agg (prA p),i_ h] w (.bool g):=by
 by_cases h0:0<p.ivl;rw[<-hg,starts,decide_eq_true h0,Bool.true_and];exact quk_ p h _ _ (h_ rfl) (decide_eq_true h0) (by omega) rfl w;rw[<-hg,starts,decide_eq_false h0,Bool.false_and];exact qyz_ p h _ (h_ rfl) (decide_eq_false h0) w
structure Pt where
 h:Int
 b:Int
 t:Int
 f:Int
 r:Int
def ptA (x:Pt):Array Value:=#[i_ x.h,i_ x.b,i_ x.t,i_ x.f,i_ x.r]
theorem ptinfo:(Tryz.prog.info? 139).map (·.size)=some 5:=by kernel_rfl
def PtAt (w:World) (k:Nat) (x:Pt):Prop:=Has w k (ptA x) 139
section
variable {w w':World} {k:Nat} {x:Pt}
theorem PtAt.on (h:PtAt w k x) (hb:Bl w w'):PtAt w' k x:=Has.on h hb
theorem PtAt.c0 (h:PtAt w k x) {z:Int} (e:Hid (x.h=z)):w.cell? ⟨k,0,none⟩=some (i_ z):=(Has.cell h 0).trans (by rw[<-e.out];rfl)
theorem PtAt.c1 (h:PtAt w k x) {z:Int} (e:Hid (x.b=z)):w.cell? ⟨k,1,none⟩=some (i_ z):=(Has.cell h 1).trans (by rw[<-e.out];rfl)
theorem PtAt.c2 (h:PtAt w k x) {z:Int} (e:Hid (x.t=z)):w.cell? ⟨k,2,none⟩=some (i_ z):=(Has.cell h 2).trans (by rw[<-e.out];rfl)
theorem PtAt.c3 (h:PtAt w k x) {z:Int} (e:Hid (x.f=z)):w.cell? ⟨k,3,none⟩=some (i_ z):=(Has.cell h 3).trans (by rw[<-e.out];rfl)
theorem PtAt.c4 (h:PtAt w k x) {z:Int} (e:Hid (x.r=z)):w.cell? ⟨k,4,none⟩=some (i_ z):=(Has.cell h 4).trans (by rw[<-e.out];rfl)
variable {ops:Array Oper} {rest:List Oper} {o:Oper} {a:Act} {Q:Exit->Act->World->Prop}
theorem qul_ (hgd:o.guard=none) (y:Operand) (ho:o.op = .load 139 y) (g:Nat) (hx:a.eval y = pp_ g) (hg:PtAt w g x)
  (hk:wpList Tryz.prog ops Q rest (a.put o.dst (.agg (ptA x))) w):wpList Tryz.prog ops Q (o :: rest) a w :=
 wpList_load_row hgd 139 y ho g hx 139 (ptA x) (0,0) _ (Has.out hg) Tryz.underlying139 rfl ptinfo hk
end
theorem next_w (p:Pr) (x:Pt) (own:Int) (hP_z:(prA p).size=83) (lim spc xh xb xt xf xr d s2 rb:Int) (a s z l:Bool) (e0:Hid (p.lim=lim)) (e2:Hid (p.spc=spc)) (e4:Hid (p.easy=z)) (g0:Hid (x.h=xh)) (g1:Hid (x.b=xb)) (g2:Hid (x.t=xt)) (g3:Hid (x.f=xf)) (g4:Hid (x.r=xr))
  (t0:decide (xh<=0)=a) (f1:IntKind.i64.wrap (own - xt)=d) (f2:IntKind.i64.wrap (2*spc)=s2) (f3:decide (s2<d)=l) (KS:Hid (Gv_ 165 #[.agg (prA p),i_ xh] (.bool s)))
  (KR:Hid (Gv_ 180 #[.agg (prA p),i_ xb,i_ xf,i_ xt] (i_ rb))) (w:World) :
  Ca_ 154 #[.agg (prA p),.agg (ptA x),i_ own] w (i_ (if a=true then lim else if s=true then rb else if z=false then xb else if l=true then lim else xr)):=by
 go_enter Tryz.func154,Tryz.ntmps154;go_upto_region 1 with fail
 generalize hw0:World.alloc _ _=v0;have bj:Below w.heap.size w v0:=by rw[<-hw0];exact (br_.alloc (by simp <;> omega) _).alloc (by simp <;> omega) _
 have hP:PrAt v0 (w.heap.size) p:=by rw[<-hw0];exact (Has.new _ _).alloc _
 have hX:PtAt v0 (w.heap.size+1) x:=by rw[<-hw0];exact Has.new1 _ _ _
 clear hw0;generalize hg1:w.heap.size+1=b_hX at hX |-;clear hg1;have c0:=hP.c0 e0;have c2:=hP.c2 e2;have c4:=hP.c4 e4;have d0:=hX.c0 g0;have d1:=hX.c1 g1;have d2:=hX.c2 g2;have d3:=hX.c3 g3;have d4:=hX.c4 g4;cases a
 case' false=>
  go_wp2_with (with_reducible first|refine qq_ rfl _ rfl _ rfl hP hP_z ?_|refine ql_ (by with_unfolding_all rfl) _ rfl _ rfl hP hP_z ?_|refine qul_ rfl _ rfl _ rfl hX ?_|refine pt_load_g (by with_unfolding_all rfl) _ rfl _ rfl hX ?_)
  refine (KS.out _).mono ?_;rintro e v1 ⟨rfl,hb1⟩;replace hP:=hP.on hb1;replace hX:=hX.on hb1;replace c0:=hP.c0 e0;replace c2:=hP.c2 e2;replace c4:=hP.c4 e4;replace d0:=hX.c0 g0;replace d1:=hX.c1 g1;replace d2:=hX.c2 g2;replace d3:=hX.c3 g3;replace d4:=hX.c4 g4;replace bj:=tb_ bj hb1;clear hb1;cases s
  case' true=>
   go_wp2_with (with_reducible first|refine qq_ rfl _ rfl _ rfl hP hP_z ?_|refine ql_ (by with_unfolding_all rfl) _ rfl _ rfl hP hP_z ?_|refine qul_ rfl _ rfl _ rfl hX ?_|refine pt_load_g (by with_unfolding_all rfl) _ rfl _ rfl hX ?_)
   refine (KR.out _).mono ?_;rintro e v2 ⟨rfl,hb2⟩;replace hP:=hP.on hb2;replace hX:=hX.on hb2;replace c0:=hP.c0 e0;replace c2:=hP.c2 e2;replace c4:=hP.c4 e4;replace d0:=hX.c0 g0;replace d1:=hX.c1 g1;replace d2:=hX.c2 g2;replace d3:=hX.c3 g3;replace d4:=hX.c4 g4;replace bj:=tb_ bj hb2;clear hb2
  case' false=>
   cases z
   case' true=>
    cases l
 all_goals
  go_wp2_with (with_reducible first|refine qq_ rfl _ rfl _ rfl hP hP_z ?_|refine ql_ (by with_unfolding_all rfl) _ rfl _ rfl hP hP_z ?_|refine qul_ rfl _ rfl _ rfl hX ?_|refine pt_load_g (by with_unfolding_all rfl) _ rfl _ rfl hX ?_)
  go_ret;exact ⟨rfl,bj⟩
def nx (p:Pr) (x:Pt) (own:Int):Int :=
 if x.h<=0 then p.lim else if starts p.ivl x.h=true then rt p x.b (IntKind.i64.wrap (x.t - x.f)) else if p.easy=false then x.b else if IntKind.i64.wrap (2*p.spc)<IntKind.i64.wrap (own - x.t) then p.lim else x.r
theorem next_at (p:Pr) (ho:p.ok) (x:Pt) (own:Int) (w:World):Ca_ 154 #[.agg (prA p),.agg (ptA x),i_ own] w (i_ (nx p x own)):=by
 have hz:=qav_ ho;have h:=next_w p x own hz _ _ _ _ _ _ _ _ _ _ _ _ _ _ (h_ rfl) (h_ rfl) (h_ rfl) (h_ rfl) (h_ rfl) (h_ rfl) (h_ rfl) (h_ rfl) rfl rfl rfl rfl (h_ (qor_ p x.h _ rfl)) (h_ (qqr_ p ho x.b x.f x.t _ rfl)) w;simp only[decide_eq_true_eq] at h;exact h
theorem one4:#[Value.int .u64 1,iu_ 0,iu_ 0,iu_ 0]=numC 1:=rfl
theorem eql_z (z:Nat) (hz:z<Nm.big) (g:Bool) (hg:decide (z=0)=g) (w:World):(binOp .eql 26 (.agg (numC z)) (.agg #[iu_ 0,iu_ 0,iu_ 0,iu_ 0])).run Tryz.prog w = .ok (.bool g) w:=by
 rw[<-hg];exact qkh_ hz (show 0<Nm.big by decide) w
theorem grp1_ : (∀ (p : Pr) (_hz : (prA p).size = 83) (b fr to' lim : Int) (_e0 : Hid (p.lim = lim)) (t : Nat)
    (ok:Bool) (_KT:Hid (Gv_ 106 #[i_ b,i_ lim] (.tuple #[.agg (numC t),.bool ok])))
    (_KG:Hid (Gv_ 72 #[.agg (prA p)] (.bool false)))
     (w:World),Ca_ 176 #[.agg (prA p),i_ b,i_ fr,i_ to'] w (i_ lim))/\
    (∀(p:Pr) (_hz:(prA p).size=83) (b fr to' lim:Int) (_e0:Hid (p.lim=lim)) (t:Nat)
    (_KT:Hid (Gv_ 106 #[i_ b,i_ lim] (.tuple #[.agg (numC t),.bool false])))
    (_KG:Hid (Gv_ 72 #[.agg (prA p)] (.bool true)))
     (w:World),Ca_ 176 #[.agg (prA p),i_ b,i_ fr,i_ to'] w (i_ lim)):=by
  refine ⟨fun p hz b fr to' lim e0 t ok KT KG w=>?_,
    fun p hz b fr to' lim e0 t KT KG w=>?_⟩
  all_goals
    have hP_z:=hz;go_enter Tryz.func176,Tryz.ntmps176;(go_upto_region 1 with fail);generalize hw0:World.alloc _ _=v0;have bj:Below w.heap.size w v0:=(by rw[<-hw0];exact br_.alloc (by simp <;> omega) _);have hP:PrAt v0 (w.heap.size) p:=(by rw[<-hw0];exact Has.new _ _);clear hw0;have c0:=hP.c0 e0;(go_wp2_with (with_reducible first|refine qq_ rfl _ rfl _ rfl hP hP_z ?_|refine ql_ (by with_unfolding_all rfl) _ rfl _ rfl hP hP_z ?_));refine (KT.out _).mono ?_;rintro e v1 ⟨rfl,hb1⟩;replace hP:=hP.on hb1;replace c0:=hP.c0 e0;replace bj:=tb_ bj hb1;clear hb1;(go_upto_region 2 with (with_reducible refine qc_ rfl _ _ rfl _ _ rfl rfl _ (Has.newz _) rfl ?_));generalize hw2:World.setRow _ _ _=v2;have hb2:Below v1.heap.size v1 v2:=bw_ hw2;have hT:Has v2 v1.heap.size (numC t) 26:=(by rw[<-hw2];exact (Has.newz _).row _);replace hP:=hP.on hb2;replace c0:=hP.c0 e0;replace bj:=tb_ bj hb2;clear hw2 hb2;generalize v1.heap.size=b_hT at hT |-;(go_wp2_with (with_reducible first|refine qq_ rfl _ rfl _ rfl hP hP_z ?_|refine ql_ (by with_unfolding_all rfl) _ rfl _ rfl hP hP_z ?_|refine qb_ rfl _ rfl _ rfl _ hT rfl ?_|refine qf_ (by with_unfolding_all rfl) _ rfl _ rfl _ hT rfl ?_));refine (KG.out _).mono ?_;rintro e v3 ⟨rfl,hb3⟩;replace hP:=hP.on hb3;replace hT:=hT.on hb3;replace c0:=hP.c0 e0;replace bj:=tb_ bj hb3;clear hb3;(go_wp2_with (with_reducible first|refine qq_ rfl _ rfl _ rfl hP hP_z ?_|refine ql_ (by with_unfolding_all rfl) _ rfl _ rfl hP hP_z ?_|refine qb_ rfl _ rfl _ rfl _ hT rfl ?_|refine qf_ (by with_unfolding_all rfl) _ rfl _ rfl _ hT rfl ?_));go_ret;exact ⟨rfl,bj⟩
theorem qza_ (p : Pr) (hz : (prA p).size = 83) (b fr to' lim : Int) (e0 : Hid (p.lim = lim)) (t : Nat)
    (ivl spc:Int) (e1:Hid (p.ivl=ivl)) (e2:Hid (p.spc=spc)) (z L:Nat) (oL:Bool) (sn s4 s16:Nat) (d:Int) (f1:IntKind.i64.wrap (ivl*spc)=(sn:Int)) (f2:IntKind.i64.wrap (to' - fr)=d) (f3:(sn:Int) / 4=(s4:Int)) (f4:IntKind.i64.wrap ((sn:Int)*4)=(s16:Int)) (f5:IntKind.i64.wrap (s4:Int)=(s4:Int))
    (tk:Nat) (HK3:Hid ((decide (d<(s4:Int))=true/\¬s16<s4/\tk=s4)\/(∃dn:Nat,d=(dn:Int)/\¬dn<s4/\s16<dn/\tk=s16)\/(∃dn:Nat,d=(dn:Int)/\¬dn<s4/\¬s16<dn/\tk=dn)))
    (so ls zr:Bool) (en res:Int) (HRes:Hid (res=if so=false\/ls=true then lim else en))
    (KT:Hid (Gv_ 106 #[i_ b,i_ lim] (.tuple #[.agg (numC t),.bool true])))
    (KG:Hid (Gv_ 72 #[.agg (prA p)] (.bool true)))
    (KS:Hid (Gv_ 192 #[.agg (numC t),i_ tk,i_ sn] (.tuple #[.agg (numC z),.bool so])))
    (KL:Hid (Gv_ 106 #[i_ lim,i_ lim] (.tuple #[.agg (numC L),.bool oL])))
    (KLess:Hid (Gv_ 102 #[.agg (numC L),.agg (numC z)] (.bool ls)))
    (hq:∀ w,(binOp .eql 26 (.agg (numC z)) (.agg #[iu_ 0,iu_ 0,iu_ 0,iu_ 0])).run Tryz.prog w = .ok (.bool zr) w)
    (KE:Hid (Gv_ 193 #[.agg (numC (if zr=true then 1 else z))] (i_ en)))
     (w:World) :
    Ca_ 176 #[.agg (prA p),i_ b,i_ fr,i_ to'] w (i_ res):=by
  rcases HK3.out with ⟨t1,t2,rfl⟩|⟨dn,rfl,t1,t2,rfl⟩|⟨dn,rfl,t1,t2,rfl⟩
  all_goals
    clear HK3;have hP_z:=hz;go_enter Tryz.func176,Tryz.ntmps176;(go_upto_region 1 with fail);generalize hw0:World.alloc _ _=v0;have bj:Below w.heap.size w v0:=(by rw[<-hw0];exact br_.alloc (by simp <;> omega) _);have hP:PrAt v0 (w.heap.size) p:=(by rw[<-hw0];exact Has.new _ _);clear hw0;have c0:=hP.c0 e0;have c1:=hP.c1 e1;have c2:=hP.c2 e2;(go_wp2_with (with_reducible first|refine qq_ rfl _ rfl _ rfl hP hP_z ?_|refine ql_ (by with_unfolding_all rfl) _ rfl _ rfl hP hP_z ?_));refine (KT.out _).mono ?_;rintro e v1 ⟨rfl,hb1⟩;replace hP:=hP.on hb1;replace c0:=hP.c0 e0;replace c1:=hP.c1 e1;replace c2:=hP.c2 e2;replace bj:=tb_ bj hb1;clear hb1;(go_upto_region 2 with (with_reducible refine qc_ rfl _ _ rfl _ _ rfl rfl _ (Has.newz _) rfl ?_));generalize hw2:World.setRow _ _ _=v2;have hb2:Below v1.heap.size v1 v2:=bw_ hw2;have hT:Has v2 v1.heap.size (numC t) 26:=(by rw[<-hw2];exact (Has.newz _).row _);replace hP:=hP.on hb2;replace c0:=hP.c0 e0;replace c1:=hP.c1 e1;replace c2:=hP.c2 e2;replace bj:=tb_ bj hb2;clear hw2 hb2;generalize v1.heap.size=b_hT at hT |-;(go_wp2_with (with_reducible first|refine qq_ rfl _ rfl _ rfl hP hP_z ?_|refine ql_ (by with_unfolding_all rfl) _ rfl _ rfl hP hP_z ?_|refine qb_ rfl _ rfl _ rfl _ hT rfl ?_|refine qf_ (by with_unfolding_all rfl) _ rfl _ rfl _ hT rfl ?_));refine (KG.out _).mono ?_;rintro e v3 ⟨rfl,hb3⟩;replace hP:=hP.on hb3;replace hT:=hT.on hb3;replace c0:=hP.c0 e0;replace c1:=hP.c1 e1;replace c2:=hP.c2 e2;replace bj:=tb_ bj hb3;clear hb3;(go_wp2_with (with_reducible first|refine qq_ rfl _ rfl _ rfl hP hP_z ?_|refine ql_ (by with_unfolding_all rfl) _ rfl _ rfl hP hP_z ?_|refine qb_ rfl _ rfl _ rfl _ hT rfl ?_|refine qf_ (by with_unfolding_all rfl) _ rfl _ rfl _ hT rfl ?_));refine (KS.out _).mono ?_;rintro e v4 ⟨rfl,hb4⟩;replace hP:=hP.on hb4;replace hT:=hT.on hb4;replace c0:=hP.c0 e0;replace c1:=hP.c1 e1;replace c2:=hP.c2 e2;replace bj:=tb_ bj hb4;clear hb4;have hbel0:=bj;(go_upto_region 11 with (with_reducible refine qc_ rfl _ _ rfl _ _ rfl rfl _ (Has.newz _) rfl ?_));generalize hw5:World.setRow _ _ _=v5;have hb5:Below v4.heap.size v4 v5:=bw_ hw5;have hZ:Has v5 v4.heap.size (numC z) 26:=(by rw[<-hw5];exact (Has.newz _).row _);replace hP:=hP.on hb5;replace hT:=hT.on hb5;replace c0:=hP.c0 e0;replace c1:=hP.c1 e1;replace c2:=hP.c2 e2;replace bj:=tb_ bj hb5;clear hw5 hb5;have HZ:Hid (w.heap.size<=v4.heap.size):=h_ hbel0.size;clear hbel0;generalize v4.heap.size=b_hZ at hZ HZ |-;(go_wp2_with (with_reducible first|refine qq_ rfl _ rfl _ rfl hP hP_z ?_|refine ql_ (by with_unfolding_all rfl) _ rfl _ rfl hP hP_z ?_|refine qb_ rfl _ rfl _ rfl _ (by assumption) rfl ?_|refine qf_ (by with_unfolding_all rfl) _ rfl _ rfl _ (by assumption) rfl ?_));refine (KL.out _).mono ?_;rintro e v6 ⟨rfl,hb6⟩;replace hP:=hP.on hb6;replace hT:=hT.on hb6;replace hZ:=hZ.on hb6;replace c0:=hP.c0 e0;replace c1:=hP.c1 e1;replace c2:=hP.c2 e2;replace bj:=tb_ bj hb6;clear hb6;(go_upto_region 12 with (with_reducible refine qc_ rfl _ _ rfl _ _ rfl rfl _ (Has.newz _) rfl ?_));generalize hw7:World.setRow _ _ _=v7;have hb7:Below v6.heap.size v6 v7:=bw_ hw7;have hL:Has v7 v6.heap.size (numC L) 26:=(by rw[<-hw7];exact (Has.newz _).row _);replace hP:=hP.on hb7;replace hT:=hT.on hb7;replace hZ:=hZ.on hb7;replace c0:=hP.c0 e0;replace c1:=hP.c1 e1;replace c2:=hP.c2 e2;replace bj:=tb_ bj hb7;clear hw7 hb7;generalize v6.heap.size=b_hL at hL |-;cases so
    case false=>
      (go_wp2_with (with_reducible first|refine qq_ rfl _ rfl _ rfl hP hP_z ?_|refine ql_ (by with_unfolding_all rfl) _ rfl _ rfl hP hP_z ?_|refine qb_ rfl _ rfl _ rfl _ (by assumption) rfl ?_|refine qf_ (by with_unfolding_all rfl) _ rfl _ rfl _ (by assumption) rfl ?_));go_ret;exact ⟨by rw[HRes.out];rfl,bj⟩
    (go_wp2_with (with_reducible first|refine qq_ rfl _ rfl _ rfl hP hP_z ?_|refine ql_ (by with_unfolding_all rfl) _ rfl _ rfl hP hP_z ?_|refine qb_ rfl _ rfl _ rfl _ (by assumption) rfl ?_|refine qf_ (by with_unfolding_all rfl) _ rfl _ rfl _ (by assumption) rfl ?_));refine (KLess.out _).mono ?_;rintro e v8 ⟨rfl,hb8⟩;replace hP:=hP.on hb8;replace hT:=hT.on hb8;replace hZ:=hZ.on hb8;replace hL:=hL.on hb8;replace c0:=hP.c0 e0;replace c1:=hP.c1 e1;replace c2:=hP.c2 e2;replace bj:=tb_ bj hb8;clear hb8;cases ls
    case true=>
      (go_wp2_with (with_reducible first|refine qq_ rfl _ rfl _ rfl hP hP_z ?_|refine ql_ (by with_unfolding_all rfl) _ rfl _ rfl hP hP_z ?_|refine qb_ rfl _ rfl _ rfl _ (by assumption) rfl ?_|refine qf_ (by with_unfolding_all rfl) _ rfl _ rfl _ (by assumption) rfl ?_));go_ret;exact ⟨by rw[HRes.out];rfl,bj⟩
    cases zr
    case false=>
      (go_wp2_with (with_reducible first|refine qq_ rfl _ rfl _ rfl hP hP_z ?_|refine ql_ (by with_unfolding_all rfl) _ rfl _ rfl hP hP_z ?_|refine qb_ rfl _ rfl _ rfl _ (by assumption) rfl ?_|refine qf_ (by with_unfolding_all rfl) _ rfl _ rfl _ (by assumption) rfl ?_));refine (KE.out _).mono ?_;rintro e v9 ⟨rfl,hb9⟩;replace hP:=hP.on hb9;replace hT:=hT.on hb9;replace hZ:=hZ.on hb9;replace hL:=hL.on hb9;replace c0:=hP.c0 e0;replace c1:=hP.c1 e1;replace c2:=hP.c2 e2;replace bj:=tb_ bj hb9;clear hb9;(go_wp2_with (with_reducible first|refine qq_ rfl _ rfl _ rfl hP hP_z ?_|refine ql_ (by with_unfolding_all rfl) _ rfl _ rfl hP hP_z ?_|refine qb_ rfl _ rfl _ rfl _ (by assumption) rfl ?_|refine qf_ (by with_unfolding_all rfl) _ rfl _ rfl _ (by assumption) rfl ?_));go_ret;exact ⟨by rw[HRes.out];rfl,bj⟩
    (go_upto_region 16 with (with_reducible first|refine qq_ rfl _ rfl _ rfl hP hP_z ?_|refine ql_ (by with_unfolding_all rfl) _ rfl _ rfl hP hP_z ?_|refine qb_ rfl _ rfl _ rfl _ (by assumption) rfl ?_|refine qf_ (by with_unfolding_all rfl) _ rfl _ rfl _ (by assumption) rfl ?_|refine qw_ rfl _ _ rfl _ 1 _ rfl rfl one4 _ hZ rfl ?_));generalize hw:World.setRow _ _ _=v_s;replace hZ:Has v_s b_hZ (numC 1) 26:=(by rw[<-hw];exact hZ.row _);replace bj:Below w.heap.size w v_s:=(by rw[<-hw];exact below_setRow bj HZ.out _);clear hw;(go_wp2_with (with_reducible first|refine qb_ rfl _ rfl _ rfl _ hZ rfl ?_|refine qf_ (by with_unfolding_all rfl) _ rfl _ rfl _ hZ rfl ?_));refine (KE.out _).mono ?_;rintro e v9 ⟨rfl,hb9⟩;replace hZ:=hZ.on hb9;replace bj:=tb_ bj hb9;clear hb9;(go_wp2_with fail);go_ret;exact ⟨by rw[HRes.out];rfl,bj⟩
def rrt (p:Pr) (b d:Int):Int:=if tok b p.lim=true then rt p b d else p.lim
variable {p:Pr}
theorem qage_ {b d:Int} (h:tok b p.lim=true):rrt p b d=rt p b d:=if_pos h
theorem qmn_ (p:Pr) (ho:p.ok) (b fr to' d:Int) (hd:IntKind.i64.wrap (to' - fr)=d) (w:World) :
  Ca_ 176 #[.agg (prA p),i_ b,i_ fr,i_ to'] w (i_ (rrt p b d)):=by
 have hz:=qav_ ho;have KT:=fun w=>qom_ b p.lim w
 have KG:=fun w=>qdd_ p w
 by_cases h2:p.good=false
 ·rw[h2] at KG;have e:rrt p b d=p.lim:=by unfold rrt rt;rw[h2,Bool.and_false];simp
  rw[e];exact grp1_.1 p hz b fr to' _ (h_ rfl) _ _ (h_ KT) (h_ KG) w
 rw[Bool.not_eq_false] at h2;rw[h2] at KG;by_cases h1:tok b p.lim=false
 ·rw[h1] at KT;have e:rrt p b d=p.lim:=by unfold rrt;rw[h1];rfl
  rw[e];exact grp1_.2 p hz b fr to' _ (h_ rfl) _ (h_ KT) (h_ KG) w
 rw[Bool.not_eq_false] at h1;rw[h1] at KT;obtain ⟨s0,s1,s2⟩:=qoq_ h2;have hbb:=qaft_ h1;have e:rrt p b d=if tg p.lim p.lim<p.anew b d then p.lim else (Nm.enc (max 1 (p.anew b d)):Nat):=by unfold rrt rt;rw[h1,hbb,h2];rfl
 rw[e]
 have ha:p.anew b d=tg b p.lim*tk p.should d / p.should:=by
  show tg b b*tk p.should d / p.should=_;rw[tg_yes hbb,tg_yes h1]
 obtain ⟨sn,hsn⟩:∃ sn,sn=p.should:=⟨_,rfl⟩;rw[<-hsn] at s0 s1 s2 ha;have htk:=tk_le sn d;have hti:=tk_int sn d;have htb:=tg_lt b p.lim;have KL:=fun w=>qom_ p.lim p.lim w
 have hL:=tg_lt p.lim p.lim;have f1:IntKind.i64.wrap (p.ivl*p.spc)=(sn:Int):=by rw[<-s2,IntKind.wrap_i64];omega
 have f4:IntKind.i64.wrap ((sn:Int)*4)=((sn*4:Nat):Int):=by rw[IntKind.wrap_i64];omega
 have f5:IntKind.i64.wrap ((sn / 4:Nat):Int)=((sn / 4:Nat):Int):=by rw[IntKind.wrap_i64];omega
 have f3:(sn:Int) / 4=((sn / 4:Nat):Int):=by omega
 have KS:=fun w=>rscaled (tg b p.lim) (tk sn d) sn htb (by omega) s0 (by omega) w
 rw[<-ha] at KS;generalize p.anew b d=q at *;have hzl:q % Nm.big<Nm.big:=Nat.mod_lt _ (by rw[Nm.big_eq];exact Nat.two_pow_pos _);refine qza_ p hz b fr to' _ (h_ rfl) _ _ _ (h_ rfl) (h_ rfl) (q % Nm.big) _ _ sn (sn / 4) (sn*4) d f1 hd f3 f4 f5 (tk sn d) (h_ ?_) (decide (q<Nm.big)) (decide (tg p.lim p.lim<q % Nm.big)) (decide (q % Nm.big=0)) (Nm.enc (if decide (q % Nm.big=0)=true then 1 else q % Nm.big):Nat) _ (h_ ?_) (h_ KT) (h_ KG) (h_ KS) (h_ KL) (h_ (qee_ _ _ hL hzl)) (eql_z _ hzl _ rfl) (h_ (qtw_ _ ?_)) w
 ·by_cases c1:d<((sn / 4:Nat):Int);exact .inl ⟨decide_eq_true c1,by omega,by omega⟩;obtain ⟨dn,hdn⟩:=Int.eq_ofNat_of_zero_le (show 0<=d by omega);subst hdn;by_cases c2:sn*4<dn;exact .inr (.inl ⟨dn,rfl,by omega,c2,by omega⟩);exact .inr (.inr ⟨dn,rfl,by omega,c2,by omega⟩)
 ·by_cases h3:q<Nm.big;rw[Nat.mod_eq_of_lt h3];by_cases h4:tg p.lim p.lim<q;rw[if_pos h4,if_pos (.inr (decide_eq_true h4))];rw[if_neg h4,if_neg (by simp only[decide_eq_true_eq,decide_eq_false_iff_not];omega)];by_cases h5:q=0;rw[if_pos (decide_eq_true h5),show max 1 q=1 by omega];rw[if_neg (by simp only[decide_eq_true_eq];omega),show max 1 q=q by omega];rw[if_pos (by omega),if_pos (.inl (decide_eq_false h3))]
 ·split;decide;exact hzl
def rnx (p:Pr) (x:Pt) (own:Int):Int :=
 if x.h<=0 then p.lim else if starts p.ivl x.h=true then rrt p x.b (IntKind.i64.wrap (x.t - x.f)) else if p.easy=false then x.b else if IntKind.i64.wrap (2*p.spc)<IntKind.i64.wrap (own - x.t) then p.lim else x.r
theorem qagf_ {x:Pt} {own:Int} (h:starts p.ivl x.h=true->0<x.h->tok x.b p.lim=true):rnx p x own=nx p x own:=by
 unfold rnx nx;by_cases h0:x.h<=0;rw[if_pos h0,if_pos h0];rw[if_neg h0,if_neg h0];by_cases h1:starts p.ivl x.h=true;rw[if_pos h1,if_pos h1,qage_ (h h1 (by omega))];rw[if_neg h1,if_neg h1]
theorem rnext_w (p:Pr) (hP_z:(prA p).size=83) (xh xb xt xf xr own ivl lim spc d2 s2 m rb:Int) (a i m0 z l:Bool) (e0:Hid (p.lim=lim)) (e1:Hid (p.ivl=ivl)) (e2:Hid (p.spc=spc)) (e4:Hid (p.easy=z))
  (t0:decide (xh<=0)=a) (ti:decide (0<ivl)=i) (hm:xh.tmod ivl=m) (tm:(m==0)=m0) (g1:IntKind.i64.wrap (own - xt)=d2) (g2:IntKind.i64.wrap (2*spc)=s2) (tl:decide (s2<d2)=l)
  (KR:Hid (Gv_ 176 #[.agg (prA p),i_ xb,i_ xf,i_ xt] (i_ rb))) (w:World) :
  Ca_ 147 #[.agg (prA p),i_ xh,i_ xb,i_ xt,i_ xf,i_ xr,i_ own] w (i_ (if a=true then lim else if (i && m0)=true then rb else if z=false then xb else if l=true then lim else xr)):=by
 go_enter Tryz.func147,Tryz.ntmps147;go_upto_region 1 with fail
 generalize hw0:World.alloc _ _=v0;have bj:Bl w v0:=by rw[<-hw0];exact br_.alloc (by simp <;> omega) _
 have hP:PrAt v0 (w.heap.size) p:=by rw[<-hw0];exact Has.new _ _
 clear hw0;have c0:=hP.c0 e0;have c1:=hP.c1 e1;have c2:=hP.c2 e2;have c4:=hP.c4 e4;cases a
 case' false=>
  cases i
  case' true=>
   have hne:¬ivl=0:=by have:=of_decide_eq_true ti;omega
   cases m0
   case' true=>
    (go_wp2_with (with_reducible first|refine qq_ rfl _ rfl _ rfl hP hP_z ?_|refine ql_ (by with_unfolding_all rfl) _ rfl _ rfl hP hP_z ?_));refine (KR.out _).mono ?_;rintro e v1 ⟨rfl,hb1⟩;replace hP:=hP.on hb1;replace c0:=hP.c0 e0;replace c1:=hP.c1 e1;replace c2:=hP.c2 e2;replace c4:=hP.c4 e4;replace bj:=tb_ bj hb1;clear hb1
 all_goals cases z
 all_goals cases l
 all_goals
  go_wp2_with (with_reducible first|refine qq_ rfl _ rfl _ rfl hP hP_z ?_|refine ql_ (by with_unfolding_all rfl) _ rfl _ rfl hP hP_z ?_)
  go_ret;exact ⟨rfl,bj⟩
theorem qagg_ (p:Pr) (ho:p.ok) (x:Pt) (own:Int) (w:World):Ca_ 147 #[.agg (prA p),i_ x.h,i_ x.b,i_ x.t,i_ x.f,i_ x.r,i_ own] w (i_ (rnx p x own)):=by
 obtain ⟨xh,xb,xt,xf,xr⟩:=x;have h:=rnext_w p (qav_ ho) xh xb xt xf xr own _ _ _ _ _ _ _ _ _ _ _ _ (h_ rfl) (h_ rfl) (h_ rfl) (h_ rfl) rfl rfl rfl rfl rfl rfl rfl (h_ (qmn_ p ho xb xf xt _ rfl)) w;simp only[decide_eq_true_eq] at h;exact h
def tlZ:List Value:=.slice none 0 0 :: .slice none 0 0 :: (List.replicate 8 (iu_ 0) ++ (i_ 0 :: (List.replicate 64 (u0_) ++ [i_ 0,i_ 0,i_ 0])))
def prL:Pr:=⟨545259519,4,10,0,false,tlZ⟩
theorem tlZ_ok (a b c d:Int) (e:Bool):Pr.ok ⟨a,b,c,d,e,tlZ⟩:=show tlZ.length=78 from by decide
theorem tlZ_one (a b c d:Int) (e:Bool):Pr.one ⟨a,b,c,d,e,tlZ⟩:=by
 intro v hv;simp only[tlZ,List.mem_cons,List.mem_append,List.mem_replicate,List.not_mem_nil,or_false] at hv;rcases hv with rfl|rfl|⟨_,rfl⟩|rfl|⟨_,rfl⟩|rfl|rfl|rfl <;> rfl
theorem qagh_:Tryz.prog.built 32 [(0,i_ 545259519),(1,i_ 4),(2,i_ 10)]=some (prA prL):=by kernel_rfl
section
variable {w:World} {ops:Array Oper} {rest:List Oper} {o o2 o3:Oper} {a:Act} {Q:Exit->Act->World->Prop}
theorem qagi_ (hgd:o.guard=none) (ho:o.op = .build 32 #[(0,.const (i_ 545259519)),(1,.const (i_ 4)),(2,.const (i_ 10))])
  (hk:wpList Tryz.prog ops Q rest (a.put o.dst (.agg (prA prL))) w):wpList Tryz.prog ops Q (o :: rest) a w :=
 wpList_plain hgd fun _ hK=>by
  unfold Oper.wp execOp;simp only[ho,Sem.run_bind];rw[show (#[(0,.const (i_ 545259519)),(1,.const (i_ 4)),(2,.const (i_ 10))]:Array (Nat × Operand)).map (fun (i,x)=>(i,a.eval x))=#[(0,i_ 545259519),(1,i_ 4),(2,i_ 10)] by simp[Act.eval],run_build w 32 _ _ qagh_];exact hK _ _ hk
end
end Go.Proofs.YtkbjaadjnbgfbaaGreatDoor.NN
