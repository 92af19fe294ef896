import Derived.Test.YtkbjaadjnbgfbaaGreatDoorBBunQ25
import Derived.Test.YtkbjaadjnbgfbaaGreatDoorBBunQ14
set_option maxRecDepth 100000
set_option maxHeartbeats 4000000
namespace Go.Proofs.YtkbjaadjnbgfbaaGreatDoor.NN
open Go.RowKit
theorem FO(x y:Nat)(hx:x<18446744073709551616)(hy:y<18446744073709551616)(w:World):aG 223 #[ay (x:Int),ay (y:Int)] w fun e w'=>e=.returned (.tuple #[ay ((x*y/18446744073709551616:Nat):Int),ay ((x*y%18446744073709551616:Nat):Int)])/\w=w':=(Tryz.bits_Mul64 x y hx hy w).mono fun _ _ ⟨he,hw⟩=>⟨he,hw.symm⟩
theorem Lc(a b c:Nat)(ha:a<18446744073709551616)(hc:c<b\/b=0/\c=0)(hb:b<18446744073709551616):a*b/18446744073709551616+(a*b%18446744073709551616+c)/18446744073709551616=(a*b+c)/18446744073709551616/\(a*b+c)/18446744073709551616<18446744073709551616:=by have h1:a*b<=18446744073709551615*b:=Nat.mul_le_mul_right b (by omega);generalize a*b=p at*;omega
theorem xc(x b k:Nat):Nm.over x b k<b\/b=0/\Nm.over x b k=0:=by by_cases h:b=0;exact .inr ⟨h,by subst h;simp[Nm.over]⟩;exact .inl (Nm.wB x b k (by omega))
structure Tm (w wr:World) (A R O x:Nat) (g:Nat->Nat):Prop where
 below:Bl w wr
 a:Has wr A (aa x) 26
 r:Has wr R (aa 0) 26
 o:Has wr O (aw g) 26
variable{w wr:World}{A R O x:Nat}{g:Nat->Nat}
theorem Tm.set(h:Tm w wr A R O x g)(i v:Nat)(hi:i<4)(hA:A≠O)(hR:R≠O)(hO:w.heap.size<=O):Tm w (wr.setCell ⟨O,i,none⟩ (ay (v:Nat))) A R O x (bY g i v):=⟨h.below.setCell hO _,h.a.other _ _ hA,h.r.other _ _ hR,by rw[<-nX g i v hi];exact h.o.set _⟩
theorem Tm.drew(h:Tm w wr A R O x g):Tm w wr.drew A R O x g:=⟨h.below.drew,h.a,h.r,h.o⟩
theorem times(x b:Nat)(hx:x<Nm.ai)(hb:b<18446744073709551616)(w:World):ak 215 #[.agg (aa x),ay (b:Int)] w (.tuple #[.agg (aa (x*b%Nm.ai)),.bool (decide (Nm.ai<=x*b))]):=by
 have Yr:=h_ hb;have HX:=h_ hx;clear hb hx;go_enter Tryz.func215,Tryz.ntmps215;go_upto_region 3 with fail
 generalize hw1:World.alloc _ _=w1
 have h0:Tm w w1 w.heap.size (w.heap.size+1) (w.heap.size+1+1) x (fun _=>0):=by
  rw[<-hw1];exact⟨(aY.alloc (by simp) _).alloc (by simp;omega) _,((Has.new _ _).alloc _).alloc _,(Has.R6 _ (aa 0) _).alloc _,Has.Sw _ _ (aw fun _=>0) _⟩
 clear hw1;generalize hB:w.heap.size+1+1=O at*;generalize hC:w.heap.size+1=R at*;generalize hD:w.heap.size=A at*;have HO:Hid (w.heap.size<=O):=h_ (by omega);have HR:Hid (w.heap.size<=R):=h_ (by omega);have H1:Hid (A≠O):=h_ (by omega);have H3:Hid (R≠O):=h_ (by omega);clear hB hC hD;go_wp2_with (with_reducible refine aK rfl _ rfl _ rfl _ h0.a rfl ?_)
 go_loopw [7,15] (fun c i wr=>∃(k:Nat)(g:Nat->Nat),k<=4/\i=i_ k/\c=ay (Nm.over x b k:Nat)/\Tm w wr A R O x g/\Hid (∀j,j<k->g j=Nm.wd (x*b) j)) (fun _ i _=>4-(intOf i).toNat)
 case atStart=>exact⟨0,fun _=>0,by omega,rfl,by rw[Nm.QH];rfl,h0,h_ fun j hj=>by omega⟩
 case round=>
  obtain⟨k,g,hk,rfl,rfl,hs,HG⟩:=hrel;by_cases hlt:k<4
  ·have hidx:=zJ x hlt;have co:=hs.o.word hlt;have fo:=hs.o.free k;have hmul:=fun w=>FO (Nm.wd x k) b (Nm.dx x k) Yr.out w
   obtain⟨ec,hc⟩:=Lc (Nm.wd x k) b (Nm.over x b k) (Nm.dx x k) (xc x b k) Yr.out;rw[<-Nm.PT]at ec hc;obtain⟨hi,hhi⟩:∃hi,hi=Nm.wd x k*b/18446744073709551616:=⟨_,rfl⟩;obtain⟨lo,hlo⟩:∃lo,lo=Nm.wd x k*b%18446744073709551616:=⟨_,rfl⟩;have hadd:∀w,(callFunc 205 #[ay (lo:Int),ay (Nm.over x b k:Nat),ay 0]).run Tryz.prog w=.ok (.value (.tuple #[ay (((lo+Nm.over x b k+0)%18446744073709551616:Nat):Int),ay (((lo+Nm.over x b k+0)/18446744073709551616:Nat):Int)])) w:=fun w=>yD lo (Nm.over x b k) 0 (by omega) w
   have es:(lo+Nm.over x b k+0)%18446744073709551616=Nm.wd (x*b) k:=by
    rw[Nm.Aj,hlo];omega
   obtain⟨ov,hov⟩:∃ov,ov=(lo+Nm.over x b k+0)/18446744073709551616:=⟨_,rfl⟩;rw[<-hhi,<-hlo]at hmul ec;have ec2:hi+ov=Nm.over x b (k+1):=by rw[hov];exact ec
   have hw2:IntKind.u64.wrap ((hi:Int)+(ov:Int))=(Nm.over x b (k+1):Nat):=by
    rw[<-ec2,IntKind.wrap_u64];omega
   simp only[es,<-hov]at hadd;generalize Nm.wd x k=v at*;generalize Nm.over x b k=c at*;have Y8:=h_ hmul;have HW2:=h_ hw2;clear hmul hw2 ec ec2 es hov hhi hlo hc;go_wp2_with fail
   refine(Y8.out _).mono ?_;rintro e w' ⟨rfl,rfl⟩;go_wp2_with fail
   rw[HW2.out];exact⟨⟨k+1,_,by omega,by go_num,rfl,hs.set k (Nm.wd (x*b) k) hlt H1.out H3.out HO.out,wP HG⟩,by simp[intOf];omega⟩
  ·obtain rfl:k=4:=by omega
   have e:=ko HG;have hr:=hs.r;have ho:=hs.o;have bj:=hs.below;rw[e]at ho;clear e hs
   go_wp2_with (first
    | (with_reducible refine aK rfl _ rfl _ rfl _ ho rfl ?_)
    | (with_reducible refine bg rfl _ _ rfl _ _ rfl rfl _ hr rfl ?_))
   refine bodyPost_ret (v:=.tuple #[.agg (aa (x*b)),.bool (!decide ((Nm.over x b 4:Int)=0))]) (iT Tryz.results215 _ _ _ _ rfl rfl (hr.row _)) rfl ⟨?_,below_setRow bj HR.out _⟩;rw[Nm.NP HX.out,BA];have hbg:0<Nm.ai:=by decide
   exact congrArg (fun q=>Ending.returned (.tuple #[.agg (aa (x*b)),.bool q])) (by
    rw[<-decide_not];apply decide_eq_decide.2;rw[show(¬((x*b/Nm.ai:Nat):Int)=0)↔0<x*b/Nm.ai by generalize x*b/Nm.ai=q;omega,Nat.div_pos_iff];exact⟨fun h=>h.2,fun h=>⟨hbg,h⟩⟩)
