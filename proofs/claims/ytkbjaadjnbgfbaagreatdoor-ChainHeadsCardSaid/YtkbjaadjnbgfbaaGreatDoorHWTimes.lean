import Derived.Test.YtkbjaadjnbgfbaaGreatDoorHBunQ25
import Derived.Test.YtkbjaadjnbgfbaaGreatDoorHBunQ14
set_option maxRecDepth 100000
set_option maxHeartbeats 4000000
namespace Go.Proofs.YtkbjaadjnbgfbaaGreatDoor.NN
open Go.RowKit
theorem Hc(x y:Nat)(hx:x<18446744073709551616)(hy:y<18446744073709551616)(w:World):aU 223 #[aH (x:Int),aH (y:Int)] w fun e w'=>e=.returned (.tuple #[aH ((x*y/18446744073709551616:Nat):Int),aH ((x*y%18446744073709551616:Nat):Int)])/\w=w':=(Tryz.bits_Mul64 x y hx hy w).mono fun _ _ ⟨he,hw⟩=>⟨he,hw.symm⟩
theorem LL(a b c:Nat)(ha:a<18446744073709551616)(hc:c<b\/b=0/\c=0)(hb:b<18446744073709551616):a*b/18446744073709551616+(a*b%18446744073709551616+c)/18446744073709551616=(a*b+c)/18446744073709551616/\(a*b+c)/18446744073709551616<18446744073709551616:=by have h1:a*b<=18446744073709551615*b:=jN b (by omega);generalize a*b=p at*;omega
theorem BE(x b k:Nat):Nm.over x b k<b\/b=0/\Nm.over x b k=0:=by by_cases h:b=0;exact .inr ⟨h,by subst h;simp[Nm.over]⟩;exact .inl (Nm.yP x b k (by omega))
structure Tm (w wr:World) (A R O x:Nat) (g:Nat->Nat):Prop where
 below:Bl w wr
 a:Has wr A (aa x) 26
 r:Has wr R (aa 0) 26
 o:Has wr O (aD g) 26
variable{w wr:World}{A R O x:Nat}{g:Nat->Nat}
theorem Tm.set(h:Tm w wr A R O x g)(i v:Nat)(hi:i<4)(hA:A≠O)(hR:R≠O)(hO:w.heap.size<=O):Tm w (wr.setCell ⟨O,i,none⟩ (aH (v:Nat))) A R O x (dk g i v):=⟨h.below.setCell hO _,h.a.other _ _ hA,h.r.other _ _ hR,by rw[<-sG g i v hi];exact h.o.set _⟩
theorem Tm.drew(h:Tm w wr A R O x g):Tm w wr.drew A R O x g:=⟨h.below.drew,h.a,h.r,h.o⟩
theorem times(x b:Nat)(hx:x<Nm.ak)(hb:b<18446744073709551616)(w:World):ar 215 #[.agg (aa x),aH (b:Int)] w (.tuple #[.agg (aa (x*b%Nm.ak)),.bool (decide (Nm.ak<=x*b))]):=by
 have HBB:=h_ hb;have HX:=h_ hx;clear hb hx;go_enter Tryz.func215,Tryz.ntmps215;go_upto_region 3 with fail
 generalize hw1:World.alloc _ _=w1
 have h0:Tm w w1 w.heap.size (w.heap.size+1) (w.heap.size+1+1) x (fun _=>0):=by
  rw[<-hw1];exact⟨(cu.alloc (by simp) _).alloc (by simp;omega) _,((Has.new _ _).alloc _).alloc _,(Has.Vt _ (aa 0) _).alloc _,Has.VT _ _ (aD fun _=>0) _⟩
 clear hw1;generalize hB:w.heap.size+1+1=O at*;generalize hC:w.heap.size+1=R at*;generalize hD:w.heap.size=A at*;have HO:Hid (w.heap.size<=O):=h_ (by omega);have HR:Hid (w.heap.size<=R):=h_ (by omega);have H1:Hid (A≠O):=h_ (by omega);have H3:Hid (R≠O):=h_ (by omega);clear hB hC hD;go_wp2_with (with_reducible refine a_ rfl _ rfl _ rfl _ h0.a rfl ?_)
 go_loopw [7,15] (fun c i wr=>∃(k:Nat)(g:Nat->Nat),k<=4/\i=i_ k/\c=aH (Nm.over x b k:Nat)/\Tm w wr A R O x g/\Hid (∀j,j<k->g j=Nm.wd (x*b) j)) (fun _ i _=>4-(intOf i).toNat)
 case atStart=>exact⟨0,fun _=>0,by omega,rfl,by rw[Nm.Tt];rfl,h0,h_ fun j hj=>by omega⟩
 case round=>
  obtain⟨k,g,hk,rfl,rfl,hs,HG⟩:=hrel;by_cases hlt:k<4
  ·have hidx:=Cn x hlt;have co:=hs.o.word hlt;have fo:=hs.o.free k;have hmul:=fun w=>Hc (Nm.wd x k) b (Nm.ft x k) HBB.out w
   obtain⟨ec,hc⟩:=LL (Nm.wd x k) b (Nm.over x b k) (Nm.ft x k) (BE x b k) HBB.out;rw[<-Nm.UI]at ec hc;obtain⟨hi,hhi⟩:∃hi,hi=Nm.wd x k*b/18446744073709551616:=⟨_,rfl⟩;obtain⟨lo,hlo⟩:∃lo,lo=Nm.wd x k*b%18446744073709551616:=⟨_,rfl⟩;have hadd:∀w,(callFunc 205 #[aH (lo:Int),aH (Nm.over x b k:Nat),aH 0]).run Tryz.prog w=.ok (.value (.tuple #[aH (((lo+Nm.over x b k+0)%18446744073709551616:Nat):Int),aH (((lo+Nm.over x b k+0)/18446744073709551616:Nat):Int)])) w:=fun w=>Dd lo (Nm.over x b k) 0 (by omega) w
   have es:(lo+Nm.over x b k+0)%18446744073709551616=Nm.wd (x*b) k:=by
    rw[Nm.EE,hlo];omega
   obtain⟨ov,hov⟩:∃ov,ov=(lo+Nm.over x b k+0)/18446744073709551616:=⟨_,rfl⟩;rw[<-hhi,<-hlo]at hmul ec;have ec2:hi+ov=Nm.over x b (k+1):=by rw[hov];exact ec
   have hw2:IntKind.u64.wrap ((hi:Int)+(ov:Int))=(Nm.over x b (k+1):Nat):=by
    rw[<-ec2,IntKind.wrap_u64];omega
   simp only[es,<-hov]at hadd;generalize Nm.wd x k=v at*;generalize Nm.over x b k=c at*;have ag8:=h_ hmul;have HW2:=h_ hw2;clear hmul hw2 ec ec2 es hov hhi hlo hc;go_wp2_with fail
   refine(ag8.out _).mono ?_;rintro e w' ⟨rfl,rfl⟩;go_wp2_with fail
   rw[HW2.out];exact⟨⟨k+1,_,by omega,by go_num,rfl,hs.set k (Nm.wd (x*b) k) hlt H1.out H3.out HO.out,zj HG⟩,by simp[intOf];omega⟩
  ·obtain rfl:k=4:=by omega
   have e:=oT HG;have hr:=hs.r;have ho:=hs.o;have bj:=hs.below;rw[e]at ho;clear e hs
   go_wp2_with (first
    | (with_reducible refine a_ rfl _ rfl _ rfl _ ho rfl ?_)
    | (with_reducible refine cB rfl _ _ rfl _ _ rfl rfl _ hr rfl ?_))
   refine ay (v:=.tuple #[.agg (aa (x*b)),.bool (!decide ((Nm.over x b 4:Int)=0))]) (mM Tryz.results215 _ _ _ _ rfl rfl (hr.row _)) rfl ⟨?_,below_setRow bj HR.out _⟩;rw[Nm.RM HX.out,Eh];have hbg:0<Nm.ak:=by decide
   exact aJ (fun q=>Ending.returned (.tuple #[.agg (aa (x*b)),.bool q])) (by
    rw[<-decide_not];apply decide_eq_decide.2;rw[show(¬((x*b/Nm.ak:Nat):Int)=0)↔0<x*b/Nm.ak by generalize x*b/Nm.ak=q;omega,Nat.div_pos_iff];exact⟨fun h=>h.2,fun h=>⟨hbg,h⟩⟩)
