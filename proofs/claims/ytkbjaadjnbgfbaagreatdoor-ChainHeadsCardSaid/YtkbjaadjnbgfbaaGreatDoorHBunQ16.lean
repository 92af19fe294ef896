import Derived.Test.YtkbjaadjnbgfbaaGreatDoorHBunQ10
import Derived.Test.YtkbjaadjnbgfbaaGreatDoorHBunQ15
set_option maxRecDepth 100000
set_option maxHeartbeats 4000000
namespace Go.Proofs.YtkbjaadjnbgfbaaGreatDoor
open Go.RowKit
section
open Mem Sc VH
theorem Uu(h:Hd)(ho:h.ok)(hp:h.P)(w:World):ar 152 #[.agg (aS h)] w (.tuple #[.string (iG h.enc),i_ 0]):=by
 have CG:=r7 h ho;rw[aG hp]at CG;have KG:=h_ CG;have KW:=h_ (fun b v l w hP hsz=>Nu b v l h ho w hP hsz);rw[Hd.XP hp]at KW;clear CG hp;have hH:=fT w h;have hB:Below w.heap.size w (w.alloc (.cells (aS h) 30)):=cu;have hz:=jI ho;go_enter Tryz.func152,Tryz.ntmps152;go_upto_region 1 with fail
 generalize World.alloc _ _=w1 at*;go_wp2_with (with_reducible refine dU rfl _ rfl _ rfl hH hz ?_)
 refine(KG.out _).mono ?_;rintro r w2 ⟨rfl,hb2⟩;replace hB:=ai hB hb2;replace hH:=hH.on hb2;clear hb2 KG;go_upto_region 4 with fail
 have hN:=Af w2;have hpk:w.heap.size<=w2.heap.size:=hB.size;have hb3:Below w2.heap.size w2 (w2.alloc (.cells #[.slice none 0 0] 206)):=cu;replace hB:=ai hB hb3;replace hH:=hH.on hb3;generalize World.alloc _ _=w3 at*;generalize w2.heap.size=p at*;clear hb3;go_wp2_with (with_reducible refine dU rfl _ rfl _ rfl hH hz ?_)
 refine(KW.out _ _ _ _ hN (by simp)).mono ?_;rintro r w4 ⟨v4,rfl,XQ,Yk⟩;have hB4:=SR hB hpk hN Yk;rw[j_]at XQ;clear KW hN Yk hB hH;go_wp2_with fail
 refine(M_ _ _ _ _ XQ).mono ?_;rintro r w5 ⟨rfl,rfl⟩;go_wp2_with fail
 go_ret2;exact⟨rfl,hB4⟩
theorem OV(h:Hd)(ho:h.ok)(hp:¬h.P)(w:World):ar 152 #[.agg (aS h)] w (.tuple #[.string E0,i_ 1]):=by
 have CG:=r7 h ho;rw[aE hp]at CG;have KG:=h_ CG;clear CG hp;have hH:=fT w h;have hB:Bl w (w.alloc (.cells (aS h) 30)):=cu;have hz:=jI ho;go_enter Tryz.func152,Tryz.ntmps152;go_upto_region 1 with fail
 generalize World.alloc _ _=w1 at*;go_wp2_with (with_reducible refine dU rfl _ rfl _ rfl hH hz ?_)
 refine(KG.out _).mono ?_;rintro r w2 ⟨rfl,hb2⟩;replace hB:=ai hB hb2;go_wp2_with fail
 go_ret2;exact⟨rfl,hB⟩
theorem R9(l:List UInt8):(gP l).length=32:=ru _
theorem lJ(h:Hd):h.id.length=32:=by unfold Hd.id;split;exact R9 _;rfl
theorem pI(h:Hd)(ho:h.ok)(hp:h.P)(w:World)(hT:gj w):ar 119 #[.agg (aS h)] w (.agg (ae h.id)):=by
 have KB:=h_ (Uu h ho hp)
 have c1:∀a w,gj w->fy w a [iG h.enc]->ar 153 #[.slice a 1 1] w (.agg (ae h.id)):=fun a w hT hP=>by
  have:=double a [iG h.enc] 1 1 rfl w hT (by rw[qE,Gj,Hd.Wc ho];omega) (by omega) hP;rwa[qE,Gj,<-Hd.pI hp]at this
 have KD:=h_ c1;have hsz:=uh (lJ h);have hone:=oD h.id;generalize iG h.enc=s at*;generalize ae h.id=cs at*;have WH:=h_ hsz;have hz:=jI ho;clear c1 hp hsz;go_enter Tryz.func119,Tryz.ntmps119;go_upto_region 1 with fail
 generalize hw1:World.alloc _ _=w1;have hH:aX w1 w.heap.size h:=by rw[<-hw1];exact(fT w h).on cu
 have hR:Has w1 (w.heap.size+1) h0 28:=by rw[<-hw1];exact Has.Vt _ h0 _
 have hB:Bl w w1:=by rw[<-hw1];exact cu.alloc (by simp) _
 clear hw1;have hT1:=hT.below hB;go_wp2_with (with_reducible refine dU rfl _ rfl _ rfl hH hz ?_)
 refine(KB.out _).mono ?_;rintro r w2 ⟨rfl,hb2⟩;replace hR:=dz hb2 hR hR.lt;replace hT1:=hT1.below hb2;replace hB:=ai hB hb2;clear hb2 KB hH hT;go_wp2_with fail
 have hb3:Bl w2 (w2.alloc (.cells #[.string s] 9)):=cu;refine(KD.out _ _ (hT1.below hb3) (fy.one (by simp))).mono ?_;rintro r w4 ⟨rfl,hb4⟩;replace hR:=dz hb4 (dz hb3 hR hR.lt) (Has.lt (dz hb3 hR hR.lt));replace hB:=(ai hB hb3).trans (hb4.mono (ax hB.size hb3.size));have Xg:h0.size=32:=rfl;have HZ:=h_ Xg;clear Xg hT1 KD hb3 hb4;go_wp2_with (with_reducible refine nt rfl _ _ rfl _ _ cs rfl rfl rfl WH.out hone h0 hR HZ.out ?_)
 exact ay (v:=.agg cs) (zY Tryz.results119 _ _ _ rfl (hR.row _) WH.out) rfl ⟨rfl,below_setRow hB (by omega) _⟩
theorem tj(h:Hd)(ho:h.ok)(hp:¬h.P)(w:World):ar 119 #[.agg (aS h)] w (.agg (ae h.id)):=by
 have KB:=h_ (OV h ho hp);have hcs:ae h.id=h0:=by rw[Hd.tj hp];rfl
 rw[hcs];have hz:=jI ho;clear hp hcs;go_enter Tryz.func119,Tryz.ntmps119;go_upto_region 1 with fail
 generalize hw1:World.alloc _ _=w1;have hH:aX w1 w.heap.size h:=by rw[<-hw1];exact(fT w h).on cu
 have hR:Has w1 (w.heap.size+1) h0 28:=by rw[<-hw1];exact Has.Vt _ h0 _
 have hB:Bl w w1:=by rw[<-hw1];exact cu.alloc (by simp) _
 clear hw1;go_wp2_with (with_reducible refine dU rfl _ rfl _ rfl hH hz ?_)
 refine(KB.out _).mono ?_;rintro r w2 ⟨rfl,hb2⟩;replace hR:=dz hb2 hR hR.lt;replace hB:=ai hB hb2;have Xg:h0.size=32:=rfl;have HZ:=h_ Xg;have hone:h0.all (·.oneCell')=true:=oD _;clear Xg hb2 KB hH;go_wp2_with (with_reducible refine nt rfl _ _ rfl _ _ h0 rfl rfl rfl HZ.out hone h0 hR HZ.out ?_)
 exact ay (v:=.agg h0) (zY Tryz.results119 _ _ _ rfl (hR.row _) HZ.out) rfl ⟨rfl,below_setRow hB (by omega) _⟩
theorem qL(h:Hd)(ho:h.ok)(w:World)(hT:gj w):ar 119 #[.agg (aS h)] w (.agg (ae h.id)):=by by_cases hp:h.P;exact pI h ho hp w hT;exact tj h ho hp w
theorem A_(h:Hd):iG (num 4 h.v)++iG h.prev++iG h.root++iG (num 4 h.time)++iG (num 4 h.bits)++iG (num 4 h.Vs)=iG h.enc:=by simp only[EA,Hd.enc,iS]
theorem DK(h:Hd)(ho:h.ok)(w:World):ar 108 #[.agg (aS h)] w (.string (iG h.enc)):=by
 rw[<-A_];have N1:=h_ (fun w=>nG 4 h.v w);have N2:=h_ (fun w=>CT h.prev ho.1 w);have N3:=h_ (fun w=>CT h.root ho.2 w);have N4:=h_ (fun w=>nG 4 h.time w);have N5:=h_ (fun w=>nG 4 h.bits w);have N6:=h_ (fun w=>nG 4 h.Vs w);rw[show jH 4 8=4 from rfl]at N1 N4 N5 N6;have z1:(iG (num 4 h.v)).size<=4:=by rw[oz,pW];omega
 have z2:(iG h.prev).size<=32:=by rw[oz,ho.1];omega
 have z3:(iG h.root).size<=32:=by rw[oz,ho.2];omega
 have z4:(iG (num 4 h.time)).size<=4:=by rw[oz,pW];omega
 have z5:(iG (num 4 h.bits)).size<=4:=by rw[oz,pW];omega
 have z6:(iG (num 4 h.Vs)).size<=4:=by rw[oz,pW];omega
 have s1:=lj ho.1;have s2:=lj ho.2;go_enter Tryz.func108,Tryz.ntmps108;go_upto_region 1 with fail
 generalize hw1:World.alloc _ _=w1;have hH:aX w1 w.heap.size h:=by rw[<-hw1];exact fT w h
 have hB:Bl w w1:=eT hw1;clear hw1;have q0:∀d os,(Sort.grow (redrawn w1 d) os).cell? ⟨w.heap.size,0,none⟩=some (i_ h.v):=cell_regrown hH.v;have q1:=jW hH.prev (by omega);have q2:=jW (hH.root ho) (by omega);refine wp_region_quiet_below (by kernel_rfl) (by kernel_rfl) ?_;generalize hn1:iG (num 4 h.v)=t1 at*;generalize hn2:iG h.prev=t2 at*;generalize hn3:iG h.root=t3 at*;have M1:=h_ hn1;have M2:=h_ hn2;have M3:=h_ hn3;clear hn1 hn2 hn3
 repeat(first
  | (go_big_quiet_want;(with_reducible first|refine su _ rfl w.heap.size 1 rfl h.prev s1 q1 ?_|refine su _ rfl w.heap.size 33 rfl h.root s2 q2 ?_);(simp only[Act.put,da,aZ,bg]);go_big_quiet_on)
  | go_big_quiet_step (first|(go_at_call 143;exact Calls.regrown_of (N1.out _))|(go_at_call 144;first|(with_reducible exact Calls.regrown_of (N2.out _))|(with_reducible exact Calls.regrown_of (N3.out _)))))
 refine wpQuiet_nil ?_;intro _ hw';obtain⟨p,hw''⟩:=hw';subst hw'';have hb2:=below_regrown w1 p.d p.os;replace hH:=hH.on hb2;replace hB:=ai hB hb2;clear q0 q1 q2 hb2 N1 N2 N3;generalize Sort.grow (redrawn w1 p.d) p.os=w2 at*;have q0:∀d os,(Sort.grow (redrawn w2 d) os).cell? ⟨w.heap.size,65,none⟩=some (i_ h.time):=cell_regrown (hH.time ho);have q1:∀d os,(Sort.grow (redrawn w2 d) os).cell? ⟨w.heap.size,66,none⟩=some (i_ h.bits):=cell_regrown (hH.bits ho);have q2:∀d os,(Sort.grow (redrawn w2 d) os).cell? ⟨w.heap.size,67,none⟩=some (i_ h.Vs):=cell_regrown (hH.Vs ho);obtain⟨t,ht⟩:∃t,t=t1++t2++t3:=⟨_,rfl⟩;have zt:t.size<=68:=by rw[ht];simp only[nK];omega
 rw[<-ht];clear z1 z2 z3 s1 s2;have HT:=h_ ht;clear ht;go_upto_region 2 with fail
 refine wp_region_quiet_below (by kernel_rfl) (by kernel_rfl) ?_
 repeat(first
  | go_big_quiet_step ((go_at_call 143;first|(with_reducible exact Calls.regrown_of (N4.out _))|(with_reducible exact Calls.regrown_of (N5.out _))|(with_reducible exact Calls.regrown_of (N6.out _)))))
 refine wpQuiet_nil ?_;intro _ hw';obtain⟨p,hw''⟩:=hw';subst hw'';have hB3:=hB.trans ((below_regrown w2 p.d p.os).mono hB.size);go_wp2_with fail
 go_ret;exact⟨by rw[HT.out,<-M1.out,<-M2.out,<-M3.out];rfl,hB3⟩
theorem A1(h:Hd)(ho:h.ok)(hp:h.P)(w:World):ar 75 #[.agg (aS h)] w (.agg (ae h.id)):=by
 have CG:=qD h ho;rw[aG hp]at CG;have KG:=h_ CG;have KB:=h_ (DK h ho);have CD:=SY (iG h.enc) (by rw[oz,Hd.Wc ho];omega);rw[Gj,<-Hd.pI hp]at CD;have KD:=h_ CD;have hsz:=uh (lJ h);have hone:=oD h.id;generalize iG h.enc=s at*;generalize ae h.id=cs at*;have WH:=h_ hsz;have hz:=jI ho;clear CG CD hp hsz;go_enter Tryz.func75,Tryz.ntmps75;go_upto_region 1 with fail
 generalize hw1:World.alloc _ _=w1;have hH:aX w1 w.heap.size h:=by rw[<-hw1];exact(fT w h).on cu
 have hR:Has w1 (w.heap.size+1) h0 28:=by rw[<-hw1];exact Has.Vt _ h0 _
 have hB:Bl w w1:=by rw[<-hw1];exact cu.alloc (by simp) _
 clear hw1;go_wp2_with (with_reducible refine dU rfl _ rfl _ rfl hH hz ?_)
 refine(KG.out _).mono ?_;rintro r w2 ⟨rfl,hb2⟩;replace hR:=dz hb2 hR hR.lt;replace hH:=hH.on hb2;replace hB:=ai hB hb2;clear hb2 KG;go_wp2_with (with_reducible refine dU rfl _ rfl _ rfl hH hz ?_)
 refine(KB.out _).mono ?_;rintro r w3 ⟨rfl,hb3⟩;replace hR:=dz hb3 hR hR.lt;replace hB:=ai hB hb3;clear hb3 KB hH;go_wp2_with fail
 refine(KD.out _).mono ?_;rintro r w4 ⟨rfl,hb4⟩;replace hR:=dz hb4 hR hR.lt;replace hB:=ai hB hb4;have Xg:h0.size=32:=rfl;have HZ:=h_ Xg;clear Xg KD hb4;go_wp2_with (with_reducible refine nt rfl _ _ rfl _ _ cs rfl rfl rfl WH.out hone h0 hR HZ.out ?_)
 exact ay (v:=.agg cs) (zY Tryz.results75 _ _ _ rfl (hR.row _) WH.out) rfl ⟨rfl,below_setRow hB (by omega) _⟩
theorem Ez(h:Hd)(ho:h.ok)(hp:¬h.P)(w:World):ar 75 #[.agg (aS h)] w (.agg (ae h.id)):=by
 have CG:=qD h ho;rw[aE hp]at CG;have KG:=h_ CG;have hcs:ae h.id=h0:=by rw[Hd.tj hp];rfl
 rw[hcs];have hz:=jI ho;clear hp hcs CG;go_enter Tryz.func75,Tryz.ntmps75;go_upto_region 1 with fail
 generalize hw1:World.alloc _ _=w1;have hH:aX w1 w.heap.size h:=by rw[<-hw1];exact(fT w h).on cu
 have hR:Has w1 (w.heap.size+1) h0 28:=by rw[<-hw1];exact Has.Vt _ h0 _
 have hB:Bl w w1:=by rw[<-hw1];exact cu.alloc (by simp) _
 clear hw1;go_wp2_with (with_reducible refine dU rfl _ rfl _ rfl hH hz ?_)
 refine(KG.out _).mono ?_;rintro r w2 ⟨rfl,hb2⟩;replace hR:=dz hb2 hR hR.lt;replace hB:=ai hB hb2;have Xg:h0.size=32:=rfl;have HZ:=h_ Xg;have hone:h0.all (·.oneCell')=true:=oD _;clear Xg hb2 KG hH;go_wp2_with (with_reducible refine nt rfl _ _ rfl _ _ h0 rfl rfl rfl HZ.out hone h0 hR HZ.out ?_)
 exact ay (v:=.agg h0) (zY Tryz.results75 _ _ _ rfl (hR.row _) HZ.out) rfl ⟨rfl,below_setRow hB (by omega) _⟩
theorem mK(h:Hd)(ho:h.ok)(w:World):ar 75 #[.agg (aS h)] w (.agg (ae h.id)):=by by_cases hp:h.P;exact A1 h ho hp w;exact Ez h ho hp w
end
open Mem Sc
variable{o:Oper}{a:Act}{w:World}{Q:Exit->Act->World->Prop}
theorem AO{K:Act->World->Prop}(t':TypeId)(x y:Operand)(ho:o.op=.binOp .neq 28 x y t')(xs ys:Array Value)(v:Value)(hx:a.eval x=.agg xs)(hy:a.eval y=.agg ys)(hq:(binOp .neq 28 (.agg xs) (.agg ys)).run Tryz.prog w=.ok v w)(h:K (a.put o.dst v) w):o.wp Tryz.prog a w K Q:=by unfold Oper.wp execOp;simp only[ho,hx,hy,aB,cr,run_eqGuard_agg w .neq 28 x y xs ys wy,aM,hq];exact h
theorem pY{ops:Array Oper}{rest:List Oper}(hw:Region.wanted o (yielded ops a.tmps)=true)(t':TypeId)(x y:Operand)(ho:o.op=.binOp .neq 28 x y t')(xs ys:Array Value)(v:Value)(hx:a.eval x=.agg xs)(hy:a.eval y=.agg ys)(hq:∀w,(binOp .neq 28 (.agg xs) (.agg ys)).run Tryz.prog w=.ok v w)(h:wpList Tryz.prog ops Q rest (a.put o.dst v) w):wpList Tryz.prog ops Q (o::rest) a w:=
 mf hw fun _ hK=>AO t' x y ho xs ys v hx hy (hq w) (hK _ _ h)
def UX:Hd:=⟨1,oX,oX,0,0,0⟩
