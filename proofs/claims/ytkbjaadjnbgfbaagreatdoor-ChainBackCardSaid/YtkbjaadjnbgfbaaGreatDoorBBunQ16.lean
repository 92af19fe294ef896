import Derived.Test.YtkbjaadjnbgfbaaGreatDoorBBunQ10
import Derived.Test.YtkbjaadjnbgfbaaGreatDoorBBunQ15
set_option maxRecDepth 100000
set_option maxHeartbeats 4000000
namespace Go.Proofs.YtkbjaadjnbgfbaaGreatDoor
open Go.RowKit
section
open Mem Sc Sh
theorem QP(h:Hd)(ho:h.ok)(hp:h.P)(w:World):ak 152 #[.agg (aD h)] w (.tuple #[.string (eR h.enc),i_ 0]):=by
 have CG:=nr h ho;rw[decide_eq_true hp]at CG;have KG:=h_ CG;have KW:=h_ (fun b v l w hP hsz=>Ic b v l h ho w hP hsz);rw[Hd.Ur hp]at KW;clear CG hp;have hH:=dM w h;have hB:Below w.heap.size w (w.alloc (.cells (aD h) 30)):=aY;have hz:=fX ho;go_enter Tryz.func152,Tryz.ntmps152;go_upto_region 1 with fail
 generalize World.alloc _ _=w1 at*;go_wp2_with (with_reducible refine cP rfl _ rfl _ rfl hH hz ?_)
 refine(KG.out _).mono ?_;rintro r w2 ⟨rfl,hb2⟩;replace hB:=ah hB hb2;replace hH:=hH.on hb2;clear hb2 KG;go_upto_region 4 with fail
 have hN:=uV w2;have hpk:w.heap.size<=w2.heap.size:=hB.size;have hb3:Below w2.heap.size w2 (w2.alloc (.cells #[.slice none 0 0] 206)):=aY;replace hB:=ah hB hb3;replace hH:=hH.on hb3;generalize World.alloc _ _=w3 at*;generalize w2.heap.size=p at*;clear hb3;go_wp2_with (with_reducible refine cP rfl _ rfl _ rfl hH hz ?_)
 refine(KW.out _ _ _ _ hN (by simp)).mono ?_;rintro r w4 ⟨v4,rfl,Us,UX⟩;have hB4:=Q' hB hpk hN UX;rw[List.nil_append]at Us;clear KW hN UX hB hH;go_wp2_with fail
 refine(Nd _ _ _ _ Us).mono ?_;rintro r w5 ⟨rfl,rfl⟩;go_wp2_with fail
 go_ret2;exact⟨rfl,hB4⟩
theorem Lq(h:Hd)(ho:h.ok)(hp:¬h.P)(w:World):ak 152 #[.agg (aD h)] w (.tuple #[.string E0,i_ 1]):=by
 have CG:=nr h ho;rw[decide_eq_false hp]at CG;have KG:=h_ CG;clear CG hp;have hH:=dM w h;have hB:Bl w (w.alloc (.cells (aD h) 30)):=aY;have hz:=fX ho;go_enter Tryz.func152,Tryz.ntmps152;go_upto_region 1 with fail
 generalize World.alloc _ _=w1 at*;go_wp2_with (with_reducible refine cP rfl _ rfl _ rfl hH hz ?_)
 refine(KG.out _).mono ?_;rintro r w2 ⟨rfl,hb2⟩;replace hB:=ah hB hb2;go_wp2_with fail
 go_ret2;exact⟨rfl,hB⟩
theorem NO(l:List UInt8):(eu l).length=32:=mI _
theorem iv(h:Hd):h.id.length=32:=by unfold Hd.id;split;exact NO _;rfl
theorem kS(h:Hd)(ho:h.ok)(hp:h.P)(w:World)(hT:dQ w):ak 119 #[.agg (aD h)] w (.agg (ae h.id)):=by
 have KB:=h_ (QP h ho hp)
 have c1:∀a w,dQ w->dB w a [eR h.enc]->ak 153 #[.slice a 1 1] w (.agg (ae h.id)):=fun a w hT hP=>by
  have:=double a [eR h.enc] 1 1 rfl w hT (by rw[lV,AZ,Hd.SU ho];omega) (by omega) hP;rwa[lV,AZ,<-Hd.kS hp]at this
 have KD:=h_ c1;have hsz:=oV (iv h);have hone:=j6 h.id;generalize eR h.enc=s at*;generalize ae h.id=cs at*;have Tt:=h_ hsz;have hz:=fX ho;clear c1 hp hsz;go_enter Tryz.func119,Tryz.ntmps119;go_upto_region 1 with fail
 generalize hw1:World.alloc _ _=w1;have hH:aH w1 w.heap.size h:=by rw[<-hw1];exact(dM w h).on aY
 have hR:Has w1 (w.heap.size+1) h0 28:=by rw[<-hw1];exact Has.R6 _ h0 _
 have hB:Bl w w1:=by rw[<-hw1];exact aY.alloc (by simp) _
 clear hw1;have hT1:=hT.below hB;go_wp2_with (with_reducible refine cP rfl _ rfl _ rfl hH hz ?_)
 refine(KB.out _).mono ?_;rintro r w2 ⟨rfl,hb2⟩;replace hR:=cg hb2 hR hR.lt;replace hT1:=hT1.below hb2;replace hB:=ah hB hb2;clear hb2 KB hH hT;go_wp2_with fail
 have hb3:Bl w2 (w2.alloc (.cells #[.string s] 9)):=aY;refine(KD.out _ _ (hT1.below hb3) (dB.one (by simp))).mono ?_;rintro r w4 ⟨rfl,hb4⟩;replace hR:=cg hb4 (cg hb3 hR hR.lt) (Has.lt (cg hb3 hR hR.lt));replace hB:=(ah hB hb3).trans (hb4.mono (Nat.le_trans hB.size hb3.size));have T1:h0.size=32:=rfl;have HZ:=h_ T1;clear T1 hT1 KD hb3 hb4;go_wp2_with (with_reducible refine jD rfl _ _ rfl _ _ cs rfl rfl rfl Tt.out hone h0 hR HZ.out ?_)
 exact bodyPost_ret (v:=.agg cs) (uy Tryz.results119 _ _ _ rfl (hR.row _) Tt.out) rfl ⟨rfl,below_setRow hB (by omega) _⟩
theorem oE(h:Hd)(ho:h.ok)(hp:¬h.P)(w:World):ak 119 #[.agg (aD h)] w (.agg (ae h.id)):=by
 have KB:=h_ (Lq h ho hp);have hcs:ae h.id=h0:=by rw[Hd.oE hp];rfl
 rw[hcs];have hz:=fX ho;clear hp hcs;go_enter Tryz.func119,Tryz.ntmps119;go_upto_region 1 with fail
 generalize hw1:World.alloc _ _=w1;have hH:aH w1 w.heap.size h:=by rw[<-hw1];exact(dM w h).on aY
 have hR:Has w1 (w.heap.size+1) h0 28:=by rw[<-hw1];exact Has.R6 _ h0 _
 have hB:Bl w w1:=by rw[<-hw1];exact aY.alloc (by simp) _
 clear hw1;go_wp2_with (with_reducible refine cP rfl _ rfl _ rfl hH hz ?_)
 refine(KB.out _).mono ?_;rintro r w2 ⟨rfl,hb2⟩;replace hR:=cg hb2 hR hR.lt;replace hB:=ah hB hb2;have T1:h0.size=32:=rfl;have HZ:=h_ T1;have hone:h0.all (·.oneCell')=true:=j6 _;clear T1 hb2 KB hH;go_wp2_with (with_reducible refine jD rfl _ _ rfl _ _ h0 rfl rfl rfl HZ.out hone h0 hR HZ.out ?_)
 exact bodyPost_ret (v:=.agg h0) (uy Tryz.results119 _ _ _ rfl (hR.row _) HZ.out) rfl ⟨rfl,below_setRow hB (by omega) _⟩
theorem mK(h:Hd)(ho:h.ok)(w:World)(hT:dQ w):ak 119 #[.agg (aD h)] w (.agg (ae h.id)):=by by_cases hp:h.P;exact kS h ho hp w hT;exact oE h ho hp w
theorem vN(h:Hd):eR (num 4 h.v)++eR h.prev++eR h.root++eR (num 4 h.time)++eR (num 4 h.bits)++eR (num 4 h.R5)=eR h.enc:=by simp only[Av,Hd.enc,List.append_assoc]
theorem Cs(h:Hd)(ho:h.ok)(w:World):ak 108 #[.agg (aD h)] w (.string (eR h.enc)):=by
 rw[<-vN];have N1:=h_ (fun w=>jF 4 h.v w);have N2:=h_ (fun w=>yO h.prev ho.1 w);have N3:=h_ (fun w=>yO h.root ho.2 w);have N4:=h_ (fun w=>jF 4 h.time w);have N5:=h_ (fun w=>jF 4 h.bits w);have N6:=h_ (fun w=>jF 4 h.R5 w);rw[show fQ 4 8=4 from rfl]at N1 N4 N5 N6;have z1:(eR (num 4 h.v)).size<=4:=by rw[j4,k7];omega
 have z2:(eR h.prev).size<=32:=by rw[j4,ho.1];omega
 have z3:(eR h.root).size<=32:=by rw[j4,ho.2];omega
 have z4:(eR (num 4 h.time)).size<=4:=by rw[j4,k7];omega
 have z5:(eR (num 4 h.bits)).size<=4:=by rw[j4,k7];omega
 have z6:(eR (num 4 h.R5)).size<=4:=by rw[j4,k7];omega
 have s1:=il ho.1;have s2:=il ho.2;go_enter Tryz.func108,Tryz.ntmps108;go_upto_region 1 with fail
 generalize hw1:World.alloc _ _=w1;have hH:aH w1 w.heap.size h:=by rw[<-hw1];exact dM w h
 have hB:Bl w w1:=dd hw1;clear hw1;have q0:∀d os,(Sort.grow (redrawn w1 d) os).cell? ⟨w.heap.size,0,none⟩=some (i_ h.v):=cell_regrown hH.v;have q1:=gv hH.prev (by omega);have q2:=gv (hH.root ho) (by omega);refine wp_region_quiet_below (by kernel_rfl) (by kernel_rfl) ?_;generalize hn1:eR (num 4 h.v)=t1 at*;generalize hn2:eR h.prev=t2 at*;generalize hn3:eR h.root=t3 at*;have M1:=h_ hn1;have M2:=h_ hn2;have M3:=h_ hn3;clear hn1 hn2 hn3
 repeat(first
  | (go_big_quiet_want;(with_reducible first|refine nB _ rfl w.heap.size 1 rfl h.prev s1 q1 ?_|refine nB _ rfl w.heap.size 33 rfl h.root s2 q2 ?_);(simp only[Act.put,List.setIfInBounds_toArray,List.set_cons_zero,List.set_cons_succ]);go_big_quiet_on)
  | go_big_quiet_step (first|(go_at_call 143;exact Calls.regrown_of (N1.out _))|(go_at_call 144;first|(with_reducible exact Calls.regrown_of (N2.out _))|(with_reducible exact Calls.regrown_of (N3.out _)))))
 refine wpQuiet_nil ?_;intro _ hw';obtain⟨p,hw''⟩:=hw';subst hw'';have hb2:=below_regrown w1 p.d p.os;replace hH:=hH.on hb2;replace hB:=ah hB hb2;clear q0 q1 q2 hb2 N1 N2 N3;generalize Sort.grow (redrawn w1 p.d) p.os=w2 at*;have q0:∀d os,(Sort.grow (redrawn w2 d) os).cell? ⟨w.heap.size,65,none⟩=some (i_ h.time):=cell_regrown (hH.time ho);have q1:∀d os,(Sort.grow (redrawn w2 d) os).cell? ⟨w.heap.size,66,none⟩=some (i_ h.bits):=cell_regrown (hH.bits ho);have q2:∀d os,(Sort.grow (redrawn w2 d) os).cell? ⟨w.heap.size,67,none⟩=some (i_ h.R5):=cell_regrown (hH.R5 ho);obtain⟨t,ht⟩:∃t,t=t1++t2++t3:=⟨_,rfl⟩;have zt:t.size<=68:=by rw[ht];simp only[ByteArray.size_append];omega
 rw[<-ht];clear z1 z2 z3 s1 s2;have HT:=h_ ht;clear ht;go_upto_region 2 with fail
 refine wp_region_quiet_below (by kernel_rfl) (by kernel_rfl) ?_
 repeat(first
  | go_big_quiet_step ((go_at_call 143;first|(with_reducible exact Calls.regrown_of (N4.out _))|(with_reducible exact Calls.regrown_of (N5.out _))|(with_reducible exact Calls.regrown_of (N6.out _)))))
 refine wpQuiet_nil ?_;intro _ hw';obtain⟨p,hw''⟩:=hw';subst hw'';have hB3:=hB.trans ((below_regrown w2 p.d p.os).mono hB.size);go_wp2_with fail
 go_ret;exact⟨by rw[HT.out,<-M1.out,<-M2.out,<-M3.out];rfl,hB3⟩
theorem um(h:Hd)(ho:h.ok)(hp:h.P)(w:World):ak 75 #[.agg (aD h)] w (.agg (ae h.id)):=by
 have CG:=mj h ho;rw[decide_eq_true hp]at CG;have KG:=h_ CG;have KB:=h_ (Cs h ho);have CD:=O6 (eR h.enc) (by rw[j4,Hd.SU ho];omega);rw[AZ,<-Hd.kS hp]at CD;have KD:=h_ CD;have hsz:=oV (iv h);have hone:=j6 h.id;generalize eR h.enc=s at*;generalize ae h.id=cs at*;have Tt:=h_ hsz;have hz:=fX ho;clear CG CD hp hsz;go_enter Tryz.func75,Tryz.ntmps75;go_upto_region 1 with fail
 generalize hw1:World.alloc _ _=w1;have hH:aH w1 w.heap.size h:=by rw[<-hw1];exact(dM w h).on aY
 have hR:Has w1 (w.heap.size+1) h0 28:=by rw[<-hw1];exact Has.R6 _ h0 _
 have hB:Bl w w1:=by rw[<-hw1];exact aY.alloc (by simp) _
 clear hw1;go_wp2_with (with_reducible refine cP rfl _ rfl _ rfl hH hz ?_)
 refine(KG.out _).mono ?_;rintro r w2 ⟨rfl,hb2⟩;replace hR:=cg hb2 hR hR.lt;replace hH:=hH.on hb2;replace hB:=ah hB hb2;clear hb2 KG;go_wp2_with (with_reducible refine cP rfl _ rfl _ rfl hH hz ?_)
 refine(KB.out _).mono ?_;rintro r w3 ⟨rfl,hb3⟩;replace hR:=cg hb3 hR hR.lt;replace hB:=ah hB hb3;clear hb3 KB hH;go_wp2_with fail
 refine(KD.out _).mono ?_;rintro r w4 ⟨rfl,hb4⟩;replace hR:=cg hb4 hR hR.lt;replace hB:=ah hB hb4;have T1:h0.size=32:=rfl;have HZ:=h_ T1;clear T1 KD hb4;go_wp2_with (with_reducible refine jD rfl _ _ rfl _ _ cs rfl rfl rfl Tt.out hone h0 hR HZ.out ?_)
 exact bodyPost_ret (v:=.agg cs) (uy Tryz.results75 _ _ _ rfl (hR.row _) Tt.out) rfl ⟨rfl,below_setRow hB (by omega) _⟩
theorem A1(h:Hd)(ho:h.ok)(hp:¬h.P)(w:World):ak 75 #[.agg (aD h)] w (.agg (ae h.id)):=by
 have CG:=mj h ho;rw[decide_eq_false hp]at CG;have KG:=h_ CG;have hcs:ae h.id=h0:=by rw[Hd.oE hp];rfl
 rw[hcs];have hz:=fX ho;clear hp hcs CG;go_enter Tryz.func75,Tryz.ntmps75;go_upto_region 1 with fail
 generalize hw1:World.alloc _ _=w1;have hH:aH w1 w.heap.size h:=by rw[<-hw1];exact(dM w h).on aY
 have hR:Has w1 (w.heap.size+1) h0 28:=by rw[<-hw1];exact Has.R6 _ h0 _
 have hB:Bl w w1:=by rw[<-hw1];exact aY.alloc (by simp) _
 clear hw1;go_wp2_with (with_reducible refine cP rfl _ rfl _ rfl hH hz ?_)
 refine(KG.out _).mono ?_;rintro r w2 ⟨rfl,hb2⟩;replace hR:=cg hb2 hR hR.lt;replace hB:=ah hB hb2;have T1:h0.size=32:=rfl;have HZ:=h_ T1;have hone:h0.all (·.oneCell')=true:=j6 _;clear T1 hb2 KG hH;go_wp2_with (with_reducible refine jD rfl _ _ rfl _ _ h0 rfl rfl rfl HZ.out hone h0 hR HZ.out ?_)
 exact bodyPost_ret (v:=.agg h0) (uy Tryz.results75 _ _ _ rfl (hR.row _) HZ.out) rfl ⟨rfl,below_setRow hB (by omega) _⟩
theorem iX(h:Hd)(ho:h.ok)(w:World):ak 75 #[.agg (aD h)] w (.agg (ae h.id)):=by by_cases hp:h.P;exact um h ho hp w;exact A1 h ho hp w
end
open Mem Sc
variable{o:Oper}{a:Act}{w:World}{Q:Exit->Act->World->Prop}
theorem sX{K:Act->World->Prop}(t':TypeId)(x y:Operand)(ho:o.op=.binOp .neq 28 x y t')(xs ys:Array Value)(v:Value)(hx:a.eval x=.agg xs)(hy:a.eval y=.agg ys)(hq:(binOp .neq 28 (.agg xs) (.agg ys)).run Tryz.prog w=.ok v w)(h:K (a.put o.dst v) w):o.wp Tryz.prog a w K Q:=by unfold Oper.wp execOp;simp only[ho,hx,hy,Sem.run_bind,Sem.run_pure,run_eqGuard_agg w .neq 28 x y xs ys pH,Result.andThen_ok,hq];exact h
theorem kO{ops:Array Oper}{rest:List Oper}(hw:Region.wanted o (yielded ops a.tmps)=true)(t':TypeId)(x y:Operand)(ho:o.op=.binOp .neq 28 x y t')(xs ys:Array Value)(v:Value)(hx:a.eval x=.agg xs)(hy:a.eval y=.agg ys)(hq:∀w,(binOp .neq 28 (.agg xs) (.agg ys)).run Tryz.prog w=.ok v w)(h:wpList Tryz.prog ops Q rest (a.put o.dst v) w):wpList Tryz.prog ops Q (o::rest) a w:=
 BigFrame.wpList_want hw fun _ hK=>sX t' x y ho xs ys v hx hy (hq w) (hK _ _ h)
def N8:Hd:=⟨1,kL,kL,0,0,0⟩
