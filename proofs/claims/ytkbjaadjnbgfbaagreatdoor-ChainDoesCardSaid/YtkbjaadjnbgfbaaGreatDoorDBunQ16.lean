import Derived.Test.YtkbjaadjnbgfbaaGreatDoorDBunQ10
import Derived.Test.YtkbjaadjnbgfbaaGreatDoorDBunQ15
set_option maxRecDepth 100000
set_option maxHeartbeats 4000000
namespace Go.Proofs.YtkbjaadjnbgfbaaGreatDoor
open Go.RowKit
section
open Mem Sc Q7
theorem PH(h:Hd)(ho:h.ok)(hp:h.P)(w:World):ak 152 #[.agg (aD h)] w (.tuple #[.string (eT h.bT),i_ 0]):=by
 have CG:=ny h ho;rw[decide_eq_true hp]at CG;have KG:=h_ CG;have KW:=h_ (fun b v l w hP hsz=>DU b v l h ho w hP hsz);rw[Hd.Tf hp]at KW;clear CG hp;have hH:=dQ w h;have hB:Below w.heap.size w (w.alloc (.cells (aD h) 30)):=aZ;have hz:=fR ho;go_enter Tryz.func152,Tryz.ntmps152;go_upto_region 1 with fail
 generalize World.alloc _ _=w1 at*;go_wp2_with (with_reducible refine cJ rfl _ rfl _ rfl hH hz ?_)
 refine(KG.out _).mono ?_;rintro r w2 ⟨rfl,hb2⟩;replace hB:=ah hB hb2;replace hH:=hH.on hb2;clear hb2 KG;go_upto_region 4 with fail
 have hN:=tV w2;have hpk:w.heap.size<=w2.heap.size:=hB.size;have hb3:Below w2.heap.size w2 (w2.alloc (.cells #[.slice none 0 0] 206)):=aZ;replace hB:=ah hB hb3;replace hH:=hH.on hb3;generalize World.alloc _ _=w3 at*;generalize w2.heap.size=p at*;clear hb3;go_wp2_with (with_reducible refine cJ rfl _ rfl _ rfl hH hz ?_)
 refine(KW.out _ _ _ _ hN (by simp)).mono ?_;rintro r w4 ⟨v4,rfl,Tg,TN⟩;have hB4:=MX hB hpk hN TN;rw[List.nil_append]at Tg;clear KW hN TN hB hH;go_wp2_with fail
 refine(JG _ _ _ _ Tg).mono ?_;rintro r w5 ⟨rfl,rfl⟩;go_wp2_with fail
 go_ret2;exact⟨rfl,hB4⟩
theorem CT(h:Hd)(ho:h.ok)(hp:¬h.P)(w:World):ak 152 #[.agg (aD h)] w (.tuple #[.string E0,i_ 1]):=by
 have CG:=ny h ho;rw[decide_eq_false hp]at CG;have KG:=h_ CG;clear CG hp;have hH:=dQ w h;have hB:Bl w (w.alloc (.cells (aD h) 30)):=aZ;have hz:=fR ho;go_enter Tryz.func152,Tryz.ntmps152;go_upto_region 1 with fail
 generalize World.alloc _ _=w1 at*;go_wp2_with (with_reducible refine cJ rfl _ rfl _ rfl hH hz ?_)
 refine(KG.out _).mono ?_;rintro r w2 ⟨rfl,hb2⟩;replace hB:=ah hB hb2;go_wp2_with fail
 go_ret2;exact⟨rfl,hB⟩
theorem LN(l:List UInt8):(eo l).length=32:=lY _
theorem im(h:Hd):h.id.length=32:=by unfold Hd.id;split;exact LN _;rfl
theorem kZ(h:Hd)(ho:h.ok)(hp:h.P)(w:World)(hT:dS w):ak 119 #[.agg (aD h)] w (.agg (ae h.id)):=by
 have KB:=h_ (PH h ho hp)
 have c1:∀a w,dS w->dC w a [eT h.bT]->ak 153 #[.slice a 1 1] w (.agg (ae h.id)):=fun a w hT hP=>by
  have:=double a [eT h.bT] 1 1 rfl w hT (by rw[mw,yN,Hd.RJ ho];omega) (by omega) hP;rwa[mw,yN,<-Hd.kZ hp]at this
 have KD:=h_ c1;have hsz:=oo (im h);have hone:=jY h.id;generalize eT h.bT=s at*;generalize ae h.id=cs at*;have R7:=h_ hsz;have hz:=fR ho;clear c1 hp hsz;go_enter Tryz.func119,Tryz.ntmps119;go_upto_region 1 with fail
 generalize hw1:World.alloc _ _=w1;have hH:aG w1 w.heap.size h:=by rw[<-hw1];exact(dQ w h).on aZ
 have hR:Has w1 (w.heap.size+1) h0 28:=by rw[<-hw1];exact Has.QW _ h0 _
 have hB:Bl w w1:=by rw[<-hw1];exact aZ.alloc (by simp) _
 clear hw1;have hT1:=hT.below hB;go_wp2_with (with_reducible refine cJ rfl _ rfl _ rfl hH hz ?_)
 refine(KB.out _).mono ?_;rintro r w2 ⟨rfl,hb2⟩;replace hR:=cu hb2 hR hR.lt;replace hT1:=hT1.below hb2;replace hB:=ah hB hb2;clear hb2 KB hH hT;go_wp2_with fail
 have hb3:Bl w2 (w2.alloc (.cells #[.string s] 9)):=aZ;refine(KD.out _ _ (hT1.below hb3) (dC.one (by simp))).mono ?_;rintro r w4 ⟨rfl,hb4⟩;replace hR:=cu hb4 (cu hb3 hR hR.lt) (Has.lt (cu hb3 hR hR.lt));replace hB:=(ah hB hb3).trans (hb4.mono (Nat.le_trans hB.size hb3.size));have SN:h0.size=32:=rfl;have HZ:=h_ SN;clear SN hT1 KD hb3 hb4;go_wp2_with (with_reducible refine jo rfl _ _ rfl _ _ cs rfl rfl rfl R7.out hone h0 hR HZ.out ?_)
 exact bodyPost_ret (v:=.agg cs) (tF Tryz.results119 _ _ _ rfl (hR.row _) R7.out) rfl ⟨rfl,below_setRow hB (by omega) _⟩
theorem nV(h:Hd)(ho:h.ok)(hp:¬h.P)(w:World):ak 119 #[.agg (aD h)] w (.agg (ae h.id)):=by
 have KB:=h_ (CT h ho hp);have hcs:ae h.id=h0:=by rw[Hd.nV hp];rfl
 rw[hcs];have hz:=fR ho;clear hp hcs;go_enter Tryz.func119,Tryz.ntmps119;go_upto_region 1 with fail
 generalize hw1:World.alloc _ _=w1;have hH:aG w1 w.heap.size h:=by rw[<-hw1];exact(dQ w h).on aZ
 have hR:Has w1 (w.heap.size+1) h0 28:=by rw[<-hw1];exact Has.QW _ h0 _
 have hB:Bl w w1:=by rw[<-hw1];exact aZ.alloc (by simp) _
 clear hw1;go_wp2_with (with_reducible refine cJ rfl _ rfl _ rfl hH hz ?_)
 refine(KB.out _).mono ?_;rintro r w2 ⟨rfl,hb2⟩;replace hR:=cu hb2 hR hR.lt;replace hB:=ah hB hb2;have SN:h0.size=32:=rfl;have HZ:=h_ SN;have hone:h0.all (·.oneCell')=true:=jY _;clear SN hb2 KB hH;go_wp2_with (with_reducible refine jo rfl _ _ rfl _ _ h0 rfl rfl rfl HZ.out hone h0 hR HZ.out ?_)
 exact bodyPost_ret (v:=.agg h0) (tF Tryz.results119 _ _ _ rfl (hR.row _) HZ.out) rfl ⟨rfl,below_setRow hB (by omega) _⟩
theorem lV(h:Hd)(ho:h.ok)(w:World)(hT:dS w):ak 119 #[.agg (aD h)] w (.agg (ae h.id)):=by by_cases hp:h.P;exact kZ h ho hp w hT;exact nV h ho hp w
theorem tW(h:Hd):eT (num 4 h.v)++eT h.prev++eT h.root++eT (num 4 h.time)++eT (num 4 h.bits)++eT (num 4 h.QV)=eT h.bT:=by simp only[B9,Hd.bT,List.append_assoc]
theorem zE(h:Hd)(ho:h.ok)(w:World):ak 108 #[.agg (aD h)] w (.string (eT h.bT)):=by
 rw[<-tW];have N1:=h_ (fun w=>jy 4 h.v w);have N2:=h_ (fun w=>xN h.prev ho.1 w);have N3:=h_ (fun w=>xN h.root ho.2 w);have N4:=h_ (fun w=>jy 4 h.time w);have N5:=h_ (fun w=>jy 4 h.bits w);have N6:=h_ (fun w=>jy 4 h.QV w);rw[show fO 4 8=4 from rfl]at N1 N4 N5 N6;have z1:(eT (num 4 h.v)).size<=4:=by rw[jJ,k7];omega
 have z2:(eT h.prev).size<=32:=by rw[jJ,ho.1];omega
 have z3:(eT h.root).size<=32:=by rw[jJ,ho.2];omega
 have z4:(eT (num 4 h.time)).size<=4:=by rw[jJ,k7];omega
 have z5:(eT (num 4 h.bits)).size<=4:=by rw[jJ,k7];omega
 have z6:(eT (num 4 h.QV)).size<=4:=by rw[jJ,k7];omega
 have s1:=gV ho.1;have s2:=gV ho.2;go_enter Tryz.func108,Tryz.ntmps108;go_upto_region 1 with fail
 generalize hw1:World.alloc _ _=w1;have hH:aG w1 w.heap.size h:=by rw[<-hw1];exact dQ w h
 have hB:Bl w w1:=de hw1;clear hw1;have q0:∀d os,(Sort.grow (redrawn w1 d) os).cell? ⟨w.heap.size,0,none⟩=some (i_ h.v):=cell_regrown hH.v;have q1:=gd hH.prev (by omega);have q2:=gd (hH.root ho) (by omega);refine wp_region_quiet_below (by kernel_rfl) (by kernel_rfl) ?_;generalize hn1:eT (num 4 h.v)=t1 at*;generalize hn2:eT h.prev=t2 at*;generalize Zi:eT h.root=t3 at*;have M1:=h_ hn1;have M2:=h_ hn2;have M3:=h_ Zi;clear hn1 hn2 Zi
 repeat(first
  | (go_big_quiet_want;(with_reducible first|refine mQ _ rfl w.heap.size 1 rfl h.prev s1 q1 ?_|refine mQ _ rfl w.heap.size 33 rfl h.root s2 q2 ?_);(simp only[Act.put,List.setIfInBounds_toArray,List.set_cons_zero,List.set_cons_succ]);go_big_quiet_on)
  | go_big_quiet_step (first|(go_at_call 143;exact Calls.regrown_of (N1.out _))|(go_at_call 144;first|(with_reducible exact Calls.regrown_of (N2.out _))|(with_reducible exact Calls.regrown_of (N3.out _)))))
 refine wpQuiet_nil ?_;intro _ hw';obtain⟨p,hw''⟩:=hw';subst hw'';have hb2:=below_regrown w1 p.d p.os;replace hH:=hH.on hb2;replace hB:=ah hB hb2;clear q0 q1 q2 hb2 N1 N2 N3;generalize Sort.grow (redrawn w1 p.d) p.os=w2 at*;have q0:∀d os,(Sort.grow (redrawn w2 d) os).cell? ⟨w.heap.size,65,none⟩=some (i_ h.time):=cell_regrown (hH.time ho);have q1:∀d os,(Sort.grow (redrawn w2 d) os).cell? ⟨w.heap.size,66,none⟩=some (i_ h.bits):=cell_regrown (hH.bits ho);have q2:∀d os,(Sort.grow (redrawn w2 d) os).cell? ⟨w.heap.size,67,none⟩=some (i_ h.QV):=cell_regrown (hH.QV ho);obtain⟨t,ht⟩:∃t,t=t1++t2++t3:=⟨_,rfl⟩;have zt:t.size<=68:=by rw[ht];simp only[ByteArray.size_append];omega
 rw[<-ht];clear z1 z2 z3 s1 s2;have HT:=h_ ht;clear ht;go_upto_region 2 with fail
 refine wp_region_quiet_below (by kernel_rfl) (by kernel_rfl) ?_
 repeat(first
  | go_big_quiet_step ((go_at_call 143;first|(with_reducible exact Calls.regrown_of (N4.out _))|(with_reducible exact Calls.regrown_of (N5.out _))|(with_reducible exact Calls.regrown_of (N6.out _)))))
 refine wpQuiet_nil ?_;intro _ hw';obtain⟨p,hw''⟩:=hw';subst hw'';have hB3:=hB.trans ((below_regrown w2 p.d p.os).mono hB.size);go_wp2_with fail
 go_ret;exact⟨by rw[HT.out,<-M1.out,<-M2.out,<-M3.out];rfl,hB3⟩
theorem sZ(h:Hd)(ho:h.ok)(hp:h.P)(w:World):ak 75 #[.agg (aD h)] w (.agg (ae h.id)):=by
 have CG:=lS h ho;rw[decide_eq_true hp]at CG;have KG:=h_ CG;have KB:=h_ (zE h ho);have CD:=Pv (eT h.bT) (by rw[jJ,Hd.RJ ho];omega);rw[yN,<-Hd.kZ hp]at CD;have KD:=h_ CD;have hsz:=oo (im h);have hone:=jY h.id;generalize eT h.bT=s at*;generalize ae h.id=cs at*;have R7:=h_ hsz;have hz:=fR ho;clear CG CD hp hsz;go_enter Tryz.func75,Tryz.ntmps75;go_upto_region 1 with fail
 generalize hw1:World.alloc _ _=w1;have hH:aG w1 w.heap.size h:=by rw[<-hw1];exact(dQ w h).on aZ
 have hR:Has w1 (w.heap.size+1) h0 28:=by rw[<-hw1];exact Has.QW _ h0 _
 have hB:Bl w w1:=by rw[<-hw1];exact aZ.alloc (by simp) _
 clear hw1;go_wp2_with (with_reducible refine cJ rfl _ rfl _ rfl hH hz ?_)
 refine(KG.out _).mono ?_;rintro r w2 ⟨rfl,hb2⟩;replace hR:=cu hb2 hR hR.lt;replace hH:=hH.on hb2;replace hB:=ah hB hb2;clear hb2 KG;go_wp2_with (with_reducible refine cJ rfl _ rfl _ rfl hH hz ?_)
 refine(KB.out _).mono ?_;rintro r w3 ⟨rfl,hb3⟩;replace hR:=cu hb3 hR hR.lt;replace hB:=ah hB hb3;clear hb3 KB hH;go_wp2_with fail
 refine(KD.out _).mono ?_;rintro r w4 ⟨rfl,hb4⟩;replace hR:=cu hb4 hR hR.lt;replace hB:=ah hB hb4;have SN:h0.size=32:=rfl;have HZ:=h_ SN;clear SN KD hb4;go_wp2_with (with_reducible refine jo rfl _ _ rfl _ _ cs rfl rfl rfl R7.out hone h0 hR HZ.out ?_)
 exact bodyPost_ret (v:=.agg cs) (tF Tryz.results75 _ _ _ rfl (hR.row _) R7.out) rfl ⟨rfl,below_setRow hB (by omega) _⟩
theorem Bj(h:Hd)(ho:h.ok)(hp:¬h.P)(w:World):ak 75 #[.agg (aD h)] w (.agg (ae h.id)):=by
 have CG:=lS h ho;rw[decide_eq_false hp]at CG;have KG:=h_ CG;have hcs:ae h.id=h0:=by rw[Hd.nV hp];rfl
 rw[hcs];have hz:=fR ho;clear hp hcs CG;go_enter Tryz.func75,Tryz.ntmps75;go_upto_region 1 with fail
 generalize hw1:World.alloc _ _=w1;have hH:aG w1 w.heap.size h:=by rw[<-hw1];exact(dQ w h).on aZ
 have hR:Has w1 (w.heap.size+1) h0 28:=by rw[<-hw1];exact Has.QW _ h0 _
 have hB:Bl w w1:=by rw[<-hw1];exact aZ.alloc (by simp) _
 clear hw1;go_wp2_with (with_reducible refine cJ rfl _ rfl _ rfl hH hz ?_)
 refine(KG.out _).mono ?_;rintro r w2 ⟨rfl,hb2⟩;replace hR:=cu hb2 hR hR.lt;replace hB:=ah hB hb2;have SN:h0.size=32:=rfl;have HZ:=h_ SN;have hone:h0.all (·.oneCell')=true:=jY _;clear SN hb2 KG hH;go_wp2_with (with_reducible refine jo rfl _ _ rfl _ _ h0 rfl rfl rfl HZ.out hone h0 hR HZ.out ?_)
 exact bodyPost_ret (v:=.agg h0) (tF Tryz.results75 _ _ _ rfl (hR.row _) HZ.out) rfl ⟨rfl,below_setRow hB (by omega) _⟩
theorem iV(h:Hd)(ho:h.ok)(w:World):ak 75 #[.agg (aD h)] w (.agg (ae h.id)):=by by_cases hp:h.P;exact sZ h ho hp w;exact Bj h ho hp w
end
open Mem Sc
variable{o:Oper}{a:Act}{w:World}{Q:Exit->Act->World->Prop}
theorem tD{K:Act->World->Prop}(t':TypeId)(x y:Operand)(ho:o.op=.binOp .neq 28 x y t')(xs ys:Array Value)(v:Value)(hx:a.eval x=.agg xs)(hy:a.eval y=.agg ys)(hq:(binOp .neq 28 (.agg xs) (.agg ys)).run Tryz.prog w=.ok v w)(h:K (a.put o.dst v) w):o.wp Tryz.prog a w K Q:=by unfold Oper.wp execOp;simp only[ho,hx,hy,Sem.run_bind,Sem.run_pure,run_eqGuard_agg w .neq 28 x y xs ys oQ,Result.andThen_ok,hq];exact h
theorem kU{ops:Array Oper}{rest:List Oper}(hw:Region.wanted o (yielded ops a.tmps)=true)(t':TypeId)(x y:Operand)(ho:o.op=.binOp .neq 28 x y t')(xs ys:Array Value)(v:Value)(hx:a.eval x=.agg xs)(hy:a.eval y=.agg ys)(hq:∀w,(binOp .neq 28 (.agg xs) (.agg ys)).run Tryz.prog w=.ok v w)(h:wpList Tryz.prog ops Q rest (a.put o.dst v) w):wpList Tryz.prog ops Q (o::rest) a w:=
 BigFrame.wpList_want hw fun _ hK=>tD t' x y ho xs ys v hx hy (hq w) (hK _ _ h)
def O3:Hd:=⟨1,kr,kr,0,0,0⟩
