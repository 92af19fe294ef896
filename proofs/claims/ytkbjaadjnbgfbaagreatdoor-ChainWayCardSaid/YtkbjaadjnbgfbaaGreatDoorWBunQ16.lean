import Derived.Test.YtkbjaadjnbgfbaaGreatDoorWBunQ10
import Derived.Test.YtkbjaadjnbgfbaaGreatDoorWBunQ15
set_option maxRecDepth 100000
set_option maxHeartbeats 4000000
namespace Go.Proofs.YtkbjaadjnbgfbaaGreatDoor
open Go.RowKit Mem Sc Sha
theorem qxx_ (h:Hd) (ho:h.ok) (hp:h.P) (w:World) :
  Ca_ 152 #[.agg (hdA h)] w (.tuple #[.string (txt h.enc),i_ 0]):=by
 have CG:=qga_ h ho;rw[decide_eq_true hp] at CG;have KG:=h_ CG;have KW:=h_ (fun b v l w hP hsz=>qaeu_ b v l h ho w hP hsz);rw[Hd.wr_yes hp] at KW;clear CG hp;have hH:=hd_new w h;have hB:Below w.heap.size w (w.alloc (.cells (hdA h) 30)):=ba_;have hz:=qv_ ho;go_enter Tryz.func152,Tryz.ntmps152;go_upto_region 1 with fail
 generalize World.alloc _ _=w1 at *;go_wp2_with (with_reducible refine qai_ rfl _ rfl _ rfl hH hz ?_)
 refine (KG.out _).mono ?_;rintro r w2 ⟨rfl,hb2⟩;replace hB:=tb_ hB hb2;replace hH:=hH.on hb2;clear hb2 KG;go_upto_region 4 with fail
 have hN:=pen_new w2;have hpk:w.heap.size<=w2.heap.size:=hB.size;have hb3:Below w2.heap.size w2 (w2.alloc (.cells #[.slice none 0 0] 206)):=ba_;replace hB:=tb_ hB hb3;replace hH:=hH.on hb3;generalize World.alloc _ _=w3 at *;generalize w2.heap.size=p at *;clear hb3;go_wp2_with (with_reducible refine qai_ rfl _ rfl _ rfl hH hz ?_)
 refine (KW.out _ _ _ _ hN (by simp)).mono ?_;rintro r w4 ⟨v4,rfl,hP4,hS4⟩;have hB4:=qxr_ hB hpk hN hS4;rw[List.nil_append] at hP4;clear KW hN hS4 hB hH;go_wp2_with fail
 refine (qaeq_ _ _ _ _ hP4).mono ?_;rintro r w5 ⟨rfl,rfl⟩;go_wp2_with fail
 go_ret2;exact ⟨rfl,hB4⟩
theorem qaev_ (h:Hd) (ho:h.ok) (hp:¬h.P) (w:World) :
  Ca_ 152 #[.agg (hdA h)] w (.tuple #[.string E0,i_ 1]):=by
 have CG:=qga_ h ho;rw[decide_eq_false hp] at CG;have KG:=h_ CG;clear CG hp;have hH:=hd_new w h;have hB:Bl w (w.alloc (.cells (hdA h) 30)):=ba_;have hz:=qv_ ho;go_enter Tryz.func152,Tryz.ntmps152;go_upto_region 1 with fail
 generalize World.alloc _ _=w1 at *;go_wp2_with (with_reducible refine qai_ rfl _ rfl _ rfl hH hz ?_)
 refine (KG.out _).mono ?_;rintro r w2 ⟨rfl,hb2⟩;replace hB:=tb_ hB hb2;go_wp2_with fail
 go_ret2;exact ⟨rfl,hB⟩
theorem qsy_ (l:List UInt8):(sha l).length=32:=qp_ _
theorem qt_ (h:Hd):h.id.length=32:=by
 unfold Hd.id;split;exact qsy_ _;rfl
theorem id_yes (h:Hd) (ho:h.ok) (hp:h.P) (w:World) (hT:Tab w) :
  Ca_ 119 #[.agg (hdA h)] w (.agg (bytesV h.id)):=by
 have KB:=h_ (qxx_ h ho hp)
 have c1:∀ a w,Tab w->PartsW w a [txt h.enc]->Ca_ 153 #[.slice a 1 1] w (.agg (bytesV h.id)):=fun a w hT hP=>by
  have:=double a [txt h.enc] 1 1 rfl w hT (by rw[qde_,qlt_,Hd.enc_length ho];omega) (by omega) hP;rwa [qde_,qlt_,<-Hd.id_yes hp] at this
 have KD:=h_ c1;have hsz:=qhs_ (qt_ h);have hone:=qy_ h.id;generalize txt h.enc=s at *;generalize bytesV h.id=cs at *;have HSZ:=h_ hsz;have hz:=qv_ ho;clear c1 hp hsz;go_enter Tryz.func119,Tryz.ntmps119;go_upto_region 1 with fail
 generalize hw1:World.alloc _ _=w1;have hH:HdAt w1 w.heap.size h:=by rw[<-hw1];exact (hd_new w h).on ba_
 have hR:Has w1 (w.heap.size+1) h0 28:=by rw[<-hw1];exact Has.new1 _ h0 _
 have hB:Bl w w1:=by rw[<-hw1];exact ba_.alloc (by simp) _
 clear hw1;have hT1:=hT.below hB;go_wp2_with (with_reducible refine qai_ rfl _ rfl _ rfl hH hz ?_)
 refine (KB.out _).mono ?_;rintro r w2 ⟨rfl,hb2⟩;replace hR:=qd_ hb2 hR hR.lt;replace hT1:=hT1.below hb2;replace hB:=tb_ hB hb2;clear hb2 KB hH hT;go_wp2_with fail
 have hb3:Bl w2 (w2.alloc (.cells #[.string s] 9)):=ba_;refine (KD.out _ _ (hT1.below hb3) (PartsW.one (by simp))).mono ?_;rintro r w4 ⟨rfl,hb4⟩;replace hR:=qd_ hb4 (qd_ hb3 hR hR.lt) (Has.lt (qd_ hb3 hR hR.lt));replace hB:=(tb_ hB hb3).trans (hb4.mono (Nat.le_trans hB.size hb3.size));have h0s:h0.size=32:=rfl;have HZ:=h_ h0s;clear h0s hT1 KD hb3 hb4;go_wp2_with (with_reducible refine qcc_ rfl _ _ rfl _ _ cs rfl rfl rfl HSZ.out hone h0 hR HZ.out ?_)
 exact bodyPost_ret (v:=.agg cs) (qeg_ Tryz.results119 _ _ _ rfl (hR.row _) HSZ.out) rfl ⟨rfl,below_setRow hB (by omega) _⟩
theorem id_no (h:Hd) (ho:h.ok) (hp:¬h.P) (w:World) :
  Ca_ 119 #[.agg (hdA h)] w (.agg (bytesV h.id)):=by
 have KB:=h_ (qaev_ h ho hp);have hcs:bytesV h.id=h0:=by rw[Hd.id_no hp];rfl
 rw[hcs];have hz:=qv_ ho;clear hp hcs;go_enter Tryz.func119,Tryz.ntmps119;go_upto_region 1 with fail
 generalize hw1:World.alloc _ _=w1;have hH:HdAt w1 w.heap.size h:=by rw[<-hw1];exact (hd_new w h).on ba_
 have hR:Has w1 (w.heap.size+1) h0 28:=by rw[<-hw1];exact Has.new1 _ h0 _
 have hB:Bl w w1:=by rw[<-hw1];exact ba_.alloc (by simp) _
 clear hw1;go_wp2_with (with_reducible refine qai_ rfl _ rfl _ rfl hH hz ?_)
 refine (KB.out _).mono ?_;rintro r w2 ⟨rfl,hb2⟩;replace hR:=qd_ hb2 hR hR.lt;replace hB:=tb_ hB hb2;have h0s:h0.size=32:=rfl;have HZ:=h_ h0s;have hone:h0.all (·.oneCell')=true:=qy_ _;clear h0s hb2 KB hH;go_wp2_with (with_reducible refine qcc_ rfl _ _ rfl _ _ h0 rfl rfl rfl HZ.out hone h0 hR HZ.out ?_)
 exact bodyPost_ret (v:=.agg h0) (qeg_ Tryz.results119 _ _ _ rfl (hR.row _) HZ.out) rfl ⟨rfl,below_setRow hB (by omega) _⟩
theorem id_at (h:Hd) (ho:h.ok) (w:World) (hT:Tab w) :
  Ca_ 119 #[.agg (hdA h)] w (.agg (bytesV h.id)):=by
 by_cases hp:h.P;exact id_yes h ho hp w hT;exact id_no h ho hp w
theorem enc_ref (h:Hd):txt (num 4 h.v) ++ txt h.prev ++ txt h.root ++ txt (num 4 h.time) ++ txt (num 4 h.bits) ++ txt (num 4 h.nonce)=txt h.enc:=by
 simp only[qfy_,Hd.enc,List.append_assoc]
theorem rbytes (h:Hd) (ho:h.ok) (w:World) :
  Ca_ 108 #[.agg (hdA h)] w (.string (txt h.enc)):=by
 rw[<-enc_ref];have N1:=h_ (fun w=>rnumber 4 h.v w);have N2:=h_ (fun w=>rname h.prev ho.1 w);have N3:=h_ (fun w=>rname h.root ho.2 w);have N4:=h_ (fun w=>rnumber 4 h.time w);have N5:=h_ (fun w=>rnumber 4 h.bits w);have N6:=h_ (fun w=>rnumber 4 h.nonce w);rw[show near 4 8=4 from rfl] at N1 N4 N5 N6;have z1:(txt (num 4 h.v)).size<=4:=by rw[qcf_,qbt_];omega
 have z2:(txt h.prev).size<=32:=by rw[qcf_,ho.1];omega
 have z3:(txt h.root).size<=32:=by rw[qcf_,ho.2];omega
 have z4:(txt (num 4 h.time)).size<=4:=by rw[qcf_,qbt_];omega
 have z5:(txt (num 4 h.bits)).size<=4:=by rw[qcf_,qbt_];omega
 have z6:(txt (num 4 h.nonce)).size<=4:=by rw[qcf_,qbt_];omega
 have s1:=qk_ ho.1;have s2:=qk_ ho.2;go_enter Tryz.func108,Tryz.ntmps108;go_upto_region 1 with fail
 generalize hw1:World.alloc _ _=w1;have hH:HdAt w1 w.heap.size h:=by rw[<-hw1];exact hd_new w h
 have hB:Bl w w1:=bl_ hw1;clear hw1;have q0:∀ d os,(Sort.grow (redrawn w1 d) os).cell? ⟨w.heap.size,0,none⟩=some (i_ h.v):=cell_regrown hH.v;have q1:=qaw_ hH.prev (by omega);have q2:=qaw_ (hH.root ho) (by omega);refine wp_region_quiet_below (by kernel_rfl) (by kernel_rfl) ?_;generalize hn1:txt (num 4 h.v)=t1 at *;generalize hn2:txt h.prev=t2 at *;generalize hn3:txt h.root=t3 at *;have M1:=h_ hn1;have M2:=h_ hn2;have M3:=h_ hn3;clear hn1 hn2 hn3
 repeat (first
  | (go_big_quiet_want;(with_reducible first|refine qbo_ _ rfl w.heap.size 1 rfl h.prev s1 q1 ?_|refine qbo_ _ rfl w.heap.size 33 rfl h.root s2 q2 ?_);(simp only[Act.put,List.setIfInBounds_toArray,List.set_cons_zero,List.set_cons_succ]);go_big_quiet_on)
  | go_big_quiet_step (first|(go_at_call 143;exact Calls.regrown_of (N1.out _))|(go_at_call 144;first|(with_reducible exact Calls.regrown_of (N2.out _))|(with_reducible exact Calls.regrown_of (N3.out _)))))
 refine wpQuiet_nil ?_;intro _ hw';obtain ⟨p,hw''⟩:=hw';subst hw'';have hb2:=below_regrown w1 p.d p.os;replace hH:=hH.on hb2;replace hB:=tb_ hB hb2;clear q0 q1 q2 hb2 N1 N2 N3;generalize Sort.grow (redrawn w1 p.d) p.os=w2 at *;have q0:∀ d os,(Sort.grow (redrawn w2 d) os).cell? ⟨w.heap.size,65,none⟩=some (i_ h.time):=cell_regrown (hH.time ho);have q1:∀ d os,(Sort.grow (redrawn w2 d) os).cell? ⟨w.heap.size,66,none⟩=some (i_ h.bits):=cell_regrown (hH.bits ho);have q2:∀ d os,(Sort.grow (redrawn w2 d) os).cell? ⟨w.heap.size,67,none⟩=some (i_ h.nonce):=cell_regrown (hH.nonce ho);obtain ⟨t,ht⟩:∃ t,t=t1 ++ t2 ++ t3:=⟨_,rfl⟩;have zt:t.size<=68:=by rw[ht];simp only[ByteArray.size_append];omega
 rw[<-ht];clear z1 z2 z3 s1 s2;have HT:=h_ ht;clear ht;go_upto_region 2 with fail
 refine wp_region_quiet_below (by kernel_rfl) (by kernel_rfl) ?_
 repeat (first
  | go_big_quiet_step ((go_at_call 143;first|(with_reducible exact Calls.regrown_of (N4.out _))|(with_reducible exact Calls.regrown_of (N5.out _))|(with_reducible exact Calls.regrown_of (N6.out _)))))
 refine wpQuiet_nil ?_;intro _ hw';obtain ⟨p,hw''⟩:=hw';subst hw'';have hB3:=hB.trans ((below_regrown w2 p.d p.os).mono hB.size);go_wp2_with fail
 go_ret;exact ⟨by rw[HT.out,<-M1.out,<-M2.out,<-M3.out];rfl,hB3⟩
theorem rid_yes (h:Hd) (ho:h.ok) (hp:h.P) (w:World) :
  Ca_ 75 #[.agg (hdA h)] w (.agg (bytesV h.id)):=by
 have CG:=qdd_ h ho;rw[decide_eq_true hp] at CG;have KG:=h_ CG;have KB:=h_ (rbytes h ho);have CD:=qsx_ (txt h.enc) (by rw[qcf_,Hd.enc_length ho];omega);rw[qlt_,<-Hd.id_yes hp] at CD;have KD:=h_ CD;have hsz:=qhs_ (qt_ h);have hone:=qy_ h.id;generalize txt h.enc=s at *;generalize bytesV h.id=cs at *;have HSZ:=h_ hsz;have hz:=qv_ ho;clear CG CD hp hsz;go_enter Tryz.func75,Tryz.ntmps75;go_upto_region 1 with fail
 generalize hw1:World.alloc _ _=w1;have hH:HdAt w1 w.heap.size h:=by rw[<-hw1];exact (hd_new w h).on ba_
 have hR:Has w1 (w.heap.size+1) h0 28:=by rw[<-hw1];exact Has.new1 _ h0 _
 have hB:Bl w w1:=by rw[<-hw1];exact ba_.alloc (by simp) _
 clear hw1;go_wp2_with (with_reducible refine qai_ rfl _ rfl _ rfl hH hz ?_)
 refine (KG.out _).mono ?_;rintro r w2 ⟨rfl,hb2⟩;replace hR:=qd_ hb2 hR hR.lt;replace hH:=hH.on hb2;replace hB:=tb_ hB hb2;clear hb2 KG;go_wp2_with (with_reducible refine qai_ rfl _ rfl _ rfl hH hz ?_)
 refine (KB.out _).mono ?_;rintro r w3 ⟨rfl,hb3⟩;replace hR:=qd_ hb3 hR hR.lt;replace hB:=tb_ hB hb3;clear hb3 KB hH;go_wp2_with fail
 refine (KD.out _).mono ?_;rintro r w4 ⟨rfl,hb4⟩;replace hR:=qd_ hb4 hR hR.lt;replace hB:=tb_ hB hb4;have h0s:h0.size=32:=rfl;have HZ:=h_ h0s;clear h0s KD hb4;go_wp2_with (with_reducible refine qcc_ rfl _ _ rfl _ _ cs rfl rfl rfl HSZ.out hone h0 hR HZ.out ?_)
 exact bodyPost_ret (v:=.agg cs) (qeg_ Tryz.results75 _ _ _ rfl (hR.row _) HSZ.out) rfl ⟨rfl,below_setRow hB (by omega) _⟩
theorem rid_no (h:Hd) (ho:h.ok) (hp:¬h.P) (w:World) :
  Ca_ 75 #[.agg (hdA h)] w (.agg (bytesV h.id)):=by
 have CG:=qdd_ h ho;rw[decide_eq_false hp] at CG;have KG:=h_ CG;have hcs:bytesV h.id=h0:=by rw[Hd.id_no hp];rfl
 rw[hcs];have hz:=qv_ ho;clear hp hcs CG;go_enter Tryz.func75,Tryz.ntmps75;go_upto_region 1 with fail
 generalize hw1:World.alloc _ _=w1;have hH:HdAt w1 w.heap.size h:=by rw[<-hw1];exact (hd_new w h).on ba_
 have hR:Has w1 (w.heap.size+1) h0 28:=by rw[<-hw1];exact Has.new1 _ h0 _
 have hB:Bl w w1:=by rw[<-hw1];exact ba_.alloc (by simp) _
 clear hw1;go_wp2_with (with_reducible refine qai_ rfl _ rfl _ rfl hH hz ?_)
 refine (KG.out _).mono ?_;rintro r w2 ⟨rfl,hb2⟩;replace hR:=qd_ hb2 hR hR.lt;replace hB:=tb_ hB hb2;have h0s:h0.size=32:=rfl;have HZ:=h_ h0s;have hone:h0.all (·.oneCell')=true:=qy_ _;clear h0s hb2 KG hH;go_wp2_with (with_reducible refine qcc_ rfl _ _ rfl _ _ h0 rfl rfl rfl HZ.out hone h0 hR HZ.out ?_)
 exact bodyPost_ret (v:=.agg h0) (qeg_ Tryz.results75 _ _ _ rfl (hR.row _) HZ.out) rfl ⟨rfl,below_setRow hB (by omega) _⟩
theorem rid_at (h:Hd) (ho:h.ok) (w:World) :
  Ca_ 75 #[.agg (hdA h)] w (.agg (bytesV h.id)):=by
 by_cases hp:h.P;exact rid_yes h ho hp w;exact rid_no h ho hp w
end Go.Proofs.YtkbjaadjnbgfbaaGreatDoor
namespace Go.Proofs.YtkbjaadjnbgfbaaGreatDoor
open Go.RowKit Mem Sc
variable {o:Oper} {a:Act} {w:World} {Q:Exit->Act->World->Prop}
theorem wp_hneq {K:Act->World->Prop} (t':TypeId) (x y:Operand) (ho:o.op = .binOp .neq 28 x y t') (xs ys:Array Value) (v:Value) (hx:a.eval x = .agg xs) (hy:a.eval y = .agg ys)
  (hq:(binOp .neq 28 (.agg xs) (.agg ys)).run Tryz.prog w = .ok v w) (h:K (a.put o.dst v) w):o.wp Tryz.prog a w K Q:=by
 unfold Oper.wp execOp;simp only[ho,hx,hy,Sem.run_bind,Sem.run_pure,run_eqGuard_agg w .neq 28 x y xs ys hplain,Result.andThen_ok,hq];exact h
theorem hneq_g {ops:Array Oper} {rest:List Oper} (hw:Region.wanted o (yielded ops a.tmps)=true) (t':TypeId) (x y:Operand) (ho:o.op = .binOp .neq 28 x y t') (xs ys:Array Value) (v:Value) (hx:a.eval x = .agg xs) (hy:a.eval y = .agg ys)
  (hq:∀ w,(binOp .neq 28 (.agg xs) (.agg ys)).run Tryz.prog w = .ok v w) (h:wpList Tryz.prog ops Q rest (a.put o.dst v) w):wpList Tryz.prog ops Q (o :: rest) a w :=
 BigFrame.wpList_want hw fun _ hK=>wp_hneq t' x y ho xs ys v hx hy (hq w) (hK _ _ h)
def hd1:Hd:=⟨1,z32,z32,0,0,0⟩
end Go.Proofs.YtkbjaadjnbgfbaaGreatDoor
