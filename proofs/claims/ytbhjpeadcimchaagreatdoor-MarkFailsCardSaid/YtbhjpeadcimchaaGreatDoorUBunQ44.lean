import Derived.Test.YtbhjpeadcimchaaGreatDoorUBunQ43
set_option maxRecDepth 100000
set_option maxHeartbeats 8000000
namespace Go.Proofs.YtbhjpeadcimchaaGreatDoor.An
open Go.RowKit Mem Sc NN.Rg2
open Ar (Ent Ru entZ Ok isP Row Anc)
open Mk (failB childB validB pb verdict inval recon chg word itself)
theorem bfield0 (w:World) (g:Nat):(Instr.fieldAt 60 (.pointer (some ⟨g,0,none⟩)) 0).run Tryz.prog w = .ok (.pointer (some ⟨g,0,none⟩)) w:=by kernel_rfl
theorem bfield1 (w:World) (g:Nat):(Instr.fieldAt 60 (.pointer (some ⟨g,0,none⟩)) 1).run Tryz.prog w = .ok (.pointer (some ⟨g,1,none⟩)) w:=by kernel_rfl
theorem bfield2 (w:World) (g:Nat):(Instr.fieldAt 60 (.pointer (some ⟨g,0,none⟩)) 2).run Tryz.prog w = .ok (.pointer (some ⟨g,2,none⟩)) w:=by kernel_rfl
theorem bfield3 (w:World) (g:Nat):(Instr.fieldAt 60 (.pointer (some ⟨g,0,none⟩)) 3).run Tryz.prog w = .ok (.pointer (some ⟨g,3,none⟩)) w:=by kernel_rfl
theorem acfield1 (w:World) (g:Nat):(Instr.fieldAt 39 (.pointer (some ⟨g,0,none⟩)) 1).run Tryz.prog w = .ok (.pointer (some ⟨g,1,none⟩)) w:=by kernel_rfl
theorem acfield2 (w:World) (g:Nat):(Instr.fieldAt 39 (.pointer (some ⟨g,0,none⟩)) 2).run Tryz.prog w = .ok (.pointer (some ⟨g,69,none⟩)) w:=by kernel_rfl
theorem acfield3 (w:World) (g:Nat):(Instr.fieldAt 39 (.pointer (some ⟨g,0,none⟩)) 3).run Tryz.prog w = .ok (.pointer (some ⟨g,70,none⟩)) w:=by kernel_rfl
theorem acfield4 (w:World) (g:Nat):(Instr.fieldAt 39 (.pointer (some ⟨g,0,none⟩)) 4).run Tryz.prog w = .ok (.pointer (some ⟨g,71,none⟩)) w:=by kernel_rfl
theorem qabv_ {w:World} {p:Addr} {q:Option Addr} (h:w.cell? p=some (.pointer q)):(loadVar 56 p).run Tryz.prog w = .ok (.pointer q) w:=by
 go_simp
theorem qdw_ {w:World} {p:Addr} {q:Option Addr} (h:w.cell? p=some (.pointer q)):(loadVar 41 p).run Tryz.prog w = .ok (.pointer q) w:=by
 go_simp
theorem qju_ {w:World} {p:Addr} {q:Option Addr} (h:w.cell? p=some (.pointer q)):(loadVar 57 p).run Tryz.prog w = .ok (.pointer q) w:=by
 go_simp
theorem qnv_ {w:World} {p:Addr} {q:Option Addr} (h:w.cell? p=some (.pointer q)):(loadVar 58 p).run Tryz.prog w = .ok (.pointer q) w:=by
 go_simp
theorem load_i {w:World} {p:Addr} {z:Int} (h:w.cell? p=some (.int .i64 z)):(loadVar 3 p).run Tryz.prog w = .ok (.int .i64 z) w:=by
 go_simp
theorem load_b {w:World} {p:Addr} {z:Bool} (h:w.cell? p=some (.bool z)):(loadVar 4 p).run Tryz.prog w = .ok (.bool z) w:=by
 go_simp
theorem qir_ {ρ:Operand->Value} {o:Oper} {w:World} {x:Operand} {g off:Nat} {h:Hd} (ho:o.op = .load 30 x) (hx:ρ x = .pointer (some ⟨g,off,none⟩)) (hg:w.rangeAt g off (hdC h)) (hs:(hdC h).length=68):(execOp ρ o).run Tryz.prog w = .ok (.value (.agg (hdA h))) w :=
 ex_mid 30 ho hx Tryz.underlying30 rfl (hdinfo.trans (by rw[hs])) hg
theorem qjv_ {ρ:Operand->Value} {o:Oper} {w:World} {x y:Operand} {z:Int} (ho:o.op = .binOp .eql 3 x y 3) (hx:ρ x = .int .i64 z) (hy:ρ y = .int .i64 z):(execOp ρ o).run Tryz.prog w = .ok (.value (.bool true)) w:=by
 unfold execOp;simp only[ho,hx,hy];go_simp
def DaR (bb bt bx:Nat) (y:Ac):Nat->Value->Prop
 | 0,v=>v = .pointer (some ⟨bb,0,none⟩)
 | 1,v=>v = .pointer (some ⟨bb,0,none⟩)
 | 2,v=>v = .pointer (some ⟨bb,0,none⟩)
 | 3,v=>v = .pointer (some ⟨bt,0,none⟩)
 | 4,v=>v = .pointer (some ⟨bx,1,none⟩)
 | 5,v=>v = .agg (hdA y.h)
 | 6,v=>v = .pointer (some ⟨bx,69,none⟩)
 | 7,v=>v = .int .i64 y.now
 | _,_=>True
def DbR (bb bm bx:Nat) (y:Ac):Nat->Value->Prop
 | 0,v=>v = .pointer (some ⟨bb,0,none⟩)
 | 1,v=>v = .pointer (some ⟨bb,0,none⟩)
 | 2,v=>v = .pointer (some ⟨bb,2,none⟩)
 | 3,v=>v = .pointer (some ⟨bm,0,none⟩)
 | 4,v=>v = .pointer (some ⟨bx,1,none⟩)
 | 5,v=>v = .agg (hdA y.h)
 | 6,v=>v = .pointer (some ⟨bx,69,none⟩)
 | 7,v=>v = .int .i64 y.now
 | _,_=>True
def DvR (bb mb bm rb bx:Nat) (y:Ac) (z:Int):Nat->Value->Prop
 | 0,v=>v = .pointer (some ⟨bb,0,none⟩)
 | 1,v=>v = .pointer (some ⟨bb,0,none⟩)
 | 2,v=>v = .pointer (some ⟨bb,1,none⟩)
 | 3,v=>v = .pointer (some ⟨mb,0,none⟩)
 | 4,v=>v = .pointer (some ⟨bx,70,none⟩)
 | 5,v=>v = .int .i64 y.n
 | 6,v=>v = .pointer (some ⟨bx,71,none⟩)
 | 7,v=>v = .bool y.rt
 | 8,v=>v = .int .i64 z
 | 9,v=>v = .pointer (some ⟨bb,0,none⟩)
 | 10,v=>v = .pointer (some ⟨bb,0,none⟩)
 | 11,v=>v = .pointer (some ⟨bb,3,none⟩)
 | 12,v=>v = .pointer (some ⟨rb,0,none⟩)
 | 13,v=>v = .pointer (some ⟨bb,0,none⟩)
 | 14,v=>v = .pointer (some ⟨bb,0,none⟩)
 | 15,v=>v = .pointer (some ⟨bb,2,none⟩)
 | 16,v=>v = .pointer (some ⟨bm,0,none⟩)
 | 17,v=>v = .pointer (some ⟨bx,70,none⟩)
 | 18,v=>v = .int .i64 y.n
 | 19,v=>v = .pointer (some ⟨bx,71,none⟩)
 | 20,v=>v = .bool y.rt
 | 21,v=>v = .int .i64 z
 | 22,v=>v = .bool true
 | 23,v=>v = .bool true
 | _,_=>True
def DwR (bb mb bm rb bx:Nat) (y:Ac) (z:Int):Nat->Value->Prop
 | 0,v=>v = .pointer (some ⟨bb,0,none⟩)
 | 1,v=>v = .pointer (some ⟨bb,0,none⟩)
 | 2,v=>v = .pointer (some ⟨bb,1,none⟩)
 | 3,v=>v = .pointer (some ⟨mb,0,none⟩)
 | 4,v=>v = .pointer (some ⟨bx,70,none⟩)
 | 5,v=>v = .int .i64 y.n
 | 6,v=>v = .int .i64 z
 | 7,v=>v = .pointer (some ⟨bb,0,none⟩)
 | 8,v=>v = .pointer (some ⟨bb,0,none⟩)
 | 9,v=>v = .pointer (some ⟨bb,3,none⟩)
 | 10,v=>v = .pointer (some ⟨rb,0,none⟩)
 | 11,v=>v = .pointer (some ⟨bb,0,none⟩)
 | 12,v=>v = .pointer (some ⟨bb,0,none⟩)
 | 13,v=>v = .pointer (some ⟨bb,2,none⟩)
 | 14,v=>v = .pointer (some ⟨bm,0,none⟩)
 | 15,v=>v = .pointer (some ⟨bx,70,none⟩)
 | 16,v=>v = .int .i64 y.n
 | 17,v=>v = .int .i64 z
 | 18,v=>v = .bool true
 | 19,v=>v = .bool true
 | _,_=>True
section
variable {P:Program} {ops:Array Oper} {o:Oper} {a:Act} {w:World} {Q:Exit->Act->World->Prop} {R:Nat->Value->Prop} {CB:Bool->Bool->World->Prop} {k1 k2 i:Nat} {l:Array Bool} {f:FuncId} {args:Array Value}
theorem qeh_ (h:(execOp a.eval o).run P w = .ok (.enter f args) w) (hc:Calls P f args w fun e w'=>∃ v,e = .returned v/\R i v/\CB ((l.setIfInBounds i true).getD k1 false) ((l.setIfInBounds i true).getD k2 false) w') (hn:Region.wanted o (yielded ops a.tmps)=true:=by exact qa_ rfl):if Region.wanted o (yielded ops a.tmps)=true then o.wp P a w (fun a' w'=>True/\True/\∃ v,a'=a.put o.dst v/\R i v/\CB ((l.setIfInBounds i true).getD k1 false) ((l.setIfInBounds i true).getD k2 false) w') Q else R i undef/\CB ((l.setIfInBounds i true).getD k1 false) ((l.setIfInBounds i true).getD k2 false) w :=
 qfq_ (C:=fun _=>True) (S:=fun _ _=>True) (R:=fun v _=>R i v) (J:=fun _ w=>CB ((l.setIfInBounds i true).getD k1 false) ((l.setIfInBounds i true).getD k2 false) w) hn h (hc.mono fun _ _ ⟨v,a1,a2,a3⟩=>⟨v,a1,trivial,trivial,a2,a3⟩)
end
theorem belowDrew (w:World):Below w.heap.size w w.drew:=(Below.refl _ _).drew
def DaC (w0:World) (r:Ru) (bb bt mb mg bm rb bx:Nat) (y:Ac) (M M' Mr:List Ent) (S:Mk.St) (b1 _b2:Bool) (w:World):Prop:=Core w0 w r bb bt mb mg bm rb (some (bx,y)) (if b1 then M' else M) Mr S S
def DbC (w0:World) (r:Ru) (bb bt mb mg bm rb bx:Nat) (y:Ac) (M M' Mt:List Ent) (S:Mk.St) (b1 _b2:Bool) (w:World):Prop:=Core w0 w r bb bt mb mg bm rb (some (bx,y)) Mt (if b1 then M' else M) S S
def DvC (w0:World) (r:Ru) (bb bt mb mg bm rb bx:Nat) (y:Ac) (M:List Ent) (S S':Mk.St) (b1 b2:Bool) (w:World):Prop:=Core w0 w r bb bt mb mg bm rb (some (bx,y)) M M (if b1 then S' else S) (if b2 then S' else S)
noncomputable def actS (M:List Ent) (S:Mk.St) (y:Ac):Mk.St:=if y.kind=1 then (verdict M.length S y.n y.rt).2 else if y.kind=2 then (inval M.length S y.n).2 else if y.kind=3 then (recon M S y.n).2 else S
def actM (r:Ru) (M:List Ent) (y:Ac):List Ent:=if y.kind=0 then (Ar.add r M y.h y.now).2 else M
theorem does0 (w0 w:World) (r:Ru) (bb bt mb mg bm rb:Nat) (M:List Ent) (S:Mk.St) (h:Core w0 w r bb bt mb mg bm rb none M M S S) (HM:Hid (Ok r M/\M.length<=100)) (HG:Hid (r.gs.length<=1000/\r.cs.length<=1000/\2<=r.p.ivl)) (HT:Hid (∀w',Below w0.heap.size w0 w'->Tab w')) (y:Ac) (q0:y.h.ok) (HNy:Hid (-9223372036854775808<=y.now/\y.now<=9223372036854775807)) (hk:y.kind=0) :
  Calls Tryz.prog 12 #[.pointer (some ⟨bb,0,none⟩),.agg (acA y)] w fun e w'=>e = .returned (.bool true)/\Core w0 w' r bb bt mb mg bm rb none (actM r M y) (actM r M y) (actS M S y) (actS M S y):=by
 have e1:actM r M y=(Ar.add r M y.h y.now).2:=by unfold actM;rw[if_pos hk]
 have e2:actS M S y=S:=by unfold actS;rw[hk];rfl
 rw[e1,e2];have HK:=h_ hk;clear e1 e2 hk;have hml:M.length<=100:=HM.out.2;have hzy:=qi_ q0;have hza:=qbu_ q0;have hb0:Below w.heap.size w (w.alloc (.cells (acA y) 39)):=(Below.refl _ _).alloc (Nat.le_refl _) _;obtain ⟨bx,hbx⟩:∃ bx,bx=w.heap.size:=⟨_,rfl⟩;have hY:AcAt (w.alloc (.cells (acA y) 39)) bx y:=by rw[hbx];exact Has.new _ _
 have hC:=h.box hb0 hbx hY;have HBX:=h_ hbx;clear h hb0 hY hbx;go_enter Tryz.func12,Tryz.ntmps12;go_upto_region 1 with fail
 rw[<-HBX.out];generalize World.alloc _ _=v1 at *;have c0:=hC.act.kind;rw[HK.out] at c0;go_wp2_with fail
 have hC:DaC w0 r bb bt mb mg bm rb bx y M (Ar.add r M y.h y.now).2 M S false false v1.drew:=hC.below (belowDrew v1);refine qe_ (by kernel_rfl) (fun _=>True) (fun i v' _=>DaR bb bt bx y i v') (fun l _ w'=>(DaC w0 r bb bt mb mg bm rb bx y M (Ar.add r M y.h y.now).2 M S) (l.getD 8 false) (l.getD 99 false) w') (fun _ _=>True) (fun _ _=>trivial) (fun _ _ _ _ _ _ h=>h) (by kernel_rfl) trivial ?_ ?_ ?_;intro l hl;rw[hl,hl];exact hC
 ·intro i o lz a wx ho' hnl dq Z;have hI:=Z.i;have hi:i<9:=(Array.getElem?_eq_some_iff.1 ho').1;have hK:=hI;unfold DaC at hK;obtain rfl|rfl|rfl|rfl|rfl|rfl|rfl|rfl|rfl:i=0\/i=1\/i=2\/i=3\/i=4\/i=5\/i=6\/i=7\/i=8:=by omega
  all_goals obtain rfl:=Option.some.inj ho'
  exact dd_val hI (hz_ Z 0) (NN.qk_ rfl) ((Z.old' 0));exact dd_val hI (hz_ Z 1) (ex_nil rfl (gd_ Z dq 0 9)) (rfl);exact dd_val hI (hz_ Z 2) (ql_ rfl (gd_ Z dq 1 10) (bfield0 _ _)) (rfl);exact dd_val hI (hz_ Z 3) (qp_ rfl (gd_ Z dq 2 11) (qabv_ hK.b0)) (rfl);exact dd_val hI (hz_ Z 4) (ql_ rfl (Z.old' 3) (acfield1 _ _)) (rfl);exact dd_val hI (hz_ Z 5) (qir_ rfl (gd_ Z dq 4 13) hK.act.head hzy) (rfl);exact dd_val hI (hz_ Z 6) (ql_ rfl (Z.old' 3) (acfield2 _ _)) (rfl);exact dd_val hI (hz_ Z 7) (qp_ rfl (gd_ Z dq 6 15) (load_i (hK.act.now q0))) (rfl)
  ·have hsz:=hz_ Z 8;have hI0:=hK;rw[hnl,if_neg Bool.false_ne_true] at hI0;refine qeh_ (f:=32) (args:=#[a.eval (.tmp 12),a.eval (.tmp 14),a.eval (.tmp 16)]) (by kernel_rfl) ?_;rw[show a.eval (.tmp 12)=_ from (gd_ Z dq 3 12),show a.eval (.tmp 14)=_ from (gd_ Z dq 5 14),show a.eval (.tmp 16)=_ from (gd_ Z dq 7 16)];refine (qabs_ hI0 HM.out.1 (by omega) HG.out.1 HG.out.2.1 (HT.out _ hI0.bel) y.h q0 y.now).mono ?_;rintro e w' ⟨rfl,hc⟩;exact ⟨_,rfl,trivial,Jd.one hsz (hc)⟩
 ·intro lz a' v2 hall Z;have hI:=Z.i;have hk1:=hall 8 (by decide);have hk2:lz.getD 99 false=false:=by rw[Array.getD_eq_getD_getElem?,Array.getElem?_eq_none (by rw[Z.size];decide)];rfl
  rw[hk1,hk2] at hI;have f0:a'.eval (.tmp 0) = .pointer (some ⟨bb,0,none⟩):=Z.old' 0;have f3:a'.eval (.tmp 3) = .pointer (some ⟨bx,0,none⟩):=Z.old' 3;obtain ⟨u,hu⟩:∃ u:Nat->Value,∀ t,u t=a'.eval (.tmp t):=⟨_,fun _=>rfl⟩;rw[qah_ a' 94 u Z.tsize Z.defers hu];rw[<-hu] at f0 f3;clear hu Z hall hk1 hk2;simp only[List.range,List.range.loop,List.map_cons,List.map_nil];rw[f0,f3];clear f0 f3;have hC:DbC w0 r bb bt mb mg bm rb bx y M (Ar.add r M y.h y.now).2 (Ar.add r M y.h y.now).2 S false false v2.drew:=Core.below hI (belowDrew v2);clear hI;go_wp2_with fail
  refine qe_ (by kernel_rfl) (fun _=>True) (fun i v' _=>DbR bb bm bx y i v') (fun l _ w'=>(DbC w0 r bb bt mb mg bm rb bx y M (Ar.add r M y.h y.now).2 (Ar.add r M y.h y.now).2 S) (l.getD 8 false) (l.getD 99 false) w') (fun _ _=>True) (fun _ _=>trivial) (fun _ _ _ _ _ _ h=>h) (by kernel_rfl) trivial ?_ ?_ ?_;intro l hl;rw[hl,hl];exact hC
  ·intro i o lz a wx ho' hnl dq Z;have hI:=Z.i;have hi:i<9:=(Array.getElem?_eq_some_iff.1 ho').1;have hK:=hI;unfold DbC at hK;obtain rfl|rfl|rfl|rfl|rfl|rfl|rfl|rfl|rfl:i=0\/i=1\/i=2\/i=3\/i=4\/i=5\/i=6\/i=7\/i=8:=by omega
   all_goals obtain rfl:=Option.some.inj ho'
   exact dd_val hI (hz_ Z 0) (NN.qk_ rfl) ((Z.old' 0));exact dd_val hI (hz_ Z 1) (ex_nil rfl (gd_ Z dq 0 18)) (rfl);exact dd_val hI (hz_ Z 2) (ql_ rfl (gd_ Z dq 1 19) (bfield2 _ _)) (rfl);exact dd_val hI (hz_ Z 3) (qp_ rfl (gd_ Z dq 2 20) (qju_ hK.b2)) (rfl);exact dd_val hI (hz_ Z 4) (ql_ rfl (Z.old' 3) (acfield1 _ _)) (rfl);exact dd_val hI (hz_ Z 5) (qir_ rfl (gd_ Z dq 4 22) hK.act.head hzy) (rfl);exact dd_val hI (hz_ Z 6) (ql_ rfl (Z.old' 3) (acfield2 _ _)) (rfl);exact dd_val hI (hz_ Z 7) (qp_ rfl (gd_ Z dq 6 24) (load_i (hK.act.now q0))) (rfl)
   ·have hsz:=hz_ Z 8;have hI0:=hK;rw[hnl,if_neg Bool.false_ne_true] at hI0;refine qeh_ (f:=33) (args:=#[a.eval (.tmp 21),a.eval (.tmp 23),a.eval (.tmp 25)]) (by kernel_rfl) ?_;rw[show a.eval (.tmp 21)=_ from (gd_ Z dq 3 21),show a.eval (.tmp 23)=_ from (gd_ Z dq 5 23),show a.eval (.tmp 25)=_ from (gd_ Z dq 7 25)];refine (qabt_ hI0 HM.out.1 (by omega) HG.out.1 HG.out.2.1 HG.out.2.2 y.h q0 y.now HNy.out.1 HNy.out.2).mono ?_;rintro e w' ⟨rfl,hc⟩;exact ⟨_,rfl,trivial,Jd.one hsz (hc)⟩
  ·intro lz a' v3 hall Z;have hI:=Z.i;have hk1:=hall 8 (by decide);have hk2:lz.getD 99 false=false:=by rw[Array.getD_eq_getD_getElem?,Array.getElem?_eq_none (by rw[Z.size];decide)];rfl
   rw[hk1,hk2] at hI;obtain ⟨u,hu⟩:∃ u:Nat->Value,∀ t,u t=a'.eval (.tmp t):=⟨_,fun _=>rfl⟩;rw[qah_ a' 94 u Z.tsize Z.defers hu];clear hu Z hall hk1 hk2;simp only[List.range,List.range.loop,List.map_cons,List.map_nil];have hD:=h_ (Core.loose hI);clear hI;go_wp2_with fail
   go_ret;exact ⟨rfl,hD.out⟩
theorem does1 (w0 w:World) (r:Ru) (bb bt mb mg bm rb:Nat) (M:List Ent) (S:Mk.St) (h:Core w0 w r bb bt mb mg bm rb none M M S S) (HM:Hid (Ok r M/\M.length<=100)) (y:Ac) (q0:y.h.ok) (hk:y.kind=1) :
  Calls Tryz.prog 12 #[.pointer (some ⟨bb,0,none⟩),.agg (acA y)] w fun e w'=>e = .returned (.bool true)/\Core w0 w' r bb bt mb mg bm rb none (actM r M y) (actM r M y) (actS M S y) (actS M S y):=by
 have e1:actM r M y=M:=by unfold actM;rw[if_neg (by omega)]
 have e2:actS M S y=(verdict M.length S y.n y.rt).2:=by unfold actS;rw[if_pos hk]
 rw[e1,e2];have HK:=h_ hk;clear e1 e2 hk;have hml:M.length<=100:=HM.out.2;have hzy:=qi_ q0;have hza:=qbu_ q0;have hb0:Below w.heap.size w (w.alloc (.cells (acA y) 39)):=(Below.refl _ _).alloc (Nat.le_refl _) _;obtain ⟨bx,hbx⟩:∃ bx,bx=w.heap.size:=⟨_,rfl⟩;have hY:AcAt (w.alloc (.cells (acA y) 39)) bx y:=by rw[hbx];exact Has.new _ _
 have hC:=h.box hb0 hbx hY;have HBX:=h_ hbx;clear h hb0 hY hbx;go_enter Tryz.func12,Tryz.ntmps12;go_upto_region 1 with fail
 rw[<-HBX.out];generalize World.alloc _ _=v1 at *;have c0:=hC.act.kind;rw[HK.out] at c0;obtain ⟨S1,hS1⟩:∃ S1,(verdict M.length S y.n y.rt).2=S1:=⟨_,rfl⟩;obtain ⟨z,hz⟩:∃ z,(verdict M.length S y.n y.rt).1=z:=⟨_,rfl⟩;have HS1:=h_ hS1;have HZ:=h_ hz;clear hS1 hz;go_wp2_with fail
 have hC:DvC w0 r bb bt mb mg bm rb bx y M S S1 false false v1.drew:=hC.below (belowDrew v1);refine qe_ (by kernel_rfl) (fun _=>True) (fun i v' _=>DvR bb mb bm rb bx y z i v') (fun l _ w'=>(DvC w0 r bb bt mb mg bm rb bx y M S S1) (l.getD 8 false) (l.getD 21 false) w') (fun _ _=>True) (fun _ _=>trivial) (fun _ _ _ _ _ _ h=>h) (by kernel_rfl) trivial ?_ ?_ ?_;intro l hl;rw[hl,hl];exact hC
 ·intro i o lz a wx ho' hnl dq Z;have hI:=Z.i;have hi:i<24:=(Array.getElem?_eq_some_iff.1 ho').1;have hK:=hI;unfold DvC at hK;obtain rfl|rfl|rfl|rfl|rfl|rfl|rfl|rfl|rfl|rfl|rfl|rfl|rfl|rfl|rfl|rfl|rfl|rfl|rfl|rfl|rfl|rfl|rfl|rfl:i=0\/i=1\/i=2\/i=3\/i=4\/i=5\/i=6\/i=7\/i=8\/i=9\/i=10\/i=11\/i=12\/i=13\/i=14\/i=15\/i=16\/i=17\/i=18\/i=19\/i=20\/i=21\/i=22\/i=23:=by omega
  all_goals obtain rfl:=Option.some.inj ho'
  exact dd_val hI (hz_ Z 0) (NN.qk_ rfl) ((Z.old' 0));exact dd_val hI (hz_ Z 1) (ex_nil rfl (gd_ Z dq 0 29)) (rfl);exact dd_val hI (hz_ Z 2) (ql_ rfl (gd_ Z dq 1 30) (bfield1 _ _)) (rfl);exact dd_val hI (hz_ Z 3) (qp_ rfl (gd_ Z dq 2 31) (qdw_ hK.b1)) (rfl);exact dd_val hI (hz_ Z 4) (ql_ rfl (Z.old' 3) (acfield3 _ _)) (rfl);exact dd_val hI (hz_ Z 5) (qp_ rfl (gd_ Z dq 4 33) (load_i (hK.act.num q0))) (rfl);exact dd_val hI (hz_ Z 6) (ql_ rfl (Z.old' 3) (acfield4 _ _)) (rfl);exact dd_val hI (hz_ Z 7) (qp_ rfl (gd_ Z dq 6 35) (load_b (hK.act.right q0))) (rfl)
  ·have hsz:=hz_ Z 8;have hI0:=hK;rw[hnl] at hI0
   have hI1:Core w0 wx r bb bt mb mg bm rb (some (bx,y)) M M S (if (lz.setIfInBounds 8 true).getD 21 false=true then S1 else S):=by
    rw[qn_ lz 8 21 hsz (by decide)];exact hI0
   refine qeh_ (f:=15) (args:=#[a.eval (.tmp 32),a.eval (.tmp 34),a.eval (.tmp 36)]) (by kernel_rfl) ?_;rw[show a.eval (.tmp 32)=_ from (gd_ Z dq 3 32),show a.eval (.tmp 34)=_ from (gd_ Z dq 5 34),show a.eval (.tmp 36)=_ from (gd_ Z dq 7 36)];refine (qck_ hI1 (by omega) y.n y.rt).mono ?_;rintro e w' ⟨rfl,hc⟩;rw[HS1.out] at hc;exact ⟨_,rfl,(by rw[<-HZ.out];rfl),Jd.one hsz (hc)⟩
  exact dd_val hI (hz_ Z 9) (NN.qk_ rfl) ((Z.old' 0));exact dd_val hI (hz_ Z 10) (ex_nil rfl (gd_ Z dq 9 38)) (rfl);exact dd_val hI (hz_ Z 11) (ql_ rfl (gd_ Z dq 10 39) (bfield3 _ _)) (rfl);exact dd_val hI (hz_ Z 12) (qp_ rfl (gd_ Z dq 11 40) (qnv_ hK.b3)) (rfl);exact dd_val hI (hz_ Z 13) (NN.qk_ rfl) ((Z.old' 0));exact dd_val hI (hz_ Z 14) (ex_nil rfl (gd_ Z dq 13 42)) (rfl);exact dd_val hI (hz_ Z 15) (ql_ rfl (gd_ Z dq 14 43) (bfield2 _ _)) (rfl);exact dd_val hI (hz_ Z 16) (qp_ rfl (gd_ Z dq 15 44) (qju_ hK.b2)) (rfl);exact dd_val hI (hz_ Z 17) (ql_ rfl (Z.old' 3) (acfield3 _ _)) (rfl);exact dd_val hI (hz_ Z 18) (qp_ rfl (gd_ Z dq 17 46) (load_i (hK.act.num q0))) (rfl);exact dd_val hI (hz_ Z 19) (ql_ rfl (Z.old' 3) (acfield4 _ _)) (rfl);exact dd_val hI (hz_ Z 20) (qp_ rfl (gd_ Z dq 19 48) (load_b (hK.act.right q0))) (rfl)
  ·have hsz:=hz_ Z 21;have hI0:=hK;rw[hnl] at hI0
   have hI1:Core w0 wx r bb bt mb mg bm rb (some (bx,y)) M M (if (lz.setIfInBounds 21 true).getD 8 false=true then S1 else S) S:=by
    rw[qn_ lz 21 8 hsz (by decide)];exact hI0
   refine qeh_ (f:=34) (args:=#[a.eval (.tmp 41),a.eval (.tmp 45),a.eval (.tmp 47),a.eval (.tmp 49)]) (by kernel_rfl) ?_;rw[show a.eval (.tmp 41)=_ from (gd_ Z dq 12 41),show a.eval (.tmp 45)=_ from (gd_ Z dq 16 45),show a.eval (.tmp 47)=_ from (gd_ Z dq 18 47),show a.eval (.tmp 49)=_ from (gd_ Z dq 20 49)];refine (qls_ hI1 (by omega) y.n y.rt).mono ?_;rintro e w' ⟨rfl,hc⟩;rw[HS1.out] at hc;exact ⟨_,rfl,(by rw[<-HZ.out];rfl),Jd.two hsz (hc)⟩
  exact dd_val hI (hz_ Z 22) (qjv_ rfl (gd_ Z dq 8 37) (gd_ Z dq 21 50)) (rfl);exact dd_val hI (hz_ Z 23) (NN.qaa_ rfl) ((gd_ Z dq 22 51))
 ·intro lz a' v2 hall Z;have hI:=Z.i;have hk1:=hall 8 (by decide);have hk2:=hall 21 (by decide);rw[hk1,hk2] at hI;have f4:a'.eval (.tmp 4) = .bool true:=Z.got 23 _ 4 rfl (hall 23 (by decide)) rfl;obtain ⟨u,hu⟩:∃ u:Nat->Value,∀ t,u t=a'.eval (.tmp t):=⟨_,fun _=>rfl⟩;rw[qah_ a' 94 u Z.tsize Z.defers hu];rw[<-hu] at f4;clear hu Z hall hk1 hk2;simp only[List.range,List.range.loop,List.map_cons,List.map_nil];rw[f4];clear f4;have hD:=h_ (Core.loose hI);clear hI;go_wp2_with fail
  go_ret;exact ⟨rfl,by rw[HS1.out];exact hD.out⟩
theorem does2 (w0 w:World) (r:Ru) (bb bt mb mg bm rb:Nat) (M:List Ent) (S:Mk.St) (h:Core w0 w r bb bt mb mg bm rb none M M S S) (HM:Hid (Ok r M/\M.length<=100)) (y:Ac) (q0:y.h.ok) (hk:y.kind=2) :
  Calls Tryz.prog 12 #[.pointer (some ⟨bb,0,none⟩),.agg (acA y)] w fun e w'=>e = .returned (.bool true)/\Core w0 w' r bb bt mb mg bm rb none (actM r M y) (actM r M y) (actS M S y) (actS M S y):=by
 have e1:actM r M y=M:=by unfold actM;rw[if_neg (by omega)]
 have e2:actS M S y=(inval M.length S y.n).2:=by unfold actS;rw[if_neg (by omega),if_pos hk]
 rw[e1,e2];have HK:=h_ hk;clear e1 e2 hk;have hml:M.length<=100:=HM.out.2;have hzy:=qi_ q0;have hza:=qbu_ q0;have hb0:Below w.heap.size w (w.alloc (.cells (acA y) 39)):=(Below.refl _ _).alloc (Nat.le_refl _) _;obtain ⟨bx,hbx⟩:∃ bx,bx=w.heap.size:=⟨_,rfl⟩;have hY:AcAt (w.alloc (.cells (acA y) 39)) bx y:=by rw[hbx];exact Has.new _ _
 have hC:=h.box hb0 hbx hY;have HBX:=h_ hbx;clear h hb0 hY hbx;go_enter Tryz.func12,Tryz.ntmps12;go_upto_region 1 with fail
 rw[<-HBX.out];generalize World.alloc _ _=v1 at *;have c0:=hC.act.kind;rw[HK.out] at c0;obtain ⟨S1,hS1⟩:∃ S1,(inval M.length S y.n).2=S1:=⟨_,rfl⟩;obtain ⟨z,hz⟩:∃ z,(inval M.length S y.n).1=z:=⟨_,rfl⟩;have HS1:=h_ hS1;have HZ:=h_ hz;clear hS1 hz;go_wp2_with fail
 have hC:DvC w0 r bb bt mb mg bm rb bx y M S S1 false false v1.drew:=hC.below (belowDrew v1);refine qe_ (by kernel_rfl) (fun _=>True) (fun i v' _=>DwR bb mb bm rb bx y z i v') (fun l _ w'=>(DvC w0 r bb bt mb mg bm rb bx y M S S1) (l.getD 6 false) (l.getD 17 false) w') (fun _ _=>True) (fun _ _=>trivial) (fun _ _ _ _ _ _ h=>h) (by kernel_rfl) trivial ?_ ?_ ?_;intro l hl;rw[hl,hl];exact hC
 ·intro i o lz a wx ho' hnl dq Z;have hI:=Z.i;have hi:i<20:=(Array.getElem?_eq_some_iff.1 ho').1;have hK:=hI;unfold DvC at hK;obtain rfl|rfl|rfl|rfl|rfl|rfl|rfl|rfl|rfl|rfl|rfl|rfl|rfl|rfl|rfl|rfl|rfl|rfl|rfl|rfl:i=0\/i=1\/i=2\/i=3\/i=4\/i=5\/i=6\/i=7\/i=8\/i=9\/i=10\/i=11\/i=12\/i=13\/i=14\/i=15\/i=16\/i=17\/i=18\/i=19:=by omega
  all_goals obtain rfl:=Option.some.inj ho'
  exact dd_val hI (hz_ Z 0) (NN.qk_ rfl) ((Z.old' 0));exact dd_val hI (hz_ Z 1) (ex_nil rfl (gd_ Z dq 0 54)) (rfl);exact dd_val hI (hz_ Z 2) (ql_ rfl (gd_ Z dq 1 55) (bfield1 _ _)) (rfl);exact dd_val hI (hz_ Z 3) (qp_ rfl (gd_ Z dq 2 56) (qdw_ hK.b1)) (rfl);exact dd_val hI (hz_ Z 4) (ql_ rfl (Z.old' 3) (acfield3 _ _)) (rfl);exact dd_val hI (hz_ Z 5) (qp_ rfl (gd_ Z dq 4 58) (load_i (hK.act.num q0))) (rfl)
  ·have hsz:=hz_ Z 6;have hI0:=hK;rw[hnl] at hI0
   have hI1:Core w0 wx r bb bt mb mg bm rb (some (bx,y)) M M S (if (lz.setIfInBounds 6 true).getD 17 false=true then S1 else S):=by
    rw[qn_ lz 6 17 hsz (by decide)];exact hI0
   refine qeh_ (f:=16) (args:=#[a.eval (.tmp 57),a.eval (.tmp 59)]) (by kernel_rfl) ?_;rw[show a.eval (.tmp 57)=_ from (gd_ Z dq 3 57),show a.eval (.tmp 59)=_ from (gd_ Z dq 5 59)];refine (qiq_ hI1 (by omega) y.n).mono ?_;rintro e w' ⟨rfl,hc⟩;rw[HS1.out] at hc;exact ⟨_,rfl,(by rw[<-HZ.out];rfl),Jd.one hsz (hc)⟩
  exact dd_val hI (hz_ Z 7) (NN.qk_ rfl) ((Z.old' 0));exact dd_val hI (hz_ Z 8) (ex_nil rfl (gd_ Z dq 7 61)) (rfl);exact dd_val hI (hz_ Z 9) (ql_ rfl (gd_ Z dq 8 62) (bfield3 _ _)) (rfl);exact dd_val hI (hz_ Z 10) (qp_ rfl (gd_ Z dq 9 63) (qnv_ hK.b3)) (rfl);exact dd_val hI (hz_ Z 11) (NN.qk_ rfl) ((Z.old' 0));exact dd_val hI (hz_ Z 12) (ex_nil rfl (gd_ Z dq 11 65)) (rfl);exact dd_val hI (hz_ Z 13) (ql_ rfl (gd_ Z dq 12 66) (bfield2 _ _)) (rfl);exact dd_val hI (hz_ Z 14) (qp_ rfl (gd_ Z dq 13 67) (qju_ hK.b2)) (rfl);exact dd_val hI (hz_ Z 15) (ql_ rfl (Z.old' 3) (acfield3 _ _)) (rfl);exact dd_val hI (hz_ Z 16) (qp_ rfl (gd_ Z dq 15 69) (load_i (hK.act.num q0))) (rfl)
  ·have hsz:=hz_ Z 17;have hI0:=hK;rw[hnl] at hI0
   have hI1:Core w0 wx r bb bt mb mg bm rb (some (bx,y)) M M (if (lz.setIfInBounds 17 true).getD 6 false=true then S1 else S) S:=by
    rw[qn_ lz 17 6 hsz (by decide)];exact hI0
   refine qeh_ (f:=35) (args:=#[a.eval (.tmp 64),a.eval (.tmp 68),a.eval (.tmp 70)]) (by kernel_rfl) ?_;rw[show a.eval (.tmp 64)=_ from (gd_ Z dq 10 64),show a.eval (.tmp 68)=_ from (gd_ Z dq 14 68),show a.eval (.tmp 70)=_ from (gd_ Z dq 16 70)];refine (qrv_ hI1 (by omega) y.n).mono ?_;rintro e w' ⟨rfl,hc⟩;rw[HS1.out] at hc;exact ⟨_,rfl,(by rw[<-HZ.out];rfl),Jd.two hsz (hc)⟩
  exact dd_val hI (hz_ Z 18) (qjv_ rfl (gd_ Z dq 6 60) (gd_ Z dq 17 71)) (rfl);exact dd_val hI (hz_ Z 19) (NN.qaa_ rfl) ((gd_ Z dq 18 72))
 ·intro lz a' v2 hall Z;have hI:=Z.i;have hk1:=hall 6 (by decide);have hk2:=hall 17 (by decide);rw[hk1,hk2] at hI;have f4:a'.eval (.tmp 4) = .bool true:=Z.got 19 _ 4 rfl (hall 19 (by decide)) rfl;obtain ⟨u,hu⟩:∃ u:Nat->Value,∀ t,u t=a'.eval (.tmp t):=⟨_,fun _=>rfl⟩;rw[qah_ a' 94 u Z.tsize Z.defers hu];rw[<-hu] at f4;clear hu Z hall hk1 hk2;simp only[List.range,List.range.loop,List.map_cons,List.map_nil];rw[f4];clear f4;have hD:=h_ (Core.loose hI);clear hI;go_wp2_with fail
  go_ret;exact ⟨rfl,by rw[HS1.out];exact hD.out⟩
theorem does3 (w0 w:World) (r:Ru) (bb bt mb mg bm rb:Nat) (M:List Ent) (S:Mk.St) (h:Core w0 w r bb bt mb mg bm rb none M M S S) (HM:Hid (Ok r M/\M.length<=100)) (y:Ac) (q0:y.h.ok) (hk:y.kind=3) :
  Calls Tryz.prog 12 #[.pointer (some ⟨bb,0,none⟩),.agg (acA y)] w fun e w'=>e = .returned (.bool true)/\Core w0 w' r bb bt mb mg bm rb none (actM r M y) (actM r M y) (actS M S y) (actS M S y):=by
 have e1:actM r M y=M:=by unfold actM;rw[if_neg (by omega)]
 have e2:actS M S y=(recon M S y.n).2:=by unfold actS;rw[if_neg (by omega),if_neg (by omega),if_pos hk]
 rw[e1,e2];have HK:=h_ hk;clear e1 e2 hk;have hml:M.length<=100:=HM.out.2;have hzy:=qi_ q0;have hza:=qbu_ q0;have hb0:Below w.heap.size w (w.alloc (.cells (acA y) 39)):=(Below.refl _ _).alloc (Nat.le_refl _) _;obtain ⟨bx,hbx⟩:∃ bx,bx=w.heap.size:=⟨_,rfl⟩;have hY:AcAt (w.alloc (.cells (acA y) 39)) bx y:=by rw[hbx];exact Has.new _ _
 have hC:=h.box hb0 hbx hY;have HBX:=h_ hbx;clear h hb0 hY hbx;go_enter Tryz.func12,Tryz.ntmps12;go_upto_region 1 with fail
 rw[<-HBX.out];generalize World.alloc _ _=v1 at *;have c0:=hC.act.kind;rw[HK.out] at c0;obtain ⟨S1,hS1⟩:∃ S1,(recon M S y.n).2=S1:=⟨_,rfl⟩;obtain ⟨z,hz⟩:∃ z,(recon M S y.n).1=z:=⟨_,rfl⟩;have HS1:=h_ hS1;have HZ:=h_ hz;clear hS1 hz;go_wp2_with fail
 have hC:DvC w0 r bb bt mb mg bm rb bx y M S S1 false false v1.drew:=hC.below (belowDrew v1);refine qe_ (by kernel_rfl) (fun _=>True) (fun i v' _=>DwR bb mb bm rb bx y z i v') (fun l _ w'=>(DvC w0 r bb bt mb mg bm rb bx y M S S1) (l.getD 6 false) (l.getD 17 false) w') (fun _ _=>True) (fun _ _=>trivial) (fun _ _ _ _ _ _ h=>h) (by kernel_rfl) trivial ?_ ?_ ?_;intro l hl;rw[hl,hl];exact hC
 ·intro i o lz a wx ho' hnl dq Z;have hI:=Z.i;have hi:i<20:=(Array.getElem?_eq_some_iff.1 ho').1;have hK:=hI;unfold DvC at hK;obtain rfl|rfl|rfl|rfl|rfl|rfl|rfl|rfl|rfl|rfl|rfl|rfl|rfl|rfl|rfl|rfl|rfl|rfl|rfl|rfl:i=0\/i=1\/i=2\/i=3\/i=4\/i=5\/i=6\/i=7\/i=8\/i=9\/i=10\/i=11\/i=12\/i=13\/i=14\/i=15\/i=16\/i=17\/i=18\/i=19:=by omega
  all_goals obtain rfl:=Option.some.inj ho'
  exact dd_val hI (hz_ Z 0) (NN.qk_ rfl) ((Z.old' 0));exact dd_val hI (hz_ Z 1) (ex_nil rfl (gd_ Z dq 0 75)) (rfl);exact dd_val hI (hz_ Z 2) (ql_ rfl (gd_ Z dq 1 76) (bfield1 _ _)) (rfl);exact dd_val hI (hz_ Z 3) (qp_ rfl (gd_ Z dq 2 77) (qdw_ hK.b1)) (rfl);exact dd_val hI (hz_ Z 4) (ql_ rfl (Z.old' 3) (acfield3 _ _)) (rfl);exact dd_val hI (hz_ Z 5) (qp_ rfl (gd_ Z dq 4 79) (load_i (hK.act.num q0))) (rfl)
  ·have hsz:=hz_ Z 6;have hI0:=hK;rw[hnl] at hI0
   have hI1:Core w0 wx r bb bt mb mg bm rb (some (bx,y)) M M S (if (lz.setIfInBounds 6 true).getD 17 false=true then S1 else S):=by
    rw[qn_ lz 6 17 hsz (by decide)];exact hI0
   refine qeh_ (f:=17) (args:=#[a.eval (.tmp 78),a.eval (.tmp 80)]) (by kernel_rfl) ?_;rw[show a.eval (.tmp 78)=_ from (gd_ Z dq 3 78),show a.eval (.tmp 80)=_ from (gd_ Z dq 5 80)];refine (qrw_ hI1 HM.out.1 (by omega) y.n).mono ?_;rintro e w' ⟨rfl,hc⟩;rw[HS1.out] at hc;exact ⟨_,rfl,(by rw[<-HZ.out];rfl),Jd.one hsz (hc)⟩
  exact dd_val hI (hz_ Z 7) (NN.qk_ rfl) ((Z.old' 0));exact dd_val hI (hz_ Z 8) (ex_nil rfl (gd_ Z dq 7 82)) (rfl);exact dd_val hI (hz_ Z 9) (ql_ rfl (gd_ Z dq 8 83) (bfield3 _ _)) (rfl);exact dd_val hI (hz_ Z 10) (qp_ rfl (gd_ Z dq 9 84) (qnv_ hK.b3)) (rfl);exact dd_val hI (hz_ Z 11) (NN.qk_ rfl) ((Z.old' 0));exact dd_val hI (hz_ Z 12) (ex_nil rfl (gd_ Z dq 11 86)) (rfl);exact dd_val hI (hz_ Z 13) (ql_ rfl (gd_ Z dq 12 87) (bfield2 _ _)) (rfl);exact dd_val hI (hz_ Z 14) (qp_ rfl (gd_ Z dq 13 88) (qju_ hK.b2)) (rfl);exact dd_val hI (hz_ Z 15) (ql_ rfl (Z.old' 3) (acfield3 _ _)) (rfl);exact dd_val hI (hz_ Z 16) (qp_ rfl (gd_ Z dq 15 90) (load_i (hK.act.num q0))) (rfl)
  ·have hsz:=hz_ Z 17;have hI0:=hK;rw[hnl] at hI0
   have hI1:Core w0 wx r bb bt mb mg bm rb (some (bx,y)) M M (if (lz.setIfInBounds 17 true).getD 6 false=true then S1 else S) S:=by
    rw[qn_ lz 17 6 hsz (by decide)];exact hI0
   refine qeh_ (f:=36) (args:=#[a.eval (.tmp 85),a.eval (.tmp 89),a.eval (.tmp 91)]) (by kernel_rfl) ?_;rw[show a.eval (.tmp 85)=_ from (gd_ Z dq 10 85),show a.eval (.tmp 89)=_ from (gd_ Z dq 14 89),show a.eval (.tmp 91)=_ from (gd_ Z dq 16 91)];refine (qrx_ hI1 HM.out.1 (by omega) y.n).mono ?_;rintro e w' ⟨rfl,hc⟩;rw[HS1.out] at hc;exact ⟨_,rfl,(by rw[<-HZ.out];rfl),Jd.two hsz (hc)⟩
  exact dd_val hI (hz_ Z 18) (qjv_ rfl (gd_ Z dq 6 81) (gd_ Z dq 17 92)) (rfl);exact dd_val hI (hz_ Z 19) (NN.qaa_ rfl) ((gd_ Z dq 18 93))
 ·intro lz a' v2 hall Z;have hI:=Z.i;have hk1:=hall 6 (by decide);have hk2:=hall 17 (by decide);rw[hk1,hk2] at hI;have f4:a'.eval (.tmp 4) = .bool true:=Z.got 19 _ 4 rfl (hall 19 (by decide)) rfl;obtain ⟨u,hu⟩:∃ u:Nat->Value,∀ t,u t=a'.eval (.tmp t):=⟨_,fun _=>rfl⟩;rw[qah_ a' 94 u Z.tsize Z.defers hu];rw[<-hu] at f4;clear hu Z hall hk1 hk2;simp only[List.range,List.range.loop,List.map_cons,List.map_nil];rw[f4];clear f4;have hD:=h_ (Core.loose hI);clear hI;go_wp2_with fail
  go_ret;exact ⟨rfl,by rw[HS1.out];exact hD.out⟩
theorem does9 (w0 w:World) (r:Ru) (bb bt mb mg bm rb:Nat) (M:List Ent) (S:Mk.St) (h:Core w0 w r bb bt mb mg bm rb none M M S S) (y:Ac) (q0:y.h.ok) (k0:¬y.kind=0) (k1:¬y.kind=1) (k2:¬y.kind=2) (k3:¬y.kind=3) :
  Calls Tryz.prog 12 #[.pointer (some ⟨bb,0,none⟩),.agg (acA y)] w fun e w'=>e = .returned (.bool true)/\Core w0 w' r bb bt mb mg bm rb none (actM r M y) (actM r M y) (actS M S y) (actS M S y):=by
 have e1:actM r M y=M:=if_neg k0;have e2:actS M S y=S:=by unfold actS;rw[if_neg k1,if_neg k2,if_neg k3]
 rw[e1,e2];have f0:(y.kind==0)=false:=by simpa using k0
 have f1:(y.kind==1)=false:=by simpa using k1
 have f2:(y.kind==2)=false:=by simpa using k2
 have f3:(y.kind==3)=false:=by simpa using k3
 clear e1 e2 k0 k1 k2 k3;have hza:=qbu_ q0;have hb0:Below w.heap.size w (w.alloc (.cells (acA y) 39)):=(Below.refl _ _).alloc (Nat.le_refl _) _;obtain ⟨bx,hbx⟩:∃ bx,bx=w.heap.size:=⟨_,rfl⟩;have hY:AcAt (w.alloc (.cells (acA y) 39)) bx y:=by rw[hbx];exact Has.new _ _
 have hC:=h.box hb0 hbx hY;have HBX:=h_ hbx;clear h hb0 hY hbx;go_enter Tryz.func12,Tryz.ntmps12;go_upto_region 1 with fail
 rw[<-HBX.out];generalize World.alloc _ _=v1 at *;have c0:=hC.act.kind;generalize y.kind=kd at *;have HC:=h_ hC;clear hC;go_wp2_with fail
 go_ret;exact ⟨rfl,HC.out.loose⟩
theorem qxh_ (w0 w:World) (r:Ru) (bb bt mb mg bm rb:Nat) (M:List Ent) (S:Mk.St) (h:Core w0 w r bb bt mb mg bm rb none M M S S) (HM:Hid (Ok r M/\M.length<=100)) (HG:Hid (r.gs.length<=1000/\r.cs.length<=1000/\2<=r.p.ivl)) (HT:Hid (∀w',Below w0.heap.size w0 w'->Tab w')) (y:Ac) (q0:y.h.ok) (HNy:Hid (-9223372036854775808<=y.now/\y.now<=9223372036854775807)):Calls Tryz.prog 12 #[.pointer (some ⟨bb,0,none⟩),.agg (acA y)] w fun e w'=>e = .returned (.bool true)/\Core w0 w' r bb bt mb mg bm rb none (actM r M y) (actM r M y) (actS M S y) (actS M S y):=by
 by_cases k0:y.kind=0;exact does0 w0 w r bb bt mb mg bm rb M S h HM HG HT y q0 HNy k0;by_cases k1:y.kind=1;exact does1 w0 w r bb bt mb mg bm rb M S h HM y q0 k1;by_cases k2:y.kind=2;exact does2 w0 w r bb bt mb mg bm rb M S h HM y q0 k2;by_cases k3:y.kind=3;exact does3 w0 w r bb bt mb mg bm rb M S h HM y q0 k3;exact does9 w0 w r bb bt mb mg bm rb M S h y q0 k0 k1 k2 k3
theorem qxi_ {ops:Array Oper} {rest:List Oper} {o:Oper} {a:Act} {Q:Exit->Act->World->Prop} {w:World} (hgd:o.guard=none) (x:Operand) (ho:o.op = .load 39 x) (g:Nat) (hx:a.eval x = .pointer (some ⟨g,0,none⟩)) (c:Ac) (hg:AcAt w g c) (hs:(acA c).size=72)
  (hk:wpList Tryz.prog ops Q rest (a.put o.dst (.agg (acA c))) w):wpList Tryz.prog ops Q (o :: rest) a w :=
 wpList_load_row hgd 39 x ho g hx 39 (acA c) (0,0) _ (Has.out hg) Tryz.underlying39 rfl (acinfo.trans (by rw[hs])) hk
theorem act_len (r:Ru) (M:List Ent) (h:Hd) (now:Int):(Ar.add r M h now).2.length<=M.length+1:=by
 unfold Ar.add;repeat' (first|split|(dsimp only;simp))
theorem act_up (r:Ru) (M:List Ent) (h:Hd) (now:Int):M.length<=(Ar.add r M h now).2.length:=by
 unfold Ar.add;repeat' (first|split|(dsimp only;simp))
theorem qnw_ {r:Ru} {M:List Ent} {S:Mk.St} (hM:Ok r M) (hG:Mk.Good M.length S) (y:Ac) (q0:y.h.ok):Ok r (actM r M y)/\(actM r M y).length<=M.length+1/\Mk.Good (actM r M y).length (actS M S y):=by
 unfold actM actS;by_cases k0:y.kind=0;rw[if_pos k0,if_neg (by omega),if_neg (by omega),if_neg (by omega)];exact ⟨hM.add q0 y.now,act_len r M y.h y.now,hG.more (act_up r M y.h y.now)⟩
 ·rw[if_neg k0];refine ⟨hM,by omega,?_⟩;split;exact hG.verdict y.n y.rt
  ·split;exact hG.inval y.n
   ·split;exact hG.recon y.n;exact hG
theorem tops {r:Ru} {M:List Ent} {S:Mk.St} (hM:Ok r M) (hG:Mk.Good M.length S):∃ best lead:Int,(Mk.top (Hv r M) (fun i=>validB M S (i:Int)) M.length:Int)=best/\(Mk.top (Hv r M) (fun i=>!failB M S (i:Int)) M.length:Int)=lead/\validB M S best=true/\failB M S best=false/\failB M S lead=false/\(best=lead\/(best==lead)=false/\HvI r M lead best true):=by
 have h0:0<M.length:=hM.pos;have v0:=qlt_ hM hG;have f0:=qxe_ hM hG;have hv:=Mk.top_is (H:=Hv r M) (P:=fun i=>validB M S (i:Int)) v0 M.length;have hf:=Mk.top_is (H:=Hv r M) (P:=fun i=>!failB M S (i:Int)) f0 M.length
 have hs:=Mk.top_sub (Q:=fun i=>!failB M S (i:Int)) (P:=fun i=>validB M S (i:Int)) (Hv_tot r M) h0 v0 (fun i _ hi=>by
  simp only[Bool.not_eq_true'];cases e:failB M S (i:Int) with
  | false=>rfl
  | true=>exact absurd (Mk.qcz_.1 e) (Mk.qbo_ (Mk.qev_.1 hi)))
 have l1:=Mk.top_lt (H:=Hv r M) (P:=fun i=>validB M S (i:Int)) M.length h0;have l2:=Mk.top_lt (H:=Hv r M) (P:=fun i=>!failB M S (i:Int)) M.length h0;generalize Mk.top (Hv r M) (fun i=>validB M S (i:Int)) M.length=b at *;generalize Mk.top (Hv r M) (fun i=>!failB M S (i:Int)) M.length=d at *;refine ⟨_,_,rfl,rfl,hv,?_,by simpa using hf,?_⟩
 ·cases e:failB M S (b:Int) with
  | false=>rfl
  | true=>exact absurd (Mk.qcz_.1 e) (Mk.qbo_ (Mk.qev_.1 hv))
 ·by_cases hbd:b=d;exact .inl (by rw[hbd]);refine .inr ⟨by rw[beq_eq_false_iff_ne];omega,?_⟩;rw[<-hs.resolve_left hbd];exact HvI.place l2 l1
theorem qry_ (p:NN.Pr) (hp:p.ok) (a:Option Addr) (n c:Nat) (w:World) (KA:HK_ w 9 #[] (.bool true)) (KG:HK_ w 10 #[.agg (NN.prA p),.slice a n c] (.bool true)) :
  Ca_ 8 #[.agg (NN.prA p),.slice a n c] w (.bool true):=by
 have hz:=NN.qao_ hp;go_enter Tryz.func8,Tryz.ntmps8;go_upto_region 1 with fail
 generalize hw0:World.alloc _ _=v0;have hB:Below w.heap.size w v0:=bl_ hw0;have hP:NN.PrAt v0 w.heap.size p:=by rw[<-hw0];exact NN.Has.new _ _
 clear hw0;obtain ⟨bP,hbP⟩:∃ x,x=w.heap.size:=⟨_,rfl⟩;rw[<-hbP] at hP |-;have HBP:Hid (bP=w.heap.size):=h_ hbP;clear hbP;go_wp2_with (first|fail)
 refine (KA.out _ hB).mono ?_;rintro e v1 ⟨rfl,hb⟩;replace hP:=hP.on hb;replace hB:=tb_ hB hb;clear hb;go_wp2_with (with_reducible first|refine NN.qq_ rfl _ rfl _ rfl hP hz ?_|refine NN.qm_ (by with_unfolding_all rfl) _ rfl _ rfl hP hz ?_)
 refine (KG.out _ hB).mono ?_;rintro e v2 ⟨rfl,hb⟩;replace hP:=hP.on hb;replace hB:=tb_ hB hb;clear hb;go_wp2_with fail
 go_ret;exact ⟨rfl,hB⟩
theorem qxj_ (p:NN.Pr) (hp:p.ok) (r:Ru) (a:Option Addr) (n c:Nat) (w:World) (ls:List Ac) (HA:Hid (∀w',Below w.heap.size w w'->ActsAt w' a ls)) (HN:Hid (n=ls.length)) (hn40:n<=40) (HT:Hid (∀w',Below w.heap.size w w'->Tab w')) (HG:Hid (r.gs.length<=1000/\r.cs.length<=1000/\2<=r.p.ivl)) (HNW:Hid (∀x ∈ ls,-9223372036854775808<=x.now/\x.now<=9223372036854775807)) (KA:HK_ w 9 #[] (.bool true)) (KG:HK_ w 10 #[.agg (NN.prA p),.slice a n c] (.bool false)) (KS:Hid (∀w',Below w.heap.size w w'->Calls Tryz.prog 11 #[.agg (NN.prA p)] w' fun e w''=>∃ bb bt mb mg bm rb,e = .returned (.pointer (some ⟨bb,0,none⟩))/\Core w' w'' r bb bt mb mg bm rb none [entZ] [entZ] Mk.st0 Mk.st0)) :
  Ca_ 8 #[.agg (NN.prA p),.slice a n c] w (.bool true):=by
 have hz:=NN.qao_ hp;go_enter Tryz.func8,Tryz.ntmps8;go_upto_region 1 with fail
 generalize hw0:World.alloc _ _=v0;have hB:Below w.heap.size w v0:=bl_ hw0;have hP:NN.PrAt v0 w.heap.size p:=by rw[<-hw0];exact NN.Has.new _ _
 clear hw0;obtain ⟨bP,hbP⟩:∃ x,x=w.heap.size:=⟨_,rfl⟩;rw[<-hbP] at hP |-;have HBP:Hid (bP=w.heap.size):=h_ hbP;clear hbP;go_wp2_with (first|fail)
 refine (KA.out _ hB).mono ?_;rintro e v1 ⟨rfl,hb⟩;replace hP:=hP.on hb;replace hB:=tb_ hB hb;clear hb;go_wp2_with (with_reducible first|refine NN.qq_ rfl _ rfl _ rfl hP hz ?_|refine NN.qm_ (by with_unfolding_all rfl) _ rfl _ rfl hP hz ?_)
 refine (KG.out _ hB).mono ?_;rintro e v2 ⟨rfl,hb⟩;replace hP:=hP.on hb;replace hB:=tb_ hB hb;clear hb;go_wp2_with (first|fail|(with_reducible refine NN.qq_ rfl _ rfl _ rfl hP hz ?_))
 refine (KS.out _ hB).mono ?_;rintro e v3 ⟨bb,bt,mb,mg,bm,rb,rfl,hC⟩;have HBS:=h_ hB;have HTS:Hid (∀w',Below v2.heap.size v2 w'->Tab w'):=h_ fun w' hb=>HT.out w' (tb_ hB hb)
 clear hB hP KA KG KS;go_wp2_with fail
 go_loopw [19] (fun u wr=>∃ (k:Nat) (M:List Ent) (S:Mk.St),k<=n/\u = .int .i64 (k:Int)/\Core v2 wr r bb bt mb mg bm rb none M M S S/\Hid (Ok r M/\M.length<=k+1/\Mk.Good M.length S)) (fun u _=>n - (intOf u).toNat)
 case atStart=>exact ⟨0,[entZ],Mk.st0,by omega,rfl,hC,h_ ⟨Ok.one r,Nat.le_refl _,Mk.Good.start 1 (by decide)⟩⟩
 case round=>
  clear hC;obtain ⟨k,M,S,hk,rfl,hC,HM⟩:=hrel;have hM9:M.length<=50:=by have:=HM.out.2.1;omega
  have hB:=tb_ HBS.out hC.bel;by_cases hlt:k<n
  ·obtain ⟨ab,ao,hae,habl,hc⟩:=(HA.out _ hB) (by rw[<-HN.out];omega);subst hae;have hk2:k<ls.length:=by rw[<-HN.out];exact hlt
   obtain ⟨q0,q1⟩:=hc k hk2;have HNy:=h_ (HNW.out _ (List.getElem_mem hk2));clear hc hB;generalize ls[k]=y at *;clear hk2;have z1:=qdv_ q0;have z2:=qbu_ q0;have z0:=qbu_ (c:=acZ) hdZ_ok;have hb2:Below wr.heap.size wr ((wr.alloc (.cells Tryz.zeroCells39 39)).setRow wr.heap.size (acA y)):=below_setRow ((Below.refl _ _).alloc (Nat.le_refl _) _) (Nat.le_refl _) _;have hnew:=qln_ wr;have hY:=qpy_ wr y;have KD:=h_ (qxh_ v2 _ r bb bt mb mg bm rb M S (hC.below hb2) (h_ ⟨HM.out.1,by omega⟩) HG HTS y q0 HNy);clear hC hb2;go_wp2_with (with_reducible first|refine qcu_ rfl _ rfl ab (ao+k*72) rfl y q1 z1 ?_|refine qhl_ rfl _ _ rfl _ _ y rfl rfl rfl z2 hnew z0 ?_|refine qxi_ rfl _ rfl _ rfl y hY z2 ?_)
   refine KD.out.mono ?_;rintro e v6 ⟨rfl,hC⟩;obtain ⟨g1,g2,g3⟩:=qnw_ HM.out.1 HM.out.2.2 y q0;have HM7:Hid (Ok r (actM r M y)/\(actM r M y).length<=k+1+1/\Mk.Good (actM r M y).length (actS M S y)):=h_ ⟨g1,by have:=HM.out.2.1;omega,g3⟩;clear KD hY hnew z0 z1 z2 q1 HM g1 g2 g3;generalize World.setRow _ _ _=v5 at *;generalize actM r M y=M' at *;generalize actS M S y=S' at *;go_wp2_with fail
   go_roundw
   case rel=>exact ⟨k+1,M',S',by omega,by go_num,hC,HM7⟩
   case measure=>simp[intOf];omega
  ·obtain rfl:k=n:=by omega
   clear HA HT HTS HNW HG;obtain ⟨best,lead,hbest,hlead,t1,t2,t3,t4⟩:=tops HM.out.1 HM.out.2.2;have KB:=h_ fun w' (hb:Below wr.heap.size wr w')=>((hC.below hb).rd HM.out.1 (by omega)).best HM.out.1 (qlt_ HM.out.1 HM.out.2.2)
   have KL:=h_ fun w' (hb:Below wr.heap.size wr w')=>((hC.below hb).rd HM.out.1 (by omega)).lead HM.out.1 (qxe_ HM.out.1 HM.out.2.2)
   have KF1:=h_ fun w' (hb:Below wr.heap.size wr w')=>((hC.below hb).rd HM.out.1 (by omega)).failed best
   have KF2:=h_ fun w' (hb:Below wr.heap.size wr w')=>((hC.below hb).rd HM.out.1 (by omega)).failed lead
   have KV:=h_ fun w' (hb:Below wr.heap.size wr w')=>((hC.below hb).rd HM.out.1 (by omega)).valid best
   have KH:=h_ fun w' (hb:Below wr.heap.size wr w') g (hg:HvI r M lead best g)=>qlr_ (hC.below hb) lead best g hg
   rw[hbest] at KB;rw[hlead] at KL;rw[t2] at KF1;rw[t3] at KF2;rw[t1] at KV;have HT4:=h_ t4;clear t1 t2 t3 t4 hbest hlead;have HBB:=h_ fun w' (hb:Below wr.heap.size wr w')=>And.intro (hC.below hb).b0 (And.intro (hC.below hb).b1 (And.intro (hC.below hb).b2 (hC.below hb).b3))
   have hb0:=Below.refl wr.heap.size wr;obtain ⟨c0,c1,c2,c3⟩:=HBB.out _ hb0;clear hC HM;go_wp2_with fail
   have hRg:∀ d os,Below wr.heap.size wr (Sort.grow (redrawn wr d) os):=fun d os=>hb0.trans ((below_regrown wr d os).mono hb0.size)
   have g0:=cell_regrown c0;have g1:=cell_regrown c1;have g2:=cell_regrown c2;have g3:=cell_regrown c3;clear c0 c1 c2 c3;refine wp_region_quiet_below (by kernel_rfl) (by kernel_rfl) ?_;repeat (first|go_big_quiet_step ((first|(go_at_call 21;with_reducible exact Calls.regrown_of (KB.out _ (hRg _ _)))|(go_at_call 22;with_reducible exact Calls.regrown_of (KL.out _ (hRg _ _))))))
   refine wpQuiet_nil ?_;intro w1 hw';have hb:=qs_ w1 hw';replace hb0:=tb_ hb0 hb;clear hw' hb hRg g0 g1 g2 g3;obtain ⟨c0,c1,c2,c3⟩:=HBB.out _ hb0;go_wp2_with fail
   refine (KF1.out _ hb0).mono ?_;rintro e w2 ⟨rfl,hb⟩;replace hb0:=tb_ hb0 hb;clear hb c0 c1 c2 c3;obtain ⟨c0,c1,c2,c3⟩:=HBB.out _ hb0;go_wp2_with fail
   refine (KF2.out _ hb0).mono ?_;rintro e w3 ⟨rfl,hb⟩;replace hb0:=tb_ hb0 hb;clear hb c0 c1 c2 c3;obtain ⟨c0,c1,c2,c3⟩:=HBB.out _ hb0;go_wp2_with fail
   refine (KV.out _ hb0).mono ?_;rintro e w4 ⟨rfl,hb⟩;replace hb0:=tb_ hb0 hb;clear hb c0 c1 c2 c3;obtain ⟨c0,c1,c2,c3⟩:=HBB.out _ hb0;clear KF1 KF2 KV KB KL;rcases HT4.out with t4|⟨t4,t5⟩
   ·subst t4;have t6:(best==best)=true:=(by simp);have hBz:=tb_ hB hb0;(go_wp2_with fail);go_ret;exact ⟨rfl,hBz⟩
   ·have KH:=h_ fun w' hb=>KH.out w' hb true t5
    clear t5;(go_wp2_with fail);refine (KH.out _ hb0).mono ?_;rintro e w5 ⟨rfl,hb⟩;replace hb0:=tb_ hb0 hb;clear hb c0 c1 c2 c3;obtain ⟨c0,c1,c2,c3⟩:=HBB.out _ hb0;have hBz:=tb_ hB hb0;(go_wp2_with fail);go_ret;exact ⟨rfl,hBz⟩
theorem qxk_ (p:NN.Pr) (hp:p.ok) (h1:p.one) (t:Tl) (tt:p.tl=t.C) (ht:t.ok) (gs:List Gt) (cs:List Ck) (hgn:t.gn=gs.length) (hcn:t.cn=cs.length) (a:Option Addr) (ls:List Ac) (n c:Nat) (hn:n=ls.length) (hl:n<=4611686018427387904) (hnow:∀ x ∈ ls,-9223372036854775808<=x.now/\x.now<=9223372036854775807) (w:World) (hT:Tab w) (hA:ActsAt w a ls) (hG:GatesAt w t.ga gs) (hC:ChecksAt w t.ca cs) :
  Ca_ 8 #[.agg (NN.prA p),.slice a n c] w (.bool true):=by
 have KA:HK_ w 9 #[] (.bool true):=h_ fun w' hb=>alive16 w' (hT.below hb)
 have KG:∀ g,grt16 p t gs cs ls=g->HK_ w 10 #[.agg (NN.prA p),.slice a n c] (.bool g):=fun g hg=>h_ fun w' hb=>qnp_ p hp t tt ht gs cs hgn hcn ls n a c hn hl g hg w' (hA.below hb) (hG.below hb) (hC.below hb)
 cases hg:grt16 p t gs cs ls
 ·have KG1:=KG false hg;unfold grt16 grtA at hg;simp only[Bool.or_eq_false_iff,decide_eq_false_iff_not,Bool.not_eq_false'] at hg;obtain ⟨⟨⟨⟨hg0,hg1⟩,hg2⟩,hg3⟩,hr⟩:=hg
  have hiv:2<=p.ivl:=by
   unfold ruleP NN.Pr.good at hr;simp only[Bool.and_eq_true,decide_eq_true_eq] at hr;exact hr.1.1.1.1.1.1.1.1.2
  have HA:=h_ fun w' (hb:Below w.heap.size w w')=>hA.below hb
  have HT:=h_ fun w' (hb:Below w.heap.size w w')=>hT.below hb
  have HGG:Hid (gs.length<=1000/\cs.length<=1000/\2<=p.ivl):=h_ ⟨by omega,by omega,hiv⟩;have KS:=h_ fun w' (hb:Below w.heap.size w w')=>qnu_ p hp h1 t tt ht gs cs hgn hcn (by omega) (by omega) hr w' (hT.below hb) (hG.below hb) (hC.below hb)
  exact qxj_ p hp ⟨p,t.g,gs,cs,100⟩ a n c w ls HA (h_ hn) (by omega) HT HGG (h_ hnow) KA KG1 KS
 have KG1:=KG true hg;exact qry_ p hp a n c w KA KG1
theorem qabw_ {n:Nat} {S:Mk.St} {x:Int} (h:¬chg n x=0):((inval n S x).1 != 0)=true:=by
 unfold Mk.inval;rw[if_pos h];simpa using h
theorem qxl_ {M:List Ent} {S:Mk.St} {x:Int} (hG:Mk.Good M.length S) (h:chg M.length x=0):(inval M.length S x).1=0/\Mk.Good M.length (inval M.length S x).2/\∀ i:Nat,i<M.length->∃ fl wn:Bool,fl=failB M S (i:Int)/\wn=pb (Anc M x (i:Int))/\failB M (inval M.length S x).2 (i:Int)=(fl || wn)/\((fl || wn)=true->validB M (inval M.length S x).2 (i:Int)=false):=by
 obtain ⟨h1,h2,h3⟩:=Mk.qel_ h;generalize x.toNat=k at *;subst h3
 have e:∀ i:Nat,failB M (inval M.length S (k:Int)).2 (i:Int)=(failB M S (i:Int) || pb (Anc M (k:Int) (i:Int))):=fun i=>by
  rw[Bool.eq_iff_iff,Bool.or_eq_true,Mk.qcz_,Mk.qcz_,Mk.qcj_];exact Mk.qmy_ k i h
 refine ⟨by unfold Mk.inval;rw[if_neg (by omega)],hG.inval _,fun i hi=>⟨_,_,rfl,rfl,e i,fun hw=>?_⟩⟩;cases ev:validB M (inval M.length S (k:Int)).2 (i:Int) with
 | false=>rfl
 | true=>
  refine absurd ?_ (Mk.qbo_ (Mk.qev_.1 ev));exact Mk.qcz_.1 ((e i).trans hw)
theorem qnx_ (p:NN.Pr) (hp:p.ok) (a:Option Addr) (n c:Nat) (N:Int) (w:World) (KA:HK_ w 9 #[] (.bool true)) (KG:HK_ w 10 #[.agg (NN.prA p),.slice a n c] (.bool true)) :
  Ca_ 6 #[.agg (NN.prA p),.slice a n c,.int .i64 N] w (.bool true):=by
 have hz:=NN.qao_ hp;go_enter Tryz.func6,Tryz.ntmps6;go_upto_region 1 with fail
 generalize hw0:World.alloc _ _=v0;have hB:Below w.heap.size w v0:=bl_ hw0;have hP:NN.PrAt v0 w.heap.size p:=by rw[<-hw0];exact NN.Has.new _ _
 clear hw0;obtain ⟨bP,hbP⟩:∃ x,x=w.heap.size:=⟨_,rfl⟩;rw[<-hbP] at hP |-;have HBP:Hid (bP=w.heap.size):=h_ hbP;clear hbP;go_wp2_with (first|fail)
 refine (KA.out _ hB).mono ?_;rintro e v1 ⟨rfl,hb⟩;replace hP:=hP.on hb;replace hB:=tb_ hB hb;clear hb;go_wp2_with (with_reducible first|refine NN.qq_ rfl _ rfl _ rfl hP hz ?_|refine NN.qm_ (by with_unfolding_all rfl) _ rfl _ rfl hP hz ?_)
 refine (KG.out _ hB).mono ?_;rintro e v2 ⟨rfl,hb⟩;replace hP:=hP.on hb;replace hB:=tb_ hB hb;clear hb;go_wp2_with fail
 go_ret;exact ⟨rfl,hB⟩
theorem qrz_ (p:NN.Pr) (hp:p.ok) (r:Ru) (a:Option Addr) (n c:Nat) (N:Int) (w:World) (ls:List Ac) (HA:Hid (∀w',Below w.heap.size w w'->ActsAt w' a ls)) (HN:Hid (n=ls.length)) (hn40:n<=40) (HT:Hid (∀w',Below w.heap.size w w'->Tab w')) (HG:Hid (r.gs.length<=1000/\r.cs.length<=1000/\2<=r.p.ivl)) (HNW:Hid (∀x ∈ ls,-9223372036854775808<=x.now/\x.now<=9223372036854775807)) (KA:HK_ w 9 #[] (.bool true)) (KG:HK_ w 10 #[.agg (NN.prA p),.slice a n c] (.bool false)) (KS:Hid (∀w',Below w.heap.size w w'->Calls Tryz.prog 11 #[.agg (NN.prA p)] w' fun e w''=>∃ bb bt mb mg bm rb,e = .returned (.pointer (some ⟨bb,0,none⟩))/\Core w' w'' r bb bt mb mg bm rb none [entZ] [entZ] Mk.st0 Mk.st0)) :
  Ca_ 6 #[.agg (NN.prA p),.slice a n c,.int .i64 N] w (.bool true):=by
 have hz:=NN.qao_ hp;go_enter Tryz.func6,Tryz.ntmps6;go_upto_region 1 with fail
 generalize hw0:World.alloc _ _=v0;have hB:Below w.heap.size w v0:=bl_ hw0;have hP:NN.PrAt v0 w.heap.size p:=by rw[<-hw0];exact NN.Has.new _ _
 clear hw0;obtain ⟨bP,hbP⟩:∃ x,x=w.heap.size:=⟨_,rfl⟩;rw[<-hbP] at hP |-;have HBP:Hid (bP=w.heap.size):=h_ hbP;clear hbP;go_wp2_with (first|fail)
 refine (KA.out _ hB).mono ?_;rintro e v1 ⟨rfl,hb⟩;replace hP:=hP.on hb;replace hB:=tb_ hB hb;clear hb;go_wp2_with (with_reducible first|refine NN.qq_ rfl _ rfl _ rfl hP hz ?_|refine NN.qm_ (by with_unfolding_all rfl) _ rfl _ rfl hP hz ?_)
 refine (KG.out _ hB).mono ?_;rintro e v2 ⟨rfl,hb⟩;replace hP:=hP.on hb;replace hB:=tb_ hB hb;clear hb;go_wp2_with (first|fail|(with_reducible refine NN.qq_ rfl _ rfl _ rfl hP hz ?_))
 refine (KS.out _ hB).mono ?_;rintro e v3 ⟨bb,bt,mb,mg,bm,rb,rfl,hC⟩;have HBS:=h_ hB;have HTS:Hid (∀w',Below v2.heap.size v2 w'->Tab w'):=h_ fun w' hb=>HT.out w' (tb_ hB hb)
 clear hB hP KA KG KS;go_wp2_with fail
 go_loopw [21] (fun u wr=>∃ (k:Nat) (M:List Ent) (S:Mk.St),k<=n/\u = .int .i64 (k:Int)/\Core v2 wr r bb bt mb mg bm rb none M M S S/\Hid (Ok r M/\M.length<=k+1/\Mk.Good M.length S)) (fun u _=>n - (intOf u).toNat)
 case atStart=>exact ⟨0,[entZ],Mk.st0,by omega,rfl,hC,h_ ⟨Ok.one r,Nat.le_refl _,Mk.Good.start 1 (by decide)⟩⟩
 case round=>
  clear hC;obtain ⟨k,M,S,hk,rfl,hC,HM⟩:=hrel;have hM9:M.length<=50:=by have:=HM.out.2.1;omega
  have hB:=tb_ HBS.out hC.bel;by_cases hlt:k<n
  ·obtain ⟨ab,ao,hae,habl,hc⟩:=(HA.out _ hB) (by rw[<-HN.out];omega);subst hae;have hk2:k<ls.length:=by rw[<-HN.out];exact hlt
   obtain ⟨q0,q1⟩:=hc k hk2;have HNy:=h_ (HNW.out _ (List.getElem_mem hk2));clear hc hB;generalize ls[k]=y at *;clear hk2;have z1:=qdv_ q0;have z2:=qbu_ q0;have z0:=qbu_ (c:=acZ) hdZ_ok;have hb2:Below wr.heap.size wr ((wr.alloc (.cells Tryz.zeroCells39 39)).setRow wr.heap.size (acA y)):=below_setRow ((Below.refl _ _).alloc (Nat.le_refl _) _) (Nat.le_refl _) _;have hnew:=qln_ wr;have hY:=qpy_ wr y;have KD:=h_ (qxh_ v2 _ r bb bt mb mg bm rb M S (hC.below hb2) (h_ ⟨HM.out.1,by omega⟩) HG HTS y q0 HNy);clear hC hb2;go_wp2_with (with_reducible first|refine qcu_ rfl _ rfl ab (ao+k*72) rfl y q1 z1 ?_|refine qhl_ rfl _ _ rfl _ _ y rfl rfl rfl z2 hnew z0 ?_|refine qxi_ rfl _ rfl _ rfl y hY z2 ?_)
   refine KD.out.mono ?_;rintro e v6 ⟨rfl,hC⟩;obtain ⟨g1,g2,g3⟩:=qnw_ HM.out.1 HM.out.2.2 y q0;have HM7:Hid (Ok r (actM r M y)/\(actM r M y).length<=k+1+1/\Mk.Good (actM r M y).length (actS M S y)):=h_ ⟨g1,by have:=HM.out.2.1;omega,g3⟩;clear KD hY hnew z0 z1 z2 q1 HM g1 g2 g3;generalize World.setRow _ _ _=v5 at *;generalize actM r M y=M' at *;generalize actS M S y=S' at *;go_wp2_with fail
   go_roundw
   case rel=>exact ⟨k+1,M',S',by omega,by go_num,hC,HM7⟩
   case measure=>simp[intOf];omega
  ·obtain rfl:k=n:=by omega
   clear HA HT HTS HNW HG;have c1:=hC.b1;have KI:=h_ (qiq_ hC (by omega) N);clear hC hB;by_cases hch:chg M.length N=0
   ·obtain ⟨hz,hG1,HW⟩:=qxl_ HM.out.2.2 hch;rw[hz] at KI;have HW:=h_ HW;generalize (inval M.length S N).2=S1 at *;clear hz hch;(go_wp2_with fail);refine KI.out.mono ?_;rintro e wI ⟨rfl,hC⟩;have hB:=tb_ HBS.out hC.bel;have HBB:=h_ fun w' (hb:Below wI.heap.size wI w')=>And.intro (hC.below hb).b0 (And.intro (hC.below hb).b1 (And.intro (hC.below hb).b2 (hC.below hb).b3))
    have hb0:=Below.refl wI.heap.size wI;obtain ⟨c0,c1,c2,c3⟩:=HBB.out _ hb0;obtain ⟨aL,cL,hL⟩:=hC.list;have HL:=h_ hL;have HCX:=h_ hC;have HG1:=h_ hG1;generalize hm:M.length=m at *;have Hm:=h_ hm;have c83:=HL.out _ hb0;clear KI hC hL hm hG1;(go_wp2_with fail);go_loopw [44] (fun u wq=>∃ q:Nat,q<=m/\u = .int .i64 (q:Int)/\Below wI.heap.size wI wq) (fun u _=>m - (intOf u).toNat)
    case atStart=>exact ⟨0,by omega,rfl,hb0⟩
    case round=>
     clear hb0 c0 c1 c2 c3 c83;obtain ⟨q,hq,rfl,hb0⟩:=hrel;obtain ⟨c0,c1,c2,c3⟩:=HBB.out _ hb0;rename World=>wq
     by_cases hqm:q<m
     ·obtain ⟨fl,wn,h1,h2,h3,h4⟩:=HW.out q hqm;have KRF:=h_ fun w' (hb:Below wI.heap.size wI w')=>(by obtain ⟨Fm,hF⟩:=(HCX.out.below hb).rf;exact qxc_ hF (HCX.out.below hb).rk HM.out.1 (by rw[Hm.out];omega) (q:Int):Calls Tryz.prog 26 #[.pointer (some ⟨rb,0,none⟩),.pointer (some ⟨bm,0,none⟩),.int .i64 (q:Int)] w' fun e w''=>e = .returned (.bool (failB M S (q:Int)))/\Below w'.heap.size w' w'')
      have KW:=h_ fun w' (hb:Below wI.heap.size wI w')=>qru_ (HCX.out.below hb) HM.out.1 (by rw[Hm.out];omega) N (q:Int)
      have KF:=h_ fun w' (hb:Below wI.heap.size wI w')=>((HCX.out.below hb).rd HM.out.1 (by rw[Hm.out];omega)).failed (q:Int)
      have KV:=h_ fun (hw:(fl || wn)=true) w' (hb:Below wI.heap.size wI w')=>(by have:=((HCX.out.below hb).rd HM.out.1 (by rw[Hm.out];omega)).valid (q:Int);rw[h4 hw] at this;exact this:Calls Tryz.prog 20 #[.pointer (some ⟨mb,0,none⟩),.int .i64 (q:Int)] w' fun e w''=>e = .returned (.bool false)/\Below w'.heap.size w' w'')
      rw[<-h1] at KRF;rw[<-h2] at KW;rw[h3] at KF;clear h1 h2 h3 h4;have hways:(fl=true\/fl=false/\wn=true)\/(fl=false/\wn=false):=by cases fl <;> cases wn <;> simp
      rcases hways with h2|⟨rfl,rfl⟩
      ·rcases h2 with rfl|⟨rfl,rfl⟩
       all_goals
        (go_wp2_with fail);have hRg:∀ d os,Below wI.heap.size wI (Sort.grow (redrawn wq d) os):=fun d os=>hb0.trans ((below_regrown wq d os).mono hb0.size)
        have g0:=cell_regrown c0;have g1:=cell_regrown c1;have g2:=cell_regrown c2;have g3:=cell_regrown c3;clear c0 c1 c2 c3;refine wp_region_quiet_below (by kernel_rfl) (by kernel_rfl) ?_;repeat (first|go_big_quiet_step ((first|(go_at_call 26;with_reducible exact Calls.regrown_of (KRF.out _ (hRg _ _)))|(go_at_call 25;with_reducible exact Calls.regrown_of (KW.out _ (hRg _ _))))))
        refine wpQuiet_nil ?_;intro w5 hw';have hb:=qs_ w5 hw';replace hb0:=tb_ hb0 hb;clear hw' hb hRg g0 g1 g2 g3;obtain ⟨c0,c1,c2,c3⟩:=HBB.out _ hb0;(go_wp2_with fail);refine (KF.out _ hb0).mono ?_;rintro e w6 ⟨rfl,hb⟩;replace hb0:=tb_ hb0 hb;clear hb c0 c1 c2 c3;obtain ⟨c0,c1,c2,c3⟩:=HBB.out _ hb0;(go_wp2_with fail);refine (KV.out rfl _ hb0).mono ?_;rintro e w7 ⟨rfl,hb⟩;replace hb0:=tb_ hb0 hb;clear hb c0 c1 c2 c3;obtain ⟨c0,c1,c2,c3⟩:=HBB.out _ hb0;(go_wp2_with fail);go_roundw
        case rel=>exact ⟨q+1,by omega,by go_num,hb0⟩
        case measure=>simp[intOf];omega
      ·skip;(go_wp2_with fail);have hRg:∀ d os,Below wI.heap.size wI (Sort.grow (redrawn wq d) os):=fun d os=>hb0.trans ((below_regrown wq d os).mono hb0.size)
       have g0:=cell_regrown c0;have g1:=cell_regrown c1;have g2:=cell_regrown c2;have g3:=cell_regrown c3;clear c0 c1 c2 c3;refine wp_region_quiet_below (by kernel_rfl) (by kernel_rfl) ?_;repeat (first|go_big_quiet_step ((first|(go_at_call 26;with_reducible exact Calls.regrown_of (KRF.out _ (hRg _ _)))|(go_at_call 25;with_reducible exact Calls.regrown_of (KW.out _ (hRg _ _))))))
       refine wpQuiet_nil ?_;intro w5 hw';have hb:=qs_ w5 hw';replace hb0:=tb_ hb0 hb;clear hw' hb hRg g0 g1 g2 g3;obtain ⟨c0,c1,c2,c3⟩:=HBB.out _ hb0;(go_wp2_with fail);refine (KF.out _ hb0).mono ?_;rintro e w6 ⟨rfl,hb⟩;replace hb0:=tb_ hb0 hb;clear hb c0 c1 c2 c3;obtain ⟨c0,c1,c2,c3⟩:=HBB.out _ hb0;(go_wp2_with fail);go_roundw
       case rel=>exact ⟨q+1,by omega,by go_num,hb0⟩
       case measure=>simp[intOf];omega
     ·have hqe:q=m:=(by omega);subst hqe;obtain ⟨best,lead,hbest,hlead,t1,t2,t3,t4⟩:=tops HM.out.1 (by rw[Hm.out];exact HG1.out);have KB:=h_ fun w' (hb:Below wI.heap.size wI w')=>((HCX.out.below hb).rd HM.out.1 (by rw[Hm.out];omega)).best HM.out.1 (qlt_ HM.out.1 HG1.out)
      have KL:=h_ fun w' (hb:Below wI.heap.size wI w')=>((HCX.out.below hb).rd HM.out.1 (by rw[Hm.out];omega)).lead HM.out.1 (qxe_ HM.out.1 HG1.out)
      have KF1:=h_ fun w' (hb:Below wI.heap.size wI w')=>((HCX.out.below hb).rd HM.out.1 (by rw[Hm.out];omega)).failed best
      have KF2:=h_ fun w' (hb:Below wI.heap.size wI w')=>((HCX.out.below hb).rd HM.out.1 (by rw[Hm.out];omega)).failed lead
      rw[hbest] at KB;rw[hlead] at KL;rw[t2] at KF1;rw[t3] at KF2;clear t1 t2 t3 t4 hbest hlead;(go_wp2_with fail);have hRg:∀ d os,Below wI.heap.size wI (Sort.grow (redrawn wq d) os):=fun d os=>hb0.trans ((below_regrown wq d os).mono hb0.size)
      have g0:=cell_regrown c0;have g1:=cell_regrown c1;have g2:=cell_regrown c2;have g3:=cell_regrown c3;clear c0 c1 c2 c3;refine wp_region_quiet_below (by kernel_rfl) (by kernel_rfl) ?_;repeat (first|go_big_quiet_step ((first|(go_at_call 21;with_reducible exact Calls.regrown_of (KB.out _ (hRg _ _)))|(go_at_call 22;with_reducible exact Calls.regrown_of (KL.out _ (hRg _ _)))|(go_at_call 18;with_reducible exact Calls.regrown_of (KF1.out _ (hRg _ _)))|(go_at_call 18;with_reducible exact Calls.regrown_of (KF2.out _ (hRg _ _))))))
      refine wpQuiet_nil ?_;intro w8 hw';have hb:=qs_ w8 hw';replace hb0:=tb_ hb0 hb;clear hw' hb hRg g0 g1 g2 g3;obtain ⟨c0,c1,c2,c3⟩:=HBB.out _ hb0;have hBz:=tb_ hB hb0;(go_wp2_with fail);go_ret;exact ⟨rfl,hBz⟩
   ·have hd:=qabw_ (S:=S) hch;generalize (inval M.length S N).1=z at *;(go_wp2_with fail);refine KI.out.mono ?_;rintro e wI ⟨rfl,hC⟩;have hB:=tb_ HBS.out hC.bel;clear KI;(go_wp2_with fail);go_ret;exact ⟨rfl,hB⟩
theorem qsa_ (p:NN.Pr) (hp:p.ok) (h1:p.one) (t:Tl) (tt:p.tl=t.C) (ht:t.ok) (gs:List Gt) (cs:List Ck) (hgn:t.gn=gs.length) (hcn:t.cn=cs.length) (a:Option Addr) (ls:List Ac) (n c:Nat) (hn:n=ls.length) (hl:n<=4611686018427387904) (hnow:∀ x ∈ ls,-9223372036854775808<=x.now/\x.now<=9223372036854775807) (N:Int) (w:World) (hT:Tab w) (hA:ActsAt w a ls) (hG:GatesAt w t.ga gs) (hC:ChecksAt w t.ca cs) :
  Ca_ 6 #[.agg (NN.prA p),.slice a n c,.int .i64 N] w (.bool true):=by
 have KA:HK_ w 9 #[] (.bool true):=h_ fun w' hb=>alive16 w' (hT.below hb)
 have KG:∀ g,grt16 p t gs cs ls=g->HK_ w 10 #[.agg (NN.prA p),.slice a n c] (.bool g):=fun g hg=>h_ fun w' hb=>qnp_ p hp t tt ht gs cs hgn hcn ls n a c hn hl g hg w' (hA.below hb) (hG.below hb) (hC.below hb)
 cases hg:grt16 p t gs cs ls
 ·have KG1:=KG false hg;unfold grt16 grtA at hg;simp only[Bool.or_eq_false_iff,decide_eq_false_iff_not,Bool.not_eq_false'] at hg;obtain ⟨⟨⟨⟨hg0,hg1⟩,hg2⟩,hg3⟩,hr⟩:=hg
  have hiv:2<=p.ivl:=by
   unfold ruleP NN.Pr.good at hr;simp only[Bool.and_eq_true,decide_eq_true_eq] at hr;exact hr.1.1.1.1.1.1.1.1.2
  have HA:=h_ fun w' (hb:Below w.heap.size w w')=>hA.below hb
  have HT:=h_ fun w' (hb:Below w.heap.size w w')=>hT.below hb
  have HGG:Hid (gs.length<=1000/\cs.length<=1000/\2<=p.ivl):=h_ ⟨by omega,by omega,hiv⟩;have KS:=h_ fun w' (hb:Below w.heap.size w w')=>qnu_ p hp h1 t tt ht gs cs hgn hcn (by omega) (by omega) hr w' (hT.below hb) (hG.below hb) (hC.below hb)
  exact qrz_ p hp ⟨p,t.g,gs,cs,100⟩ a n c N w ls HA (h_ hn) (by omega) HT HGG (h_ hnow) KA KG1 KS
 have KG1:=KG true hg;exact qnx_ p hp a n c N w KA KG1
theorem RfS.ups16 {w:World} {B bm q:Nat} {F:Nat->Prop} {r:Ru} {M:List Ent} {e:Ent} (h:RfS w B F bm r M) (hq:M[q]?=some e):∃ g n c,q<n/\w.cell? ⟨bm,85,none⟩=some (.slice (some ⟨g,0,none⟩) n c)/\w.cell? ⟨g,q,none⟩=some (.int .i64 e.up):=by
 obtain ⟨_,_,_,p,t,vH,vI,vA,vW,ws,h3,_⟩:=h;obtain ⟨g2,c2,e2,r2⟩:=qeu_ h3.rowA (x:=e.up) (by rw[List.getElem?_map,hq];rfl);have c:=rf85 h3.has h3.pok;rw[e2] at c;have hl:=(List.getElem?_eq_some_iff.1 hq).1;exact ⟨g2,_,c2,by simpa using hl,c,r2⟩
theorem Core.ups {w0 w:World} {r:Ru} {bb bt mb mg bm rb q:Nat} {x:Option (Nat × Ac)} {Mt Mr:List Ent} {Sp Sr:Mk.St} {e:Ent} (h:Core w0 w r bb bt mb mg bm rb x Mt Mr Sp Sr) (hq:Mr[q]?=some e):∃ g n c,q<n/\∀ w',Below w.heap.size w w'->w'.cell? ⟨bm,85,none⟩=some (.slice (some ⟨g,0,none⟩) n c)/\w'.cell? ⟨g,q,none⟩=some (.int .i64 e.up):=by
 obtain ⟨Fm,hF⟩:=h.rf;obtain ⟨g,n,c,h0,h1,h2⟩:=hF.ups16 hq;exact ⟨g,n,c,h0,fun w' hb=>⟨(hb.cell (p:=⟨bm,85,none⟩) (block_lt_of_cell h1)).trans h1,(hb.cell (p:=⟨g,q,none⟩) (block_lt_of_cell h2)).trans h2⟩⟩
theorem qsb_ {n:Nat} {S:Mk.St} {x:Int} {b:Bool} (h:¬(verdict n S x b).1=0):((verdict n S x b).1 != 0)=true:=by simpa using h
theorem qny_ {M:List Ent} {S:Mk.St} {x:Int} {b:Bool} (h:(verdict M.length S x b).1=0):Mk.sd M (verdict M.length S x b).2 x=(word b,(Mk.sd M (verdict M.length S x b).2 x).2):=by
 have h1:=(Mk.qfo_ x b h).1
 have hc:chg M.length x=0:=by
  by_cases hc:chg M.length x=0;exact hc;unfold Mk.verdict at h;rw[if_pos hc] at h;exact absurd h hc
 obtain ⟨a1,a2,a3⟩:=Mk.qel_ hc;have hp:isP M x:=by rw[a3];exact Mk.qeg_.2 a2
 rw[Mk.qjp_ hp,h1]
def McC (w0:World) (r:Ru) (bb bt mb mg bm rb:Nat) (M:List Ent) (S S1:Mk.St) (_b1 _b2:Bool) (w:World):Prop:=Core w0 w r bb bt mb mg bm rb none M M S1 S
def McR (bb mb:Nat) (N:Int) (right:Bool):Nat->Value->Prop
 | 0,v=>v = .pointer (some ⟨bb,0,none⟩)
 | 1,v=>v = .pointer (some ⟨bb,0,none⟩)
 | 2,v=>v = .pointer (some ⟨bb,1,none⟩)
 | 3,v=>v = .pointer (some ⟨mb,0,none⟩)
 | 4,v=>v = .int .i64 N
 | 5,v=>v = .bool right
 | 6,v=>v = .int .i64 0
 | 7,v=>v = .pointer (some ⟨bb,0,none⟩)
 | 8,v=>v = .pointer (some ⟨bb,0,none⟩)
 | 9,v=>v = .pointer (some ⟨bb,1,none⟩)
 | 10,v=>v = .pointer (some ⟨mb,0,none⟩)
 | 11,v=>v = .int .i64 N
 | 12,v=>v = .bool right
 | 13,v=>v = .bool (!right)
 | 14,v=>v = .int .i64 1
 | 15,v=>v = .int .i64 0
 | 16,v=>v = .int .i64 1
 | _,_=>True
theorem qnz_ (p:NN.Pr) (hp:p.ok) (a:Option Addr) (n c:Nat) (N:Int) (right:Bool) (w:World) (KA:HK_ w 9 #[] (.bool true)) (KG:HK_ w 10 #[.agg (NN.prA p),.slice a n c] (.bool true)) :
  Ca_ 7 #[.agg (NN.prA p),.slice a n c,.int .i64 N,.bool right] w (.bool true):=by
 have hz:=NN.qao_ hp;go_enter Tryz.func7,Tryz.ntmps7;go_upto_region 1 with fail
 generalize hw0:World.alloc _ _=v0;have hB:Below w.heap.size w v0:=bl_ hw0;have hP:NN.PrAt v0 w.heap.size p:=by rw[<-hw0];exact NN.Has.new _ _
 clear hw0;obtain ⟨bP,hbP⟩:∃ x,x=w.heap.size:=⟨_,rfl⟩;rw[<-hbP] at hP |-;have HBP:Hid (bP=w.heap.size):=h_ hbP;clear hbP;go_wp2_with (first|fail)
 refine (KA.out _ hB).mono ?_;rintro e v1 ⟨rfl,hb⟩;replace hP:=hP.on hb;replace hB:=tb_ hB hb;clear hb;go_wp2_with (with_reducible first|refine NN.qq_ rfl _ rfl _ rfl hP hz ?_|refine NN.qm_ (by with_unfolding_all rfl) _ rfl _ rfl hP hz ?_)
 refine (KG.out _ hB).mono ?_;rintro e v2 ⟨rfl,hb⟩;replace hP:=hP.on hb;replace hB:=tb_ hB hb;clear hb;go_wp2_with fail
 go_ret;exact ⟨rfl,hB⟩
theorem qsc_ (p:NN.Pr) (hp:p.ok) (r:Ru) (a:Option Addr) (n c:Nat) (N:Int) (right:Bool) (w:World) (ls:List Ac) (HA:Hid (∀w',Below w.heap.size w w'->ActsAt w' a ls)) (HN:Hid (n=ls.length)) (hn40:n<=40) (HT:Hid (∀w',Below w.heap.size w w'->Tab w')) (HG:Hid (r.gs.length<=1000/\r.cs.length<=1000/\2<=r.p.ivl)) (HNW:Hid (∀x ∈ ls,-9223372036854775808<=x.now/\x.now<=9223372036854775807)) (KA:HK_ w 9 #[] (.bool true)) (KG:HK_ w 10 #[.agg (NN.prA p),.slice a n c] (.bool false)) (KS:Hid (∀w',Below w.heap.size w w'->Calls Tryz.prog 11 #[.agg (NN.prA p)] w' fun e w''=>∃ bb bt mb mg bm rb,e = .returned (.pointer (some ⟨bb,0,none⟩))/\Core w' w'' r bb bt mb mg bm rb none [entZ] [entZ] Mk.st0 Mk.st0)) :
  Ca_ 7 #[.agg (NN.prA p),.slice a n c,.int .i64 N,.bool right] w (.bool true):=by
 have hz:=NN.qao_ hp;go_enter Tryz.func7,Tryz.ntmps7;go_upto_region 1 with fail
 generalize hw0:World.alloc _ _=v0;have hB:Below w.heap.size w v0:=bl_ hw0;have hP:NN.PrAt v0 w.heap.size p:=by rw[<-hw0];exact NN.Has.new _ _
 clear hw0;obtain ⟨bP,hbP⟩:∃ x,x=w.heap.size:=⟨_,rfl⟩;rw[<-hbP] at hP |-;have HBP:Hid (bP=w.heap.size):=h_ hbP;clear hbP;go_wp2_with (first|fail)
 refine (KA.out _ hB).mono ?_;rintro e v1 ⟨rfl,hb⟩;replace hP:=hP.on hb;replace hB:=tb_ hB hb;clear hb;go_wp2_with (with_reducible first|refine NN.qq_ rfl _ rfl _ rfl hP hz ?_|refine NN.qm_ (by with_unfolding_all rfl) _ rfl _ rfl hP hz ?_)
 refine (KG.out _ hB).mono ?_;rintro e v2 ⟨rfl,hb⟩;replace hP:=hP.on hb;replace hB:=tb_ hB hb;clear hb;go_wp2_with (first|fail|(with_reducible refine NN.qq_ rfl _ rfl _ rfl hP hz ?_))
 refine (KS.out _ hB).mono ?_;rintro e v3 ⟨bb,bt,mb,mg,bm,rb,rfl,hC⟩;have HBS:=h_ hB;have HTS:Hid (∀w',Below v2.heap.size v2 w'->Tab w'):=h_ fun w' hb=>HT.out w' (tb_ hB hb)
 clear hB hP KA KG KS;go_wp2_with fail
 go_loopw [28] (fun u wr=>∃ (k:Nat) (M:List Ent) (S:Mk.St),k<=n/\u = .int .i64 (k:Int)/\Core v2 wr r bb bt mb mg bm rb none M M S S/\Hid (Ok r M/\M.length<=k+1/\Mk.Good M.length S)) (fun u _=>n - (intOf u).toNat)
 case atStart=>exact ⟨0,[entZ],Mk.st0,by omega,rfl,hC,h_ ⟨Ok.one r,Nat.le_refl _,Mk.Good.start 1 (by decide)⟩⟩
 case round=>
  clear hC;obtain ⟨k,M,S,hk,rfl,hC,HM⟩:=hrel;have hM9:M.length<=50:=by have:=HM.out.2.1;omega
  have hB:=tb_ HBS.out hC.bel;by_cases hlt:k<n
  ·obtain ⟨ab,ao,hae,habl,hc⟩:=(HA.out _ hB) (by rw[<-HN.out];omega);subst hae;have hk2:k<ls.length:=by rw[<-HN.out];exact hlt
   obtain ⟨q0,q1⟩:=hc k hk2;have HNy:=h_ (HNW.out _ (List.getElem_mem hk2));clear hc hB;generalize ls[k]=y at *;clear hk2;have z1:=qdv_ q0;have z2:=qbu_ q0;have z0:=qbu_ (c:=acZ) hdZ_ok;have hb2:Below wr.heap.size wr ((wr.alloc (.cells Tryz.zeroCells39 39)).setRow wr.heap.size (acA y)):=below_setRow ((Below.refl _ _).alloc (Nat.le_refl _) _) (Nat.le_refl _) _;have hnew:=qln_ wr;have hY:=qpy_ wr y;have KD:=h_ (qxh_ v2 _ r bb bt mb mg bm rb M S (hC.below hb2) (h_ ⟨HM.out.1,by omega⟩) HG HTS y q0 HNy);clear hC hb2;go_wp2_with (with_reducible first|refine qcu_ rfl _ rfl ab (ao+k*72) rfl y q1 z1 ?_|refine qhl_ rfl _ _ rfl _ _ y rfl rfl rfl z2 hnew z0 ?_|refine qxi_ rfl _ rfl _ rfl y hY z2 ?_)
   refine KD.out.mono ?_;rintro e v6 ⟨rfl,hC⟩;obtain ⟨g1,g2,g3⟩:=qnw_ HM.out.1 HM.out.2.2 y q0;have HM7:Hid (Ok r (actM r M y)/\(actM r M y).length<=k+1+1/\Mk.Good (actM r M y).length (actS M S y)):=h_ ⟨g1,by have:=HM.out.2.1;omega,g3⟩;clear KD hY hnew z0 z1 z2 q1 HM g1 g2 g3;generalize World.setRow _ _ _=v5 at *;generalize actM r M y=M' at *;generalize actS M S y=S' at *;go_wp2_with fail
   go_roundw
   case rel=>exact ⟨k+1,M',S',by omega,by go_num,hC,HM7⟩
   case measure=>simp[intOf];omega
  ·obtain rfl:k=n:=by omega
   clear HA HT HTS HNW HG;have HBB:=h_ fun w' (hb:Below wr.heap.size wr w')=>And.intro (hC.below hb).b0 (And.intro (hC.below hb).b1 (And.intro (hC.below hb).b2 (hC.below hb).b3))
   have hb0:=Below.refl wr.heap.size wr;obtain ⟨c0,c1,c2,c3⟩:=HBB.out _ hb0;obtain ⟨aL,cL,hL⟩:=hC.list;have hm0:0<M.length:=HM.out.1.pos;have HL:=h_ hL;have HCX:=h_ hC;have KI:=h_ fun w' (hb:Below wr.heap.size wr w')=>qck_ (hC.below hb) (by omega) N right
   have KR:=h_ fun (q:Nat) (hq:q<M.length)=>(by
    obtain ⟨e,he⟩:∃ e,M[q]?=some e:=⟨_,List.getElem?_eq_getElem hq⟩;obtain ⟨g,n,c,h0,h1⟩:=hC.ups he;exact ⟨g,n,c,e.up,failB M S e.up,h0,h1,fun w' hb=>(by have:=((hC.below hb).rd HM.out.1 (by omega)).child (q:Int);rw[Mk.qpw_ HM.out.1 he] at this;exact this),fun w' hb=>((hC.below hb).rd HM.out.1 (by omega)).failed e.up⟩:∃ (g n c:Nat) (u:Int) (fb:Bool),q<n/\(∀w',Below wr.heap.size wr w'->w'.cell? ⟨bm,85,none⟩=some (.slice (some ⟨g,0,none⟩) n c)/\w'.cell? ⟨g,q,none⟩=some (.int .i64 u))/\(∀w',Below wr.heap.size wr w'->Calls Tryz.prog 19 #[.pointer (some ⟨mb,0,none⟩),.int .i64 (q:Int)] w' fun e w''=>e = .returned (.bool fb)/\Below w'.heap.size w' w'')/\∀ w',Below wr.heap.size wr w'->Calls Tryz.prog 18 #[.pointer (some ⟨mb,0,none⟩),.int .i64 u] w' fun e w''=>e = .returned (.bool fb)/\Below w'.heap.size w' w'')
   generalize hm:M.length=m at *;have Hm:=h_ hm;clear hC hL hm;go_wp2_with fail
   go_loopw [12] (fun u wq=>∃ q:Nat,1<=q/\q<=m/\u = .int .i64 (q:Int)/\Below wr.heap.size wr wq) (fun u _=>m - (intOf u).toNat)
   case atStart=>exact ⟨1,by omega,by omega,rfl,hb0⟩
   case round=>
    clear hb0 c0 c1 c2 c3;obtain ⟨q,hq1,hq,rfl,hb0⟩:=hrel;obtain ⟨c0,c1,c2,c3⟩:=HBB.out _ hb0;have c83:=HL.out _ hb0;rename World=>wq
    by_cases hqm:q<m
    ·obtain ⟨g,n9,c9,u9,fb,h0,h1,h2,h3⟩:=KR.out q hqm;obtain ⟨h4,h5⟩:=h1 _ hb0;have KC:=h_ h2;have KF:=h_ h3;have t5:(fb != fb)=false:=(by simp);clear h1 h2 h3;(go_wp2_with fail);have g4:=cell_regrown h4;have g5:=cell_regrown h5;clear h4 h5 c83;have hRg:∀ d os,Below wr.heap.size wr (Sort.grow (redrawn wq d) os):=fun d os=>hb0.trans ((below_regrown wq d os).mono hb0.size)
     have g0:=cell_regrown c0;have g1:=cell_regrown c1;have g2:=cell_regrown c2;have g3:=cell_regrown c3;clear c0 c1 c2 c3;refine wp_region_quiet_below (by kernel_rfl) (by kernel_rfl) ?_;repeat (first|go_big_quiet_step ((first|(go_at_call 19;with_reducible exact Calls.regrown_of (KC.out _ (hRg _ _)))|(go_at_call 18;with_reducible exact Calls.regrown_of (KF.out _ (hRg _ _))))))
     refine wpQuiet_nil ?_;intro w5 hw';have hb:=qs_ w5 hw';replace hb0:=tb_ hb0 hb;clear hw' hb hRg g0 g1 g2 g3;obtain ⟨c0,c1,c2,c3⟩:=HBB.out _ hb0;clear g4 g5;(go_wp2_with fail);go_roundw
     case rel=>exact ⟨q+1,by omega,by omega,by go_num,hb0⟩
     case measure=>simp[intOf];omega
    ·have hqe:q=m:=(by omega);subst hqe;have KI:=h_ (KI.out _ hb0);by_cases hch:(verdict q S N right).1=0
     ·have hcm:(verdict M.length S N right).1=0:=(by rw[Hm.out];exact hch);obtain ⟨v1',v2',v3'⟩:=Mk.qfo_ N right hch;have hsd:=qny_ hcm;rw[Hm.out] at hsd;rw[hch] at KI;generalize (verdict q S N right).2=S1 at *
      have KV2:Hid (∀w',McC v2 r bb bt mb mg bm rb M S S1 false false w'->Calls Tryz.prog 15 #[.pointer (some ⟨mb,0,none⟩),.int .i64 N,.bool right] w' fun e w''=>e = .returned (.int .i64 0)/\McC v2 r bb bt mb mg bm rb M S S1 false false w''):=h_ fun w' hc=>by
       have:=qck_ hc (by rw[Hm.out];omega) N right;rw[Hm.out,v2'] at this;exact this
      have KV3:Hid (∀w',McC v2 r bb bt mb mg bm rb M S S1 false false w'->Calls Tryz.prog 15 #[.pointer (some ⟨mb,0,none⟩),.int .i64 N,.bool (!right)] w' fun e w''=>e = .returned (.int .i64 1)/\McC v2 r bb bt mb mg bm rb M S S1 false false w''):=h_ fun w' hc=>by
       have:=qck_ hc (by rw[Hm.out];omega) N (!right);rw[Hm.out,v3'] at this;exact this
      have KSd:=h_ fun w' (hc:McC v2 r bb bt mb mg bm rb M S S1 false false w')=>(by
       have:=(Core.rd hc HM.out.1 (by rw[Hm.out];omega)).said w' N (Below.refl _ _);rw[hsd] at this;exact this:Calls Tryz.prog 13 #[.pointer (some ⟨mb,0,none⟩),.int .i64 N] w' fun e w''=>e = .returned (.tuple #[.int .i64 (word right),.bool (Mk.sd M S1 N).2])/\Below w'.heap.size w' w'')
      generalize (Mk.sd M S1 N).2=so at *;clear hch hcm v1' v2' v3' hsd;(go_wp2_with fail);refine KI.out.mono ?_;rintro e wI ⟨rfl,hC⟩;have hC0:McC v2 r bb bt mb mg bm rb M S S1 false false wI:=hC;have c1:=hC.b1;have KSA:=KSd.out _ hC0;have HC0:=h_ hC0;clear KI hC c0 c2 c3 hC0;(go_wp2_with fail);refine KSA.mono ?_;rintro e w6 ⟨rfl,hb⟩;have hC0:McC v2 r bb bt mb mg bm rb M S S1 false false w6.drew:=Core.below HC0.out (hb.trans (((Below.refl _ _).drew).mono hb.size));clear hb KSA HC0 c1;(go_wp2_with fail);refine qe_ (by kernel_rfl) (fun _=>True) (fun i v' _=>McR bb mb N right i v') (fun l _ w'=>McC v2 r bb bt mb mg bm rb M S S1 (l.getD 6 false) (l.getD 14 false) w') (fun _ _=>True) (fun _ _=>trivial) (fun _ _ _ _ _ _ h=>h) (by kernel_rfl) trivial (fun _ _=>hC0) ?_ ?_
      ·intro i o lz a wx ho' hnl dq Z;have hI:=Z.i;have hi:i<17:=(Array.getElem?_eq_some_iff.1 ho').1;obtain rfl|rfl|rfl|rfl|rfl|rfl|rfl|rfl|rfl|rfl|rfl|rfl|rfl|rfl|rfl|rfl|rfl:i=0\/i=1\/i=2\/i=3\/i=4\/i=5\/i=6\/i=7\/i=8\/i=9\/i=10\/i=11\/i=12\/i=13\/i=14\/i=15\/i=16:=(by omega);all_goals obtain rfl:=Option.some.inj ho'
       exact dd_val hI (hz_ Z 0) (NN.qk_ rfl) (Z.old' 9);exact dd_val hI (hz_ Z 1) (ex_nil rfl (gd_ Z dq 0 87)) rfl;exact dd_val hI (hz_ Z 2) (ql_ rfl (gd_ Z dq 1 88) (bfield1 _ _)) rfl;exact dd_val hI (hz_ Z 3) (qp_ rfl (gd_ Z dq 2 89) (qdw_ (Core.b1 hI))) rfl;exact dd_val hI (hz_ Z 4) (NN.qk_ rfl) (Z.old' 2);exact dd_val hI (hz_ Z 5) (NN.qk_ rfl) (Z.old' 3)
       ·refine qeh_ (f:=15) (args:=#[a.eval (.tmp 90),a.eval (.tmp 91),a.eval (.tmp 92)]) (by kernel_rfl) ?_;rw[show a.eval (.tmp 90)=_ from (gd_ Z dq 3 90),show a.eval (.tmp 91)=_ from (gd_ Z dq 4 91),show a.eval (.tmp 92)=_ from (gd_ Z dq 5 92)];refine (KV2.out _ hI).mono ?_;rintro e w' ⟨rfl,hc⟩;exact ⟨_,rfl,rfl,hc⟩
       exact dd_val hI (hz_ Z 7) (NN.qk_ rfl) (Z.old' 9);exact dd_val hI (hz_ Z 8) (ex_nil rfl (gd_ Z dq 7 94)) rfl;exact dd_val hI (hz_ Z 9) (ql_ rfl (gd_ Z dq 8 95) (bfield1 _ _)) rfl;exact dd_val hI (hz_ Z 10) (qp_ rfl (gd_ Z dq 9 96) (qdw_ (Core.b1 hI))) rfl;exact dd_val hI (hz_ Z 11) (NN.qk_ rfl) (Z.old' 2);exact dd_val hI (hz_ Z 12) (NN.qk_ rfl) (Z.old' 3);exact dd_val hI (hz_ Z 13) (ex_nots rfl (gd_ Z dq 12 99)) rfl
       ·refine qeh_ (f:=15) (args:=#[a.eval (.tmp 97),a.eval (.tmp 98),a.eval (.tmp 100)]) (by kernel_rfl) ?_;rw[show a.eval (.tmp 97)=_ from (gd_ Z dq 10 97),show a.eval (.tmp 98)=_ from (gd_ Z dq 11 98),show a.eval (.tmp 100)=_ from (gd_ Z dq 13 100)];refine (KV3.out _ hI).mono ?_;rintro e w' ⟨rfl,hc⟩;exact ⟨_,rfl,rfl,hc⟩
       exact dd_val hI (hz_ Z 15) (NN.qaa_ rfl) (gd_ Z dq 6 93);exact dd_val hI (hz_ Z 16) (NN.qaa_ rfl) (gd_ Z dq 14 101)
      ·intro lz a' w7 hall Z;have hC9:=Z.i;have f2:a'.eval (.tmp 2) = .int .i64 N:=Z.old' 2;have f3:a'.eval (.tmp 3) = .bool right:=Z.old' 3;have f9:a'.eval (.tmp 9) = .pointer (some ⟨bb,0,none⟩):=Z.old' 9;have f13:a'.eval (.tmp 13) = .int .i64 (word right):=Z.old' 13;have f15:a'.eval (.tmp 15) = .int .i64 0:=Z.got 15 _ 15 rfl (hall 15 (by decide)) rfl;have f16:a'.eval (.tmp 16) = .int .i64 1:=Z.got 16 _ 16 rfl (hall 16 (by decide)) rfl;obtain ⟨u,hu⟩:∃ u:Nat->Value,∀ t,u t=a'.eval (.tmp t):=⟨_,fun _=>rfl⟩;rw[qah_ a' 128 u Z.tsize Z.defers hu];rw[<-hu] at f2 f3 f9 f13 f15 f16;clear hu Z hall;simp only[List.range,List.range.loop,List.map_cons,List.map_nil];rw[f2,f3,f9,f13,f15,f16];clear f2 f3 f9 f13 f15 f16;have c1:=Core.b1 hC9;have KSA:=KSd.out _ hC9;have HC9:=h_ hC9;clear hC9;(go_wp2_with fail);refine KSA.mono ?_;rintro e w8 ⟨rfl,hb⟩;have hC:=HC9.out.below hb;have hB:=tb_ HBS.out hC.bel;clear hb KSA HC9 c1 hC KV2 KV3 KSd;have hw:((word right:Int)==(word right:Int))=true:=(by simp);cases right
       all_goals
        (go_wp2_with fail);go_ret;exact ⟨rfl,hB⟩
     ·have hd:=qsb_ hch;generalize (verdict q S N right).1=z at *;(go_wp2_with fail);refine KI.out.mono ?_;rintro e wI ⟨rfl,hC⟩;have hB:=tb_ HBS.out hC.bel;clear KI;(go_wp2_with fail);go_ret;exact ⟨rfl,hB⟩
theorem qsd_ (p:NN.Pr) (hp:p.ok) (h1:p.one) (t:Tl) (tt:p.tl=t.C) (ht:t.ok) (gs:List Gt) (cs:List Ck) (hgn:t.gn=gs.length) (hcn:t.cn=cs.length) (a:Option Addr) (ls:List Ac) (n c:Nat) (hn:n=ls.length) (hl:n<=4611686018427387904) (hnow:∀ x ∈ ls,-9223372036854775808<=x.now/\x.now<=9223372036854775807) (N:Int) (right:Bool) (w:World) (hT:Tab w) (hA:ActsAt w a ls) (hG:GatesAt w t.ga gs) (hC:ChecksAt w t.ca cs) :
  Ca_ 7 #[.agg (NN.prA p),.slice a n c,.int .i64 N,.bool right] w (.bool true):=by
 have KA:HK_ w 9 #[] (.bool true):=h_ fun w' hb=>alive16 w' (hT.below hb)
 have KG:∀ g,grt16 p t gs cs ls=g->HK_ w 10 #[.agg (NN.prA p),.slice a n c] (.bool g):=fun g hg=>h_ fun w' hb=>qnp_ p hp t tt ht gs cs hgn hcn ls n a c hn hl g hg w' (hA.below hb) (hG.below hb) (hC.below hb)
 cases hg:grt16 p t gs cs ls
 ·have KG1:=KG false hg;unfold grt16 grtA at hg;simp only[Bool.or_eq_false_iff,decide_eq_false_iff_not,Bool.not_eq_false'] at hg;obtain ⟨⟨⟨⟨hg0,hg1⟩,hg2⟩,hg3⟩,hr⟩:=hg
  have hiv:2<=p.ivl:=by
   unfold ruleP NN.Pr.good at hr;simp only[Bool.and_eq_true,decide_eq_true_eq] at hr;exact hr.1.1.1.1.1.1.1.1.2
  have HA:=h_ fun w' (hb:Below w.heap.size w w')=>hA.below hb
  have HT:=h_ fun w' (hb:Below w.heap.size w w')=>hT.below hb
  have HGG:Hid (gs.length<=1000/\cs.length<=1000/\2<=p.ivl):=h_ ⟨by omega,by omega,hiv⟩;have KS:=h_ fun w' (hb:Below w.heap.size w w')=>qnu_ p hp h1 t tt ht gs cs hgn hcn (by omega) (by omega) hr w' (hT.below hb) (hG.below hb) (hC.below hb)
  exact qsc_ p hp ⟨p,t.g,gs,cs,100⟩ a n c N right w ls HA (h_ hn) (by omega) HT HGG (h_ hnow) KA KG1 KS
 have KG1:=KG true hg;exact qnz_ p hp a n c N right w KA KG1
end Go.Proofs.YtbhjpeadcimchaaGreatDoor.An
