import Derived.Test.YtbhjpeadcimchaaGreatDoorVBunQ43
set_option maxRecDepth 100000
set_option maxHeartbeats 8000000
namespace Go.Proofs.YtbhjpeadcimchaaGreatDoor.An
open Go.RowKit Mem Sc NN.Rg2
open Ar (Ent Ru entZ Ok isP Row Anc)
open Mk (failB childB validB pb verdict inval recon chg word itself)
theorem bfield0 (w:World) (g:Nat):(Instr.fieldAt 60 (.pointer (some ⟨g,0,none⟩)) 0).run Tryz.prog w = .ok (.pointer (some ⟨g,0,none⟩)) w:=by kernel_rfl
theorem bfield1 (w:World) (g:Nat):(Instr.fieldAt 60 (.pointer (some ⟨g,0,none⟩)) 1).run Tryz.prog w = .ok (.pointer (some ⟨g,1,none⟩)) w:=by kernel_rfl
theorem bfield2 (w:World) (g:Nat):(Instr.fieldAt 60 (.pointer (some ⟨g,0,none⟩)) 2).run Tryz.prog w = .ok (.pointer (some ⟨g,2,none⟩)) w:=by kernel_rfl
theorem bfield3 (w:World) (g:Nat):(Instr.fieldAt 60 (.pointer (some ⟨g,0,none⟩)) 3).run Tryz.prog w = .ok (.pointer (some ⟨g,3,none⟩)) w:=by kernel_rfl
theorem acfield1 (w:World) (g:Nat):(Instr.fieldAt 39 (.pointer (some ⟨g,0,none⟩)) 1).run Tryz.prog w = .ok (.pointer (some ⟨g,1,none⟩)) w:=by kernel_rfl
theorem acfield2 (w:World) (g:Nat):(Instr.fieldAt 39 (.pointer (some ⟨g,0,none⟩)) 2).run Tryz.prog w = .ok (.pointer (some ⟨g,69,none⟩)) w:=by kernel_rfl
theorem acfield3 (w:World) (g:Nat):(Instr.fieldAt 39 (.pointer (some ⟨g,0,none⟩)) 3).run Tryz.prog w = .ok (.pointer (some ⟨g,70,none⟩)) w:=by kernel_rfl
theorem acfield4 (w:World) (g:Nat):(Instr.fieldAt 39 (.pointer (some ⟨g,0,none⟩)) 4).run Tryz.prog w = .ok (.pointer (some ⟨g,71,none⟩)) w:=by kernel_rfl
theorem qqa_ {w:World} {p:Addr} {q:Option Addr} (h:w.cell? p=some (.pointer q)):(loadVar 56 p).run Tryz.prog w = .ok (.pointer q) w:=by
 go_simp
theorem qbv_ {w:World} {p:Addr} {q:Option Addr} (h:w.cell? p=some (.pointer q)):(loadVar 41 p).run Tryz.prog w = .ok (.pointer q) w:=by
 go_simp
theorem qjz_ {w:World} {p:Addr} {q:Option Addr} (h:w.cell? p=some (.pointer q)):(loadVar 57 p).run Tryz.prog w = .ok (.pointer q) w:=by
 go_simp
theorem qoa_ {w:World} {p:Addr} {q:Option Addr} (h:w.cell? p=some (.pointer q)):(loadVar 58 p).run Tryz.prog w = .ok (.pointer q) w:=by
 go_simp
theorem load_i {w:World} {p:Addr} {z:Int} (h:w.cell? p=some (.int .i64 z)):(loadVar 3 p).run Tryz.prog w = .ok (.int .i64 z) w:=by
 go_simp
theorem load_b {w:World} {p:Addr} {z:Bool} (h:w.cell? p=some (.bool z)):(loadVar 4 p).run Tryz.prog w = .ok (.bool z) w:=by
 go_simp
theorem qiv_ {ρ:Operand->Value} {o:Oper} {w:World} {x:Operand} {g off:Nat} {h:Hd} (ho:o.op = .load 30 x) (hx:ρ x = .pointer (some ⟨g,off,none⟩)) (hg:w.rangeAt g off (hdC h)) (hs:(hdC h).length=68):(execOp ρ o).run Tryz.prog w = .ok (.value (.agg (hdA h))) w :=
 ex_mid 30 ho hx Tryz.underlying30 rfl (hdinfo.trans (by rw[hs])) hg
theorem qka_ {ρ:Operand->Value} {o:Oper} {w:World} {x y:Operand} {z:Int} (ho:o.op = .binOp .eql 3 x y 3) (hx:ρ x = .int .i64 z) (hy:ρ y = .int .i64 z):(execOp ρ o).run Tryz.prog w = .ok (.value (.bool true)) w:=by
 unfold execOp;simp only[ho,hx,hy];go_simp
def DaR (bb bt bx:Nat) (y:Ac):Nat->Value->Prop
 | 0,v=>v = .pointer (some ⟨bb,0,none⟩)
 | 1,v=>v = .pointer (some ⟨bb,0,none⟩)
 | 2,v=>v = .pointer (some ⟨bb,0,none⟩)
 | 3,v=>v = .pointer (some ⟨bt,0,none⟩)
 | 4,v=>v = .pointer (some ⟨bx,1,none⟩)
 | 5,v=>v = .agg (hdA y.h)
 | 6,v=>v = .pointer (some ⟨bx,69,none⟩)
 | 7,v=>v = .int .i64 y.now
 | _,_=>True
def DbR (bb bm bx:Nat) (y:Ac):Nat->Value->Prop
 | 0,v=>v = .pointer (some ⟨bb,0,none⟩)
 | 1,v=>v = .pointer (some ⟨bb,0,none⟩)
 | 2,v=>v = .pointer (some ⟨bb,2,none⟩)
 | 3,v=>v = .pointer (some ⟨bm,0,none⟩)
 | 4,v=>v = .pointer (some ⟨bx,1,none⟩)
 | 5,v=>v = .agg (hdA y.h)
 | 6,v=>v = .pointer (some ⟨bx,69,none⟩)
 | 7,v=>v = .int .i64 y.now
 | _,_=>True
def DvR (bb mb bm rb bx:Nat) (y:Ac) (z:Int):Nat->Value->Prop
 | 0,v=>v = .pointer (some ⟨bb,0,none⟩)
 | 1,v=>v = .pointer (some ⟨bb,0,none⟩)
 | 2,v=>v = .pointer (some ⟨bb,1,none⟩)
 | 3,v=>v = .pointer (some ⟨mb,0,none⟩)
 | 4,v=>v = .pointer (some ⟨bx,70,none⟩)
 | 5,v=>v = .int .i64 y.n
 | 6,v=>v = .pointer (some ⟨bx,71,none⟩)
 | 7,v=>v = .bool y.rt
 | 8,v=>v = .int .i64 z
 | 9,v=>v = .pointer (some ⟨bb,0,none⟩)
 | 10,v=>v = .pointer (some ⟨bb,0,none⟩)
 | 11,v=>v = .pointer (some ⟨bb,3,none⟩)
 | 12,v=>v = .pointer (some ⟨rb,0,none⟩)
 | 13,v=>v = .pointer (some ⟨bb,0,none⟩)
 | 14,v=>v = .pointer (some ⟨bb,0,none⟩)
 | 15,v=>v = .pointer (some ⟨bb,2,none⟩)
 | 16,v=>v = .pointer (some ⟨bm,0,none⟩)
 | 17,v=>v = .pointer (some ⟨bx,70,none⟩)
 | 18,v=>v = .int .i64 y.n
 | 19,v=>v = .pointer (some ⟨bx,71,none⟩)
 | 20,v=>v = .bool y.rt
 | 21,v=>v = .int .i64 z
 | 22,v=>v = .bool true
 | 23,v=>v = .bool true
 | _,_=>True
def DwR (bb mb bm rb bx:Nat) (y:Ac) (z:Int):Nat->Value->Prop
 | 0,v=>v = .pointer (some ⟨bb,0,none⟩)
 | 1,v=>v = .pointer (some ⟨bb,0,none⟩)
 | 2,v=>v = .pointer (some ⟨bb,1,none⟩)
 | 3,v=>v = .pointer (some ⟨mb,0,none⟩)
 | 4,v=>v = .pointer (some ⟨bx,70,none⟩)
 | 5,v=>v = .int .i64 y.n
 | 6,v=>v = .int .i64 z
 | 7,v=>v = .pointer (some ⟨bb,0,none⟩)
 | 8,v=>v = .pointer (some ⟨bb,0,none⟩)
 | 9,v=>v = .pointer (some ⟨bb,3,none⟩)
 | 10,v=>v = .pointer (some ⟨rb,0,none⟩)
 | 11,v=>v = .pointer (some ⟨bb,0,none⟩)
 | 12,v=>v = .pointer (some ⟨bb,0,none⟩)
 | 13,v=>v = .pointer (some ⟨bb,2,none⟩)
 | 14,v=>v = .pointer (some ⟨bm,0,none⟩)
 | 15,v=>v = .pointer (some ⟨bx,70,none⟩)
 | 16,v=>v = .int .i64 y.n
 | 17,v=>v = .int .i64 z
 | 18,v=>v = .bool true
 | 19,v=>v = .bool true
 | _,_=>True
section
variable {P:Program} {ops:Array Oper} {o:Oper} {a:Act} {w:World} {Q:Exit->Act->World->Prop} {R:Nat->Value->Prop} {CB:Bool->Bool->World->Prop} {k1 k2 i:Nat} {l:Array Bool} {f:FuncId} {args:Array Value}
theorem qcl_ (h:(execOp a.eval o).run P w = .ok (.enter f args) w) (hc:Calls P f args w fun e w'=>∃ v,e = .returned v/\R i v/\CB ((l.setIfInBounds i true).getD k1 false) ((l.setIfInBounds i true).getD k2 false) w') (hn:Region.wanted o (yielded ops a.tmps)=true:=by exact qa_ rfl):if Region.wanted o (yielded ops a.tmps)=true then o.wp P a w (fun a' w'=>True/\True/\∃ v,a'=a.put o.dst v/\R i v/\CB ((l.setIfInBounds i true).getD k1 false) ((l.setIfInBounds i true).getD k2 false) w') Q else R i undef/\CB ((l.setIfInBounds i true).getD k1 false) ((l.setIfInBounds i true).getD k2 false) w :=
 qfv_ (C:=fun _=>True) (S:=fun _ _=>True) (R:=fun v _=>R i v) (J:=fun _ w=>CB ((l.setIfInBounds i true).getD k1 false) ((l.setIfInBounds i true).getD k2 false) w) hn h (hc.mono fun _ _ ⟨v,a1,a2,a3⟩=>⟨v,a1,trivial,trivial,a2,a3⟩)
end
theorem belowDrew (w:World):Below w.heap.size w w.drew:=(Below.refl _ _).drew
def DaC (w0:World) (r:Ru) (bb bt mb mg bm rb bx:Nat) (y:Ac) (M M' Mr:List Ent) (S:Mk.St) (b1 _b2:Bool) (w:World):Prop:=Core w0 w r bb bt mb mg bm rb (some (bx,y)) (if b1 then M' else M) Mr S S
def DbC (w0:World) (r:Ru) (bb bt mb mg bm rb bx:Nat) (y:Ac) (M M' Mt:List Ent) (S:Mk.St) (b1 _b2:Bool) (w:World):Prop:=Core w0 w r bb bt mb mg bm rb (some (bx,y)) Mt (if b1 then M' else M) S S
def DvC (w0:World) (r:Ru) (bb bt mb mg bm rb bx:Nat) (y:Ac) (M:List Ent) (S S':Mk.St) (b1 b2:Bool) (w:World):Prop:=Core w0 w r bb bt mb mg bm rb (some (bx,y)) M M (if b1 then S' else S) (if b2 then S' else S)
noncomputable def actS (M:List Ent) (S:Mk.St) (y:Ac):Mk.St:=if y.kind=1 then (verdict M.length S y.n y.rt).2 else if y.kind=2 then (inval M.length S y.n).2 else if y.kind=3 then (recon M S y.n).2 else S
def actM (r:Ru) (M:List Ent) (y:Ac):List Ent:=if y.kind=0 then (Ar.add r M y.h y.now).2 else M
theorem does0 (w0 w:World) (r:Ru) (bb bt mb mg bm rb:Nat) (M:List Ent) (S:Mk.St) (h:Core w0 w r bb bt mb mg bm rb none M M S S) (HM:Hid (Ok r M/\M.length<=100)) (HG:Hid (r.gs.length<=1000/\r.cs.length<=1000/\2<=r.p.ivl)) (HT:Hid (∀w',Below w0.heap.size w0 w'->Tab w')) (y:Ac) (q0:y.h.ok) (HNy:Hid (-9223372036854775808<=y.now/\y.now<=9223372036854775807)) (hk:y.kind=0) :
  Calls Tryz.prog 12 #[.pointer (some ⟨bb,0,none⟩),.agg (acA y)] w fun e w'=>e = .returned (.bool true)/\Core w0 w' r bb bt mb mg bm rb none (actM r M y) (actM r M y) (actS M S y) (actS M S y):=by
 have e1:actM r M y=(Ar.add r M y.h y.now).2:=by unfold actM;rw[if_pos hk]
 have e2:actS M S y=S:=by unfold actS;rw[hk];rfl
 rw[e1,e2];have HK:=h_ hk;clear e1 e2 hk;have hml:M.length<=100:=HM.out.2;have hzy:=qi_ q0;have hza:=qcz_ q0;have hb0:Below w.heap.size w (w.alloc (.cells (acA y) 39)):=(Below.refl _ _).alloc (Nat.le_refl _) _;obtain ⟨bx,hbx⟩:∃ bx,bx=w.heap.size:=⟨_,rfl⟩;have hY:AcAt (w.alloc (.cells (acA y) 39)) bx y:=by rw[hbx];exact Has.new _ _
 have hC:=h.box hb0 hbx hY;have HBX:=h_ hbx;clear h hb0 hY hbx;go_enter Tryz.func12,Tryz.ntmps12;go_upto_region 1 with fail
 rw[<-HBX.out];generalize World.alloc _ _=v1 at *;have c0:=hC.act.kind;rw[HK.out] at c0;go_wp2_with fail
 have hC:DaC w0 r bb bt mb mg bm rb bx y M (Ar.add r M y.h y.now).2 M S false false v1.drew:=hC.below (belowDrew v1);refine qf_ (by kernel_rfl) (fun _=>True) (fun i v' _=>DaR bb bt bx y i v') (fun l _ w'=>(DaC w0 r bb bt mb mg bm rb bx y M (Ar.add r M y.h y.now).2 M S) (l.getD 8 false) (l.getD 99 false) w') (fun _ _=>True) (fun _ _=>trivial) (fun _ _ _ _ _ _ h=>h) (by kernel_rfl) trivial ?_ ?_ ?_;intro l hl;rw[hl,hl];exact hC
 ·intro i o lz a wx ho' hnl dq Z;have hI:=Z.i;have hi:i<9:=(Array.getElem?_eq_some_iff.1 ho').1;have hK:=hI;unfold DaC at hK;obtain rfl|rfl|rfl|rfl|rfl|rfl|rfl|rfl|rfl:i=0\/i=1\/i=2\/i=3\/i=4\/i=5\/i=6\/i=7\/i=8:=by omega
  all_goals obtain rfl:=Option.some.inj ho'
  exact dd_val hI (hz_ Z 0) (NN.qk_ rfl) ((Z.old' 0));exact dd_val hI (hz_ Z 1) (ex_nil rfl (gd_ Z dq 0 9)) (rfl);exact dd_val hI (hz_ Z 2) (ql_ rfl (gd_ Z dq 1 10) (bfield0 _ _)) (rfl);exact dd_val hI (hz_ Z 3) (qn_ rfl (gd_ Z dq 2 11) (qqa_ hK.b0)) (rfl);exact dd_val hI (hz_ Z 4) (ql_ rfl (Z.old' 3) (acfield1 _ _)) (rfl);exact dd_val hI (hz_ Z 5) (qiv_ rfl (gd_ Z dq 4 13) hK.act.head hzy) (rfl);exact dd_val hI (hz_ Z 6) (ql_ rfl (Z.old' 3) (acfield2 _ _)) (rfl);exact dd_val hI (hz_ Z 7) (qn_ rfl (gd_ Z dq 6 15) (load_i (hK.act.now q0))) (rfl)
  ·have hsz:=hz_ Z 8;have hI0:=hK;rw[hnl,if_neg Bool.false_ne_true] at hI0;refine qcl_ (f:=32) (args:=#[a.eval (.tmp 12),a.eval (.tmp 14),a.eval (.tmp 16)]) (by kernel_rfl) ?_;rw[show a.eval (.tmp 12)=_ from (gd_ Z dq 3 12),show a.eval (.tmp 14)=_ from (gd_ Z dq 5 14),show a.eval (.tmp 16)=_ from (gd_ Z dq 7 16)];refine (qabn_ hI0 HM.out.1 (by omega) HG.out.1 HG.out.2.1 (HT.out _ hI0.bel) y.h q0 y.now).mono ?_;rintro e w' ⟨rfl,hc⟩;exact ⟨_,rfl,trivial,Jd.one hsz (hc)⟩
 ·intro lz a' v2 hall Z;have hI:=Z.i;have hk1:=hall 8 (by decide);have hk2:lz.getD 99 false=false:=by rw[Array.getD_eq_getD_getElem?,Array.getElem?_eq_none (by rw[Z.size];decide)];rfl
  rw[hk1,hk2] at hI;have f0:a'.eval (.tmp 0) = .pointer (some ⟨bb,0,none⟩):=Z.old' 0;have f3:a'.eval (.tmp 3) = .pointer (some ⟨bx,0,none⟩):=Z.old' 3;obtain ⟨u,hu⟩:∃ u:Nat->Value,∀ t,u t=a'.eval (.tmp t):=⟨_,fun _=>rfl⟩;rw[qah_ a' 94 u Z.tsize Z.defers hu];rw[<-hu] at f0 f3;clear hu Z hall hk1 hk2;simp only[List.range,List.range.loop,List.map_cons,List.map_nil];rw[f0,f3];clear f0 f3;have hC:DbC w0 r bb bt mb mg bm rb bx y M (Ar.add r M y.h y.now).2 (Ar.add r M y.h y.now).2 S false false v2.drew:=Core.below hI (belowDrew v2);clear hI;go_wp2_with fail
  refine qf_ (by kernel_rfl) (fun _=>True) (fun i v' _=>DbR bb bm bx y i v') (fun l _ w'=>(DbC w0 r bb bt mb mg bm rb bx y M (Ar.add r M y.h y.now).2 (Ar.add r M y.h y.now).2 S) (l.getD 8 false) (l.getD 99 false) w') (fun _ _=>True) (fun _ _=>trivial) (fun _ _ _ _ _ _ h=>h) (by kernel_rfl) trivial ?_ ?_ ?_;intro l hl;rw[hl,hl];exact hC
  ·intro i o lz a wx ho' hnl dq Z;have hI:=Z.i;have hi:i<9:=(Array.getElem?_eq_some_iff.1 ho').1;have hK:=hI;unfold DbC at hK;obtain rfl|rfl|rfl|rfl|rfl|rfl|rfl|rfl|rfl:i=0\/i=1\/i=2\/i=3\/i=4\/i=5\/i=6\/i=7\/i=8:=by omega
   all_goals obtain rfl:=Option.some.inj ho'
   exact dd_val hI (hz_ Z 0) (NN.qk_ rfl) ((Z.old' 0));exact dd_val hI (hz_ Z 1) (ex_nil rfl (gd_ Z dq 0 18)) (rfl);exact dd_val hI (hz_ Z 2) (ql_ rfl (gd_ Z dq 1 19) (bfield2 _ _)) (rfl);exact dd_val hI (hz_ Z 3) (qn_ rfl (gd_ Z dq 2 20) (qjz_ hK.b2)) (rfl);exact dd_val hI (hz_ Z 4) (ql_ rfl (Z.old' 3) (acfield1 _ _)) (rfl);exact dd_val hI (hz_ Z 5) (qiv_ rfl (gd_ Z dq 4 22) hK.act.head hzy) (rfl);exact dd_val hI (hz_ Z 6) (ql_ rfl (Z.old' 3) (acfield2 _ _)) (rfl);exact dd_val hI (hz_ Z 7) (qn_ rfl (gd_ Z dq 6 24) (load_i (hK.act.now q0))) (rfl)
   ·have hsz:=hz_ Z 8;have hI0:=hK;rw[hnl,if_neg Bool.false_ne_true] at hI0;refine qcl_ (f:=33) (args:=#[a.eval (.tmp 21),a.eval (.tmp 23),a.eval (.tmp 25)]) (by kernel_rfl) ?_;rw[show a.eval (.tmp 21)=_ from (gd_ Z dq 3 21),show a.eval (.tmp 23)=_ from (gd_ Z dq 5 23),show a.eval (.tmp 25)=_ from (gd_ Z dq 7 25)];refine (qabo_ hI0 HM.out.1 (by omega) HG.out.1 HG.out.2.1 HG.out.2.2 y.h q0 y.now HNy.out.1 HNy.out.2).mono ?_;rintro e w' ⟨rfl,hc⟩;exact ⟨_,rfl,trivial,Jd.one hsz (hc)⟩
  ·intro lz a' v3 hall Z;have hI:=Z.i;have hk1:=hall 8 (by decide);have hk2:lz.getD 99 false=false:=by rw[Array.getD_eq_getD_getElem?,Array.getElem?_eq_none (by rw[Z.size];decide)];rfl
   rw[hk1,hk2] at hI;obtain ⟨u,hu⟩:∃ u:Nat->Value,∀ t,u t=a'.eval (.tmp t):=⟨_,fun _=>rfl⟩;rw[qah_ a' 94 u Z.tsize Z.defers hu];clear hu Z hall hk1 hk2;simp only[List.range,List.range.loop,List.map_cons,List.map_nil];have hD:=h_ (Core.loose hI);clear hI;go_wp2_with fail
   go_ret;exact ⟨rfl,hD.out⟩
theorem does1 (w0 w:World) (r:Ru) (bb bt mb mg bm rb:Nat) (M:List Ent) (S:Mk.St) (h:Core w0 w r bb bt mb mg bm rb none M M S S) (HM:Hid (Ok r M/\M.length<=100)) (y:Ac) (q0:y.h.ok) (hk:y.kind=1) :
  Calls Tryz.prog 12 #[.pointer (some ⟨bb,0,none⟩),.agg (acA y)] w fun e w'=>e = .returned (.bool true)/\Core w0 w' r bb bt mb mg bm rb none (actM r M y) (actM r M y) (actS M S y) (actS M S y):=by
 have e1:actM r M y=M:=by unfold actM;rw[if_neg (by omega)]
 have e2:actS M S y=(verdict M.length S y.n y.rt).2:=by unfold actS;rw[if_pos hk]
 rw[e1,e2];have HK:=h_ hk;clear e1 e2 hk;have hml:M.length<=100:=HM.out.2;have hzy:=qi_ q0;have hza:=qcz_ q0;have hb0:Below w.heap.size w (w.alloc (.cells (acA y) 39)):=(Below.refl _ _).alloc (Nat.le_refl _) _;obtain ⟨bx,hbx⟩:∃ bx,bx=w.heap.size:=⟨_,rfl⟩;have hY:AcAt (w.alloc (.cells (acA y) 39)) bx y:=by rw[hbx];exact Has.new _ _
 have hC:=h.box hb0 hbx hY;have HBX:=h_ hbx;clear h hb0 hY hbx;go_enter Tryz.func12,Tryz.ntmps12;go_upto_region 1 with fail
 rw[<-HBX.out];generalize World.alloc _ _=v1 at *;have c0:=hC.act.kind;rw[HK.out] at c0;obtain ⟨S1,hS1⟩:∃ S1,(verdict M.length S y.n y.rt).2=S1:=⟨_,rfl⟩;obtain ⟨z,hz⟩:∃ z,(verdict M.length S y.n y.rt).1=z:=⟨_,rfl⟩;have HS1:=h_ hS1;have HZ:=h_ hz;clear hS1 hz;go_wp2_with fail
 have hC:DvC w0 r bb bt mb mg bm rb bx y M S S1 false false v1.drew:=hC.below (belowDrew v1);refine qf_ (by kernel_rfl) (fun _=>True) (fun i v' _=>DvR bb mb bm rb bx y z i v') (fun l _ w'=>(DvC w0 r bb bt mb mg bm rb bx y M S S1) (l.getD 8 false) (l.getD 21 false) w') (fun _ _=>True) (fun _ _=>trivial) (fun _ _ _ _ _ _ h=>h) (by kernel_rfl) trivial ?_ ?_ ?_;intro l hl;rw[hl,hl];exact hC
 ·intro i o lz a wx ho' hnl dq Z;have hI:=Z.i;have hi:i<24:=(Array.getElem?_eq_some_iff.1 ho').1;have hK:=hI;unfold DvC at hK;obtain rfl|rfl|rfl|rfl|rfl|rfl|rfl|rfl|rfl|rfl|rfl|rfl|rfl|rfl|rfl|rfl|rfl|rfl|rfl|rfl|rfl|rfl|rfl|rfl:i=0\/i=1\/i=2\/i=3\/i=4\/i=5\/i=6\/i=7\/i=8\/i=9\/i=10\/i=11\/i=12\/i=13\/i=14\/i=15\/i=16\/i=17\/i=18\/i=19\/i=20\/i=21\/i=22\/i=23:=by omega
  all_goals obtain rfl:=Option.some.inj ho'
  exact dd_val hI (hz_ Z 0) (NN.qk_ rfl) ((Z.old' 0));exact dd_val hI (hz_ Z 1) (ex_nil rfl (gd_ Z dq 0 29)) (rfl);exact dd_val hI (hz_ Z 2) (ql_ rfl (gd_ Z dq 1 30) (bfield1 _ _)) (rfl);exact dd_val hI (hz_ Z 3) (qn_ rfl (gd_ Z dq 2 31) (qbv_ hK.b1)) (rfl);exact dd_val hI (hz_ Z 4) (ql_ rfl (Z.old' 3) (acfield3 _ _)) (rfl);exact dd_val hI (hz_ Z 5) (qn_ rfl (gd_ Z dq 4 33) (load_i (hK.act.num q0))) (rfl);exact dd_val hI (hz_ Z 6) (ql_ rfl (Z.old' 3) (acfield4 _ _)) (rfl);exact dd_val hI (hz_ Z 7) (qn_ rfl (gd_ Z dq 6 35) (load_b (hK.act.right q0))) (rfl)
  ·have hsz:=hz_ Z 8;have hI0:=hK;rw[hnl] at hI0
   have hI1:Core w0 wx r bb bt mb mg bm rb (some (bx,y)) M M S (if (lz.setIfInBounds 8 true).getD 21 false=true then S1 else S):=by
    rw[qm_ lz 8 21 hsz (by decide)];exact hI0
   refine qcl_ (f:=15) (args:=#[a.eval (.tmp 32),a.eval (.tmp 34),a.eval (.tmp 36)]) (by kernel_rfl) ?_;rw[show a.eval (.tmp 32)=_ from (gd_ Z dq 3 32),show a.eval (.tmp 34)=_ from (gd_ Z dq 5 34),show a.eval (.tmp 36)=_ from (gd_ Z dq 7 36)];refine (qly_ hI1 (by omega) y.n y.rt).mono ?_;rintro e w' ⟨rfl,hc⟩;rw[HS1.out] at hc;exact ⟨_,rfl,(by rw[<-HZ.out];rfl),Jd.one hsz (hc)⟩
  exact dd_val hI (hz_ Z 9) (NN.qk_ rfl) ((Z.old' 0));exact dd_val hI (hz_ Z 10) (ex_nil rfl (gd_ Z dq 9 38)) (rfl);exact dd_val hI (hz_ Z 11) (ql_ rfl (gd_ Z dq 10 39) (bfield3 _ _)) (rfl);exact dd_val hI (hz_ Z 12) (qn_ rfl (gd_ Z dq 11 40) (qoa_ hK.b3)) (rfl);exact dd_val hI (hz_ Z 13) (NN.qk_ rfl) ((Z.old' 0));exact dd_val hI (hz_ Z 14) (ex_nil rfl (gd_ Z dq 13 42)) (rfl);exact dd_val hI (hz_ Z 15) (ql_ rfl (gd_ Z dq 14 43) (bfield2 _ _)) (rfl);exact dd_val hI (hz_ Z 16) (qn_ rfl (gd_ Z dq 15 44) (qjz_ hK.b2)) (rfl);exact dd_val hI (hz_ Z 17) (ql_ rfl (Z.old' 3) (acfield3 _ _)) (rfl);exact dd_val hI (hz_ Z 18) (qn_ rfl (gd_ Z dq 17 46) (load_i (hK.act.num q0))) (rfl);exact dd_val hI (hz_ Z 19) (ql_ rfl (Z.old' 3) (acfield4 _ _)) (rfl);exact dd_val hI (hz_ Z 20) (qn_ rfl (gd_ Z dq 19 48) (load_b (hK.act.right q0))) (rfl)
  ·have hsz:=hz_ Z 21;have hI0:=hK;rw[hnl] at hI0
   have hI1:Core w0 wx r bb bt mb mg bm rb (some (bx,y)) M M (if (lz.setIfInBounds 21 true).getD 8 false=true then S1 else S) S:=by
    rw[qm_ lz 21 8 hsz (by decide)];exact hI0
   refine qcl_ (f:=34) (args:=#[a.eval (.tmp 41),a.eval (.tmp 45),a.eval (.tmp 47),a.eval (.tmp 49)]) (by kernel_rfl) ?_;rw[show a.eval (.tmp 41)=_ from (gd_ Z dq 12 41),show a.eval (.tmp 45)=_ from (gd_ Z dq 16 45),show a.eval (.tmp 47)=_ from (gd_ Z dq 18 47),show a.eval (.tmp 49)=_ from (gd_ Z dq 20 49)];refine (qlz_ hI1 (by omega) y.n y.rt).mono ?_;rintro e w' ⟨rfl,hc⟩;rw[HS1.out] at hc;exact ⟨_,rfl,(by rw[<-HZ.out];rfl),Jd.two hsz (hc)⟩
  exact dd_val hI (hz_ Z 22) (qka_ rfl (gd_ Z dq 8 37) (gd_ Z dq 21 50)) (rfl);exact dd_val hI (hz_ Z 23) (NN.qaf_ rfl) ((gd_ Z dq 22 51))
 ·intro lz a' v2 hall Z;have hI:=Z.i;have hk1:=hall 8 (by decide);have hk2:=hall 21 (by decide);rw[hk1,hk2] at hI;have f4:a'.eval (.tmp 4) = .bool true:=Z.got 23 _ 4 rfl (hall 23 (by decide)) rfl;obtain ⟨u,hu⟩:∃ u:Nat->Value,∀ t,u t=a'.eval (.tmp t):=⟨_,fun _=>rfl⟩;rw[qah_ a' 94 u Z.tsize Z.defers hu];rw[<-hu] at f4;clear hu Z hall hk1 hk2;simp only[List.range,List.range.loop,List.map_cons,List.map_nil];rw[f4];clear f4;have hD:=h_ (Core.loose hI);clear hI;go_wp2_with fail
  go_ret;exact ⟨rfl,by rw[HS1.out];exact hD.out⟩
theorem does2 (w0 w:World) (r:Ru) (bb bt mb mg bm rb:Nat) (M:List Ent) (S:Mk.St) (h:Core w0 w r bb bt mb mg bm rb none M M S S) (HM:Hid (Ok r M/\M.length<=100)) (y:Ac) (q0:y.h.ok) (hk:y.kind=2) :
  Calls Tryz.prog 12 #[.pointer (some ⟨bb,0,none⟩),.agg (acA y)] w fun e w'=>e = .returned (.bool true)/\Core w0 w' r bb bt mb mg bm rb none (actM r M y) (actM r M y) (actS M S y) (actS M S y):=by
 have e1:actM r M y=M:=by unfold actM;rw[if_neg (by omega)]
 have e2:actS M S y=(inval M.length S y.n).2:=by unfold actS;rw[if_neg (by omega),if_pos hk]
 rw[e1,e2];have HK:=h_ hk;clear e1 e2 hk;have hml:M.length<=100:=HM.out.2;have hzy:=qi_ q0;have hza:=qcz_ q0;have hb0:Below w.heap.size w (w.alloc (.cells (acA y) 39)):=(Below.refl _ _).alloc (Nat.le_refl _) _;obtain ⟨bx,hbx⟩:∃ bx,bx=w.heap.size:=⟨_,rfl⟩;have hY:AcAt (w.alloc (.cells (acA y) 39)) bx y:=by rw[hbx];exact Has.new _ _
 have hC:=h.box hb0 hbx hY;have HBX:=h_ hbx;clear h hb0 hY hbx;go_enter Tryz.func12,Tryz.ntmps12;go_upto_region 1 with fail
 rw[<-HBX.out];generalize World.alloc _ _=v1 at *;have c0:=hC.act.kind;rw[HK.out] at c0;obtain ⟨S1,hS1⟩:∃ S1,(inval M.length S y.n).2=S1:=⟨_,rfl⟩;obtain ⟨z,hz⟩:∃ z,(inval M.length S y.n).1=z:=⟨_,rfl⟩;have HS1:=h_ hS1;have HZ:=h_ hz;clear hS1 hz;go_wp2_with fail
 have hC:DvC w0 r bb bt mb mg bm rb bx y M S S1 false false v1.drew:=hC.below (belowDrew v1);refine qf_ (by kernel_rfl) (fun _=>True) (fun i v' _=>DwR bb mb bm rb bx y z i v') (fun l _ w'=>(DvC w0 r bb bt mb mg bm rb bx y M S S1) (l.getD 6 false) (l.getD 17 false) w') (fun _ _=>True) (fun _ _=>trivial) (fun _ _ _ _ _ _ h=>h) (by kernel_rfl) trivial ?_ ?_ ?_;intro l hl;rw[hl,hl];exact hC
 ·intro i o lz a wx ho' hnl dq Z;have hI:=Z.i;have hi:i<20:=(Array.getElem?_eq_some_iff.1 ho').1;have hK:=hI;unfold DvC at hK;obtain rfl|rfl|rfl|rfl|rfl|rfl|rfl|rfl|rfl|rfl|rfl|rfl|rfl|rfl|rfl|rfl|rfl|rfl|rfl|rfl:i=0\/i=1\/i=2\/i=3\/i=4\/i=5\/i=6\/i=7\/i=8\/i=9\/i=10\/i=11\/i=12\/i=13\/i=14\/i=15\/i=16\/i=17\/i=18\/i=19:=by omega
  all_goals obtain rfl:=Option.some.inj ho'
  exact dd_val hI (hz_ Z 0) (NN.qk_ rfl) ((Z.old' 0));exact dd_val hI (hz_ Z 1) (ex_nil rfl (gd_ Z dq 0 54)) (rfl);exact dd_val hI (hz_ Z 2) (ql_ rfl (gd_ Z dq 1 55) (bfield1 _ _)) (rfl);exact dd_val hI (hz_ Z 3) (qn_ rfl (gd_ Z dq 2 56) (qbv_ hK.b1)) (rfl);exact dd_val hI (hz_ Z 4) (ql_ rfl (Z.old' 3) (acfield3 _ _)) (rfl);exact dd_val hI (hz_ Z 5) (qn_ rfl (gd_ Z dq 4 58) (load_i (hK.act.num q0))) (rfl)
  ·have hsz:=hz_ Z 6;have hI0:=hK;rw[hnl] at hI0
   have hI1:Core w0 wx r bb bt mb mg bm rb (some (bx,y)) M M S (if (lz.setIfInBounds 6 true).getD 17 false=true then S1 else S):=by
    rw[qm_ lz 6 17 hsz (by decide)];exact hI0
   refine qcl_ (f:=16) (args:=#[a.eval (.tmp 57),a.eval (.tmp 59)]) (by kernel_rfl) ?_;rw[show a.eval (.tmp 57)=_ from (gd_ Z dq 3 57),show a.eval (.tmp 59)=_ from (gd_ Z dq 5 59)];refine (qfl_ hI1 (by omega) y.n).mono ?_;rintro e w' ⟨rfl,hc⟩;rw[HS1.out] at hc;exact ⟨_,rfl,(by rw[<-HZ.out];rfl),Jd.one hsz (hc)⟩
  exact dd_val hI (hz_ Z 7) (NN.qk_ rfl) ((Z.old' 0));exact dd_val hI (hz_ Z 8) (ex_nil rfl (gd_ Z dq 7 61)) (rfl);exact dd_val hI (hz_ Z 9) (ql_ rfl (gd_ Z dq 8 62) (bfield3 _ _)) (rfl);exact dd_val hI (hz_ Z 10) (qn_ rfl (gd_ Z dq 9 63) (qoa_ hK.b3)) (rfl);exact dd_val hI (hz_ Z 11) (NN.qk_ rfl) ((Z.old' 0));exact dd_val hI (hz_ Z 12) (ex_nil rfl (gd_ Z dq 11 65)) (rfl);exact dd_val hI (hz_ Z 13) (ql_ rfl (gd_ Z dq 12 66) (bfield2 _ _)) (rfl);exact dd_val hI (hz_ Z 14) (qn_ rfl (gd_ Z dq 13 67) (qjz_ hK.b2)) (rfl);exact dd_val hI (hz_ Z 15) (ql_ rfl (Z.old' 3) (acfield3 _ _)) (rfl);exact dd_val hI (hz_ Z 16) (qn_ rfl (gd_ Z dq 15 69) (load_i (hK.act.num q0))) (rfl)
  ·have hsz:=hz_ Z 17;have hI0:=hK;rw[hnl] at hI0
   have hI1:Core w0 wx r bb bt mb mg bm rb (some (bx,y)) M M (if (lz.setIfInBounds 17 true).getD 6 false=true then S1 else S) S:=by
    rw[qm_ lz 17 6 hsz (by decide)];exact hI0
   refine qcl_ (f:=35) (args:=#[a.eval (.tmp 64),a.eval (.tmp 68),a.eval (.tmp 70)]) (by kernel_rfl) ?_;rw[show a.eval (.tmp 64)=_ from (gd_ Z dq 10 64),show a.eval (.tmp 68)=_ from (gd_ Z dq 14 68),show a.eval (.tmp 70)=_ from (gd_ Z dq 16 70)];refine (qrt_ hI1 (by omega) y.n).mono ?_;rintro e w' ⟨rfl,hc⟩;rw[HS1.out] at hc;exact ⟨_,rfl,(by rw[<-HZ.out];rfl),Jd.two hsz (hc)⟩
  exact dd_val hI (hz_ Z 18) (qka_ rfl (gd_ Z dq 6 60) (gd_ Z dq 17 71)) (rfl);exact dd_val hI (hz_ Z 19) (NN.qaf_ rfl) ((gd_ Z dq 18 72))
 ·intro lz a' v2 hall Z;have hI:=Z.i;have hk1:=hall 6 (by decide);have hk2:=hall 17 (by decide);rw[hk1,hk2] at hI;have f4:a'.eval (.tmp 4) = .bool true:=Z.got 19 _ 4 rfl (hall 19 (by decide)) rfl;obtain ⟨u,hu⟩:∃ u:Nat->Value,∀ t,u t=a'.eval (.tmp t):=⟨_,fun _=>rfl⟩;rw[qah_ a' 94 u Z.tsize Z.defers hu];rw[<-hu] at f4;clear hu Z hall hk1 hk2;simp only[List.range,List.range.loop,List.map_cons,List.map_nil];rw[f4];clear f4;have hD:=h_ (Core.loose hI);clear hI;go_wp2_with fail
  go_ret;exact ⟨rfl,by rw[HS1.out];exact hD.out⟩
theorem does3 (w0 w:World) (r:Ru) (bb bt mb mg bm rb:Nat) (M:List Ent) (S:Mk.St) (h:Core w0 w r bb bt mb mg bm rb none M M S S) (HM:Hid (Ok r M/\M.length<=100)) (y:Ac) (q0:y.h.ok) (hk:y.kind=3) :
  Calls Tryz.prog 12 #[.pointer (some ⟨bb,0,none⟩),.agg (acA y)] w fun e w'=>e = .returned (.bool true)/\Core w0 w' r bb bt mb mg bm rb none (actM r M y) (actM r M y) (actS M S y) (actS M S y):=by
 have e1:actM r M y=M:=by unfold actM;rw[if_neg (by omega)]
 have e2:actS M S y=(recon M S y.n).2:=by unfold actS;rw[if_neg (by omega),if_neg (by omega),if_pos hk]
 rw[e1,e2];have HK:=h_ hk;clear e1 e2 hk;have hml:M.length<=100:=HM.out.2;have hzy:=qi_ q0;have hza:=qcz_ q0;have hb0:Below w.heap.size w (w.alloc (.cells (acA y) 39)):=(Below.refl _ _).alloc (Nat.le_refl _) _;obtain ⟨bx,hbx⟩:∃ bx,bx=w.heap.size:=⟨_,rfl⟩;have hY:AcAt (w.alloc (.cells (acA y) 39)) bx y:=by rw[hbx];exact Has.new _ _
 have hC:=h.box hb0 hbx hY;have HBX:=h_ hbx;clear h hb0 hY hbx;go_enter Tryz.func12,Tryz.ntmps12;go_upto_region 1 with fail
 rw[<-HBX.out];generalize World.alloc _ _=v1 at *;have c0:=hC.act.kind;rw[HK.out] at c0;obtain ⟨S1,hS1⟩:∃ S1,(recon M S y.n).2=S1:=⟨_,rfl⟩;obtain ⟨z,hz⟩:∃ z,(recon M S y.n).1=z:=⟨_,rfl⟩;have HS1:=h_ hS1;have HZ:=h_ hz;clear hS1 hz;go_wp2_with fail
 have hC:DvC w0 r bb bt mb mg bm rb bx y M S S1 false false v1.drew:=hC.below (belowDrew v1);refine qf_ (by kernel_rfl) (fun _=>True) (fun i v' _=>DwR bb mb bm rb bx y z i v') (fun l _ w'=>(DvC w0 r bb bt mb mg bm rb bx y M S S1) (l.getD 6 false) (l.getD 17 false) w') (fun _ _=>True) (fun _ _=>trivial) (fun _ _ _ _ _ _ h=>h) (by kernel_rfl) trivial ?_ ?_ ?_;intro l hl;rw[hl,hl];exact hC
 ·intro i o lz a wx ho' hnl dq Z;have hI:=Z.i;have hi:i<20:=(Array.getElem?_eq_some_iff.1 ho').1;have hK:=hI;unfold DvC at hK;obtain rfl|rfl|rfl|rfl|rfl|rfl|rfl|rfl|rfl|rfl|rfl|rfl|rfl|rfl|rfl|rfl|rfl|rfl|rfl|rfl:i=0\/i=1\/i=2\/i=3\/i=4\/i=5\/i=6\/i=7\/i=8\/i=9\/i=10\/i=11\/i=12\/i=13\/i=14\/i=15\/i=16\/i=17\/i=18\/i=19:=by omega
  all_goals obtain rfl:=Option.some.inj ho'
  exact dd_val hI (hz_ Z 0) (NN.qk_ rfl) ((Z.old' 0));exact dd_val hI (hz_ Z 1) (ex_nil rfl (gd_ Z dq 0 75)) (rfl);exact dd_val hI (hz_ Z 2) (ql_ rfl (gd_ Z dq 1 76) (bfield1 _ _)) (rfl);exact dd_val hI (hz_ Z 3) (qn_ rfl (gd_ Z dq 2 77) (qbv_ hK.b1)) (rfl);exact dd_val hI (hz_ Z 4) (ql_ rfl (Z.old' 3) (acfield3 _ _)) (rfl);exact dd_val hI (hz_ Z 5) (qn_ rfl (gd_ Z dq 4 79) (load_i (hK.act.num q0))) (rfl)
  ·have hsz:=hz_ Z 6;have hI0:=hK;rw[hnl] at hI0
   have hI1:Core w0 wx r bb bt mb mg bm rb (some (bx,y)) M M S (if (lz.setIfInBounds 6 true).getD 17 false=true then S1 else S):=by
    rw[qm_ lz 6 17 hsz (by decide)];exact hI0
   refine qcl_ (f:=17) (args:=#[a.eval (.tmp 78),a.eval (.tmp 80)]) (by kernel_rfl) ?_;rw[show a.eval (.tmp 78)=_ from (gd_ Z dq 3 78),show a.eval (.tmp 80)=_ from (gd_ Z dq 5 80)];refine (qfm_ hI1 HM.out.1 (by omega) y.n).mono ?_;rintro e w' ⟨rfl,hc⟩;rw[HS1.out] at hc;exact ⟨_,rfl,(by rw[<-HZ.out];rfl),Jd.one hsz (hc)⟩
  exact dd_val hI (hz_ Z 7) (NN.qk_ rfl) ((Z.old' 0));exact dd_val hI (hz_ Z 8) (ex_nil rfl (gd_ Z dq 7 82)) (rfl);exact dd_val hI (hz_ Z 9) (ql_ rfl (gd_ Z dq 8 83) (bfield3 _ _)) (rfl);exact dd_val hI (hz_ Z 10) (qn_ rfl (gd_ Z dq 9 84) (qoa_ hK.b3)) (rfl);exact dd_val hI (hz_ Z 11) (NN.qk_ rfl) ((Z.old' 0));exact dd_val hI (hz_ Z 12) (ex_nil rfl (gd_ Z dq 11 86)) (rfl);exact dd_val hI (hz_ Z 13) (ql_ rfl (gd_ Z dq 12 87) (bfield2 _ _)) (rfl);exact dd_val hI (hz_ Z 14) (qn_ rfl (gd_ Z dq 13 88) (qjz_ hK.b2)) (rfl);exact dd_val hI (hz_ Z 15) (ql_ rfl (Z.old' 3) (acfield3 _ _)) (rfl);exact dd_val hI (hz_ Z 16) (qn_ rfl (gd_ Z dq 15 90) (load_i (hK.act.num q0))) (rfl)
  ·have hsz:=hz_ Z 17;have hI0:=hK;rw[hnl] at hI0
   have hI1:Core w0 wx r bb bt mb mg bm rb (some (bx,y)) M M (if (lz.setIfInBounds 17 true).getD 6 false=true then S1 else S) S:=by
    rw[qm_ lz 17 6 hsz (by decide)];exact hI0
   refine qcl_ (f:=36) (args:=#[a.eval (.tmp 85),a.eval (.tmp 89),a.eval (.tmp 91)]) (by kernel_rfl) ?_;rw[show a.eval (.tmp 85)=_ from (gd_ Z dq 10 85),show a.eval (.tmp 89)=_ from (gd_ Z dq 14 89),show a.eval (.tmp 91)=_ from (gd_ Z dq 16 91)];refine (qru_ hI1 HM.out.1 (by omega) y.n).mono ?_;rintro e w' ⟨rfl,hc⟩;rw[HS1.out] at hc;exact ⟨_,rfl,(by rw[<-HZ.out];rfl),Jd.two hsz (hc)⟩
  exact dd_val hI (hz_ Z 18) (qka_ rfl (gd_ Z dq 6 81) (gd_ Z dq 17 92)) (rfl);exact dd_val hI (hz_ Z 19) (NN.qaf_ rfl) ((gd_ Z dq 18 93))
 ·intro lz a' v2 hall Z;have hI:=Z.i;have hk1:=hall 6 (by decide);have hk2:=hall 17 (by decide);rw[hk1,hk2] at hI;have f4:a'.eval (.tmp 4) = .bool true:=Z.got 19 _ 4 rfl (hall 19 (by decide)) rfl;obtain ⟨u,hu⟩:∃ u:Nat->Value,∀ t,u t=a'.eval (.tmp t):=⟨_,fun _=>rfl⟩;rw[qah_ a' 94 u Z.tsize Z.defers hu];rw[<-hu] at f4;clear hu Z hall hk1 hk2;simp only[List.range,List.range.loop,List.map_cons,List.map_nil];rw[f4];clear f4;have hD:=h_ (Core.loose hI);clear hI;go_wp2_with fail
  go_ret;exact ⟨rfl,by rw[HS1.out];exact hD.out⟩
theorem does9 (w0 w:World) (r:Ru) (bb bt mb mg bm rb:Nat) (M:List Ent) (S:Mk.St) (h:Core w0 w r bb bt mb mg bm rb none M M S S) (y:Ac) (q0:y.h.ok) (k0:¬y.kind=0) (k1:¬y.kind=1) (k2:¬y.kind=2) (k3:¬y.kind=3) :
  Calls Tryz.prog 12 #[.pointer (some ⟨bb,0,none⟩),.agg (acA y)] w fun e w'=>e = .returned (.bool true)/\Core w0 w' r bb bt mb mg bm rb none (actM r M y) (actM r M y) (actS M S y) (actS M S y):=by
 have e1:actM r M y=M:=if_neg k0;have e2:actS M S y=S:=by unfold actS;rw[if_neg k1,if_neg k2,if_neg k3]
 rw[e1,e2];have f0:(y.kind==0)=false:=by simpa using k0
 have f1:(y.kind==1)=false:=by simpa using k1
 have f2:(y.kind==2)=false:=by simpa using k2
 have f3:(y.kind==3)=false:=by simpa using k3
 clear e1 e2 k0 k1 k2 k3;have hza:=qcz_ q0;have hb0:Below w.heap.size w (w.alloc (.cells (acA y) 39)):=(Below.refl _ _).alloc (Nat.le_refl _) _;obtain ⟨bx,hbx⟩:∃ bx,bx=w.heap.size:=⟨_,rfl⟩;have hY:AcAt (w.alloc (.cells (acA y) 39)) bx y:=by rw[hbx];exact Has.new _ _
 have hC:=h.box hb0 hbx hY;have HBX:=h_ hbx;clear h hb0 hY hbx;go_enter Tryz.func12,Tryz.ntmps12;go_upto_region 1 with fail
 rw[<-HBX.out];generalize World.alloc _ _=v1 at *;have c0:=hC.act.kind;generalize y.kind=kd at *;have HC:=h_ hC;clear hC;go_wp2_with fail
 go_ret;exact ⟨rfl,HC.out.loose⟩
theorem does_at (w0 w:World) (r:Ru) (bb bt mb mg bm rb:Nat) (M:List Ent) (S:Mk.St) (h:Core w0 w r bb bt mb mg bm rb none M M S S) (HM:Hid (Ok r M/\M.length<=100)) (HG:Hid (r.gs.length<=1000/\r.cs.length<=1000/\2<=r.p.ivl)) (HT:Hid (∀w',Below w0.heap.size w0 w'->Tab w')) (y:Ac) (q0:y.h.ok) (HNy:Hid (-9223372036854775808<=y.now/\y.now<=9223372036854775807)):Calls Tryz.prog 12 #[.pointer (some ⟨bb,0,none⟩),.agg (acA y)] w fun e w'=>e = .returned (.bool true)/\Core w0 w' r bb bt mb mg bm rb none (actM r M y) (actM r M y) (actS M S y) (actS M S y):=by
 by_cases k0:y.kind=0;exact does0 w0 w r bb bt mb mg bm rb M S h HM HG HT y q0 HNy k0;by_cases k1:y.kind=1;exact does1 w0 w r bb bt mb mg bm rb M S h HM y q0 k1;by_cases k2:y.kind=2;exact does2 w0 w r bb bt mb mg bm rb M S h HM y q0 k2;by_cases k3:y.kind=3;exact does3 w0 w r bb bt mb mg bm rb M S h HM y q0 k3;exact does9 w0 w r bb bt mb mg bm rb M S h y q0 k0 k1 k2 k3
theorem ac_load {ops:Array Oper} {rest:List Oper} {o:Oper} {a:Act} {Q:Exit->Act->World->Prop} {w:World} (hgd:o.guard=none) (x:Operand) (ho:o.op = .load 39 x) (g:Nat) (hx:a.eval x = .pointer (some ⟨g,0,none⟩)) (c:Ac) (hg:AcAt w g c) (hs:(acA c).size=72)
  (hk:wpList Tryz.prog ops Q rest (a.put o.dst (.agg (acA c))) w):wpList Tryz.prog ops Q (o :: rest) a w :=
 wpList_load_row hgd 39 x ho g hx 39 (acA c) (0,0) _ (Has.out hg) Tryz.underlying39 rfl (acinfo.trans (by rw[hs])) hk
theorem act_len (r:Ru) (M:List Ent) (h:Hd) (now:Int):(Ar.add r M h now).2.length<=M.length+1:=by
 unfold Ar.add;repeat' (first|split|(dsimp only;simp))
theorem act_up (r:Ru) (M:List Ent) (h:Hd) (now:Int):M.length<=(Ar.add r M h now).2.length:=by
 unfold Ar.add;repeat' (first|split|(dsimp only;simp))
theorem qaij_ {r:Ru} {M:List Ent} {S:Mk.St} (hM:Ok r M) (hG:Mk.Good M.length S) (y:Ac) (q0:y.h.ok):Ok r (actM r M y)/\(actM r M y).length<=M.length+1/\Mk.Good (actM r M y).length (actS M S y):=by
 unfold actM actS;by_cases k0:y.kind=0;rw[if_pos k0,if_neg (by omega),if_neg (by omega),if_neg (by omega)];exact ⟨hM.add q0 y.now,act_len r M y.h y.now,hG.more (act_up r M y.h y.now)⟩
 ·rw[if_neg k0];refine ⟨hM,by omega,?_⟩;split;exact hG.verdict y.n y.rt
  ·split;exact hG.inval y.n
   ·split;exact hG.recon y.n;exact hG
theorem qxa_ {M:List Ent} {S:Mk.St} {x:Int} (hG:Mk.Good M.length S) (h:chg M.length x=0):(inval M.length S x).1=0/\Mk.Good M.length (inval M.length S x).2/\∀ i:Nat,i<M.length->∃ fl wn:Bool,fl=failB M S (i:Int)/\wn=pb (Anc M x (i:Int))/\failB M (inval M.length S x).2 (i:Int)=(fl || wn)/\((fl || wn)=true->validB M (inval M.length S x).2 (i:Int)=false):=by
 obtain ⟨h1,h2,h3⟩:=Mk.qem_ h;generalize x.toNat=k at *;subst h3
 have e:∀ i:Nat,failB M (inval M.length S (k:Int)).2 (i:Int)=(failB M S (i:Int) || pb (Anc M (k:Int) (i:Int))):=fun i=>by
  rw[Bool.eq_iff_iff,Bool.or_eq_true,Mk.qed_,Mk.qed_,Mk.qck_];exact Mk.qen_ k i h
 refine ⟨by unfold Mk.inval;rw[if_neg (by omega)],hG.inval _,fun i hi=>⟨_,_,rfl,rfl,e i,fun hw=>?_⟩⟩;cases ev:validB M (inval M.length S (k:Int)).2 (i:Int) with
 | false=>rfl
 | true=>
  refine absurd ?_ (Mk.qcg_ (Mk.qdw_.1 ev));exact Mk.qed_.1 ((e i).trans hw)
def pathB (ops:Array Oper):Nat->List Nat->Nat->Bool
 | k,[],i=>waits ops k i
 | k,m :: l,i=>waits ops k m && pathB ops m l i
theorem qch_ {ops:Array Oper} {a0:Act} {C:World->Prop} {R:Nat->Value->World->Prop} {I:Array Bool->Act->World->Prop} {lz:Array Bool} {a:Act} {w:World} (h:RInv .any ops a0 C R I lz a w):∀ (l:List Nat) {k i:Nat},pathB ops k l i=true->lz.getD k false=true->lz.getD i false=true
 | [],_,_,hw,hk=>h.after hw hk
 | m :: l,k,i,hw,hk=>by
  simp only[pathB,Bool.and_eq_true] at hw;exact qch_ h l hw.2 (h.after hw.1 hk)
theorem qey_ {ops:Array Oper} {a0:Act} {C:World->Prop} {R:Nat->Value->World->Prop} {I:Array Bool->Act->World->Prop} {lz:Array Bool} {a:Act} {w:World} (h:RInv .any ops a0 C R I lz a w) (l:List Nat) {k i:Nat} (hw:pathB ops k l i=true) (hn:lz.getD i false=false):lz.getD k false=false:=by
 cases hk:lz.getD k false with
 | false=>rfl
 | true=>rw[qch_ h l hw hk] at hn;cases hn
theorem qadj_ {ρ:Operand->Value} {o:Oper} {w:World} {x y:Operand} {c d:Int} (ho:o.op = .binOp .neq 44 x y 44) (hx:ρ x = .int .i64 c) (hy:ρ y = .int .i64 d):(execOp ρ o).run Tryz.prog w = .ok (.value (.bool (c != d))) w:=by
 unfold execOp;simp only[ho,hx,hy];kernel_rfl
theorem qxb_ {n:Nat} {S:Mk.St} {x:Int} (h:¬chg n x=0):inval n S x=(chg n x,S):=by unfold Mk.inval;rw[if_pos h]
theorem qxc_ {M:List Ent} {S:Mk.St} {x:Int} (h:¬chg M.length x=0):recon M S x=(chg M.length x,S):=by unfold Mk.recon;rw[if_pos h]
theorem chg_out {n:Nat} {x:Int} (h:x<1\/(n:Int)<=x):¬chg n x=0:=fun h0=>by
 have:=Mk.qem_ h0;omega
theorem chg_in {n x:Nat} (h1:1<=x) (h2:x<n):chg n (x:Int)=0:=by
 unfold Mk.chg;rw[if_pos (by omega),if_neg (by omega)]
theorem qxd_ {r:Ru} {M:List Ent} {S:Mk.St} {x:Nat} (hM:Ok r M) (hG:Mk.Good M.length S) (h1:1<=x) (h2:x<M.length) (h:∀ i:Nat,i<M.length->Mk.On M (x:Int) i->itself S i=false):∃ (S1:Mk.St) (best:Int),inval M.length S (x:Int)=(0,S1)/\recon M S1 (x:Int)=(0,S)/\Mk.Good M.length S1/\failB M S1 (x:Int)=true/\validB M S1 (x:Int)=false/\(Mk.top (Hv r M) (fun i=>validB M S1 (i:Int)) M.length:Int)=best/\pb (Anc M (x:Int) best)=false:=by
 have hx:=chg_in h1 h2;have ha:Anc M (x:Int) (x:Int):=Mk.qnc_ hM h2
 have hb:=Mk.back x hx (fun i hi=>h i (by
  rcases hi with hi|hi
  obtain ⟨k,e,hk,hk2⟩:=Mk.anc_nat hM hi;omega;exact Mk.qzs_ hi) hi) (.inl ha)
 obtain ⟨hz,hG1,HW⟩:=qxa_ hG hx;refine ⟨(inval M.length S (x:Int)).2,_,by rw[<-hb.1],hb.2,hG1,?_,?_,rfl,?_⟩;exact Mk.qed_.2 ((Mk.qen_ x x hx).2 (.inr ha))
 ·cases e:validB M (inval M.length S (x:Int)).2 (x:Int) with
  | false=>rfl
  | true=>exact absurd (Mk.qdw_.1 e) (Mk.qeh_ x x hx ha)
 have hl:=Mk.top_lt (H:=Hv r M) (P:=fun i=>validB M (inval M.length S (x:Int)).2 (i:Int)) M.length (by omega);have hv:=Mk.top_is (H:=Hv r M) (P:=fun i=>validB M (inval M.length S (x:Int)).2 (i:Int)) (qma_ hM hG1) M.length;generalize Mk.top (Hv r M) _ M.length=b at *;rw[Mk.qfi_];intro hab;exact Mk.qeh_ x b hx hab (Mk.qdw_.1 hv)
def MbC (w0:World) (r:Ru) (bb bt mb mg bm rb:Nat) (M:List Ent) (S S1:Mk.St) (b1 b2:Bool) (w:World):Prop:=Core w0 w r bb bt mb mg bm rb none M M (if b1 then (if b2 then S else S1) else S) S
def MbR (bb bt mb:Nat) (N best:Int):Nat->Value->Prop
 | 0,v=>v = .pointer (some ⟨bb,0,none⟩)
 | 1,v=>v = .pointer (some ⟨bb,0,none⟩)
 | 2,v=>v = .pointer (some ⟨bb,1,none⟩)
 | 3,v=>v = .pointer (some ⟨mb,0,none⟩)
 | 4,v=>v = .int .i64 N
 | 5,v=>v = .int .i64 0
 | 6,v=>v = .bool false
 | 7,v=>v = .bool false
 | 8,v=>v = .pointer (some ⟨bb,0,none⟩)
 | 9,v=>v = .pointer (some ⟨bb,0,none⟩)
 | 10,v=>v = .pointer (some ⟨bb,1,none⟩)
 | 11,v=>v = .pointer (some ⟨mb,0,none⟩)
 | 12,v=>v = .int .i64 N
 | 13,v=>v = .bool true
 | 14,v=>v = .bool false
 | 15,v=>v = .bool false
 | 16,v=>v = .bool false
 | 17,v=>v = .pointer (some ⟨bb,0,none⟩)
 | 18,v=>v = .pointer (some ⟨bb,0,none⟩)
 | 19,v=>v = .pointer (some ⟨bb,1,none⟩)
 | 20,v=>v = .pointer (some ⟨mb,0,none⟩)
 | 21,v=>v = .int .i64 N
 | 22,v=>v = .bool false
 | 23,v=>v = .bool false
 | 24,v=>v = .bool false
 | 25,v=>v = .pointer (some ⟨bb,0,none⟩)
 | 26,v=>v = .pointer (some ⟨bb,0,none⟩)
 | 27,v=>v = .pointer (some ⟨bb,0,none⟩)
 | 28,v=>v = .pointer (some ⟨bt,0,none⟩)
 | 29,v=>v = .int .i64 N
 | 30,v=>v = .pointer (some ⟨bb,0,none⟩)
 | 31,v=>v = .pointer (some ⟨bb,0,none⟩)
 | 32,v=>v = .pointer (some ⟨bb,1,none⟩)
 | 33,v=>v = .pointer (some ⟨mb,0,none⟩)
 | 34,v=>v = .int .i64 best
 | 35,v=>v = .bool false
 | 36,v=>v = .bool false
 | 37,v=>v = .bool false
 | 38,v=>v = .pointer (some ⟨bb,0,none⟩)
 | 39,v=>v = .pointer (some ⟨bb,0,none⟩)
 | 40,v=>v = .pointer (some ⟨bb,1,none⟩)
 | 41,v=>v = .pointer (some ⟨mb,0,none⟩)
 | 42,v=>v = .int .i64 N
 | 43,v=>v = .int .i64 0
 | 44,v=>v = .bool false
 | 45,v=>v = .bool false
 | _,_=>True
theorem qrv_ (p:NN.Pr) (hp:p.ok) (a:Option Addr) (n c:Nat) (N:Int) (w:World) (KA:HK_ w 9 #[] (.bool true)) (KG:HK_ w 10 #[.agg (NN.prA p),.slice a n c] (.bool true)) :
  Ca_ 5 #[.agg (NN.prA p),.slice a n c,.int .i64 N] w (.bool true):=by
 have hz:=NN.qay_ hp;go_enter Tryz.func5,Tryz.ntmps5;go_upto_region 1 with fail
 generalize hw0:World.alloc _ _=v0;have hB:Below w.heap.size w v0:=bl_ hw0;have hP:NN.PrAt v0 w.heap.size p:=by rw[<-hw0];exact NN.Has.new _ _
 clear hw0;obtain ⟨bP,hbP⟩:∃ x,x=w.heap.size:=⟨_,rfl⟩;rw[<-hbP] at hP |-;have HBP:Hid (bP=w.heap.size):=h_ hbP;clear hbP;go_wp2_with (first|fail)
 refine (KA.out _ hB).mono ?_;rintro e v1 ⟨rfl,hb⟩;replace hP:=hP.on hb;replace hB:=tb_ hB hb;clear hb;go_wp2_with (with_reducible first|refine NN.qr_ rfl _ rfl _ rfl hP hz ?_|refine NN.qo_ (by with_unfolding_all rfl) _ rfl _ rfl hP hz ?_)
 refine (KG.out _ hB).mono ?_;rintro e v2 ⟨rfl,hb⟩;replace hP:=hP.on hb;replace hB:=tb_ hB hb;clear hb;go_wp2_with fail
 go_ret;exact ⟨rfl,hB⟩
theorem qxe_ (p:NN.Pr) (hp:p.ok) (r:Ru) (a:Option Addr) (n c:Nat) (N:Int) (w:World) (ls:List Ac) (HA:Hid (∀w',Below w.heap.size w w'->ActsAt w' a ls)) (HN:Hid (n=ls.length)) (hn40:n<=40) (HT:Hid (∀w',Below w.heap.size w w'->Tab w')) (HG:Hid (r.gs.length<=1000/\r.cs.length<=1000/\2<=r.p.ivl)) (HNW:Hid (∀x ∈ ls,-9223372036854775808<=x.now/\x.now<=9223372036854775807)) (KA:HK_ w 9 #[] (.bool true)) (KG:HK_ w 10 #[.agg (NN.prA p),.slice a n c] (.bool false)) (KS:Hid (∀w',Below w.heap.size w w'->Calls Tryz.prog 11 #[.agg (NN.prA p)] w' fun e w''=>∃ bb bt mb mg bm rb,e = .returned (.pointer (some ⟨bb,0,none⟩))/\Core w' w'' r bb bt mb mg bm rb none [entZ] [entZ] Mk.st0 Mk.st0)) :
  Ca_ 5 #[.agg (NN.prA p),.slice a n c,.int .i64 N] w (.bool true):=by
 have hz:=NN.qay_ hp;go_enter Tryz.func5,Tryz.ntmps5;go_upto_region 1 with fail
 generalize hw0:World.alloc _ _=v0;have hB:Below w.heap.size w v0:=bl_ hw0;have hP:NN.PrAt v0 w.heap.size p:=by rw[<-hw0];exact NN.Has.new _ _
 clear hw0;obtain ⟨bP,hbP⟩:∃ x,x=w.heap.size:=⟨_,rfl⟩;rw[<-hbP] at hP |-;have HBP:Hid (bP=w.heap.size):=h_ hbP;clear hbP;go_wp2_with (first|fail)
 refine (KA.out _ hB).mono ?_;rintro e v1 ⟨rfl,hb⟩;replace hP:=hP.on hb;replace hB:=tb_ hB hb;clear hb;go_wp2_with (with_reducible first|refine NN.qr_ rfl _ rfl _ rfl hP hz ?_|refine NN.qo_ (by with_unfolding_all rfl) _ rfl _ rfl hP hz ?_)
 refine (KG.out _ hB).mono ?_;rintro e v2 ⟨rfl,hb⟩;replace hP:=hP.on hb;replace hB:=tb_ hB hb;clear hb;go_wp2_with (first|fail|(with_reducible refine NN.qr_ rfl _ rfl _ rfl hP hz ?_))
 refine (KS.out _ hB).mono ?_;rintro e v3 ⟨bb,bt,mb,mg,bm,rb,rfl,hC⟩;have HBS:=h_ hB;have HTS:Hid (∀w',Below v2.heap.size v2 w'->Tab w'):=h_ fun w' hb=>HT.out w' (tb_ hB hb)
 clear hB hP KA KG KS;go_wp2_with fail
 go_loopw [20] (fun u wr=>∃ (k:Nat) (M:List Ent) (S:Mk.St),k<=n/\u = .int .i64 (k:Int)/\Core v2 wr r bb bt mb mg bm rb none M M S S/\Hid (Ok r M/\M.length<=k+1/\Mk.Good M.length S)) (fun u _=>n - (intOf u).toNat)
 case atStart=>exact ⟨0,[entZ],Mk.st0,by omega,rfl,hC,h_ ⟨Ok.one r,Nat.le_refl _,Mk.Good.start 1 (by decide)⟩⟩
 case round=>
  clear hC;obtain ⟨k,M,S,hk,rfl,hC,HM⟩:=hrel;have hM9:M.length<=50:=by have:=HM.out.2.1;omega
  have hB:=tb_ HBS.out hC.bel;by_cases hlt:k<n
  ·obtain ⟨ab,ao,hae,habl,hc⟩:=(HA.out _ hB) (by rw[<-HN.out];omega);subst hae;have hk2:k<ls.length:=by rw[<-HN.out];exact hlt
   obtain ⟨q0,q1⟩:=hc k hk2;have HNy:=h_ (HNW.out _ (List.getElem_mem hk2));clear hc hB;generalize ls[k]=y at *;clear hk2;have z1:=qhq_ q0;have z2:=qcz_ q0;have z0:=qcz_ (c:=acZ) hdZ_ok;have hb2:Below wr.heap.size wr ((wr.alloc (.cells Tryz.zeroCells39 39)).setRow wr.heap.size (acA y)):=below_setRow ((Below.refl _ _).alloc (Nat.le_refl _) _) (Nat.le_refl _) _;have hnew:=qwi_ wr;have hY:=qadd_ wr y;have KD:=h_ (does_at v2 _ r bb bt mb mg bm rb M S (hC.below hb2) (h_ ⟨HM.out.1,by omega⟩) HG HTS y q0 HNy);clear hC hb2;go_wp2_with (with_reducible first|refine qfj_ rfl _ rfl ab (ao+k*72) rfl y q1 z1 ?_|refine qnv_ rfl _ _ rfl _ _ y rfl rfl rfl z2 hnew z0 ?_|refine ac_load rfl _ rfl _ rfl y hY z2 ?_)
   refine KD.out.mono ?_;rintro e v6 ⟨rfl,hC⟩;obtain ⟨g1,g2,g3⟩:=qaij_ HM.out.1 HM.out.2.2 y q0;have HM7:Hid (Ok r (actM r M y)/\(actM r M y).length<=k+1+1/\Mk.Good (actM r M y).length (actS M S y)):=h_ ⟨g1,by have:=HM.out.2.1;omega,g3⟩;clear KD hY hnew z0 z1 z2 q1 HM g1 g2 g3;generalize World.setRow _ _ _=v5 at *;generalize actM r M y=M' at *;generalize actS M S y=S' at *;go_wp2_with fail
   go_roundw
   case rel=>exact ⟨k+1,M',S',by omega,by go_num,hC,HM7⟩
   case measure=>simp[intOf];omega
  ·obtain rfl:k=n:=by omega
   clear HA HT HTS HNW HG;have c1:=hC.b1;have c2:=hC.b2;obtain ⟨aL,cL,hL⟩:=hC.list;have c83:=hL _ (Below.refl _ _);have HL:=h_ hL;have hm0:0<M.length:=HM.out.1.pos;have hm5:M.length<=500:=by omega
   have hM1:=HM.out.1;have hG1:=HM.out.2.2;have HC:=h_ hC;have KQ:=h_ fun w' (hc:Core v2 w' r bb bt mb mg bm rb none M M S S)=>qabp_ hc hM1 hm5 (qma_ hM1 hG1)
   generalize hm:M.length=m at *;have Hm:=h_ hm;clear hC hL hm hB;by_cases hout:N<1\/(m:Int)<=N
   ·have hch:=chg_out hout;have hd:(chg m N != 0)=true:=by simpa using hch
    have KX:Hid (∀w',Core v2 w' r bb bt mb mg bm rb none M M S S->Calls Tryz.prog 16 #[.pointer (some ⟨mb,0,none⟩),.int .i64 N] w' fun e w''=>e = .returned (.int .i64 (chg m N))/\Core v2 w'' r bb bt mb mg bm rb none M M S S):=h_ fun w' hc=>by
     have:=qfl_ hc (by rw[Hm.out];omega) N;rw[qxb_ (by rw[Hm.out];exact hch),Hm.out] at this;exact this
    have KY:Hid (∀w',Core v2 w' r bb bt mb mg bm rb none M M S S->Calls Tryz.prog 17 #[.pointer (some ⟨mb,0,none⟩),.int .i64 N] w' fun e w''=>e = .returned (.int .i64 (chg m N))/\Core v2 w'' r bb bt mb mg bm rb none M M S S):=h_ fun w' hc=>by
     have:=qfm_ hc hM1 (by rw[Hm.out];omega) N;rw[qxc_ (by rw[Hm.out];exact hch),Hm.out] at this;exact this
    clear hch;generalize chg m N=z at *;have hways:N<1\/(¬N<1/\(m:Int)<=N):=(by omega);rcases hways with h|⟨h,h'⟩
    ·have d1:decide (N<1)=true:=decide_eq_true h;(go_wp2_with fail);refine (KX.out _ HC.out).mono ?_;rintro e w5 ⟨rfl,hC⟩;have c1:=hC.b1;have KY5:=KY.out _ hC;clear hC;(go_wp2_with fail);refine KY5.mono ?_;rintro e w6 ⟨rfl,hC⟩;have KQ6:=KQ.out _ hC;have HC6:=h_ hC;clear hC KY5;(go_wp2_with fail);refine KQ6.mono ?_;rintro e w7 ⟨rfl,hb⟩;have hB:=HBS.out.trans ((HC6.out.below hb).bel.mono HBS.out.size);clear hb KQ6 HC6;(go_wp2_with fail);go_ret;exact ⟨rfl,hB⟩
    ·have d1:decide (N<1)=false:=decide_eq_false h;have d2:decide ((m:Int)<=N)=true:=decide_eq_true h';(go_wp2_with fail);refine (KX.out _ HC.out).mono ?_;rintro e w5 ⟨rfl,hC⟩;have c1:=hC.b1;have KY5:=KY.out _ hC;clear hC;(go_wp2_with fail);refine KY5.mono ?_;rintro e w6 ⟨rfl,hC⟩;have KQ6:=KQ.out _ hC;have HC6:=h_ hC;clear hC KY5;(go_wp2_with fail);refine KQ6.mono ?_;rintro e w7 ⟨rfl,hb⟩;have hB:=HBS.out.trans ((HC6.out.below hb).bel.mono HBS.out.size);clear hb KQ6 HC6;(go_wp2_with fail);go_ret;exact ⟨rfl,hB⟩
   ·obtain ⟨x,rfl⟩:=Int.eq_ofNat_of_zero_le (by omega:0<=N);have d1:decide ((x:Int)<1)=false:=decide_eq_false (by omega);have d2:decide (m<=x)=false:=decide_eq_false (by omega);have hx1:1<=x:=(by omega);have hx2:x<m:=(by omega);clear hout;(go_wp2_with fail);have hb0:=Below.refl wr.heap.size wr;go_loopw [70] (fun u wq=>∃ q:Nat,q<=m/\u = .int .i64 (q:Int)/\Below wr.heap.size wr wq/\Hid (∀i:Nat,i<q->Mk.On M (x:Int) i->itself S i=false)) (fun u _=>m - (intOf u).toNat)
    case atStart=>exact ⟨0,by omega,rfl,hb0,h_ fun i hi=>by omega⟩
    case round=>
     clear hb0 c1 c2 c83 d1 d2;obtain ⟨q,hq,rfl,hb0,HIT⟩:=hrel;rename World=>wq
     have hC:=HC.out.below hb0;by_cases hqm:q<m
     ·obtain ⟨it,hit⟩:∃ it,it=itself S q:=⟨_,rfl⟩;obtain ⟨w1,hw1⟩:∃ b,b=pb (Anc M (q:Int) (x:Int)):=⟨_,rfl⟩;obtain ⟨w2,hw2⟩:∃ b,b=pb (Anc M (x:Int) (q:Int)):=⟨_,rfl⟩;have c3:=hC.b3;have KIt:=qww_ hC.rk (M:=M) (by rw[Hm.out];omega) q (by rw[Hm.out];exact hqm);have KW1:=h_ fun w' (hb:Below wr.heap.size wr w')=>qfk_ (HC.out.below hb) hM1 (by rw[Hm.out];omega) (q:Int) (x:Int)
      have KW2:=h_ fun w' (hb:Below wr.heap.size wr w')=>qfk_ (HC.out.below hb) hM1 (by rw[Hm.out];omega) (x:Int) (q:Int)
      have HB0:=h_ fun w' (hb:Below wr.heap.size wr w')=>(HC.out.below hb).b0
      rw[<-hit] at KIt;rw[<-hw1] at KW1;rw[<-hw2] at KW2;have KIt:=h_ KIt
      have HG9:Hid (it=false\/(w1=false/\w2=false)->∀ i:Nat,i<q+1->Mk.On M (x:Int) i->itself S i=false):=h_ fun hh i hi hon=>by
       rcases Nat.lt_or_ge i q with h|h
       exact HIT.out i h hon
       ·obtain rfl:i=q:=(by omega);rcases hh with hh|⟨hh1,hh2⟩
        rw[<-hit];exact hh
        ·rcases hon with hon|hon
         rw[hh1] at hw1;exact absurd hon (Mk.qfi_.1 hw1.symm);rw[hh2] at hw2;exact absurd hon (Mk.qfi_.1 hw2.symm)
      clear hC hit hw1 hw2 HIT;(go_wp2_with fail);refine KIt.out.mono ?_;rintro e w5 ⟨rfl,hb⟩;replace hb0:=tb_ hb0 hb;clear hb KIt c3;cases it
      ·(go_wp2_with fail);go_roundw
       case rel=>exact ⟨q+1,by omega,by go_num,hb0,h_ (HG9.out (by simp))⟩
       case measure=>simp[intOf];omega
      ·have c0:=HB0.out _ hb0;(go_wp2_with fail);refine (KW1.out _ hb0).mono ?_;rintro e w6 ⟨rfl,hb⟩;replace hb0:=tb_ hb0 hb;clear hb KW1 c0;cases w1
       ·have c0:=HB0.out _ hb0;(go_wp2_with fail);refine (KW2.out _ hb0).mono ?_;rintro e w7 ⟨rfl,hb⟩;replace hb0:=tb_ hb0 hb;clear hb KW2 c0;cases w2
        ·(go_wp2_with fail);go_roundw
         case rel=>exact ⟨q+1,by omega,by go_num,hb0,h_ (HG9.out (by simp))⟩
         case measure=>simp[intOf];omega
        ·have hB:=HBS.out.trans ((HC.out.below hb0).bel.mono HBS.out.size);(go_wp2_with fail);go_ret;exact ⟨rfl,hB⟩
       ·have hB:=HBS.out.trans ((HC.out.below hb0).bel.mono HBS.out.size);(go_wp2_with fail);go_ret;exact ⟨rfl,hB⟩
     ·have hqe:q=m:=(by omega);subst hqe;obtain ⟨S1,best,f1,f2,f3,f4,f5,f6,f7⟩:=qxd_ hM1 (by rw[Hm.out];exact hG1) hx1 (by rw[Hm.out];exact hx2) (by rw[Hm.out];exact HIT.out)
      have KX:Hid (∀w',Core v2 w' r bb bt mb mg bm rb none M M S S->Calls Tryz.prog 16 #[.pointer (some ⟨mb,0,none⟩),.int .i64 (x:Int)] w' fun e w''=>e = .returned (.int .i64 0)/\Core v2 w'' r bb bt mb mg bm rb none M M S1 S):=h_ fun w' hc=>by
       have:=qfl_ hc (by rw[Hm.out];omega) (x:Int);rw[f1] at this;exact this
      have KY:Hid (∀w',Core v2 w' r bb bt mb mg bm rb none M M S1 S->Calls Tryz.prog 17 #[.pointer (some ⟨mb,0,none⟩),.int .i64 (x:Int)] w' fun e w''=>e = .returned (.int .i64 0)/\Core v2 w'' r bb bt mb mg bm rb none M M S S):=h_ fun w' hc=>by
       have:=qfm_ hc hM1 (by rw[Hm.out];omega) (x:Int);rw[f2] at this;exact this
      have KF:=h_ fun w' (hc:Core v2 w' r bb bt mb mg bm rb none M M S1 S)=>(hc.rd hM1 (by rw[Hm.out];omega)).failed (x:Int)
      have KV:=h_ fun w' (hc:Core v2 w' r bb bt mb mg bm rb none M M S1 S)=>(hc.rd hM1 (by rw[Hm.out];omega)).valid (x:Int)
      have KB:=h_ fun w' (hc:Core v2 w' r bb bt mb mg bm rb none M M S1 S)=>(hc.rd hM1 (by rw[Hm.out];omega)).best hM1 (qma_ hM1 f3)
      have KW:=h_ fun w' (hc:Core v2 w' r bb bt mb mg bm rb none M M S1 S)=>qfk_ hc hM1 (by rw[Hm.out];omega) (x:Int) best
      rw[f4] at KF;rw[f5] at KV;rw[f6] at KB;rw[f7] at KW;have hC0:MbC v2 r bb bt mb mg bm rb M S S1 false false wq.drew:=Core.below hC ((Below.refl _ _).drew);clear f1 f2 f3 f4 f5 f6 f7 hC hb0 HIT hG1 HC HL;(go_wp2_with fail);generalize (x:Int)=N at *;refine qf_ (by kernel_rfl) (fun _=>True) (fun i v' _=>MbR bb bt mb N best i v') (fun l _ w'=>MbC v2 r bb bt mb mg bm rb M S S1 (l.getD 5 false) (l.getD 43 false) w') (fun _ _=>True) (fun _ _=>trivial) (fun _ _ _ _ _ _ h=>h) (by kernel_rfl) trivial (fun l hl=>by rw[hl,hl];exact hC0) ?_ ?_
      ·intro i o lz a wx ho' hnl dq Z;have hI:=Z.i;have hi:i<46:=(Array.getElem?_eq_some_iff.1 ho').1;obtain rfl|rfl|rfl|rfl|rfl|rfl|rfl|rfl|rfl|rfl|rfl|rfl|rfl|rfl|rfl|rfl|rfl|rfl|rfl|rfl|rfl|rfl|rfl|rfl|rfl|rfl|rfl|rfl|rfl|rfl|rfl|rfl|rfl|rfl|rfl|rfl|rfl|rfl|rfl|rfl|rfl|rfl|rfl|rfl|rfl|rfl:i=0\/i=1\/i=2\/i=3\/i=4\/i=5\/i=6\/i=7\/i=8\/i=9\/i=10\/i=11\/i=12\/i=13\/i=14\/i=15\/i=16\/i=17\/i=18\/i=19\/i=20\/i=21\/i=22\/i=23\/i=24\/i=25\/i=26\/i=27\/i=28\/i=29\/i=30\/i=31\/i=32\/i=33\/i=34\/i=35\/i=36\/i=37\/i=38\/i=39\/i=40\/i=41\/i=42\/i=43\/i=44\/i=45:=(by omega);all_goals obtain rfl:=Option.some.inj ho'
       exact dd_val hI (hz_ Z 0) (NN.qk_ rfl) (Z.old' 7);exact dd_val hI (hz_ Z 1) (ex_nil rfl (gd_ Z dq 0 98)) rfl;exact dd_val hI (hz_ Z 2) (ql_ rfl (gd_ Z dq 1 99) (bfield1 _ _)) rfl;exact dd_val hI (hz_ Z 3) (qn_ rfl (gd_ Z dq 2 100) (qbv_ (Core.b1 hI))) rfl;exact dd_val hI (hz_ Z 4) (NN.qk_ rfl) (Z.old' 2)
       ·have hsz:=hz_ Z 5;have hK:=hI;rw[hnl] at hK;refine qcl_ (f:=16) (args:=#[a.eval (.tmp 101),a.eval (.tmp 102)]) (by kernel_rfl) ?_;rw[show a.eval (.tmp 101)=_ from (gd_ Z dq 3 101),show a.eval (.tmp 102)=_ from (gd_ Z dq 4 102)];refine (KX.out _ hK).mono ?_;rintro e w' ⟨rfl,hc⟩;exact ⟨_,rfl,rfl,Jd.one hsz (by rw[qm_ lz 5 43 hsz (by decide),qey_ Z [37,36,35,24,23,22,16,15,14,13,7,6] (by kernel_rfl) hnl];exact hc)⟩
       exact dd_val hI (hz_ Z 6) (qadj_ rfl (gd_ Z dq 5 103) rfl) rfl;exact dd_val hI (hz_ Z 7) (NN.qk_ rfl) (gd_ Z dq 6 104);exact dd_val hI (hz_ Z 8) (NN.qk_ rfl) (Z.old' 7) (gy_ Z dq 7 105 rfl);exact dd_val hI (hz_ Z 9) (ex_nil rfl (gd_ Z dq 8 106)) rfl (gy_ Z dq 7 105 rfl);exact dd_val hI (hz_ Z 10) (ql_ rfl (gd_ Z dq 9 107) (bfield1 _ _)) rfl (gy_ Z dq 7 105 rfl);exact dd_val hI (hz_ Z 11) (qn_ rfl (gd_ Z dq 10 108) (qbv_ (Core.b1 hI))) rfl (gy_ Z dq 7 105 rfl);exact dd_val hI (hz_ Z 12) (NN.qk_ rfl) (Z.old' 2) (gy_ Z dq 7 105 rfl)
       ·have hsz:=hz_ Z 13;have h5:lz.getD 5 false=true:=qch_ Z [6] (by kernel_rfl) (dq ⟨7,.guard⟩ (by simp) rfl);have h43:lz.getD 43 false=false:=qey_ Z [37,36,35,24,23,22,16,15,14] (by kernel_rfl) hnl;have hK:=hI;rw[h5,h43] at hK;refine qcl_ (f:=18) (args:=#[a.eval (.tmp 109),a.eval (.tmp 110)]) (by kernel_rfl) ?_ (gy_ Z dq 7 105 rfl);rw[show a.eval (.tmp 109)=_ from (gd_ Z dq 11 109),show a.eval (.tmp 110)=_ from (gd_ Z dq 12 110)];refine (KF.out _ hK).mono ?_;rintro e w' ⟨rfl,hb⟩;exact ⟨_,rfl,rfl,qlt_ (Core.below hI hb) hsz (by decide) (by decide)⟩
       exact dd_val hI (hz_ Z 14) (ex_nots rfl (gd_ Z dq 13 111)) rfl (gy_ Z dq 7 105 rfl);exact dd_val hI (hz_ Z 15) (qil_ rfl (gd_ Z dq 7 105)) (by rw[if_neg (by decide)];exact (gd_ Z dq 14 112));exact dd_val hI (hz_ Z 16) (NN.qk_ rfl) (gd_ Z dq 15 113);exact dd_val hI (hz_ Z 17) (NN.qk_ rfl) (Z.old' 7) (gy_ Z dq 16 114 rfl);exact dd_val hI (hz_ Z 18) (ex_nil rfl (gd_ Z dq 17 115)) rfl (gy_ Z dq 16 114 rfl);exact dd_val hI (hz_ Z 19) (ql_ rfl (gd_ Z dq 18 116) (bfield1 _ _)) rfl (gy_ Z dq 16 114 rfl);exact dd_val hI (hz_ Z 20) (qn_ rfl (gd_ Z dq 19 117) (qbv_ (Core.b1 hI))) rfl (gy_ Z dq 16 114 rfl);exact dd_val hI (hz_ Z 21) (NN.qk_ rfl) (Z.old' 2) (gy_ Z dq 16 114 rfl)
       ·have hsz:=hz_ Z 22;have h5:lz.getD 5 false=true:=qch_ Z [15,14,13,7,6] (by kernel_rfl) (dq ⟨16,.guard⟩ (by simp) rfl);have h43:lz.getD 43 false=false:=qey_ Z [37,36,35,24,23] (by kernel_rfl) hnl;have hK:=hI;rw[h5,h43] at hK;refine qcl_ (f:=20) (args:=#[a.eval (.tmp 118),a.eval (.tmp 119)]) (by kernel_rfl) ?_ (gy_ Z dq 16 114 rfl);rw[show a.eval (.tmp 118)=_ from (gd_ Z dq 20 118),show a.eval (.tmp 119)=_ from (gd_ Z dq 21 119)];refine (KV.out _ hK).mono ?_;rintro e w' ⟨rfl,hb⟩;exact ⟨_,rfl,rfl,qlt_ (Core.below hI hb) hsz (by decide) (by decide)⟩
       exact dd_val hI (hz_ Z 23) (qil_ rfl (gd_ Z dq 16 114)) (by rw[if_neg (by decide)];exact (gd_ Z dq 22 120));exact dd_val hI (hz_ Z 24) (NN.qk_ rfl) (gd_ Z dq 23 121);exact dd_val hI (hz_ Z 25) (NN.qk_ rfl) (Z.old' 7) (gy_ Z dq 24 122 rfl);exact dd_val hI (hz_ Z 26) (ex_nil rfl (gd_ Z dq 25 123)) rfl (gy_ Z dq 24 122 rfl);exact dd_val hI (hz_ Z 27) (ql_ rfl (gd_ Z dq 26 124) (bfield0 _ _)) rfl (gy_ Z dq 24 122 rfl);exact dd_val hI (hz_ Z 28) (qn_ rfl (gd_ Z dq 27 125) (qqa_ (Core.b0 hI))) rfl (gy_ Z dq 24 122 rfl);exact dd_val hI (hz_ Z 29) (NN.qk_ rfl) (Z.old' 2) (gy_ Z dq 24 122 rfl);exact dd_val hI (hz_ Z 30) (NN.qk_ rfl) (Z.old' 7) (gy_ Z dq 24 122 rfl);exact dd_val hI (hz_ Z 31) (ex_nil rfl (gd_ Z dq 30 128)) rfl (gy_ Z dq 24 122 rfl);exact dd_val hI (hz_ Z 32) (ql_ rfl (gd_ Z dq 31 129) (bfield1 _ _)) rfl (gy_ Z dq 24 122 rfl);exact dd_val hI (hz_ Z 33) (qn_ rfl (gd_ Z dq 32 130) (qbv_ (Core.b1 hI))) rfl (gy_ Z dq 24 122 rfl)
       ·have hsz:=hz_ Z 34;have h5:lz.getD 5 false=true:=qch_ Z [23,22,16,15,14,13,7,6] (by kernel_rfl) (dq ⟨24,.guard⟩ (by simp) rfl);have h43:lz.getD 43 false=false:=qey_ Z [37,36,35] (by kernel_rfl) hnl;have hK:=hI;rw[h5,h43] at hK;refine qcl_ (f:=21) (args:=#[a.eval (.tmp 131)]) (by kernel_rfl) ?_ (gy_ Z dq 24 122 rfl);rw[show a.eval (.tmp 131)=_ from (gd_ Z dq 33 131)];refine (KB.out _ hK).mono ?_;rintro e w' ⟨rfl,hb⟩;exact ⟨_,rfl,rfl,qlt_ (Core.below hI hb) hsz (by decide) (by decide)⟩
       ·have hsz:=hz_ Z 35;have h5:lz.getD 5 false=true:=qch_ Z [23,22,16,15,14,13,7,6] (by kernel_rfl) (dq ⟨24,.guard⟩ (by simp) rfl);have h43:lz.getD 43 false=false:=qey_ Z [37,36] (by kernel_rfl) hnl;have hK:=hI;rw[h5,h43] at hK;refine qcl_ (f:=25) (args:=#[a.eval (.tmp 126),a.eval (.tmp 127),a.eval (.tmp 132)]) (by kernel_rfl) ?_ (gy_ Z dq 24 122 rfl);rw[show a.eval (.tmp 126)=_ from (gd_ Z dq 28 126),show a.eval (.tmp 127)=_ from (gd_ Z dq 29 127),show a.eval (.tmp 132)=_ from (gd_ Z dq 34 132)];refine (KW.out _ hK).mono ?_;rintro e w' ⟨rfl,hb⟩;exact ⟨_,rfl,rfl,qlt_ (Core.below hI hb) hsz (by decide) (by decide)⟩
       exact dd_val hI (hz_ Z 36) (qil_ rfl (gd_ Z dq 24 122)) (by rw[if_neg (by decide)];exact (gd_ Z dq 35 133));exact dd_val hI (hz_ Z 37) (NN.qk_ rfl) (gd_ Z dq 36 134);exact dd_val hI (hz_ Z 38) (NN.qk_ rfl) (Z.old' 7) (gy_ Z dq 37 135 rfl);exact dd_val hI (hz_ Z 39) (ex_nil rfl (gd_ Z dq 38 136)) rfl (gy_ Z dq 37 135 rfl);exact dd_val hI (hz_ Z 40) (ql_ rfl (gd_ Z dq 39 137) (bfield1 _ _)) rfl (gy_ Z dq 37 135 rfl);exact dd_val hI (hz_ Z 41) (qn_ rfl (gd_ Z dq 40 138) (qbv_ (Core.b1 hI))) rfl (gy_ Z dq 37 135 rfl);exact dd_val hI (hz_ Z 42) (NN.qk_ rfl) (Z.old' 2) (gy_ Z dq 37 135 rfl)
       ·have hsz:=hz_ Z 43;have h5:lz.getD 5 false=true:=qch_ Z [36,35,24,23,22,16,15,14,13,7,6] (by kernel_rfl) (dq ⟨37,.guard⟩ (by simp) rfl);have hK:=hI;rw[h5,hnl] at hK;refine qcl_ (f:=17) (args:=#[a.eval (.tmp 139),a.eval (.tmp 140)]) (by kernel_rfl) ?_ (gy_ Z dq 37 135 rfl);rw[show a.eval (.tmp 139)=_ from (gd_ Z dq 41 139),show a.eval (.tmp 140)=_ from (gd_ Z dq 42 140)];refine (KY.out _ hK).mono ?_;rintro e w' ⟨rfl,hc⟩;exact ⟨_,rfl,rfl,Jd.two hsz (by rw[qm_ lz 43 5 hsz (by decide),h5];exact hc)⟩
       exact dd_val hI (hz_ Z 44) (qadj_ rfl (gd_ Z dq 43 141) rfl) rfl (gy_ Z dq 37 135 rfl);exact dd_val hI (hz_ Z 45) (qil_ rfl (gd_ Z dq 37 135)) (by rw[if_neg (by decide)];exact (gd_ Z dq 44 142))
      ·intro lz a' w9 hall Z;have hC9:=Z.i;rw[hall 5 (by decide),hall 43 (by decide)] at hC9;replace hC9:Core v2 w9 r bb bt mb mg bm rb none M M S S:=hC9;have f7:a'.eval (.tmp 7) = .pointer (some ⟨bb,0,none⟩):=Z.old' 7;have f143:a'.eval (.tmp 143) = .bool false:=Z.got 45 _ 143 rfl (hall 45 (by decide)) rfl;obtain ⟨u,hu⟩:∃ u:Nat->Value,∀ t,u t=a'.eval (.tmp t):=⟨_,fun _=>rfl⟩;rw[qah_ a' 146 u Z.tsize Z.defers hu];rw[<-hu] at f7 f143;clear hu Z hall;simp only[List.range,List.range.loop,List.map_cons,List.map_nil];rw[f7,f143];clear f7 f143;have KQ9:=h_ (KQ.out _ hC9);have HC9:=h_ hC9;clear hC9;(go_wp2_with fail);refine KQ9.out.mono ?_;rintro e w8 ⟨rfl,hb⟩;have hB:=HBS.out.trans ((HC9.out.below hb).bel.mono HBS.out.size);clear hb KQ9 HC9;(go_wp2_with fail);go_ret;exact ⟨rfl,hB⟩
theorem qxf_ (p:NN.Pr) (hp:p.ok) (h1:p.one) (t:Tl) (tt:p.tl=t.C) (ht:t.ok) (gs:List Gt) (cs:List Ck) (hgn:t.gn=gs.length) (hcn:t.cn=cs.length) (a:Option Addr) (ls:List Ac) (n c:Nat) (hn:n=ls.length) (hl:n<=4611686018427387904) (hnow:∀ x ∈ ls,-9223372036854775808<=x.now/\x.now<=9223372036854775807) (N:Int) (w:World) (hT:Tab w) (hA:ActsAt w a ls) (hG:GatesAt w t.ga gs) (hC:ChecksAt w t.ca cs) :
  Ca_ 5 #[.agg (NN.prA p),.slice a n c,.int .i64 N] w (.bool true):=by
 have KA:HK_ w 9 #[] (.bool true):=h_ fun w' hb=>alive16 w' (hT.below hb)
 have KG:∀ g,grt16 p t gs cs ls=g->HK_ w 10 #[.agg (NN.prA p),.slice a n c] (.bool g):=fun g hg=>h_ fun w' hb=>qahz_ p hp t tt ht gs cs hgn hcn ls n a c hn hl g hg w' (hA.below hb) (hG.below hb) (hC.below hb)
 cases hg:grt16 p t gs cs ls
 ·have KG1:=KG false hg;unfold grt16 grtA at hg;simp only[Bool.or_eq_false_iff,decide_eq_false_iff_not,Bool.not_eq_false'] at hg;obtain ⟨⟨⟨⟨hg0,hg1⟩,hg2⟩,hg3⟩,hr⟩:=hg
  have hiv:2<=p.ivl:=by
   unfold ruleP NN.Pr.good at hr;simp only[Bool.and_eq_true,decide_eq_true_eq] at hr;exact hr.1.1.1.1.1.1.1.1.2
  have HA:=h_ fun w' (hb:Below w.heap.size w w')=>hA.below hb
  have HT:=h_ fun w' (hb:Below w.heap.size w w')=>hT.below hb
  have HGG:Hid (gs.length<=1000/\cs.length<=1000/\2<=p.ivl):=h_ ⟨by omega,by omega,hiv⟩;have KS:=h_ fun w' (hb:Below w.heap.size w w')=>qaii_ p hp h1 t tt ht gs cs hgn hcn (by omega) (by omega) hr w' (hT.below hb) (hG.below hb) (hC.below hb)
  exact qxe_ p hp ⟨p,t.g,gs,cs,100⟩ a n c N w ls HA (h_ hn) (by omega) HT HGG (h_ hnow) KA KG1 KS
 have KG1:=KG true hg;exact qrv_ p hp a n c N w KA KG1
end Go.Proofs.YtbhjpeadcimchaaGreatDoor.An
