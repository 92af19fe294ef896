import Derived.Test.YtbhjpeadcimchaaGreatDoorTBunQ43
set_option maxRecDepth 100000
set_option maxHeartbeats 8000000
namespace Go.Proofs.YtbhjpeadcimchaaGreatDoor.An
open Go.RowKit Mem Sc NN.Rg2
open Ar (Ent Ru entZ Ok isP Row Anc)
open Mk (failB childB validB pb verdict inval recon chg word itself)
theorem bfield0 (w:World) (g:Nat):(Instr.fieldAt 60 (.pointer (some ⟨g,0,none⟩)) 0).run Tryz.prog w = .ok (.pointer (some ⟨g,0,none⟩)) w:=by kernel_rfl
theorem bfield1 (w:World) (g:Nat):(Instr.fieldAt 60 (.pointer (some ⟨g,0,none⟩)) 1).run Tryz.prog w = .ok (.pointer (some ⟨g,1,none⟩)) w:=by kernel_rfl
theorem bfield2 (w:World) (g:Nat):(Instr.fieldAt 60 (.pointer (some ⟨g,0,none⟩)) 2).run Tryz.prog w = .ok (.pointer (some ⟨g,2,none⟩)) w:=by kernel_rfl
theorem bfield3 (w:World) (g:Nat):(Instr.fieldAt 60 (.pointer (some ⟨g,0,none⟩)) 3).run Tryz.prog w = .ok (.pointer (some ⟨g,3,none⟩)) w:=by kernel_rfl
theorem acfield1 (w:World) (g:Nat):(Instr.fieldAt 39 (.pointer (some ⟨g,0,none⟩)) 1).run Tryz.prog w = .ok (.pointer (some ⟨g,1,none⟩)) w:=by kernel_rfl
theorem acfield2 (w:World) (g:Nat):(Instr.fieldAt 39 (.pointer (some ⟨g,0,none⟩)) 2).run Tryz.prog w = .ok (.pointer (some ⟨g,69,none⟩)) w:=by kernel_rfl
theorem acfield3 (w:World) (g:Nat):(Instr.fieldAt 39 (.pointer (some ⟨g,0,none⟩)) 3).run Tryz.prog w = .ok (.pointer (some ⟨g,70,none⟩)) w:=by kernel_rfl
theorem acfield4 (w:World) (g:Nat):(Instr.fieldAt 39 (.pointer (some ⟨g,0,none⟩)) 4).run Tryz.prog w = .ok (.pointer (some ⟨g,71,none⟩)) w:=by kernel_rfl
theorem qabs_ {w:World} {p:Addr} {q:Option Addr} (h:w.cell? p=some (.pointer q)):(loadVar 56 p).run Tryz.prog w = .ok (.pointer q) w:=by
 go_simp
theorem qhi_ {w:World} {p:Addr} {q:Option Addr} (h:w.cell? p=some (.pointer q)):(loadVar 41 p).run Tryz.prog w = .ok (.pointer q) w:=by
 go_simp
theorem qjt_ {w:World} {p:Addr} {q:Option Addr} (h:w.cell? p=some (.pointer q)):(loadVar 57 p).run Tryz.prog w = .ok (.pointer q) w:=by
 go_simp
theorem qns_ {w:World} {p:Addr} {q:Option Addr} (h:w.cell? p=some (.pointer q)):(loadVar 58 p).run Tryz.prog w = .ok (.pointer q) w:=by
 go_simp
theorem load_i {w:World} {p:Addr} {z:Int} (h:w.cell? p=some (.int .i64 z)):(loadVar 3 p).run Tryz.prog w = .ok (.int .i64 z) w:=by
 go_simp
theorem load_b {w:World} {p:Addr} {z:Bool} (h:w.cell? p=some (.bool z)):(loadVar 4 p).run Tryz.prog w = .ok (.bool z) w:=by
 go_simp
theorem qim_ {ρ:Operand->Value} {o:Oper} {w:World} {x:Operand} {g off:Nat} {h:Hd} (ho:o.op = .load 30 x) (hx:ρ x = .pointer (some ⟨g,off,none⟩)) (hg:w.rangeAt g off (hdC h)) (hs:(hdC h).length=68):(execOp ρ o).run Tryz.prog w = .ok (.value (.agg (hdA h))) w :=
 ex_mid 30 ho hx Tryz.underlying30 rfl (hdinfo.trans (by rw[hs])) hg
theorem qju_ {ρ:Operand->Value} {o:Oper} {w:World} {x y:Operand} {z:Int} (ho:o.op = .binOp .eql 3 x y 3) (hx:ρ x = .int .i64 z) (hy:ρ y = .int .i64 z):(execOp ρ o).run Tryz.prog w = .ok (.value (.bool true)) w:=by
 unfold execOp;simp only[ho,hx,hy];go_simp
def DaR (bb bt bx:Nat) (y:Ac):Nat->Value->Prop
 | 0,v=>v = .pointer (some ⟨bb,0,none⟩)
 | 1,v=>v = .pointer (some ⟨bb,0,none⟩)
 | 2,v=>v = .pointer (some ⟨bb,0,none⟩)
 | 3,v=>v = .pointer (some ⟨bt,0,none⟩)
 | 4,v=>v = .pointer (some ⟨bx,1,none⟩)
 | 5,v=>v = .agg (hdA y.h)
 | 6,v=>v = .pointer (some ⟨bx,69,none⟩)
 | 7,v=>v = .int .i64 y.now
 | _,_=>True
def DbR (bb bm bx:Nat) (y:Ac):Nat->Value->Prop
 | 0,v=>v = .pointer (some ⟨bb,0,none⟩)
 | 1,v=>v = .pointer (some ⟨bb,0,none⟩)
 | 2,v=>v = .pointer (some ⟨bb,2,none⟩)
 | 3,v=>v = .pointer (some ⟨bm,0,none⟩)
 | 4,v=>v = .pointer (some ⟨bx,1,none⟩)
 | 5,v=>v = .agg (hdA y.h)
 | 6,v=>v = .pointer (some ⟨bx,69,none⟩)
 | 7,v=>v = .int .i64 y.now
 | _,_=>True
def DvR (bb mb bm rb bx:Nat) (y:Ac) (z:Int):Nat->Value->Prop
 | 0,v=>v = .pointer (some ⟨bb,0,none⟩)
 | 1,v=>v = .pointer (some ⟨bb,0,none⟩)
 | 2,v=>v = .pointer (some ⟨bb,1,none⟩)
 | 3,v=>v = .pointer (some ⟨mb,0,none⟩)
 | 4,v=>v = .pointer (some ⟨bx,70,none⟩)
 | 5,v=>v = .int .i64 y.n
 | 6,v=>v = .pointer (some ⟨bx,71,none⟩)
 | 7,v=>v = .bool y.rt
 | 8,v=>v = .int .i64 z
 | 9,v=>v = .pointer (some ⟨bb,0,none⟩)
 | 10,v=>v = .pointer (some ⟨bb,0,none⟩)
 | 11,v=>v = .pointer (some ⟨bb,3,none⟩)
 | 12,v=>v = .pointer (some ⟨rb,0,none⟩)
 | 13,v=>v = .pointer (some ⟨bb,0,none⟩)
 | 14,v=>v = .pointer (some ⟨bb,0,none⟩)
 | 15,v=>v = .pointer (some ⟨bb,2,none⟩)
 | 16,v=>v = .pointer (some ⟨bm,0,none⟩)
 | 17,v=>v = .pointer (some ⟨bx,70,none⟩)
 | 18,v=>v = .int .i64 y.n
 | 19,v=>v = .pointer (some ⟨bx,71,none⟩)
 | 20,v=>v = .bool y.rt
 | 21,v=>v = .int .i64 z
 | 22,v=>v = .bool true
 | 23,v=>v = .bool true
 | _,_=>True
def DwR (bb mb bm rb bx:Nat) (y:Ac) (z:Int):Nat->Value->Prop
 | 0,v=>v = .pointer (some ⟨bb,0,none⟩)
 | 1,v=>v = .pointer (some ⟨bb,0,none⟩)
 | 2,v=>v = .pointer (some ⟨bb,1,none⟩)
 | 3,v=>v = .pointer (some ⟨mb,0,none⟩)
 | 4,v=>v = .pointer (some ⟨bx,70,none⟩)
 | 5,v=>v = .int .i64 y.n
 | 6,v=>v = .int .i64 z
 | 7,v=>v = .pointer (some ⟨bb,0,none⟩)
 | 8,v=>v = .pointer (some ⟨bb,0,none⟩)
 | 9,v=>v = .pointer (some ⟨bb,3,none⟩)
 | 10,v=>v = .pointer (some ⟨rb,0,none⟩)
 | 11,v=>v = .pointer (some ⟨bb,0,none⟩)
 | 12,v=>v = .pointer (some ⟨bb,0,none⟩)
 | 13,v=>v = .pointer (some ⟨bb,2,none⟩)
 | 14,v=>v = .pointer (some ⟨bm,0,none⟩)
 | 15,v=>v = .pointer (some ⟨bx,70,none⟩)
 | 16,v=>v = .int .i64 y.n
 | 17,v=>v = .int .i64 z
 | 18,v=>v = .bool true
 | 19,v=>v = .bool true
 | _,_=>True
section
variable {P:Program} {ops:Array Oper} {o:Oper} {a:Act} {w:World} {Q:Exit->Act->World->Prop} {R:Nat->Value->Prop} {CB:Bool->Bool->World->Prop} {k1 k2 i:Nat} {l:Array Bool} {f:FuncId} {args:Array Value}
theorem qfn_ (h:(execOp a.eval o).run P w = .ok (.enter f args) w) (hc:Calls P f args w fun e w'=>∃ v,e = .returned v/\R i v/\CB ((l.setIfInBounds i true).getD k1 false) ((l.setIfInBounds i true).getD k2 false) w') (hn:Region.wanted o (yielded ops a.tmps)=true:=by exact qa_ rfl):if Region.wanted o (yielded ops a.tmps)=true then o.wp P a w (fun a' w'=>True/\True/\∃ v,a'=a.put o.dst v/\R i v/\CB ((l.setIfInBounds i true).getD k1 false) ((l.setIfInBounds i true).getD k2 false) w') Q else R i undef/\CB ((l.setIfInBounds i true).getD k1 false) ((l.setIfInBounds i true).getD k2 false) w :=
 qfl_ (C:=fun _=>True) (S:=fun _ _=>True) (R:=fun v _=>R i v) (J:=fun _ w=>CB ((l.setIfInBounds i true).getD k1 false) ((l.setIfInBounds i true).getD k2 false) w) hn h (hc.mono fun _ _ ⟨v,a1,a2,a3⟩=>⟨v,a1,trivial,trivial,a2,a3⟩)
end
theorem belowDrew (w:World):Below w.heap.size w w.drew:=(Below.refl _ _).drew
def DaC (w0:World) (r:Ru) (bb bt mb mg bm rb bx:Nat) (y:Ac) (M M' Mr:List Ent) (S:Mk.St) (b1 _b2:Bool) (w:World):Prop:=Core w0 w r bb bt mb mg bm rb (some (bx,y)) (if b1 then M' else M) Mr S S
def DbC (w0:World) (r:Ru) (bb bt mb mg bm rb bx:Nat) (y:Ac) (M M' Mt:List Ent) (S:Mk.St) (b1 _b2:Bool) (w:World):Prop:=Core w0 w r bb bt mb mg bm rb (some (bx,y)) Mt (if b1 then M' else M) S S
def DvC (w0:World) (r:Ru) (bb bt mb mg bm rb bx:Nat) (y:Ac) (M:List Ent) (S S':Mk.St) (b1 b2:Bool) (w:World):Prop:=Core w0 w r bb bt mb mg bm rb (some (bx,y)) M M (if b1 then S' else S) (if b2 then S' else S)
noncomputable def actS (M:List Ent) (S:Mk.St) (y:Ac):Mk.St:=if y.kind=1 then (verdict M.length S y.n y.rt).2 else if y.kind=2 then (inval M.length S y.n).2 else if y.kind=3 then (recon M S y.n).2 else S
def actM (r:Ru) (M:List Ent) (y:Ac):List Ent:=if y.kind=0 then (Ar.add r M y.h y.now).2 else M
theorem does0 (w0 w:World) (r:Ru) (bb bt mb mg bm rb:Nat) (M:List Ent) (S:Mk.St) (h:Core w0 w r bb bt mb mg bm rb none M M S S) (HM:Hid (Ok r M/\M.length<=100)) (HG:Hid (r.gs.length<=1000/\r.cs.length<=1000/\2<=r.p.ivl)) (HT:Hid (∀w',Below w0.heap.size w0 w'->Tab w')) (y:Ac) (q0:y.h.ok) (HNy:Hid (-9223372036854775808<=y.now/\y.now<=9223372036854775807)) (hk:y.kind=0) :
  Calls Tryz.prog 12 #[.pointer (some ⟨bb,0,none⟩),.agg (acA y)] w fun e w'=>e = .returned (.bool true)/\Core w0 w' r bb bt mb mg bm rb none (actM r M y) (actM r M y) (actS M S y) (actS M S y):=by
 have e1:actM r M y=(Ar.add r M y.h y.now).2:=by unfold actM;rw[if_pos hk]
 have e2:actS M S y=S:=by unfold actS;rw[hk];rfl
 rw[e1,e2];have HK:=h_ hk;clear e1 e2 hk;have hml:M.length<=100:=HM.out.2;have hzy:=qi_ q0;have hza:=qcf_ q0;have hb0:Below w.heap.size w (w.alloc (.cells (acA y) 39)):=(Below.refl _ _).alloc (Nat.le_refl _) _;obtain ⟨bx,hbx⟩:∃ bx,bx=w.heap.size:=⟨_,rfl⟩;have hY:AcAt (w.alloc (.cells (acA y) 39)) bx y:=by rw[hbx];exact Has.new _ _
 have hC:=h.box hb0 hbx hY;have HBX:=h_ hbx;clear h hb0 hY hbx;go_enter Tryz.func12,Tryz.ntmps12;go_upto_region 1 with fail
 rw[<-HBX.out];generalize World.alloc _ _=v1 at *;have c0:=hC.act.kind;rw[HK.out] at c0;go_wp2_with fail
 have hC:DaC w0 r bb bt mb mg bm rb bx y M (Ar.add r M y.h y.now).2 M S false false v1.drew:=hC.below (belowDrew v1);refine qf_ (by kernel_rfl) (fun _=>True) (fun i v' _=>DaR bb bt bx y i v') (fun l _ w'=>(DaC w0 r bb bt mb mg bm rb bx y M (Ar.add r M y.h y.now).2 M S) (l.getD 8 false) (l.getD 99 false) w') (fun _ _=>True) (fun _ _=>trivial) (fun _ _ _ _ _ _ h=>h) (by kernel_rfl) trivial ?_ ?_ ?_;intro l hl;rw[hl,hl];exact hC
 ·intro i o lz a wx ho' hnl dq Z;have hI:=Z.i;have hi:i<9:=(Array.getElem?_eq_some_iff.1 ho').1;have hK:=hI;unfold DaC at hK;obtain rfl|rfl|rfl|rfl|rfl|rfl|rfl|rfl|rfl:i=0\/i=1\/i=2\/i=3\/i=4\/i=5\/i=6\/i=7\/i=8:=by omega
  all_goals obtain rfl:=Option.some.inj ho'
  exact dd_val hI (hz_ Z 0) (NN.qn_ rfl) ((Z.old' 0));exact dd_val hI (hz_ Z 1) (ex_nil rfl (gd_ Z dq 0 9)) (rfl);exact dd_val hI (hz_ Z 2) (qm_ rfl (gd_ Z dq 1 10) (bfield0 _ _)) (rfl);exact dd_val hI (hz_ Z 3) (qr_ rfl (gd_ Z dq 2 11) (qabs_ hK.b0)) (rfl);exact dd_val hI (hz_ Z 4) (qm_ rfl (Z.old' 3) (acfield1 _ _)) (rfl);exact dd_val hI (hz_ Z 5) (qim_ rfl (gd_ Z dq 4 13) hK.act.head hzy) (rfl);exact dd_val hI (hz_ Z 6) (qm_ rfl (Z.old' 3) (acfield2 _ _)) (rfl);exact dd_val hI (hz_ Z 7) (qr_ rfl (gd_ Z dq 6 15) (load_i (hK.act.now q0))) (rfl)
  ·have hsz:=hz_ Z 8;have hI0:=hK;rw[hnl,if_neg Bool.false_ne_true] at hI0;refine qfn_ (f:=32) (args:=#[a.eval (.tmp 12),a.eval (.tmp 14),a.eval (.tmp 16)]) (by kernel_rfl) ?_;rw[show a.eval (.tmp 12)=_ from (gd_ Z dq 3 12),show a.eval (.tmp 14)=_ from (gd_ Z dq 5 14),show a.eval (.tmp 16)=_ from (gd_ Z dq 7 16)];refine (qabp_ hI0 HM.out.1 (by omega) HG.out.1 HG.out.2.1 (HT.out _ hI0.bel) y.h q0 y.now).mono ?_;rintro e w' ⟨rfl,hc⟩;exact ⟨_,rfl,trivial,Jd.one hsz (hc)⟩
 ·intro lz a' v2 hall Z;have hI:=Z.i;have hk1:=hall 8 (by decide);have hk2:lz.getD 99 false=false:=by rw[Array.getD_eq_getD_getElem?,Array.getElem?_eq_none (by rw[Z.size];decide)];rfl
  rw[hk1,hk2] at hI;have f0:a'.eval (.tmp 0) = .pointer (some ⟨bb,0,none⟩):=Z.old' 0;have f3:a'.eval (.tmp 3) = .pointer (some ⟨bx,0,none⟩):=Z.old' 3;obtain ⟨u,hu⟩:∃ u:Nat->Value,∀ t,u t=a'.eval (.tmp t):=⟨_,fun _=>rfl⟩;rw[qaj_ a' 94 u Z.tsize Z.defers hu];rw[<-hu] at f0 f3;clear hu Z hall hk1 hk2;simp only[List.range,List.range.loop,List.map_cons,List.map_nil];rw[f0,f3];clear f0 f3;have hC:DbC w0 r bb bt mb mg bm rb bx y M (Ar.add r M y.h y.now).2 (Ar.add r M y.h y.now).2 S false false v2.drew:=Core.below hI (belowDrew v2);clear hI;go_wp2_with fail
  refine qf_ (by kernel_rfl) (fun _=>True) (fun i v' _=>DbR bb bm bx y i v') (fun l _ w'=>(DbC w0 r bb bt mb mg bm rb bx y M (Ar.add r M y.h y.now).2 (Ar.add r M y.h y.now).2 S) (l.getD 8 false) (l.getD 99 false) w') (fun _ _=>True) (fun _ _=>trivial) (fun _ _ _ _ _ _ h=>h) (by kernel_rfl) trivial ?_ ?_ ?_;intro l hl;rw[hl,hl];exact hC
  ·intro i o lz a wx ho' hnl dq Z;have hI:=Z.i;have hi:i<9:=(Array.getElem?_eq_some_iff.1 ho').1;have hK:=hI;unfold DbC at hK;obtain rfl|rfl|rfl|rfl|rfl|rfl|rfl|rfl|rfl:i=0\/i=1\/i=2\/i=3\/i=4\/i=5\/i=6\/i=7\/i=8:=by omega
   all_goals obtain rfl:=Option.some.inj ho'
   exact dd_val hI (hz_ Z 0) (NN.qn_ rfl) ((Z.old' 0));exact dd_val hI (hz_ Z 1) (ex_nil rfl (gd_ Z dq 0 18)) (rfl);exact dd_val hI (hz_ Z 2) (qm_ rfl (gd_ Z dq 1 19) (bfield2 _ _)) (rfl);exact dd_val hI (hz_ Z 3) (qr_ rfl (gd_ Z dq 2 20) (qjt_ hK.b2)) (rfl);exact dd_val hI (hz_ Z 4) (qm_ rfl (Z.old' 3) (acfield1 _ _)) (rfl);exact dd_val hI (hz_ Z 5) (qim_ rfl (gd_ Z dq 4 22) hK.act.head hzy) (rfl);exact dd_val hI (hz_ Z 6) (qm_ rfl (Z.old' 3) (acfield2 _ _)) (rfl);exact dd_val hI (hz_ Z 7) (qr_ rfl (gd_ Z dq 6 24) (load_i (hK.act.now q0))) (rfl)
   ·have hsz:=hz_ Z 8;have hI0:=hK;rw[hnl,if_neg Bool.false_ne_true] at hI0;refine qfn_ (f:=33) (args:=#[a.eval (.tmp 21),a.eval (.tmp 23),a.eval (.tmp 25)]) (by kernel_rfl) ?_;rw[show a.eval (.tmp 21)=_ from (gd_ Z dq 3 21),show a.eval (.tmp 23)=_ from (gd_ Z dq 5 23),show a.eval (.tmp 25)=_ from (gd_ Z dq 7 25)];refine (qabq_ hI0 HM.out.1 (by omega) HG.out.1 HG.out.2.1 HG.out.2.2 y.h q0 y.now HNy.out.1 HNy.out.2).mono ?_;rintro e w' ⟨rfl,hc⟩;exact ⟨_,rfl,trivial,Jd.one hsz (hc)⟩
  ·intro lz a' v3 hall Z;have hI:=Z.i;have hk1:=hall 8 (by decide);have hk2:lz.getD 99 false=false:=by rw[Array.getD_eq_getD_getElem?,Array.getElem?_eq_none (by rw[Z.size];decide)];rfl
   rw[hk1,hk2] at hI;obtain ⟨u,hu⟩:∃ u:Nat->Value,∀ t,u t=a'.eval (.tmp t):=⟨_,fun _=>rfl⟩;rw[qaj_ a' 94 u Z.tsize Z.defers hu];clear hu Z hall hk1 hk2;simp only[List.range,List.range.loop,List.map_cons,List.map_nil];have hD:=h_ (Core.loose hI);clear hI;go_wp2_with fail
   go_ret;exact ⟨rfl,hD.out⟩
theorem does1 (w0 w:World) (r:Ru) (bb bt mb mg bm rb:Nat) (M:List Ent) (S:Mk.St) (h:Core w0 w r bb bt mb mg bm rb none M M S S) (HM:Hid (Ok r M/\M.length<=100)) (y:Ac) (q0:y.h.ok) (hk:y.kind=1) :
  Calls Tryz.prog 12 #[.pointer (some ⟨bb,0,none⟩),.agg (acA y)] w fun e w'=>e = .returned (.bool true)/\Core w0 w' r bb bt mb mg bm rb none (actM r M y) (actM r M y) (actS M S y) (actS M S y):=by
 have e1:actM r M y=M:=by unfold actM;rw[if_neg (by omega)]
 have e2:actS M S y=(verdict M.length S y.n y.rt).2:=by unfold actS;rw[if_pos hk]
 rw[e1,e2];have HK:=h_ hk;clear e1 e2 hk;have hml:M.length<=100:=HM.out.2;have hzy:=qi_ q0;have hza:=qcf_ q0;have hb0:Below w.heap.size w (w.alloc (.cells (acA y) 39)):=(Below.refl _ _).alloc (Nat.le_refl _) _;obtain ⟨bx,hbx⟩:∃ bx,bx=w.heap.size:=⟨_,rfl⟩;have hY:AcAt (w.alloc (.cells (acA y) 39)) bx y:=by rw[hbx];exact Has.new _ _
 have hC:=h.box hb0 hbx hY;have HBX:=h_ hbx;clear h hb0 hY hbx;go_enter Tryz.func12,Tryz.ntmps12;go_upto_region 1 with fail
 rw[<-HBX.out];generalize World.alloc _ _=v1 at *;have c0:=hC.act.kind;rw[HK.out] at c0;obtain ⟨S1,hS1⟩:∃ S1,(verdict M.length S y.n y.rt).2=S1:=⟨_,rfl⟩;obtain ⟨z,hz⟩:∃ z,(verdict M.length S y.n y.rt).1=z:=⟨_,rfl⟩;have HS1:=h_ hS1;have HZ:=h_ hz;clear hS1 hz;go_wp2_with fail
 have hC:DvC w0 r bb bt mb mg bm rb bx y M S S1 false false v1.drew:=hC.below (belowDrew v1);refine qf_ (by kernel_rfl) (fun _=>True) (fun i v' _=>DvR bb mb bm rb bx y z i v') (fun l _ w'=>(DvC w0 r bb bt mb mg bm rb bx y M S S1) (l.getD 8 false) (l.getD 21 false) w') (fun _ _=>True) (fun _ _=>trivial) (fun _ _ _ _ _ _ h=>h) (by kernel_rfl) trivial ?_ ?_ ?_;intro l hl;rw[hl,hl];exact hC
 ·intro i o lz a wx ho' hnl dq Z;have hI:=Z.i;have hi:i<24:=(Array.getElem?_eq_some_iff.1 ho').1;have hK:=hI;unfold DvC at hK;obtain rfl|rfl|rfl|rfl|rfl|rfl|rfl|rfl|rfl|rfl|rfl|rfl|rfl|rfl|rfl|rfl|rfl|rfl|rfl|rfl|rfl|rfl|rfl|rfl:i=0\/i=1\/i=2\/i=3\/i=4\/i=5\/i=6\/i=7\/i=8\/i=9\/i=10\/i=11\/i=12\/i=13\/i=14\/i=15\/i=16\/i=17\/i=18\/i=19\/i=20\/i=21\/i=22\/i=23:=by omega
  all_goals obtain rfl:=Option.some.inj ho'
  exact dd_val hI (hz_ Z 0) (NN.qn_ rfl) ((Z.old' 0));exact dd_val hI (hz_ Z 1) (ex_nil rfl (gd_ Z dq 0 29)) (rfl);exact dd_val hI (hz_ Z 2) (qm_ rfl (gd_ Z dq 1 30) (bfield1 _ _)) (rfl);exact dd_val hI (hz_ Z 3) (qr_ rfl (gd_ Z dq 2 31) (qhi_ hK.b1)) (rfl);exact dd_val hI (hz_ Z 4) (qm_ rfl (Z.old' 3) (acfield3 _ _)) (rfl);exact dd_val hI (hz_ Z 5) (qr_ rfl (gd_ Z dq 4 33) (load_i (hK.act.num q0))) (rfl);exact dd_val hI (hz_ Z 6) (qm_ rfl (Z.old' 3) (acfield4 _ _)) (rfl);exact dd_val hI (hz_ Z 7) (qr_ rfl (gd_ Z dq 6 35) (load_b (hK.act.right q0))) (rfl)
  ·have hsz:=hz_ Z 8;have hI0:=hK;rw[hnl] at hI0
   have hI1:Core w0 wx r bb bt mb mg bm rb (some (bx,y)) M M S (if (lz.setIfInBounds 8 true).getD 21 false=true then S1 else S):=by
    rw[ql_ lz 8 21 hsz (by decide)];exact hI0
   refine qfn_ (f:=15) (args:=#[a.eval (.tmp 32),a.eval (.tmp 34),a.eval (.tmp 36)]) (by kernel_rfl) ?_;rw[show a.eval (.tmp 32)=_ from (gd_ Z dq 3 32),show a.eval (.tmp 34)=_ from (gd_ Z dq 5 34),show a.eval (.tmp 36)=_ from (gd_ Z dq 7 36)];refine (qlr_ hI1 (by omega) y.n y.rt).mono ?_;rintro e w' ⟨rfl,hc⟩;rw[HS1.out] at hc;exact ⟨_,rfl,(by rw[<-HZ.out];rfl),Jd.one hsz (hc)⟩
  exact dd_val hI (hz_ Z 9) (NN.qn_ rfl) ((Z.old' 0));exact dd_val hI (hz_ Z 10) (ex_nil rfl (gd_ Z dq 9 38)) (rfl);exact dd_val hI (hz_ Z 11) (qm_ rfl (gd_ Z dq 10 39) (bfield3 _ _)) (rfl);exact dd_val hI (hz_ Z 12) (qr_ rfl (gd_ Z dq 11 40) (qns_ hK.b3)) (rfl);exact dd_val hI (hz_ Z 13) (NN.qn_ rfl) ((Z.old' 0));exact dd_val hI (hz_ Z 14) (ex_nil rfl (gd_ Z dq 13 42)) (rfl);exact dd_val hI (hz_ Z 15) (qm_ rfl (gd_ Z dq 14 43) (bfield2 _ _)) (rfl);exact dd_val hI (hz_ Z 16) (qr_ rfl (gd_ Z dq 15 44) (qjt_ hK.b2)) (rfl);exact dd_val hI (hz_ Z 17) (qm_ rfl (Z.old' 3) (acfield3 _ _)) (rfl);exact dd_val hI (hz_ Z 18) (qr_ rfl (gd_ Z dq 17 46) (load_i (hK.act.num q0))) (rfl);exact dd_val hI (hz_ Z 19) (qm_ rfl (Z.old' 3) (acfield4 _ _)) (rfl);exact dd_val hI (hz_ Z 20) (qr_ rfl (gd_ Z dq 19 48) (load_b (hK.act.right q0))) (rfl)
  ·have hsz:=hz_ Z 21;have hI0:=hK;rw[hnl] at hI0
   have hI1:Core w0 wx r bb bt mb mg bm rb (some (bx,y)) M M (if (lz.setIfInBounds 21 true).getD 8 false=true then S1 else S) S:=by
    rw[ql_ lz 21 8 hsz (by decide)];exact hI0
   refine qfn_ (f:=34) (args:=#[a.eval (.tmp 41),a.eval (.tmp 45),a.eval (.tmp 47),a.eval (.tmp 49)]) (by kernel_rfl) ?_;rw[show a.eval (.tmp 41)=_ from (gd_ Z dq 12 41),show a.eval (.tmp 45)=_ from (gd_ Z dq 16 45),show a.eval (.tmp 47)=_ from (gd_ Z dq 18 47),show a.eval (.tmp 49)=_ from (gd_ Z dq 20 49)];refine (qls_ hI1 (by omega) y.n y.rt).mono ?_;rintro e w' ⟨rfl,hc⟩;rw[HS1.out] at hc;exact ⟨_,rfl,(by rw[<-HZ.out];rfl),Jd.two hsz (hc)⟩
  exact dd_val hI (hz_ Z 22) (qju_ rfl (gd_ Z dq 8 37) (gd_ Z dq 21 50)) (rfl);exact dd_val hI (hz_ Z 23) (NN.qaf_ rfl) ((gd_ Z dq 22 51))
 ·intro lz a' v2 hall Z;have hI:=Z.i;have hk1:=hall 8 (by decide);have hk2:=hall 21 (by decide);rw[hk1,hk2] at hI;have f4:a'.eval (.tmp 4) = .bool true:=Z.got 23 _ 4 rfl (hall 23 (by decide)) rfl;obtain ⟨u,hu⟩:∃ u:Nat->Value,∀ t,u t=a'.eval (.tmp t):=⟨_,fun _=>rfl⟩;rw[qaj_ a' 94 u Z.tsize Z.defers hu];rw[<-hu] at f4;clear hu Z hall hk1 hk2;simp only[List.range,List.range.loop,List.map_cons,List.map_nil];rw[f4];clear f4;have hD:=h_ (Core.loose hI);clear hI;go_wp2_with fail
  go_ret;exact ⟨rfl,by rw[HS1.out];exact hD.out⟩
theorem does2 (w0 w:World) (r:Ru) (bb bt mb mg bm rb:Nat) (M:List Ent) (S:Mk.St) (h:Core w0 w r bb bt mb mg bm rb none M M S S) (HM:Hid (Ok r M/\M.length<=100)) (y:Ac) (q0:y.h.ok) (hk:y.kind=2) :
  Calls Tryz.prog 12 #[.pointer (some ⟨bb,0,none⟩),.agg (acA y)] w fun e w'=>e = .returned (.bool true)/\Core w0 w' r bb bt mb mg bm rb none (actM r M y) (actM r M y) (actS M S y) (actS M S y):=by
 have e1:actM r M y=M:=by unfold actM;rw[if_neg (by omega)]
 have e2:actS M S y=(inval M.length S y.n).2:=by unfold actS;rw[if_neg (by omega),if_pos hk]
 rw[e1,e2];have HK:=h_ hk;clear e1 e2 hk;have hml:M.length<=100:=HM.out.2;have hzy:=qi_ q0;have hza:=qcf_ q0;have hb0:Below w.heap.size w (w.alloc (.cells (acA y) 39)):=(Below.refl _ _).alloc (Nat.le_refl _) _;obtain ⟨bx,hbx⟩:∃ bx,bx=w.heap.size:=⟨_,rfl⟩;have hY:AcAt (w.alloc (.cells (acA y) 39)) bx y:=by rw[hbx];exact Has.new _ _
 have hC:=h.box hb0 hbx hY;have HBX:=h_ hbx;clear h hb0 hY hbx;go_enter Tryz.func12,Tryz.ntmps12;go_upto_region 1 with fail
 rw[<-HBX.out];generalize World.alloc _ _=v1 at *;have c0:=hC.act.kind;rw[HK.out] at c0;obtain ⟨S1,hS1⟩:∃ S1,(inval M.length S y.n).2=S1:=⟨_,rfl⟩;obtain ⟨z,hz⟩:∃ z,(inval M.length S y.n).1=z:=⟨_,rfl⟩;have HS1:=h_ hS1;have HZ:=h_ hz;clear hS1 hz;go_wp2_with fail
 have hC:DvC w0 r bb bt mb mg bm rb bx y M S S1 false false v1.drew:=hC.below (belowDrew v1);refine qf_ (by kernel_rfl) (fun _=>True) (fun i v' _=>DwR bb mb bm rb bx y z i v') (fun l _ w'=>(DvC w0 r bb bt mb mg bm rb bx y M S S1) (l.getD 6 false) (l.getD 17 false) w') (fun _ _=>True) (fun _ _=>trivial) (fun _ _ _ _ _ _ h=>h) (by kernel_rfl) trivial ?_ ?_ ?_;intro l hl;rw[hl,hl];exact hC
 ·intro i o lz a wx ho' hnl dq Z;have hI:=Z.i;have hi:i<20:=(Array.getElem?_eq_some_iff.1 ho').1;have hK:=hI;unfold DvC at hK;obtain rfl|rfl|rfl|rfl|rfl|rfl|rfl|rfl|rfl|rfl|rfl|rfl|rfl|rfl|rfl|rfl|rfl|rfl|rfl|rfl:i=0\/i=1\/i=2\/i=3\/i=4\/i=5\/i=6\/i=7\/i=8\/i=9\/i=10\/i=11\/i=12\/i=13\/i=14\/i=15\/i=16\/i=17\/i=18\/i=19:=by omega
  all_goals obtain rfl:=Option.some.inj ho'
  exact dd_val hI (hz_ Z 0) (NN.qn_ rfl) ((Z.old' 0));exact dd_val hI (hz_ Z 1) (ex_nil rfl (gd_ Z dq 0 54)) (rfl);exact dd_val hI (hz_ Z 2) (qm_ rfl (gd_ Z dq 1 55) (bfield1 _ _)) (rfl);exact dd_val hI (hz_ Z 3) (qr_ rfl (gd_ Z dq 2 56) (qhi_ hK.b1)) (rfl);exact dd_val hI (hz_ Z 4) (qm_ rfl (Z.old' 3) (acfield3 _ _)) (rfl);exact dd_val hI (hz_ Z 5) (qr_ rfl (gd_ Z dq 4 58) (load_i (hK.act.num q0))) (rfl)
  ·have hsz:=hz_ Z 6;have hI0:=hK;rw[hnl] at hI0
   have hI1:Core w0 wx r bb bt mb mg bm rb (some (bx,y)) M M S (if (lz.setIfInBounds 6 true).getD 17 false=true then S1 else S):=by
    rw[ql_ lz 6 17 hsz (by decide)];exact hI0
   refine qfn_ (f:=16) (args:=#[a.eval (.tmp 57),a.eval (.tmp 59)]) (by kernel_rfl) ?_;rw[show a.eval (.tmp 57)=_ from (gd_ Z dq 3 57),show a.eval (.tmp 59)=_ from (gd_ Z dq 5 59)];refine (qrq_ hI1 (by omega) y.n).mono ?_;rintro e w' ⟨rfl,hc⟩;rw[HS1.out] at hc;exact ⟨_,rfl,(by rw[<-HZ.out];rfl),Jd.one hsz (hc)⟩
  exact dd_val hI (hz_ Z 7) (NN.qn_ rfl) ((Z.old' 0));exact dd_val hI (hz_ Z 8) (ex_nil rfl (gd_ Z dq 7 61)) (rfl);exact dd_val hI (hz_ Z 9) (qm_ rfl (gd_ Z dq 8 62) (bfield3 _ _)) (rfl);exact dd_val hI (hz_ Z 10) (qr_ rfl (gd_ Z dq 9 63) (qns_ hK.b3)) (rfl);exact dd_val hI (hz_ Z 11) (NN.qn_ rfl) ((Z.old' 0));exact dd_val hI (hz_ Z 12) (ex_nil rfl (gd_ Z dq 11 65)) (rfl);exact dd_val hI (hz_ Z 13) (qm_ rfl (gd_ Z dq 12 66) (bfield2 _ _)) (rfl);exact dd_val hI (hz_ Z 14) (qr_ rfl (gd_ Z dq 13 67) (qjt_ hK.b2)) (rfl);exact dd_val hI (hz_ Z 15) (qm_ rfl (Z.old' 3) (acfield3 _ _)) (rfl);exact dd_val hI (hz_ Z 16) (qr_ rfl (gd_ Z dq 15 69) (load_i (hK.act.num q0))) (rfl)
  ·have hsz:=hz_ Z 17;have hI0:=hK;rw[hnl] at hI0
   have hI1:Core w0 wx r bb bt mb mg bm rb (some (bx,y)) M M (if (lz.setIfInBounds 17 true).getD 6 false=true then S1 else S) S:=by
    rw[ql_ lz 17 6 hsz (by decide)];exact hI0
   refine qfn_ (f:=35) (args:=#[a.eval (.tmp 64),a.eval (.tmp 68),a.eval (.tmp 70)]) (by kernel_rfl) ?_;rw[show a.eval (.tmp 64)=_ from (gd_ Z dq 10 64),show a.eval (.tmp 68)=_ from (gd_ Z dq 14 68),show a.eval (.tmp 70)=_ from (gd_ Z dq 16 70)];refine (qrr_ hI1 (by omega) y.n).mono ?_;rintro e w' ⟨rfl,hc⟩;rw[HS1.out] at hc;exact ⟨_,rfl,(by rw[<-HZ.out];rfl),Jd.two hsz (hc)⟩
  exact dd_val hI (hz_ Z 18) (qju_ rfl (gd_ Z dq 6 60) (gd_ Z dq 17 71)) (rfl);exact dd_val hI (hz_ Z 19) (NN.qaf_ rfl) ((gd_ Z dq 18 72))
 ·intro lz a' v2 hall Z;have hI:=Z.i;have hk1:=hall 6 (by decide);have hk2:=hall 17 (by decide);rw[hk1,hk2] at hI;have f4:a'.eval (.tmp 4) = .bool true:=Z.got 19 _ 4 rfl (hall 19 (by decide)) rfl;obtain ⟨u,hu⟩:∃ u:Nat->Value,∀ t,u t=a'.eval (.tmp t):=⟨_,fun _=>rfl⟩;rw[qaj_ a' 94 u Z.tsize Z.defers hu];rw[<-hu] at f4;clear hu Z hall hk1 hk2;simp only[List.range,List.range.loop,List.map_cons,List.map_nil];rw[f4];clear f4;have hD:=h_ (Core.loose hI);clear hI;go_wp2_with fail
  go_ret;exact ⟨rfl,by rw[HS1.out];exact hD.out⟩
theorem does3 (w0 w:World) (r:Ru) (bb bt mb mg bm rb:Nat) (M:List Ent) (S:Mk.St) (h:Core w0 w r bb bt mb mg bm rb none M M S S) (HM:Hid (Ok r M/\M.length<=100)) (y:Ac) (q0:y.h.ok) (hk:y.kind=3) :
  Calls Tryz.prog 12 #[.pointer (some ⟨bb,0,none⟩),.agg (acA y)] w fun e w'=>e = .returned (.bool true)/\Core w0 w' r bb bt mb mg bm rb none (actM r M y) (actM r M y) (actS M S y) (actS M S y):=by
 have e1:actM r M y=M:=by unfold actM;rw[if_neg (by omega)]
 have e2:actS M S y=(recon M S y.n).2:=by unfold actS;rw[if_neg (by omega),if_neg (by omega),if_pos hk]
 rw[e1,e2];have HK:=h_ hk;clear e1 e2 hk;have hml:M.length<=100:=HM.out.2;have hzy:=qi_ q0;have hza:=qcf_ q0;have hb0:Below w.heap.size w (w.alloc (.cells (acA y) 39)):=(Below.refl _ _).alloc (Nat.le_refl _) _;obtain ⟨bx,hbx⟩:∃ bx,bx=w.heap.size:=⟨_,rfl⟩;have hY:AcAt (w.alloc (.cells (acA y) 39)) bx y:=by rw[hbx];exact Has.new _ _
 have hC:=h.box hb0 hbx hY;have HBX:=h_ hbx;clear h hb0 hY hbx;go_enter Tryz.func12,Tryz.ntmps12;go_upto_region 1 with fail
 rw[<-HBX.out];generalize World.alloc _ _=v1 at *;have c0:=hC.act.kind;rw[HK.out] at c0;obtain ⟨S1,hS1⟩:∃ S1,(recon M S y.n).2=S1:=⟨_,rfl⟩;obtain ⟨z,hz⟩:∃ z,(recon M S y.n).1=z:=⟨_,rfl⟩;have HS1:=h_ hS1;have HZ:=h_ hz;clear hS1 hz;go_wp2_with fail
 have hC:DvC w0 r bb bt mb mg bm rb bx y M S S1 false false v1.drew:=hC.below (belowDrew v1);refine qf_ (by kernel_rfl) (fun _=>True) (fun i v' _=>DwR bb mb bm rb bx y z i v') (fun l _ w'=>(DvC w0 r bb bt mb mg bm rb bx y M S S1) (l.getD 6 false) (l.getD 17 false) w') (fun _ _=>True) (fun _ _=>trivial) (fun _ _ _ _ _ _ h=>h) (by kernel_rfl) trivial ?_ ?_ ?_;intro l hl;rw[hl,hl];exact hC
 ·intro i o lz a wx ho' hnl dq Z;have hI:=Z.i;have hi:i<20:=(Array.getElem?_eq_some_iff.1 ho').1;have hK:=hI;unfold DvC at hK;obtain rfl|rfl|rfl|rfl|rfl|rfl|rfl|rfl|rfl|rfl|rfl|rfl|rfl|rfl|rfl|rfl|rfl|rfl|rfl|rfl:i=0\/i=1\/i=2\/i=3\/i=4\/i=5\/i=6\/i=7\/i=8\/i=9\/i=10\/i=11\/i=12\/i=13\/i=14\/i=15\/i=16\/i=17\/i=18\/i=19:=by omega
  all_goals obtain rfl:=Option.some.inj ho'
  exact dd_val hI (hz_ Z 0) (NN.qn_ rfl) ((Z.old' 0));exact dd_val hI (hz_ Z 1) (ex_nil rfl (gd_ Z dq 0 75)) (rfl);exact dd_val hI (hz_ Z 2) (qm_ rfl (gd_ Z dq 1 76) (bfield1 _ _)) (rfl);exact dd_val hI (hz_ Z 3) (qr_ rfl (gd_ Z dq 2 77) (qhi_ hK.b1)) (rfl);exact dd_val hI (hz_ Z 4) (qm_ rfl (Z.old' 3) (acfield3 _ _)) (rfl);exact dd_val hI (hz_ Z 5) (qr_ rfl (gd_ Z dq 4 79) (load_i (hK.act.num q0))) (rfl)
  ·have hsz:=hz_ Z 6;have hI0:=hK;rw[hnl] at hI0
   have hI1:Core w0 wx r bb bt mb mg bm rb (some (bx,y)) M M S (if (lz.setIfInBounds 6 true).getD 17 false=true then S1 else S):=by
    rw[ql_ lz 6 17 hsz (by decide)];exact hI0
   refine qfn_ (f:=17) (args:=#[a.eval (.tmp 78),a.eval (.tmp 80)]) (by kernel_rfl) ?_;rw[show a.eval (.tmp 78)=_ from (gd_ Z dq 3 78),show a.eval (.tmp 80)=_ from (gd_ Z dq 5 80)];refine (qrs_ hI1 HM.out.1 (by omega) y.n).mono ?_;rintro e w' ⟨rfl,hc⟩;rw[HS1.out] at hc;exact ⟨_,rfl,(by rw[<-HZ.out];rfl),Jd.one hsz (hc)⟩
  exact dd_val hI (hz_ Z 7) (NN.qn_ rfl) ((Z.old' 0));exact dd_val hI (hz_ Z 8) (ex_nil rfl (gd_ Z dq 7 82)) (rfl);exact dd_val hI (hz_ Z 9) (qm_ rfl (gd_ Z dq 8 83) (bfield3 _ _)) (rfl);exact dd_val hI (hz_ Z 10) (qr_ rfl (gd_ Z dq 9 84) (qns_ hK.b3)) (rfl);exact dd_val hI (hz_ Z 11) (NN.qn_ rfl) ((Z.old' 0));exact dd_val hI (hz_ Z 12) (ex_nil rfl (gd_ Z dq 11 86)) (rfl);exact dd_val hI (hz_ Z 13) (qm_ rfl (gd_ Z dq 12 87) (bfield2 _ _)) (rfl);exact dd_val hI (hz_ Z 14) (qr_ rfl (gd_ Z dq 13 88) (qjt_ hK.b2)) (rfl);exact dd_val hI (hz_ Z 15) (qm_ rfl (Z.old' 3) (acfield3 _ _)) (rfl);exact dd_val hI (hz_ Z 16) (qr_ rfl (gd_ Z dq 15 90) (load_i (hK.act.num q0))) (rfl)
  ·have hsz:=hz_ Z 17;have hI0:=hK;rw[hnl] at hI0
   have hI1:Core w0 wx r bb bt mb mg bm rb (some (bx,y)) M M (if (lz.setIfInBounds 17 true).getD 6 false=true then S1 else S) S:=by
    rw[ql_ lz 17 6 hsz (by decide)];exact hI0
   refine qfn_ (f:=36) (args:=#[a.eval (.tmp 85),a.eval (.tmp 89),a.eval (.tmp 91)]) (by kernel_rfl) ?_;rw[show a.eval (.tmp 85)=_ from (gd_ Z dq 10 85),show a.eval (.tmp 89)=_ from (gd_ Z dq 14 89),show a.eval (.tmp 91)=_ from (gd_ Z dq 16 91)];refine (qrt_ hI1 HM.out.1 (by omega) y.n).mono ?_;rintro e w' ⟨rfl,hc⟩;rw[HS1.out] at hc;exact ⟨_,rfl,(by rw[<-HZ.out];rfl),Jd.two hsz (hc)⟩
  exact dd_val hI (hz_ Z 18) (qju_ rfl (gd_ Z dq 6 81) (gd_ Z dq 17 92)) (rfl);exact dd_val hI (hz_ Z 19) (NN.qaf_ rfl) ((gd_ Z dq 18 93))
 ·intro lz a' v2 hall Z;have hI:=Z.i;have hk1:=hall 6 (by decide);have hk2:=hall 17 (by decide);rw[hk1,hk2] at hI;have f4:a'.eval (.tmp 4) = .bool true:=Z.got 19 _ 4 rfl (hall 19 (by decide)) rfl;obtain ⟨u,hu⟩:∃ u:Nat->Value,∀ t,u t=a'.eval (.tmp t):=⟨_,fun _=>rfl⟩;rw[qaj_ a' 94 u Z.tsize Z.defers hu];rw[<-hu] at f4;clear hu Z hall hk1 hk2;simp only[List.range,List.range.loop,List.map_cons,List.map_nil];rw[f4];clear f4;have hD:=h_ (Core.loose hI);clear hI;go_wp2_with fail
  go_ret;exact ⟨rfl,by rw[HS1.out];exact hD.out⟩
theorem does9 (w0 w:World) (r:Ru) (bb bt mb mg bm rb:Nat) (M:List Ent) (S:Mk.St) (h:Core w0 w r bb bt mb mg bm rb none M M S S) (y:Ac) (q0:y.h.ok) (k0:¬y.kind=0) (k1:¬y.kind=1) (k2:¬y.kind=2) (k3:¬y.kind=3) :
  Calls Tryz.prog 12 #[.pointer (some ⟨bb,0,none⟩),.agg (acA y)] w fun e w'=>e = .returned (.bool true)/\Core w0 w' r bb bt mb mg bm rb none (actM r M y) (actM r M y) (actS M S y) (actS M S y):=by
 have e1:actM r M y=M:=if_neg k0;have e2:actS M S y=S:=by unfold actS;rw[if_neg k1,if_neg k2,if_neg k3]
 rw[e1,e2];have f0:(y.kind==0)=false:=by simpa using k0
 have f1:(y.kind==1)=false:=by simpa using k1
 have f2:(y.kind==2)=false:=by simpa using k2
 have f3:(y.kind==3)=false:=by simpa using k3
 clear e1 e2 k0 k1 k2 k3;have hza:=qcf_ q0;have hb0:Below w.heap.size w (w.alloc (.cells (acA y) 39)):=(Below.refl _ _).alloc (Nat.le_refl _) _;obtain ⟨bx,hbx⟩:∃ bx,bx=w.heap.size:=⟨_,rfl⟩;have hY:AcAt (w.alloc (.cells (acA y) 39)) bx y:=by rw[hbx];exact Has.new _ _
 have hC:=h.box hb0 hbx hY;have HBX:=h_ hbx;clear h hb0 hY hbx;go_enter Tryz.func12,Tryz.ntmps12;go_upto_region 1 with fail
 rw[<-HBX.out];generalize World.alloc _ _=v1 at *;have c0:=hC.act.kind;generalize y.kind=kd at *;have HC:=h_ hC;clear hC;go_wp2_with fail
 go_ret;exact ⟨rfl,HC.out.loose⟩
theorem qadk_ (w0 w:World) (r:Ru) (bb bt mb mg bm rb:Nat) (M:List Ent) (S:Mk.St) (h:Core w0 w r bb bt mb mg bm rb none M M S S) (HM:Hid (Ok r M/\M.length<=100)) (HG:Hid (r.gs.length<=1000/\r.cs.length<=1000/\2<=r.p.ivl)) (HT:Hid (∀w',Below w0.heap.size w0 w'->Tab w')) (y:Ac) (q0:y.h.ok) (HNy:Hid (-9223372036854775808<=y.now/\y.now<=9223372036854775807)):Calls Tryz.prog 12 #[.pointer (some ⟨bb,0,none⟩),.agg (acA y)] w fun e w'=>e = .returned (.bool true)/\Core w0 w' r bb bt mb mg bm rb none (actM r M y) (actM r M y) (actS M S y) (actS M S y):=by
 by_cases k0:y.kind=0;exact does0 w0 w r bb bt mb mg bm rb M S h HM HG HT y q0 HNy k0;by_cases k1:y.kind=1;exact does1 w0 w r bb bt mb mg bm rb M S h HM y q0 k1;by_cases k2:y.kind=2;exact does2 w0 w r bb bt mb mg bm rb M S h HM y q0 k2;by_cases k3:y.kind=3;exact does3 w0 w r bb bt mb mg bm rb M S h HM y q0 k3;exact does9 w0 w r bb bt mb mg bm rb M S h y q0 k0 k1 k2 k3
theorem qadl_ {ops:Array Oper} {rest:List Oper} {o:Oper} {a:Act} {Q:Exit->Act->World->Prop} {w:World} (hgd:o.guard=none) (x:Operand) (ho:o.op = .load 39 x) (g:Nat) (hx:a.eval x = .pointer (some ⟨g,0,none⟩)) (c:Ac) (hg:AcAt w g c) (hs:(acA c).size=72)
  (hk:wpList Tryz.prog ops Q rest (a.put o.dst (.agg (acA c))) w):wpList Tryz.prog ops Q (o :: rest) a w :=
 wpList_load_row hgd 39 x ho g hx 39 (acA c) (0,0) _ (Has.out hg) Tryz.underlying39 rfl (acinfo.trans (by rw[hs])) hk
theorem act_len (r:Ru) (M:List Ent) (h:Hd) (now:Int):(Ar.add r M h now).2.length<=M.length+1:=by
 unfold Ar.add;repeat' (first|split|(dsimp only;simp))
theorem act_up (r:Ru) (M:List Ent) (h:Hd) (now:Int):M.length<=(Ar.add r M h now).2.length:=by
 unfold Ar.add;repeat' (first|split|(dsimp only;simp))
theorem qxb_ {r:Ru} {M:List Ent} {S:Mk.St} (hM:Ok r M) (hG:Mk.Good M.length S) (y:Ac) (q0:y.h.ok):Ok r (actM r M y)/\(actM r M y).length<=M.length+1/\Mk.Good (actM r M y).length (actS M S y):=by
 unfold actM actS;by_cases k0:y.kind=0;rw[if_pos k0,if_neg (by omega),if_neg (by omega),if_neg (by omega)];exact ⟨hM.add q0 y.now,act_len r M y.h y.now,hG.more (act_up r M y.h y.now)⟩
 ·rw[if_neg k0];refine ⟨hM,by omega,?_⟩;split;exact hG.verdict y.n y.rt
  ·split;exact hG.inval y.n
   ·split;exact hG.recon y.n;exact hG
theorem nsaid (w0r:Ru) (w:World):Calls Tryz.prog 13 #[.pointer none,.int .i64 0] w fun e w''=>e = .returned (.tuple #[.int .i64 0,.bool false])/\Below w.heap.size w w'':=by
 have:=(MkR.nil w w0r Mk.st0).said w 0 (Below.refl _ _);rw[Mk.sd_not (qan_ 0)] at this;exact this
theorem nfailed (w0r:Ru) (w:World):Calls Tryz.prog 18 #[.pointer none,.int .i64 0] w fun e w''=>e = .returned (.bool false)/\Below w.heap.size w w'':=by
 have:=(MkR.nil w w0r Mk.st0).failed 0;rw[Mk.qeq_ (qan_ 0)] at this;exact this
theorem nchild (w0r:Ru) (w:World):Calls Tryz.prog 19 #[.pointer none,.int .i64 0] w fun e w''=>e = .returned (.bool false)/\Below w.heap.size w w'':=by
 have:=(MkR.nil w w0r Mk.st0).child 0;rw[Mk.qhg_ (qan_ 0)] at this;exact this
theorem nvalid (w0r:Ru) (w:World):Calls Tryz.prog 20 #[.pointer none,.int .i64 0] w fun e w''=>e = .returned (.bool false)/\Below w.heap.size w w'':=by
 have:=(MkR.nil w w0r Mk.st0).valid 0;rw[Mk.qer_ (qan_ 0)] at this;exact this
theorem nnew (w0r:Ru) (w:World):Calls Tryz.prog 23 #[.pointer none] w fun e w'=>∃ mb,e = .returned (.pointer (some ⟨mb,0,none⟩))/\Below w.heap.size w w'/\Calls Tryz.prog 21 #[.pointer (some ⟨mb,0,none⟩)] w' fun e w''=>e = .returned (.int .i64 (-1))/\Below w'.heap.size w' w'':=by
 refine (mnew_w none w).mono ?_;rintro e w' ⟨mb,mg,rfl,h1,h2,h3,h4,hb⟩;have hS:MkS w' (fun _=>False) mb mg none w0r [] Mk.st0:=⟨.inr ⟨rfl,rfl⟩,h3,h4,fun h=>h,fun h=>h⟩;exact ⟨mb,rfl,hb,(hS.rd (.inl rfl) (by decide)).best_nil⟩
theorem qru_ (p:NN.Pr) (hp:p.ok) (a:Option Addr) (n c:Nat) (w:World) (KA:HK_ w 9 #[] (.bool true)) (KG:HK_ w 10 #[.agg (NN.prA p),.slice a n c] (.bool true)) :
  Ca_ 3 #[.agg (NN.prA p),.slice a n c] w (.bool true):=by
 have hz:=NN.qaq_ hp;go_enter Tryz.func3,Tryz.ntmps3;go_upto_region 1 with fail
 generalize hw0:World.alloc _ _=v0;have hB:Below w.heap.size w v0:=bl_ hw0;have hP:NN.PrAt v0 w.heap.size p:=by rw[<-hw0];exact NN.Has.new _ _
 clear hw0;obtain ⟨bP,hbP⟩:∃ x,x=w.heap.size:=⟨_,rfl⟩;rw[<-hbP] at hP |-;have HBP:Hid (bP=w.heap.size):=h_ hbP;clear hbP;go_wp2_with (first|fail)
 refine (KA.out _ hB).mono ?_;rintro e v1 ⟨rfl,hb⟩;replace hP:=hP.on hb;replace hB:=tb_ hB hb;clear hb;go_wp2_with (with_reducible first|refine NN.qp_ rfl _ rfl _ rfl hP hz ?_|refine NN.qk_ (by with_unfolding_all rfl) _ rfl _ rfl hP hz ?_)
 refine (KG.out _ hB).mono ?_;rintro e v2 ⟨rfl,hb⟩;replace hP:=hP.on hb;replace hB:=tb_ hB hb;clear hb;go_wp2_with fail
 go_ret;exact ⟨rfl,hB⟩
theorem qxc_ (p:NN.Pr) (hp:p.ok) (r:Ru) (a:Option Addr) (n c:Nat) (w:World) (ls:List Ac) (HA:Hid (∀w',Below w.heap.size w w'->ActsAt w' a ls)) (HN:Hid (n=ls.length)) (hn40:n<=40) (HT:Hid (∀w',Below w.heap.size w w'->Tab w')) (HG:Hid (r.gs.length<=1000/\r.cs.length<=1000/\2<=r.p.ivl)) (HNW:Hid (∀x ∈ ls,-9223372036854775808<=x.now/\x.now<=9223372036854775807)) (KA:HK_ w 9 #[] (.bool true)) (KG:HK_ w 10 #[.agg (NN.prA p),.slice a n c] (.bool false)) (KS:Hid (∀w',Below w.heap.size w w'->Calls Tryz.prog 11 #[.agg (NN.prA p)] w' fun e w''=>∃ bb bt mb mg bm rb,e = .returned (.pointer (some ⟨bb,0,none⟩))/\Core w' w'' r bb bt mb mg bm rb none [entZ] [entZ] Mk.st0 Mk.st0)) :
  Ca_ 3 #[.agg (NN.prA p),.slice a n c] w (.bool true):=by
 have hz:=NN.qaq_ hp;go_enter Tryz.func3,Tryz.ntmps3;go_upto_region 1 with fail
 generalize hw0:World.alloc _ _=v0;have hB:Below w.heap.size w v0:=bl_ hw0;have hP:NN.PrAt v0 w.heap.size p:=by rw[<-hw0];exact NN.Has.new _ _
 clear hw0;obtain ⟨bP,hbP⟩:∃ x,x=w.heap.size:=⟨_,rfl⟩;rw[<-hbP] at hP |-;have HBP:Hid (bP=w.heap.size):=h_ hbP;clear hbP;go_wp2_with (first|fail)
 refine (KA.out _ hB).mono ?_;rintro e v1 ⟨rfl,hb⟩;replace hP:=hP.on hb;replace hB:=tb_ hB hb;clear hb;go_wp2_with (with_reducible first|refine NN.qp_ rfl _ rfl _ rfl hP hz ?_|refine NN.qk_ (by with_unfolding_all rfl) _ rfl _ rfl hP hz ?_)
 refine (KG.out _ hB).mono ?_;rintro e v2 ⟨rfl,hb⟩;replace hP:=hP.on hb;replace hB:=tb_ hB hb;clear hb;go_wp2_with (first|fail|(with_reducible refine NN.qp_ rfl _ rfl _ rfl hP hz ?_))
 refine (KS.out _ hB).mono ?_;rintro e v3 ⟨bb,bt,mb,mg,bm,rb,rfl,hC⟩;have HBS:=h_ hB;have HTS:Hid (∀w',Below v2.heap.size v2 w'->Tab w'):=h_ fun w' hb=>HT.out w' (tb_ hB hb)
 clear hB hP KA KG KS;go_wp2_with fail
 go_loopw [20] (fun u wr=>∃ (k:Nat) (M:List Ent) (S:Mk.St),k<=n/\u = .int .i64 (k:Int)/\Core v2 wr r bb bt mb mg bm rb none M M S S/\Hid (Ok r M/\M.length<=k+1/\Mk.Good M.length S)) (fun u _=>n - (intOf u).toNat)
 case atStart=>exact ⟨0,[entZ],Mk.st0,by omega,rfl,hC,h_ ⟨Ok.one r,Nat.le_refl _,Mk.Good.start 1 (by decide)⟩⟩
 case round=>
  clear hC;obtain ⟨k,M,S,hk,rfl,hC,HM⟩:=hrel;have hM9:M.length<=50:=by have:=HM.out.2.1;omega
  have hB:=tb_ HBS.out hC.bel;by_cases hlt:k<n
  ·obtain ⟨ab,ao,hae,habl,hc⟩:=(HA.out _ hB) (by rw[<-HN.out];omega);subst hae;have hk2:k<ls.length:=by rw[<-HN.out];exact hlt
   obtain ⟨q0,q1⟩:=hc k hk2;have HNy:=h_ (HNW.out _ (List.getElem_mem hk2));clear hc hB;generalize ls[k]=y at *;clear hk2;have z1:=qes_ q0;have z2:=qcf_ q0;have z0:=qcf_ (c:=acZ) hdZ_ok;have hb2:Below wr.heap.size wr ((wr.alloc (.cells Tryz.zeroCells39 39)).setRow wr.heap.size (acA y)):=below_setRow ((Below.refl _ _).alloc (Nat.le_refl _) _) (Nat.le_refl _) _;have hnew:=qpo_ wr;have hY:=qwi_ wr y;have KD:=h_ (qadk_ v2 _ r bb bt mb mg bm rb M S (hC.below hb2) (h_ ⟨HM.out.1,by omega⟩) HG HTS y q0 HNy);clear hC hb2;go_wp2_with (with_reducible first|refine qdy_ rfl _ rfl ab (ao+k*72) rfl y q1 z1 ?_|refine qjm_ rfl _ _ rfl _ _ y rfl rfl rfl z2 hnew z0 ?_|refine qadl_ rfl _ rfl _ rfl y hY z2 ?_)
   refine KD.out.mono ?_;rintro e v6 ⟨rfl,hC⟩;obtain ⟨g1,g2,g3⟩:=qxb_ HM.out.1 HM.out.2.2 y q0;have HM7:Hid (Ok r (actM r M y)/\(actM r M y).length<=k+1+1/\Mk.Good (actM r M y).length (actS M S y)):=h_ ⟨g1,by have:=HM.out.2.1;omega,g3⟩;clear KD hY hnew z0 z1 z2 q1 HM g1 g2 g3;generalize World.setRow _ _ _=v5 at *;generalize actM r M y=M' at *;generalize actS M S y=S' at *;go_wp2_with fail
   go_roundw
   case rel=>exact ⟨k+1,M',S',by omega,by go_num,hC,HM7⟩
   case measure=>simp[intOf];omega
  ·obtain rfl:k=n:=by omega
   clear HA HT HTS HNW HG;have KQ:=h_ fun w' (hb:Below wr.heap.size wr w')=>qpu_ (hC.below hb) HM.out.1 (by omega) (qpv_ HM.out.1 HM.out.2.2)
   have hb0:=Below.refl wr.heap.size wr;clear hC;go_wp2_with fail
   refine (nsaid r wr).mono ?_;rintro e w1 ⟨rfl,hb⟩;replace hb0:=tb_ hb0 hb;clear hb;go_wp2_with fail
   refine (KQ.out _ hb0).mono ?_;rintro e w2 ⟨rfl,hb⟩;replace hb0:=tb_ hb0 hb;clear hb KQ;go_wp2_with fail
   refine (qrm_ _ _ _).mono ?_;rintro e w3 ⟨rfl,hb⟩;replace hb0:=tb_ hb0 hb;clear hb;go_wp2_with fail
   refine (qjo_ _ _).mono ?_;rintro e w4 ⟨rfl,hb⟩;replace hb0:=tb_ hb0 hb;clear hb;go_wp2_with fail
   refine (qjp_ _ _).mono ?_;rintro e w5 ⟨rfl,hb⟩;replace hb0:=tb_ hb0 hb;clear hb;go_wp2_with fail
   refine (nfailed r _).mono ?_;rintro e w6 ⟨rfl,hb⟩;replace hb0:=tb_ hb0 hb;clear hb;go_wp2_with fail
   refine (nchild r _).mono ?_;rintro e w7 ⟨rfl,hb⟩;replace hb0:=tb_ hb0 hb;clear hb;go_wp2_with fail
   refine (nvalid r _).mono ?_;rintro e w8 ⟨rfl,hb⟩;replace hb0:=tb_ hb0 hb;clear hb;go_wp2_with fail
   refine ((MkR.nil _ r Mk.st0).best_nil).mono ?_;rintro e w9 ⟨rfl,hb⟩;replace hb0:=tb_ hb0 hb;clear hb;go_wp2_with fail
   refine ((MkR.nil _ r Mk.st0).lead_nil).mono ?_;rintro e w10 ⟨rfl,hb⟩;replace hb0:=tb_ hb0 hb;clear hb;go_wp2_with fail
   refine (nnew r _).mono ?_;rintro e w11 ⟨mb9,rfl,hb,KB⟩;replace hb0:=tb_ hb0 hb;have KB:=h_ KB;clear hb;go_wp2_with fail
   refine (KB.out).mono ?_;rintro e w12 ⟨rfl,hb⟩;replace hb0:=tb_ hb0 hb;clear hb KB;replace hB:=tb_ hB hb0;go_wp2_with fail
   go_ret;exact ⟨rfl,hB⟩
theorem qxd_ (p:NN.Pr) (hp:p.ok) (h1:p.one) (t:Tl) (tt:p.tl=t.C) (ht:t.ok) (gs:List Gt) (cs:List Ck) (hgn:t.gn=gs.length) (hcn:t.cn=cs.length) (a:Option Addr) (ls:List Ac) (n c:Nat) (hn:n=ls.length) (hl:n<=4611686018427387904) (hnow:∀ x ∈ ls,-9223372036854775808<=x.now/\x.now<=9223372036854775807) (w:World) (hT:Tab w) (hA:ActsAt w a ls) (hG:GatesAt w t.ga gs) (hC:ChecksAt w t.ca cs) :
  Ca_ 3 #[.agg (NN.prA p),.slice a n c] w (.bool true):=by
 have KA:HK_ w 9 #[] (.bool true):=h_ fun w' hb=>alive16 w' (hT.below hb)
 have KG:∀ g,grt16 p t gs cs ls=g->HK_ w 10 #[.agg (NN.prA p),.slice a n c] (.bool g):=fun g hg=>h_ fun w' hb=>qwk_ p hp t tt ht gs cs hgn hcn ls n a c hn hl g hg w' (hA.below hb) (hG.below hb) (hC.below hb)
 cases hg:grt16 p t gs cs ls
 ·have KG1:=KG false hg;unfold grt16 grtA at hg;simp only[Bool.or_eq_false_iff,decide_eq_false_iff_not,Bool.not_eq_false'] at hg;obtain ⟨⟨⟨⟨hg0,hg1⟩,hg2⟩,hg3⟩,hr⟩:=hg
  have hiv:2<=p.ivl:=by
   unfold ruleP NN.Pr.good at hr;simp only[Bool.and_eq_true,decide_eq_true_eq] at hr;exact hr.1.1.1.1.1.1.1.1.2
  have HA:=h_ fun w' (hb:Below w.heap.size w w')=>hA.below hb
  have HT:=h_ fun w' (hb:Below w.heap.size w w')=>hT.below hb
  have HGG:Hid (gs.length<=1000/\cs.length<=1000/\2<=p.ivl):=h_ ⟨by omega,by omega,hiv⟩;have KS:=h_ fun w' (hb:Below w.heap.size w w')=>qxa_ p hp h1 t tt ht gs cs hgn hcn (by omega) (by omega) hr w' (hT.below hb) (hG.below hb) (hC.below hb)
  exact qxc_ p hp ⟨p,t.g,gs,cs,100⟩ a n c w ls HA (h_ hn) (by omega) HT HGG (h_ hnow) KA KG1 KS
 have KG1:=KG true hg;exact qru_ p hp a n c w KA KG1
theorem qrv_ (p:NN.Pr) (hp:p.ok) (a:Option Addr) (n c:Nat) (w:World) (KA:HK_ w 9 #[] (.bool true)) (KG:HK_ w 10 #[.agg (NN.prA p),.slice a n c] (.bool true)) :
  Ca_ 4 #[.agg (NN.prA p),.slice a n c] w (.bool true):=by
 have hz:=NN.qaq_ hp;go_enter Tryz.func4,Tryz.ntmps4;go_upto_region 1 with fail
 generalize hw0:World.alloc _ _=v0;have hB:Below w.heap.size w v0:=bl_ hw0;have hP:NN.PrAt v0 w.heap.size p:=by rw[<-hw0];exact NN.Has.new _ _
 clear hw0;obtain ⟨bP,hbP⟩:∃ x,x=w.heap.size:=⟨_,rfl⟩;rw[<-hbP] at hP |-;have HBP:Hid (bP=w.heap.size):=h_ hbP;clear hbP;go_wp2_with (first|fail)
 refine (KA.out _ hB).mono ?_;rintro e v1 ⟨rfl,hb⟩;replace hP:=hP.on hb;replace hB:=tb_ hB hb;clear hb;go_wp2_with (with_reducible first|refine NN.qp_ rfl _ rfl _ rfl hP hz ?_|refine NN.qk_ (by with_unfolding_all rfl) _ rfl _ rfl hP hz ?_)
 refine (KG.out _ hB).mono ?_;rintro e v2 ⟨rfl,hb⟩;replace hP:=hP.on hb;replace hB:=tb_ hB hb;clear hb;go_wp2_with fail
 go_ret;exact ⟨rfl,hB⟩
theorem qxe_ (p:NN.Pr) (hp:p.ok) (a:Option Addr) (n c:Nat) (w:World) (h12:12<n) (KA:HK_ w 9 #[] (.bool true)) (KG:HK_ w 10 #[.agg (NN.prA p),.slice a n c] (.bool false)) :
  Ca_ 4 #[.agg (NN.prA p),.slice a n c] w (.bool true):=by
 have hz:=NN.qaq_ hp;go_enter Tryz.func4,Tryz.ntmps4;go_upto_region 1 with fail
 generalize hw0:World.alloc _ _=v0;have hB:Below w.heap.size w v0:=bl_ hw0;have hP:NN.PrAt v0 w.heap.size p:=by rw[<-hw0];exact NN.Has.new _ _
 clear hw0;obtain ⟨bP,hbP⟩:∃ x,x=w.heap.size:=⟨_,rfl⟩;rw[<-hbP] at hP |-;have HBP:Hid (bP=w.heap.size):=h_ hbP;clear hbP;go_wp2_with (first|fail)
 refine (KA.out _ hB).mono ?_;rintro e v1 ⟨rfl,hb⟩;replace hP:=hP.on hb;replace hB:=tb_ hB hb;clear hb;go_wp2_with (with_reducible first|refine NN.qp_ rfl _ rfl _ rfl hP hz ?_|refine NN.qk_ (by with_unfolding_all rfl) _ rfl _ rfl hP hz ?_)
 refine (KG.out _ hB).mono ?_;rintro e v2 ⟨rfl,hb⟩;replace hP:=hP.on hb;replace hB:=tb_ hB hb;clear hb;have hd:decide ((12:Int)<(n:Int))=true:=decide_eq_true (by omega);go_wp2_with fail
 go_ret;exact ⟨rfl,hB⟩
theorem qxf_ (p:NN.Pr) (hp:p.ok) (r:Ru) (a:Option Addr) (n c:Nat) (w:World) (ls:List Ac) (HA:Hid (∀w',Below w.heap.size w w'->ActsAt w' a ls)) (HN:Hid (n=ls.length)) (hn40:n<=40) (HT:Hid (∀w',Below w.heap.size w w'->Tab w')) (HG:Hid (r.gs.length<=1000/\r.cs.length<=1000/\2<=r.p.ivl)) (HNW:Hid (∀x ∈ ls,-9223372036854775808<=x.now/\x.now<=9223372036854775807)) (KA:HK_ w 9 #[] (.bool true)) (KG:HK_ w 10 #[.agg (NN.prA p),.slice a n c] (.bool false)) (KS:Hid (∀w',Below w.heap.size w w'->Calls Tryz.prog 11 #[.agg (NN.prA p)] w' fun e w''=>∃ bb bt mb mg bm rb,e = .returned (.pointer (some ⟨bb,0,none⟩))/\Core w' w'' r bb bt mb mg bm rb none [entZ] [entZ] Mk.st0 Mk.st0)) (h12:¬12<n) :
  Ca_ 4 #[.agg (NN.prA p),.slice a n c] w (.bool true):=by
 have hz:=NN.qaq_ hp;go_enter Tryz.func4,Tryz.ntmps4;go_upto_region 1 with fail
 generalize hw0:World.alloc _ _=v0;have hB:Below w.heap.size w v0:=bl_ hw0;have hP:NN.PrAt v0 w.heap.size p:=by rw[<-hw0];exact NN.Has.new _ _
 clear hw0;obtain ⟨bP,hbP⟩:∃ x,x=w.heap.size:=⟨_,rfl⟩;rw[<-hbP] at hP |-;have HBP:Hid (bP=w.heap.size):=h_ hbP;clear hbP;go_wp2_with (first|fail)
 refine (KA.out _ hB).mono ?_;rintro e v1 ⟨rfl,hb⟩;replace hP:=hP.on hb;replace hB:=tb_ hB hb;clear hb;go_wp2_with (with_reducible first|refine NN.qp_ rfl _ rfl _ rfl hP hz ?_|refine NN.qk_ (by with_unfolding_all rfl) _ rfl _ rfl hP hz ?_)
 refine (KG.out _ hB).mono ?_;rintro e v2 ⟨rfl,hb⟩;replace hP:=hP.on hb;replace hB:=tb_ hB hb;clear hb;have hd:decide ((12:Int)<(n:Int))=false:=decide_eq_false (by omega);go_wp2_with (first|fail|(with_reducible refine NN.qp_ rfl _ rfl _ rfl hP hz ?_))
 refine (KS.out _ hB).mono ?_;rintro e v3 ⟨bb,bt,mb,mg,bm,rb,rfl,hC⟩;have HBS:=h_ hB;have HTS:Hid (∀w',Below v2.heap.size v2 w'->Tab w'):=h_ fun w' hb=>HT.out w' (tb_ hB hb)
 clear hB hP KA KG KS;go_wp2_with fail
 go_loopw [22] (fun u wr=>∃ (k:Nat) (M:List Ent) (S:Mk.St),k<=n/\u = .int .i64 (k:Int)/\Core v2 wr r bb bt mb mg bm rb none M M S S/\Hid (Ok r M/\M.length<=k+1/\Mk.Good M.length S)) (fun u _=>n - (intOf u).toNat)
 case atStart=>exact ⟨0,[entZ],Mk.st0,by omega,rfl,hC,h_ ⟨Ok.one r,Nat.le_refl _,Mk.Good.start 1 (by decide)⟩⟩
 case round=>
  clear hC;obtain ⟨k,M,S,hk,rfl,hC,HM⟩:=hrel;have hM9:M.length<=50:=by have:=HM.out.2.1;omega
  have hB:=tb_ HBS.out hC.bel;by_cases hlt:k<n
  ·obtain ⟨ab,ao,hae,habl,hc⟩:=(HA.out _ hB) (by rw[<-HN.out];omega);subst hae;have hk2:k<ls.length:=by rw[<-HN.out];exact hlt
   obtain ⟨q0,q1⟩:=hc k hk2;have HNy:=h_ (HNW.out _ (List.getElem_mem hk2));clear hc hB;generalize ls[k]=y at *;clear hk2;have z1:=qes_ q0;have z2:=qcf_ q0;have z0:=qcf_ (c:=acZ) hdZ_ok;have hb2:Below wr.heap.size wr ((wr.alloc (.cells Tryz.zeroCells39 39)).setRow wr.heap.size (acA y)):=below_setRow ((Below.refl _ _).alloc (Nat.le_refl _) _) (Nat.le_refl _) _;have hnew:=qpo_ wr;have hY:=qwi_ wr y;have KD:=h_ (qadk_ v2 _ r bb bt mb mg bm rb M S (hC.below hb2) (h_ ⟨HM.out.1,by omega⟩) HG HTS y q0 HNy);clear hC hb2;go_wp2_with (with_reducible first|refine qdy_ rfl _ rfl ab (ao+k*72) rfl y q1 z1 ?_|refine qjm_ rfl _ _ rfl _ _ y rfl rfl rfl z2 hnew z0 ?_|refine qadl_ rfl _ rfl _ rfl y hY z2 ?_)
   refine KD.out.mono ?_;rintro e v6 ⟨rfl,hC⟩;obtain ⟨g1,g2,g3⟩:=qxb_ HM.out.1 HM.out.2.2 y q0;have HM7:Hid (Ok r (actM r M y)/\(actM r M y).length<=k+1+1/\Mk.Good (actM r M y).length (actS M S y)):=h_ ⟨g1,by have:=HM.out.2.1;omega,g3⟩;clear KD hY hnew z0 z1 z2 q1 HM g1 g2 g3;generalize World.setRow _ _ _=v5 at *;generalize actM r M y=M' at *;generalize actS M S y=S' at *;have KQ:=h_ (qpu_ hC HM7.out.1 (by have:=HM7.out.2.1;omega) (qpv_ HM7.out.1 HM7.out.2.2));have HC:=h_ hC;clear hC;go_wp2_with fail
   refine KQ.out.mono ?_;rintro e v7 ⟨rfl,hb⟩;have hC:=HC.out.below hb;clear hb KQ HC;go_wp2_with fail
   go_roundw
   case rel=>exact ⟨k+1,M',S',by omega,by go_num,hC,HM7⟩
   case measure=>simp[intOf];omega
  ·obtain rfl:k=n:=by omega
   clear HA HT HTS HNW HG;go_wp2_with fail
   go_ret;exact ⟨rfl,hB⟩
theorem qxg_ (p:NN.Pr) (hp:p.ok) (h1:p.one) (t:Tl) (tt:p.tl=t.C) (ht:t.ok) (gs:List Gt) (cs:List Ck) (hgn:t.gn=gs.length) (hcn:t.cn=cs.length) (a:Option Addr) (ls:List Ac) (n c:Nat) (hn:n=ls.length) (hl:n<=4611686018427387904) (hnow:∀ x ∈ ls,-9223372036854775808<=x.now/\x.now<=9223372036854775807) (w:World) (hT:Tab w) (hA:ActsAt w a ls) (hG:GatesAt w t.ga gs) (hC:ChecksAt w t.ca cs) :
  Ca_ 4 #[.agg (NN.prA p),.slice a n c] w (.bool true):=by
 have KA:HK_ w 9 #[] (.bool true):=h_ fun w' hb=>alive16 w' (hT.below hb)
 have KG:∀ g,grt16 p t gs cs ls=g->HK_ w 10 #[.agg (NN.prA p),.slice a n c] (.bool g):=fun g hg=>h_ fun w' hb=>qwk_ p hp t tt ht gs cs hgn hcn ls n a c hn hl g hg w' (hA.below hb) (hG.below hb) (hC.below hb)
 cases hg:grt16 p t gs cs ls
 ·have KG1:=KG false hg;unfold grt16 grtA at hg;simp only[Bool.or_eq_false_iff,decide_eq_false_iff_not,Bool.not_eq_false'] at hg;obtain ⟨⟨⟨⟨hg0,hg1⟩,hg2⟩,hg3⟩,hr⟩:=hg
  have hiv:2<=p.ivl:=by
   unfold ruleP NN.Pr.good at hr;simp only[Bool.and_eq_true,decide_eq_true_eq] at hr;exact hr.1.1.1.1.1.1.1.1.2
  have HA:=h_ fun w' (hb:Below w.heap.size w w')=>hA.below hb
  have HT:=h_ fun w' (hb:Below w.heap.size w w')=>hT.below hb
  have HGG:Hid (gs.length<=1000/\cs.length<=1000/\2<=p.ivl):=h_ ⟨by omega,by omega,hiv⟩;have KS:=h_ fun w' (hb:Below w.heap.size w w')=>qxa_ p hp h1 t tt ht gs cs hgn hcn (by omega) (by omega) hr w' (hT.below hb) (hG.below hb) (hC.below hb)
  by_cases h12:12<n;exact qxe_ p hp a n c w h12 KA KG1;exact qxf_ p hp ⟨p,t.g,gs,cs,100⟩ a n c w ls HA (h_ hn) (by omega) HT HGG (h_ hnow) KA KG1 KS h12
 have KG1:=KG true hg;exact qrv_ p hp a n c w KA KG1
end Go.Proofs.YtbhjpeadcimchaaGreatDoor.An
