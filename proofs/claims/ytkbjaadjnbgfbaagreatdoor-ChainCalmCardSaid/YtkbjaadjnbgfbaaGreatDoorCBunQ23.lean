import Derived.Test.YtkbjaadjnbgfbaaGreatDoorCBunQ22
import Derived.Test.YtkbjaadjnbgfbaaGreatDoorCBunQ20
set_option maxRecDepth 100000
set_option maxHeartbeats 4000000
namespace Go.Proofs.YtkbjaadjnbgfbaaGreatDoor.NN
open Go.RowKit Rz
def aj(B:Nat)(w w':World):Prop:=∀b cs,B<=b->Has w b cs 26->cs.size=4->∃cs',Has w' b cs' 26/\cs'.size=4
theorem aj.refl(B:Nat)(w:World):aj B w w:=fun _ cs _ h hs=>⟨cs,h,hs⟩
variable{B z k i:Nat}{w w':World}
theorem aj.below(h:Bl w w'):aj B w w':=fun _ cs _ h' hs=>⟨cs,h'.on h,hs⟩
theorem aj.row{g:Nat}{cs:Array Value}(hg:Has w g cs 26):aj B w (w.setRow g (aa z)):=fun b cs' _ h hs=>by
 by_cases e:b=g;subst e;exact⟨_,hg.row _,rfl⟩;exact⟨cs',h.Ra _ _ e,hs⟩
inductive dZ where
 | val (v:Value)
 | ptr
 | any
def dZ.holds(B:Nat):dZ->Value->World->Prop
 | .val x,v,_=>v=x
 | .ptr,v,w=>∃b cs,B<=b/\v=ah b/\Has w b cs 26/\cs.size=4
 | .any,_,_=>True
theorem dZ.stays(sp:dZ)(v:Value)(w w':World)(hs:aj B w w')(h:sp.holds B v w):sp.holds B v w':=by
 cases sp with
 | val x=>exact h
 | ptr=>
  obtain⟨b,cs,h1,h2,h3,h4⟩:=h;obtain⟨cs',h5,h6⟩:=hs b cs h1 h3 h4;exact⟨b,cs',h1,h2,h5,h6⟩
 | any=>trivial
def aS(k:Nat)(p:Tmp)(B z:Nat)(lz:Array Bool)(a:Act)(w:World):Prop:=lz.getD k false=true->∃b,B<=b/\a.eval (.tmp p)=ah b/\Has w b (aa z) 26
variable{p:Tmp}{lz:Array Bool}{a:Act}
theorem aS.keep{d:Option Tmp}{v:Value}(h:aS k p B z lz a w)(hi:i<lz.size)(hik:i≠k)(hd:d≠some p)(hw:∀b,Has w b (aa z) 26->Has w' b (aa z) 26):aS k p B z (lz.setIfInBounds i true) (a.put d v) w':=fun hl=>by
 rw[gi _ _ _ hi,if_neg hik]at hl;obtain⟨b,hb,he,hh⟩:=h hl;exact⟨b,hb,by rw[Act.eval_put (fun d' hdd e=>hd (by rw[hdd];cases e;rfl))];exact he,hw b hh⟩
theorem aS.pre(h:(lz.setIfInBounds i true).getD k false=false):aS k p B z (lz.setIfInBounds i true) a w:=fun hl=>by rw[h]at hl;cases hl
section
variable{ρ:Operand->Value}{o:Oper}{w:World}
variable{x:Operand}{g z:Nat}
theorem fV(ho:o.op=.load 26 x)(hx:ρ x=ah g)(hg:Has w g (aa z) 26):(execOp ρ o).run Tryz.prog w=.ok (.value (.agg (aa z))) w:=by have hl:(loadVar 26 ⟨g,0,none⟩).run Tryz.prog w=.ok (.agg (aa z)) w:=run_loadVar_row w g 26 26 (aa z) (0,0) _ hg.out Tryz.underlying26 rfl cg;unfold execOp;simp only[ho,hx,Instr.loadAt,Instr.sureAddr,Sem.run_bind,Sem.run_pure,Result.andThen_ok,hl]
theorem js{y:Operand}{cs:Array Value}(ho:o.op=.store 26 x y)(hx:ρ x=ah g)(hy:ρ y=.agg (aa z))(hg:Has w g cs 26)(hs:cs.size=4):(execOp ρ o).run Tryz.prog w=.ok .skip (w.setRow g (aa z)):=by unfold execOp;simp only[ho,hx,hy,Instr.storeAt,Instr.sureAddr,Sem.run_bind,Sem.run_pure,Result.andThen_ok,run_storeVar_row w g 26 26 cs (aa z) hg.out cg hs (Bq z)]
theorem oQ(ho:o.op=.alloc 26):(execOp ρ o).run Tryz.prog w=.ok (.value (.pointer (some ⟨w.heap.size,0,none⟩))) (w.alloc (.cells (aa 0) 26)):=by unfold execOp;simp only[ho];kernel_rfl
theorem dk(ho:o.op=.move x):(execOp ρ o).run Tryz.prog w=.ok (.value (ρ x)) w:=by unfold execOp;simp only[ho];rfl
theorem eT(ho:o.op=.assign x):(execOp ρ o).run Tryz.prog w=.ok (.value (ρ x)) w:=by unfold execOp;simp only[ho];rfl
theorem er{n:Nat}{vs:Array Value}{v:Value}(ho:o.op=.extract x n)(hx:ρ x=.tuple vs)(hv:vs[n]?=some v):(execOp ρ o).run Tryz.prog w=.ok (.value v) w:=by unfold execOp;simp only[ho,hx];simp[Instr.extract,hv]
end
structure Qs (w wr:World) (A B R S O T a b out rest:Nat):Prop where
 below:Bl w wr
 a:Has wr A (aa a) 26
 b:Has wr B (aa b) 26
 r:∃cs,Has wr R cs 26/\cs.size=4
 s:∃cs,Has wr S cs 26/\cs.size=4
 o:Has wr O (aa out) 26
 t:Has wr T (aa rest) 26
def gD(w:World)(A B R S O T:Nat):Prop:=w.heap.size<=A/\A<B/\B<R/\R<S/\S<O/\O<T
section
variable{w wr w':World}{A B R S O T a b out rest:Nat}
theorem Qs.on(h:Qs w wr A B R S O T a b out rest)(hb:Bl wr w'):Qs w w' A B R S O T a b out rest:=⟨af h.below hb,h.a.on hb,h.b.on hb,let ⟨cs,h1,h2⟩:=h.r; ⟨cs,h1.on hb,h2⟩,let ⟨cs,h1,h2⟩:=h.s; ⟨cs,h1.on hb,h2⟩,h.o.on hb,h.t.on hb⟩
theorem Qs.row(h:Qs w wr A B R S O T a b out rest)(hw:w.heap.size<=A){g:Nat}(hg:T<g)(cs:Array Value)(hd:gD w A B R S O T):Qs w (wr.setRow g cs) A B R S O T a b out rest:=by obtain⟨_,d2,d3,d4,d5,d6⟩:=hd;exact⟨below_setRow h.below (by omega) _,h.a.Ra _ _ (by omega),h.b.Ra _ _ (by omega),let ⟨cs,h1,h2⟩:=h.r; ⟨cs,h1.Ra _ _ (by omega),h2⟩,let ⟨cs,h1,h2⟩:=h.s; ⟨cs,h1.Ra _ _ (by omega),h2⟩,h.o.Ra _ _ (by omega),h.t.Ra _ _ (by omega)⟩
theorem Qs.X1(h:Qs w wr A B R S O T a b out rest)(hd:gD w A B R S O T)(v:Nat):Qs w (wr.setRow T (aa v)) A B R S O T a b out v:=by obtain⟨d1,d2,d3,d4,d5,d6⟩:=hd;exact⟨below_setRow h.below (by omega) _,h.a.Ra _ _ (by omega),h.b.Ra _ _ (by omega),let ⟨cs,h1,h2⟩:=h.r; ⟨cs,h1.Ra _ _ (by omega),h2⟩,let ⟨cs,h1,h2⟩:=h.s; ⟨cs,h1.Ra _ _ (by omega),h2⟩,h.o.Ra _ _ (by omega),h.t.row _⟩
theorem Qs.X2(h:Qs w wr A B R S O T a b out rest)(hd:gD w A B R S O T)(i:Nat)(v:Value)(out':Nat)(e:(aa out).setIfInBounds i v=aa out'):Qs w (wr.setCell ⟨O,i,none⟩ v).drew A B R S O T a b out' rest:=by obtain⟨d1,d2,d3,d4,d5,d6⟩:=hd;exact⟨(h.below.setCell (by simp;omega) _).drew,(h.a.other _ _ (by simp;omega)).drew,(h.b.other _ _ (by simp;omega)).drew,let ⟨cs,h1,h2⟩:=h.r; ⟨cs,(h1.other _ _ (by simp;omega)).drew,h2⟩,let ⟨cs,h1,h2⟩:=h.s; ⟨cs,(h1.other _ _ (by simp;omega)).drew,h2⟩,by rw[<-e];exact(h.o.set _).drew,(h.t.other _ _ (by simp;omega)).drew⟩
theorem Qs.X3(h:Qs w wr A B R S O T a b out rest)(hd:gD w A B R S O T)(v:Nat):Qs w (wr.setRow R (aa v)) A B R S O T a b out rest:=by obtain⟨d1,d2,d3,d4,d5,d6⟩:=hd;exact⟨below_setRow h.below (by omega) _,h.a.Ra _ _ (by omega),h.b.Ra _ _ (by omega),let ⟨_,h1,_⟩:=h.r; ⟨_,h1.row _,rfl⟩,let ⟨cs,h1,h2⟩:=h.s; ⟨cs,h1.Ra _ _ (by omega),h2⟩,h.o.Ra _ _ (by omega),h.t.Ra _ _ (by omega)⟩
theorem Qs.ee(h:Qs w wr A B R S O T a b out rest)(hd:gD w A B R S O T)(v:Nat):Qs w (wr.setRow S (aa v)) A B R S O T a b out rest:=by obtain⟨d1,d2,d3,d4,d5,d6⟩:=hd;exact⟨below_setRow h.below (by omega) _,h.a.Ra _ _ (by omega),h.b.Ra _ _ (by omega),let ⟨cs,h1,h2⟩:=h.r; ⟨cs,h1.Ra _ _ (by omega),h2⟩,let ⟨_,h1,_⟩:=h.s; ⟨_,h1.row _,rfl⟩,h.o.Ra _ _ (by omega),h.t.Ra _ _ (by omega)⟩
end
variable{w w' wr:World}
theorem MA{fn:Func}{p q:Tmp}(h:fn.results=#[.cell p 26,.cell q 26])(tmps:Array Value)(g k x y:Nat)(hp:tmps.getD p undef=ah g)(hq:tmps.getD q undef=ah k)(hg:Has w g (aa x) 26)(hk:Has w k (aa y) 26):(results fn tmps).run Tryz.prog w=.ok (.tuple #[.agg (aa x),.agg (aa y)]) w:=by
 have h1:(loadVar 26 ⟨g,0,none⟩).run Tryz.prog w=.ok (.agg (aa x)) w:=run_loadVar_row w g 26 26 (aa x) (0,0) _ hg.out Tryz.underlying26 rfl cg;have h2:(loadVar 26 ⟨k,0,none⟩).run Tryz.prog w=.ok (.agg (aa y)) w:=run_loadVar_row w k 26 26 (aa y) (0,0) _ hk.out Tryz.underlying26 rfl cg;have hp':tmps[p]?.getD undef=ah g:=by simpa using hp
 have hq':tmps[q]?.getD undef=ah k:=by simpa using hq
 simp[results,h,hp',hq',asAddr,h1,h2]
def dr(k R z:Nat)(lz:Array Bool)(w:World):Prop:=lz.getD k false=true->Has w R (aa z) 26
variable{k i R z A B x y O:Nat}{lz:Array Bool}
theorem dr.pre(h:(lz.setIfInBounds i true).getD k false=false):dr k R z (lz.setIfInBounds i true) w:=fun hl=>by rw[h]at hl;cases hl
theorem dr.keep(h:dr k R z lz w)(hi:i<lz.size)(hik:i≠k)(hw:Has w R (aa z) 26->Has w' R (aa z) 26):dr k R z (lz.setIfInBounds i true) w':=fun hl=>by
 rw[gi _ _ _ hi,if_neg hik]at hl;exact hw (h hl)
theorem DV(a:Act)(n:Nat)(u:Nat->Value)(hs:a.tmps.size=n)(hd:a.defers=[])(hu:∀t,u t=a.eval (.tmp t)):a=⟨((List.range n).map u).toArray,[]⟩:=by obtain⟨tm,df⟩:=a;obtain rfl:df=[]:=hd;congr 1;apply Array.ext;simpa using hs;intro i h1 h2;simp only[List.getElem_toArray,List.getElem_map,List.getElem_range,hu];simp[Act.eval,Array.getD_eq_getD_getElem?,h1]
def Ct(out rest:Nat):Nat->dZ
 | 0=>.val (.agg (aa out))|1=>.val (.agg (aa rest))|_=>.any
structure iz (w wr:World) (A B R x y:Nat):Prop where
 below:Bl w wr
 a:Has wr A (aa x) 26
 b:Has wr B (aa y) 26
 r:Has wr R (aa 0) 26
theorem iz.on(h:iz w wr A B R x y)(hb:Bl wr w'):iz w w' A B R x y:=⟨af h.below hb,h.a.on hb,h.b.on hb,h.r.on hb⟩
theorem iz.row(h:iz w wr A B R x y)(hA:A<w.heap.size)(hB:B<w.heap.size)(hR:R<w.heap.size){b:Nat}(hb:w.heap.size<=b)(cs:Array Value):iz w (wr.setRow b cs) A B R x y:=⟨below_setRow h.below hb _,h.a.Ra _ _ (by omega),h.b.Ra _ _ (by omega),h.r.Ra _ _ (by omega)⟩
theorem I_(a:Act)(n:Nat)(u:Nat->Value)(hs:a.tmps.size=n)(hd:a.defers=[])(hu:∀t,u t=a.eval (.tmp t)):a=⟨((List.range n).map u).toArray,[]⟩:=by obtain⟨tm,df⟩:=a;obtain rfl:df=[]:=hd;congr 1;apply Array.ext;simpa using hs;intro i h1 h2;simp only[List.getElem_toArray,List.getElem_map,List.getElem_range,hu];simp[Act.eval,Array.getD_eq_getD_getElem?,h1]
structure kP (w wr:World) (A B O R x y z:Nat):Prop where
 below:Bl w wr
 a:Has wr A (aa x) 26
 b:Has wr B (aa y) 26
 o:Has wr O (aa z) 26
 r:∃cs,Has wr R cs 26/\cs.size=4
theorem kP.on(h:kP w wr A B O R x y z)(hb:Bl wr w'):kP w w' A B O R x y z:=⟨af h.below hb,h.a.on hb,h.b.on hb,h.o.on hb,let ⟨cs,h1,h2⟩:=h.r; ⟨cs,h1.on hb,h2⟩⟩
theorem kP.row(h:kP w wr A B O R x y z)(hA:A≠R)(hB:B≠R)(hO:O≠R)(hR:w.heap.size<=R)(v:Nat):kP w (wr.setRow R (aa v)) A B O R x y z:=⟨below_setRow h.below hR _,h.a.Ra _ _ hA,h.b.Ra _ _ hB,h.o.Ra _ _ hO,let ⟨_,h1,_⟩:=h.r; ⟨_,h1.row _,rfl⟩⟩
def xc(x y z:Nat)(c:Bool):Nat->dZ
 | 0=>.val (.agg (aa z))|1=>.val (.agg (aa x))|2=>.val (.agg (aa y))|3=>.val (.bool c)|4=>.any|_=>.val (.bool c)
theorem PC(z s:Nat)(c:Bool)(hz:z<Nm.ai)(hs:s=(z+1)%Nm.ai)(hc:c=decide (Nm.ai<=z+1))(w:World):an 115 #[.agg (aa z),.agg #[ay 1,ay 0,ay 0,ay 0]] w (.tuple #[.agg (aa s),.bool c]):=by subst hs;subst hc;exact qW z 1 hz (by decide) w
def BP(x y z:Nat)(c:Bool):Nat->dZ
 | 0=>.val (.agg (aa x))|1=>.val (.agg (aa y))|2=>.val (.agg (aa (Nm.ai-1-y)))|3=>.val (.tuple #[.agg (aa z),.bool c])|4=>.val (.tuple #[.agg (aa z),.bool c])|5=>.val (.agg (aa z))
 | 6=>.val (.bool c)|7=>.ptr|8=>.any|_=>.val (.bool c)
theorem u0(x y:Nat)(hx:x<Nm.ai)(hy:y<Nm.ai)(z:Nat)(c:Bool)(hz:z=(x+y)%Nm.ai)(hc:c=decide (Nm.ai<=x+y))(w:World):an 115 #[.agg (aa x),.agg (aa y)] w (.tuple #[.agg (aa z),.bool c]):=by subst hz;subst hc;exact qW x y hx hy w
theorem uC(x y:Nat)(hx:x<Nm.ai)(hy:y<Nm.ai)(w:World):an 146 #[.agg (aa x),.agg (aa y)] w (.tuple #[.agg (aa ((x+Nm.ai-y)%Nm.ai)),.bool (decide (x<y))]):=by
 go_enter Tryz.func146,Tryz.ntmps146;go_wp2_with fail
 generalize hw1:World.alloc _ _=w1
 have h0:iz w w1 w.heap.size (w.heap.size+1) (w.heap.size+1+1) x y:=by
  rw[<-hw1];exact⟨(aY.alloc (by simp) _).alloc (by simp;omega) _,((Has.new _ _).alloc _).alloc _,(Has.Rg _ _ _).alloc _,Has.RI _ _ _ _⟩
 have ZE:w.heap.size+1+1<w1.heap.size:=h0.r.lt;clear hw1;generalize hR:w.heap.size+1+1=R at*;generalize hB:w.heap.size+1=B at*;generalize hA:w.heap.size=A at*;have SR:A<w1.heap.size:=by omega
 have hBw:B<w1.heap.size:=by omega
 have hz : Nm.ai-1-y < Nm.ai := by have : 0 < Nm.ai := (by decide);omega
 obtain⟨z,hzd⟩:∃z,z=(x+(Nm.ai-1-y))%Nm.ai:=⟨_,rfl⟩;obtain⟨c,hcd⟩:∃c,c=decide (Nm.ai<=x+(Nm.ai-1-y)):=⟨_,rfl⟩;have HZ:=h_ hzd;have HC:=h_ hcd;clear hzd hcd;have hT:iz w1 w1 A B R x y:=⟨a_,h0.a,h0.b,h0.r⟩;refine Rz.ig (by kernel_rfl) (fun w'=>iz w1 w' A B R x y) (fun i v w'=>(BP x y z c i).holds w1.heap.size v w') (aS 8 6 w1.heap.size z) (aj w1.heap.size) (fun _ _=>aj.refl _ _) (fun _ _ _ _ _ hs h=>dZ.stays _ _ _ _ hs h) (by kernel_rfl) (hT.on a_.drew) ?_ ?_ ?_;exact fun l hl=>fun hk=>by rw[hl]at hk;cases hk
 ·intro i o lz a wx ho hn dq Z;have hC:=Z.c;have hI:=Z.i;have hi:i<10:=(Array.getElem?_eq_some_iff.1 ho).1;obtain rfl|rfl|rfl|rfl|rfl|rfl|rfl|rfl|rfl|rfl:i=0\/i=1\/i=2\/i=3\/i=4\/i=5\/i=6\/i=7\/i=8\/i=9:=by omega
  all_goals obtain rfl:=Option.some.inj ho
  exact dQ ((fun _ _=>aj.refl _ _)) hC (ak rfl) (fV rfl (Z.old' 2) hC.a) rfl (aS.pre (cK Z hn 3));exact dQ ((fun _ _=>aj.refl _ _)) hC (ak rfl) (fV rfl (Z.old' 3) hC.b) rfl (aS.pre (cK Z hn 3))
  ·have e10:=Z.got 1 _ 10 rfl (dq ⟨1,.data⟩ (by simp) rfl) rfl;exact iJ (ak rfl) (f:=150) (args:=#[a.eval (.tmp 10)]) (by kernel_rfl) (by rw[show a.eval (.tmp 10)=_ from e10];  exact ye y hy wx) (fun w' hb=>⟨hC.on hb,aj.below hb,rfl,aS.pre (cK Z hn 3)⟩)
  ·have e9:=Z.got 0 _ 9 rfl (dq ⟨0,.data⟩ (by simp) rfl) rfl;have e11:=Z.got 2 _ 11 rfl (dq ⟨2,.data⟩ (by simp) rfl) rfl;exact iJ (ak rfl) (f:=115) (args:=#[a.eval (.tmp 9),a.eval (.tmp 11)]) (by kernel_rfl) (by rw[show a.eval (.tmp 9)=_ from e9];rw[show a.eval (.tmp 11)=_ from e11];  exact u0 x (Nm.ai-1-y) hx hz z c HZ.out HC.out wx) (fun w' hb=>⟨hC.on hb,aj.below hb,rfl,aS.pre (cK Z hn 3)⟩)
  exact dQ ((fun _ _=>aj.refl _ _)) hC (ak rfl) (dk rfl) (ar Z dq 3 12) (aS.pre (cK Z hn 3));exact dQ ((fun _ _=>aj.refl _ _)) hC (ak rfl) (er rfl (ar Z dq 4 8) rfl) rfl (aS.pre (cK Z hn 3));exact dQ ((fun _ _=>aj.refl _ _)) hC (ak rfl) (er rfl (ar Z dq 4 8) rfl) rfl (aS.keep hI (by rw[Z.size];decide) (by decide) (by decide) fun _ h=>h);have bj:Below wx.heap.size wx (wx.alloc (.cells (aa 0) 26)):=aY;exact mo (ak rfl) (oQ rfl) (hC.on bj) (aj.below bj) ⟨wx.heap.size,aa 0,hC.below.size,rfl,Has.new _ _,rfl⟩ (aS.pre (cK Z hn 3));obtain⟨b,cs,hb,he,hh,hsz⟩:dZ.ptr.holds w1.heap.size (a.eval (.tmp 6)) wx:=Z.got 7 _ 6 rfl (dq ⟨7,.data⟩ (by simp) rfl) rfl;exact jo (ak rfl) (js rfl he (ar Z dq 5 13) hh hsz) (hC.row SR hBw ZE hb _) (aj.row hh) trivial (fun _=>⟨b,hb,he,hh.row _⟩);exact dQ ((fun _ _=>aj.refl _ _)) hC (ak rfl) (eT rfl) (ar Z dq 6 14) (aS.keep hI (by rw[Z.size];decide) (by decide) (by decide) fun _ h=>h)
 ·intro lz a wx hall Z;obtain⟨b,hb,e6,hS⟩:=Z.i (hall 8 (by decide));have e7:a.eval (.tmp 7)=.bool c:=Z.got 9 _ 7 rfl (hall 9 (by decide)) rfl;have e2:a.eval (.tmp 2)=ah A:=Z.old' 2;have e3:a.eval (.tmp 3)=ah B:=Z.old' 3;have e4:a.eval (.tmp 4)=ah R:=Z.old' 4;have hC:=Z.c;obtain⟨u,hu⟩:∃u:Nat->Value,∀t,u t=a.eval (.tmp t):=⟨_,fun _=>rfl⟩;rw[I_ a 25 u Z.Re Z.defers hu];rw[<-hu]at e2 e3 e4 e6 e7;clear hu Z hall;simp only[List.range,List.range.loop,List.map_cons,List.map_nil];rw[e2,e3,e4,e6,e7];clear e2 e3 e4 e6 e7;obtain⟨s,hs⟩:∃s,s=(z+1)%Nm.ai:=⟨_,rfl⟩;obtain⟨d,hd⟩:∃d,d=decide (Nm.ai<=z+1):=⟨_,rfl⟩;have hzl:z<Nm.ai:=by rw[HZ.out];exact Nat.mod_lt _ (by decide)
  have hcall:=PC z s d hzl hs hd;have Xl:=h_ hcall;have HS:=h_ hs;clear hs hd hcall;have hAb:A≠b:=by omega
  have hBb:B≠b:=by omega
  have hRb:R≠b:=by omega
  have hwb:w.heap.size<=b:=by omega
  have hAR:A≠R:=by omega
  have hBR:B≠R:=by omega
  have ZF:w.heap.size<=R:=by omega
  have bj:=af h0.below hC.below;clear hR hB hA SR hBw ZE hT hz h0 hb hzl;go_wp2_with (with_reducible refine aJ rfl _ rfl _ rfl _ hS rfl ?_)
  refine au (Xl.out _) fun w3 hb3=>?_;have VA:=hS.on hb3;have Uz:kP w w3 A B b R x y z:=⟨af bj hb3,hC.a.on hb3,hC.b.on hb3,VA,_,hC.r.on hb3,rfl⟩;go_wp2_with (with_reducible refine aZ rfl _ _ rfl _ _ rfl rfl _ VA rfl ?_)
  have hF:kP w (w3.setRow b (aa s)) A B b R x y s:=by
   obtain⟨cs,h1,h2⟩:=Uz.r;exact⟨below_setRow Uz.below hwb _,Uz.a.Ra _ _ hAb,Uz.b.Ra _ _ hBb,Uz.o.row _,cs,h1.Ra _ _ hRb,h2⟩
  clear VA hb3 Uz bj hS hC;generalize World.setRow _ _ _=w4 at*;have hbR:b≠R:=fun e=>hRb e.symm
  obtain⟨l,hl⟩:∃l,l=decide (x<y):=⟨_,rfl⟩;have hless:=fun w=>mS x y hx hy w
  rw[<-hl]at hless;have HL:=h_ hl;clear hl;refine Rz.ig (by kernel_rfl) (fun w'=>kP w w' A B b R x y s) (fun i v w'=>(xc x y s l i).holds w.heap.size v w') (aS 4 4 w.heap.size s) (aj w.heap.size) (fun _ _=>aj.refl _ _) (fun _ _ _ _ _ hs h=>dZ.stays _ _ _ _ hs h) (by kernel_rfl) (hF.on a_.drew) ?_ ?_ ?_;exact fun l hl=>fun hk=>by rw[hl]at hk;cases hk
  ·intro i o lz a wx ho hn dq Z;have hC:=Z.c;have hI:=Z.i;have hi:i<6:=(Array.getElem?_eq_some_iff.1 ho).1;obtain rfl|rfl|rfl|rfl|rfl|rfl:i=0\/i=1\/i=2\/i=3\/i=4\/i=5:=by omega
   all_goals obtain rfl:=Option.some.inj ho
   exact dQ ((fun _ _=>aj.refl _ _)) hC (ak rfl) (fV rfl (Z.old' 6) hC.o) rfl (aS.pre (cK Z hn 3));exact dQ ((fun _ _=>aj.refl _ _)) hC (ak rfl) (fV rfl (Z.old' 2) hC.a) rfl (aS.pre (cK Z hn 3));exact dQ ((fun _ _=>aj.refl _ _)) hC (ak rfl) (fV rfl (Z.old' 3) hC.b) rfl (aS.pre (cK Z hn 3))
   ·have e22:=Z.got 1 _ 22 rfl (dq ⟨1,.data⟩ (by simp) rfl) rfl;have e23:=Z.got 2 _ 23 rfl (dq ⟨2,.data⟩ (by simp) rfl) rfl;exact iJ (ak rfl) (f:=102) (args:=#[a.eval (.tmp 22),a.eval (.tmp 23)]) (by kernel_rfl) (by rw[show a.eval (.tmp 22)=_ from e22];rw[show a.eval (.tmp 23)=_ from e23];  exact hless wx) (fun w' hb=>⟨hC.on hb,aj.below hb,rfl,aS.pre (cK Z hn 3)⟩)
   obtain⟨cs,hh,hsz⟩:=hC.r;have he:a.eval (.tmp 4)=ah R:=Z.old' 4;exact jo (ak rfl) (js rfl he (ar Z dq 0 21) hh hsz) (hC.row hAR hBR hbR ZF _) (aj.row hh) trivial (fun _=>⟨R,ZF,he,hh.row _⟩);exact dQ ((fun _ _=>aj.refl _ _)) hC (ak rfl) (eT rfl) (ar Z dq 3 24) (aS.keep hI (by rw[Z.size];decide) (by decide) (by decide) fun _ h=>h)
  ·intro lz a wx hall Z;obtain⟨b',hb',e4',hS⟩:=Z.i (hall 4 (by decide));have e4:a.eval (.tmp 4)=ah R:=Z.old' 4;obtain rfl:b'=R:=by rw[e4]at e4';injection e4' with h;injection h with h;injection h with h;exact h.symm
   have e5:a.eval (.tmp 5)=.bool l:=Z.got 5 _ 5 rfl (hall 5 (by decide)) rfl;have bj:=Z.c.below;have hdf:=Z.defers;obtain⟨tm,df⟩:=a;obtain rfl:df=[]:=hdf;clear Z hall;go_wp2_with fail
   refine bodyPost_ret (v:=.tuple #[.agg (aa s),.bool l]) (iN Tryz.results146 _ _ _ _ e4 e5 hS) rfl ⟨?_,bj⟩;rw[HS.out,HZ.out,HL.out];have hb0:0<Nm.ai:=by decide
   rw[Nat.mod_add_mod,show x+(Nm.ai-1-y)+1=x+Nm.ai-y by omega]
