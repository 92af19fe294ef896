import Derived.Test.YtkbjaadjnbgfbaaGreatDoorHBunQ22
import Derived.Test.YtkbjaadjnbgfbaaGreatDoorHBunQ20
set_option maxRecDepth 100000
set_option maxHeartbeats 4000000
namespace Go.Proofs.YtkbjaadjnbgfbaaGreatDoor.NN
open Go.RowKit VI
def an(B:Nat)(w w':World):Prop:=∀b cs,B<=b->Has w b cs 26->cs.size=4->∃cs',Has w' b cs' 26/\cs'.size=4
theorem an.refl(B:Nat)(w:World):an B w w:=fun _ cs _ h hs=>⟨cs,h,hs⟩
variable{B z k i:Nat}{w w':World}
theorem an.below(h:Bl w w'):an B w w':=fun _ cs _ h' hs=>⟨cs,h'.on h,hs⟩
theorem an.row{g:Nat}{cs:Array Value}(hg:Has w g cs 26):an B w (w.setRow g (aa z)):=fun b cs' _ h hs=>by
 by_cases e:b=g;subst e;exact⟨_,hg.row _,rfl⟩;exact⟨cs',h.Vo _ _ e,hs⟩
inductive gV where
 | val (v:Value)
 | ptr
 | any
def gV.holds(B:Nat):gV->Value->World->Prop
 | .val x,v,_=>v=x
 | .ptr,v,w=>∃b cs,B<=b/\v=af b/\Has w b cs 26/\cs.size=4
 | .any,_,_=>True
theorem gV.stays(sp:gV)(v:Value)(w w':World)(hs:an B w w')(h:sp.holds B v w):sp.holds B v w':=by
 cases sp with
 | val x=>exact h
 | ptr=>
  obtain⟨b,cs,h1,h2,h3,h4⟩:=h;obtain⟨cs',h5,h6⟩:=hs b cs h1 h3 h4;exact⟨b,cs',h1,h2,h5,h6⟩
 | any=>trivial
def bK(k:Nat)(p:Tmp)(B z:Nat)(lz:Array Bool)(a:Act)(w:World):Prop:=lz.getD k false=true->∃b,B<=b/\a.eval (.tmp p)=af b/\Has w b (aa z) 26
variable{p:Tmp}{lz:Array Bool}{a:Act}
theorem bK.keep{d:Option Tmp}{v:Value}(h:bK k p B z lz a w)(hi:i<lz.size)(hik:i≠k)(hd:d≠some p)(hw:∀b,Has w b (aa z) 26->Has w' b (aa z) 26):bK k p B z (lz.setIfInBounds i true) (a.put d v) w':=fun hl=>by
 rw[ko _ _ _ hi,ah hik]at hl;obtain⟨b,hb,he,hh⟩:=h hl;exact⟨b,hb,by rw[fV (fun d' hdd e=>hd (by rw[hdd];cases e;rfl))];exact he,hw b hh⟩
theorem bK.pre(h:(lz.setIfInBounds i true).getD k false=false):bK k p B z (lz.setIfInBounds i true) a w:=fun hl=>by rw[h]at hl;cases hl
section
variable{ρ:Operand->Value}{o:Oper}{w:World}
variable{x:Operand}{g z:Nat}
theorem kh(ho:o.op=.load 26 x)(hx:ρ x=af g)(hg:Has w g (aa z) 26):(execOp ρ o).run Tryz.prog w=.ok (.value (.agg (aa z))) w:=by have hl:(loadVar 26 ⟨g,0,none⟩).run Tryz.prog w=.ok (.agg (aa z)) w:=gM w g 26 26 (aa z) (0,0) _ hg.out Tryz.underlying26 rfl dH;unfold execOp;simp only[ho,hx,Instr.loadAt,Instr.sureAddr,aB,cr,aM,hl]
theorem nk{y:Operand}{cs:Array Value}(ho:o.op=.store 26 x y)(hx:ρ x=af g)(hy:ρ y=.agg (aa z))(hg:Has w g cs 26)(hs:cs.size=4):(execOp ρ o).run Tryz.prog w=.ok .skip (w.setRow g (aa z)):=by unfold execOp;simp only[ho,hx,hy,Instr.storeAt,Instr.sureAddr,aB,cr,aM,run_storeVar_row w g 26 26 cs (aa z) hg.out dH hs (E6 z)]
theorem uw(ho:o.op=.alloc 26):(execOp ρ o).run Tryz.prog w=.ok (.value (.pointer (some ⟨w.heap.size,0,none⟩))) (w.alloc (.cells (aa 0) 26)):=by unfold execOp;simp only[ho];kernel_rfl
theorem fs(ho:o.op=.move x):(execOp ρ o).run Tryz.prog w=.ok (.value (ρ x)) w:=by unfold execOp;simp only[ho];rfl
theorem iX(ho:o.op=.assign x):(execOp ρ o).run Tryz.prog w=.ok (.value (ρ x)) w:=by unfold execOp;simp only[ho];rfl
theorem iy{n:Nat}{vs:Array Value}{v:Value}(ho:o.op=.extract x n)(hx:ρ x=.tuple vs)(hv:vs[n]?=some v):(execOp ρ o).run Tryz.prog w=.ok (.value v) w:=by unfold execOp;simp only[ho,hx];simp[Instr.extract,hv]
end
structure Qs (w wr:World) (A B R S O T a b out rest:Nat):Prop where
 below:Bl w wr
 a:Has wr A (aa a) 26
 b:Has wr B (aa b) 26
 r:∃cs,Has wr R cs 26/\cs.size=4
 s:∃cs,Has wr S cs 26/\cs.size=4
 o:Has wr O (aa out) 26
 t:Has wr T (aa rest) 26
def kO(w:World)(A B R S O T:Nat):Prop:=w.heap.size<=A/\A<B/\B<R/\R<S/\S<O/\O<T
section
variable{w wr w':World}{A B R S O T a b out rest:Nat}
theorem Qs.on(h:Qs w wr A B R S O T a b out rest)(hb:Bl wr w'):Qs w w' A B R S O T a b out rest:=⟨ai h.below hb,h.a.on hb,h.b.on hb,let ⟨cs,h1,h2⟩:=h.r; ⟨cs,h1.on hb,h2⟩,let ⟨cs,h1,h2⟩:=h.s; ⟨cs,h1.on hb,h2⟩,h.o.on hb,h.t.on hb⟩
theorem Qs.row(h:Qs w wr A B R S O T a b out rest)(hw:w.heap.size<=A){g:Nat}(hg:T<g)(cs:Array Value)(hd:kO w A B R S O T):Qs w (wr.setRow g cs) A B R S O T a b out rest:=by obtain⟨_,d2,d3,d4,d5,d6⟩:=hd;exact⟨below_setRow h.below (by omega) _,h.a.Vo _ _ (by omega),h.b.Vo _ _ (by omega),let ⟨cs,h1,h2⟩:=h.r; ⟨cs,h1.Vo _ _ (by omega),h2⟩,let ⟨cs,h1,h2⟩:=h.s; ⟨cs,h1.Vo _ _ (by omega),h2⟩,h.o.Vo _ _ (by omega),h.t.Vo _ _ (by omega)⟩
theorem Qs.ag2(h:Qs w wr A B R S O T a b out rest)(hd:kO w A B R S O T)(v:Nat):Qs w (wr.setRow T (aa v)) A B R S O T a b out v:=by obtain⟨d1,d2,d3,d4,d5,d6⟩:=hd;exact⟨below_setRow h.below (by omega) _,h.a.Vo _ _ (by omega),h.b.Vo _ _ (by omega),let ⟨cs,h1,h2⟩:=h.r; ⟨cs,h1.Vo _ _ (by omega),h2⟩,let ⟨cs,h1,h2⟩:=h.s; ⟨cs,h1.Vo _ _ (by omega),h2⟩,h.o.Vo _ _ (by omega),h.t.row _⟩
theorem Qs.ag3(h:Qs w wr A B R S O T a b out rest)(hd:kO w A B R S O T)(i:Nat)(v:Value)(out':Nat)(e:(aa out).setIfInBounds i v=aa out'):Qs w (wr.setCell ⟨O,i,none⟩ v).drew A B R S O T a b out' rest:=by obtain⟨d1,d2,d3,d4,d5,d6⟩:=hd;exact⟨(h.below.setCell (by simp;omega) _).drew,(h.a.other _ _ (by simp;omega)).drew,(h.b.other _ _ (by simp;omega)).drew,let ⟨cs,h1,h2⟩:=h.r; ⟨cs,(h1.other _ _ (by simp;omega)).drew,h2⟩,let ⟨cs,h1,h2⟩:=h.s; ⟨cs,(h1.other _ _ (by simp;omega)).drew,h2⟩,by rw[<-e];exact(h.o.set _).drew,(h.t.other _ _ (by simp;omega)).drew⟩
theorem Qs.ag4(h:Qs w wr A B R S O T a b out rest)(hd:kO w A B R S O T)(v:Nat):Qs w (wr.setRow R (aa v)) A B R S O T a b out rest:=by obtain⟨d1,d2,d3,d4,d5,d6⟩:=hd;exact⟨below_setRow h.below (by omega) _,h.a.Vo _ _ (by omega),h.b.Vo _ _ (by omega),let ⟨_,h1,_⟩:=h.r; ⟨_,h1.row _,rfl⟩,let ⟨cs,h1,h2⟩:=h.s; ⟨cs,h1.Vo _ _ (by omega),h2⟩,h.o.Vo _ _ (by omega),h.t.Vo _ _ (by omega)⟩
theorem Qs.gz(h:Qs w wr A B R S O T a b out rest)(hd:kO w A B R S O T)(v:Nat):Qs w (wr.setRow S (aa v)) A B R S O T a b out rest:=by obtain⟨d1,d2,d3,d4,d5,d6⟩:=hd;exact⟨below_setRow h.below (by omega) _,h.a.Vo _ _ (by omega),h.b.Vo _ _ (by omega),let ⟨cs,h1,h2⟩:=h.r; ⟨cs,h1.Vo _ _ (by omega),h2⟩,let ⟨_,h1,_⟩:=h.s; ⟨_,h1.row _,rfl⟩,h.o.Vo _ _ (by omega),h.t.Vo _ _ (by omega)⟩
end
variable{w w' wr:World}
theorem TC{fn:Func}{p q:Tmp}(h:fn.results=#[.cell p 26,.cell q 26])(tmps:Array Value)(g k x y:Nat)(hp:tmps.getD p undef=af g)(hq:tmps.getD q undef=af k)(hg:Has w g (aa x) 26)(hk:Has w k (aa y) 26):(results fn tmps).run Tryz.prog w=.ok (.tuple #[.agg (aa x),.agg (aa y)]) w:=by
 have h1:(loadVar 26 ⟨g,0,none⟩).run Tryz.prog w=.ok (.agg (aa x)) w:=gM w g 26 26 (aa x) (0,0) _ hg.out Tryz.underlying26 rfl dH;have h2:(loadVar 26 ⟨k,0,none⟩).run Tryz.prog w=.ok (.agg (aa y)) w:=gM w k 26 26 (aa y) (0,0) _ hk.out Tryz.underlying26 rfl dH;have hp':tmps[p]?.getD undef=af g:=by simpa using hp
 have hq':tmps[q]?.getD undef=af k:=by simpa using hq
 simp[results,h,hp',hq',asAddr,h1,h2]
def fF(k R z:Nat)(lz:Array Bool)(w:World):Prop:=lz.getD k false=true->Has w R (aa z) 26
variable{k i R z A B x y O:Nat}{lz:Array Bool}
theorem fF.pre(h:(lz.setIfInBounds i true).getD k false=false):fF k R z (lz.setIfInBounds i true) w:=fun hl=>by rw[h]at hl;cases hl
theorem fF.keep(h:fF k R z lz w)(hi:i<lz.size)(hik:i≠k)(hw:Has w R (aa z) 26->Has w' R (aa z) 26):fF k R z (lz.setIfInBounds i true) w':=fun hl=>by
 rw[ko _ _ _ hi,ah hik]at hl;exact hw (h hl)
theorem H8(a:Act)(n:Nat)(u:Nat->Value)(hs:a.tmps.size=n)(hd:a.defers=[])(hu:∀t,u t=a.eval (.tmp t)):a=⟨((List.range n).map u).toArray,[]⟩:=by obtain⟨tm,df⟩:=a;obtain rfl:df=[]:=hd;congr 1;apply Array.ext;simpa using hs;intro i h1 h2;simp only[om,jh,jo,hu];simp[Act.eval,Array.getD_eq_getD_getElem?,h1]
def FK(out rest:Nat):Nat->gV
 | 0=>.val (.agg (aa out))|1=>.val (.agg (aa rest))|_=>.any
structure lT (w wr:World) (A B R x y:Nat):Prop where
 below:Bl w wr
 a:Has wr A (aa x) 26
 b:Has wr B (aa y) 26
 r:Has wr R (aa 0) 26
theorem lT.on(h:lT w wr A B R x y)(hb:Bl wr w'):lT w w' A B R x y:=⟨ai h.below hb,h.a.on hb,h.b.on hb,h.r.on hb⟩
theorem lT.row(h:lT w wr A B R x y)(hA:A<w.heap.size)(hB:B<w.heap.size)(hR:R<w.heap.size){b:Nat}(hb:w.heap.size<=b)(cs:Array Value):lT w (wr.setRow b cs) A B R x y:=⟨below_setRow h.below hb _,h.a.Vo _ _ (by omega),h.b.Vo _ _ (by omega),h.r.Vo _ _ (by omega)⟩
theorem IB(a:Act)(n:Nat)(u:Nat->Value)(hs:a.tmps.size=n)(hd:a.defers=[])(hu:∀t,u t=a.eval (.tmp t)):a=⟨((List.range n).map u).toArray,[]⟩:=by obtain⟨tm,df⟩:=a;obtain rfl:df=[]:=hd;congr 1;apply Array.ext;simpa using hs;intro i h1 h2;simp only[om,jh,jo,hu];simp[Act.eval,Array.getD_eq_getD_getElem?,h1]
structure pX (w wr:World) (A B O R x y z:Nat):Prop where
 below:Bl w wr
 a:Has wr A (aa x) 26
 b:Has wr B (aa y) 26
 o:Has wr O (aa z) 26
 r:∃cs,Has wr R cs 26/\cs.size=4
theorem pX.on(h:pX w wr A B O R x y z)(hb:Bl wr w'):pX w w' A B O R x y z:=⟨ai h.below hb,h.a.on hb,h.b.on hb,h.o.on hb,let ⟨cs,h1,h2⟩:=h.r; ⟨cs,h1.on hb,h2⟩⟩
theorem pX.row(h:pX w wr A B O R x y z)(hA:A≠R)(hB:B≠R)(hO:O≠R)(hR:w.heap.size<=R)(v:Nat):pX w (wr.setRow R (aa v)) A B O R x y z:=⟨below_setRow h.below hR _,h.a.Vo _ _ hA,h.b.Vo _ _ hB,h.o.Vo _ _ hO,let ⟨_,h1,_⟩:=h.r; ⟨_,h1.row _,rfl⟩⟩
def yw(x y z:Nat)(c:Bool):Nat->gV
 | 0=>.val (.agg (aa z))|1=>.val (.agg (aa x))|2=>.val (.agg (aa y))|3=>.val (.bool c)|4=>.any|_=>.val (.bool c)
theorem Q_(z s:Nat)(c:Bool)(hz:z<Nm.ak)(hs:s=(z+1)%Nm.ak)(hc:c=decide (Nm.ak<=z+1))(w:World):ar 115 #[.agg (aa z),.agg #[aH 1,aH 0,aH 0,aH 0]] w (.tuple #[.agg (aa s),.bool c]):=by subst hs;subst hc;exact vN z 1 hz (by decide) w
def Dk(x y z:Nat)(c:Bool):Nat->gV
 | 0=>.val (.agg (aa x))|1=>.val (.agg (aa y))|2=>.val (.agg (aa (Nm.ak-1-y)))|3=>.val (.tuple #[.agg (aa z),.bool c])|4=>.val (.tuple #[.agg (aa z),.bool c])|5=>.val (.agg (aa z))
 | 6=>.val (.bool c)|7=>.ptr|8=>.any|_=>.val (.bool c)
theorem As(x y:Nat)(hx:x<Nm.ak)(hy:y<Nm.ak)(z:Nat)(c:Bool)(hz:z=(x+y)%Nm.ak)(hc:c=decide (Nm.ak<=x+y))(w:World):ar 115 #[.agg (aa x),.agg (aa y)] w (.tuple #[.agg (aa z),.bool c]):=by subst hz;subst hc;exact vN x y hx hy w
theorem zX(x y:Nat)(hx:x<Nm.ak)(hy:y<Nm.ak)(w:World):ar 146 #[.agg (aa x),.agg (aa y)] w (.tuple #[.agg (aa ((x+Nm.ak-y)%Nm.ak)),.bool (decide (x<y))]):=by
 go_enter Tryz.func146,Tryz.ntmps146;go_wp2_with fail
 generalize hw1:World.alloc _ _=w1
 have h0:lT w w1 w.heap.size (w.heap.size+1) (w.heap.size+1+1) x y:=by
  rw[<-hw1];exact⟨(cu.alloc (by simp) _).alloc (by simp;omega) _,((Has.new _ _).alloc _).alloc _,(Has.Vt _ _ _).alloc _,Has.VT _ _ _ _⟩
 have hRw:w.heap.size+1+1<w1.heap.size:=h0.r.lt;clear hw1;generalize hR:w.heap.size+1+1=R at*;generalize hB:w.heap.size+1=B at*;generalize hA:w.heap.size=A at*;have W8:A<w1.heap.size:=by omega
 have hBw:B<w1.heap.size:=by omega
 have hz : Nm.ak-1-y < Nm.ak := by have : 0 < Nm.ak := (by decide);omega
 obtain⟨z,hzd⟩:∃z,z=(x+(Nm.ak-1-y))%Nm.ak:=⟨_,rfl⟩;obtain⟨c,hcd⟩:∃c,c=decide (Nm.ak<=x+(Nm.ak-1-y)):=⟨_,rfl⟩;have HZ:=h_ hzd;have HC:=h_ hcd;clear hzd hcd;have hT:lT w1 w1 A B R x y:=⟨cg,h0.a,h0.b,h0.r⟩;refine VI.lG (by kernel_rfl) (fun w'=>lT w1 w' A B R x y) (fun i v w'=>(Dk x y z c i).holds w1.heap.size v w') (bK 8 6 w1.heap.size z) (an w1.heap.size) (fun _ _=>an.refl _ _) (fun _ _ _ _ _ hs h=>gV.stays _ _ _ _ hs h) (by kernel_rfl) (hT.on cg.drew) ?_ ?_ ?_;exact fun l hl=>fun hk=>by rw[hl]at hk;cases hk
 ·intro i o lz a wx ho hn dq Z;have hC:=Z.c;have hI:=Z.i;have hi:i<10:=(dA.1 ho).1;obtain rfl|rfl|rfl|rfl|rfl|rfl|rfl|rfl|rfl|rfl:i=0\/i=1\/i=2\/i=3\/i=4\/i=5\/i=6\/i=7\/i=8\/i=9:=by omega
  all_goals obtain rfl:=Option.some.inj ho
  exact gv ((fun _ _=>an.refl _ _)) hC (aq rfl) (kh rfl (Z.old' 2) hC.a) rfl (bK.pre (d_ Z hn 3));exact gv ((fun _ _=>an.refl _ _)) hC (aq rfl) (kh rfl (Z.old' 3) hC.b) rfl (bK.pre (d_ Z hn 3))
  ·have e10:=Z.got 1 _ 10 rfl (dq ⟨1,.data⟩ (by simp) rfl) rfl;exact mz (aq rfl) (f:=150) (args:=#[a.eval (.tmp 10)]) (by kernel_rfl) (by rw[show a.eval (.tmp 10)=_ from e10];  exact Cy y hy wx) (fun w' hb=>⟨hC.on hb,an.below hb,rfl,bK.pre (d_ Z hn 3)⟩)
  ·have e9:=Z.got 0 _ 9 rfl (dq ⟨0,.data⟩ (by simp) rfl) rfl;have e11:=Z.got 2 _ 11 rfl (dq ⟨2,.data⟩ (by simp) rfl) rfl;exact mz (aq rfl) (f:=115) (args:=#[a.eval (.tmp 9),a.eval (.tmp 11)]) (by kernel_rfl) (by rw[show a.eval (.tmp 9)=_ from e9];rw[show a.eval (.tmp 11)=_ from e11];  exact As x (Nm.ak-1-y) hx hz z c HZ.out HC.out wx) (fun w' hb=>⟨hC.on hb,an.below hb,rfl,bK.pre (d_ Z hn 3)⟩)
  exact gv ((fun _ _=>an.refl _ _)) hC (aq rfl) (fs rfl) (aw Z dq 3 12) (bK.pre (d_ Z hn 3));exact gv ((fun _ _=>an.refl _ _)) hC (aq rfl) (iy rfl (aw Z dq 4 8) rfl) rfl (bK.pre (d_ Z hn 3));exact gv ((fun _ _=>an.refl _ _)) hC (aq rfl) (iy rfl (aw Z dq 4 8) rfl) rfl (bK.keep hI (by rw[Z.size];decide) (by decide) (by decide) fun _ h=>h);have bj:Below wx.heap.size wx (wx.alloc (.cells (aa 0) 26)):=cu;exact qU (aq rfl) (uw rfl) (hC.on bj) (an.below bj) ⟨wx.heap.size,aa 0,hC.below.size,rfl,Has.new _ _,rfl⟩ (bK.pre (d_ Z hn 3));obtain⟨b,cs,hb,he,hh,hsz⟩:gV.ptr.holds w1.heap.size (a.eval (.tmp 6)) wx:=Z.got 7 _ 6 rfl (dq ⟨7,.data⟩ (by simp) rfl) rfl;exact nw (aq rfl) (nk rfl he (aw Z dq 5 13) hh hsz) (hC.row W8 hBw hRw hb _) (an.row hh) trivial (fun _=>⟨b,hb,he,hh.row _⟩);exact gv ((fun _ _=>an.refl _ _)) hC (aq rfl) (iX rfl) (aw Z dq 6 14) (bK.keep hI (by rw[Z.size];decide) (by decide) (by decide) fun _ h=>h)
 ·intro lz a wx hall Z;obtain⟨b,hb,e6,hS⟩:=Z.i (hall 8 (by decide));have e7:a.eval (.tmp 7)=.bool c:=Z.got 9 _ 7 rfl (hall 9 (by decide)) rfl;have e2:a.eval (.tmp 2)=af A:=Z.old' 2;have e3:a.eval (.tmp 3)=af B:=Z.old' 3;have e4:a.eval (.tmp 4)=af R:=Z.old' 4;have hC:=Z.c;obtain⟨u,hu⟩:∃u:Nat->Value,∀t,u t=a.eval (.tmp t):=⟨_,fun _=>rfl⟩;rw[IB a 25 u Z.Vr Z.defers hu];rw[<-hu]at e2 e3 e4 e6 e7;clear hu Z hall;simp only[List.range,List.range.loop,bZ,cx];rw[e2,e3,e4,e6,e7];clear e2 e3 e4 e6 e7;obtain⟨s,hs⟩:∃s,s=(z+1)%Nm.ak:=⟨_,rfl⟩;obtain⟨d,hd⟩:∃d,d=decide (Nm.ak<=z+1):=⟨_,rfl⟩;have hzl:z<Nm.ak:=by rw[HZ.out];exact bq _ (by decide)
  have hcall:=Q_ z s d hzl hs hd;have HCL:=h_ hcall;have HS:=h_ hs;clear hs hd hcall;have hAb:A≠b:=by omega
  have hBb:B≠b:=by omega
  have hRb:R≠b:=by omega
  have hwb:w.heap.size<=b:=by omega
  have hAR:A≠R:=by omega
  have hBR:B≠R:=by omega
  have hwR:w.heap.size<=R:=by omega
  have bj:=ai h0.below hC.below;clear hR hB hA W8 hBw hRw hT hz h0 hb hzl;go_wp2_with (with_reducible refine a_ rfl _ rfl _ rfl _ hS rfl ?_)
  refine az (HCL.out _) fun w3 hb3=>?_;have ZQ:=hS.on hb3;have YQ:pX w w3 A B b R x y z:=⟨ai bj hb3,hC.a.on hb3,hC.b.on hb3,ZQ,_,hC.r.on hb3,rfl⟩;go_wp2_with (with_reducible refine cB rfl _ _ rfl _ _ rfl rfl _ ZQ rfl ?_)
  have hF:pX w (w3.setRow b (aa s)) A B b R x y s:=by
   obtain⟨cs,h1,h2⟩:=YQ.r;exact⟨below_setRow YQ.below hwb _,YQ.a.Vo _ _ hAb,YQ.b.Vo _ _ hBb,YQ.o.row _,cs,h1.Vo _ _ hRb,h2⟩
  clear ZQ hb3 YQ bj hS hC;generalize World.setRow _ _ _=w4 at*;have hbR:b≠R:=fun e=>hRb e.symm
  obtain⟨l,hl⟩:∃l,l=decide (x<y):=⟨_,rfl⟩;have hless:=fun w=>sf x y hx hy w
  rw[<-hl]at hless;have HL:=h_ hl;clear hl;refine VI.lG (by kernel_rfl) (fun w'=>pX w w' A B b R x y s) (fun i v w'=>(yw x y s l i).holds w.heap.size v w') (bK 4 4 w.heap.size s) (an w.heap.size) (fun _ _=>an.refl _ _) (fun _ _ _ _ _ hs h=>gV.stays _ _ _ _ hs h) (by kernel_rfl) (hF.on cg.drew) ?_ ?_ ?_;exact fun l hl=>fun hk=>by rw[hl]at hk;cases hk
  ·intro i o lz a wx ho hn dq Z;have hC:=Z.c;have hI:=Z.i;have hi:i<6:=(dA.1 ho).1;obtain rfl|rfl|rfl|rfl|rfl|rfl:i=0\/i=1\/i=2\/i=3\/i=4\/i=5:=by omega
   all_goals obtain rfl:=Option.some.inj ho
   exact gv ((fun _ _=>an.refl _ _)) hC (aq rfl) (kh rfl (Z.old' 6) hC.o) rfl (bK.pre (d_ Z hn 3));exact gv ((fun _ _=>an.refl _ _)) hC (aq rfl) (kh rfl (Z.old' 2) hC.a) rfl (bK.pre (d_ Z hn 3));exact gv ((fun _ _=>an.refl _ _)) hC (aq rfl) (kh rfl (Z.old' 3) hC.b) rfl (bK.pre (d_ Z hn 3))
   ·have e22:=Z.got 1 _ 22 rfl (dq ⟨1,.data⟩ (by simp) rfl) rfl;have e23:=Z.got 2 _ 23 rfl (dq ⟨2,.data⟩ (by simp) rfl) rfl;exact mz (aq rfl) (f:=102) (args:=#[a.eval (.tmp 22),a.eval (.tmp 23)]) (by kernel_rfl) (by rw[show a.eval (.tmp 22)=_ from e22];rw[show a.eval (.tmp 23)=_ from e23];  exact hless wx) (fun w' hb=>⟨hC.on hb,an.below hb,rfl,bK.pre (d_ Z hn 3)⟩)
   obtain⟨cs,hh,hsz⟩:=hC.r;have he:a.eval (.tmp 4)=af R:=Z.old' 4;exact nw (aq rfl) (nk rfl he (aw Z dq 0 21) hh hsz) (hC.row hAR hBR hbR hwR _) (an.row hh) trivial (fun _=>⟨R,hwR,he,hh.row _⟩);exact gv ((fun _ _=>an.refl _ _)) hC (aq rfl) (iX rfl) (aw Z dq 3 24) (bK.keep hI (by rw[Z.size];decide) (by decide) (by decide) fun _ h=>h)
  ·intro lz a wx hall Z;obtain⟨b',hb',e4',hS⟩:=Z.i (hall 4 (by decide));have e4:a.eval (.tmp 4)=af R:=Z.old' 4;obtain rfl:b'=R:=by rw[e4]at e4';injection e4' with h;injection h with h;injection h with h;exact h.symm
   have e5:a.eval (.tmp 5)=.bool l:=Z.got 5 _ 5 rfl (hall 5 (by decide)) rfl;have bj:=Z.c.below;have hdf:=Z.defers;obtain⟨tm,df⟩:=a;obtain rfl:df=[]:=hdf;clear Z hall;go_wp2_with fail
   refine ay (v:=.tuple #[.agg (aa s),.bool l]) (mM Tryz.results146 _ _ _ _ e4 e5 hS) rfl ⟨?_,bj⟩;rw[HS.out,HZ.out,HL.out];have hb0:0<Nm.ak:=by decide
   rw[Nat.mod_add_mod,show x+(Nm.ak-1-y)+1=x+Nm.ak-y by omega]
