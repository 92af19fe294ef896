import Derived.Test.YtkbjaadjnbgfbaaGreatDoorBBunQ34
import Derived.Test.YtkbjaadjnbgfbaaGreatDoorBBunQ40
set_option maxRecDepth 100000
set_option maxHeartbeats 4000000
namespace Go.Proofs.YtkbjaadjnbgfbaaGreatDoor
open Go.RowKit
namespace An
open Mem Sc
open Ar (aq Ru aB Ok cp)
def pA(M:List aq)(x:Int):Int:=if cp M x then(M.getD x.toNat aB).up else -1
def oB(w:World)(F:Nat->Prop)(q:Option Addr)(r:Ru)(M:List aq):Prop:=(∃bt ls,q=some ⟨bt,0,none⟩/\f_ w F bt r M ls/\ls.length=M.length)\/(q=none/\M=[])
section
variable{w w':World}{F G:Nat->Prop}{q:Option Addr}{r:Ru}{M:List aq}
theorem oB.on(h:oB w F q r M)(k:Kp G w w')(hG:∀i,F i->¬G i):oB w' F q r M:=
 h.imp (fun⟨bt,ls,h1,h2,h3⟩=>⟨bt,ls,h1,h2.on k hG,h3⟩) id
theorem oB.below(h:oB w F q r M)(hb:Bl w w'):oB w' F q r M:=h.on (G:=fun _=>False) (Kp.of hb) fun _ _ hf=>hf
theorem kn(x:Int):¬cp [] x:=fun h=>absurd (Int.lt_of_le_of_lt h.1 h.2) (Int.lt_irrefl _)
theorem oB.Sa(h:oB w F q r M)(x y:Int)(g:Bool)(hg:mR r M x y g):ak 31 #[.pointer q,i_ x,i_ y] w (.bool g):=by
 rcases h with⟨bt,ls,rfl,hS,_⟩|⟨rfl,rfl⟩
 exact Fw hS x y g hg
 ·have:g=false:=by
   rcases hg with⟨_,h⟩|⟨h,_⟩|⟨n,m,e,d,_,_,h,_⟩
   exact h;exact absurd h (kn x);simp at h
  subst this;exact J4 x y w
theorem oB.len(h:oB w F q r M):ak 57 #[.pointer q] w (i_ (M.length:Int)):=by
 rcases h with⟨bt,ls,rfl,hS,_⟩|⟨rfl,rfl⟩
 exact zN hS;exact ME w
theorem oB.at(h:oB w F q r M)(x:Int):∃e:En,e.ok/\e.up=pA M x/\∀w',Bl w w'->ak 29 #[.pointer q,i_ x] w' (.tuple #[.agg (bT e),.bool (decide (cp M x))]):=by
 rcases h with⟨bt,ls,rfl,hS,_⟩|⟨rfl,rfl⟩
 ·by_cases hx:cp M x;obtain⟨n,e,rfl,he⟩:=hx.is;obtain⟨Fa,ab,k1,k2⟩:=hS.parts;refine⟨_,jy k2 he,?_,fun w' hb=>?_⟩;unfold pA;rw[if_pos hx,Int.toNat_natCast,List.getD_eq_getElem?_getD,he];rfl;rw[decide_eq_true hx];exact eZ (hS.below hb) he _ rfl;refine⟨lg,ee,by unfold pA;rw[if_neg hx];rfl,fun w' hb=>?_⟩;rw[decide_eq_false hx];exact pE (hS.below hb) x hx
 refine⟨lg,ee,by unfold pA;rw[if_neg (kn x)];rfl,fun w' _=>?_⟩;rw[decide_eq_false (kn x)];exact s_ x w'
end
variable{M:List aq}
theorem Cl{i:Nat}{e:aq}(he:M[i]?=some e):pA M (i:Int)=e.up:=by unfold pA;rw[if_pos (Ar.fF he),Int.toNat_natCast,List.getD_eq_getElem?_getD,he];rfl
theorem uu{x:Int}(h:¬cp M x):pA M x = -1:=if_neg h
theorem Ew(w:World):ak 127 #[.pointer none] w (.pointer none):=by
 have hB:=Below.refl w.heap.size w;go_enter Tryz.func127,Tryz.ntmps127;go_wp2_with fail
 go_ret;exact⟨rfl,hB⟩
theorem u_(mb:Nat)(q:Option Addr)(w:World)(hv:w.cell? ⟨mb,0,none⟩=some (.pointer q)):ak 127 #[af mb] w (.pointer q):=by
 have hB:=Below.refl w.heap.size w;go_enter Tryz.func127,Tryz.ntmps127;go_wp2_with fail
 go_ret;exact⟨rfl,hB⟩
def gO(w:World)(mp:Value)(q:Option Addr):Prop:=∀w',Bl w w'->ak 127 #[mp] w' (.pointer q)
theorem gO.nil(w:World):gO w (.pointer none) none:=fun w' _=>Ew w'
theorem pY(mp:Value)(q:Option Addr)(x:Int)(E:En)(hE:E.ok)(g:Bool)(w:World)(KH:Hid (gO w mp q))(KA:aQ w 29 #[.pointer q,i_ x] (.tuple #[.agg (bT E),.bool g])):ak 95 #[mp,i_ x] w (.bool g):=by
 have ze:=gE hE;have z0:=gE cZ;have hB:=Below.refl w.heap.size w;go_enter Tryz.func95,Tryz.ntmps95;go_wp2_with fail
 refine au (KH.out _ hB) fun v1 hb=>?_;replace hB:=ah hB hb;clear hb;go_wp2_with fail
 refine au (KA.out _ hB) fun v2 hb=>?_;replace hB:=ah hB hb;clear hb;have hnew:=gL v2;have hE1:=lX v2 E;have hb3:=mz v2 60 Tryz.zeroCells60 (bT E);go_upto_region 2 with(with_reducible refine gX rfl _ _ rfl _ _ E rfl rfl rfl ze hnew z0 ?_)
 generalize World.setRow _ _ _=v3 at*;replace hB:=ah hB hb3;clear hb3 hnew hE1;go_wp2_with fail
 go_ret;exact⟨rfl,hB⟩
theorem Er(mp:Value)(q:Option Addr)(x:Int)(E:En)(hE:E.ok)(z:Int)(hz:Hid (E.up=z))(g:Bool)(w:World)(KH:Hid (gO w mp q))(KA:aQ w 29 #[.pointer q,i_ x] (.tuple #[.agg (bT E),.bool g])):ak 130 #[mp,i_ x] w (i_ z):=by
 have ze:=gE hE;have z0:=gE cZ;have hB:=Below.refl w.heap.size w;go_enter Tryz.func130,Tryz.ntmps130;go_wp2_with fail
 refine au (KH.out _ hB) fun v1 hb=>?_;replace hB:=ah hB hb;clear hb;go_wp2_with fail
 refine au (KA.out _ hB) fun v2 hb=>?_;replace hB:=ah hB hb;clear hb;have hnew:=gL v2;have hE1:=lX v2 E;have hb3:=mz v2 60 Tryz.zeroCells60 (bT E);go_upto_region 2 with(with_reducible refine gX rfl _ _ rfl _ _ E rfl rfl rfl ze hnew z0 ?_)
 generalize World.setRow _ _ _=v3 at*;replace hB:=ah hB hb3;have c1:=bB.up hE1 hE hz;clear hb3 hnew;go_wp2_with fail
 go_ret;exact⟨rfl,hB⟩
theorem JB(mp:Value)(x:Int)(w:World)(KH:aQ w 95 #[mp,i_ x] (.bool false)):ak 94 #[mp,i_ x] w (.tuple #[i_ 0,.bool false]):=by
 have hB:=Below.refl w.heap.size w;go_enter Tryz.func94,Tryz.ntmps94;go_wp2_with fail
 refine au (KH.out _ hB) fun v1 hb=>?_;replace hB:=ah hB hb;clear hb;go_wp2_with fail
 go_ret2;exact⟨rfl,hB⟩
theorem ED(mb mg:Nat)(x:Int)(s:Nat)(o:Bool)(w:World)(KH:aQ w 95 #[af mb,i_ x] (.bool true))(HC:jR w fun w'=>w'.cell? ⟨mb,1,none⟩=some (.map (some mg))/\(Instr.lookup 122 (.map (some mg)) (i_ x) false).run Tryz.prog w'=.ok (.agg #[i_ s,.bool o]) w'):ak 94 #[af mb,i_ x] w (.tuple #[i_ s,.bool o]):=by
 have hB:=Below.refl w.heap.size w;go_enter Tryz.func94,Tryz.ntmps94;go_wp2_with fail
 refine au (KH.out _ hB) fun v1 hb=>?_;replace hB:=ah hB hb;clear hb;obtain⟨c1,hlk⟩:=HC.out _ hB;go_upto_region 4 with fail
 generalize hw2:World.alloc _ _=v2;have hN:Has v2 v1.heap.size (dJ s o) 121:=by rw[<-hw2];exact Has.new _ _
 have hb2:Bl v1 v2:=dd hw2;replace hB:=ah hB hb2;clear hw2 hb2 hlk c1;obtain⟨bn,hbn⟩:∃bn,bn=v1.heap.size:=⟨_,rfl⟩;rw[<-hbn]at hN|-;clear hbn;have d0:v2.cell? ⟨bn,0,none⟩=some (i_ s):=Has.cell hN 0;have d1:v2.cell? ⟨bn,1,none⟩=some (.bool o):=Has.cell hN 1;have q0:=cell_regrown d0;have q1:=cell_regrown d1;clear d0 d1 hN;refine wp_region_quiet_below (by kernel_rfl) (by kernel_rfl) ?_;repeat(first|go_big_quiet_step (fail))
 refine wpQuiet_nil ?_;intro v3 hw';have hb:=mT v3 hw';replace hB:=ah hB hb;clear hw' hb;go_wp2_with fail
 go_ret2;exact⟨rfl,hB⟩
end An
namespace An
open Mem Sc NN.Si
open Ar (aq Ru aB Ok)
variable{CB:Bool->Bool->World->Prop}{k1 k2:Nat}{l:Array Bool}{w:World}
theorem wg{i:Nat}(h:CB (l.getD k1 false) (l.getD k2 false) w)(hi:i<l.size)(h1:i≠k1)(h2:i≠k2):CB ((l.setIfInBounds i true).getD k1 false) ((l.setIfInBounds i true).getD k2 false) w:=by rw[gz l i k1 hi h1,gz l i k2 hi h2];exact h
theorem Jd.one(hi:k1<l.size)(h:CB true ((l.setIfInBounds k1 true).getD k2 false) w):CB ((l.setIfInBounds k1 true).getD k1 false) ((l.setIfInBounds k1 true).getD k2 false) w:=by rw[gF _ _ _ hi,if_pos rfl];exact h
theorem Jd.two(hi:k2<l.size)(h:CB ((l.setIfInBounds k2 true).getD k1 false) true w):CB ((l.setIfInBounds k2 true).getD k1 false) ((l.setIfInBounds k2 true).getD k2 false) w:=by rw[show(l.setIfInBounds k2 true).getD k2 false=true by rw[gF _ _ _ hi,if_pos rfl]];exact h
section
variable{P:Program}{ops:Array Oper}{o:Oper}{a:Act}{w:World}{Q:Exit->Act->World->Prop}{R:Nat->Value->Prop}{CB:Bool->Bool->World->Prop}{k1 k2 i:Nat}{l:Array Bool}{v:Value}{f:FuncId}{args:Array Value}
theorem iO(hI:CB (l.getD k1 false) (l.getD k2 false) w)(hi:i<l.size)(h:(execOp a.eval o).run P w=.ok (.value v) w)(hr:R i v)(hn:Region.wanted o (yielded ops a.tmps)=true:=by exact an rfl)(h1:i≠k1:=by decide)(h2:i≠k2:=by decide):if Region.wanted o (yielded ops a.tmps)=true then o.wp P a w (fun a' w'=>True/\True/\∃v,a'=a.put o.dst v/\R i v/\CB ((l.setIfInBounds i true).getD k1 false) ((l.setIfInBounds i true).getD k2 false) w') Q else R i undef/\CB ((l.setIfInBounds i true).getD k1 false) ((l.setIfInBounds i true).getD k2 false) w:=
 dX (C:=fun _=>True) (S:=fun _ _=>True) (R:=fun v _=>R i v) (J:=fun _ w=>CB ((l.setIfInBounds i true).getD k1 false) ((l.setIfInBounds i true).getD k2 false) w) (fun _ _=>trivial) trivial hn h hr (wg hI hi h1 h2)
end
def pz(q:Option Addr)(mg:Nat):Array Value:=#[.pointer q,.map (some mg)]
theorem DA(s:Nat)(o:Bool)(g:Bool)(hg:(decide (s=0)&&!o)=g)(w:World):(binOp .eql 121 (.agg #[i_ s,.bool o]) (.agg #[i_ 0,.bool false])).run Tryz.prog w=.ok (.bool g) w:=by
 have h0:∀w,(Op.equalIn 9999 3 (i_ s) (i_ 0)).run Tryz.prog w=.ok ((s:Int)==0) w:=fun w=>eq_int _ _ 9998 w
 have h1:∀w,(Op.equalIn 9999 4 (.bool o) (.bool false)).run Tryz.prog w=.ok (o==false) w:=fun w=>by cases o<;>kernel_rfl
 have hS:Tryz.prog.underlying 121=some (.struct (Tryz.prog.fieldsOf 121)):=by kernel_rfl
 have p0:∀w,(part 3 #[i_ s,.bool o] 0).run Tryz.prog w=.ok (i_ s) w:=fun w=>by simp[part]
 have p1:∀w,(part 4 #[i_ s,.bool o] 1).run Tryz.prog w=.ok (.bool o) w:=fun w=>by simp[part]
 have r0:∀w,(part 3 #[i_ 0,.bool false] 0).run Tryz.prog w=.ok (i_ 0) w:=fun w=>by simp[part]
 have r1:∀w,(part 4 #[i_ 0,.bool false] 1).run Tryz.prog w=.ok (.bool false) w:=fun w=>by simp[part]
 have e:g=((s:Int)==0&&o==false):=by
  rw[<-hg,Bool.eq_iff_iff];cases o<;>simp
 rw[run_eql_struct,show(10000:Nat)=9999+1 from rfl,run_equalIn_agg w 9999 121 _ _ hS (by kernel_rfl)];simp only[Program.fieldsOf,Tryz.underlying121];simp only[Op.eqFields,ne_eq,String.reduceEq,not_false_eq_true,if_true,Sem.run_bind,Sem.run_ite,Sem.run_pure,Result.andThen_ok,p0,p1,r0,r1,h0,h1,e];clear h0 h1 p0 p1 r0 r1;generalize((s:Int)==0)=x0;generalize(o==false)=x1;cases x0<;>cases x1<;>rfl
theorem ur(w:World)(g:Nat):(Instr.fieldAt 124 (af g) 1).run Tryz.prog w=.ok (.pointer (some ⟨g,1,none⟩)) w:=by kernel_rfl
theorem Kw{w:World}{p:Addr}{m:Option Nat}(h:w.cell? p=some (.map m)):(loadVar 122 p).run Tryz.prog w=.ok (.map m) w:=by go_simp
section
variable{ρ:Operand->Value}{o:Oper}{w w':World}
variable{x:Operand}{v:Value}
theorem OW{T:TypeId}{p:Addr}(ho:o.op=.load T x)(hx:ρ x=.pointer (some p))(hl:(loadVar T p).run Tryz.prog w=.ok v w):(execOp ρ o).run Tryz.prog w=.ok (.value v) w:=by unfold execOp;simp only[ho,hx,Instr.loadAt,Instr.sureAddr,Sem.run_bind,Sem.run_pure,Result.andThen_ok,hl]
theorem lU:(Tryz.prog.info? 121).map (·.size)=some 2:=by kernel_rfl
theorem P9{g s:Nat}{b:Bool}(ho:o.op=.load 121 x)(hx:ρ x=af g)(hg:Has w g (dJ s b) 121):(execOp ρ o).run Tryz.prog w=.ok (.value (.agg #[i_ s,.bool b])) w:=
 ic 121 ho hx (cs:=[i_ s,.bool b]) Tryz.underlying121 rfl lU (gd (A:=[]) (C:=[]) hg rfl)
theorem vV{y z:Operand}{b:Nat}{k:Value}(ho:o.op=.mapUpdate 122 x y z)(hx:ρ x=.map (some b))(hy:ρ y=k)(hz:ρ z=v)(hr:(Instr.mapUpdate 122 (.map (some b)) k v).run Tryz.prog w=.ok () w'):(execOp ρ o).run Tryz.prog w=.ok .skip w':=by unfold execOp;simp only[ho,hx,hy,hz,Sem.run_bind,Sem.run_pure,Result.andThen_ok,hr]
end
variable{w:World}
theorem ld{ops:Array Oper}{rest:List Oper}{o:Oper}{a:Act}{Q:Exit->Act->World->Prop}(hgd:o.guard=none)(x:Operand)(ho:o.op=.load 121 x)(g:Nat)(hx:a.eval x=af g)(s:Nat)(b:Bool)(hg:Has w g (dJ s b) 121)(hk:wpList Tryz.prog ops Q rest (a.put o.dst (.agg #[i_ s,.bool b])) w):wpList Tryz.prog ops Q (o::rest) a w:=
 wpList_load_mid hgd 121 x ho g 0 hx [i_ s,.bool b] _ (gd (A:=[]) (C:=[]) hg rfl) Tryz.underlying121 rfl lU hk
def RL(mb mg k s:Nat)(o:Bool):Nat->Value->Prop
 | 0,v=>v=af mb
 | 1,v=>v=af mb
 | 2,v=>v=.pointer (some ⟨mb,1,none⟩)
 | 3,v=>v=.map (some mg)
 | 4,v=>v=i_ k
 | 5,v=>v=.agg #[i_ s,.bool o]
 | _,_=>True
def Dv(w0:World)(mb mg bx s:Nat)(o:Bool)(q:Option Addr)(S S':Mk.St)(b1 _b2:Bool)(w:World):Prop:=
 Has w mb (pz q mg) 124/\Has w bx (dJ s o) 121/\bo w mg (if b1 then S' else S)/\Kp (fun i=>i=mg) w0 w
theorem Dv.post{w0 w':World}{mb mg bx s k:Nat}{o:Bool}{q:Option Addr}{S:Mk.St}{b2 b3:Bool}(h:Dv w0 mb mg bx s o q S (dY S k s o) false b2 w)(h1:bo w' mg (dY S k s o))(h2:w.grownBy w' (some mg)):Dv w0 mb mg bx s o q S (dY S k s o) true b3 w':=by
 obtain⟨a1,a2,a3,a4⟩:=h;have hk:Kp (fun i=>i=mg) w w':=Kp.gb h2 fun k hk=>(Option.some.inj hk).symm
 exact⟨hk.has a1 (a3.Sd a1),hk.has a2 (a3.Sd a2),h1,a4.trans hk fun i hi _=>hi⟩
theorem oH(mb mg k s:Nat)(o:Bool)(q:Option Addr)(S:Mk.St)(hk:k<1000)(w:World)(hm:Has w mb (pz q mg) 124)(hM:bo w mg S):aG 87 #[.pointer (some ⟨mb,0,none⟩),.int .i64 (k:Int),.agg #[.int .i64 (s:Int),.bool o]] w fun e w'=>e=.returned (.tuple #[])/\bo w' mg (dY S k s o)/\Kp (fun i=>i=mg) w w':=by
 have hC:Dv w mb mg w.heap.size s o q S (dY S k s o) false false (w.alloc (.cells #[.int .i64 (s:Int),.bool o] 121)).drew:=⟨Has.alloc hm _,Has.new (dJ s o) _,hM.on (Below.heap_alloc w _ mg hM.lt),Kp.of aY.drew⟩;go_enter Tryz.func87,Tryz.ntmps87;go_wp2_with fail
 refine ix (by kernel_rfl) (fun _=>True) (fun i v' _=>RL mb mg k s o i v') (fun l _ w'=>Dv w mb mg w.heap.size s o q S (dY S k s o) (l.getD 6 false) (l.getD 99 false) w') (fun _ _=>True) (fun _ _=>trivial) (fun _ _ _ _ _ _ h=>h) (by kernel_rfl) trivial ?_ ?_ ?_;intro l hl;rw[hl,hl];exact hC
 ·intro i o lz a wx ho' hnl dq Z;have hI:=Z.i;have hi:i<7:=(Array.getElem?_eq_some_iff.1 ho').1;obtain rfl|rfl|rfl|rfl|rfl|rfl|rfl:i=0\/i=1\/i=2\/i=3\/i=4\/i=5\/i=6:=by omega
  all_goals obtain rfl:=Option.some.inj ho'
  exact iO hI (av Z 0) (NN.dy rfl) ((Z.old' 0));exact iO hI (av Z 1) (cG rfl (ar Z dq 0 6)) (rfl);exact iO hI (av Z 2) (dm rfl (ar Z dq 1 7) (ur _ _)) (rfl);exact iO hI (av Z 3) (OW rfl (ar Z dq 2 8) (Kw (Has.cell hI.1 1))) (rfl);exact iO hI (av Z 4) (NN.dy rfl) ((Z.old' 1));exact iO hI (av Z 5) (P9 rfl (Z.old' 5) hI.2.1) (rfl);have hsz:=av Z 6;have hI0:=hI;rw[hnl]at hI0;obtain⟨w1,hr,h1,h2⟩:=bo.put hI0.2.2.1 hk s o;exact pr 6 Z (an rfl) (vV rfl (ar Z dq 3 9) (ar Z dq 4 10) (ar Z dq 5 11) hr) trivial trivial (Jd.one hsz (Dv.post hI0 h1 h2))
 ·intro lz a' w2 hall Z;have hI:=Z.i;have hk1:=hall 6 (by decide);have hk2:lz.getD 99 false=false:=by rw[Array.getD_eq_getD_getElem?,Array.getElem?_eq_none (by rw[Z.size];decide)];rfl
  rw[hk1,hk2]at hI;obtain⟨u,hu⟩:∃u:Nat->Value,∀t,u t=a'.eval (.tmp t):=⟨_,fun _=>rfl⟩;rw[e_ a' 20 u Z.R4 Z.defers hu];have f0:=Z.old' 0;have f1:=Z.old' 1;have f2:=Z.old' 2;have f3:=Z.old' 3;have f4:=Z.old' 4;have f5:=Z.old' 5;have f12:=Z.old' 12;have f13:=Z.old' 13;have f14:=Z.old' 14;have f15:=Z.old' 15;have f16:=Z.old' 16;have f17:=Z.old' 17;have f18:=Z.old' 18;have f19:=Z.old' 19;simp only[<-hu]at f0 f1 f2 f3 f4 f5 f12 f13 f14 f15 f16 f17 f18 f19;simp[Act.eval]at f0 f1 f2 f3 f4 f5 f12 f13 f14 f15 f16 f17 f18 f19;clear hu Z hall hk1 hk2;simp only[List.range,List.range.loop,List.map_cons,List.map_nil];rw[f0,f1,f2,f3,f4,f5,f12,f13,f14,f15,f16,f17,f18,f19];clear f0 f1 f2 f3 f4 f5 f12 f13 f14 f15 f16 f17 f18 f19;obtain⟨a1,a2,a3,a4⟩:=hI;have c1:w2.cell? ⟨mb,1,none⟩=some (.map (some mg)):=Has.cell a1 1;obtain⟨bx,hbx⟩:∃b,b=w.heap.size:=⟨_,rfl⟩;rw[<-hbx]at a2|-;obtain⟨g,hg⟩:∃g:Bool,(decide (s=0)&&!o)=g:=⟨_,rfl⟩;have he:=fun w=>DA s o g hg w
  rw[if_pos rfl]at a3;cases g
  ·go_wp2_with (first|(with_reducible refine ld rfl _ rfl _ rfl _ _ a2 ?_))
   go_end0
   exact⟨rfl,a3,a4⟩
  ·obtain⟨w4,hd,b1,b2⟩:=bo.drop a3 hk (by
    rw[Bool.and_eq_true,decide_eq_true_eq]at hg;exact(Mk.mM _ _ _).trans hg.1) (by
    rw[Bool.and_eq_true,Bool.not_eq_true']at hg;exact(Mk.mM _ _ _).trans hg.2) 0
   clear hg;go_wp2_with (first|(with_reducible refine ld rfl _ rfl _ rfl _ _ a2 ?_))
   go_end0
   exact⟨rfl,b1,a4.trans (Kp.gb b2 fun k hk=>(Option.some.inj hk).symm) fun i hi _=>hi⟩
theorem FN(mb mg k:Nat)(q:Option Addr)(S:Mk.St)(hk:k<1000)(t:Nat)(ht:(if S.said k=2 then 0 else S.said k)=t)(w:World)(hm:Has w mb (pz q mg) 124)(hM:bo w mg S):aG 88 #[af mb,i_ k] w fun e w'=>e=.returned (.tuple #[])/\bo w' mg (dY S k t false)/\Kp (fun i=>i=mg) w w':=by
 have hlk:(Instr.lookup 122 (.map (some mg)) (i_ k) false).run Tryz.prog w=.ok (.agg #[i_ (S.said k:Int),.bool (S.out k)]) w:=hM.look hk w rfl;have c1:w.cell? ⟨mb,1,none⟩=some (.map (some mg)):=Has.cell hm 1;generalize hs:S.said k=s at*;generalize S.out k=o at*;clear hs;go_enter Tryz.func88,Tryz.ntmps88;go_upto_region 1 with fail
 generalize hw2:World.alloc _ _=v2;have hN:Has v2 w.heap.size (dJ s o) 121:=by rw[<-hw2];exact Has.new _ _
 have hb2:Bl w v2:=dd hw2;have hbn:mb<w.heap.size:=hm.lt;have hgn:=hM.lt;obtain⟨bn,e⟩:∃bn,bn=w.heap.size:=⟨_,rfl⟩;rw[<-e]at hN|-;have VF:Hid (w.heap.size<=bn):=h_ (by omega);clear hw2 hlk c1 e;have d0:v2.cell? ⟨bn,1,none⟩=some (.bool o):=Has.cell hN 1;have f0:=hN.free 1;go_upto_region 2 with fail
 have Ug:Has (v2.setCell ⟨bn,1,none⟩ (.bool false)) bn (dJ s false) 121:=Has.set (i:=1) hN _;have hb3:=hb2.setCell (p:=⟨bn,1,none⟩) VF.out (.bool false);clear d0 f0 hN hb2;generalize World.setCell _ _ _=v3 at*;have d0:v3.cell? ⟨bn,0,none⟩=some (i_ s):=Has.cell Ug 0;have f0:=Ug.free 0
 have fin:∀v4:World,Bl w v4->∀t:Nat,aG 87 #[af mb,i_ k,.agg #[i_ t,.bool false]] v4 fun e w'=>e=.returned (.tuple #[])/\bo w' mg (dY S k t false)/\Kp (fun i=>i=mg) w w':=fun v4 hb t=>by
  refine(oH mb mg k t false q S hk v4 (cg hb hm hbn) (hM.on (hb.block mg hgn))).mono ?_;rintro e w' ⟨rfl,h1,h2⟩;exact⟨rfl,h1,(Kp.of hb).trans h2 fun i hi _=>hi⟩
 have FIN:=h_ fin;have HB3:=h_ hb3;clear fin hb3 hm hM hbn hgn;by_cases hs:s=2
 ·obtain rfl:0=t:=by rw[<-ht,if_pos hs]
  have h1:((s:Int)==2)=true:=by rw[hs];rfl
  have h3:Has (v3.setCell ⟨bn,0,none⟩ (i_ 0)) bn (dJ 0 false) 121:=Has.set (i:=0) Ug _;have hb4:=HB3.out.setCell (p:=⟨bn,0,none⟩) VF.out (i_ 0);have SY:=FIN.out _ hb4 0;clear hs ht Ug hb4;go_wp2_with (first|(with_reducible refine ld rfl _ rfl _ rfl _ _ h3 ?_))
  refine SY.mono ?_;rintro e w' ⟨rfl,h5,h6⟩;go_wp2_with fail
  go_end0
  exact⟨rfl,h5,h6⟩
 ·obtain rfl:s=t:=by rw[<-ht,if_neg hs]
  have h1:((s:Int)==2)=false:=by simpa using fun h=>hs (by omega)
  have SY:=FIN.out _ HB3.out s;clear hs ht;go_wp2_with (first|(with_reducible refine ld rfl _ rfl _ rfl _ _ Ug ?_))
  refine SY.mono ?_;rintro e w' ⟨rfl,h5,h6⟩;go_wp2_with fail
  go_end0
  exact⟨rfl,h5,h6⟩
end An
namespace An
open Mem Sc
open Ar (aq Ru aB Ok cp Row cB)
open Mk (cF gk aM pb verdict a_ bc dP word bF)
theorem gC.SZ{w:World}{B bm:Nat}{F:Nat->Prop}{r:Ru}{M:List aq}(h:gC w B F bm r M):∃a c,w.cell? ⟨bm,83,none⟩=some (.slice a M.length c):=by
 obtain⟨_,_,_,p,t,vH,vI,vA,vW,ws,h3,_⟩:=h;have rH:=h3.TG;have c:=pq h3.has h3.Su;rcases Nat.eq_zero_or_pos (M.map (aq.h r.g)).length with e|e
 ·obtain⟨a1,hh⟩:=rH;rcases hh with⟨hh,_⟩|⟨g,c',cs,hh,_⟩
  subst hh;exact⟨none,0,by rw[c];rw[List.length_map]at e;rw[e]⟩;subst hh;exact⟨_,c',by rw[c,List.length_map]⟩
 obtain⟨g,c',rfl⟩:=iH rH e;exact⟨_,c',by rw[c,List.length_map]⟩
theorem Es(bm n c:Nat)(a:Option Addr)(x:Int)(z:Int)(hz:dP n x=z)(w:World)(hv:w.cell? ⟨bm,83,none⟩=some (.slice a n c)):ak 81 #[af bm,i_ x] w (i_ z):=by
 have hB:=Below.refl w.heap.size w;have HZ:=h_ hz;clear hz;by_cases h0:x<0
 ·have t1:decide (x<0)=true:=decide_eq_true h0;obtain rfl:5=z:=by rw[<-HZ.out];unfold dP;rw[if_neg (by omega)]
  clear h0;go_enter Tryz.func81,Tryz.ntmps81;go_wp2_with fail
  go_ret;exact⟨rfl,hB⟩
 ·have t1:decide (x<0)=false:=decide_eq_false h0;obtain⟨k,rfl⟩:=Int.eq_ofNat_of_zero_le (by omega:0<=x);clear h0;by_cases h1:n<=k
  ·obtain rfl:5=z:=by rw[<-HZ.out];unfold dP;rw[if_neg (by omega)]
   go_enter Tryz.func81,Tryz.ntmps81;go_wp2_with fail
   go_ret;exact⟨rfl,hB⟩
  ·by_cases h2:k=0
   ·have t3:((k:Int)==0)=true:=(by rw[h2];rfl);obtain rfl:1=z:=(by rw[<-HZ.out];unfold dP;rw[if_pos (by omega),if_pos (by omega)]);clear h2;go_enter Tryz.func81,Tryz.ntmps81;(go_wp2_with fail);go_ret;exact⟨rfl,hB⟩
   ·have t3:((k:Int)==0)=false:=by simpa using fun h=>h2 (by omega)
    obtain rfl:0=z:=(by rw[<-HZ.out];unfold dP;rw[if_pos (by omega),if_neg (by omega)]);clear h2;go_enter Tryz.func81,Tryz.ntmps81;(go_wp2_with fail);go_ret;exact⟨rfl,hB⟩
theorem G6(rb k:Nat)(S:Mk.St)(hk:k<600)(w:World)(hS:dW w rb S):ak 34 #[af rb,i_ k] w (.bool (bF S k)):=by
 have hB:=Below.refl w.heap.size w;have c1:=hS.out hk;have c2:=hS.said hk;have he:bF S k=(S.out k||S.said k==2):=rfl;rw[he];clear he hS;generalize S.out k=o at*;generalize S.said k=s at*;have h6:(600:Nat)+k<1200:=by omega
 obtain⟨g,hg⟩:∃g:Bool,(s==2)=g:=⟨_,rfl⟩;have hg2:((s:Int)==2)=g:=by rw[<-hg,Bool.eq_iff_iff,beq_iff_eq,beq_iff_eq];omega
 rw[hg];clear hg;cases o
 all_goals
  go_enter Tryz.func34,Tryz.ntmps34;go_wp2_with fail
  go_ret;exact⟨by cases g<;>rfl,hB⟩
variable{L:List Int}{p:Int->Bool}{k n:Nat}{z:Int}
theorem xE(hz:L[k]?=some z)(hp:p z=true):L.any p=true:=List.any_eq_true.2 ⟨z,List.mem_of_getElem? hz,hp⟩
theorem Fg(hn:n=L.length)(h:∀k z,k<n->L[k]?=some z->p z=false):L.any p=false:=List.any_eq_false.2 fun z hz=>by
 obtain⟨k,hk⟩:=List.mem_iff_getElem?.1 hz;rw[h k z (by rw[hn];exact(List.getElem?_eq_some_iff.1 hk).1) hk];simp
theorem G9(bm:Nat)(x y:Int)(L:List Int)(n:Nat)(hn:n=L.length)(hpos:0<n)(TW:n<=1000)(w:World)(KP:jR w fun w'=>aG 66 #[af bm,i_ y] w' fun e w''=>∃v,e=.returned v/\w''.ownsRow w'.heap.size 3 1 v n (L.map (Value.int .i64))/\Bl w' w''):ak 82 #[af bm,i_ x,i_ y] w (.bool (L.any fun z=>z==x)):=by
 have HN:=h_ hn;clear hn;have hB:=Below.refl w.heap.size w;go_enter Tryz.func82,Tryz.ntmps82;go_wp2_with fail
 refine(KP.out _ hB).mono ?_;rintro e v1 ⟨v,rfl,hv,hb⟩;obtain⟨g,c,rfl⟩:=iH hv hpos;replace hB:=ah hB hb;have HV:=h_ hv;clear hb hv KP;go_wp2_with fail
 go_loopw [13] (fun s13 wr=>∃k:Nat,k<=n/\s13=i_ k/\wr=v1/\Hid (∀j z,j<k->L[j]?=some z->(z==x)=false)) (fun s13 _=>n-(intOf s13).toNat)
 case atStart=>exact⟨0,Nat.zero_le _,rfl,rfl,h_ fun j z hj=>by omega⟩
 case round=>
  obtain⟨k,hk,rfl,rfl,HX⟩:=hrel;by_cases hlt:k<n
  ·obtain⟨z,hz⟩:∃z,L[k]?=some z:=⟨_,List.getElem?_eq_getElem (by rw[<-HN.out];exact hlt)⟩;obtain⟨g2,c2,e2,hc⟩:=mH HV.out hz;cases e2;have HZ:=h_ hz;clear hz;cases h1:(z==x)
   ·have VG:Hid (∀j z,j<k+1->L[j]?=some z->(z==x)=false):=h_ fun j u hj hu=>by
     by_cases e:j=k;subst e;rw[HZ.out]at hu;cases hu;exact h1;exact HX.out j u (by omega) hu
    (go_wp2_with fail);go_roundw
    case rel=>exact⟨k+1,by omega,by go_num,by trivial,VG⟩
    case measure=>simp[intOf];omega
   ·have hr:=h_ (xE (p:=fun z=>z==x) HZ.out h1);(go_wp2_with fail);go_ret;exact⟨by rw[hr.out];rfl,hB⟩
  ·obtain rfl:k=n:=by omega
   have hr:=h_ (Fg (p:=fun z=>z==x) HN.out HX.out);go_wp2_with fail
   go_ret;exact⟨by rw[hr.out];rfl,hB⟩
theorem FI(rb bm n c:Nat)(a:Option Addr)(x:Int)(hx:¬(0<=x/\x<(n:Int)))(w:World)(hv:w.cell? ⟨bm,83,none⟩=some (.slice a n c)):ak 30 #[af rb,af bm,i_ x] w (.bool false):=by
 have hB:=Below.refl w.heap.size w;by_cases h0:x<0
 ·have t1:decide (x<0)=true:=decide_eq_true h0;clear h0 hx;go_enter Tryz.func30,Tryz.ntmps30;go_wp2_with fail
  go_ret;exact⟨rfl,hB⟩
 ·have t1:decide (x<0)=false:=decide_eq_false h0;obtain⟨k,rfl⟩:=Int.eq_ofNat_of_zero_le (by omega:0<=x);have h1:n<=k:=by omega
  clear h0 hx;go_enter Tryz.func30,Tryz.ntmps30;go_wp2_with fail
  go_ret;exact⟨rfl,hB⟩
theorem G4(hz:L[k]?=some z)(hp:p z=false):L.all p=false:=List.all_eq_false.2 ⟨z,List.mem_of_getElem? hz,by rw[hp];simp⟩
theorem vZ(hn:n=L.length)(h:∀k z,k<n->L[k]?=some z->p z=true):L.all p=true:=List.all_eq_true.2 fun z hz=>by
 obtain⟨k,hk⟩:=List.mem_iff_getElem?.1 hz;exact h k z (by rw[hn];exact(List.getElem?_eq_some_iff.1 hk).1) hk
theorem Qj(rb bm m cm i:Nat)(am:Option Addr)(S:Mk.St)(hi:i<m)(L:List Int)(HL:Hid (∀(k:Nat) z,L[k]?=some z->∃j:Nat,z=(j:Int)/\j<600))(n:Nat)(hn:n=L.length)(hpos:0<n)(TW:n<=1000)(w:World)(hv:w.cell? ⟨bm,83,none⟩=some (.slice am m cm))(KP:jR w fun w'=>aG 66 #[af bm,i_ i] w' fun e w''=>∃v,e=.returned v/\w''.ownsRow w'.heap.size 3 1 v n (L.map (Value.int .i64))/\Bl w' w'')(HS:jR w fun w'=>dW w' rb S):ak 30 #[af rb,af bm,i_ i] w (.bool (L.all fun z=>S.said z.toNat==1&&!S.out z.toNat)):=by
 have HN:=h_ hn;have t1:decide ((i:Int)<0)=false:=decide_eq_false (by omega);have h1:¬m<=i:=by omega
 clear hn;have hB:=Below.refl w.heap.size w;go_enter Tryz.func30,Tryz.ntmps30;go_wp2_with fail
 refine(KP.out _ hB).mono ?_;rintro e v1 ⟨v,rfl,hv,hb⟩;obtain⟨g,c,rfl⟩:=iH hv hpos;replace hB:=ah hB hb;have HV:=h_ hv;clear hb hv KP;go_wp2_with fail
 have hS:=HS.out _ hB;clear HS;go_loopw [24] (fun s24 wr=>∃k:Nat,k<=n/\s24=i_ k/\wr=v1/\Hid (∀j z,j<k->L[j]?=some z->(S.said z.toNat==1&&!S.out z.toNat)=true)) (fun s24 _=>n-(intOf s24).toNat)
 case atStart=>exact⟨0,Nat.zero_le _,rfl,rfl,h_ fun j z hj=>by omega⟩
 case round=>
  obtain⟨k,hk,rfl,rfl,HX⟩:=hrel;by_cases hlt:k<n
  ·obtain⟨z,hz⟩:∃z,L[k]?=some z:=⟨_,List.getElem?_eq_getElem (by rw[<-HN.out];exact hlt)⟩;obtain⟨g2,c2,e2,hc⟩:=mH HV.out hz;cases e2;obtain⟨u,rfl,hu⟩:=HL.out k z hz;have HZ:=h_ hz;clear hz;have c1:=hS.out hu;have c2:=hS.said hu;have h6:(600:Nat)+u<1200:=by omega
   generalize hs:S.said u=s at*;generalize ho:S.out u=o at*;have YE:Hid (S.said u=s/\S.out u=o):=h_ ⟨hs,ho⟩;clear hs ho;have SX:Hid ((s==1&&!o)=false->(L.all fun z=>S.said z.toNat==1&&!S.out z.toNat)=false):=h_ fun hh=>G4 HZ.out (by rw[Int.toNat_natCast,YE.out.1,YE.out.2];exact hh)
   have VG:Hid ((s==1&&!o)=true->∀j z,j<k+1->L[j]?=some z->(S.said z.toNat==1&&!S.out z.toNat)=true):=h_ fun hf j u2 hj hu2=>by
    by_cases e:j=k;subst e;rw[HZ.out]at hu2;cases hu2;rw[Int.toNat_natCast,YE.out.1,YE.out.2];exact hf;exact HX.out j u2 (by omega) hu2
   by_cases hs1:s=1
   ·have h2:((s:Int) != 1)=false:=(by rw[hs1];rfl);have S_:=h_ hs1;clear hs1;cases o
    ·have HX3:=h_ (VG.out (by rw[S_.out];rfl));clear SX VG;(go_wp2_with fail);go_roundw
     case rel=>exact⟨k+1,by omega,by go_num,by trivial,HX3⟩
     case measure=>simp[intOf];omega
    ·have hr:=h_ (SX.out (by simp));clear SX VG;(go_wp2_with fail);go_ret;exact⟨by rw[hr.out];rfl,hB⟩
   ·have h2:((s:Int) != 1)=true:=by simpa using fun h=>hs1 (by omega)
    have hr:=h_ (SX.out (by simp[hs1]));clear SX VG hs1;(go_wp2_with fail);go_ret;exact⟨by rw[hr.out];rfl,hB⟩
  ·obtain rfl:k=n:=by omega
   have hr:=h_ (vZ (p:=fun z=>S.said z.toNat==1&&!S.out z.toNat) HN.out HX.out);go_wp2_with fail
   go_ret;exact⟨by rw[hr.out];rfl,hB⟩
