import Derived.Test.YtkbjaadjnbgfbaaGreatDoorCBunQ34
import Derived.Test.YtkbjaadjnbgfbaaGreatDoorCBunQ40
set_option maxRecDepth 100000
set_option maxHeartbeats 4000000
namespace Go.Proofs.YtkbjaadjnbgfbaaGreatDoor
open Go.RowKit
namespace An
open Mem Sc
open Ar (aq Ru aB Ok bV)
def o7(M:List aq)(x:Int):Int:=if bV M x then(M.getD x.toNat aB).up else -1
def oq(w:World)(F:Nat->Prop)(q:Option Addr)(r:Ru)(M:List aq):Prop:=(∃bt ls,q=some ⟨bt,0,none⟩/\fO w F bt r M ls/\ls.length=M.length)\/(q=none/\M=[])
section
variable{w w':World}{F G:Nat->Prop}{q:Option Addr}{r:Ru}{M:List aq}
theorem oq.on(h:oq w F q r M)(k:Kp G w w')(hG:∀i,F i->¬G i):oq w' F q r M:=
 h.imp (fun⟨bt,ls,h1,h2,h3⟩=>⟨bt,ls,h1,h2.on k hG,h3⟩) id
theorem oq.below(h:oq w F q r M)(hb:Bl w w'):oq w' F q r M:=h.on (G:=fun _=>False) (Kp.of hb) fun _ _ hf=>hf
theorem j_(x:Int):¬bV [] x:=fun h=>absurd (Int.lt_of_le_of_lt h.1 h.2) (Int.lt_irrefl _)
theorem oq.Rm(h:oq w F q r M)(x y:Int)(g:Bool)(hg:ku r M x y g):an 31 #[.pointer q,i_ x,i_ y] w (.bool g):=by
 rcases h with⟨bt,ls,rfl,hS,_⟩|⟨rfl,rfl⟩
 exact Ks hS x y g hg
 ·have:g=false:=by
   rcases hg with⟨_,h⟩|⟨h,_⟩|⟨n,m,e,d,_,_,h,_⟩
   exact h;exact absurd h (j_ x);simp at h
  subst this;exact DR x y w
theorem oq.len(h:oq w F q r M):an 57 #[.pointer q] w (i_ (M.length:Int)):=by
 rcases h with⟨bt,ls,rfl,hS,_⟩|⟨rfl,rfl⟩
 exact zk hS;exact Jc w
theorem oq.at(h:oq w F q r M)(x:Int):∃e:En,e.ok/\e.up=o7 M x/\∀w',Bl w w'->an 29 #[.pointer q,i_ x] w' (.tuple #[.agg (bB e),.bool (decide (bV M x))]):=by
 rcases h with⟨bt,ls,rfl,hS,_⟩|⟨rfl,rfl⟩
 ·by_cases hx:bV M x;obtain⟨n,e,rfl,he⟩:=hx.is;obtain⟨Fa,ab,k1,k2⟩:=hS.parts;refine⟨_,jm k2 he,?_,fun w' hb=>?_⟩;unfold o7;rw[if_pos hx,Int.toNat_natCast,List.getD_eq_getElem?_getD,he];rfl;rw[decide_eq_true hx];exact eI (hS.below hb) he _ rfl;refine⟨lf,dR,by unfold o7;rw[if_neg hx];rfl,fun w' hb=>?_⟩;rw[decide_eq_false hx];exact qw (hS.below hb) x hx
 refine⟨lf,dR,by unfold o7;rw[if_neg (j_ x)];rfl,fun w' _=>?_⟩;rw[decide_eq_false (j_ x)];exact tL x w'
end
variable{M:List aq}
theorem zv{i:Nat}{e:aq}(he:M[i]?=some e):o7 M (i:Int)=e.up:=by unfold o7;rw[if_pos (Ar.fu he),Int.toNat_natCast,List.getD_eq_getElem?_getD,he];rfl
theorem uq{x:Int}(h:¬bV M x):o7 M x = -1:=if_neg h
theorem Ek(w:World):an 127 #[.pointer none] w (.pointer none):=by
 have hB:=Below.refl w.heap.size w;go_enter Tryz.func127,Tryz.ntmps127;go_wp2_with fail
 go_ret;exact⟨rfl,hB⟩
theorem uP(mb:Nat)(q:Option Addr)(w:World)(hv:w.cell? ⟨mb,0,none⟩=some (.pointer q)):an 127 #[ah mb] w (.pointer q):=by
 have hB:=Below.refl w.heap.size w;go_enter Tryz.func127,Tryz.ntmps127;go_wp2_with fail
 go_ret;exact⟨rfl,hB⟩
def gC(w:World)(mp:Value)(q:Option Addr):Prop:=∀w',Bl w w'->an 127 #[mp] w' (.pointer q)
theorem gC.nil(w:World):gC w (.pointer none) none:=fun w' _=>Ek w'
theorem qF(mp:Value)(q:Option Addr)(x:Int)(E:En)(hE:E.ok)(g:Bool)(w:World)(KH:Hid (gC w mp q))(KA:aV w 29 #[.pointer q,i_ x] (.tuple #[.agg (bB E),.bool g])):an 95 #[mp,i_ x] w (.bool g):=by
 have ze:=gh hE;have z0:=gh cU;have hB:=Below.refl w.heap.size w;go_enter Tryz.func95,Tryz.ntmps95;go_wp2_with fail
 refine au (KH.out _ hB) fun v1 hb=>?_;replace hB:=af hB hb;clear hb;go_wp2_with fail
 refine au (KA.out _ hB) fun v2 hb=>?_;replace hB:=af hB hb;clear hb;have hnew:=gl v2;have hE1:=lR v2 E;have hb3:=ma v2 60 Tryz.zeroCells60 (bB E);go_upto_region 2 with(with_reducible refine gQ rfl _ _ rfl _ _ E rfl rfl rfl ze hnew z0 ?_)
 generalize World.setRow _ _ _=v3 at*;replace hB:=af hB hb3;clear hb3 hnew hE1;go_wp2_with fail
 go_ret;exact⟨rfl,hB⟩
theorem FY(mp:Value)(q:Option Addr)(x:Int)(E:En)(hE:E.ok)(z:Int)(hz:Hid (E.up=z))(g:Bool)(w:World)(KH:Hid (gC w mp q))(KA:aV w 29 #[.pointer q,i_ x] (.tuple #[.agg (bB E),.bool g])):an 130 #[mp,i_ x] w (i_ z):=by
 have ze:=gh hE;have z0:=gh cU;have hB:=Below.refl w.heap.size w;go_enter Tryz.func130,Tryz.ntmps130;go_wp2_with fail
 refine au (KH.out _ hB) fun v1 hb=>?_;replace hB:=af hB hb;clear hb;go_wp2_with fail
 refine au (KA.out _ hB) fun v2 hb=>?_;replace hB:=af hB hb;clear hb;have hnew:=gl v2;have hE1:=lR v2 E;have hb3:=ma v2 60 Tryz.zeroCells60 (bB E);go_upto_region 2 with(with_reducible refine gQ rfl _ _ rfl _ _ E rfl rfl rfl ze hnew z0 ?_)
 generalize World.setRow _ _ _=v3 at*;replace hB:=af hB hb3;have c1:=br.up hE1 hE hz;clear hb3 hnew;go_wp2_with fail
 go_ret;exact⟨rfl,hB⟩
theorem Kc(mp:Value)(x:Int)(w:World)(KH:aV w 95 #[mp,i_ x] (.bool false)):an 94 #[mp,i_ x] w (.tuple #[i_ 0,.bool false]):=by
 have hB:=Below.refl w.heap.size w;go_enter Tryz.func94,Tryz.ntmps94;go_wp2_with fail
 refine au (KH.out _ hB) fun v1 hb=>?_;replace hB:=af hB hb;clear hb;go_wp2_with fail
 go_ret2;exact⟨rfl,hB⟩
theorem J1(mb mg:Nat)(x:Int)(s:Nat)(o:Bool)(w:World)(KH:aV w 95 #[ah mb,i_ x] (.bool true))(HC:lJ w fun w'=>w'.cell? ⟨mb,1,none⟩=some (.map (some mg))/\(Instr.lookup 122 (.map (some mg)) (i_ x) false).run Tryz.prog w'=.ok (.agg #[i_ s,.bool o]) w'):an 94 #[ah mb,i_ x] w (.tuple #[i_ s,.bool o]):=by
 have hB:=Below.refl w.heap.size w;go_enter Tryz.func94,Tryz.ntmps94;go_wp2_with fail
 refine au (KH.out _ hB) fun v1 hb=>?_;replace hB:=af hB hb;clear hb;obtain⟨c1,hlk⟩:=HC.out _ hB;go_upto_region 4 with fail
 generalize hw2:World.alloc _ _=v2;have hN:Has v2 v1.heap.size (dz s o) 121:=by rw[<-hw2];exact Has.new _ _
 have hb2:Bl v1 v2:=db hw2;replace hB:=af hB hb2;clear hw2 hb2 hlk c1;obtain⟨bn,hbn⟩:∃bn,bn=v1.heap.size:=⟨_,rfl⟩;rw[<-hbn]at hN|-;clear hbn;have d0:v2.cell? ⟨bn,0,none⟩=some (i_ s):=Has.cell hN 0;have d1:v2.cell? ⟨bn,1,none⟩=some (.bool o):=Has.cell hN 1;have q0:=cell_regrown d0;have q1:=cell_regrown d1;clear d0 d1 hN;refine wp_region_quiet_below (by kernel_rfl) (by kernel_rfl) ?_;repeat(first|go_big_quiet_step (fail))
 refine wpQuiet_nil ?_;intro v3 hw';have hb:=mI v3 hw';replace hB:=af hB hb;clear hw' hb;go_wp2_with fail
 go_ret2;exact⟨rfl,hB⟩
end An
namespace An
open Mem Sc NN.Rz
open Ar (aq Ru aB Ok)
variable{CB:Bool->Bool->World->Prop}{k1 k2:Nat}{l:Array Bool}{w:World}
theorem wG{i:Nat}(h:CB (l.getD k1 false) (l.getD k2 false) w)(hi:i<l.size)(h1:i≠k1)(h2:i≠k2):CB ((l.setIfInBounds i true).getD k1 false) ((l.setIfInBounds i true).getD k2 false) w:=by rw[gd l i k1 hi h1,gd l i k2 hi h2];exact h
theorem Jd.one(hi:k1<l.size)(h:CB true ((l.setIfInBounds k1 true).getD k2 false) w):CB ((l.setIfInBounds k1 true).getD k1 false) ((l.setIfInBounds k1 true).getD k2 false) w:=by rw[gi _ _ _ hi,if_pos rfl];exact h
theorem Jd.two(hi:k2<l.size)(h:CB ((l.setIfInBounds k2 true).getD k1 false) true w):CB ((l.setIfInBounds k2 true).getD k1 false) ((l.setIfInBounds k2 true).getD k2 false) w:=by rw[show(l.setIfInBounds k2 true).getD k2 false=true by rw[gi _ _ _ hi,if_pos rfl]];exact h
section
variable{P:Program}{ops:Array Oper}{o:Oper}{a:Act}{w:World}{Q:Exit->Act->World->Prop}{R:Nat->Value->Prop}{CB:Bool->Bool->World->Prop}{k1 k2 i:Nat}{l:Array Bool}{v:Value}{f:FuncId}{args:Array Value}
theorem iY(hI:CB (l.getD k1 false) (l.getD k2 false) w)(hi:i<l.size)(h:(execOp a.eval o).run P w=.ok (.value v) w)(hr:R i v)(hn:Region.wanted o (yielded ops a.tmps)=true:=by exact ak rfl)(h1:i≠k1:=by decide)(h2:i≠k2:=by decide):if Region.wanted o (yielded ops a.tmps)=true then o.wp P a w (fun a' w'=>True/\True/\∃v,a'=a.put o.dst v/\R i v/\CB ((l.setIfInBounds i true).getD k1 false) ((l.setIfInBounds i true).getD k2 false) w') Q else R i undef/\CB ((l.setIfInBounds i true).getD k1 false) ((l.setIfInBounds i true).getD k2 false) w:=
 dQ (C:=fun _=>True) (S:=fun _ _=>True) (R:=fun v _=>R i v) (J:=fun _ w=>CB ((l.setIfInBounds i true).getD k1 false) ((l.setIfInBounds i true).getD k2 false) w) (fun _ _=>trivial) trivial hn h hr (wG hI hi h1 h2)
end
def o9(q:Option Addr)(mg:Nat):Array Value:=#[.pointer q,.map (some mg)]
theorem Kf(s:Nat)(o:Bool)(g:Bool)(hg:(decide (s=0)&&!o)=g)(w:World):(binOp .eql 121 (.agg #[i_ s,.bool o]) (.agg #[i_ 0,.bool false])).run Tryz.prog w=.ok (.bool g) w:=by
 have h0:∀w,(Op.equalIn 9999 3 (i_ s) (i_ 0)).run Tryz.prog w=.ok ((s:Int)==0) w:=fun w=>eq_int _ _ 9998 w
 have h1:∀w,(Op.equalIn 9999 4 (.bool o) (.bool false)).run Tryz.prog w=.ok (o==false) w:=fun w=>by cases o<;>kernel_rfl
 have hS:Tryz.prog.underlying 121=some (.struct (Tryz.prog.fieldsOf 121)):=by kernel_rfl
 have p0:∀w,(part 3 #[i_ s,.bool o] 0).run Tryz.prog w=.ok (i_ s) w:=fun w=>by simp[part]
 have p1:∀w,(part 4 #[i_ s,.bool o] 1).run Tryz.prog w=.ok (.bool o) w:=fun w=>by simp[part]
 have r0:∀w,(part 3 #[i_ 0,.bool false] 0).run Tryz.prog w=.ok (i_ 0) w:=fun w=>by simp[part]
 have r1:∀w,(part 4 #[i_ 0,.bool false] 1).run Tryz.prog w=.ok (.bool false) w:=fun w=>by simp[part]
 have e:g=((s:Int)==0&&o==false):=by
  rw[<-hg,Bool.eq_iff_iff];cases o<;>simp
 rw[run_eql_struct,show(10000:Nat)=9999+1 from rfl,run_equalIn_agg w 9999 121 _ _ hS (by kernel_rfl)];simp only[Program.fieldsOf,Tryz.underlying121];simp only[Op.eqFields,ne_eq,String.reduceEq,not_false_eq_true,if_true,Sem.run_bind,Sem.run_ite,Sem.run_pure,Result.andThen_ok,p0,p1,r0,r1,h0,h1,e];clear h0 h1 p0 p1 r0 r1;generalize((s:Int)==0)=x0;generalize(o==false)=x1;cases x0<;>cases x1<;>rfl
theorem tW(w:World)(g:Nat):(Instr.fieldAt 124 (ah g) 1).run Tryz.prog w=.ok (.pointer (some ⟨g,1,none⟩)) w:=by kernel_rfl
theorem Ed{w:World}{p:Addr}{m:Option Nat}(h:w.cell? p=some (.map m)):(loadVar 122 p).run Tryz.prog w=.ok (.map m) w:=by go_simp
section
variable{ρ:Operand->Value}{o:Oper}{w w':World}
variable{x:Operand}{v:Value}
theorem QF{T:TypeId}{p:Addr}(ho:o.op=.load T x)(hx:ρ x=.pointer (some p))(hl:(loadVar T p).run Tryz.prog w=.ok v w):(execOp ρ o).run Tryz.prog w=.ok (.value v) w:=by unfold execOp;simp only[ho,hx,Instr.loadAt,Instr.sureAddr,Sem.run_bind,Sem.run_pure,Result.andThen_ok,hl]
theorem mn:(Tryz.prog.info? 121).map (·.size)=some 2:=by kernel_rfl
theorem QC{g s:Nat}{b:Bool}(ho:o.op=.load 121 x)(hx:ρ x=ah g)(hg:Has w g (dz s b) 121):(execOp ρ o).run Tryz.prog w=.ok (.value (.agg #[i_ s,.bool b])) w:=
 gJ 121 ho hx (cs:=[i_ s,.bool b]) Tryz.underlying121 rfl mn (gk (A:=[]) (C:=[]) hg rfl)
theorem sO{y z:Operand}{b:Nat}{k:Value}(ho:o.op=.mapUpdate 122 x y z)(hx:ρ x=.map (some b))(hy:ρ y=k)(hz:ρ z=v)(hr:(Instr.mapUpdate 122 (.map (some b)) k v).run Tryz.prog w=.ok () w'):(execOp ρ o).run Tryz.prog w=.ok .skip w':=by unfold execOp;simp only[ho,hx,hy,hz,Sem.run_bind,Sem.run_pure,Result.andThen_ok,hr]
end
variable{w:World}
theorem kR{ops:Array Oper}{rest:List Oper}{o:Oper}{a:Act}{Q:Exit->Act->World->Prop}(hgd:o.guard=none)(x:Operand)(ho:o.op=.load 121 x)(g:Nat)(hx:a.eval x=ah g)(s:Nat)(b:Bool)(hg:Has w g (dz s b) 121)(hk:wpList Tryz.prog ops Q rest (a.put o.dst (.agg #[i_ s,.bool b])) w):wpList Tryz.prog ops Q (o::rest) a w:=
 wpList_load_mid hgd 121 x ho g 0 hx [i_ s,.bool b] _ (gk (A:=[]) (C:=[]) hg rfl) Tryz.underlying121 rfl mn hk
def QU(mb mg k s:Nat)(o:Bool):Nat->Value->Prop
 | 0,v=>v=ah mb
 | 1,v=>v=ah mb
 | 2,v=>v=.pointer (some ⟨mb,1,none⟩)
 | 3,v=>v=.map (some mg)
 | 4,v=>v=i_ k
 | 5,v=>v=.agg #[i_ s,.bool o]
 | _,_=>True
def Dc(w0:World)(mb mg bx s:Nat)(o:Bool)(q:Option Addr)(S S':Mk.St)(b1 _b2:Bool)(w:World):Prop:=
 Has w mb (o9 q mg) 124/\Has w bx (dz s o) 121/\bg w mg (if b1 then S' else S)/\Kp (fun i=>i=mg) w0 w
theorem Dc.post{w0 w':World}{mb mg bx s k:Nat}{o:Bool}{q:Option Addr}{S:Mk.St}{b2 b3:Bool}(h:Dc w0 mb mg bx s o q S (ee S k s o) false b2 w)(h1:bg w' mg (ee S k s o))(h2:w.grownBy w' (some mg)):Dc w0 mb mg bx s o q S (ee S k s o) true b3 w':=by
 obtain⟨a1,a2,a3,a4⟩:=h;have hk:Kp (fun i=>i=mg) w w':=Kp.gb h2 fun k hk=>(Option.some.inj hk).symm
 exact⟨hk.has a1 (a3.Rq a1),hk.has a2 (a3.Rq a2),h1,a4.trans hk fun i hi _=>hi⟩
theorem nY(mb mg k s:Nat)(o:Bool)(q:Option Addr)(S:Mk.St)(hk:k<1000)(w:World)(hm:Has w mb (o9 q mg) 124)(hM:bg w mg S):aN 87 #[.pointer (some ⟨mb,0,none⟩),.int .i64 (k:Int),.agg #[.int .i64 (s:Int),.bool o]] w fun e w'=>e=.returned (.tuple #[])/\bg w' mg (ee S k s o)/\Kp (fun i=>i=mg) w w':=by
 have hC:Dc w mb mg w.heap.size s o q S (ee S k s o) false false (w.alloc (.cells #[.int .i64 (s:Int),.bool o] 121)).drew:=⟨Has.alloc hm _,Has.new (dz s o) _,hM.on (Below.heap_alloc w _ mg hM.lt),Kp.of aY.drew⟩;go_enter Tryz.func87,Tryz.ntmps87;go_wp2_with fail
 refine ig (by kernel_rfl) (fun _=>True) (fun i v' _=>QU mb mg k s o i v') (fun l _ w'=>Dc w mb mg w.heap.size s o q S (ee S k s o) (l.getD 6 false) (l.getD 99 false) w') (fun _ _=>True) (fun _ _=>trivial) (fun _ _ _ _ _ _ h=>h) (by kernel_rfl) trivial ?_ ?_ ?_;intro l hl;rw[hl,hl];exact hC
 ·intro i o lz a wx ho' hnl dq Z;have hI:=Z.i;have hi:i<7:=(Array.getElem?_eq_some_iff.1 ho').1;obtain rfl|rfl|rfl|rfl|rfl|rfl|rfl:i=0\/i=1\/i=2\/i=3\/i=4\/i=5\/i=6:=by omega
  all_goals obtain rfl:=Option.some.inj ho'
  exact iY hI (av Z 0) (NN.dk rfl) ((Z.old' 0));exact iY hI (av Z 1) (cB rfl (ar Z dq 0 6)) (rfl);exact iY hI (av Z 2) (de rfl (ar Z dq 1 7) (tW _ _)) (rfl);exact iY hI (av Z 3) (QF rfl (ar Z dq 2 8) (Ed (Has.cell hI.1 1))) (rfl);exact iY hI (av Z 4) (NN.dk rfl) ((Z.old' 1));exact iY hI (av Z 5) (QC rfl (Z.old' 5) hI.2.1) (rfl);have hsz:=av Z 6;have hI0:=hI;rw[hnl]at hI0;obtain⟨w1,hr,h1,h2⟩:=bg.put hI0.2.2.1 hk s o;exact o8 6 Z (ak rfl) (sO rfl (ar Z dq 3 9) (ar Z dq 4 10) (ar Z dq 5 11) hr) trivial trivial (Jd.one hsz (Dc.post hI0 h1 h2))
 ·intro lz a' w2 hall Z;have hI:=Z.i;have hk1:=hall 6 (by decide);have hk2:lz.getD 99 false=false:=by rw[Array.getD_eq_getD_getElem?,Array.getElem?_eq_none (by rw[Z.size];decide)];rfl
  rw[hk1,hk2]at hI;obtain⟨u,hu⟩:∃u:Nat->Value,∀t,u t=a'.eval (.tmp t):=⟨_,fun _=>rfl⟩;rw[eE a' 20 u Z.Re Z.defers hu];have f0:=Z.old' 0;have f1:=Z.old' 1;have f2:=Z.old' 2;have f3:=Z.old' 3;have f4:=Z.old' 4;have f5:=Z.old' 5;have f12:=Z.old' 12;have f13:=Z.old' 13;have f14:=Z.old' 14;have f15:=Z.old' 15;have f16:=Z.old' 16;have f17:=Z.old' 17;have f18:=Z.old' 18;have f19:=Z.old' 19;simp only[<-hu]at f0 f1 f2 f3 f4 f5 f12 f13 f14 f15 f16 f17 f18 f19;simp[Act.eval]at f0 f1 f2 f3 f4 f5 f12 f13 f14 f15 f16 f17 f18 f19;clear hu Z hall hk1 hk2;simp only[List.range,List.range.loop,List.map_cons,List.map_nil];rw[f0,f1,f2,f3,f4,f5,f12,f13,f14,f15,f16,f17,f18,f19];clear f0 f1 f2 f3 f4 f5 f12 f13 f14 f15 f16 f17 f18 f19;obtain⟨a1,a2,a3,a4⟩:=hI;have c1:w2.cell? ⟨mb,1,none⟩=some (.map (some mg)):=Has.cell a1 1;obtain⟨bx,hbx⟩:∃b,b=w.heap.size:=⟨_,rfl⟩;rw[<-hbx]at a2|-;obtain⟨g,hg⟩:∃g:Bool,(decide (s=0)&&!o)=g:=⟨_,rfl⟩;have he:=fun w=>Kf s o g hg w
  rw[if_pos rfl]at a3;cases g
  ·go_wp2_with (first|(with_reducible refine kR rfl _ rfl _ rfl _ _ a2 ?_))
   go_end0
   exact⟨rfl,a3,a4⟩
  ·obtain⟨w4,hd,b1,b2⟩:=bg.drop a3 hk (by
    rw[Bool.and_eq_true,decide_eq_true_eq]at hg;exact(Mk.mM _ _ _).trans hg.1) (by
    rw[Bool.and_eq_true,Bool.not_eq_true']at hg;exact(Mk.mM _ _ _).trans hg.2) 0
   clear hg;go_wp2_with (first|(with_reducible refine kR rfl _ rfl _ rfl _ _ a2 ?_))
   go_end0
   exact⟨rfl,b1,a4.trans (Kp.gb b2 fun k hk=>(Option.some.inj hk).symm) fun i hi _=>hi⟩
theorem I2(mb mg k:Nat)(q:Option Addr)(S:Mk.St)(hk:k<1000)(t:Nat)(ht:(if S.said k=2 then 0 else S.said k)=t)(w:World)(hm:Has w mb (o9 q mg) 124)(hM:bg w mg S):aN 88 #[ah mb,i_ k] w fun e w'=>e=.returned (.tuple #[])/\bg w' mg (ee S k t false)/\Kp (fun i=>i=mg) w w':=by
 have hlk:(Instr.lookup 122 (.map (some mg)) (i_ k) false).run Tryz.prog w=.ok (.agg #[i_ (S.said k:Int),.bool (S.out k)]) w:=hM.look hk w rfl;have c1:w.cell? ⟨mb,1,none⟩=some (.map (some mg)):=Has.cell hm 1;generalize hs:S.said k=s at*;generalize S.out k=o at*;clear hs;go_enter Tryz.func88,Tryz.ntmps88;go_upto_region 1 with fail
 generalize hw2:World.alloc _ _=v2;have hN:Has v2 w.heap.size (dz s o) 121:=by rw[<-hw2];exact Has.new _ _
 have hb2:Bl w v2:=db hw2;have hbn:mb<w.heap.size:=hm.lt;have hgn:=hM.lt;obtain⟨bn,e⟩:∃bn,bn=w.heap.size:=⟨_,rfl⟩;rw[<-e]at hN|-;have UR:Hid (w.heap.size<=bn):=h_ (by omega);clear hw2 hlk c1 e;have d0:v2.cell? ⟨bn,1,none⟩=some (.bool o):=Has.cell hN 1;have f0:=hN.free 1;go_upto_region 2 with fail
 have Tj:Has (v2.setCell ⟨bn,1,none⟩ (.bool false)) bn (dz s false) 121:=Has.set (i:=1) hN _;have hb3:=hb2.setCell (p:=⟨bn,1,none⟩) UR.out (.bool false);clear d0 f0 hN hb2;generalize World.setCell _ _ _=v3 at*;have d0:v3.cell? ⟨bn,0,none⟩=some (i_ s):=Has.cell Tj 0;have f0:=Tj.free 0
 have fin:∀v4:World,Bl w v4->∀t:Nat,aN 87 #[ah mb,i_ k,.agg #[i_ t,.bool false]] v4 fun e w'=>e=.returned (.tuple #[])/\bg w' mg (ee S k t false)/\Kp (fun i=>i=mg) w w':=fun v4 hb t=>by
  refine(nY mb mg k t false q S hk v4 (bY hb hm hbn) (hM.on (hb.block mg hgn))).mono ?_;rintro e w' ⟨rfl,h1,h2⟩;exact⟨rfl,h1,(Kp.of hb).trans h2 fun i hi _=>hi⟩
 have FIN:=h_ fin;have HB3:=h_ hb3;clear fin hb3 hm hM hbn hgn;by_cases hs:s=2
 ·obtain rfl:0=t:=by rw[<-ht,if_pos hs]
  have h1:((s:Int)==2)=true:=by rw[hs];rfl
  have h3:Has (v3.setCell ⟨bn,0,none⟩ (i_ 0)) bn (dz 0 false) 121:=Has.set (i:=0) Tj _;have hb4:=HB3.out.setCell (p:=⟨bn,0,none⟩) UR.out (i_ 0);have R7:=FIN.out _ hb4 0;clear hs ht Tj hb4;go_wp2_with (first|(with_reducible refine kR rfl _ rfl _ rfl _ _ h3 ?_))
  refine R7.mono ?_;rintro e w' ⟨rfl,h5,h6⟩;go_wp2_with fail
  go_end0
  exact⟨rfl,h5,h6⟩
 ·obtain rfl:s=t:=by rw[<-ht,if_neg hs]
  have h1:((s:Int)==2)=false:=by simpa using fun h=>hs (by omega)
  have R7:=FIN.out _ HB3.out s;clear hs ht;go_wp2_with (first|(with_reducible refine kR rfl _ rfl _ rfl _ _ Tj ?_))
  refine R7.mono ?_;rintro e w' ⟨rfl,h5,h6⟩;go_wp2_with fail
  go_end0
  exact⟨rfl,h5,h6⟩
end An
namespace An
open Mem Sc
open Ar (aq Ru aB Ok bV Row cY)
open Mk (bT fX aO pb verdict dC dc iD word da)
theorem ir.SY{w:World}{B bm:Nat}{F:Nat->Prop}{r:Ru}{M:List aq}(h:ir w B F bm r M):∃a c,w.cell? ⟨bm,83,none⟩=some (.slice a M.length c):=by
 obtain⟨_,_,_,p,t,vH,vI,vA,vW,ws,h3,_⟩:=h;have rH:=h3.SG;have c:=o4 h3.has h3.RG;rcases Nat.eq_zero_or_pos (M.map (aq.h r.g)).length with e|e
 ·obtain⟨a1,hh⟩:=rH;rcases hh with⟨hh,_⟩|⟨g,c',cs,hh,_⟩
  subst hh;exact⟨none,0,by rw[c];rw[List.length_map]at e;rw[e]⟩;subst hh;exact⟨_,c',by rw[c,List.length_map]⟩
 obtain⟨g,c',rfl⟩:=iV rH e;exact⟨_,c',by rw[c,List.length_map]⟩
theorem Ib(rb bm n c:Nat)(a:Option Addr)(x:Int)(hx:¬(0<=x/\x<(n:Int)))(w:World)(hv:w.cell? ⟨bm,83,none⟩=some (.slice a n c)):an 30 #[ah rb,ah bm,i_ x] w (.bool false):=by
 have hB:=Below.refl w.heap.size w;by_cases h0:x<0
 ·have t1:decide (x<0)=true:=decide_eq_true h0;clear h0 hx;go_enter Tryz.func30,Tryz.ntmps30;go_wp2_with fail
  go_ret;exact⟨rfl,hB⟩
 ·have t1:decide (x<0)=false:=decide_eq_false h0;obtain⟨k,rfl⟩:=Int.eq_ofNat_of_zero_le (by omega:0<=x);have h1:n<=k:=by omega
  clear h0 hx;go_enter Tryz.func30,Tryz.ntmps30;go_wp2_with fail
  go_ret;exact⟨rfl,hB⟩
variable{L:List Int}{p:Int->Bool}
theorem Jq{k:Nat}{z:Int}(hz:L[k]?=some z)(hp:p z=false):L.all p=false:=List.all_eq_false.2 ⟨z,List.mem_of_getElem? hz,by rw[hp];simp⟩
theorem vF{n:Nat}(hn:n=L.length)(h:∀k z,k<n->L[k]?=some z->p z=true):L.all p=true:=List.all_eq_true.2 fun z hz=>by
 obtain⟨k,hk⟩:=List.mem_iff_getElem?.1 hz;exact h k z (by rw[hn];exact(List.getElem?_eq_some_iff.1 hk).1) hk
theorem NQ(rb bm m cm i:Nat)(am:Option Addr)(S:Mk.St)(hi:i<m)(L:List Int)(HL:Hid (∀(k:Nat) z,L[k]?=some z->∃j:Nat,z=(j:Int)/\j<600))(n:Nat)(hn:n=L.length)(hpos:0<n)(Te:n<=1000)(w:World)(hv:w.cell? ⟨bm,83,none⟩=some (.slice am m cm))(KP:lJ w fun w'=>aN 66 #[ah bm,i_ i] w' fun e w''=>∃v,e=.returned v/\w''.ownsRow w'.heap.size 3 1 v n (L.map (Value.int .i64))/\Bl w' w'')(HS:lJ w fun w'=>jN w' rb S):an 30 #[ah rb,ah bm,i_ i] w (.bool (L.all fun z=>S.said z.toNat==1&&!S.out z.toNat)):=by
 have HN:=h_ hn;have t1:decide ((i:Int)<0)=false:=decide_eq_false (by omega);have h1:¬m<=i:=by omega
 clear hn;have hB:=Below.refl w.heap.size w;go_enter Tryz.func30,Tryz.ntmps30;go_wp2_with fail
 refine(KP.out _ hB).mono ?_;rintro e v1 ⟨v,rfl,hv,hb⟩;obtain⟨g,c,rfl⟩:=iV hv hpos;replace hB:=af hB hb;have HV:=h_ hv;clear hb hv KP;go_wp2_with fail
 have hS:=HS.out _ hB;clear HS;go_loopw [24] (fun s24 wr=>∃k:Nat,k<=n/\s24=i_ k/\wr=v1/\Hid (∀j z,j<k->L[j]?=some z->(S.said z.toNat==1&&!S.out z.toNat)=true)) (fun s24 _=>n-(intOf s24).toNat)
 case atStart=>exact⟨0,Nat.zero_le _,rfl,rfl,h_ fun j z hj=>by omega⟩
 case round=>
  obtain⟨k,hk,rfl,rfl,HX⟩:=hrel;by_cases hlt:k<n
  ·obtain⟨z,hz⟩:∃z,L[k]?=some z:=⟨_,List.getElem?_eq_getElem (by rw[<-HN.out];exact hlt)⟩;obtain⟨g2,c2,e2,hc⟩:=mR HV.out hz;cases e2;obtain⟨u,rfl,hu⟩:=HL.out k z hz;have HZ:=h_ hz;clear hz;have c1:=hS.out hu;have c2:=hS.said hu;have h6:(600:Nat)+u<1200:=by omega
   generalize hs:S.said u=s at*;generalize ho:S.out u=o at*;have XC:Hid (S.said u=s/\S.out u=o):=h_ ⟨hs,ho⟩;clear hs ho;have R6:Hid ((s==1&&!o)=false->(L.all fun z=>S.said z.toNat==1&&!S.out z.toNat)=false):=h_ fun hh=>Jq HZ.out (by rw[Int.toNat_natCast,XC.out.1,XC.out.2];exact hh)
   have VQ:Hid ((s==1&&!o)=true->∀j z,j<k+1->L[j]?=some z->(S.said z.toNat==1&&!S.out z.toNat)=true):=h_ fun hf j u2 hj hu2=>by
    by_cases e:j=k;subst e;rw[HZ.out]at hu2;cases hu2;rw[Int.toNat_natCast,XC.out.1,XC.out.2];exact hf;exact HX.out j u2 (by omega) hu2
   by_cases hs1:s=1
   ·have h2:((s:Int) != 1)=false:=(by rw[hs1];rfl);have Wj:=h_ hs1;clear hs1;cases o
    ·have HX3:=h_ (VQ.out (by rw[Wj.out];rfl));clear R6 VQ;(go_wp2_with fail);go_roundw
     case rel=>exact⟨k+1,by omega,by go_num,by trivial,HX3⟩
     case measure=>simp[intOf];omega
    ·have hr:=h_ (R6.out (by simp));clear R6 VQ;(go_wp2_with fail);go_ret;exact⟨by rw[hr.out];rfl,hB⟩
   ·have h2:((s:Int) != 1)=true:=by simpa using fun h=>hs1 (by omega)
    have hr:=h_ (R6.out (by simp[hs1]));clear R6 VQ hs1;(go_wp2_with fail);go_ret;exact⟨by rw[hr.out];rfl,hB⟩
  ·obtain rfl:k=n:=by omega
   have hr:=h_ (vF (p:=fun z=>S.said z.toNat==1&&!S.out z.toNat) HN.out HX.out);go_wp2_with fail
   go_ret;exact⟨by rw[hr.out];rfl,hB⟩
