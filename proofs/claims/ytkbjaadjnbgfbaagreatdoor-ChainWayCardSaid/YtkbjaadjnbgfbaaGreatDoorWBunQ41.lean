import Derived.Test.YtkbjaadjnbgfbaaGreatDoorWBunQ34
import Derived.Test.YtkbjaadjnbgfbaaGreatDoorWBunQ40
set_option maxRecDepth 100000
set_option maxHeartbeats 4000000
namespace Go.Proofs.YtkbjaadjnbgfbaaGreatDoor.An
open Go.RowKit Mem Sc
open Ar (Ent Ru entZ Ok isP)
def upZ (M:List Ent) (x:Int):Int:=if isP M x then (M.getD x.toNat entZ).up else -1
def TrQ (w:World) (F:Nat->Prop) (q:Option Addr) (r:Ru) (M:List Ent):Prop:=(∃bt ls,q=some ⟨bt,0,none⟩/\TrS w F bt r M ls/\ls.length=M.length)\/(q=none/\M=[])
section
variable {w w':World} {F G:Nat->Prop} {q:Option Addr} {r:Ru} {M:List Ent}
theorem TrQ.on (h:TrQ w F q r M) (k:Kp G w w') (hG:∀ i,F i->¬G i):TrQ w' F q r M :=
 h.imp (fun ⟨bt,ls,h1,h2,h3⟩=>⟨bt,ls,h1,h2.on k hG,h3⟩) id
theorem TrQ.below (h:TrQ w F q r M) (hb:Bl w w'):TrQ w' F q r M:=h.on (G:=fun _=>False) (Kp.of hb) fun _ _ hf=>hf
theorem qbg_ (x:Int):¬isP [] x:=fun h=>absurd (Int.lt_of_le_of_lt h.1 h.2) (Int.lt_irrefl _)
theorem TrQ.heavier (h:TrQ w F q r M) (x y:Int) (g:Bool) (hg:HvI r M x y g):Ca_ 31 #[.pointer q,i_ x,i_ y] w (.bool g):=by
 rcases h with ⟨bt,ls,rfl,hS,_⟩|⟨rfl,rfl⟩
 exact qrl_ hS x y g hg
 ·have:g=false:=by
   rcases hg with ⟨_,h⟩|⟨h,_⟩|⟨n,m,e,d,_,_,h,_⟩
   exact h;exact absurd h (qbg_ x);simp at h
  subst this;exact qni_ x y w
theorem TrQ.len (h:TrQ w F q r M):Ca_ 57 #[.pointer q] w (i_ (M.length:Int)):=by
 rcases h with ⟨bt,ls,rfl,hS,_⟩|⟨rfl,rfl⟩
 exact tlen_at hS;exact qwi_ w
theorem TrQ.at (h:TrQ w F q r M) (x:Int):∃ e:En,e.ok/\e.up=upZ M x/\∀ w',Bl w w'->Ca_ 29 #[.pointer q,i_ x] w' (.tuple #[.agg (enA e),.bool (decide (isP M x))]):=by
 rcases h with ⟨bt,ls,rfl,hS,_⟩|⟨rfl,rfl⟩
 ·by_cases hx:isP M x;obtain ⟨n,e,rfl,he⟩:=hx.is;obtain ⟨Fa,ab,k1,k2⟩:=hS.parts;refine ⟨_,qcz_ k2 he,?_,fun w' hb=>?_⟩;unfold upZ;rw[if_pos hx,Int.toNat_natCast,List.getD_eq_getElem?_getD,he];rfl;rw[decide_eq_true hx];exact tat_at (hS.below hb) he _ rfl;refine ⟨enN,enN_ok,by unfold upZ;rw[if_neg hx];rfl,fun w' hb=>?_⟩;rw[decide_eq_false hx];exact qlh_ (hS.below hb) x hx
 refine ⟨enN,enN_ok,by unfold upZ;rw[if_neg (qbg_ x)];rfl,fun w' _=>?_⟩;rw[decide_eq_false (qbg_ x)];exact qwj_ x w'
end
variable {M:List Ent}
theorem upZ_at {i:Nat} {e:Ent} (he:M[i]?=some e):upZ M (i:Int)=e.up:=by
 unfold upZ;rw[if_pos (Ar.isP_of he),Int.toNat_natCast,List.getD_eq_getElem?_getD,he];rfl
theorem upZ_not {x:Int} (h:¬isP M x):upZ M x = -1:=if_neg h
theorem qabi_ (w:World) :
  Ca_ 127 #[.pointer none] w (.pointer none):=by
 have hB:=Below.refl w.heap.size w;go_enter Tryz.func127,Tryz.ntmps127;go_wp2_with fail
 go_ret;exact ⟨rfl,hB⟩
theorem mheld_w (mb:Nat) (q:Option Addr) (w:World) (hv:w.cell? ⟨mb,0,none⟩=some (.pointer q)) :
  Ca_ 127 #[pp_ mb] w (.pointer q):=by
 have hB:=Below.refl w.heap.size w;go_enter Tryz.func127,Tryz.ntmps127;go_wp2_with fail
 go_ret;exact ⟨rfl,hB⟩
def MHeld (w:World) (mp:Value) (q:Option Addr):Prop:=∀ w',Bl w w'->Ca_ 127 #[mp] w' (.pointer q)
theorem MHeld.nil (w:World):MHeld w (.pointer none) none:=fun w' _=>qabi_ w'
theorem mhas_w (mp:Value) (q:Option Addr) (x:Int) (E:En) (hE:E.ok) (g:Bool) (w:World) (KH:Hid (MHeld w mp q)) (KA:HK_ w 29 #[.pointer q,i_ x] (.tuple #[.agg (enA E),.bool g])) :
  Ca_ 95 #[mp,i_ x] w (.bool g):=by
 have ze:=qm_ hE;have z0:=qm_ enZ_ok;have hB:=Below.refl w.heap.size w;go_enter Tryz.func95,Tryz.ntmps95;go_wp2_with fail
 refine (KH.out _ hB).mono ?_;rintro e v1 ⟨rfl,hb⟩;replace hB:=tb_ hB hb;clear hb;go_wp2_with fail
 refine (KA.out _ hB).mono ?_;rintro e v2 ⟨rfl,hb⟩;replace hB:=tb_ hB hb;clear hb;have hnew:=qbm_ v2;have hE1:=qcs_ v2 E;have hb3:=qbp_ v2 60 Tryz.zeroCells60 (enA E);go_upto_region 2 with (with_reducible refine qba_ rfl _ _ rfl _ _ E rfl rfl rfl ze hnew z0 ?_)
 generalize World.setRow _ _ _=v3 at *;replace hB:=tb_ hB hb3;clear hb3 hnew hE1;go_wp2_with fail
 go_ret;exact ⟨rfl,hB⟩
theorem qws_ (mp:Value) (q:Option Addr) (x:Int) (E:En) (hE:E.ok) (z:Int) (hz:Hid (E.up=z)) (g:Bool) (w:World) (KH:Hid (MHeld w mp q)) (KA:HK_ w 29 #[.pointer q,i_ x] (.tuple #[.agg (enA E),.bool g])) :
  Ca_ 130 #[mp,i_ x] w (i_ z):=by
 have ze:=qm_ hE;have z0:=qm_ enZ_ok;have hB:=Below.refl w.heap.size w;go_enter Tryz.func130,Tryz.ntmps130;go_wp2_with fail
 refine (KH.out _ hB).mono ?_;rintro e v1 ⟨rfl,hb⟩;replace hB:=tb_ hB hb;clear hb;go_wp2_with fail
 refine (KA.out _ hB).mono ?_;rintro e v2 ⟨rfl,hb⟩;replace hB:=tb_ hB hb;clear hb;have hnew:=qbm_ v2;have hE1:=qcs_ v2 E;have hb3:=qbp_ v2 60 Tryz.zeroCells60 (enA E);go_upto_region 2 with (with_reducible refine qba_ rfl _ _ rfl _ _ E rfl rfl rfl ze hnew z0 ?_)
 generalize World.setRow _ _ _=v3 at *;replace hB:=tb_ hB hb3;have c1:=EnAt.up hE1 hE hz;clear hb3 hnew;go_wp2_with fail
 go_ret;exact ⟨rfl,hB⟩
theorem qwt_ (mp:Value) (x:Int) (w:World) (KH:HK_ w 95 #[mp,i_ x] (.bool false)) :
  Ca_ 94 #[mp,i_ x] w (.tuple #[i_ 0,.bool false]):=by
 have hB:=Below.refl w.heap.size w;go_enter Tryz.func94,Tryz.ntmps94;go_wp2_with fail
 refine (KH.out _ hB).mono ?_;rintro e v1 ⟨rfl,hb⟩;replace hB:=tb_ hB hb;clear hb;go_wp2_with fail
 go_ret2;exact ⟨rfl,hB⟩
theorem qabj_ (mb mg:Nat) (x:Int) (s:Nat) (o:Bool) (w:World) (KH:HK_ w 95 #[pp_ mb,i_ x] (.bool true)) (HC:HB_ w fun w'=>w'.cell? ⟨mb,1,none⟩=some (.map (some mg))/\(Instr.lookup 122 (.map (some mg)) (i_ x) false).run Tryz.prog w' = .ok (.agg #[i_ s,.bool o]) w') :
  Ca_ 94 #[pp_ mb,i_ x] w (.tuple #[i_ s,.bool o]):=by
 have hB:=Below.refl w.heap.size w;go_enter Tryz.func94,Tryz.ntmps94;go_wp2_with fail
 refine (KH.out _ hB).mono ?_;rintro e v1 ⟨rfl,hb⟩;replace hB:=tb_ hB hb;clear hb;obtain ⟨c1,hlk⟩:=HC.out _ hB;go_upto_region 4 with fail
 generalize hw2:World.alloc _ _=v2;have hN:Has v2 v1.heap.size (noteA s o) 121:=by rw[<-hw2];exact Has.new _ _
 have hb2:Bl v1 v2:=bl_ hw2;replace hB:=tb_ hB hb2;clear hw2 hb2 hlk c1;obtain ⟨bn,hbn⟩:∃ bn,bn=v1.heap.size:=⟨_,rfl⟩;rw[<-hbn] at hN |-;clear hbn;have d0:v2.cell? ⟨bn,0,none⟩=some (i_ s):=Has.cell hN 0;have d1:v2.cell? ⟨bn,1,none⟩=some (.bool o):=Has.cell hN 1;have q0:=cell_regrown d0;have q1:=cell_regrown d1;clear d0 d1 hN;refine wp_region_quiet_below (by kernel_rfl) (by kernel_rfl) ?_;repeat (first|go_big_quiet_step (fail))
 refine wpQuiet_nil ?_;intro v3 hw';have hb:=qae_ v3 hw';replace hB:=tb_ hB hb;clear hw' hb;go_wp2_with fail
 go_ret2;exact ⟨rfl,hB⟩
end Go.Proofs.YtkbjaadjnbgfbaaGreatDoor.An
namespace Go.Proofs.YtkbjaadjnbgfbaaGreatDoor.An
open Go.RowKit Mem Sc NN.Rg2
open Ar (Ent Ru entZ Ok)
variable {CB:Bool->Bool->World->Prop} {k1 k2:Nat} {l:Array Bool} {w:World}
theorem Jd_keep {i:Nat} (h:CB (l.getD k1 false) (l.getD k2 false) w) (hi:i<l.size) (h1:i ≠ k1) (h2:i ≠ k2):CB ((l.setIfInBounds i true).getD k1 false) ((l.setIfInBounds i true).getD k2 false) w:=by
 rw[qo_ l i k1 hi h1,qo_ l i k2 hi h2];exact h
theorem Jd.one (hi:k1<l.size) (h:CB true ((l.setIfInBounds k1 true).getD k2 false) w):CB ((l.setIfInBounds k1 true).getD k1 false) ((l.setIfInBounds k1 true).getD k2 false) w:=by
 rw[qx_ _ _ _ hi,if_pos rfl];exact h
theorem Jd.two (hi:k2<l.size) (h:CB ((l.setIfInBounds k2 true).getD k1 false) true w):CB ((l.setIfInBounds k2 true).getD k1 false) ((l.setIfInBounds k2 true).getD k2 false) w:=by
 rw[show (l.setIfInBounds k2 true).getD k2 false=true by rw[qx_ _ _ _ hi,if_pos rfl]];exact h
section
variable {P:Program} {ops:Array Oper} {o:Oper} {a:Act} {w:World} {Q:Exit->Act->World->Prop} {R:Nat->Value->Prop} {CB:Bool->Bool->World->Prop} {k1 k2 i:Nat} {l:Array Bool} {v:Value} {f:FuncId} {args:Array Value}
theorem dd_val (hI:CB (l.getD k1 false) (l.getD k2 false) w) (hi:i<l.size) (h:(execOp a.eval o).run P w = .ok (.value v) w) (hr:R i v) (hn:Region.wanted o (yielded ops a.tmps)=true:=by exact qa_ rfl) (h1:i ≠ k1:=by decide) (h2:i ≠ k2:=by decide):if Region.wanted o (yielded ops a.tmps)=true then o.wp P a w (fun a' w'=>True/\True/\∃ v,a'=a.put o.dst v/\R i v/\CB ((l.setIfInBounds i true).getD k1 false) ((l.setIfInBounds i true).getD k2 false) w') Q else R i undef/\CB ((l.setIfInBounds i true).getD k1 false) ((l.setIfInBounds i true).getD k2 false) w :=
 qg_ (C:=fun _=>True) (S:=fun _ _=>True) (R:=fun v _=>R i v) (J:=fun _ w=>CB ((l.setIfInBounds i true).getD k1 false) ((l.setIfInBounds i true).getD k2 false) w) (fun _ _=>trivial) trivial hn h hr (Jd_keep hI hi h1 h2)
end
def mkA (q:Option Addr) (mg:Nat):Array Value:=#[.pointer q,.map (some mg)]
theorem qaje_ (s:Nat) (o:Bool) (g:Bool) (hg:(decide (s=0) && !o)=g) (w:World):(binOp .eql 121 (.agg #[i_ s,.bool o]) (.agg #[i_ 0,.bool false])).run Tryz.prog w = .ok (.bool g) w:=by
 have h0:∀ w,(Op.equalIn 9999 3 (i_ s) (i_ 0)).run Tryz.prog w = .ok ((s:Int)==0) w:=fun w=>eq_int _ _ 9998 w
 have h1:∀ w,(Op.equalIn 9999 4 (.bool o) (.bool false)).run Tryz.prog w = .ok (o==false) w:=fun w=>by cases o <;> kernel_rfl
 have hS:Tryz.prog.underlying 121=some (.struct (Tryz.prog.fieldsOf 121)):=by kernel_rfl
 have p0:∀ w,(part 3 #[i_ s,.bool o] 0).run Tryz.prog w = .ok (i_ s) w:=fun w=>by simp[part]
 have p1:∀ w,(part 4 #[i_ s,.bool o] 1).run Tryz.prog w = .ok (.bool o) w:=fun w=>by simp[part]
 have r0:∀ w,(part 3 #[i_ 0,.bool false] 0).run Tryz.prog w = .ok (i_ 0) w:=fun w=>by simp[part]
 have r1:∀ w,(part 4 #[i_ 0,.bool false] 1).run Tryz.prog w = .ok (.bool false) w:=fun w=>by simp[part]
 have e:g=((s:Int)==0 && o==false):=by
  rw[<-hg,Bool.eq_iff_iff];cases o <;> simp
 rw[run_eql_struct,show (10000:Nat)=9999+1 from rfl,run_equalIn_agg w 9999 121 _ _ hS (by kernel_rfl)];simp only[Program.fieldsOf,Tryz.underlying121];simp only[Op.eqFields,ne_eq,String.reduceEq,not_false_eq_true,if_true,Sem.run_bind,Sem.run_ite,Sem.run_pure,Result.andThen_ok,p0,p1,r0,r1,h0,h1,e];clear h0 h1 p0 p1 r0 r1;generalize ((s:Int)==0)=x0;generalize (o==false)=x1;cases x0 <;> cases x1 <;> rfl
theorem mfield1 (w:World) (g:Nat):(Instr.fieldAt 124 (pp_ g) 1).run Tryz.prog w = .ok (.pointer (some ⟨g,1,none⟩)) w:=by kernel_rfl
theorem qabk_ {w:World} {p:Addr} {m:Option Nat} (h:w.cell? p=some (.map m)):(loadVar 122 p).run Tryz.prog w = .ok (.map m) w:=by
 go_simp
section
variable {ρ:Operand->Value} {o:Oper} {w w':World}
variable {x:Operand} {v:Value}
theorem qrn_ {T:TypeId} {p:Addr} (ho:o.op = .load T x) (hx:ρ x = .pointer (some p)) (hl:(loadVar T p).run Tryz.prog w = .ok v w):(execOp ρ o).run Tryz.prog w = .ok (.value v) w:=by
 unfold execOp;simp only[ho,hx,Instr.loadAt,Instr.sureAddr,Sem.run_bind,Sem.run_pure,Result.andThen_ok,hl]
theorem noteinfo:(Tryz.prog.info? 121).map (·.size)=some 2:=by kernel_rfl
theorem qnn_ {g s:Nat} {b:Bool} (ho:o.op = .load 121 x) (hx:ρ x = pp_ g) (hg:Has w g (noteA s b) 121):(execOp ρ o).run Tryz.prog w = .ok (.value (.agg #[i_ s,.bool b])) w :=
 ex_mid 121 ho hx (cs:=[i_ s,.bool b]) Tryz.underlying121 rfl noteinfo (qbh_ (A:=[]) (C:=[]) hg rfl)
theorem ex_nput {y z:Operand} {b:Nat} {k:Value} (ho:o.op = .mapUpdate 122 x y z) (hx:ρ x = .map (some b)) (hy:ρ y=k) (hz:ρ z=v) (hr:(Instr.mapUpdate 122 (.map (some b)) k v).run Tryz.prog w = .ok () w'):(execOp ρ o).run Tryz.prog w = .ok .skip w':=by
 unfold execOp;simp only[ho,hx,hy,hz,Sem.run_bind,Sem.run_pure,Result.andThen_ok,hr]
end
variable {w:World}
theorem qce_ {ops:Array Oper} {rest:List Oper} {o:Oper} {a:Act} {Q:Exit->Act->World->Prop} (hgd:o.guard=none) (x:Operand) (ho:o.op = .load 121 x) (g:Nat) (hx:a.eval x = pp_ g) (s:Nat) (b:Bool) (hg:Has w g (noteA s b) 121)
  (hk:wpList Tryz.prog ops Q rest (a.put o.dst (.agg #[i_ s,.bool b])) w):wpList Tryz.prog ops Q (o :: rest) a w :=
 wpList_load_mid hgd 121 x ho g 0 hx [i_ s,.bool b] _ (qbh_ (A:=[]) (C:=[]) hg rfl) Tryz.underlying121 rfl noteinfo hk
def MpR (mb mg k s:Nat) (o:Bool):Nat->Value->Prop
 | 0,v=>v = pp_ mb
 | 1,v=>v = pp_ mb
 | 2,v=>v = .pointer (some ⟨mb,1,none⟩)
 | 3,v=>v = .map (some mg)
 | 4,v=>v = i_ k
 | 5,v=>v = .agg #[i_ s,.bool o]
 | _,_=>True
def MpC (w0:World) (mb mg bx s:Nat) (o:Bool) (q:Option Addr) (S S':Mk.St) (b1 _b2:Bool) (w:World):Prop :=
 Has w mb (mkA q mg) 124/\Has w bx (noteA s o) 121/\MapN w mg (if b1 then S' else S)/\Kp (fun i=>i=mg) w0 w
theorem MpC.post {w0 w':World} {mb mg bx s k:Nat} {o:Bool} {q:Option Addr} {S:Mk.St} {b2 b3:Bool} (h:MpC w0 mb mg bx s o q S (putS S k s o) false b2 w) (h1:MapN w' mg (putS S k s o)) (h2:w.grownBy w' (some mg)):MpC w0 mb mg bx s o q S (putS S k s o) true b3 w':=by
 obtain ⟨a1,a2,a3,a4⟩:=h;have hk:Kp (fun i=>i=mg) w w':=Kp.gb h2 fun k hk=>(Option.some.inj hk).symm
 exact ⟨hk.has a1 (a3.not_cells a1),hk.has a2 (a3.not_cells a2),h1,a4.trans hk fun i hi _=>hi⟩
theorem put_w (mb mg k s:Nat) (o:Bool) (q:Option Addr) (S:Mk.St) (hk:k<1000) (w:World) (hm:Has w mb (mkA q mg) 124) (hM:MapN w mg S) :
  Cl_ 87 #[.pointer (some ⟨mb,0,none⟩),.int .i64 (k:Int),.agg #[.int .i64 (s:Int),.bool o]] w fun e w'=>e = .returned (.tuple #[])/\MapN w' mg (putS S k s o)/\Kp (fun i=>i=mg) w w':=by
 have hC:MpC w mb mg w.heap.size s o q S (putS S k s o) false false (w.alloc (.cells #[.int .i64 (s:Int),.bool o] 121)).drew:=⟨Has.alloc hm _,Has.new (noteA s o) _,hM.on (Below.heap_alloc w _ mg hM.lt),Kp.of ba_.drew⟩;go_enter Tryz.func87,Tryz.ntmps87;go_wp2_with fail
 refine qj_ (by kernel_rfl) (fun _=>True) (fun i v' _=>MpR mb mg k s o i v') (fun l _ w'=>MpC w mb mg w.heap.size s o q S (putS S k s o) (l.getD 6 false) (l.getD 99 false) w') (fun _ _=>True) (fun _ _=>trivial) (fun _ _ _ _ _ _ h=>h) (by kernel_rfl) trivial ?_ ?_ ?_;intro l hl;rw[hl,hl];exact hC
 ·intro i o lz a wx ho' hnl dq Z;have hI:=Z.i;have hi:i<7:=(Array.getElem?_eq_some_iff.1 ho').1;obtain rfl|rfl|rfl|rfl|rfl|rfl|rfl:i=0\/i=1\/i=2\/i=3\/i=4\/i=5\/i=6:=by omega
  all_goals obtain rfl:=Option.some.inj ho'
  exact dd_val hI (hz_ Z 0) (NN.qr_ rfl) ((Z.old' 0));exact dd_val hI (hz_ Z 1) (ex_nil rfl (gd_ Z dq 0 6)) (rfl);exact dd_val hI (hz_ Z 2) (qah_ rfl (gd_ Z dq 1 7) (mfield1 _ _)) (rfl);exact dd_val hI (hz_ Z 3) (qrn_ rfl (gd_ Z dq 2 8) (qabk_ (Has.cell hI.1 1))) (rfl);exact dd_val hI (hz_ Z 4) (NN.qr_ rfl) ((Z.old' 1));exact dd_val hI (hz_ Z 5) (qnn_ rfl (Z.old' 5) hI.2.1) (rfl);have hsz:=hz_ Z 6;have hI0:=hI;rw[hnl] at hI0;obtain ⟨w1,hr,h1,h2⟩:=MapN.put hI0.2.2.1 hk s o;exact ds_ 6 Z (qa_ rfl) (ex_nput rfl (gd_ Z dq 3 9) (gd_ Z dq 4 10) (gd_ Z dq 5 11) hr) trivial trivial (Jd.one hsz (MpC.post hI0 h1 h2))
 ·intro lz a' w2 hall Z;have hI:=Z.i;have hk1:=hall 6 (by decide);have hk2:lz.getD 99 false=false:=by rw[Array.getD_eq_getD_getElem?,Array.getElem?_eq_none (by rw[Z.size];decide)];rfl
  rw[hk1,hk2] at hI;obtain ⟨u,hu⟩:∃ u:Nat->Value,∀ t,u t=a'.eval (.tmp t):=⟨_,fun _=>rfl⟩;rw[qbc_ a' 20 u Z.tsize Z.defers hu];have f0:=Z.old' 0;have f1:=Z.old' 1;have f2:=Z.old' 2;have f3:=Z.old' 3;have f4:=Z.old' 4;have f5:=Z.old' 5;have f12:=Z.old' 12;have f13:=Z.old' 13;have f14:=Z.old' 14;have f15:=Z.old' 15;have f16:=Z.old' 16;have f17:=Z.old' 17;have f18:=Z.old' 18;have f19:=Z.old' 19;simp only[<-hu] at f0 f1 f2 f3 f4 f5 f12 f13 f14 f15 f16 f17 f18 f19;simp[Act.eval] at f0 f1 f2 f3 f4 f5 f12 f13 f14 f15 f16 f17 f18 f19;clear hu Z hall hk1 hk2;simp only[List.range,List.range.loop,List.map_cons,List.map_nil];rw[f0,f1,f2,f3,f4,f5,f12,f13,f14,f15,f16,f17,f18,f19];clear f0 f1 f2 f3 f4 f5 f12 f13 f14 f15 f16 f17 f18 f19;obtain ⟨a1,a2,a3,a4⟩:=hI;have c1:w2.cell? ⟨mb,1,none⟩=some (.map (some mg)):=Has.cell a1 1;obtain ⟨bx,hbx⟩:∃ b,b=w.heap.size:=⟨_,rfl⟩;rw[<-hbx] at a2 |-;obtain ⟨g,hg⟩:∃ g:Bool,(decide (s=0) && !o)=g:=⟨_,rfl⟩;have he:=fun w=>qaje_ s o g hg w
  rw[if_pos rfl] at a3;cases g
  ·go_wp2_with (first|(with_reducible refine qce_ rfl _ rfl _ rfl _ _ a2 ?_))
   go_end0
   exact ⟨rfl,a3,a4⟩
  ·obtain ⟨w4,hd,b1,b2⟩:=MapN.drop a3 hk (by
    rw[Bool.and_eq_true,decide_eq_true_eq] at hg;exact (Mk.qdp_ _ _ _).trans hg.1) (by
    rw[Bool.and_eq_true,Bool.not_eq_true'] at hg;exact (Mk.qdp_ _ _ _).trans hg.2) 0
   clear hg;go_wp2_with (first|(with_reducible refine qce_ rfl _ rfl _ rfl _ _ a2 ?_))
   go_end0
   exact ⟨rfl,b1,a4.trans (Kp.gb b2 fun k hk=>(Option.some.inj hk).symm) fun i hi _=>hi⟩
theorem qabl_ (mb mg k:Nat) (q:Option Addr) (S:Mk.St) (hk:k<1000) (t:Nat) (ht:(if S.said k=2 then 0 else S.said k)=t) (w:World) (hm:Has w mb (mkA q mg) 124) (hM:MapN w mg S) :
  Cl_ 88 #[pp_ mb,i_ k] w fun e w'=>e = .returned (.tuple #[])/\MapN w' mg (putS S k t false)/\Kp (fun i=>i=mg) w w':=by
 have hlk:(Instr.lookup 122 (.map (some mg)) (i_ k) false).run Tryz.prog w = .ok (.agg #[i_ (S.said k:Int),.bool (S.out k)]) w:=hM.look hk w rfl;have c1:w.cell? ⟨mb,1,none⟩=some (.map (some mg)):=Has.cell hm 1;generalize hs:S.said k=s at *;generalize S.out k=o at *;clear hs;go_enter Tryz.func88,Tryz.ntmps88;go_upto_region 1 with fail
 generalize hw2:World.alloc _ _=v2;have hN:Has v2 w.heap.size (noteA s o) 121:=by rw[<-hw2];exact Has.new _ _
 have hb2:Bl w v2:=bl_ hw2;have hbn:mb<w.heap.size:=hm.lt;have hgn:=hM.lt;obtain ⟨bn,e⟩:∃ bn,bn=w.heap.size:=⟨_,rfl⟩;rw[<-e] at hN |-;have HBn:Hid (w.heap.size<=bn):=h_ (by omega);clear hw2 hlk c1 e;have d0:v2.cell? ⟨bn,1,none⟩=some (.bool o):=Has.cell hN 1;have f0:=hN.free 1;go_upto_region 2 with fail
 have hN3:Has (v2.setCell ⟨bn,1,none⟩ (.bool false)) bn (noteA s false) 121:=Has.set (i:=1) hN _;have hb3:=hb2.setCell (p:=⟨bn,1,none⟩) HBn.out (.bool false);clear d0 f0 hN hb2;generalize World.setCell _ _ _=v3 at *;have d0:v3.cell? ⟨bn,0,none⟩=some (i_ s):=Has.cell hN3 0;have f0:=hN3.free 0
 have fin:∀ v4:World,Bl w v4->∀ t:Nat,Cl_ 87 #[pp_ mb,i_ k,.agg #[i_ t,.bool false]] v4 fun e w'=>e = .returned (.tuple #[])/\MapN w' mg (putS S k t false)/\Kp (fun i=>i=mg) w w':=fun v4 hb t=>by
  refine (put_w mb mg k t false q S hk v4 (qd_ hb hm hbn) (hM.on (hb.block mg hgn))).mono ?_;rintro e w' ⟨rfl,h1,h2⟩;exact ⟨rfl,h1,(Kp.of hb).trans h2 fun i hi _=>hi⟩
 have FIN:=h_ fin;have HB3:=h_ hb3;clear fin hb3 hm hM hbn hgn;by_cases hs:s=2
 ·obtain rfl:0=t:=by rw[<-ht,if_pos hs]
  have h1:((s:Int)==2)=true:=by rw[hs];rfl
  have h3:Has (v3.setCell ⟨bn,0,none⟩ (i_ 0)) bn (noteA 0 false) 121:=Has.set (i:=0) hN3 _;have hb4:=HB3.out.setCell (p:=⟨bn,0,none⟩) HBn.out (i_ 0);have FIN4:=FIN.out _ hb4 0;clear hs ht hN3 hb4;go_wp2_with (first|(with_reducible refine qce_ rfl _ rfl _ rfl _ _ h3 ?_))
  refine FIN4.mono ?_;rintro e w' ⟨rfl,h5,h6⟩;go_wp2_with fail
  go_end0
  exact ⟨rfl,h5,h6⟩
 ·obtain rfl:s=t:=by rw[<-ht,if_neg hs]
  have h1:((s:Int)==2)=false:=by simpa using fun h=>hs (by omega)
  have FIN4:=FIN.out _ HB3.out s;clear hs ht;go_wp2_with (first|(with_reducible refine qce_ rfl _ rfl _ rfl _ _ hN3 ?_))
  refine FIN4.mono ?_;rintro e w' ⟨rfl,h5,h6⟩;go_wp2_with fail
  go_end0
  exact ⟨rfl,h5,h6⟩
end Go.Proofs.YtkbjaadjnbgfbaaGreatDoor.An
namespace Go.Proofs.YtkbjaadjnbgfbaaGreatDoor.An
open Go.RowKit Mem Sc
open Ar (Ent Ru entZ Ok isP Row Anc)
open Mk (failB childB validB pb verdict inval recon chg word itself)
theorem RfS.list16 {w:World} {B bm:Nat} {F:Nat->Prop} {r:Ru} {M:List Ent} (h:RfS w B F bm r M):∃ a c,w.cell? ⟨bm,83,none⟩=some (.slice a M.length c):=by
 obtain ⟨_,_,_,p,t,vH,vI,vA,vW,ws,h3,_⟩:=h;have rH:=h3.rowH;have c:=rf83 h3.has h3.pok;rcases Nat.eq_zero_or_pos (M.map (Ent.h r.g)).length with e|e
 ·obtain ⟨a1,hh⟩:=rH;rcases hh with ⟨hh,_⟩|⟨g,c',cs,hh,_⟩
  subst hh;exact ⟨none,0,by rw[c];rw[List.length_map] at e;rw[e]⟩;subst hh;exact ⟨_,c',by rw[c,List.length_map]⟩
 obtain ⟨g,c',rfl⟩:=qbv_ rH e;exact ⟨_,c',by rw[c,List.length_map]⟩
theorem qabm_ (bm n c:Nat) (a:Option Addr) (x:Int) (z:Int) (hz:chg n x=z) (w:World) (hv:w.cell? ⟨bm,83,none⟩=some (.slice a n c)) :
  Ca_ 81 #[pp_ bm,i_ x] w (i_ z):=by
 have hB:=Below.refl w.heap.size w;have HZ:=h_ hz;clear hz;by_cases h0:x<0
 ·have t1:decide (x<0)=true:=decide_eq_true h0;obtain rfl:5=z:=by rw[<-HZ.out];unfold chg;rw[if_neg (by omega)]
  clear h0;go_enter Tryz.func81,Tryz.ntmps81;go_wp2_with fail
  go_ret;exact ⟨rfl,hB⟩
 ·have t1:decide (x<0)=false:=decide_eq_false h0;obtain ⟨k,rfl⟩:=Int.eq_ofNat_of_zero_le (by omega:0<=x);clear h0;by_cases h1:n<=k
  ·obtain rfl:5=z:=by rw[<-HZ.out];unfold chg;rw[if_neg (by omega)]
   go_enter Tryz.func81,Tryz.ntmps81;go_wp2_with fail
   go_ret;exact ⟨rfl,hB⟩
  ·by_cases h2:k=0
   ·have t3:((k:Int)==0)=true:=(by rw[h2];rfl);obtain rfl:1=z:=(by rw[<-HZ.out];unfold chg;rw[if_pos (by omega),if_pos (by omega)]);clear h2;go_enter Tryz.func81,Tryz.ntmps81;(go_wp2_with fail);go_ret;exact ⟨rfl,hB⟩
   ·have t3:((k:Int)==0)=false:=by simpa using fun h=>h2 (by omega)
    obtain rfl:0=z:=(by rw[<-HZ.out];unfold chg;rw[if_pos (by omega),if_neg (by omega)]);clear h2;go_enter Tryz.func81,Tryz.ntmps81;(go_wp2_with fail);go_ret;exact ⟨rfl,hB⟩
variable {L:List Int} {p:Int->Bool} {k n:Nat} {z:Int}
theorem any_hit (hz:L[k]?=some z) (hp:p z=true):L.any p=true:=List.any_eq_true.2 ⟨z,List.mem_of_getElem? hz,hp⟩
theorem qajf_ (hn:n=L.length) (h:∀ k z,k<n->L[k]?=some z->p z=false):L.any p=false:=List.any_eq_false.2 fun z hz=>by
 obtain ⟨k,hk⟩:=List.mem_iff_getElem?.1 hz;rw[h k z (by rw[hn];exact (List.getElem?_eq_some_iff.1 hk).1) hk];simp
theorem ron_w (bm:Nat) (x y:Int) (L:List Int) (n:Nat) (hn:n=L.length) (hpos:0<n) (hn9:n<=1000) (w:World) (KP:HB_ w fun w'=>Cl_ 66 #[pp_ bm,i_ y] w' fun e w''=>∃ v,e = .returned v/\w''.ownsRow w'.heap.size 3 1 v n (L.map (Value.int .i64))/\Bl w' w'') :
  Ca_ 82 #[pp_ bm,i_ x,i_ y] w (.bool (L.any fun z=>z==x)):=by
 have HN:=h_ hn;clear hn;have hB:=Below.refl w.heap.size w;go_enter Tryz.func82,Tryz.ntmps82;go_wp2_with fail
 refine (KP.out _ hB).mono ?_;rintro e v1 ⟨v,rfl,hv,hb⟩;obtain ⟨g,c,rfl⟩:=qbv_ hv hpos;replace hB:=tb_ hB hb;have HV:=h_ hv;clear hb hv KP;go_wp2_with fail
 go_loopw [13] (fun s13 wr=>∃ k:Nat,k<=n/\s13 = i_ k/\wr=v1/\Hid (∀j z,j<k->L[j]?=some z->(z==x)=false)) (fun s13 _=>n - (intOf s13).toNat)
 case atStart=>exact ⟨0,Nat.zero_le _,rfl,rfl,h_ fun j z hj=>by omega⟩
 case round=>
  obtain ⟨k,hk,rfl,rfl,HX⟩:=hrel;by_cases hlt:k<n
  ·obtain ⟨z,hz⟩:∃ z,L[k]?=some z:=⟨_,List.getElem?_eq_getElem (by rw[<-HN.out];exact hlt)⟩;obtain ⟨g2,c2,e2,hc⟩:=qfh_ HV.out hz;cases e2;have HZ:=h_ hz;clear hz;cases h1:(z==x)
   ·have HX2:Hid (∀j z,j<k+1->L[j]?=some z->(z==x)=false):=h_ fun j u hj hu=>by
     by_cases e:j=k;subst e;rw[HZ.out] at hu;cases hu;exact h1;exact HX.out j u (by omega) hu
    (go_wp2_with fail);go_roundw
    case rel=>exact ⟨k+1,by omega,by go_num,by trivial,HX2⟩
    case measure=>simp[intOf];omega
   ·have hr:=h_ (any_hit (p:=fun z=>z==x) HZ.out h1);(go_wp2_with fail);go_ret;exact ⟨by rw[hr.out];rfl,hB⟩
  ·obtain rfl:k=n:=by omega
   have hr:=h_ (qajf_ (p:=fun z=>z==x) HN.out HX.out);go_wp2_with fail
   go_ret;exact ⟨by rw[hr.out];rfl,hB⟩
theorem qabn_ (rb bm n c:Nat) (a:Option Addr) (x:Int) (hx:¬(0<=x/\x<(n:Int))) (w:World) (hv:w.cell? ⟨bm,83,none⟩=some (.slice a n c)) :
  Ca_ 30 #[pp_ rb,pp_ bm,i_ x] w (.bool false):=by
 have hB:=Below.refl w.heap.size w;by_cases h0:x<0
 ·have t1:decide (x<0)=true:=decide_eq_true h0;clear h0 hx;go_enter Tryz.func30,Tryz.ntmps30;go_wp2_with fail
  go_ret;exact ⟨rfl,hB⟩
 ·have t1:decide (x<0)=false:=decide_eq_false h0;obtain ⟨k,rfl⟩:=Int.eq_ofNat_of_zero_le (by omega:0<=x);have h1:n<=k:=by omega
  clear h0 hx;go_enter Tryz.func30,Tryz.ntmps30;go_wp2_with fail
  go_ret;exact ⟨rfl,hB⟩
theorem qajg_ (hz:L[k]?=some z) (hp:p z=false):L.all p=false:=List.all_eq_false.2 ⟨z,List.mem_of_getElem? hz,by rw[hp];simp⟩
theorem all_hit (hn:n=L.length) (h:∀ k z,k<n->L[k]?=some z->p z=true):L.all p=true:=List.all_eq_true.2 fun z hz=>by
 obtain ⟨k,hk⟩:=List.mem_iff_getElem?.1 hz;exact h k z (by rw[hn];exact (List.getElem?_eq_some_iff.1 hk).1) hk
theorem qwu_ (rb bm m cm i:Nat) (am:Option Addr) (S:Mk.St) (hi:i<m) (L:List Int) (HL:Hid (∀(k:Nat) z,L[k]?=some z->∃ j:Nat,z=(j:Int)/\j<600)) (n:Nat) (hn:n=L.length) (hpos:0<n) (hn9:n<=1000) (w:World) (hv:w.cell? ⟨bm,83,none⟩=some (.slice am m cm)) (KP:HB_ w fun w'=>Cl_ 66 #[pp_ bm,i_ i] w' fun e w''=>∃ v,e = .returned v/\w''.ownsRow w'.heap.size 3 1 v n (L.map (Value.int .i64))/\Bl w' w'') (HS:HB_ w fun w'=>RkS w' rb S) :
  Ca_ 30 #[pp_ rb,pp_ bm,i_ i] w (.bool (L.all fun z=>S.said z.toNat==1 && !S.out z.toNat)):=by
 have HN:=h_ hn;have t1:decide ((i:Int)<0)=false:=decide_eq_false (by omega);have h1:¬m<=i:=by omega
 clear hn;have hB:=Below.refl w.heap.size w;go_enter Tryz.func30,Tryz.ntmps30;go_wp2_with fail
 refine (KP.out _ hB).mono ?_;rintro e v1 ⟨v,rfl,hv,hb⟩;obtain ⟨g,c,rfl⟩:=qbv_ hv hpos;replace hB:=tb_ hB hb;have HV:=h_ hv;clear hb hv KP;go_wp2_with fail
 have hS:=HS.out _ hB;clear HS;go_loopw [24] (fun s24 wr=>∃ k:Nat,k<=n/\s24 = i_ k/\wr=v1/\Hid (∀j z,j<k->L[j]?=some z->(S.said z.toNat==1 && !S.out z.toNat)=true)) (fun s24 _=>n - (intOf s24).toNat)
 case atStart=>exact ⟨0,Nat.zero_le _,rfl,rfl,h_ fun j z hj=>by omega⟩
 case round=>
  obtain ⟨k,hk,rfl,rfl,HX⟩:=hrel;by_cases hlt:k<n
  ·obtain ⟨z,hz⟩:∃ z,L[k]?=some z:=⟨_,List.getElem?_eq_getElem (by rw[<-HN.out];exact hlt)⟩;obtain ⟨g2,c2,e2,hc⟩:=qfh_ HV.out hz;cases e2;obtain ⟨u,rfl,hu⟩:=HL.out k z hz;have HZ:=h_ hz;clear hz;have c1:=hS.out hu;have c2:=hS.said hu;have h6:(600:Nat)+u<1200:=by omega
   generalize hs:S.said u=s at *;generalize ho:S.out u=o at *;have HSO:Hid (S.said u=s/\S.out u=o):=h_ ⟨hs,ho⟩;clear hs ho;have HALL:Hid ((s==1 && !o)=false->(L.all fun z=>S.said z.toNat==1 && !S.out z.toNat)=false):=h_ fun hh=>qajg_ HZ.out (by rw[Int.toNat_natCast,HSO.out.1,HSO.out.2];exact hh)
   have HX2:Hid ((s==1 && !o)=true->∀ j z,j<k+1->L[j]?=some z->(S.said z.toNat==1 && !S.out z.toNat)=true):=h_ fun hf j u2 hj hu2=>by
    by_cases e:j=k;subst e;rw[HZ.out] at hu2;cases hu2;rw[Int.toNat_natCast,HSO.out.1,HSO.out.2];exact hf;exact HX.out j u2 (by omega) hu2
   by_cases hs1:s=1
   ·have h2:((s:Int) != 1)=false:=(by rw[hs1];rfl);have HS1:=h_ hs1;clear hs1;cases o
    ·have HX3:=h_ (HX2.out (by rw[HS1.out];rfl));clear HALL HX2;(go_wp2_with fail);go_roundw
     case rel=>exact ⟨k+1,by omega,by go_num,by trivial,HX3⟩
     case measure=>simp[intOf];omega
    ·have hr:=h_ (HALL.out (by simp));clear HALL HX2;(go_wp2_with fail);go_ret;exact ⟨by rw[hr.out];rfl,hB⟩
   ·have h2:((s:Int) != 1)=true:=by simpa using fun h=>hs1 (by omega)
    have hr:=h_ (HALL.out (by simp[hs1]));clear HALL HX2 hs1;(go_wp2_with fail);go_ret;exact ⟨by rw[hr.out];rfl,hB⟩
  ·obtain rfl:k=n:=by omega
   have hr:=h_ (all_hit (p:=fun z=>S.said z.toNat==1 && !S.out z.toNat) HN.out HX.out);go_wp2_with fail
   go_ret;exact ⟨by rw[hr.out];rfl,hB⟩
end Go.Proofs.YtkbjaadjnbgfbaaGreatDoor.An
