import Derived.Test.YtkbjaadjnbgfbaaGreatDoorBIda
import Derived.Test.YtkbjaadjnbgfbaaGreatDoorBIdm
import Derived.Test.YtkbjaadjnbgfbaaGreatDoorBIdq
import Derived.WalkSpells
import Derived.WalkLawsBesides
import Derived.Lib.LazyBuf
import Derived.Lib.BufferWrite
import Derived.BigQuiet
import Derived.Deep.RegionHeld3
import Derived.Stop.BytesEq
import Derived.Deep.DeepCutAuto
import Derived.Lib.QuietBelow
import Derived.StillTailTactics
import Derived.Test.YtkbjaadjnbgfbaaGreatDoorBBunQ19
import Derived.Test.YtkbjaadjnbgfbaaGreatDoorRows
set_option maxRecDepth 100000
set_option maxHeartbeats 4000000
namespace Go.Proofs.YtkbjaadjnbgfbaaGreatDoor
open Go.RowKit
namespace NN
def aw(f:Nat->Nat):Array Value:=#[ay (f 0:Nat),ay (f 1:Nat),ay (f 2:Nat),ay (f 3:Nat)]
def aa(x:Nat):Array Value:=aw (Nm.wd x)
def Has(w:World)(b:Nat)(cs:Array Value)(t:TypeId):Prop:=w.heap[b]?=some (.cells cs t (0,0))
variable{w w':World}
variable{b:Nat}{cs:Array Value}{t:TypeId}
theorem Has.out(h:Has w b cs t):w.heap[b]?=some (.cells cs t (0,0)):=h
theorem Has.cell(h:Has w b cs t)(j:Nat):w.cell? ⟨b,j,none⟩=cs[j]?:=cell_of_row w b j cs t (0,0) h
theorem FK(f:Nat->Nat){j:Nat}(h:j<4):(aw f)[j]?=some (ay (f j:Nat)):=by rcases Nm.four h with rfl|rfl|rfl|rfl<;>rfl
variable{f:Nat->Nat}
theorem Has.word(h:Has w b (aw f) t){j:Nat}(hj:j<4):w.cell? ⟨b,j,none⟩=some (ay (f j:Nat)):=(h.cell j).trans (FK f hj)
theorem Has.free(h:Has w b cs t)(j:Nat):w.frozen? ⟨b,j,none⟩=false:=frozen_of_row w b j cs t h
theorem Has.lt(h:Has w b cs t):b<w.heap.size:=by unfold Has at h;by_cases hb:b<w.heap.size;exact hb;simp[Array.getElem?_eq_none (by omega:w.heap.size<=b)]at h
theorem Has.drew(h:Has w b cs t):Has w.drew b cs t:=h
theorem Has.alloc(h:Has w b cs t)(o:Obj):Has (w.alloc o) b cs t:=(heap_alloc_old w o h.lt).trans h
theorem Has.new(cs:Array Value)(t:TypeId):Has (w.alloc (.cells cs t)) w.heap.size cs t:=heap_alloc_new w _
theorem Has.set{i:Nat}(h:Has w b cs t)(v:Value):Has (w.setCell ⟨b,i,none⟩ v) b (cs.setIfInBounds i v) t:=heap_setCell_same w b i cs t v h
theorem Has.other(h:Has w b cs t)(a:Addr)(v:Value)(ha:b≠a.block):Has (w.setCell a v) b cs t:=(heap_setCell_other w a b v ha).trans h
theorem Has.row(h:Has w b cs t)(cs':Array Value):Has (w.setRow b cs') b cs' t:=setRow_heap w b cs cs' t (0,0) h
theorem Has.R1(h:Has w b cs t)(g:Nat)(cs':Array Value)(ha:b≠g):Has (w.setRow g cs') b cs t:=(setRow_other w g b cs' ha).trans h
theorem Has.below{B:Nat}(h:Has w b cs t)(hb:Below B w w')(hB:b<B):Has w' b cs t:=(hb.block b hB).trans h
theorem Has.on(h:Has w b cs t)(hb:Bl w w'):Has w' b cs t:=h.below hb h.lt
def bY(f:Nat->Nat)(i:Nat)(x:Nat):Nat->Nat:=fun j=>if j=i then x else f j
theorem nX(f:Nat->Nat)(i x:Nat)(hi:i<4):(aw f).setIfInBounds i (ay (x:Nat))=aw (bY f i x):=by rcases Nm.four hi with rfl|rfl|rfl|rfl<;>rfl
theorem pc{g:Nat->Nat}(h:∀j,j<4->f j=g j):aw f=aw g:=by unfold aw;rw[h 0 (by omega),h 1 (by omega),h 2 (by omega),h 3 (by omega)]
theorem fU(x:Nat):(aa x).size=4:=rfl
theorem Rv(f:Nat->Nat):(aw f).all (·.oneCell')=true:=by simp[aw,Value.oneCell']
theorem Di(x:Nat):(aa x).all (·.oneCell')=true:=Rv _
theorem BG(x:Nat){j:Nat}(h:j<4):(aa x)[j]?=some (ay (Nm.wd x j:Nat)):=FK _ h
theorem Has.num{x:Nat}(h:Has w b (aa x) t){j:Nat}(hj:j<4):w.cell? ⟨b,j,none⟩=some (ay (Nm.wd x j:Nat)):=(h.cell j).trans (BG x hj)
theorem Has.R6(o:Obj)(cs:Array Value)(t:TypeId):Has ((w.alloc o).alloc (.cells cs t)) (w.heap.size+1) cs t:=by have:=Has.new (w:=w.alloc o) cs t;rwa[World.size_alloc]at this
theorem Has.Sw(o o':Obj)(cs:Array Value)(t:TypeId):Has (((w.alloc o).alloc o').alloc (.cells cs t)) (w.heap.size+1+1) cs t:=by have:=Has.new (w:=(w.alloc o).alloc o') cs t;rwa[World.size_alloc,World.size_alloc]at this
theorem Has.W_(o o' o'':Obj)(cs:Array Value)(t:TypeId):Has ((((w.alloc o).alloc o').alloc o'').alloc (.cells cs t)) (w.heap.size+1+1+1) cs t:=by have:=Has.new (w:=((w.alloc o).alloc o').alloc o'') cs t;rwa[World.size_alloc,World.size_alloc,World.size_alloc]at this
theorem fN:(#[ay 0,ay 0,ay 0,ay 0]:Array Value)=aa 0:=rfl
theorem Has.R2(t:TypeId):Has (w.alloc (.cells #[ay 0,ay 0,ay 0,ay 0] t)) w.heap.size (aa 0) t:=Has.new (aa 0) t
theorem cy:(Tryz.prog.info? 26).map (·.size)=some 4:=by kernel_rfl
section
variable{ops:Array Oper}{rest:List Oper}{o:Oper}{a:Act}{Q:Exit->Act->World->Prop}
theorem aK(hgd:o.guard=none)(x:Operand)(ho:o.op=.load 26 x)(g:Nat)(hx:a.eval x=af g)(cs:Array Value)(hg:Has w g cs 26)(hs:cs.size=4)(h:wpList Tryz.prog ops Q rest (a.put o.dst (.agg cs)) w):wpList Tryz.prog ops Q (o::rest) a w:=
 wpList_load_row hgd 26 x ho g hx 26 cs (0,0) _ hg.out Tryz.underlying26 rfl (cy.trans (by rw[hs])) h
theorem bg(hgd:o.guard=none)(x y:Operand)(ho:o.op=.store 26 x y)(g:Nat)(z:Nat)(hx:a.eval x=af g)(hy:a.eval y=.agg (aa z))(cs:Array Value)(hg:Has w g cs 26)(hs:cs.size=4)(h:wpList Tryz.prog ops Q rest (a.put o.dst undef) (w.setRow g (aa z))):wpList Tryz.prog ops Q (o::rest) a w:=
 wpList_store_row hgd 26 x y ho g (aa z) hx hy 26 cs hg.out cy hs (Di z) h
end
variable{fn:Func}{p:Tmp}
theorem fw(h:fn.results=#[.cell p 26])(tmps:Array Value)(g x:Nat)(hp:tmps.getD p undef=af g)(hg:Has w g (aa x) 26):(results fn tmps).run Tryz.prog w=.ok (.agg (aa x)) w:=
 results_cell_row h tmps w g 26 (aa x) (0,0) _ hp hg.out Tryz.underlying26 rfl cy
theorem iT{u:Tmp}(h:fn.results=#[.cell p 26,.tmp u])(tmps:Array Value)(g x:Nat)(v:Value)(hp:tmps.getD p undef=af g)(hv:tmps.getD u undef=v)(hg:Has w g (aa x) 26):(results fn tmps).run Tryz.prog w=.ok (.tuple #[.agg (aa x),v]) w:=by rw[results_cell_tmp h,hp,hv];have hl:(loadVar 26 ⟨g,0,none⟩).run Tryz.prog w=.ok (.agg (aa x)) w:=run_loadVar_row w g 26 26 (aa x) (0,0) _ hg.out Tryz.underlying26 rfl cy;simp[asAddr,hl,Result.andThen]
variable{b A B R O x y:Nat}{cs:Array Value}{t:TypeId}
theorem Has.U7(h:Has w b cs t)(d:Nat)(os:Array Obj):Has (Sort.grow (redrawn w d) os) b cs t:=h.on (below_regrown w d os)
theorem Has.cls(h:Has w b cs t):∀w',(∃p:Regrown,w'=Sort.grow (redrawn w p.d) p.os)->Has w' b cs t:=by rintro w' ⟨p,rfl⟩;exact h.U7 _ _
theorem og{C:World->Prop}{a:Act}{o:Oper}{K:Act->Prop}(x:Operand)(ho:o.op=.load 26 x)(g:Nat)(hx:a.eval x=af g)(z:Nat)(hC:∀w',C w'->Has w' g (aa z) 26)(hk:K (a.put o.dst (.agg (aa z)))):o.quiet Tryz.prog a C K:=
 ⟨_,fun w' hw'=>by
  unfold Oper.quietAt;have hl:(loadVar 26 ⟨g,0,none⟩).run Tryz.prog w'=.ok (.agg (aa z)) w':=run_loadVar_row w' g 26 26 (aa z) (0,0) _ (hC w' hw').out Tryz.underlying26 rfl cy
  have:(execOp a.eval o).run Tryz.prog w'=.ok (.value (.agg (aa z))) w':=by
   unfold execOp;simp only[ho,hx,Instr.loadAt,Instr.sureAddr,Sem.run_bind,Sem.run_pure,Result.andThen_ok,hl]
  rw[this];exact⟨rfl,rfl⟩,hk⟩
structure Acc (w wr:World) (A B R O x y:Nat) (cs:Array Value):Prop where
 below:Bl w wr
 a:Has wr A (aa x) 26
 b:Has wr B (aa y) 26
 r:Has wr R (aa 0) 26
 o:Has wr O cs 26
variable{wr:World}
theorem Acc.on{w w':World}(h:Acc w wr A B R O x y cs)(hb:Bl wr w'):Acc w w' A B R O x y cs:=⟨ah h.below hb,h.a.on hb,h.b.on hb,h.r.on hb,h.o.on hb⟩
theorem Acc.drew{w:World}(h:Acc w wr A B R O x y cs):Acc w wr.drew A B R O x y cs:=h.on bf.drew
theorem Acc.put{w:World}(h:Acc w wr A B R O x y cs)(cs':Array Value)(hA:A≠O)(hB:B≠O)(hR:R≠O)(hO:w.heap.size<=O):Acc w (wr.setRow O cs') A B R O x y cs':=⟨below_setRow h.below hO _,h.a.R1 _ _ hA,h.b.R1 _ _ hB,h.r.R1 _ _ hR,h.o.row _⟩
theorem Acc.set{w:World}(h:Acc w wr A B R O x y cs)(i:Nat)(v:Value)(hA:A≠O)(hB:B≠O)(hR:R≠O)(hO:w.heap.size<=O):Acc w (wr.setCell ⟨O,i,none⟩ v) A B R O x y (cs.setIfInBounds i v):=⟨h.below.setCell hO _,h.a.other _ _ hA,h.b.other _ _ hB,h.r.other _ _ hR,h.o.set _⟩
theorem Acc.start(w:World)(x y:Nat)(cs:Array Value):Acc w ((((w.alloc (.cells (aa x) 26)).alloc (.cells (aa y) 26)).alloc (.cells (aa 0) 26)).alloc (.cells cs 26)) w.heap.size (w.heap.size+1) (w.heap.size+1+1) (w.heap.size+1+1+1) x y cs:=⟨((aY.alloc (by simp) _).alloc (by simp;omega) _).alloc (by simp;omega) _,(((Has.new _ _).alloc _).alloc _).alloc _,((Has.R6 _ _ _).alloc _).alloc _,(Has.Sw _ _ _ _).alloc _,Has.W_ _ _ _ _ _⟩
variable{g:Nat->Nat}
theorem Acc.R9{w:World}(h:Acc w wr A B R O x y (aw g))(i v:Nat)(hi:i<4)(hA:A≠O)(hB:B≠O)(hR:R≠O)(hO:w.heap.size<=O):Acc w (wr.setCell ⟨O,i,none⟩ (ay (v:Nat))) A B R O x y (aw (bY g i v)):=by rw[<-nX g i v hi];exact h.set i _ hA hB hR hO
theorem wP{k:Nat}{f:Nat->Nat}(h:Hid (∀j,j<k->g j=f j)):Hid (∀j,j<k+1->bY g k (f k) j=f j):=h_ fun j hj=>by
 unfold bY;split
 ·rename_i e;rw[e]
 exact h.out j (by omega)
theorem ko(h:Hid (∀j,j<4->g j=Nm.wd x j)):aw g=aa x:=pc h.out
theorem BA(x:Nat):aa (x%Nm.ai)=aa x:=pc fun _ hj=>Nm.A4 x hj
end NN
namespace NN
theorem Oq(x i:Nat):wrap64 ((((Nm.wd x (i/64):Nat):Int)/2^(i%64)).tmod 2)=(Nm.bit x i:Nat):=by
 have e:((Nm.wd x (i/64):Nat):Int)/2^(i%64)=((Nm.wd x (i/64)/2^(i%64):Nat):Int):=by simp
 rw[e,<-Nm.Bq];generalize Nm.wd x (i/64)/2^(i%64)=k;rw[Int.tmod_eq_emod_of_nonneg (by omega)];unfold wrap64;omega
theorem pS(x i:Nat)(hi:i<256)(w:World):ak 136 #[.agg (aa x),i_ i] w (i_ (Nm.bit x i:Nat)):=by
 have hH:Has (w.alloc (.cells (aa x) 26)) w.heap.size (aa x) 26:=Has.new _ _;have hc:=hH.num (j:=i/64) (by omega);have HB:=h_ (Oq x i);go_enter Tryz.func136,Tryz.ntmps136;go_wp2_with fail
 go_ret;exact⟨congrArg Ending.returned (by rw[HB.out];rfl),aY⟩
theorem Gy(m:Nat)(hm:m<64):IntKind.u64.wrap (2^m)=((2^m:Nat):Int):=by
 have h:((2:Int)^m)=((2^m:Nat):Int):=by simp
 have h2:2^m<2^64:=Nat.pow_lt_pow_right (by decide) hm;rw[h,IntKind.wrap_u64];generalize 2^m=k at h2;omega
theorem sZ(x y:Nat)(hx:x<18446744073709551616)(hy:y<18446744073709551616):bits .or .u64 (x:Int) (y:Int)=((x|||y:Nat):Int):=by have h:x|||y<2^64:=Nat.or_lt_two_pow hx hy;show IntKind.u64.wrap ((BitVec.ofInt 64 (x:Int)|||BitVec.ofInt 64 (y:Int)).toNat:Int)=_;rw[BitVec.ofInt_natCast,BitVec.ofInt_natCast,BitVec.toNat_or,BitVec.toNat_ofNat,BitVec.toNat_ofNat,Nat.mod_eq_of_lt hx,Nat.mod_eq_of_lt hy,IntKind.wrap_u64];omega
theorem yI(x i:Nat)(hi:i<256):(aa x).setIfInBounds (i/64) (ay (bits .or .u64 ((Nm.wd x (i/64):Nat):Int) (IntKind.u64.wrap (2^(i%64)))))=aa (x|||2^i):=by
 have hm:i%64<64:=Nat.mod_lt _ (by decide);have h2:2^(i%64)<2^64:=Nat.pow_lt_pow_right (by decide) hm;rw[Gy _ hm,sZ _ _ (Nm.dx _ _) (by simpa using h2)];unfold aa;rw[nX _ _ _ (by omega)];apply pc;intro j hj;rw[Nm.KJ x i j];unfold bY;split
 ·rename_i h;rw[h]
 rfl
theorem yH(x i:Nat)(hi:i<256)(w:World):ak 149 #[.agg (aa x),i_ i] w (.agg (aa (x|||2^i))):=by
 go_enter Tryz.func149,Tryz.ntmps149;go_upto_region 1 with fail
 generalize hw1:World.alloc _ _=w1;have hb:Bl w w1:=by rw[<-hw1];exact aY.alloc (by simp) _
 have hA:Has w1 w.heap.size (aa x) 26:=by rw[<-hw1];exact(Has.new _ _).alloc _
 have hR:Has w1 (w.heap.size+1) (aa 0) 26:=by rw[<-hw1];exact Has.R6 _ _ _
 clear hw1;have c1:=hA.num (j:=i/64) (by omega);have f1:=hA.free (i/64)
 have hA2:Has (w1.setCell ⟨w.heap.size,i/64,none⟩ (ay (bits .or .u64 ((Nm.wd x (i/64):Nat):Int) (IntKind.u64.wrap (2^(i%64)))))) w.heap.size (aa (x|||2^i)) 26:=by
  rw[<-yI x i hi];exact hA.set _
 have hR2:=hR.other ⟨w.heap.size,i/64,none⟩ (ay (bits .or .u64 ((Nm.wd x (i/64):Nat):Int) (IntKind.u64.wrap (2^(i%64))))) (by simp)
 go_wp2_with (first
  | (with_reducible refine aK rfl _ rfl _ rfl _ hA2 rfl ?_)
  | (with_reducible refine bg rfl _ _ rfl _ _ rfl rfl _ hR2 rfl ?_))
 exact bodyPost_ret (v:=.agg (aa (x|||2^i))) (fw Tryz.results149 _ _ _ rfl (hR2.row _)) rfl ⟨rfl,below_setRow (hb.setCell (by simp) _) (by omega) _⟩
theorem Acc.Ux(w:World)(x:Nat)(cs:Array Value):Acc w (((w.alloc (.cells (aa x) 26)).alloc (.cells (aa 0) 26)).alloc (.cells cs 26)) w.heap.size w.heap.size (w.heap.size+1) (w.heap.size+1+1) x x cs:=⟨(aY.alloc (by simp) _).alloc (by simp;omega) _,((Has.new _ _).alloc _).alloc _,((Has.new _ _).alloc _).alloc _,(Has.R6 _ _ _).alloc _,Has.Sw _ _ _ _⟩
structure jK (w wr:World) (A B x y:Nat):Prop where
 below:Bl w wr
 a:Has wr A (aa x) 26
 b:Has wr B (aa y) 26
variable{x n k:Nat}
theorem jK.on{w wr w':World}{A B y:Nat}(h:jK w wr A B x y)(hb:Bl wr w'):jK w w' A B x y:=⟨ah h.below hb,h.a.on hb,h.b.on hb⟩
theorem jK.start(w:World)(x y:Nat):jK w ((w.alloc (.cells (aa x) 26)).alloc (.cells (aa y) 26)) w.heap.size (w.heap.size+1) x y:=⟨aY.alloc (by simp) _,(Has.new _ _).alloc _,Has.R6 _ _ _⟩
theorem uj(a N:Nat):IntKind.u64.wrap ((a:Int)*2^N)=((a<<<N%18446744073709551616:Nat):Int):=by
 have e:(a:Int)*2^N=((a<<<N:Nat):Int):=by rw[Nat.shiftLeft_eq];simp
 rw[e,IntKind.wrap_u64];omega
theorem Gs(u b M:Nat)(hu:u<18446744073709551616)(hb:b<18446744073709551616):bits .or .u64 (u:Int) ((b:Int)/2^M)=((u|||b>>>M:Nat):Int):=by
 have e:(b:Int)/2^M=((b>>>M:Nat):Int):=by rw[Nat.shiftRight_eq_div_pow];simp
 rw[e,sZ u _ hu (by rw[Nat.shiftRight_eq_div_pow];exact Nat.lt_of_le_of_lt (Nat.div_le_self _ _) hb)]
theorem vw(g:Nat->Nat)(k a b:Nat):bY (bY g k a) k b=bY g k b:=by funext j;unfold bY;split<;>rfl
def dc(x n k:Nat)(g:Nat->Nat):Prop:=(∀j,k<j->j<4->g j=Nm.wd (Nm.up x n) j)/\∀j,j<=k->g j=0
variable{g:Nat->Nat}
theorem dc.next(h:Hid (dc x n k g))(hk:0<k):Hid (dc x n (k-1) (bY g k (Nm.wd (Nm.up x n) k))):=h_ ⟨fun j h1 h2=>by
  unfold bY;split
  ·rename_i e;rw[e]
  exact h.out.1 j (by omega) h2,fun j h1=>by
  unfold bY;rw[if_neg (by omega)];exact h.out.2 j (by omega)⟩
theorem dc.last(h:Hid (dc x n 0 g)):Hid (∀j,j<4->bY g 0 (Nm.wd (Nm.up x n) 0) j=Nm.wd (Nm.up x n) j):=h_ fun j h2=>by
  unfold bY;split
  ·rename_i e;rw[e]
  exact h.out.1 j (by omega) h2
theorem dc.done(h:Hid (dc x n k g))(hn:k<n/64):Hid (∀j,j<4->g j=Nm.wd (Nm.up x n) j):=h_ fun j h2=>by
  by_cases hj:k<j;exact h.out.1 j hj h2;rw[h.out.2 j (by omega),Nm.FM x n j h2 (by omega)]
theorem qq(x n:Nat)(hx:x<Nm.ai)(hn:0<n)(hm:n<=9223372036854775807)(w:World):ak 207 #[.agg (aa x),i_ n] w (.agg (aa (Nm.up x n))):=by
 go_enter Tryz.func207,Tryz.ntmps207;go_upto_region 1 with fail
 generalize hw1:World.alloc _ _=w1;have bj:Below w.heap.size w w1:=by rw[<-hw1];exact aY.alloc (by simp) _
 have hA:Has w1 w.heap.size (aa x) 26:=by rw[<-hw1];exact(Has.new _ _).alloc _
 have hR:Has w1 (w.heap.size+1) (aa 0) 26:=by rw[<-hw1];exact Has.R6 _ (aa 0) _
 clear hw1;go_wp2_with fail
 generalize hw2:World.alloc _ _=w2
 have h0:Acc w w2 w.heap.size w.heap.size (w.heap.size+1) w1.heap.size x x (aw fun _=>0):=by
  rw[<-hw2];exact⟨bj.alloc bj.size _,hA.alloc _,hA.alloc _,hR.alloc _,Has.new _ _⟩
 have hs:=bj.size;have hsR:=hR.lt;clear hw2 bj hA hR;generalize hB:w1.heap.size=O at*;generalize hC:w.heap.size+1=R at*;generalize hD:w.heap.size=A at*;have HO:Hid (w.heap.size<=O):=h_ (by omega);have HR:Hid (w.heap.size<=R):=h_ (by omega);have H1:Hid (A≠O):=h_ (by omega);have H3:Hid (R≠O):=h_ (by omega);clear hB hC hD hs hsR;obtain⟨F,hF⟩:∃F,F=n/64:=⟨_,rfl⟩;obtain⟨N,hN⟩:∃N,N=n%64:=⟨_,rfl⟩;have eF:(n:Int)/64=(F:Int):=by omega
 have eN:(n:Int)%64=(N:Int):=by omega
 rw[eF,eN];have hNl:N<64:=by omega
 have HF:=h_ hF;have HN:=h_ hN;have HX:=h_ hx;clear hF hN eF eN hm hx;go_loopw [8] (fun i wr=>∃g:Nat->Nat,Acc w wr A A R O x x (aw g)/\((∃k:Nat,k<=3/\i=i_ k/\Hid (dc x n k g))\/(i=i_ (-1)/\Hid (∀j,j<4->g j=Nm.wd (Nm.up x n) j)))) (fun i _=>(intOf i+1).toNat)
 case atStart=>exact⟨_,h0,.inl ⟨3,by omega,rfl,h_ ⟨fun j h1 h2=>by omega,fun _ _=>rfl⟩⟩⟩
 case round=>
  obtain⟨g,hs,⟨k,hk,rfl,HG⟩|⟨rfl,HG⟩⟩:=hrel
  ·by_cases hlt:F<k
   ·have hv:=Nm.oF x n k (by omega) (by rw[<-HF.out];exact hlt);rw[<-HF.out,<-HN.out]at hv;have c1:=hs.a.num (j:=k-F) (by omega);have c2:=hs.a.num (j:=k-F-1) (by omega);have co:=hs.o.word (j:=k) (by omega);have fo:=hs.o.free k;have HV:=h_ hv
    have hset:∀v1 v2:Nat,Acc w ((wr.setCell ⟨O,k,none⟩ (ay (v1:Nat))).setCell ⟨O,k,none⟩ (ay (v2:Nat))).drew A A R O x x (aw (bY g k v2)):=fun v1 v2=>by
     rw[<-vw g k v1 v2];exact((hs.R9 k v1 (by omega) H1.out H1.out H3.out HO.out).R9 k v2 (by omega) H1.out H1.out H3.out HO.out).drew
    have SO:=h_ hset;clear hv hset;obtain⟨rfl,rfl⟩|⟨rfl,rfl⟩|⟨rfl,rfl⟩|⟨rfl,rfl⟩|⟨rfl,rfl⟩|⟨rfl,rfl⟩:(F=0/\k=1)\/(F=0/\k=2)\/(F=0/\k=3)\/(F=1/\k=2)\/(F=1/\k=3)\/(F=2/\k=3):=by omega
    all_goals
     (go_wp2_with fail);go_region
     have e:=HV.out;simp only[Nat.reduceSub]at e;rw[uj,Gs _ _ _ (Nat.mod_lt _ (by decide)) (Nm.dx _ _),<-e];clear e c1 c2 co fo;(go_wp2_with fail);go_roundw
     case rel=>exact⟨_,SO.out _ _,.inl ⟨_,by decide,rfl,dc.next HG (by decide)⟩⟩
     case measure=>decide
   ·by_cases heq:F=k
    ·have hv:=Nm.C' x n k (by omega) (by rw[<-HF.out];exact heq);rw[<-HF.out,<-HN.out]at hv;have c1:=hs.a.num (j:=k-F) (by omega);have co:=hs.o.word (j:=k) (by omega);have fo:=hs.o.free k;have HV:=h_ hv;have hset:∀v:Nat,Acc w (wr.setCell ⟨O,k,none⟩ (ay (v:Nat))) A A R O x x (aw (bY g k v)):=fun v=>hs.R9 k v (by omega) H1.out H1.out H3.out HO.out
     have SO:=h_ hset;clear hv hset;obtain⟨rfl,rfl⟩|⟨rfl,rfl⟩|⟨rfl,rfl⟩|⟨rfl,rfl⟩:(F=0/\k=0)\/(F=1/\k=1)\/(F=2/\k=2)\/(F=3/\k=3):=by omega
     all_goals
      (go_wp2_with fail);have e:=HV.out;simp only[Nat.reduceSub]at e;rw[uj,<-e]
      first
       | exact⟨⟨_,SO.out _,.inl ⟨_,by decide,rfl,dc.next HG (by decide)⟩⟩,by decide⟩
       | exact⟨⟨_,SO.out _,.inr ⟨rfl,dc.last HG⟩⟩,by decide⟩
    ·have hlt2:k<F:=(by omega);have HD:=dc.done HG (by rw[<-HF.out];exact hlt2);have e:=ko HD;rw[e]at hs;clear e
     go_wp2_with (first
      | (with_reducible refine aK rfl _ rfl _ rfl _ hs.o rfl ?_)
      | (with_reducible refine bg rfl _ _ rfl _ _ rfl rfl _ hs.r rfl ?_))
     exact bodyPost_ret (v:=.agg (aa (Nm.up x n))) (fw Tryz.results207 _ _ _ rfl (hs.r.row _)) rfl ⟨rfl,below_setRow hs.below HR.out _⟩
  ·have e:=ko HG;rw[e]at hs;clear e
   go_wp2_with (first
    | (with_reducible refine aK rfl _ rfl _ rfl _ hs.o rfl ?_)
    | (with_reducible refine bg rfl _ _ rfl _ _ rfl rfl _ hs.r rfl ?_))
   exact bodyPost_ret (v:=.agg (aa (Nm.up x n))) (fw Tryz.results207 _ _ _ rfl (hs.r.row _)) rfl ⟨rfl,below_setRow hs.below HR.out _⟩
theorem zR(a b N M:Nat)(ha:a<18446744073709551616):bits .or .u64 ((a:Int)/2^N) (IntKind.u64.wrap ((b:Int)*2^M))=((a>>>N|||b<<<M%18446744073709551616:Nat):Int):=by
 have e:(a:Int)/2^N=((a>>>N:Nat):Int):=by rw[Nat.shiftRight_eq_div_pow];simp
 rw[e,uj,sZ _ _ (by rw[Nat.shiftRight_eq_div_pow];exact Nat.lt_of_le_of_lt (Nat.div_le_self _ _) ha) (Nat.mod_lt _ (by decide))]
theorem mG(a N:Nat):(a:Int)/2^N=((a>>>N:Nat):Int):=by rw[Nat.shiftRight_eq_div_pow];simp
def dV(x n k:Nat)(g:Nat->Nat):Prop:=(∀j,j<k->g j=Nm.wd (Nm.down x n) j)/\∀j,k<=j->g j=0
theorem dV.next(h:Hid (dV x n k g)):Hid (dV x n (k+1) (bY g k (Nm.wd (Nm.down x n) k))):=h_ ⟨fun j h1=>by
  unfold bY;split
  ·rename_i e;rw[e]
  exact h.out.1 j (by omega),fun j h1=>by
  unfold bY;rw[if_neg (by omega)];exact h.out.2 j (by omega)⟩
theorem dV.done(hx:x<Nm.ai)(h:Hid (dV x n k g))(hn:4<=k+n/64):Hid (∀j,j<4->g j=Nm.wd (Nm.down x n) j):=h_ fun j _=>by
  by_cases hj:j<k;exact h.out.1 j hj;rw[h.out.2 j (by omega),Nm.Hp hx n j (by omega)]
theorem E6(x n:Nat)(hx:x<Nm.ai)(hn:0<n)(hm:n<=9223372036854775807)(w:World):ak 206 #[.agg (aa x),i_ n] w (.agg (aa (Nm.down x n))):=by
 go_enter Tryz.func206,Tryz.ntmps206;go_upto_region 1 with fail
 generalize hw1:World.alloc _ _=w1;have bj:Below w.heap.size w w1:=by rw[<-hw1];exact aY.alloc (by simp) _
 have hA:Has w1 w.heap.size (aa x) 26:=by rw[<-hw1];exact(Has.new _ _).alloc _
 have hR:Has w1 (w.heap.size+1) (aa 0) 26:=by rw[<-hw1];exact Has.R6 _ (aa 0) _
 clear hw1;go_wp2_with fail
 generalize hw2:World.alloc _ _=w2
 have h0:Acc w w2 w.heap.size w.heap.size (w.heap.size+1) w1.heap.size x x (aw fun _=>0):=by
  rw[<-hw2];exact⟨bj.alloc bj.size _,hA.alloc _,hA.alloc _,hR.alloc _,Has.new _ _⟩
 have hs:=bj.size;have hsR:=hR.lt;clear hw2 bj hA hR;generalize hB:w1.heap.size=O at*;generalize hC:w.heap.size+1=R at*;generalize hD:w.heap.size=A at*;have HO:Hid (w.heap.size<=O):=h_ (by omega);have HR:Hid (w.heap.size<=R):=h_ (by omega);have H1:Hid (A≠O):=h_ (by omega);have H3:Hid (R≠O):=h_ (by omega);clear hB hC hD hs hsR;obtain⟨F,hF⟩:∃F,F=n/64:=⟨_,rfl⟩;obtain⟨N,hN⟩:∃N,N=n%64:=⟨_,rfl⟩;have eF:(n:Int)/64=(F:Int):=by omega
 have eN:(n:Int)%64=(N:Int):=by omega
 rw[eF,eN];have hNl:N<64:=by omega
 have hFl:F<=144115188075855872:=by omega
 have HF:=h_ hF;have HN:=h_ hN;have HX:=h_ hx;clear hF hN eF eN hm hx;go_loopw [8] (fun i wr=>∃(k:Nat)(g:Nat->Nat),k<=4/\i=i_ k/\Acc w wr A A R O x x (aw g)/\Hid (dV x n k g)) (fun i _=>4-(intOf i).toNat)
 case atStart=>exact⟨0,_,by omega,rfl,h0,h_ ⟨fun j h1=>by omega,fun _ _=>rfl⟩⟩
 case round=>
  obtain⟨k,g,hk,rfl,hs,HG⟩:=hrel;by_cases hlt:k+F+1<4
  ·have hv:=Nm.wI x n k;rw[<-HF.out,<-HN.out]at hv;have c1:=hs.a.num (j:=k+F) (by omega);have c2:=hs.a.num (j:=k+F+1) (by omega);have co:=hs.o.word (j:=k) (by omega);have fo:=hs.o.free k;have HV:=h_ hv
   have hset:∀v1 v2:Nat,Acc w ((wr.setCell ⟨O,k,none⟩ (ay (v1:Nat))).setCell ⟨O,k,none⟩ (ay (v2:Nat))).drew A A R O x x (aw (bY g k v2)):=fun v1 v2=>by
    rw[<-vw g k v1 v2];exact((hs.R9 k v1 (by omega) H1.out H1.out H3.out HO.out).R9 k v2 (by omega) H1.out H1.out H3.out HO.out).drew
   have SO:=h_ hset;clear hv hset;obtain⟨rfl,rfl⟩|⟨rfl,rfl⟩|⟨rfl,rfl⟩|⟨rfl,rfl⟩|⟨rfl,rfl⟩|⟨rfl,rfl⟩:(F=0/\k=0)\/(F=0/\k=1)\/(F=0/\k=2)\/(F=1/\k=0)\/(F=1/\k=1)\/(F=2/\k=0):=by omega
   all_goals
    (go_wp2_with fail);go_region
    have e:=HV.out;simp only[Nat.reduceAdd]at e;rw[zR _ _ _ _ (Nm.dx _ _),mG,<-e];clear e c1 c2 co fo;(go_wp2_with fail);go_roundw
    case rel=>exact⟨_,_,by decide,rfl,SO.out _ _,dV.next HG⟩
    case measure=>decide
  ·by_cases heq:k+F=3
   ·have hv:=Nm.Dm HX.out n k (by rw[<-HF.out];exact heq);rw[<-HF.out,<-HN.out]at hv;have c1:=hs.a.num (j:=k+F) (by omega);have co:=hs.o.word (j:=k) (by omega);have fo:=hs.o.free k;have HV:=h_ hv;have hset:∀v:Nat,Acc w (wr.setCell ⟨O,k,none⟩ (ay (v:Nat))) A A R O x x (aw (bY g k v)):=fun v=>hs.R9 k v (by omega) H1.out H1.out H3.out HO.out
    have SO:=h_ hset;clear hv hset;obtain⟨rfl,rfl⟩|⟨rfl,rfl⟩|⟨rfl,rfl⟩|⟨rfl,rfl⟩:(F=0/\k=3)\/(F=1/\k=2)\/(F=2/\k=1)\/(F=3/\k=0):=by omega
    all_goals
     (go_wp2_with fail);have e:=HV.out;simp only[Nat.reduceAdd]at e;rw[mG,<-e];exact⟨⟨_,_,by decide,rfl,SO.out _,dV.next HG⟩,by decide⟩
   ·have hge:4<=k+F:=(by omega);have HD:=dV.done HX.out HG (by rw[<-HF.out];exact hge);have e:=ko HD;rw[e]at hs;clear e
    go_wp2_with (first
     | (with_reducible refine aK rfl _ rfl _ rfl _ hs.o rfl ?_)
     | (with_reducible refine bg rfl _ _ rfl _ _ rfl rfl _ hs.r rfl ?_))
    exact bodyPost_ret (v:=.agg (aa (Nm.down x n))) (fw Tryz.results206 _ _ _ rfl (hs.r.row _)) rfl ⟨rfl,below_setRow hs.below HR.out _⟩
theorem rT(x:Nat)(n:Int)(hn:n<=0)(w:World):ak 207 #[.agg (aa x),i_ n] w (.agg (aa x)):=by
 go_enter Tryz.func207,Tryz.ntmps207;go_upto_region 1 with fail
 generalize hw1:World.alloc _ _=w1;have bj:Bl w w1:=by rw[<-hw1];exact aY.alloc (by simp) _
 have hA:Has w1 w.heap.size (aa x) 26:=by rw[<-hw1];exact(Has.new _ _).alloc _
 have hR:Has w1 (w.heap.size+1) (aa 0) 26:=by rw[<-hw1];exact Has.R6 _ (aa 0) _
 clear hw1
 go_wp2_with (first
  | (with_reducible refine aK rfl _ rfl _ rfl _ hA rfl ?_)
  | (with_reducible refine bg rfl _ _ rfl _ _ rfl rfl _ hR rfl ?_))
 exact bodyPost_ret (v:=.agg (aa x)) (fw Tryz.results207 _ _ _ rfl (hR.row _)) rfl ⟨rfl,below_setRow bj (by omega) _⟩
theorem J5:∀(xs ys:List Int),xs.length=ys.length->((List.range xs.length).all fun i=>xs.getD i 0==ys.getD i 0)=(xs==ys)
 | [],[],_=>rfl
 | x::xs,y::ys,h=>by
  have ih:=J5 xs ys (by simpa using h);rw[List.length_cons,List.range_succ_eq_map,List.all_cons,List.all_map];simp only[List.getD_cons_zero,Function.comp_def,List.getD_cons_succ,ih];simp[List.cons_beq_cons]
 | [],_::_,h=>by simp at h
 | _::_,[],h=>by simp at h
section
variable{P:Program}(w:World)
theorem IZ(d:Nat)(k:IntKind)(t e:TypeId)(n:Nat)(ht:P.underlying t=some (.array n e))(he:P.underlying e=some (.int k))(hsz:∀w,(sizeOf e).run P w=.ok 1 w)(xs ys:List Int)(hx:xs.length=n)(hy:ys.length=n):(Op.equalIn (d+2) t (.agg (xs.map (Value.int k)).toArray) (.agg (ys.map (Value.int k)).toArray)).run P w=.ok (xs==ys) w:=by
 rw[<-J5 xs ys (hx.trans hy.symm),hx,List.range_eq_range',Op.equalIn];simp only[Sem.run_bind,run_underlying ht,Result.andThen_ok,hsz,Std.Legacy.Range.forIn_eq_forIn_range',Std.Legacy.Range.size,Nat.sub_zero,Nat.add_sub_cancel,Nat.div_one];have hl:∀i∈List.range' 0 n 1,i<n:=fun i hi=>by simpa using(List.mem_range'_1.1 hi).2
 generalize List.range' 0 n 1=l at hl|-;induction l with
 | nil=>simp
 | cons i l ih=>
  have hi:i<n:=hl i (by simp)
  have px:(part e (xs.map (Value.int k)).toArray (i*1)).run P w=.ok (Value.int k (xs.getD i 0)) w:=by
   simp[part,isAgg,run_underlying he,List.getD,List.getElem?_eq_getElem (show i<xs.length by omega)]
  have py:(part e (ys.map (Value.int k)).toArray (i*1)).run P w=.ok (Value.int k (ys.getD i 0)) w:=by
   simp[part,isAgg,run_underlying he,List.getD,List.getElem?_eq_getElem (show i<ys.length by omega)]
  have pe:(Op.equalIn (d+1) e (Value.int k (xs.getD i 0)) (Value.int k (ys.getD i 0))).run P w=.ok (xs.getD i 0==ys.getD i 0) w :=
   run_equalIn_int w d e k k _ _ he
  simp only[List.forIn_cons,Sem.run_bind,px,py,pe,Result.andThen_ok,List.all_cons];cases hb:(xs.getD i 0==ys.getD i 0);simp;simp only[Bool.not_true,Bool.false_eq_true,if_false,Sem.run_pure,Result.andThen_ok,Bool.true_and];exact ih fun j hj=>hl j (by simp[hj])
theorem QL(k:IntKind)(t e:TypeId)(n:Nat)(ht:P.underlying t=some (.array n e))(he:P.underlying e=some (.int k))(hsz:∀w,(sizeOf e).run P w=.ok 1 w)(xs ys:List Int)(hx:xs.length=n)(hy:ys.length=n):(binOp .eql t (.agg (xs.map (Value.int k)).toArray) (.agg (ys.map (Value.int k)).toArray)).run P w=.ok (.bool (xs==ys)) w:=by rw[run_eql_struct,IZ w 9998 k t e n ht he hsz xs ys hx hy];rfl
theorem Pz(k:IntKind)(t e:TypeId)(n:Nat)(ht:P.underlying t=some (.array n e))(he:P.underlying e=some (.int k))(hsz:∀w,(sizeOf e).run P w=.ok 1 w)(xs ys:List Int)(hx:xs.length=n)(hy:ys.length=n):(binOp .neq t (.agg (xs.map (Value.int k)).toArray) (.agg (ys.map (Value.int k)).toArray)).run P w=.ok (.bool (!(xs==ys))) w:=by have h:(Op.equalIn Op.maxDepth t (.agg (xs.map (Value.int k)).toArray) (.agg (ys.map (Value.int k)).toArray)).run P w=.ok (xs==ys) w:=IZ w 9998 k t e n ht he hsz xs ys hx hy;simp only[binOp,Sem.run_bind,Op.equal,h,Result.andThen_ok,Sem.run_pure]
end
theorem mO(w:World):(sizeOf 24).run Tryz.prog w=.ok 1 w:=by kernel_rfl
def No(x:Nat):List Int:=[(Nm.wd x 0:Nat),(Nm.wd x 1:Nat),(Nm.wd x 2:Nat),(Nm.wd x 3:Nat)]
theorem w_(x:Nat):aa x=((No x).map (Value.int .u64)).toArray:=rfl
variable{x y A R O:Nat}
theorem qY(hx:x<Nm.ai)(hy:y<Nm.ai):(No x==No y)=decide (x=y):=by
 rw[Bool.eq_iff_iff,beq_iff_eq,decide_eq_true_iff];constructor
 ·intro h;simp only[No,List.cons.injEq,and_true,Int.ofNat_inj]at h;obtain⟨h0,h1,h2,h3⟩:=h;refine Nm.Ag hx hy fun i hi=>?_
  rcases Nm.four hi with rfl|rfl|rfl|rfl<;>assumption
 intro h;rw[h]
theorem rQ(hx:x<Nm.ai)(hy:y<Nm.ai)(w:World):(binOp .eql 26 (.agg (aa x)) (.agg (aa y))).run Tryz.prog w=.ok (.bool (decide (x=y))) w:=by rw[w_,w_,QL w .u64 26 24 4 Tryz.underlying26 Tryz.underlying24 mO _ _ rfl rfl,qY hx hy]
theorem tc(hx:x<Nm.ai)(hy:y<Nm.ai)(w:World):(binOp .neq 26 (.agg (aa x)) (.agg (aa y))).run Tryz.prog w=.ok (.bool (!decide (x=y))) w:=by rw[w_,w_,Pz w .u64 26 24 4 Tryz.underlying26 Tryz.underlying24 mO _ _ rfl rfl,qY hx hy]
theorem O':(#[ay 18446744073709551615,ay 18446744073709551615,ay 18446744073709551615,ay 18446744073709551615]:Array Value)=aa (Nm.ai-1):=by unfold aa aw;rw[show Nm.wd (Nm.ai-1) 0=18446744073709551615 by decide +kernel,show Nm.wd (Nm.ai-1) 1=18446744073709551615 by decide +kernel,show Nm.wd (Nm.ai-1) 2=18446744073709551615 by decide +kernel,show Nm.wd (Nm.ai-1) 3=18446744073709551615 by decide +kernel];rfl
theorem LR(n:Nat)(hn:n<18446744073709551616):(#[ay (n:Int),ay 0,ay 0,ay 0]:Array Value)=aa n:=by unfold aa aw;rw[Nm.mY,Nm.rr,Nm.pK,Nm.qW,Nat.mod_eq_of_lt hn,Nat.div_eq_of_lt hn,Nat.div_eq_of_lt (by omega),Nat.div_eq_of_lt (by omega)];rfl
theorem gT(w:World):ak 161 #[] w (.agg (aa (Nm.ai-1))):=by
 go_enter Tryz.func161,Tryz.ntmps161;go_wp2_with fail
 rw[O'];exact bodyPost_ret (v:=.agg (aa (Nm.ai-1))) (fw Tryz.results161 _ _ _ rfl (Has.new _ _)) rfl ⟨rfl,aY⟩
theorem of(n:Nat)(hn:n<18446744073709551616)(w:World):ak 187 #[ay (n:Int)] w (.agg (aa n)):=by
 go_enter Tryz.func187,Tryz.ntmps187;go_wp2_with fail
 rw[LR n hn];exact bodyPost_ret (v:=.agg (aa n)) (fw Tryz.results187 _ _ _ rfl (Has.new _ _)) rfl ⟨rfl,aY⟩
theorem zero(x:Nat)(hx:x<Nm.ai)(w:World):ak 163 #[.agg (aa x)] w (.bool (decide (x=0))):=by
 have hq:=rQ hx (show 0<Nm.ai by decide);rw[<-fN]at hq;go_enter Tryz.func163,Tryz.ntmps163;go_wp2_with (with_reducible refine aK rfl _ rfl _ rfl _ (Has.new _ _) rfl ?_)
 go_ret;exact⟨rfl,aY⟩
variable{w wr:World}
theorem lY{ops:Array Oper}{rest:List Oper}{o:Oper}{a:Act}{Q:Exit->Act->World->Prop}(hgd:o.guard=none)(x y:Operand)(ho:o.op=.store 26 x y)(g:Nat)(z:Nat)(cz:Array Value)(hx:a.eval x=af g)(hy:a.eval y=.agg cz)(e:cz=aa z)(cs:Array Value)(hg:Has w g cs 26)(hs:cs.size=4)(h:wpList Tryz.prog ops Q rest (a.put o.dst undef) (w.setRow g (aa z))):wpList Tryz.prog ops Q (o::rest) a w:=by subst e;exact bg hgd x y ho g z hx hy cs hg hs h
theorem Qa(y:Nat):(#[ay 0,ay (Nm.wd y 0:Nat),ay (Nm.wd y 1:Nat),ay (Nm.wd y 2:Nat)]:Array Value)=aa (Nm.up y 64):=by obtain⟨h0,h1,h2,h3⟩:=Nm.tT y;unfold aa aw;rw[h0,h1,h2,h3];rfl
theorem Nz(hy:y<Nm.ai):(#[ay (Nm.wd y 1:Nat),ay (Nm.wd y 2:Nat),ay (Nm.wd y 3:Nat),ay 0]:Array Value)=aa (Nm.down y 64):=by obtain⟨h0,h1,h2,h3⟩:=Nm.O0 hy;unfold aa aw;rw[h0,h1,h2,h3];rfl
structure Mv (w wr:World) (A R O y:Nat) (cs:Array Value):Prop where
 below:Bl w wr
 a:Has wr A (aa y) 26
 r:Has wr R (aa 0) 26
 o:Has wr O cs 26
variable{cs:Array Value}
theorem Mv.put(h:Mv w wr A R O y cs)(y':Nat)(hR:R≠A)(hO:O≠A)(hA:w.heap.size<=A):Mv w (wr.setRow A (aa y')) A R O y' cs:=⟨below_setRow h.below hA _,h.a.row _,h.r.R1 _ _ hR,h.o.R1 _ _ hO⟩
variable{g:Nat->Nat}
theorem Mv.set(h:Mv w wr A R O y (aw g))(i v:Nat)(hi:i<4)(hA:A≠O)(hR:R≠O)(hO:w.heap.size<=O):Mv w (wr.setCell ⟨O,i,none⟩ (ay (v:Nat))) A R O y (aw (bY g i v)):=⟨h.below.setCell hO _,h.a.other _ _ hA,h.r.other _ _ hR,by rw[<-nX g i v hi];exact h.o.set _⟩
theorem Mv.drew(h:Mv w wr A R O y cs):Mv w wr.drew A R O y cs:=⟨h.below.drew,h.a,h.r,h.o⟩
theorem Mv.start(w:World)(x:Nat):Mv w (((w.alloc (.cells (aa x) 26)).alloc (.cells (aa 0) 26)).alloc (.cells (aw fun _=>0) 26)) w.heap.size (w.heap.size+1) (w.heap.size+1+1) x (aw fun _=>0):=⟨(aY.alloc (by simp) _).alloc (by simp;omega) _,((Has.new _ _).alloc _).alloc _,(Has.R6 _ _ _).alloc _,Has.Sw _ _ _ _⟩
theorem Jt(a b m:Nat)(hm:m<=64)(hb:b<18446744073709551616):IntKind.u64.wrap (((a<<<m%18446744073709551616:Nat):Int)+((b>>>(64-m):Nat):Int))=((a<<<m%18446744073709551616|||b>>>(64-m):Nat):Int):=by have h:=Nm.rX a b m hm hb;have h2:=Nm.yj (a:=a<<<m%18446744073709551616) (b:=b>>>(64-m)) (Nat.mod_lt _ (by decide)) (by rw[Nat.shiftRight_eq_div_pow];exact Nat.lt_of_le_of_lt (Nat.div_le_self _ _) hb);rw[<-h]at h2|-;rw[IntKind.wrap_u64];omega
theorem tN(a b m:Nat)(hm:m<=64)(ha:a<18446744073709551616):IntKind.u64.wrap (((a>>>m:Nat):Int)+((b<<<(64-m)%18446744073709551616:Nat):Int))=((a>>>m|||b<<<(64-m)%18446744073709551616:Nat):Int):=by have h:=Nm.IU a b m hm ha;have h2:=Nm.yj (a:=a>>>m) (b:=b<<<(64-m)%18446744073709551616) (by rw[Nat.shiftRight_eq_div_pow];exact Nat.lt_of_le_of_lt (Nat.div_le_self _ _) ha) (Nat.mod_lt _ (by decide));rw[<-h]at h2|-;rw[IntKind.wrap_u64];omega
def fC(z k:Nat)(g:Nat->Nat):Prop:=∀j,j<k->g j=Nm.wd z j
theorem fC.next{z k:Nat}(h:Hid (fC z k g)):Hid (fC z (k+1) (bY g k (Nm.wd z k))):=h_ fun j h1=>by
  unfold bY;split
  ·rename_i e;rw[e]
  exact h.out j (by omega)
theorem AD(x n:Nat)(hx:x<Nm.ai)(hm:n<=9223372036854775807)(w:World):ak 145 #[.agg (aa x),i_ n] w (.agg (aa (Nm.up x n))):=by
 by_cases hbg:256<=n
 ·have e:=Nm.CV x hbg;rw[e];clear e;go_enter Tryz.func145,Tryz.ntmps145;go_upto_region 2 with fail
  generalize hw1:World.alloc _ _=w1;have h0:Mv w w1 w.heap.size (w.heap.size+1) (w.heap.size+1+1) x (aw fun _=>0):=by rw[<-hw1];exact Mv.start w x
  clear hw1;have ho:Has w1 (w.heap.size+1+1) (aa 0) 26:=h0.o
  go_wp2_with (first
   | (with_reducible refine aK rfl _ rfl _ rfl _ ho rfl ?_)
   | (with_reducible refine bg rfl _ _ rfl _ _ rfl rfl _ h0.r rfl ?_))
  exact bodyPost_ret (v:=.agg (aa 0)) (fw Tryz.results145 _ _ _ rfl (h0.r.row _)) rfl ⟨rfl,below_setRow h0.below (by omega) _⟩
 ·go_enter Tryz.func145,Tryz.ntmps145;go_upto_region 2 with fail
  generalize hw1:World.alloc _ _=w1;have h0:Mv w w1 w.heap.size (w.heap.size+1) (w.heap.size+1+1) x (aw fun _=>0):=by rw[<-hw1];exact Mv.start w x
  clear hw1;generalize hB:w.heap.size+1+1=O at*;generalize hC:w.heap.size+1=R at*;generalize hD:w.heap.size=A at*;have HA:Hid (w.heap.size<=A):=h_ (by omega);have HO:Hid (w.heap.size<=O):=h_ (by omega);have HR:Hid (w.heap.size<=R):=h_ (by omega);have H1:Hid (A≠O):=h_ (by omega);have H3:Hid (R≠O):=h_ (by omega);have H4:Hid (R≠A):=h_ (by omega);have H5:Hid (O≠A):=h_ (by omega);have HX:=h_ hx;clear hB hC hD hx hm;go_wp2_with fail
  go_loopw [1] (fun s wr=>∃(m y:Nat),m<256/\s=i_ m/\Hid (Nm.up y m=Nm.up x n/\y<Nm.ai)/\Mv w wr A R O y (aw fun _=>0)) (fun s _=>(intOf s).toNat)
  case atStart=>exact⟨n,x,by omega,rfl,h_ ⟨rfl,HX.out⟩,h0⟩
  case round=>
   obtain⟨m,y,hm,rfl,HM,hs⟩:=hrel;by_cases hge:64<=m
   ·have c0:=hs.a.num (j:=0) (by omega);have c1:=hs.a.num (j:=1) (by omega);have c2:=hs.a.num (j:=2) (by omega);have HE:=h_ (Qa y);(go_wp2_with (with_reducible refine lY rfl _ _ rfl _ (Nm.up y 64) _ rfl rfl HE.out _ hs.a rfl ?_));go_roundw
    case rel=>exact⟨m-64,Nm.up y 64,by omega,congrArg (Value.int .i64) (by omega),h_ ⟨by rw[Nm.up_add,show 64+(m-64)=m by omega];exact HM.out.1,Nm.my _ _⟩,hs.put _ H4.out H5.out HA.out⟩
    case measure=>simp[intOf];omega
   ·have hlt:m<64:=(by omega);clear hm hge;(go_wp2_with fail);go_loopw [1] (fun s wr=>s=i_ (m:Nat)/\Mv w wr A R O y (aw fun _=>0)) (fun _ _=>0)
    case atStart=>exact⟨rfl,hs⟩
    case round=>
     obtain⟨rfl,hs2⟩:=hrel;by_cases hm0:m=0
     ·subst hm0;have e:=HM.out.1;rw[Nm.vl HM.out.2]at e;subst e
      go_wp2_with (first
       | (with_reducible refine aK rfl _ rfl _ rfl _ hs2.a rfl ?_)
       | (with_reducible refine bg rfl _ _ rfl _ _ rfl rfl _ hs2.r rfl ?_))
      exact bodyPost_ret (v:=.agg (aa (Nm.up x n))) (fw Tryz.results145 _ _ _ rfl (hs2.r.row _)) rfl ⟨rfl,below_setRow hs2.below HR.out _⟩
     ·have hmp:0<m:=(by omega);clear hm0;(go_wp2_with fail);go_loopw [6] (fun i wr=>∃(k:Nat)(g:Nat->Nat),k<=4/\i=i_ k/\Mv w wr A R O y (aw g)/\Hid (fC (Nm.up y m) k g)) (fun i _=>4-(intOf i).toNat)
      case atStart=>exact⟨0,_,by omega,rfl,hs2,h_ fun j hj=>by omega⟩
      case round=>
       obtain⟨k,g,hk,rfl,hs3,HG⟩:=hrel;by_cases hk4:k<4
       ·have c1:=hs3.a.num (j:=k) (by omega);have c2:=hs3.a.num (j:=k-1) (by omega);have co:=hs3.o.word (j:=k) (by omega);have fo:=hs3.o.free k
        have hset:∀v1 v2:Nat,Mv w ((wr.setCell ⟨O,k,none⟩ (ay (v1:Nat))).setCell ⟨O,k,none⟩ (ay (v2:Nat))).drew A R O y (aw (bY g k v2)):=fun v1 v2=>by
         rw[<-vw g k v1 v2];exact((hs3.set k v1 (by omega) H1.out H3.out HO.out).set k v2 (by omega) H1.out H3.out HO.out).drew
        have Tw:∀v:Nat,Mv w (wr.setCell ⟨O,k,none⟩ (ay (v:Nat))) A R O y (aw (bY g k v)):=fun v=>hs3.set k v (by omega) H1.out H3.out HO.out
        have SO:=h_ hset;have Uy:=h_ Tw;clear hset Tw;by_cases hk0:k=0
        ·subst hk0;have hv:=Nm.C' y m 0 (by omega) (by omega);rw[show m%64=m by omega,show 0-m/64=0 by omega]at hv;have HV:=h_ hv;clear hv;(go_wp2_with fail);rw[uj,<-HV.out];exact⟨⟨_,_,by decide,rfl,Uy.out _,fC.next HG⟩,by decide⟩
        ·have hv:=Nm.oF y m k (by omega) (by omega);rw[show m%64=m by omega,show k-m/64=k by omega]at hv;have HV:=h_ hv;clear hv;obtain rfl|rfl|rfl:k=1\/k=2\/k=3:=by omega
         all_goals
          (go_wp2_with fail);go_region
          have e:=HV.out;simp only[Nat.reduceSub]at e;rw[uj,mG,Jt _ _ _ (by omega) (Nm.dx _ _),<-e];clear e c1 c2 co fo;(go_wp2_with fail);go_roundw
          case rel=>exact⟨_,_,by decide,rfl,SO.out _ _,fC.next HG⟩
          case measure=>decide
       ·obtain rfl:k=4:=(by omega);have e:=ko HG;rw[e,HM.out.1]at hs3;clear e
        go_wp2_with (first
         | (with_reducible refine aK rfl _ rfl _ rfl _ hs3.o rfl ?_)
         | (with_reducible refine bg rfl _ _ rfl _ _ rfl rfl _ hs3.r rfl ?_))
        exact bodyPost_ret (v:=.agg (aa (Nm.up x n))) (fw Tryz.results145 _ _ _ rfl (hs3.r.row _)) rfl ⟨rfl,below_setRow hs3.below HR.out _⟩
def gP(s v:Nat):Bool:=decide (0<v/\34<s\/255<v/\33<s\/65535<v/\32<s)
theorem qB(s v:Nat)(hs:s<256)(hv:v<8388608)(w:World):aG 188 #[i_ s,i_ v] w fun e w'=>e=.returned (.bool (gP s v))/\w=w':=by
 by_cases h0:v=0
 ·subst h0;have hr:gP s 0=false:=by unfold gP;exact decide_eq_false (by omega)
  rw[hr];go_enter Tryz.func188,Tryz.ntmps188;go_wp2_with fail
  go_ret;exact⟨rfl,rfl⟩
 have b0:((v:Int) != 0)=true:=by simp;omega
 obtain h|h|h|h|h|h:(34<s)\/(s=34/\255<v)\/(s=34/\v<=255)\/(s=33/\65535<v)\/(s=33/\v<=65535)\/s<=32:=by omega
 ·have hr:gP s v=true:=by unfold gP;exact decide_eq_true (by omega)
  have b1:decide ((34:Int)<(s:Int))=true:=decide_eq_true (by omega);rw[hr];clear h h0 hr;go_enter Tryz.func188,Tryz.ntmps188;go_wp2_with fail
  go_ret;exact⟨rfl,rfl⟩
 ·have hr:gP s v=true:=by unfold gP;exact decide_eq_true (by omega)
  have b1:decide ((34:Int)<(s:Int))=false:=decide_eq_false (by omega);have b2:decide ((33:Int)<(s:Int))=true:=decide_eq_true (by omega);have b3:decide ((255:Int)<(v:Int))=true:=decide_eq_true (by omega);rw[hr];clear h h0 hr;go_enter Tryz.func188,Tryz.ntmps188;go_wp2_with fail
  go_ret;exact⟨rfl,rfl⟩
 ·have hr:gP s v=false:=by unfold gP;exact decide_eq_false (by omega)
  have b1:decide ((34:Int)<(s:Int))=false:=decide_eq_false (by omega);have b2:decide ((33:Int)<(s:Int))=true:=decide_eq_true (by omega);have b3:decide ((255:Int)<(v:Int))=false:=decide_eq_false (by omega);have b4:decide ((32:Int)<(s:Int))=true:=decide_eq_true (by omega);have b5:decide ((65535:Int)<(v:Int))=false:=decide_eq_false (by omega);rw[hr];clear h h0 hr;go_enter Tryz.func188,Tryz.ntmps188;go_wp2_with fail
  go_ret;exact⟨rfl,rfl⟩
 ·have hr:gP s v=true:=by unfold gP;exact decide_eq_true (by omega)
  have b1:decide ((34:Int)<(s:Int))=false:=decide_eq_false (by omega);have b2:decide ((33:Int)<(s:Int))=false:=decide_eq_false (by omega);have b4:decide ((32:Int)<(s:Int))=true:=decide_eq_true (by omega);have b5:decide ((65535:Int)<(v:Int))=true:=decide_eq_true (by omega);rw[hr];clear h h0 hr;go_enter Tryz.func188,Tryz.ntmps188;go_wp2_with fail
  go_ret;exact⟨rfl,rfl⟩
 ·have hr:gP s v=false:=by unfold gP;exact decide_eq_false (by omega)
  have b1:decide ((34:Int)<(s:Int))=false:=decide_eq_false (by omega);have b2:decide ((33:Int)<(s:Int))=false:=decide_eq_false (by omega);have b4:decide ((32:Int)<(s:Int))=true:=decide_eq_true (by omega);have b5:decide ((65535:Int)<(v:Int))=false:=decide_eq_false (by omega);rw[hr];clear h h0 hr;go_enter Tryz.func188,Tryz.ntmps188;go_wp2_with fail
  go_ret;exact⟨rfl,rfl⟩
 ·have hr:gP s v=false:=by unfold gP;exact decide_eq_false (by omega)
  have b1:decide ((34:Int)<(s:Int))=false:=decide_eq_false (by omega);have b2:decide ((33:Int)<(s:Int))=false:=decide_eq_false (by omega);have b4:decide ((32:Int)<(s:Int))=false:=decide_eq_false (by omega);rw[hr];clear h h0 hr;go_enter Tryz.func188,Tryz.ntmps188;go_wp2_with fail
  go_ret;exact⟨rfl,rfl⟩
structure Bx (w wr:World) (A x R:Nat):Prop where
 below:Bl w wr
 a:Has wr A (aa x) 26
 r:Has wr R (aa 0) 26
theorem Bx.on{w':World}(h:Bx w wr A x R)(hb:Bl wr w'):Bx w w' A x R:=⟨ah h.below hb,h.a.on hb,h.r.on hb⟩
theorem Bx.start(w:World)(x:Nat):Bx w ((w.alloc (.cells (aa x) 26)).alloc (.cells (aa 0) 26)) w.heap.size x (w.heap.size+1):=⟨aY.alloc (by simp) _,(Has.new _ _).alloc _,Has.R6 _ _ _⟩
theorem tW(x k:Nat)(hx:x<Nm.ai)(hk:0<k)(hm:k<=300)(n:Int)(hn:n=((8*k:Nat):Int))(w:World):ak 206 #[.agg (aa x),i_ n] w (.agg (aa (Nm.down x (8*k)))):=by subst hn;exact E6 x (8*k) hx (by omega) (by omega) w
theorem Gz(x k:Nat)(hx:x<Nm.ai)(hm:k<=300)(n:Int)(hn:n=((8*k:Nat):Int))(w:World):ak 207 #[.agg (aa x),i_ n] w (.agg (aa (Nm.up x (8*k)))):=by subst hn;by_cases h0:k=0;subst h0;rw[Nm.vl hx];exact rT x _ (by omega) w;exact qq x (8*k) hx (by omega) (by omega) w
theorem gR(x:Nat)(b:Int)(hx:x<Nm.ai)(hl:-300<=b)(hh:b<=300)(w:World):ak 186 #[.agg (aa x),i_ b] w (.agg (aa (Nm.mv x b))):=by
 by_cases hb:b<0
 ·obtain⟨k,rfl⟩:∃k:Nat,b = -(k:Int):=⟨(-b).toNat,by omega⟩;have hr:Nm.mv x (-(k:Int))=Nm.down x (8*k):=by unfold Nm.mv;rw[if_pos hb,Int.neg_neg,Int.toNat_natCast]
  rw[hr];go_enter Tryz.func186,Tryz.ntmps186;go_upto_region 1 with fail
  generalize hw1:World.alloc _ _=w1;have h0:Bx w w1 w.heap.size x (w.heap.size+1):=by rw[<-hw1];exact Bx.start w x
  have hR:w.heap.size<=w.heap.size+1:=by omega
  have HR:=h_ hR;clear hw1 hR hr;go_wp2_with (with_reducible refine aK rfl _ rfl _ rfl _ h0.a rfl ?_)
  refine au (tW x k hx (by omega) (by omega) _ (by omega) _) fun w2 hb2=>?_;have h2:=h0.on hb2;go_wp2_with (with_reducible refine bg rfl _ _ rfl _ _ rfl rfl _ h2.r rfl ?_)
  exact bodyPost_ret (v:=.agg (aa (Nm.down x (8*k)))) (fw Tryz.results186 _ _ _ rfl (h2.r.row _)) rfl ⟨rfl,below_setRow h2.below HR.out _⟩
 ·obtain⟨k,rfl⟩:∃k:Nat,b=(k:Int):=⟨b.toNat,by omega⟩;have hr:Nm.mv x (k:Int)=Nm.up x (8*k):=by unfold Nm.mv;rw[if_neg hb,Int.toNat_natCast]
  rw[hr];go_enter Tryz.func186,Tryz.ntmps186;go_upto_region 1 with fail
  generalize hw1:World.alloc _ _=w1;have h0:Bx w w1 w.heap.size x (w.heap.size+1):=by rw[<-hw1];exact Bx.start w x
  have hR:w.heap.size<=w.heap.size+1:=by omega
  have HR:=h_ hR;clear hw1 hR hr hb;go_wp2_with (with_reducible refine aK rfl _ rfl _ rfl _ h0.a rfl ?_)
  refine au (Gz x k hx (by omega) _ (by omega) _) fun w2 hb2=>?_;have h2:=h0.on hb2;go_wp2_with (with_reducible refine bg rfl _ _ rfl _ _ rfl rfl _ h2.r rfl ?_)
  exact bodyPost_ret (v:=.agg (aa (Nm.up x (8*k)))) (fw Tryz.results186 _ _ _ rfl (h2.r.row _)) rfl ⟨rfl,below_setRow h2.below HR.out _⟩
variable{fn:Func}{p u v:Tmp}
theorem PM{ty:TypeId}(h:fn.results=#[.cell p ty,.tmp u,.tmp v])(tmps:Array Value)(P:Program)(w:World):(results fn tmps).run P w=((asAddr (tmps.getD p undef)).run P w).andThen fun a w₁=>((loadVar ty a).run P w₁).andThen fun x w₂=>.ok (.tuple #[x,tmps.getD u undef,tmps.getD v undef]) w₂:=by simp only[results,h];simp[Sem.run_bind,Result.andThen]
theorem jv(h:fn.results=#[.cell p 26,.tmp u,.tmp v])(tmps:Array Value)(g x:Nat)(y z:Value)(hp:tmps.getD p undef=af g)(hy:tmps.getD u undef=y)(hz:tmps.getD v undef=z)(hg:Has w g (aa x) 26):(results fn tmps).run Tryz.prog w=.ok (.tuple #[.agg (aa x),y,z]) w:=by rw[PM h,hp,hy,hz];have hl:(loadVar 26 ⟨g,0,none⟩).run Tryz.prog w=.ok (.agg (aa x)) w:=run_loadVar_row w g 26 26 (aa x) (0,0) _ hg.out Tryz.underlying26 rfl cy;simp[asAddr,hl,Result.andThen]
theorem bZ(b:Int)(w:World):aG 185 #[i_ b] w fun e w'=>e=.returned (.bool (decide (0<=b/\b<=4294967295)))/\w=w':=by
 by_cases h0:0<=b
 ·have hr:decide (0<=b/\b<=4294967295)=decide (b<=4294967295):=decide_eq_decide.2 (by omega);rw[hr];go_enter Tryz.func185,Tryz.ntmps185;go_wp2_with fail
  go_ret;exact⟨rfl,rfl⟩
 ·have hr:decide (0<=b/\b<=4294967295)=false:=decide_eq_false (by omega);rw[hr];go_enter Tryz.func185,Tryz.ntmps185;go_wp2_with fail
  go_ret;exact⟨rfl,rfl⟩
theorem ub(b:Int)(h:¬(0<=b/\b<=4294967295))(w:World):aG 185 #[i_ b] w fun e w'=>e=.returned (.bool false)/\w=w':=by have:=bZ b w;rwa[decide_eq_false h]at this
theorem Iq(b:Int)(h:0<=b/\b<=4294967295)(w:World):aG 185 #[i_ b] w fun e w'=>e=.returned (.bool true)/\w=w':=by have:=bZ b w;rwa[decide_eq_true h]at this
theorem DG(b:Int)(h:¬(0<=b/\b<=4294967295))(w:World):ak 162 #[i_ b] w (.tuple #[.agg (aa 0),.bool false,.bool false]):=by
 have hg:=h_ (ub b h);clear h;go_enter Tryz.func162,Tryz.ntmps162;go_upto_region 1 with fail
 generalize hw1:World.alloc _ _=w1;have hN:Has w1 w.heap.size (aa 0) 26:=by rw[<-hw1];exact Has.R2 _
 have hb:Bl w w1:=dd hw1;clear hw1;go_wp2_with fail
 refine(hg.out _).mono ?_;rintro e w2 ⟨rfl,rfl⟩;go_wp2_with (with_reducible refine lY rfl _ _ rfl _ 0 _ rfl rfl fN _ hN rfl ?_)
 exact bodyPost_ret (v:=.tuple #[.agg (aa 0),.bool false,.bool false]) (jv Tryz.results162 _ _ _ _ _ rfl rfl rfl (hN.row _)) rfl ⟨rfl,below_setRow hb (Nat.le_refl _) _⟩
theorem Cc(a b:Nat)(ha:a<9223372036854775808)(hb:b<9223372036854775808):bits .and .i64 (a:Int) (b:Int)=((a&&&b:Nat):Int):=by have h:a&&&b<=a:=Nat.and_le_left;show IntKind.i64.wrap ((BitVec.ofInt 64 (a:Int)&&&BitVec.ofInt 64 (b:Int)).toNat:Int)=_;rw[BitVec.ofInt_natCast,BitVec.ofInt_natCast,BitVec.toNat_and,BitVec.toNat_ofNat,BitVec.toNat_ofNat,Nat.mod_eq_of_lt (by omega),Nat.mod_eq_of_lt (by omega),IntKind.wrap_i64];omega
theorem RK(a b:Nat)(ha:a<9223372036854775808)(hb:b<9223372036854775808):bits .or .i64 (a:Int) (b:Int)=((a|||b:Nat):Int):=by have h:a|||b<2^63:=Nat.or_lt_two_pow ha hb;show IntKind.i64.wrap ((BitVec.ofInt 64 (a:Int)|||BitVec.ofInt 64 (b:Int)).toNat:Int)=_;rw[BitVec.ofInt_natCast,BitVec.ofInt_natCast,BitVec.toNat_or,BitVec.toNat_ofNat,BitVec.toNat_ofNat,Nat.mod_eq_of_lt (by omega),Nat.mod_eq_of_lt (by omega),IntKind.wrap_i64];omega
theorem lM(n i:Nat):n&&&2^i=n/2^i%2*2^i:=by
 apply Nat.eq_of_testBit_eq;intro j;rw[Nat.testBit_and,Nat.testBit_two_pow,<-Nat.toNat_testBit];cases h:n.testBit i
 ·by_cases hj:i=j;subst hj;simp[h];simp[hj]
 ·by_cases hj:i=j;subst hj;simp[h];simp[hj]
theorem MJ(n:Nat)(hn:n<4294967296):bits .and .i64 (n:Int) 8388607=((n%8388608:Nat):Int):=by have:=Cc n 8388607 (by omega) (by omega);rw[show n&&&8388607=n%8388608 from Nat.and_two_pow_sub_one_eq_mod n 23]at this;exact this
theorem Mm(n:Nat)(hn:n<4294967296):bits .and .i64 (n:Int) 8388608=((n/8388608%2*8388608:Nat):Int):=by have:=Cc n 8388608 (by omega) (by omega);rw[show n&&&8388608=n/8388608%2*8388608 from lM n 23]at this;exact this
theorem He(n:Nat)(hn:n<4294967296)(w:World):ak 162 #[i_ n] w (.tuple #[.agg (aa (Nm.j_ n)),.bool (Nm.gi n),.bool (Nm.eL n)]):=by
 have hg:=h_ (Iq (n:Int) (by omega));obtain⟨s,hs⟩:∃s,s=n/16777216:=⟨_,rfl⟩;obtain⟨v,hv⟩:∃v,v=n%8388608:=⟨_,rfl⟩;have eA:=MJ n hn;have eS:=Mm n hn;have eD:(n:Int)/16777216=(s:Nat):=by omega
 have hs2:s<256:=by omega
 have hv2:v<8388608:=by omega
 have hL:Nm.gi n=(decide (0<v)&&decide (n/8388608%2=1)):=by rw[hv];rfl
 have hO:Nm.eL n=gP s v:=by rw[hv,hs];rfl
 have hM:Nm.j_ n=Nm.mv v ((s:Nat)-3):=by rw[hv,hs];rfl
 rw[hL,hO,hM];rw[<-hv]at eA;have hq:n/8388608%2<2:=by omega
 generalize n/8388608%2=q at*;have rn:v<Nm.ai:=by unfold Nm.ai;omega
 have cT:=h_ (qB s v hs2 hv2);have cM:=h_ (gR v ((s:Nat)-3) rn (by omega) (by omega));have cO:=h_ (of v (by omega));generalize Nm.mv v ((s:Nat)-3)=z at*;generalize gP s v=ov at*;clear hL hO hM hs rn hv;obtain rfl|⟨h0,rfl⟩|⟨h0,rfl⟩:v=0\/(v≠0/\q=0)\/(v≠0/\q=1):=by omega
 ·rw[show(decide (0<0)&&decide (q=1))=false from rfl];clear eS hq;go_enter Tryz.func162,Tryz.ntmps162;go_upto_region 1 with fail
  generalize hw1:World.alloc _ _=w1;have hN:Has w1 w.heap.size (aa 0) 26:=by rw[<-hw1];exact Has.R2 _
  have hb:Bl w w1:=dd hw1;clear hw1;go_wp2_with fail
  refine(hg.out _).mono ?_;rintro e w2 ⟨rfl,rfl⟩;go_wp2_with fail
  refine au (cO.out _) fun w3 hb3=>?_;replace hN:=hN.on hb3;replace hb:=ah hb hb3;clear hb3;go_wp2_with fail
  refine au (cM.out _) fun w4 hb4=>?_;replace hN:=hN.on hb4;replace hb:=ah hb hb4;clear hb4;go_wp2_with fail
  refine(cT.out _).mono ?_;rintro e w5 ⟨rfl,rfl⟩;go_wp2_with (with_reducible refine bg rfl _ _ rfl _ _ rfl rfl _ hN rfl ?_)
  exact bodyPost_ret (v:=.tuple #[.agg (aa z),.bool false,.bool ov]) (jv Tryz.results162 _ _ _ _ _ rfl rfl rfl (hN.row _)) rfl ⟨rfl,below_setRow hb (Nat.le_refl _) _⟩
 ·rw[show(decide (0<v)&&decide (0=1))=false by simp];have b0:((v:Int) != 0)=true:=by simp;omega
  clear h0 hq;go_enter Tryz.func162,Tryz.ntmps162;go_upto_region 1 with fail
  generalize hw1:World.alloc _ _=w1;have hN:Has w1 w.heap.size (aa 0) 26:=by rw[<-hw1];exact Has.R2 _
  have hb:Bl w w1:=dd hw1;clear hw1;go_wp2_with fail
  refine(hg.out _).mono ?_;rintro e w2 ⟨rfl,rfl⟩;go_wp2_with fail
  refine au (cO.out _) fun w3 hb3=>?_;replace hN:=hN.on hb3;replace hb:=ah hb hb3;clear hb3;go_wp2_with fail
  refine au (cM.out _) fun w4 hb4=>?_;replace hN:=hN.on hb4;replace hb:=ah hb hb4;clear hb4;go_wp2_with fail
  refine(cT.out _).mono ?_;rintro e w5 ⟨rfl,rfl⟩;go_wp2_with (with_reducible refine bg rfl _ _ rfl _ _ rfl rfl _ hN rfl ?_)
  exact bodyPost_ret (v:=.tuple #[.agg (aa z),.bool false,.bool ov]) (jv Tryz.results162 _ _ _ _ _ rfl rfl rfl (hN.row _)) rfl ⟨rfl,below_setRow hb (Nat.le_refl _) _⟩
 ·rw[show(decide (0<v)&&decide (1=1))=true by simp;omega];have b0:((v:Int) != 0)=true:=by simp;omega
  clear h0 hq;go_enter Tryz.func162,Tryz.ntmps162;go_upto_region 1 with fail
  generalize hw1:World.alloc _ _=w1;have hN:Has w1 w.heap.size (aa 0) 26:=by rw[<-hw1];exact Has.R2 _
  have hb:Bl w w1:=dd hw1;clear hw1;go_wp2_with fail
  refine(hg.out _).mono ?_;rintro e w2 ⟨rfl,rfl⟩;go_wp2_with fail
  refine au (cO.out _) fun w3 hb3=>?_;replace hN:=hN.on hb3;replace hb:=ah hb hb3;clear hb3;go_wp2_with fail
  refine au (cM.out _) fun w4 hb4=>?_;replace hN:=hN.on hb4;replace hb:=ah hb hb4;clear hb4;go_wp2_with fail
  refine(cT.out _).mono ?_;rintro e w5 ⟨rfl,rfl⟩;go_wp2_with (with_reducible refine bg rfl _ _ rfl _ _ rfl rfl _ hN rfl ?_)
  exact bodyPost_ret (v:=.tuple #[.agg (aa z),.bool true,.bool ov]) (jv Tryz.results162 _ _ _ _ _ rfl rfl rfl (hN.row _)) rfl ⟨rfl,below_setRow hb (Nat.le_refl _) _⟩
theorem Kz(x n:Nat)(hx:x<Nm.ai)(hn:0<n)(hm:n<=9223372036854775807)(w:World):ak 145 #[.agg (aa x),i_ (-(n:Int))] w (.agg (aa (Nm.down x n))):=by
 by_cases hbg:256<=n
 ·have e:=Nm.DN hx hbg;rw[e];clear e;go_enter Tryz.func145,Tryz.ntmps145;go_upto_region 2 with fail
  generalize hw1:World.alloc _ _=w1;have h0:Mv w w1 w.heap.size (w.heap.size+1) (w.heap.size+1+1) x (aw fun _=>0):=by rw[<-hw1];exact Mv.start w x
  clear hw1;have ho:Has w1 (w.heap.size+1+1) (aa 0) 26:=h0.o
  go_wp2_with (first
   | (with_reducible refine aK rfl _ rfl _ rfl _ ho rfl ?_)
   | (with_reducible refine bg rfl _ _ rfl _ _ rfl rfl _ h0.r rfl ?_))
  exact bodyPost_ret (v:=.agg (aa 0)) (fw Tryz.results145 _ _ _ rfl (h0.r.row _)) rfl ⟨rfl,below_setRow h0.below (by omega) _⟩
 ·go_enter Tryz.func145,Tryz.ntmps145;go_upto_region 2 with fail
  generalize hw1:World.alloc _ _=w1;have h0:Mv w w1 w.heap.size (w.heap.size+1) (w.heap.size+1+1) x (aw fun _=>0):=by rw[<-hw1];exact Mv.start w x
  clear hw1;generalize hB:w.heap.size+1+1=O at*;generalize hC:w.heap.size+1=R at*;generalize hD:w.heap.size=A at*;have HA:Hid (w.heap.size<=A):=h_ (by omega);have HO:Hid (w.heap.size<=O):=h_ (by omega);have HR:Hid (w.heap.size<=R):=h_ (by omega);have H1:Hid (A≠O):=h_ (by omega);have H3:Hid (R≠O):=h_ (by omega);have H4:Hid (R≠A):=h_ (by omega);have H5:Hid (O≠A):=h_ (by omega);have HX:=h_ hx;clear hB hC hD hx hm;go_wp2_with fail
  go_loopw [1] (fun s wr=>s=i_ (-(n:Int))/\Mv w wr A R O x (aw fun _=>0)) (fun _ _=>0)
  case atStart=>exact⟨rfl,h0⟩
  case round=>
   obtain⟨rfl,hs⟩:=hrel;go_wp2_with fail
   go_loopw [1] (fun s wr=>∃(m y:Nat),m<256/\s=i_ (-(m:Int))/\Hid (Nm.down y m=Nm.down x n/\y<Nm.ai)/\Mv w wr A R O y (aw fun _=>0)) (fun s _=>(-intOf s).toNat)
   case atStart=>exact⟨n,x,by omega,rfl,h_ ⟨rfl,HX.out⟩,hs⟩
   case round=>
    obtain⟨m,y,hm,rfl,HM,hs⟩:=hrel;by_cases hge:64<=m
    ·have c1:=hs.a.num (j:=1) (by omega);have c2:=hs.a.num (j:=2) (by omega);have c3:=hs.a.num (j:=3) (by omega);have HE:=h_ (Nz HM.out.2);(go_wp2_with (with_reducible refine lY rfl _ _ rfl _ (Nm.down y 64) _ rfl rfl HE.out _ hs.a rfl ?_));go_roundw
     case rel=>exact⟨m-64,Nm.down y 64,by omega,congrArg (Value.int .i64) (by omega),h_ ⟨by rw[Nm.F7,show 64+(m-64)=m by omega];exact HM.out.1,Nm.AK HM.out.2 _⟩,hs.put _ H4.out H5.out HA.out⟩
     case measure=>simp[intOf];omega
    ·have hlt:m<64:=(by omega);clear hm hge;by_cases hm0:m=0
     ·subst hm0;have e:=HM.out.1;rw[Nm.G7]at e;subst e
      go_wp2_with (first
       | (with_reducible refine aK rfl _ rfl _ rfl _ hs.a rfl ?_)
       | (with_reducible refine bg rfl _ _ rfl _ _ rfl rfl _ hs.r rfl ?_))
      exact bodyPost_ret (v:=.agg (aa (Nm.down x n))) (fw Tryz.results145 _ _ _ rfl (hs.r.row _)) rfl ⟨rfl,below_setRow hs.below HR.out _⟩
     ·have hmp:0<m:=(by omega);clear hm0;(go_wp2_with fail);go_loopw [6] (fun i wr=>∃(k:Nat)(g:Nat->Nat),k<=4/\i=i_ k/\Mv w wr A R O y (aw g)/\Hid (fC (Nm.down y m) k g)) (fun i _=>4-(intOf i).toNat)
      case atStart=>exact⟨0,_,by omega,rfl,hs,h_ fun j hj=>by omega⟩
      case round=>
       obtain⟨k,g,hk,rfl,hs3,HG⟩:=hrel;by_cases hk4:k<4
       ·have c1:=hs3.a.num (j:=k) (by omega);have co:=hs3.o.word (j:=k) (by omega);have fo:=hs3.o.free k
        have hset:∀v1 v2:Nat,Mv w ((wr.setCell ⟨O,k,none⟩ (ay (v1:Nat))).setCell ⟨O,k,none⟩ (ay (v2:Nat))).drew A R O y (aw (bY g k v2)):=fun v1 v2=>by
         rw[<-vw g k v1 v2];exact((hs3.set k v1 (by omega) H1.out H3.out HO.out).set k v2 (by omega) H1.out H3.out HO.out).drew
        have Tw:∀v:Nat,Mv w (wr.setCell ⟨O,k,none⟩ (ay (v:Nat))) A R O y (aw (bY g k v)):=fun v=>hs3.set k v (by omega) H1.out H3.out HO.out
        have SO:=h_ hset;have Uy:=h_ Tw;clear hset Tw;by_cases hk0:k=3
        ·subst hk0;have hv:=Nm.Dm HM.out.2 m 3 (by omega);rw[show m%64=m by omega,show 3+m/64=3 by omega]at hv;have HV:=h_ hv;clear hv;(go_wp2_with fail);rw[mG,<-HV.out];exact⟨⟨_,_,by decide,rfl,Uy.out _,fC.next HG⟩,by decide⟩
        ·have hv:=Nm.wI y m k;rw[show m%64=m by omega,show k+m/64=k by omega]at hv;have c2:=hs3.a.num (j:=k+1) (by omega);have HV:=h_ hv;clear hv;obtain rfl|rfl|rfl:k=0\/k=1\/k=2:=by omega
         all_goals
          (go_wp2_with fail);go_region
          have e:=HV.out;simp only[Nat.reduceAdd]at e;rw[mG,uj,show(64 + -(m:Int)).toNat=64-m by omega,tN _ _ _ (by omega) (Nm.dx _ _),<-e];clear e c1 c2 co fo;(go_wp2_with fail);go_roundw
          case rel=>exact⟨_,_,by decide,rfl,SO.out _ _,fC.next HG⟩
          case measure=>decide
       ·obtain rfl:k=4:=(by omega);have e:=ko HG;rw[e,HM.out.1]at hs3;clear e
        go_wp2_with (first
         | (with_reducible refine aK rfl _ rfl _ rfl _ hs3.o rfl ?_)
         | (with_reducible refine bg rfl _ _ rfl _ _ rfl rfl _ hs3.r rfl ?_))
        exact bodyPost_ret (v:=.agg (aa (Nm.down x n))) (fw Tryz.results145 _ _ _ rfl (hs3.r.row _)) rfl ⟨rfl,below_setRow hs3.below HR.out _⟩
theorem nC(x:Nat)(b:Int)(hx:x<Nm.ai)(hl:-300<=b)(hh:b<=300)(m:Int)(hm:m=8*b)(w:World):ak 145 #[.agg (aa x),i_ m] w (.agg (aa (Nm.mv x b))):=by
 subst hm;by_cases hb:b<0
 ·obtain⟨k,rfl⟩:∃k:Nat,b = -(k:Int):=⟨(-b).toNat,by omega⟩;have hr:Nm.mv x (-(k:Int))=Nm.down x (8*k):=by unfold Nm.mv;rw[if_pos hb,Int.neg_neg,Int.toNat_natCast]
  rw[hr,show(8 * -(k:Int)) = -((8*k:Nat):Int) by omega];exact Kz x (8*k) hx (by omega) (by omega) w
 ·obtain⟨k,rfl⟩:∃k:Nat,b=(k:Int):=⟨b.toNat,by omega⟩;have hr:Nm.mv x (k:Int)=Nm.up x (8*k):=by unfold Nm.mv;rw[if_neg hb,Int.toNat_natCast]
  rw[hr,show(8*(k:Int))=((8*k:Nat):Int) by omega];exact AD x (8*k) hx (by omega) w
theorem PF(v:Nat)(b:Int)(hv:v<18446744073709551616)(hl:-300<=b)(hh:b<=300)(m:Int)(hm:m=8*b)(w:World):ak 145 #[.agg #[ay (v:Int),ay 0,ay 0,ay 0],i_ m] w (.agg (aa (Nm.mv v b))):=by rw[LR v hv];exact nC v b (by unfold Nm.ai;omega) hl hh m hm w
theorem GF(b:Int)(h:¬(0<=b/\b<=4294967295))(w:World):ak 109 #[i_ b] w (.tuple #[.agg (aa 0),.bool false,.bool false]):=by
 obtain⟨b0,b1⟩|b0:(decide (b<0)=false/\decide (4294967295<b)=true)\/decide (b<0)=true:=by
  simp;omega
 all_goals
  clear h;go_enter Tryz.func109,Tryz.ntmps109;go_upto_region 1 with fail
  generalize hw1:World.alloc _ _=w1;have hN:Has w1 w.heap.size (aa 0) 26:=by rw[<-hw1];exact Has.R2 _
  have hb:Bl w w1:=dd hw1;clear hw1;go_wp2_with (with_reducible refine lY rfl _ _ rfl _ 0 _ rfl rfl fN _ hN rfl ?_)
  exact bodyPost_ret (v:=.tuple #[.agg (aa 0),.bool false,.bool false]) (jv Tryz.results109 _ _ _ _ _ rfl rfl rfl (hN.row _)) rfl ⟨rfl,below_setRow hb (Nat.le_refl _) _⟩
theorem JC(n:Nat)(hn:n<4294967296)(w:World):ak 109 #[i_ n] w (.tuple #[.agg (aa (Nm.j_ n)),.bool (Nm.gi n),.bool (Nm.eL n)]):=by
 obtain⟨s,hs⟩:∃s,s=n/16777216:=⟨_,rfl⟩;obtain⟨v,hv⟩:∃v,v=n%8388608:=⟨_,rfl⟩;obtain⟨qb,YW⟩:∃qb,qb=decide (n/8388608%2=1):=⟨_,rfl⟩;have g0:decide ((n:Int)<0)=false:=decide_eq_false (by omega);have g1:decide ((4294967295:Int)<(n:Int))=false:=decide_eq_false (by omega);have hs2:s<256:=by omega
 have hv2:v<8388608:=by omega
 have hL:Nm.gi n=(decide (0<v)&&qb):=by rw[hv,YW];rfl
 have hO:Nm.eL n=gP s v:=by rw[hv,hs];rfl
 have hM:Nm.j_ n=Nm.mv v ((s:Nat)-3):=by rw[hv,hs];rfl
 rw[hL,hO,hM];have cM:=h_ (PF v ((s:Nat)-3) (by omega) (by omega) (by omega) _ rfl);generalize Nm.mv v ((s:Nat)-3)=z at*;have eD:(n:Int)/16777216=(s:Nat):=by omega
 have eV:(n:Int)%8388608=(v:Nat):=by omega
 have eQ:((n:Int)/8388608%2==1)=qb:=by
  rw[YW,show(n:Int)/8388608%2=((n/8388608%2:Nat):Int) by omega];generalize n/8388608%2=k;rw[Bool.eq_iff_iff];simp;omega
 clear hL hO hM hs hv YW;obtain rfl|h|h|h|h|h|h:v=0\/(0<v/\34<s)\/(0<v/\v<=255/\s<=34)\/(255<v/\s=34)\/(255<v/\v<=65535/\s<=33)\/(65535<v/\s=33)\/(65535<v/\s<=32):=by omega
 ·have hr:gP s 0=false:=by unfold gP;exact decide_eq_false (by omega)
  have hl:(decide (0<0)&&qb)=false:=by simp
  rw[hr,hl];clear hr hl;go_enter Tryz.func109,Tryz.ntmps109;go_upto_region 1 with fail
  generalize hw1:World.alloc _ _=w1;have hN:Has w1 w.heap.size (aa 0) 26:=by rw[<-hw1];exact Has.R2 _
  have hb:Below w.heap.size w w1:=dd hw1;clear hw1;go_wp2_with fail
  refine au (cM.out _) fun w3 hb3=>?_;replace hN:=hN.on hb3;replace hb:=ah hb hb3;clear hb3;have hZ:=Has.R2 (w:=w3) 26;go_upto_region 7 with(with_reducible refine bg rfl _ _ rfl _ _ rfl rfl _ hZ rfl ?_)
  generalize hw4:World.setRow _ _ _=w4;have hb4:Below w3.heap.size w3 w4:=cU hw4;have hD:Has w4 w3.heap.size (aa z) 26:=by rw[<-hw4];exact hZ.row _
  replace hN:=hN.on hb4;replace hb:=ah hb hb4;generalize w3.heap.size=D at*;clear hw4 hb4 hZ;go_wp2_with (with_reducible first|refine aK rfl _ rfl _ rfl _ hD rfl ?_|refine bg rfl _ _ rfl _ _ rfl rfl _ hN rfl ?_)
  exact bodyPost_ret (v:=.tuple #[.agg (aa z),.bool false,.bool false]) (jv Tryz.results109 _ _ _ _ _ rfl rfl rfl (hN.row _)) rfl ⟨rfl,below_setRow hb (Nat.le_refl _) _⟩
 ·have hr:gP s v=true:=by unfold gP;exact decide_eq_true (by omega)
  have hl:(decide (0<v)&&qb)=qb:=by rw[decide_eq_true (show 0<v by omega),Bool.true_and]
  have b0:0<v:=by omega
  have b1:decide ((34:Int)<(s:Int))=true:=decide_eq_true (by omega);rw[hr,hl];clear h hr hl;go_enter Tryz.func109,Tryz.ntmps109;go_upto_region 1 with fail
  generalize hw1:World.alloc _ _=w1;have hN:Has w1 w.heap.size (aa 0) 26:=by rw[<-hw1];exact Has.R2 _
  have hb:Below w.heap.size w w1:=dd hw1;clear hw1;go_wp2_with fail
  refine au (cM.out _) fun w3 hb3=>?_;replace hN:=hN.on hb3;replace hb:=ah hb hb3;clear hb3;have hZ:=Has.R2 (w:=w3) 26;go_upto_region 7 with(with_reducible refine bg rfl _ _ rfl _ _ rfl rfl _ hZ rfl ?_)
  generalize hw4:World.setRow _ _ _=w4;have hb4:Below w3.heap.size w3 w4:=cU hw4;have hD:Has w4 w3.heap.size (aa z) 26:=by rw[<-hw4];exact hZ.row _
  replace hN:=hN.on hb4;replace hb:=ah hb hb4;generalize w3.heap.size=D at*;clear hw4 hb4 hZ;go_wp2_with (with_reducible first|refine aK rfl _ rfl _ rfl _ hD rfl ?_|refine bg rfl _ _ rfl _ _ rfl rfl _ hN rfl ?_)
  exact bodyPost_ret (v:=.tuple #[.agg (aa z),.bool qb,.bool true]) (jv Tryz.results109 _ _ _ _ _ rfl rfl rfl (hN.row _)) rfl ⟨rfl,below_setRow hb (Nat.le_refl _) _⟩
 ·have hr:gP s v=false:=by unfold gP;exact decide_eq_false (by omega)
  have hl:(decide (0<v)&&qb)=qb:=by rw[decide_eq_true (show 0<v by omega),Bool.true_and]
  have b0:0<v:=by omega
  have b1:decide ((34:Int)<(s:Int))=false:=decide_eq_false (by omega);have b2:decide ((255:Int)<(v:Int))=false:=decide_eq_false (by omega);have b3:decide ((65535:Int)<(v:Int))=false:=decide_eq_false (by omega);rw[hr,hl];clear h hr hl;go_enter Tryz.func109,Tryz.ntmps109;go_upto_region 1 with fail
  generalize hw1:World.alloc _ _=w1;have hN:Has w1 w.heap.size (aa 0) 26:=by rw[<-hw1];exact Has.R2 _
  have hb:Below w.heap.size w w1:=dd hw1;clear hw1;go_wp2_with fail
  refine au (cM.out _) fun w3 hb3=>?_;replace hN:=hN.on hb3;replace hb:=ah hb hb3;clear hb3;have hZ:=Has.R2 (w:=w3) 26;go_upto_region 7 with(with_reducible refine bg rfl _ _ rfl _ _ rfl rfl _ hZ rfl ?_)
  generalize hw4:World.setRow _ _ _=w4;have hb4:Below w3.heap.size w3 w4:=cU hw4;have hD:Has w4 w3.heap.size (aa z) 26:=by rw[<-hw4];exact hZ.row _
  replace hN:=hN.on hb4;replace hb:=ah hb hb4;generalize w3.heap.size=D at*;clear hw4 hb4 hZ;go_wp2_with (with_reducible first|refine aK rfl _ rfl _ rfl _ hD rfl ?_|refine bg rfl _ _ rfl _ _ rfl rfl _ hN rfl ?_)
  exact bodyPost_ret (v:=.tuple #[.agg (aa z),.bool qb,.bool false]) (jv Tryz.results109 _ _ _ _ _ rfl rfl rfl (hN.row _)) rfl ⟨rfl,below_setRow hb (Nat.le_refl _) _⟩
 ·have hr:gP s v=true:=by unfold gP;exact decide_eq_true (by omega)
  have hl:(decide (0<v)&&qb)=qb:=by rw[decide_eq_true (show 0<v by omega),Bool.true_and]
  have b0:0<v:=by omega
  have b1:decide ((34:Int)<(s:Int))=false:=decide_eq_false (by omega);have b2:decide ((255:Int)<(v:Int))=true:=decide_eq_true (by omega);have b3:decide ((33:Int)<(s:Int))=true:=decide_eq_true (by omega);rw[hr,hl];clear h hr hl;go_enter Tryz.func109,Tryz.ntmps109;go_upto_region 1 with fail
  generalize hw1:World.alloc _ _=w1;have hN:Has w1 w.heap.size (aa 0) 26:=by rw[<-hw1];exact Has.R2 _
  have hb:Below w.heap.size w w1:=dd hw1;clear hw1;go_wp2_with fail
  refine au (cM.out _) fun w3 hb3=>?_;replace hN:=hN.on hb3;replace hb:=ah hb hb3;clear hb3;have hZ:=Has.R2 (w:=w3) 26;go_upto_region 7 with(with_reducible refine bg rfl _ _ rfl _ _ rfl rfl _ hZ rfl ?_)
  generalize hw4:World.setRow _ _ _=w4;have hb4:Below w3.heap.size w3 w4:=cU hw4;have hD:Has w4 w3.heap.size (aa z) 26:=by rw[<-hw4];exact hZ.row _
  replace hN:=hN.on hb4;replace hb:=ah hb hb4;generalize w3.heap.size=D at*;clear hw4 hb4 hZ;go_wp2_with (with_reducible first|refine aK rfl _ rfl _ rfl _ hD rfl ?_|refine bg rfl _ _ rfl _ _ rfl rfl _ hN rfl ?_)
  exact bodyPost_ret (v:=.tuple #[.agg (aa z),.bool qb,.bool true]) (jv Tryz.results109 _ _ _ _ _ rfl rfl rfl (hN.row _)) rfl ⟨rfl,below_setRow hb (Nat.le_refl _) _⟩
 ·have hr:gP s v=false:=by unfold gP;exact decide_eq_false (by omega)
  have hl:(decide (0<v)&&qb)=qb:=by rw[decide_eq_true (show 0<v by omega),Bool.true_and]
  have b0:0<v:=by omega
  have b1:decide ((34:Int)<(s:Int))=false:=decide_eq_false (by omega);have b2:decide ((255:Int)<(v:Int))=true:=decide_eq_true (by omega);have b3:decide ((33:Int)<(s:Int))=false:=decide_eq_false (by omega);have b4:decide ((65535:Int)<(v:Int))=false:=decide_eq_false (by omega);rw[hr,hl];clear h hr hl;go_enter Tryz.func109,Tryz.ntmps109;go_upto_region 1 with fail
  generalize hw1:World.alloc _ _=w1;have hN:Has w1 w.heap.size (aa 0) 26:=by rw[<-hw1];exact Has.R2 _
  have hb:Below w.heap.size w w1:=dd hw1;clear hw1;go_wp2_with fail
  refine au (cM.out _) fun w3 hb3=>?_;replace hN:=hN.on hb3;replace hb:=ah hb hb3;clear hb3;have hZ:=Has.R2 (w:=w3) 26;go_upto_region 7 with(with_reducible refine bg rfl _ _ rfl _ _ rfl rfl _ hZ rfl ?_)
  generalize hw4:World.setRow _ _ _=w4;have hb4:Below w3.heap.size w3 w4:=cU hw4;have hD:Has w4 w3.heap.size (aa z) 26:=by rw[<-hw4];exact hZ.row _
  replace hN:=hN.on hb4;replace hb:=ah hb hb4;generalize w3.heap.size=D at*;clear hw4 hb4 hZ;go_wp2_with (with_reducible first|refine aK rfl _ rfl _ rfl _ hD rfl ?_|refine bg rfl _ _ rfl _ _ rfl rfl _ hN rfl ?_)
  exact bodyPost_ret (v:=.tuple #[.agg (aa z),.bool qb,.bool false]) (jv Tryz.results109 _ _ _ _ _ rfl rfl rfl (hN.row _)) rfl ⟨rfl,below_setRow hb (Nat.le_refl _) _⟩
 ·have hr:gP s v=true:=by unfold gP;exact decide_eq_true (by omega)
  have hl:(decide (0<v)&&qb)=qb:=by rw[decide_eq_true (show 0<v by omega),Bool.true_and]
  have b0:0<v:=by omega
  have b1:decide ((34:Int)<(s:Int))=false:=decide_eq_false (by omega);have b2:decide ((255:Int)<(v:Int))=true:=decide_eq_true (by omega);have b3:decide ((33:Int)<(s:Int))=false:=decide_eq_false (by omega);have b4:decide ((65535:Int)<(v:Int))=true:=decide_eq_true (by omega);have b5:decide ((32:Int)<(s:Int))=true:=decide_eq_true (by omega);rw[hr,hl];clear h hr hl;go_enter Tryz.func109,Tryz.ntmps109;go_upto_region 1 with fail
  generalize hw1:World.alloc _ _=w1;have hN:Has w1 w.heap.size (aa 0) 26:=by rw[<-hw1];exact Has.R2 _
  have hb:Below w.heap.size w w1:=dd hw1;clear hw1;go_wp2_with fail
  refine au (cM.out _) fun w3 hb3=>?_;replace hN:=hN.on hb3;replace hb:=ah hb hb3;clear hb3;have hZ:=Has.R2 (w:=w3) 26;go_upto_region 7 with(with_reducible refine bg rfl _ _ rfl _ _ rfl rfl _ hZ rfl ?_)
  generalize hw4:World.setRow _ _ _=w4;have hb4:Below w3.heap.size w3 w4:=cU hw4;have hD:Has w4 w3.heap.size (aa z) 26:=by rw[<-hw4];exact hZ.row _
  replace hN:=hN.on hb4;replace hb:=ah hb hb4;generalize w3.heap.size=D at*;clear hw4 hb4 hZ;go_wp2_with (with_reducible first|refine aK rfl _ rfl _ rfl _ hD rfl ?_|refine bg rfl _ _ rfl _ _ rfl rfl _ hN rfl ?_)
  exact bodyPost_ret (v:=.tuple #[.agg (aa z),.bool qb,.bool true]) (jv Tryz.results109 _ _ _ _ _ rfl rfl rfl (hN.row _)) rfl ⟨rfl,below_setRow hb (Nat.le_refl _) _⟩
 ·have hr:gP s v=false:=by unfold gP;exact decide_eq_false (by omega)
  have hl:(decide (0<v)&&qb)=qb:=by rw[decide_eq_true (show 0<v by omega),Bool.true_and]
  have b0:0<v:=by omega
  have b1:decide ((34:Int)<(s:Int))=false:=decide_eq_false (by omega);have b2:decide ((255:Int)<(v:Int))=true:=decide_eq_true (by omega);have b3:decide ((33:Int)<(s:Int))=false:=decide_eq_false (by omega);have b4:decide ((65535:Int)<(v:Int))=true:=decide_eq_true (by omega);have b5:decide ((32:Int)<(s:Int))=false:=decide_eq_false (by omega);rw[hr,hl];clear h hr hl;go_enter Tryz.func109,Tryz.ntmps109;go_upto_region 1 with fail
  generalize hw1:World.alloc _ _=w1;have hN:Has w1 w.heap.size (aa 0) 26:=by rw[<-hw1];exact Has.R2 _
  have hb:Below w.heap.size w w1:=dd hw1;clear hw1;go_wp2_with fail
  refine au (cM.out _) fun w3 hb3=>?_;replace hN:=hN.on hb3;replace hb:=ah hb hb3;clear hb3;have hZ:=Has.R2 (w:=w3) 26;go_upto_region 7 with(with_reducible refine bg rfl _ _ rfl _ _ rfl rfl _ hZ rfl ?_)
  generalize hw4:World.setRow _ _ _=w4;have hb4:Below w3.heap.size w3 w4:=cU hw4;have hD:Has w4 w3.heap.size (aa z) 26:=by rw[<-hw4];exact hZ.row _
  replace hN:=hN.on hb4;replace hb:=ah hb hb4;generalize w3.heap.size=D at*;clear hw4 hb4 hZ;go_wp2_with (with_reducible first|refine aK rfl _ rfl _ rfl _ hD rfl ?_|refine bg rfl _ _ rfl _ _ rfl rfl _ hN rfl ?_)
  exact bodyPost_ret (v:=.tuple #[.agg (aa z),.bool qb,.bool false]) (jv Tryz.results109 _ _ _ _ _ rfl rfl rfl (hN.row _)) rfl ⟨rfl,below_setRow hb (Nat.le_refl _) _⟩
theorem ny(x y:Nat)(hx:x<Nm.ai)(hy:y<Nm.ai)(w:World):ak 102 #[.agg (aa x),.agg (aa y)] w (.bool (decide (x<y))):=by
 go_enter Tryz.func102,Tryz.ntmps102;go_wp2_with fail
 generalize hw1:World.alloc _ _=w1
 have h0:jK w w1 w.heap.size (w.heap.size+1) x y:=by
  rw[<-hw1];exact jK.start w x y
 clear hw1;generalize w.heap.size+1=B at*;generalize hC:w.heap.size=A at*;have HC:=h_ hC;clear hC;go_loopw [5] (fun i wr=>jK w wr A B x y/\((∃k:Nat,k<=255/\i=i_ k/\Hid (x/2^(k+1)=y/2^(k+1)))\/(i=i_ (-1)/\Hid (x=y)))) (fun i _=>(intOf i+1).toNat)
 case atStart=>exact⟨h0,.inl ⟨255,by omega,rfl,h_ (Nm.yP hx hy)⟩⟩
 case round=>
  obtain⟨hs,⟨k,hk,rfl,HK⟩|⟨rfl,HK⟩⟩:=hrel
  ·have g1:=Nm.gV x k;have g2:=Nm.gV y k;have hk':k<256:=by omega
   go_wp2_with fail
   refine wp_region_quiet_below (by kernel_rfl) (by kernel_rfl) ?_
   repeat(first
    | (go_big_quiet_want;(with_reducible first|refine og _ rfl _ rfl _ hs.a.cls ?_|refine og _ rfl _ rfl _ hs.b.cls ?_);(simp only[Act.put,List.setIfInBounds_toArray,List.set_cons_zero,List.set_cons_succ]);go_big_quiet_on)
    | go_big_quiet_step ((go_at_call 136;exact Calls.regrown_of (pS _ _ (by omega) _))))
   refine wpQuiet_nil ?_;intro _ hw';obtain⟨p,hw''⟩:=hw';subst hw'';have hs2:=hs.on (below_regrown wr p.d p.os);clear hs;generalize Sort.grow (redrawn wr p.d) p.os=w2 at*;clear p;by_cases hb:Nm.bit x k=Nm.bit y k
   ·have hq:((Nm.bit x k:Int) != (Nm.bit y k:Int))=false:=(by rw[hb];simp);have hn:=Nm.FZ HK.out hb;have HN:=h_ hn;clear hb hn;(go_wp2_with fail);go_roundw
    case rel=>
     by_cases hk0:k=0;subst hk0;exact⟨hs2,.inr ⟨rfl,h_ (by have:=HN.out;simpa using this)⟩⟩;exact⟨hs2,.inl ⟨k-1,by omega,congrArg (Value.int .i64) (by omega),by rw[show k-1+1=k by omega];exact HN⟩⟩
    case measure=>first|(simp[intOf];done)|(simp[intOf];omega)
   ·have hq:((Nm.bit x k:Int) != (Nm.bit y k:Int))=true:=by simp;omega
    have hn:decide (Nm.bit x k<Nm.bit y k)=decide (x<y):=decide_eq_decide.2 ⟨fun h=>Nm.Mn HK.out h,fun h=>by
     rcases Nat.lt_or_ge (Nm.bit y k) (Nm.bit x k)with h'|h'
     exact absurd h (Nm.Is HK.out h');omega⟩
    have HN:=h_ hn;clear hb hn;(go_wp2_with fail);refine wp_region_quiet_below (by kernel_rfl) (by kernel_rfl) ?_
    repeat(first
     | (go_big_quiet_want;(with_reducible first|refine og _ rfl _ rfl _ hs2.a.cls ?_|refine og _ rfl _ rfl _ hs2.b.cls ?_);(simp only[Act.put,List.setIfInBounds_toArray,List.set_cons_zero,List.set_cons_succ]);go_big_quiet_on)
     | go_big_quiet_step ((go_at_call 136;exact Calls.regrown_of (pS _ _ (by omega) _))))
    refine wpQuiet_nil ?_;intro _ hw';obtain⟨p,hw''⟩:=hw';subst hw'';have hs3:=hs2.on (below_regrown w2 p.d p.os);(go_wp2_with fail);go_ret;exact⟨congrArg (fun b=>Ending.returned (.bool b)) HN.out,hs3.below⟩
  ·go_wp2_with fail
   go_ret;exact⟨congrArg (fun b=>Ending.returned (.bool b)) (by rw[HK.out];simp),hs.below⟩
def cQ(f:Nat->Nat):Array Value:=((List.range 32).map fun i=>Value.int .u8 (f i:Nat)).toArray
theorem JT(f:Nat->Nat){j:Nat}(h:j<32):(cQ f)[j]?=some (.int .u8 (f j:Nat)):=by simp[cQ,h]
theorem Fc(f:Nat->Nat):(cQ f).size=32:=by simp[cQ]
theorem aZ:(Tryz.prog.info? 28).map (·.size)=some 32:=by kernel_rfl
theorem Hn(f:Nat->Nat){k:Nat}(hk:k<32)(w:World):(Instr.index 28 (.agg (cQ f)) (i_ k)).run Tryz.prog w=.ok (.int .u8 (f k:Nat)) w:=by
 obtain rfl|rfl|rfl|rfl|rfl|rfl|rfl|rfl|rfl|rfl|rfl|rfl|rfl|rfl|rfl|rfl|rfl|rfl|rfl|rfl|rfl|rfl|rfl|rfl|rfl|rfl|rfl|rfl|rfl|rfl|rfl|rfl:k=0\/k=1\/k=2\/k=3\/k=4\/k=5\/k=6\/k=7\/k=8\/k=9\/k=10\/k=11\/k=12\/k=13\/k=14\/k=15\/k=16\/k=17\/k=18\/k=19\/k=20\/k=21\/k=22\/k=23\/k=24\/k=25\/k=26\/k=27\/k=28\/k=29\/k=30\/k=31:=by omega
 all_goals rfl
section
variable{w:World}{ops:Array Oper}{rest:List Oper}{o:Oper}{a:Act}{Q:Exit->Act->World->Prop}
theorem MH(hgd:o.guard=none)(x:Operand)(ho:o.op=.load 28 x)(g:Nat)(hx:a.eval x=af g)(f:Nat->Nat)(hg:Has w g (cQ f) 28)(h:wpList Tryz.prog ops Q rest (a.put o.dst (.agg (cQ f))) w):wpList Tryz.prog ops Q (o::rest) a w:=
 wpList_load_row hgd 28 x ho g hx 28 (cQ f) (0,0) _ hg.out Tryz.underlying28 rfl (aZ.trans (by rw[Fc])) h
end
structure Fh (w wr:World) (R O s:Nat):Prop where
 below:Bl w wr
 r:Has wr R (aa 0) 26
 o:Has wr O (aa s) 26
variable{w wr:World}{R O s H y:Nat}
theorem Fh.put(h:Fh w wr R O s)(i s':Nat){v:Value}(hR:R≠O)(hO:w.heap.size<=O)(e:(aa s).setIfInBounds i v=aa s'):Fh w (wr.setCell ⟨O,i,none⟩ v) R O s':=⟨h.below.setCell hO _,h.r.other _ _ hR,by rw[<-e];exact h.o.set _⟩
theorem Fh.drew(h:Fh w wr R O s):Fh w wr.drew R O s:=⟨h.below.drew,h.r,h.o⟩
theorem LU(v m:Nat)(hv:v<256)(hm:m<=56):v<<<m<18446744073709551616:=by
 rw[Nat.shiftLeft_eq];have h2:2^m<=2^56:=Nat.pow_le_pow_right (by decide) hm
 calc v*2^m<=255*2^56:=Nat.mul_le_mul (by omega) h2
  _<18446744073709551616:=by decide
theorem pX(u v m:Nat)(hu:u<18446744073709551616)(hv:v<256)(hm:m<=56):bits .or .u64 (u:Int) (IntKind.u64.wrap (IntKind.u64.wrap (v:Int)*2^m))=((u|||v<<<m:Nat):Int):=by
 have h:=LU v m hv hm;have e1:IntKind.u64.wrap (v:Int)=(v:Int):=by rw[IntKind.wrap_u64];omega
 have e2:(v:Int)*2^m=((v<<<m:Nat):Int):=by rw[Nat.shiftLeft_eq];simp
 have e3:IntKind.u64.wrap ((v<<<m:Nat):Int)=((v<<<m:Nat):Int):=by
  generalize v<<<m=n at h;rw[IntKind.wrap_u64];omega
 rw[e1,e2,e3,sZ _ _ hu h]
theorem OX(x i v:Nat)(hi:i<32)(hv:v<256):(aa x).setIfInBounds (i/8) (ay ((Nm.wd x (i/8)|||v<<<(8*(i%8)):Nat):Int))=aa (x|||v<<<(8*i)):=by
 unfold aa;rw[nX _ _ _ (by omega)];apply pc;intro j _;rw[Nm.N9 x v i j hv];unfold bY;split
 ·rename_i h;rw[h]
 rfl
theorem rN(f:Nat->Nat)(hf:∀i,f i<256)(w:World):ak 203 #[.agg (cQ f)] w (.agg (aa (Nm.bK f 32))):=by
 have HF:=h_ hf;clear hf;go_enter Tryz.func203,Tryz.ntmps203;go_upto_region 2 with fail
 generalize hw1:World.alloc _ _=w1;have hA:Has w1 w.heap.size (cQ f) 28:=by rw[<-hw1];exact((Has.new _ _).alloc _).alloc _
 have h0:Fh w w1 (w.heap.size+1) (w.heap.size+1+1) 0:=by
  rw[<-hw1];exact⟨(aY.alloc (by simp) _).alloc (by simp;omega) _,(Has.R6 _ (aa 0) _).alloc _,Has.Sw _ _ (aa 0) _⟩
 clear hw1;generalize hB:w.heap.size+1+1=O at*;generalize hC:w.heap.size+1=R at*;have HO:Hid (w.heap.size<=O):=h_ (by omega);have HR:Hid (w.heap.size<=R):=h_ (by omega);have H3:Hid (R≠O):=h_ (by omega);clear hB hC;go_wp2_with (with_reducible refine MH rfl _ rfl _ rfl f hA ?_)
 clear hA;go_loopw [7] (fun i wr=>∃k:Nat,k<=32/\i=i_ k/\Fh w wr R O (Nm.bK f k)) (fun i _=>32-(intOf i).toNat)
 case atStart=>exact⟨0,by omega,rfl,h0⟩
 case round=>
  obtain⟨k,hk,rfl,hs⟩:=hrel;by_cases hlt:k<32
  ·have hidx:=Hn f hlt;have co:=hs.o.num (j:=k/8) (by omega);have fo:=hs.o.free (k/8);go_wp2_with fail
   go_region
   rw[pX _ _ _ (Nm.dx _ _) (HF.out k) (by omega)];have hA2:=hs.put (k/8) (Nm.bK f k|||f k<<<(8*k)) H3.out HO.out (OX (Nm.bK f k) k (f k) hlt (HF.out k));clear co fo hidx;generalize World.setCell _ _ _=w2 at*;go_wp2_with fail
   go_roundw
   case rel=>exact⟨k+1,by omega,by go_num,hA2.drew⟩
   case measure=>simp[intOf];omega
  ·obtain rfl:k=32:=by omega
   go_wp2_with (first
    | (with_reducible refine aK rfl _ rfl _ rfl _ hs.o rfl ?_)
    | (with_reducible refine bg rfl _ _ rfl _ _ rfl rfl _ hs.r rfl ?_))
   exact bodyPost_ret (v:=.agg (aa (Nm.bK f 32))) (fw Tryz.results203 _ _ _ rfl (hs.r.row _)) rfl ⟨rfl,below_setRow hs.below HR.out _⟩
theorem kq{P:Program}{f:FuncId}{args:Array Value}{n:Nat}{v:Value}(h:Calls P f args (w.drewN n) fun e w'=>e=.returned v/\w.drewN n=w'):Calls P f args (w.drewN n) fun e w''=>e=.returned v/\∃m,w''=w.drewN m:=
 h.mono fun _ _ ⟨he,hm⟩=>⟨he,n,hm.symm⟩
theorem isNaN(x:Nat)(w:World):aG 167 #[ay (x:Int)] w fun e w'=>e=.returned (.bool false)/\w=w':=by
 go_enter Tryz.func167,Tryz.ntmps167;go_wp2_with fail
 go_ret;simp
theorem zM(x y:Nat)(w:World):aG 137 #[ay (x:Int),ay (y:Int)] w fun e w'=>e=.returned (i_ (Nm.cmp x y))/\w=w':=by
 have h:(x<y/\Nm.cmp x y = -1)\/(¬x<y/\y<x/\Nm.cmp x y=1)\/(¬x<y/\¬y<x/\Nm.cmp x y=0):=by
  unfold Nm.cmp;rcases Nat.lt_trichotomy x y with h|h|h
  exact .inl ⟨h,by rw[if_pos h]⟩;subst h;exact .inr (.inr ⟨by omega,by omega,by rw[if_neg (by omega),if_neg (by omega)]⟩);exact .inr (.inl ⟨by omega,h,by rw[if_neg (by omega),if_pos h]⟩)
 rcases h with⟨h1,h2⟩|⟨h1,h2,h3⟩|⟨h1,h2,h3⟩
 all_goals
  first|rw[h2]|rw[h3]
  first|clear h3|clear h2
  go_enter Tryz.func137,Tryz.ntmps137;go_wp2_with (go_at_call 167;refine(isNaN _ _).mono ?_;rintro e w' ⟨rfl,rfl⟩)
  go_ret;exact⟨rfl,rfl⟩
theorem compare(x y:Nat)(hx:x<Nm.ai)(hy:y<Nm.ai)(w:World):ak 104 #[.agg (aa x),.agg (aa y)] w (i_ (Nm.cmp x y)):=by
 go_enter Tryz.func104,Tryz.ntmps104;go_wp2_with fail
 generalize hw1:World.alloc _ _=w1;have h0:jK w w1 w.heap.size (w.heap.size+1) x y:=by rw[<-hw1];exact jK.start w x y
 clear hw1;generalize w.heap.size+1=B at*;generalize hC:w.heap.size=A at*;have HC:=h_ hC;clear hC;have hst:x/2^(64*(3+1))=y/2^(64*(3+1)):=Nm.yP hx hy;have HST:=h_ hst;clear hst;go_loopw [5] (fun i wr=>∃k:Nat,k<=3/\i=i_ k/\jK w wr A B x y/\Hid (x/2^(64*(k+1))=y/2^(64*(k+1)))) (fun i _=>(intOf i).toNat)
 case atStart=>exact⟨3,by omega,rfl,h0,HST⟩
 case round=>
  obtain⟨k,hk,rfl,hs,HK⟩:=hrel;by_cases hk0:0<k
  ·have ca:=hs.a.num (j:=k) (by omega);have cb:=hs.b.num (j:=k) (by omega);by_cases he:Nm.wd x k=Nm.wd y k
   ·have hn:=Nm.D_ HK.out he;have HN:=h_ hn;have hq:((Nm.wd x k:Int) != (Nm.wd y k:Int))=false:=(by rw[he];simp);clear hn he;generalize Nm.wd x k=a at*;generalize Nm.wd y k=b at*;(go_wp2_with fail);go_quiet (fail)
    have hs2:=hs.on (below_drewN (Below.refl _ wr) nq);(go_wp2_with fail);go_roundw
    case rel=>exact⟨k-1,by omega,congrArg (Value.int .i64) (by omega),hs2,by rw[show k-1+1=k by omega];exact HN⟩
    case measure=>simp[intOf];omega
   ·have hn:=Nm.Gj HK.out he;have HN:=h_ hn;have hq:((Nm.wd x k:Int) != (Nm.wd y k:Int))=true:=(by simp;omega);have hcmp:=fun w=>zM (Nm.wd x k) (Nm.wd y k) w
    clear hn he;generalize Nm.wd x k=a at*;generalize Nm.wd y k=b at*;have HCM:=h_ hcmp;clear hcmp;(go_wp2_with fail);go_quiet (fail)
    have hs2:=hs.on (below_drewN (Below.refl _ wr) nq);have ca2:=(below_drewN (Below.refl wr.heap.size wr) nq).cell (p:=⟨A,k,none⟩) hs.a.lt;have cb2:=(below_drewN (Below.refl wr.heap.size wr) nq).cell (p:=⟨B,k,none⟩) hs.b.lt;rw[ca]at ca2;rw[cb]at cb2;clear ca cb hs;generalize wr.drewN nq=w2 at*;(go_wp2_with fail);go_quiet ((go_at_call 137;exact kq (HCM.out _)))
    have hs3:=hs2.on (below_drewN (Below.refl _ w2) nq);(go_wp2_with fail);go_ret;exact⟨congrArg (fun n=>Ending.returned (i_ n)) HN.out,hs3.below⟩
  ·obtain rfl:k=0:=by omega
   have ca:=hs.a.num (j:=0) (by omega);have cb:=hs.b.num (j:=0) (by omega);have hn:=Nm.Ld HK.out;have HN:=h_ hn;have hcmp:=fun w=>zM (Nm.wd x 0) (Nm.wd y 0) w
   clear hn;generalize Nm.wd x 0=a at*;generalize Nm.wd y 0=b at*;have HCM:=h_ hcmp;clear hcmp;go_wp2_with (go_at_call 137;((with_reducible refine(HCM.out _).mono ?_));rintro e w' ⟨rfl,rfl⟩)
   go_ret;exact⟨congrArg (fun n=>Ending.returned (i_ n)) HN.out,hs.below⟩
theorem Ap(x y:Nat):decide (Nm.cmp x y<0)=decide (x<y):=by
 unfold Nm.cmp;apply decide_eq_decide.2;split;simp[*]
 ·split<;>simp[*]
theorem less(x y:Nat)(hx:x<Nm.ai)(hy:y<Nm.ai)(w:World):ak 200 #[.agg (aa x),.agg (aa y)] w (.bool (decide (x<y))):=by
 have hq:=Ap x y;have hc:=fun w=>compare x y hx hy w
 generalize Nm.cmp x y=c at*;have HQ:=h_ hq;have HC:=h_ hc;clear hq hc;go_enter Tryz.func200,Tryz.ntmps200;go_upto_region 1 with fail
 generalize hw1:World.alloc _ _=w1;have h0:jK w w1 w.heap.size (w.heap.size+1) x y:=by rw[<-hw1];exact jK.start w x y
 clear hw1;go_wp2_with (with_reducible first|refine aK rfl _ rfl _ rfl _ h0.a rfl ?_|refine aK rfl _ rfl _ rfl _ h0.b rfl ?_)
 refine au (HC.out _) fun w2 hb=>?_;have h2:=h0.on hb;go_wp2_with fail
 go_ret;exact⟨congrArg (fun b=>Ending.returned (.bool b)) HQ.out,h2.below⟩
theorem Nm.Tx(U j:Nat):U/2^(8*j)=U/2^(8*(j+1))*256+U/2^(8*j)%256:=by rw[show 8*(j+1)=8*j+8 by omega,Nat.pow_add,<-Nat.div_div_eq_div_mul];generalize U/2^(8*j)=m;omega
theorem Nm.up8{U j:Nat}(hU:U<Nm.ai):Nm.up (U/2^(8*(j+1))) 8=U/2^(8*(j+1))*256:=by rw[Nm.oo,Nat.mod_eq_of_lt];rw[show 8*(j+1)=8+8*j by omega,Nat.pow_add,<-Nat.div_div_eq_div_mul];have:U/2^8/2^(8*j)<=U/2^8:=Nat.div_le_self _ _;generalize U/2^8/2^(8*j)=m at*;unfold Nm.ai at*;omega
theorem M9(y b:Nat)(hb:b<256):(aa (y*256)).setIfInBounds 0 (ay ((Nm.wd (y*256) 0+b:Nat):Int))=aa (y*256+b):=by
 unfold aa;rw[nX _ 0 _ (by omega)];apply pc;intro j hj;unfold bY;rcases Nm.four hj with rfl|rfl|rfl|rfl
 rw[if_pos rfl,Nm.mY,Nm.mY];omega;rw[if_neg (by omega),Nm.rr,Nm.rr];omega;rw[if_neg (by omega),Nm.pK,Nm.pK];omega;rw[if_neg (by omega),Nm.qW,Nm.qW];omega
structure Nb (w wr:World) (H R O:Nat) (f:Nat->Nat) (y:Nat):Prop where
 below:Bl w wr
 h:Has wr H (cQ f) 28
 r:Has wr R (aa 0) 26
 o:Has wr O (aa y) 26
variable{f:Nat->Nat}
theorem Nb.on{w':World}(h:Nb w wr H R O f y)(hb:Bl wr w'):Nb w w' H R O f y:=⟨ah h.below hb,h.h.on hb,h.r.on hb,h.o.on hb⟩
theorem Nb.row(h:Nb w wr H R O f y)(z:Nat)(hH:H≠O)(hR:R≠O)(hO:w.heap.size<=O):Nb w (wr.setRow O (aa z)) H R O f z:=⟨below_setRow h.below hO _,h.h.R1 _ _ hH,h.r.R1 _ _ hR,h.o.row _⟩
theorem Nb.add{b z:Nat}(h:Nb w wr H R O f (y*256))(hb:b<256)(hz:z=y*256+b)(hH:H≠O)(hR:R≠O)(hO:w.heap.size<=O):Nb w (wr.setCell ⟨O,0,none⟩ (ay ((Nm.wd (y*256) 0+b:Nat):Int))) H R O f z:=by have e:=h.o.set (i:=0) (ay ((Nm.wd (y*256) 0+b:Nat):Int));rw[M9 y b hb,<-hz]at e;exact⟨h.below.setCell hO _,h.h.other _ _ hH,h.r.other _ _ hR,e⟩
theorem Nb.drew(h:Nb w wr H R O f y):Nb w wr.drew H R O f y:=⟨h.below.drew,h.h,h.r,h.o⟩
theorem Rx(f:Nat->Nat)(hf:∀i,f i<256)(w:World):ak 148 #[.agg (cQ f)] w (.agg (aa (Nm.bK f 32))):=by
 obtain⟨U,hU⟩:∃U,U=Nm.bK f 32:=⟨_,rfl⟩;have hUb:U<Nm.ai:=by rw[hU];exact Nm.Az f hf 32
 have hby:∀k,k<32->U/2^(8*k)%256=f k:=fun k hk=>by
  have:=Nm.Qe f hf hk;rw[<-hU]at this;exact this
 have HBY:=h_ hby;have HF:=h_ hf;have YX:=h_ hUb;rw[<-hU];clear hU hby hf hUb;go_enter Tryz.func148,Tryz.ntmps148;go_upto_region 1 with fail
 generalize hw0:World.alloc _ _=w0;have a1:Has w0 w.heap.size (cQ f) 28:=by rw[<-hw0];exact(Has.new _ _).alloc _
 have a2:Has w0 (w.heap.size+1) (aa 0) 26:=by rw[<-hw0];exact Has.R6 _ _ _
 have a0:Below w.heap.size w w0:=by rw[<-hw0];exact aY.alloc (by simp) _
 have asz:w0.heap.size=w.heap.size+1+1:=by rw[<-hw0];simp
 clear hw0;go_upto_region 2 with fail
 generalize hw1:World.alloc _ _=w1
 have h0:Nb w w1 w.heap.size (w.heap.size+1) (w.heap.size+1+1) f 0:=by
  rw[<-hw1];exact⟨a0.alloc a0.size _,a1.alloc _,a2.alloc _,by have:=Has.R2 (w:=w0) 26;rwa[asz]at this⟩
 clear hw1 a1 a2 a0;generalize hO':w.heap.size+1+1=O at*;have hHO:w.heap.size≠O:=by omega
 have Ty:w.heap.size+1≠O:=by omega
 have hO:w.heap.size<=O:=by omega
 have hR:w.heap.size<=w.heap.size+1:=by omega
 have K1:=h_ hHO;have K2:=h_ Ty;have K3:=h_ hO;have K4:=h_ hR;clear hHO Ty hO hR asz hO';generalize hR':w.heap.size+1=R at*;generalize Ym:w.heap.size=H at*;have K5:=h_ Ym;clear hR' Ym;go_wp2_with fail
 go_loopw [4] (fun i wr=>∃k:Nat,k<=32/\i=i_ ((k:Int)-1)/\Nb w wr H R O f (U/2^(8*k))) (fun i _=>(intOf i+1).toNat)
 case atStart=>exact⟨32,by omega,rfl,by rw[Nat.div_eq_of_lt (by rw[show 2^(8*32)=Nm.ai by decide];exact YX.out)];exact h0⟩
 case round=>
  obtain⟨k,hk,rfl,hs⟩:=hrel;clear h0;by_cases h0:0<k
  ·obtain⟨j,rfl⟩:∃j,k=j+1:=⟨k-1,by omega⟩;rw[show((j+1:Nat):Int)-1=(j:Nat) by omega];have hj:j<32:=by omega
   have hjI:(j:Int)<32:=by omega
   obtain⟨y,hy⟩:∃y,y=U/2^(8*(j+1)):=⟨_,rfl⟩;have e1:Nm.up y 8=y*256:=by rw[hy];exact Nm.up8 YX.out
   have hyb:y<Nm.ai:=by rw[hy];exact Nat.lt_of_le_of_lt (Nat.div_le_self _ _) YX.out
   have e2:U/2^(8*j)=y*256+f j:=by rw[Nm.Tx,HBY.out j hj,hy]
   have cM:=AD y 8 hyb (by omega);rw[e1]at cM;have CM:=h_ cM;rw[<-hy]at hs;have E2:=h_ e2;have hfj:=HF.out j;have hcl:∀w',Has w' H (cQ f) 28->w'.cell? ⟨H,j,none⟩=some (.int .u8 (f j:Nat)):=fun w' h=>(h.cell j).trans (JT f hj)
   have Yn:=h_ hcl;clear hy e1 e2 cM hyb hcl h0;go_wp2_with (first|(with_reducible refine aK rfl _ rfl _ rfl _ hs.o rfl ?_))
   refine au (CM.out _) fun w3 hb3=>?_;replace hs:=hs.on hb3;clear hb3;go_upto_region 6 with(with_reducible refine bg rfl _ _ rfl _ _ rfl rfl _ hs.o rfl ?_)
   replace hs:=hs.row (y*256) K1.out K2.out (by rw[K5.out];exact K3.out);generalize World.setRow _ _ _=w4 at*;have c1:=hs.o.num (j:=0) (by omega);have c2:=Yn.out _ hs.h;have c3:=hs.o.free 0
   have eW:IntKind.u64.wrap (((Nm.wd (y*256) 0:Nat):Int)+((f j:Nat):Int))=((Nm.wd (y*256) 0+f j:Nat):Int):=by
    rw[Nm.mY,IntKind.wrap_u64];omega
   have hs2:=hs.add (b:=f j) (z:=U/2^(8*j)) hfj E2.out K1.out K2.out (by rw[K5.out];exact K3.out);generalize Nm.wd (y*256) 0=g at*;obtain⟨fj,Xa⟩:∃fj,fj=f j:=⟨_,rfl⟩;rw[<-Xa]at c2 eW hs2 hfj;rw[<-eW]at hs2;clear Xa E2 Yn eW;go_wp2_with fail
   go_region
   all_goals
    first|go_wp2_with fail|skip
    go_roundw
    case rel=>exact⟨j,by omega,rfl,hs2.drew⟩
    case measure=>simp[intOf]
  ·obtain rfl:k=0:=by omega
   rw[Nat.mul_zero,Nat.pow_zero,Nat.div_one]at hs;go_wp2_with (with_reducible first|refine aK rfl _ rfl _ rfl _ hs.o rfl ?_|refine bg rfl _ _ rfl _ _ rfl rfl _ hs.r rfl ?_)
   exact bodyPost_ret (v:=.agg (aa U)) (fw Tryz.results148 _ _ _ rfl (hs.r.row _)) rfl ⟨rfl,below_setRow hs.below (by rw[K5.out];exact K4.out) _⟩
variable{o:Oper}{a:Act}
theorem dG{ops:Array Oper}{rest:List Oper}{Q:Exit->Act->World->Prop}(hw:Region.wanted o (yielded ops a.tmps)=true)(x:Operand)(ho:o.op=.load 26 x)(g:Nat)(hx:a.eval x=af g)(cs:Array Value)(hg:Has w g cs 26)(hs:cs.size=4)(h:wpList Tryz.prog ops Q rest (a.put o.dst (.agg cs)) w):wpList Tryz.prog ops Q (o::rest) a w:=
 BigFrame.wpList_want hw fun _ hK=>wp_load_row 26 x ho g hx 26 cs (0,0) _ hg.out Tryz.underlying26 rfl (cy.trans (by rw[hs])) (hK _ _ h)
theorem PL{C:World->Prop}{K:Act->Prop}(x:Operand)(ho:o.op=.load 28 x)(g:Nat)(hx:a.eval x=af g)(f:Nat->Nat)(hC:∀w',C w'->Has w' g (cQ f) 28)(hk:K (a.put o.dst (.agg (cQ f)))):o.quiet Tryz.prog a C K:=
 ⟨_,fun w' hw'=>by
  unfold Oper.quietAt;have hl:(loadVar 28 ⟨g,0,none⟩).run Tryz.prog w'=.ok (.agg (cQ f)) w':=run_loadVar_row w' g 28 28 (cQ f) (0,0) _ (hC w' hw').out Tryz.underlying28 rfl (aZ.trans (by rw[Fc]))
  have:(execOp a.eval o).run Tryz.prog w'=.ok (.value (.agg (cQ f))) w':=by
   unfold execOp;simp only[ho,hx,Instr.loadAt,Instr.sureAddr,Sem.run_bind,Sem.run_pure,Result.andThen_ok,hl]
  rw[this];exact⟨rfl,rfl⟩,hk⟩
theorem meets(f:Nat->Nat)(a:Nat)(hf:∀i,f i<256)(ha:a<Nm.ai)(w:World):ak 182 #[.agg (cQ f),.agg (aa a)] w (.bool !decide (a<Nm.bK f 32)):=by
 have KF:=h_ (rN f hf);have hU:Nm.bK f 32<Nm.ai:=Nm.Az f hf 32;have KL:=h_ (less a _ ha hU);generalize Nm.bK f 32=U at*;clear hf ha hU;go_enter Tryz.func182,Tryz.ntmps182;go_upto_region 1 with fail
 generalize hw1:World.alloc _ _=w1;have hB:Bl w w1:=by rw[<-hw1];exact aY.alloc (by simp) _
 have h1:Has w1 w.heap.size (cQ f) 28:=by rw[<-hw1];exact(Has.new _ _).alloc _
 have h2:Has w1 (w.heap.size+1) (aa a) 26:=by rw[<-hw1];exact Has.R6 _ _ _
 clear hw1;refine wp_region_quiet_below (by kernel_rfl) (by kernel_rfl) ?_
 repeat(first
  | (go_big_quiet_want;(with_reducible first|refine og _ rfl _ rfl _ h2.cls ?_|refine PL _ rfl _ rfl _ h1.cls ?_);(simp only[Act.put,List.setIfInBounds_toArray,List.set_cons_zero,List.set_cons_succ]);go_big_quiet_on)
  | go_big_quiet_step (first|(go_at_call 203;exact Calls.regrown_of (KF.out _))|(go_at_call 200;exact Calls.regrown_of (KL.out _))))
 refine wpQuiet_nil ?_;intro _ hw';obtain⟨p,hw''⟩:=hw';subst hw'';have hB2:=hB.trans ((below_regrown w1 p.d p.os).mono hB.size);go_wp2_with fail
 go_ret;exact⟨rfl,hB2⟩
theorem Qn(b:Int)(z:Nat)(low over:Bool)(KD:Hid (b_ 162 #[i_ b] (.tuple #[.agg (aa z),.bool low,.bool over])))(w:World):ak 202 #[i_ b] w (.tuple #[.agg (aa z),.bool (!low&&!over)]):=by
 cases low
 all_goals
  go_enter Tryz.func202,Tryz.ntmps202;go_upto_region 1 with fail
  generalize hw1:World.alloc _ _=w1;have hN:Has w1 w.heap.size (aa 0) 26:=by rw[<-hw1];exact Has.R2 _
  have hb:Below w.heap.size w w1:=dd hw1;clear hw1;go_wp2_with fail
  refine au (KD.out _) fun w3 hb3=>?_;replace hN:=hN.on hb3;replace hb:=ah hb hb3;clear hb3;have hZ:=Has.R2 (w:=w3) 26;go_upto_region 2 with(with_reducible refine bg rfl _ _ rfl _ _ rfl rfl _ hZ rfl ?_)
  generalize hw4:World.setRow _ _ _=w4;have hb4:Below w3.heap.size w3 w4:=cU hw4;have hD:Has w4 w3.heap.size (aa z) 26:=by rw[<-hw4];exact hZ.row _
  replace hN:=hN.on hb4;replace hb:=ah hb hb4;generalize w3.heap.size=D at*;clear hw4 hb4 hZ;go_wp2_with (with_reducible first|refine aK rfl _ rfl _ rfl _ hD rfl ?_|refine bg rfl _ _ rfl _ _ rfl rfl _ hN rfl ?_)
  exact bodyPost_ret (iT Tryz.results202 _ _ _ _ rfl rfl (hN.row _)) rfl ⟨rfl,below_setRow hb (Nat.le_refl _) _⟩
theorem BO{x k:Nat}(hx:x<Nm.ai)(hk:k<4):Nm.wd (Nm.ai-1-x) k=18446744073709551615-Nm.wd x k:=by
 unfold Nm.ai at*;rcases Nm.four hk with rfl|rfl|rfl|rfl
 rw[Nm.mY,Nm.mY];omega;rw[Nm.rr,Nm.rr];omega;rw[Nm.pK,Nm.pK];omega;rw[Nm.qW,Nm.qW];omega
theorem Ht(v:Nat)(hv:v<18446744073709551616):bits .xor .u64 (if IntKind.u64.signed=true then -1 else IntKind.u64.max) (v:Int)=((18446744073709551615-v:Nat):Int):=by show IntKind.u64.wrap ((BitVec.ofInt 64 (if IntKind.u64.signed=true then -1 else IntKind.u64.max)^^^BitVec.ofInt 64 (v:Int)).toNat:Int)=_;rw[show BitVec.ofInt 64 (if IntKind.u64.signed=true then -1 else IntKind.u64.max)=BitVec.allOnes 64 by decide,BitVec.allOnes_xor,BitVec.ofInt_natCast,BitVec.toNat_not,BitVec.toNat_ofNat,Nat.mod_eq_of_lt hv,IntKind.wrap_u64];omega
theorem zJ(x:Nat){k:Nat}(hk:k<4)(w:World):(Instr.index 26 (.agg (aa x)) (i_ k)).run Tryz.prog w=.ok (ay (Nm.wd x k:Nat)) w:=by rcases Nm.four hk with rfl|rfl|rfl|rfl<;>rfl
theorem not(x:Nat)(hx:x<Nm.ai)(w:World):ak 190 #[.agg (aa x)] w (.agg (aa (Nm.ai-1-x))):=by
 go_enter Tryz.func190,Tryz.ntmps190;go_upto_region 2 with fail
 generalize hw1:World.alloc _ _=w1
 have h0:Acc w w1 w.heap.size w.heap.size (w.heap.size+1) (w.heap.size+1+1) x x (aw fun _=>0):=by
  rw[<-hw1];exact Acc.Ux w x (aw fun _=>0)
 clear hw1;generalize hA:w.heap.size+1+1=O at*;generalize hB:w.heap.size+1=R at*;generalize hC:w.heap.size=A at*;have T2:A≠O:=by omega
 have Ty:R≠O:=by omega
 have hO:w.heap.size<=O:=by omega
 have hR:w.heap.size<=R:=by omega
 have HO:=h_ hO;have HR:=h_ hR;have H1:=h_ T2;have H3:=h_ Ty;clear hA hB hC hO hR T2 Ty;go_wp2_with (with_reducible refine aK rfl _ rfl _ rfl _ h0.a rfl ?_)
 go_loopw [7] (fun i wr=>∃(k:Nat)(g:Nat->Nat),k<=4/\i=i_ k/\Acc w wr A A R O x x (aw g)/\Hid (∀j,j<k->g j=Nm.wd (Nm.ai-1-x) j)) (fun i _=>4-(intOf i).toNat)
 case atStart=>exact⟨0,fun _=>0,by omega,rfl,h0,h_ fun j hj=>by omega⟩
 case round=>
  obtain⟨k,g,hk,rfl,hs,HG⟩:=hrel;by_cases hlt:k<4
  ·have hidx:=zJ x hlt;have fo:=hs.o.free k;have co:=hs.o.word hlt;have hwl:=Nm.dx x k;have hn:=BO hx hlt;generalize Nm.wd x k=v at*;have HN:=h_ hn;have HW:=h_ hwl;clear hn hwl;go_wp2_with fail
   rw[Ht v HW.out,<-HN.out];exact⟨⟨k+1,_,by omega,by go_num,hs.R9 k (Nm.wd (Nm.ai-1-x) k) hlt H1.out H1.out H3.out HO.out,wP HG⟩,by simp[intOf];omega⟩
  ·obtain rfl:k=4:=by omega
   have e:=ko HG;rw[e]at hs;clear e
   go_wp2_with (first
    | (with_reducible refine aK rfl _ rfl _ rfl _ hs.o rfl ?_)
    | (with_reducible refine bg rfl _ _ rfl _ _ rfl rfl _ hs.r rfl ?_))
   exact bodyPost_ret (v:=.agg (aa (Nm.ai-1-x))) (fw Tryz.results190 _ _ _ rfl (hs.r.row _)) rfl ⟨rfl,below_setRow hs.below HR.out _⟩
theorem pG(x y:Nat)(hx:x<Nm.ai)(hy:y<Nm.ai)(w:World):ak 115 #[.agg (aa x),.agg (aa y)] w (.tuple #[.agg (aa ((x+y)%Nm.ai)),.bool (decide (Nm.ai<=x+y))]):=by
 go_enter Tryz.func115,Tryz.ntmps115;go_wp2_with fail
 generalize hw1:World.alloc _ _=w1
 have h0:Acc w w1 w.heap.size (w.heap.size+1) (w.heap.size+1+1) (w.heap.size+1+1+1) x y (aa 0):=by
  rw[<-hw1];exact Acc.start w x y (aa 0)
 clear hw1;generalize hA:w.heap.size+1+1+1=O at*;generalize hB:w.heap.size+1+1=R at*;generalize hC:w.heap.size+1=B at*;generalize hD:w.heap.size=A at*;have h1:A<B:=by omega
 have h2:B<R:=by omega
 have h3:R<O:=by omega
 have T2:A≠O:=by omega
 have Vn:B≠O:=by omega
 have Ty:R≠O:=by omega
 have hO:w.heap.size<=O:=by omega
 have HO:=h_ hO;have hR:w.heap.size<=R:=by omega
 have HR:=h_ hR;have H1:=h_ T2;have H2:=h_ Vn;have H3:=h_ Ty;clear hA hB hC hO hD hR h1 h2 h3 T2 Vn Ty;go_loopw [7,8] (fun c i wr=>∃k:Nat,k<=256/\i=i_ k/\c=i_ (Nm.cx x y k:Nat)/\Acc w wr A B R O x y (aa (Nm.gh x y k))) (fun _ i _=>256-(intOf i).toNat)
 case atStart=>exact⟨0,by omega,rfl,by rw[(Nm.zk x y).1];rfl,by rw[(Nm.zk x y).2];exact h0⟩
 case round=>
  obtain⟨k,hk,rfl,rfl,hs⟩:=hrel;by_cases hlt:k<256
  ·have g1:=Nm.gV x k;have g2:=Nm.gV y k;have g3:=Nm.PC x y k;go_wp2_with fail
   refine wp_region_quiet_below (by kernel_rfl) (by kernel_rfl) ?_
   repeat(first
    | (go_big_quiet_want;(with_reducible first|refine og _ rfl _ rfl _ hs.a.cls ?_|refine og _ rfl _ rfl _ hs.b.cls ?_);(simp only[Act.put,List.setIfInBounds_toArray,List.set_cons_zero,List.set_cons_succ]);go_big_quiet_on)
    | go_big_quiet_step ((go_at_call 136;exact Calls.regrown_of (pS _ _ (by omega) _))))
   refine wpQuiet_nil ?_;intro _ hw';obtain⟨p,hw''⟩:=hw';subst hw'';have hs2:=hs.on (below_regrown wr p.d p.os);clear hs;generalize Sort.grow (redrawn wr p.d) p.os=w2 at*;clear p;by_cases hn:((Nm.bit x k:Int)+(Nm.bit y k:Int)+(Nm.cx x y k:Int))%2=1
   ·have e1:=Nm.Fp (x:=x) (y:=y) (i:=k) (by omega);have E1:=h_ e1;have e2:=Nm.MS x y k;have E2:=h_ e2;clear e1 e2
    go_wp2_with (first
     | (with_reducible refine aK rfl _ rfl _ rfl _ hs2.o rfl ?_)
     | (go_at_call 149;refine au (yH _ _ (by omega) _) fun w3 hb3=>?_)
     | (with_reducible refine bg rfl _ _ rfl _ _ rfl rfl _ (hs2.on hb3).o rfl ?_))
    go_roundw
    case rel=>exact⟨k+1,by omega,by go_num,congrArg (Value.int .i64) (by rw[E2.out];omega),by rw[E1.out];exact(hs2.on hb3).put _ H1.out H2.out H3.out HO.out⟩
    case measure=>simp[intOf];omega
   ·have e1:=Nm.Nx (x:=x) (y:=y) (i:=k) (by omega);have E1:=h_ e1;have e2:=Nm.MS x y k;have E2:=h_ e2;clear e1 e2;(go_wp2_with fail);go_roundw
    case rel=>exact⟨k+1,by omega,by go_num,congrArg (Value.int .i64) (by rw[E2.out];omega),by rw[<-E1.out];exact hs2⟩
    case measure=>simp[intOf];omega
  ·obtain rfl:k=256:=by omega
   go_wp2_with (first
    | (with_reducible refine aK rfl _ rfl _ rfl _ hs.o rfl ?_)
    | (with_reducible refine bg rfl _ _ rfl _ _ rfl rfl _ hs.r rfl ?_))
   refine bodyPost_ret (v:=.tuple #[.agg (aa (Nm.gh x y 256)),.bool (decide ((Nm.cx x y 256:Int)=1))]) (iT Tryz.results115 _ _ _ _ rfl rfl (hs.r.row _)) rfl ⟨?_,below_setRow hs.below HR.out _⟩;rw[Nm.LG hx hy,Nm.Ra hx hy];exact congrArg (fun b=>Ending.returned (.tuple #[.agg (aa ((x+y)%Nm.ai)),.bool b])) (decide_eq_decide.2 (by unfold Nm.ai at*;omega))
theorem yM(x:Nat)(hx:x<Nm.ai)(w:World):ak 150 #[.agg (aa x)] w (.agg (aa (Nm.ai-1-x))):=by
 go_enter Tryz.func150,Tryz.ntmps150;go_wp2_with fail
 generalize hw1:World.alloc _ _=w1
 have h0:Acc w w1 w.heap.size w.heap.size (w.heap.size+1) (w.heap.size+1+1) x x (aa 0):=by
  rw[<-hw1];exact Acc.Ux w x (aa 0)
 clear hw1;generalize hA:w.heap.size+1+1=O at*;generalize hB:w.heap.size+1=R at*;generalize hC:w.heap.size=A at*;have T2:A≠O:=by omega
 have Ty:R≠O:=by omega
 have hO:w.heap.size<=O:=by omega
 have hR:w.heap.size<=R:=by omega
 have HO:=h_ hO;have HR:=h_ hR;have H1:=h_ T2;have H3:=h_ Ty;clear hA hB hC hO hR T2 Ty;go_loopw [4] (fun i wr=>∃k:Nat,k<=256/\i=i_ k/\Acc w wr A A R O x x (aa (Nm.gU x k))) (fun i _=>256-(intOf i).toNat)
 case atStart=>exact⟨0,by omega,rfl,by rw[Nm.Q7];exact h0⟩
 case round=>
  obtain⟨k,hk,rfl,hs⟩:=hrel;by_cases hlt:k<256
  ·have g1:=Nm.gV x k;by_cases hn:Nm.bit x k=0
   ·have e1:=Nm.OA hn;have E1:=h_ e1;have hc:=fun w=>pS x k hlt w
    rw[hn]at hc;have HC:=h_ hc;clear e1 hn hc g1;(go_wp2_with (with_reducible refine aK rfl _ rfl _ rfl _ hs.a rfl ?_));refine au (HC.out _) fun w2 hb2=>?_;have hs2:=hs.on hb2;(go_wp2_with (with_reducible refine aK rfl _ rfl _ rfl _ hs2.o rfl ?_));refine au (yH _ _ (by omega) _) fun w3 hb3=>?_;have hs3:=hs2.on hb3;(go_wp2_with (with_reducible refine bg rfl _ _ rfl _ _ rfl rfl _ hs3.o rfl ?_));go_roundw
    case rel=>exact⟨k+1,by omega,by go_num,by rw[E1.out];exact hs3.put _ H1.out H1.out H3.out HO.out⟩
    case measure=>simp[intOf];omega
   ·have e1:=Nm.D7 hn;have E1:=h_ e1;have hc:=fun w=>pS x k hlt w
    rw[show Nm.bit x k=1 by omega]at hc;have HC:=h_ hc;clear e1 hn hc g1;(go_wp2_with (with_reducible refine aK rfl _ rfl _ rfl _ hs.a rfl ?_));refine au (HC.out _) fun w2 hb2=>?_;have hs2:=hs.on hb2;(go_wp2_with fail);go_roundw
    case rel=>exact⟨k+1,by omega,by go_num,by rw[<-E1.out];exact hs2⟩
    case measure=>simp[intOf];omega
  ·obtain rfl:k=256:=by omega
   go_wp2_with (first
    | (with_reducible refine aK rfl _ rfl _ rfl _ hs.o rfl ?_)
    | (with_reducible refine bg rfl _ _ rfl _ _ rfl rfl _ hs.r rfl ?_))
   refine bodyPost_ret (v:=.agg (aa (Nm.gU x 256))) (fw Tryz.results150 _ _ _ rfl (hs.r.row _)) rfl ⟨?_,below_setRow hs.below HR.out _⟩;rw[Nm.Ji hx]
