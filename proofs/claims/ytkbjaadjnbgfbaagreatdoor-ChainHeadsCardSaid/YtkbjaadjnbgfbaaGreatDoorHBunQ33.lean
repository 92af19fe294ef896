import Derived.Test.YtkbjaadjnbgfbaaGreatDoorHBunQ31
import Derived.Laws.AppendOwnNone
set_option maxRecDepth 100000
set_option maxHeartbeats 16000000
namespace Go.Proofs.YtkbjaadjnbgfbaaGreatDoor
section
open Go.RowKit Mem Sc NN.VI
theorem iz(a:Act)(n:Nat)(u:Nat->Value)(hs:a.tmps.size=n)(hd:a.defers=[])(hu:∀t,u t=a.eval (.tmp t)):a=⟨((List.range n).map u).toArray,[]⟩:=by obtain⟨tm,df⟩:=a;obtain rfl:df=[]:=hd;congr 1;apply Array.ext;simpa using hs;intro i h1 h2;simp only[om,jh,jo,hu];simp[Act.eval,Array.getD_eq_getD_getElem?,h1]
def eu(B:Nat)(w w':World):Prop:=∀b cs,B<=b->Has w b cs 141->cs.size=38->∃cs',Has w' b cs' 141/\cs'.size=38
theorem eu.refl(B:Nat)(w:World):eu B w w:=fun _ cs _ h hs=>⟨cs,h,hs⟩
variable{B:Nat}{w:World}
theorem eu.below{w':World}(h:Bl w w'):eu B w w':=fun _ cs _ h' hs=>⟨cs,dz h h' h'.lt,hs⟩
variable{s:Sp}
theorem eu.row{g:Nat}{cs:Array Value}(hg:Has w g cs 141)(hs:(cU s).size=38):eu B w (w.setRow g (cU s)):=fun b cs' _ h h'=>by
 by_cases e:b=g;subst e;exact⟨_,Has.row hg _,hs⟩;exact⟨cs',Has.Vo h _ _ e,h'⟩
def qw(B bA:Nat)(s:Sp)(h:Hd)(s':Sp):Nat->Value->World->Prop
 | 0,v,_=>v=af bA
 | 1,v,_=>v=.agg (NN.nB s.x)
 | 2,v,_=>v=.agg (aS h)
 | 3,v,_=>v=.agg (ae s'.prev)
 | 4,v,_=>v=.agg (cU s')
 | 5,v,w=>∃b cs,B<=b/\v=af b/\Has w b cs 141/\cs.size=38
 | _,_,_=>True
theorem Hw{bA:Nat}{s':Sp}{h:Hd}(i:Nat)(v:Value)(w w':World)(hs:eu B w w')(hr:qw B bA s h s' i v w):qw B bA s h s' i v w':=by
 match i,hr with
 | 0,hr=>exact hr
 | 1,hr=>exact hr
 | 2,hr=>exact hr
 | 3,hr=>exact hr
 | 4,hr=>exact hr
 | 5,⟨b,cs,h1,h2,h3,h4⟩=>
  obtain⟨cs',h5,h6⟩:=hs b cs h1 h3 h4;exact⟨b,cs',h1,h2,h5,h6⟩
 | _+6,_=>trivial
def lO(k:Nat)(p:Tmp)(B:Nat)(s:Sp)(lz:Array Bool)(a:Act)(w:World):Prop:=lz.getD k false=true->∃b,B<=b/\a.eval (.tmp p)=af b/\aY w b s
theorem lO.pre{k i:Nat}{p:Tmp}{lz:Array Bool}{a:Act}(h:(lz.setIfInBounds i true).getD k false=false):lO k p B s (lz.setIfInBounds i true) a w:=fun hl=>by rw[h]at hl;cases hl
section
variable{ρ:Operand->Value}{o:Oper}{w:World}
theorem yI(w:World)(g:Nat):(Instr.fieldAt 141 (af g) 0).run Tryz.prog w=.ok (af g) w:=by kernel_rfl
variable{x y:Operand}{g:Nat}
theorem Q9(ho:o.op=.fieldAddr 141 x 0)(hx:ρ x=af g):(execOp ρ o).run Tryz.prog w=.ok (.value (af g)) w:=by unfold execOp;simp only[ho,hx,aB,yI,aM];rfl
theorem Sf{y:NN.Pt}(ho:o.op=.load 139 x)(hx:ρ x=af g)(hg:w.rangeAt g 0 (NN.nB y).toList):(execOp ρ o).run Tryz.prog w=.ok (.value (.agg (NN.nB y))) w:=by unfold execOp;simp only[ho,hx,aB,wX w g y hg,aM];rfl
theorem sC{h:Hd}(ho:o.op=.load 30 x)(hx:ρ x=af g)(hg:aX w g h)(hs:(aS h).size=68):(execOp ρ o).run Tryz.prog w=.ok (.value (.agg (aS h))) w:=by have hl:(loadVar 30 ⟨g,0,none⟩).run Tryz.prog w=.ok (.agg (aS h)) w:=gM w g 30 30 (aS h) (0,0) _ (Has.out hg) Tryz.underlying30 rfl (kf.trans (by rw[hs]));unfold execOp;simp only[ho,hx,Instr.loadAt,Instr.sureAddr,aB,cr,aM,hl]
theorem Tj(ho:o.op=.alloc 141):(execOp ρ o).run Tryz.prog w=.ok (.value (.pointer (some ⟨w.heap.size,0,none⟩))) (w.alloc (.cells (cU qJ) 141)):=by unfold execOp;simp only[ho];kernel_rfl
theorem TU{s:Sp}{cs:Array Value}(ho:o.op=.store 141 x y)(hx:ρ x=af g)(hy:ρ y=.agg (cU s))(hg:Has w g cs 141)(hs:cs.size=38)(hs':(cU s).size=38):(execOp ρ o).run Tryz.prog w=.ok .skip (w.setRow g (cU s)):=by unfold execOp;simp only[ho,hx,hy,Instr.storeAt,Instr.sureAddr,aB,cr,aM,run_storeVar_row w g 141 141 cs (cU s) (Has.out hg) (kY.trans (by rw[hs'])) (by rw[hs,hs']) (CI s)]
variable{l:List UInt8}
theorem eJ{n:Nat}(h:l.length=n+1):∃a r,l=a::r/\r.length=n:=by
 cases l with
 | nil=>simp at h
 | cons a r=>exact⟨a,r,rfl,by simpa using h⟩
theorem M9(x:NN.Pt)(l:List UInt8)(hl:l.length=32):Tryz.prog.built 141 [(0,.agg (NN.nB x)),(1,.agg (ae l))]=some (cU ⟨x,l,none,0,0⟩):=by obtain⟨a0,l0,rfl,h0⟩:=eJ hl;obtain⟨a1,l1,rfl,h1⟩:=eJ h0;obtain⟨a2,l2,rfl,h2⟩:=eJ h1;obtain⟨a3,l3,rfl,h3⟩:=eJ h2;obtain⟨a4,l4,rfl,h4⟩:=eJ h3;obtain⟨a5,l5,rfl,h5⟩:=eJ h4;obtain⟨a6,l6,rfl,h6⟩:=eJ h5;obtain⟨a7,l7,rfl,h7⟩:=eJ h6;obtain⟨a8,l8,rfl,h8⟩:=eJ h7;obtain⟨a9,l9,rfl,h9⟩:=eJ h8;obtain⟨a10,l10,rfl,h10⟩:=eJ h9;obtain⟨a11,l11,rfl,h11⟩:=eJ h10;obtain⟨a12,l12,rfl,h12⟩:=eJ h11;obtain⟨a13,l13,rfl,h13⟩:=eJ h12;obtain⟨a14,l14,rfl,h14⟩:=eJ h13;obtain⟨a15,l15,rfl,Ws⟩:=eJ h14;obtain⟨a16,l16,rfl,h16⟩:=eJ Ws;obtain⟨a17,l17,rfl,h17⟩:=eJ h16;obtain⟨a18,l18,rfl,h18⟩:=eJ h17;obtain⟨a19,l19,rfl,h19⟩:=eJ h18;obtain⟨a20,l20,rfl,h20⟩:=eJ h19;obtain⟨a21,l21,rfl,h21⟩:=eJ h20;obtain⟨a22,l22,rfl,h22⟩:=eJ h21;obtain⟨a23,l23,rfl,h23⟩:=eJ h22;obtain⟨a24,l24,rfl,h24⟩:=eJ h23;obtain⟨a25,l25,rfl,h25⟩:=eJ h24;obtain⟨a26,l26,rfl,h26⟩:=eJ h25;obtain⟨a27,l27,rfl,h27⟩:=eJ h26;obtain⟨a28,l28,rfl,h28⟩:=eJ h27;obtain⟨a29,l29,rfl,h29⟩:=eJ h28;obtain⟨a30,l30,rfl,h30⟩:=eJ h29;obtain⟨a31,l31,rfl,h31⟩:=eJ h30;obtain rfl:=gE h31;clear hl h0 h1 h2 h3 h4 h5 h6 h7 h8 h9 h10 h11 h12 h13 h14 Ws h16 h17 h18 h19 h20 h21 h22 h23 h24 h25 h26 h27 h28 h29 h30 h31;kernel_rfl
theorem Uh{p:NN.Pt}(ho:o.op=.build 141 #[(0,x),(1,y)])(hx:ρ x=.agg (NN.nB p))(hy:ρ y=.agg (ae l))(hl:l.length=32):(execOp ρ o).run Tryz.prog w=.ok (.value (.agg (cU ⟨p,l,none,0,0⟩))) w:=by unfold execOp;simp only[ho,aB];rw[show(#[(0,x),(1,y)]:Array (Nat×Operand)).map (fun(i,x)=>(i,ρ x))=#[(0,.agg (NN.nB p)),(1,.agg (ae l))] by simp[hx,hy],gw w 141 _ _ (M9 p l hl)];rfl
end
theorem RL:∃i z,Tryz.prog.info? 3=some i/\i.zero=some z/\i.size=1/\i.bytes=8/\z.cells.size=1:=by
 have h1:(Tryz.prog.info? 3).map (·.size)=some 1:=by kernel_rfl
 have h2:((Tryz.prog.info? 3).bind (·.zero))=some (i_ 0):=by kernel_rfl
 have h3:(Tryz.prog.info? 3).map (·.bytes)=some 8:=by kernel_rfl
 cases hi:Tryz.prog.info? 3 with
 | none=>rw[hi]at h1;cases h1
 | some i=>
  rw[hi]at h1 h2 h3;exact⟨i,i_ 0,rfl,by simpa using h2,by simpa using h1,by simpa using h3,rfl⟩
section
variable{w:World}{lo hi n cap k:Nat}{l:List Int}
theorem yi{p:Option Addr}(hl:l.length=n)(hk:k<=n)(hc:n<=cap)(h:MM.gX w lo hi p l)(hp:p=none->n=0/\cap=0):∃p',(∀w':World,(Instr.sliceAt 49 (.slice p n cap) none (some (i_ k)) none).run Tryz.prog w'=.ok (.slice p' k cap) w')/\MM.gX w lo hi p' (l.take k)/\(p'=none->k=0/\cap=0):=by
 obtain⟨p',h1,h2⟩:=MM.Il hl hk hc h;cases p with
 | none=>
  obtain⟨rfl,rfl⟩:=hp rfl;exact⟨p',h1,h2,fun _=>⟨by omega,rfl⟩⟩
 | some a=>
  by_cases h0:0<k;obtain⟨b,off,rfl,_⟩:=h2 (by simp;omega);exact⟨_,h1,h2,fun e=>by cases e⟩
  ·obtain rfl:k=0:=by omega
   refine⟨some (if cap=0 then a else a.add 0),fun w'=>?_,by rw[List.take_zero];exact MM.gX.none,fun e=>by cases e⟩;rw[run_sliceAt_slice w' 49 _ _ _ _ (by kernel_rfl),run_slice_h w' 49 (some a) n cap (by kernel_rfl) .i64 ((0:Nat):Int) (by omega) (by omega)];rw[show Tryz.prog.elem 49=3 by kernel_rfl];by_cases hc0:cap=0<;>simp[sliced,Tryz.sizeOf3,hc0]
end
variable{w:World}
theorem Fi{base:Nat}{v:Value}{n:Nat}{xs:List Value}{e:Nat}(h:w.ownsRow base e 1 v n xs):∃p cap,v=.slice p n cap:=by
 rcases h.2 with⟨rfl,rfl⟩|⟨g,c,cur,rfl,_⟩
 exact⟨_,_,rfl⟩;exact⟨_,_,rfl⟩
def Ls(B bO:Nat)(o:Sp)(ht:Int)(T:List Int)(k:Nat)(l:Array Bool)(a:Act)(w:World):Prop:=
 (l.getD 2 false=true->l.getD 10 false=false->∃g,B<=g/\a.eval (.tmp 57)=.slice (bs g) 1 1/\Has w g #[i_ ht] 3)/\
 (l.getD 10 false=true->l.getD 12 false=false->∃p c,a.eval (.tmp 65)=.slice p (1+k) c/\w.ownsRow B 3 1 (.slice p (1+k) c) (1+k) ((ht::T).map (Value.int .i64)))/\
 (l.getD 12 false=false->aY w bO o)/\
 (l.getD 12 false=true->∃p c,aY w bO { o with a:=p,n:=1+k,c:=c }/\w.ownsRow B 3 1 (.slice p (1+k) c) (1+k) ((ht::T).map (Value.int .i64)))
theorem kk(l:Array Bool)(i j:Nat)(hi:i<l.size)(h:i≠j):(l.setIfInBounds i true).getD j false=l.getD j false:=by rw[ko _ _ _ hi,ah h]
theorem Ls.keep{B bO:Nat}{o:Sp}{ht:Int}{T:List Int}{k:Nat}{l:Array Bool}{a:Act}(h:Ls B bO o ht T k l a w)(i:Nat)(hi:i<l.size)(h2:i≠2:=by decide)(h10:i≠10:=by decide)(h12:i≠12:=by decide){d:Option Tmp}{v:Value}(hd:d≠some 57:=by decide)(hd2:d≠some 65:=by decide):Ls B bO o ht T k (l.setIfInBounds i true) (a.put d v) w:=by obtain⟨p1,p2,p3,p4⟩:=h;unfold Ls;rw[kk l i 2 hi h2,kk l i 10 hi h10,kk l i 12 hi h12,fV (fun d' hdd e=>hd (by rw[hdd];cases e;rfl)),fV (fun d' hdd e=>hd2 (by rw[hdd];cases e;rfl))];exact⟨p1,p2,p3,p4⟩
def Vh(bA bH bO:Nat)(a:Option Addr)(n c:Nat)(p1:Option Addr)(k:Nat)(ht:Int):Nat->Value->Prop
 | 0,v=>v=.pointer (some ⟨bH,65,none⟩)
 | 1,v=>v=i_ ht
 | 3,v=>v=.pointer (some ⟨bA,37,none⟩)
 | 4,v=>v=.slice a n c
 | 5,v=>v=.pointer (some ⟨bA,37,none⟩)
 | 6,v=>v=.slice a n c
 | 7,v=>v=i_ n
 | 8,v=>v=i_ k
 | 9,v=>v=.slice p1 k c
 | 11,v=>v=.pointer (some ⟨bO,37,none⟩)
 | _,_=>True
section
variable{ρ:Operand->Value}{o:Oper}{w:World}
theorem A8(w:World)(g:Nat):(Instr.fieldAt 30 (af g) 3).run Tryz.prog w=.ok (.pointer (some ⟨g,65,none⟩)) w:=by kernel_rfl
theorem x_(w:World)(g:Nat):(Instr.fieldAt 141 (af g) 2).run Tryz.prog w=.ok (.pointer (some ⟨g,37,none⟩)) w:=by kernel_rfl
variable{x y:Operand}{g n c:Nat}
theorem O7(ho:o.op=.fieldAddr 30 x 3)(hx:ρ x=af g):(execOp ρ o).run Tryz.prog w=.ok (.value (.pointer (some ⟨g,65,none⟩))) w:=by unfold execOp;simp only[ho,hx,aB,A8,aM];rfl
theorem E7(ho:o.op=.fieldAddr 141 x 2)(hx:ρ x=af g):(execOp ρ o).run Tryz.prog w=.ok (.value (.pointer (some ⟨g,37,none⟩))) w:=by unfold execOp;simp only[ho,hx,aB,x_,aM];rfl
variable{p:Addr}{a:Option Addr}
theorem Kw(h:w.cell? p=some (.slice a n c)):(loadVar 49 p).run Tryz.prog w=.ok (.slice a n c) w:=by go_simp
theorem Ff(ho:o.op=.load 49 x)(hx:ρ x=.pointer (some p))(hc:w.cell? p=some (.slice a n c)):(execOp ρ o).run Tryz.prog w=.ok (.value (.slice a n c)) w:=by unfold execOp;simp only[ho,hx,Instr.loadAt,Instr.sureAddr,aB,cr,aM,Kw hc]
variable{u:Value}
theorem D0(hf:w.frozen? p=false)(hc:w.cell? p=some u):(storeVar 49 p (.slice a n c)).run Tryz.prog w=.ok () (w.setCell p (.slice a n c)):=by go_simp
theorem Et(ho:o.op=.store 49 x y)(hx:ρ x=.pointer (some p))(hy:ρ y=.slice a n c)(hf:w.frozen? p=false)(hc:w.cell? p=some u):(execOp ρ o).run Tryz.prog w=.ok .skip (w.setCell p (.slice a n c)):=by unfold execOp;simp only[ho,hx,hy,Instr.storeAt,Instr.sureAddr,aB,cr,aM,D0 hf hc]
theorem sj(w:World)(z:Int):(Instr.buildSlice 49 1 #[(0,i_ z)]).run Tryz.prog w=.ok (.slice (some ⟨w.heap.size,0,none⟩) 1 1) (w.alloc (.cells #[i_ z] 3)):=by kernel_rfl
theorem Uy{z:Int}(ho:o.op=.buildSlice 49 1 #[(0,x)])(hx:ρ x=i_ z):(execOp ρ o).run Tryz.prog w=.ok (.value (.slice (some ⟨w.heap.size,0,none⟩) 1 1)) (w.alloc (.cells #[i_ z] 3)):=by unfold execOp;simp only[ho,aB];rw[show(#[(0,x)]:Array (Nat×Operand)).map (fun(i,x)=>(i,ρ x))=#[(0,i_ z)] by simp[hx],sj w z];rfl
theorem Dx(ho:o.op=.call { callee:=.builtin .len,args:=#[x],argTypes:=#[49] })(hx:ρ x=.slice a n c):(execOp ρ o).run Tryz.prog w=.ok (.value (i_ n)) w:=by unfold execOp;simp only[ho,resolve,invoke,builtin,aB,cr,aM,im,bZ,cx,hx];kernel_rfl
theorem vX{a b m:Int}(ho:o.op=.call { callee:=.builtin .min,args:=#[x,y],argTypes:=#[3,3] })(hx:ρ x=i_ a)(hy:ρ y=i_ b)(hm:m=min a b):(execOp ρ o).run Tryz.prog w=.ok (.value (i_ m)) w:=by have hr:=NN.ln (P:=Tryz.prog) a b m hm #[3,3] o.type w;unfold execOp;simp only[ho,resolve,invoke,builtin,aB,cr,aM,im,bZ,cx,hx,hy,hr]
theorem Gw{s h:Operand}{p p':Option Addr}{k:Nat}(ho:o.op=.slice 49 s none (some h) none)(hs:ρ s=.slice p n c)(hh:ρ h=i_ k)(hr:(Instr.sliceAt 49 (.slice p n c) none (some (i_ k)) none).run Tryz.prog w=.ok (.slice p' k c) w):(execOp ρ o).run Tryz.prog w=.ok (.value (.slice p' k c)) w:=by unfold execOp;simp only[ho,hs,hh,gi,Option.map_none,aB,cr,hr,aM]
theorem NJ{lo hi:Nat}(s x:Operand)(base:Nat)(v:Value)(n:Nat)(l:List Int)(hs:ρ s=v)(hown:w.ownsRow base 3 1 v n (l.map (Value.int .i64)))(ad:Option Addr)(m c:Nat)(z:List Int)(hx:ρ x=.slice ad m c)(hnil:ad=none->m=0/\c=0)(hz:z.length=m)(hL:MM.gX w lo hi ad z)(hn:n+m<=1000)(hbase:base<=w.heap.size):∃v' w',(∀o:Oper,o.op=.call { callee:=.builtin .append,args:=#[s,x],argTypes:=#[49,49] }->o.type=49->(execOp ρ o).run Tryz.prog w=.ok (.value v') w')/\w'.ownsRow base 3 1 v' (n+m) ((l++z).map (Value.int .i64))/\w.grownBy w' v.ownBlock:=by
 obtain⟨i,y,hi,hzz,h1,h2,h3⟩:=RL;cases ad with
 | none=>
  obtain⟨rfl,rfl⟩:=hnil rfl;obtain rfl:z=[]:=gE hz;have hrun:=run_append_owned_none (P:=Tryz.prog) (w:=w) base 49 49 3 i 1 Tryz.underlying49 hi v n _ hown;refine⟨v,w,fun o ho hty=>?_,by simpa using hown,⟨rfl,rfl,rfl,au _,fun _ _ _=>rfl⟩⟩;unfold execOp;simp only[ho,hty,resolve,invoke,builtin,aB,cr,aM,im,bZ,cx,hs,hx,hrun]
 | some ad=>
  obtain⟨v',w',hr,g1,g2,_⟩:=run_append_own_at (P:=Tryz.prog) w base 49 49 3 i y 1 8 Tryz.underlying49 hi hzz h1 h2 h3 (by decide) v n _ hown ad m c (z.map (Value.int .i64)) (by simpa using hz) (fun j u hj=>by
   have hj0:j<z.length:=by have:=(bk.1 hj).1;simpa using this
   obtain⟨b,off,e,_,_,hc⟩:=hL (by omega);cases e;rw[MM.nO,hc j hj0,<-hj];simp[List.getD_eq_getElem?_getD,hj0]) (fun u hu=>by obtain⟨q,_,rfl⟩:=jQ.1 hu;rfl) (by unfold maxLen;omega) (by omega) hbase
  refine⟨v',w',fun o ho hty=>?_,by rw[ic];exact g1,g2⟩;unfold execOp;simp only[ho,hty,resolve,invoke,builtin,aB,cr,aM,im,bZ,cx,hs,hx,hr]
end
variable{w w' wr:World}{B g bP bA bH bR bO:Nat}
theorem LO{z:Int}(hg:Has w g #[i_ z] 3)(hB:B<=g):w.ownsRow B 3 1 (.slice (bs g) 1 1) 1 ([z].map (Value.int .i64)):=⟨rfl,.inr ⟨g,1,#[i_ z],rfl,hB,hg,au _,by decide,rfl,rfl⟩⟩
theorem JO{k c:Nat}{p:Option Addr}{xs:List Value}(h:w.ownsRow B 3 1 (.slice p (1+k) c) (1+k) xs):∃g,p=some ⟨g,0,none⟩/\1+k<=c:=by
 rcases h.2 with⟨e,h0⟩|⟨g,cap,cur,e,_,_,hn,_⟩
 omega;cases e;exact⟨g,rfl,hn⟩
theorem zN{v:World}{r:Nat}(h:v.grownBy w (some r))(h':w.grownBy w' (some g))(hg:v.heap.size<=g):v.grownBy w' (some r):=⟨h'.os.trans h.os,h'.tape.trans h.tape,h'.output.trans h.output,ax h.size h'.size,fun q hq hne=>(h'.block q (b_ hq h.size) (by intro e;cases e;omega)).trans (h.block q hq hne)⟩
theorem jl(w:World)(g o:Nat)(v:Value):w.grownBy (w.setCell ⟨g,o,none⟩ v) (some g):=um (Gl w _) o v
structure u6 (w wr:World) (bP bA bH bR bO:Nat) (p:NN.Pr) (s:Sp) (h:Hd) (o:Sp):Prop where
 be:Bl w wr
 p:NN.aK wr bP p
 a:aY wr bA s
 h:aX wr bH h
 r:aY wr bR qJ
 o:aY wr bO o
variable{p:NN.Pr}{s o:Sp}{h:Hd}
theorem u6.on(hs:u6 w wr bP bA bH bR bO p s h o)(hb:Bl wr w'):u6 w w' bP bA bH bR bO p s h o:=⟨ai hs.be hb,hs.p.on hb,hs.a.on hb,hs.h.on hb,hs.r.on hb,hs.o.on hb⟩
theorem u6.put{o':Sp}(hs:u6 w wr bP bA bH bR bO p s h o)(j:Nat)(u:Value)(hX:aY (wr.setCell ⟨bO,j,none⟩ u) bO o')(h1:bP≠bO)(h2:bA≠bO)(h3:bH≠bO)(h4:bR≠bO)(h5:w.heap.size<=bO):u6 w (wr.setCell ⟨bO,j,none⟩ u) bP bA bH bR bO p s h o':=⟨hs.be.setCell h5 u,NN.Has.other hs.p _ _ h1,hs.a.other _ _ h2,Has.other hs.h _ _ h3,hs.r.other _ _ h4,hX⟩
theorem JW(p:NN.Pr)(hz:(NN.aV p).size=83)(xh xb xt xf xr:Int)(prev:List UInt8)(Wz:prev.length=32)(a:Option Addr)(n c:Nat)(h:Hd)(ho:h.ok)(id:List UInt8)(i32:id.length=32)(hb ht:Int)(eb:Hid (h.bits=hb))(et:Hid (h.time=ht))(st ez ne:Bool)(E4:Hid (Hid (p.VD=ez)))(lim:Int)(E0:Hid (Hid (p.lim=lim)))(T0:Hid ((hb==lim)=ne))(zf zr:Int)(HF:Hid (zf=if st=true then ht else xf))(HR:Hid (zr=if st=true\/ez=false\/ne=false then hb else xr))(Xr:Int)(wx:IntKind.i64.wrap (xh+1)=Xr)(KS:Hid (dx 165 #[.agg (NN.aV p),.int .i64 xh] (.bool st)))(KI:Hid (∀w,gj w->ar 119 #[.agg (aS h)] w (.agg (ae id))))(ts:List Int)(hl:ts.length=n)(hc:n<=c)(hmax:n<9223372036854775808)(hnil:a=none->n=0/\c=0)(k:Nat)(hk:k=min n 10)(w:World)(hT:gj w)(hL:MM.gX w 0 w.heap.size a ts):aU 125 #[.agg (NN.aV p),.agg (cU ⟨⟨xh,xb,xt,xf,xr⟩,prev,a,n,c⟩),.agg (aS h)] w fun r w'=>∃b' c',r=.returned (.agg (cU ⟨⟨Xr,hb,ht,zf,zr⟩,id,some ⟨b',0,none⟩,1+k,c'⟩))/\1+k<=c'/\MM.gX w' w.heap.size w'.heap.size (some ⟨b',0,none⟩) (ht::ts.take k)/\Bl w w':=by
 have za:=jI ho;have so:(⟨⟨xh,xb,xt,xf,xr⟩,prev,a,n,c⟩:Sp).ok:=Wz;have zs:=mJ so;have z0:=mJ mS;have hTr:∀v,Bl w v->gj v:=fun v hb=>hT.below hb
 have HTr:=h_ hTr;obtain⟨p1,hcut,hL1,YU⟩:=yi hl (by omega:k<=n) hc hL hnil;have HL1:=h_ hL1;have HN1:=h_ YU;have hlen1:(ts.take k).length=k:=by simp;omega
 have HLN:=h_ hlen1;have hmin:=NN.ln (P:=Tryz.prog) (n:Int) 10 (k:Int) (by omega);have hk10:k<=10:=by omega
 have hkm:Hid ((k:Int)=min (n:Int) 10):=h_ (by omega);generalize ts.take k=T at*;clear hT hTr hL hL1 hnil YU hlen1 hl hk;go_enter Tryz.func125,Tryz.ntmps125;go_upto_region 1 with fail
 generalize hw0:World.alloc _ _=v0
 obtain⟨hB0,XF,VN,hH0,hR0⟩:Bl w v0/\NN.aK v0 w.heap.size p/\aY v0 (w.heap.size+1) ⟨⟨xh,xb,xt,xf,xr⟩,prev,a,n,c⟩/\aX v0 (w.heap.size+1+1) h/\aY v0 (w.heap.size+1+1+1) qJ:=by
  rw[<-hw0];refine⟨((cu.alloc (by simp) _).alloc (by simp;omega) _).alloc (by simp;omega) _,(((NN.Has.new _ _).alloc _).alloc _).alloc _,((Has.Vt _ _ _).alloc _).alloc _,(Has.VT _ _ _ _).alloc _,?_⟩;have:=sQ (((w.alloc (.cells (NN.aV p) 32)).alloc (.cells (cU ⟨⟨xh,xb,xt,xf,xr⟩,prev,a,n,c⟩) 141)).alloc (.cells (aS h) 30));simpa using this
 clear hw0;obtain⟨bP,VF⟩:∃b,b=w.heap.size:=⟨_,rfl⟩;obtain⟨bA,YV⟩:∃b,b=w.heap.size+1:=⟨_,rfl⟩;obtain⟨bH,Vy⟩:∃b,b=w.heap.size+1+1:=⟨_,rfl⟩;obtain⟨bR,hbR⟩:∃b,b=w.heap.size+1+1+1:=⟨_,rfl⟩;rw[<-hbR]at hR0|-;rw[<-Vy]at hH0|-;rw[<-YV]at VN|-;rw[<-VF]at XF|-;have Zb:=hR0.lt;have XH:Hid (w.heap.size<=bR):=h_ (by omega);have HO:Hid (∀bO,v0.heap.size<=bO->bP≠bO/\bA≠bO/\bH≠bO/\bR≠bO/\w.heap.size<=bO):=h_ (fun bO hO=>by omega);clear VF YV Vy hbR Zb
 -- the new spot
 refine lG (by kernel_rfl) (fun w'=>Bl v0 w') (fun i v' w'=>qw v0.heap.size bA ⟨⟨xh,xb,xt,xf,xr⟩,prev,a,n,c⟩ h ⟨⟨xh,xb,xt,xf,xr⟩,id,none,0,0⟩ i v' w') (fun l a w'=>lO 6 7 v0.heap.size ⟨⟨xh,xb,xt,xf,xr⟩,id,none,0,0⟩ l a w') (eu v0.heap.size) (fun _ _=>eu.refl _ _) (fun _ _ _ _ _ hs h=>Hw _ _ _ _ hs h) (by kernel_rfl) cg.drew ?_ ?_ ?_;exact fun l hl=>fun hk=>(by rw[hl]at hk;cases hk)
 ·intro i o lz a wx ho' hn dq Z;have hC:=Z.c;have hi:i<7:=(dA.1 ho').1;have zn:(cU ⟨⟨xh,xb,xt,xf,xr⟩,id,none,0,0⟩).size=38:=mJ i32;obtain rfl|rfl|rfl|rfl|rfl|rfl|rfl:i=0\/i=1\/i=2\/i=3\/i=4\/i=5\/i=6:=by omega
  all_goals obtain rfl:=Option.some.inj ho'
  exact gv ((fun _ _=>eu.refl _ _)) hC (aq rfl) (Q9 rfl (Z.old' 4)) rfl (lO.pre (d_ Z hn 6));exact gv ((fun _ _=>eu.refl _ _)) hC (aq rfl) (Sf rfl (aw Z dq 0 9) (VN.on hC).pt) rfl (lO.pre (d_ Z hn 6));exact gv ((fun _ _=>eu.refl _ _)) hC (aq rfl) (sC rfl (Z.old' 5) (hH0.on hC) za) rfl (lO.pre (d_ Z hn 6))
  ·have e11:=Z.got 2 _ 11 rfl (dq ⟨2,.data⟩ (by simp) rfl) rfl;exact mz (aq rfl) (f:=119) (args:=#[a.eval (.tmp 11)]) (by kernel_rfl) (by rw[show a.eval (.tmp 11)=_ from e11];exact KI.out wx (HTr.out wx (ai hB0 hC))) (fun w' hb=>⟨ai hC hb,eu.below hb,rfl,lO.pre (d_ Z hn 6)⟩)
  exact gv ((fun _ _=>eu.refl _ _)) hC (aq rfl) (Uh rfl (aw Z dq 1 10) (aw Z dq 3 12) i32) rfl (lO.pre (d_ Z hn 6));have VV:Bl wx (wx.alloc (.cells (cU qJ) 141)):=cu;exact qU (aq rfl) (Tj rfl) (ai hC VV) (eu.below VV) ⟨wx.heap.size,cU qJ,hC.size,rfl,Has.new _ _,z0⟩ (lO.pre (d_ Z hn 6));obtain⟨b,cs,hb,he,hh,hsz⟩:=Z.got 5 _ 7 rfl (dq ⟨5,.data⟩ (by simp) rfl) rfl;exact nw (aq rfl) (TU rfl he (aw Z dq 4 13) hh hsz zn) (below_setRow hC hb _) (eu.row hh zn) trivial (fun _=>⟨b,hb,he,Has.row hh _⟩)
 intro lz a' v1 hall Z;have hC:=Z.c;obtain⟨bO,ZS,e7,hO⟩:=Z.i (hall 6 (by decide));have e3:a'.eval (.tmp 3)=.pointer (some ⟨bP,0,none⟩):=Z.old' 3;have e4':a'.eval (.tmp 4)=.pointer (some ⟨bA,0,none⟩):=Z.old' 4;have e5:a'.eval (.tmp 5)=.pointer (some ⟨bH,0,none⟩):=Z.old' 5;have e6:a'.eval (.tmp 6)=.pointer (some ⟨bR,0,none⟩):=Z.old' 6;obtain⟨n1,n2,n3,n4,n5⟩:=HO.out bO ZS;have hs:u6 w v1 bP bA bH bR bO p ⟨⟨xh,xb,xt,xf,xr⟩,prev,a,n,c⟩ h ⟨⟨xh,xb,xt,xf,xr⟩,id,none,0,0⟩:=⟨ai hB0 hC,XF.on hC,VN.on hC,hH0.on hC,hR0.on hC,hO⟩;obtain⟨u,hu⟩:∃u:Nat->Value,∀t,u t=a'.eval (.tmp t):=⟨_,fun _=>rfl⟩;rw[iz a' 68 u Z.Vr Z.defers hu];rw[<-hu]at e3 e4' e5 e6 e7;clear hu Z hall hC ZS hO HO hB0 XF VN hH0 hR0;simp only[List.range,List.range.loop,bZ,cx];rw[e3,e4',e5,e6,e7];clear e3 e4' e5 e6 e7;have c0:=hs.a.c0 (z:=xh) (h_ rfl);have hpp:=hs.p;go_wp2_with (with_reducible refine NN.fK rfl _ rfl _ rfl hpp hz ?_)
 refine(KS.out _).mono ?_;rintro r v2 ⟨rfl,hb2⟩;replace hs:=hs.on hb2;clear hb2 c0 hpp;have cH:=hs.h.bits ho;rw[eb.out]at cH;have cT:=hs.h.time ho;rw[et.out]at cT;have c:=hs.o.c0 (z:=xh) (h_ rfl);have f:=hs.o.free 0;have hX:=hs.o.setH Xr;replace hs:=hs.put 0 _ hX n1 n2 n3 n4 n5;clear hX;go_upto_region 4 with fail
 generalize World.setCell _ _ _=v3 at*;clear c f cH cT;have cH:=hs.h.bits ho;rw[eb.out]at cH;have cT:=hs.h.time ho;rw[et.out]at cT;have c:=hs.o.c1 (z:=xb) (h_ rfl);have f:=hs.o.free 1;have hX:=hs.o.ah3 hb;replace hs:=hs.put 1 _ hX n1 n2 n3 n4 n5;clear hX;go_upto_region 5 with fail
 generalize World.setCell _ _ _=v4 at*;clear c f cH cT;have cH:=hs.h.bits ho;rw[eb.out]at cH;have cT:=hs.h.time ho;rw[et.out]at cT;have c:=hs.o.c2 (z:=xt) (h_ rfl);have f:=hs.o.free 2;have hX:=hs.o.ah4 ht;replace hs:=hs.put 2 _ hX n1 n2 n3 n4 n5;clear hX;go_upto_region 6 with fail
 generalize World.setCell _ _ _=v5 at*;clear c f cH cT;have cH:=hs.h.bits ho;rw[eb.out]at cH;have cT:=hs.h.time ho;rw[et.out]at cT;have HS:=h_ hs;clear hs cH cT;cases st
 case' true=>
  have hs:=HS.out;have cH:=hs.h.bits ho;rw[eb.out]at cH;have cT:=hs.h.time ho;rw[et.out]at cT;have c:=hs.o.c3 (z:=xf) (h_ rfl);have f:=hs.o.free 3;have hX:=hs.o.ah5 ht;replace hs:=hs.put 3 _ hX n1 n2 n3 n4 n5;clear hX;go_upto_region 8 with fail
  generalize World.setCell _ _ _=v6 at*;clear c f cH cT;have cH:=hs.h.bits ho;rw[eb.out]at cH;have cT:=hs.h.time ho;rw[et.out]at cT;have c:=hs.o.c4 (z:=xr) (h_ rfl);have f:=hs.o.free 4;have hX:=hs.o.Zk hb;replace hs:=hs.put 4 _ hX n1 n2 n3 n4 n5;clear hX;go_upto_region 10 with fail
  generalize World.setCell _ _ _=v7 at*;clear c f cH cT;have cH:=hs.h.bits ho;rw[eb.out]at cH;have cT:=hs.h.time ho;rw[et.out]at cT;have hs:u6 w v7 bP bA bH bR bO p ⟨⟨xh,xb,xt,xf,xr⟩,prev,a,n,c⟩ h ⟨⟨Xr,hb,ht,zf,zr⟩,id,none,0,0⟩:=by rw[show zf=ht from by simpa using HF.out,show zr=hb from by simpa using HR.out];exact hs
  clear cH cT HS;rename World=>vz
 case' false=>
  cases ez
  case' false=>
   have hs:=HS.out;have cH:=hs.h.bits ho;rw[eb.out]at cH;have cT:=hs.h.time ho;rw[et.out]at cT;have e4:=E4.out;have cE:=hs.p.c4 e4;clear e4;have c:=hs.o.c4 (z:=xr) (h_ rfl);have f:=hs.o.free 4;have hX:=hs.o.Zk hb;replace hs:=hs.put 4 _ hX n1 n2 n3 n4 n5;clear hX;go_upto_region 10 with fail
   generalize World.setCell _ _ _=v6 at*;clear c f cH cT;have cH:=hs.h.bits ho;rw[eb.out]at cH;have cT:=hs.h.time ho;rw[et.out]at cT;have hs:u6 w v6 bP bA bH bR bO p ⟨⟨xh,xb,xt,xf,xr⟩,prev,a,n,c⟩ h ⟨⟨Xr,hb,ht,zf,zr⟩,id,none,0,0⟩:=by rw[show zf=xf from by simpa using HF.out,show zr=hb from by simpa using HR.out];exact hs
   clear cH cT HS;clear cE;rename World=>vz
  case' true=>
   cases ne
   case' false=>
    have hs:=HS.out;have cH:=hs.h.bits ho;rw[eb.out]at cH;have cT:=hs.h.time ho;rw[et.out]at cT;have e4:=E4.out;have cE:=hs.p.c4 e4;clear e4;have e0:=E0.out;have cL:=hs.p.c0 e0;clear e0;have t0:=T0.out;have c:=hs.o.c4 (z:=xr) (h_ rfl);have f:=hs.o.free 4;have hX:=hs.o.Zk hb;replace hs:=hs.put 4 _ hX n1 n2 n3 n4 n5;clear hX;(go_upto_region 10 with fail);generalize World.setCell _ _ _=v6 at*;clear c f cH cT;have cH:=hs.h.bits ho;rw[eb.out]at cH;have cT:=hs.h.time ho;rw[et.out]at cT;have hs:u6 w v6 bP bA bH bR bO p ⟨⟨xh,xb,xt,xf,xr⟩,prev,a,n,c⟩ h ⟨⟨Xr,hb,ht,zf,zr⟩,id,none,0,0⟩:=(by rw[show zf=xf from by simpa using HF.out,show zr=hb from by simpa using HR.out];exact hs);clear cH cT HS;clear cE cL;rename World=>vz
   case' true=>
    have hs:=HS.out;have cH:=hs.h.bits ho;rw[eb.out]at cH;have cT:=hs.h.time ho;rw[et.out]at cT;have e4:=E4.out;have cE:=hs.p.c4 e4;clear e4;have e0:=E0.out;have cL:=hs.p.c0 e0;clear e0;have t0:=T0.out;(go_upto_region 10 with fail);have hs:u6 w v5 bP bA bH bR bO p ⟨⟨xh,xb,xt,xf,xr⟩,prev,a,n,c⟩ h ⟨⟨Xr,hb,ht,zf,zr⟩,id,none,0,0⟩:=(by rw[show zf=xf from by simpa using HF.out,show zr=xr from by simpa using HR.out];exact hs);clear cH cT HS;clear cE cL;rename World=>vz
 all_goals
  have hO0:=hs.o;have hOl:bO<vz.heap.size:=hO0.lt;have hn1:=HN1.out;have hln:=HLN.out;have m1:1+k<=1000:=by omega
  refine lG (by kernel_rfl) (fun w'=>vz.grownBy w' (some bO)) (fun i v' _=>Vh bA bH bO a n c p1 k ht i v') (fun l a w'=>Ls vz.heap.size bO ⟨⟨Xr,hb,ht,zf,zr⟩,id,none,0,0⟩ ht T k l a w') (fun _ _=>True) (fun _ _=>trivial) (fun _ _ _ _ _ _ h=>h) (by kernel_rfl) (yy cg.drew _) ?_ ?_ ?_;exact fun l hl=>⟨fun h=>(by rw[hl]at h;cases h),fun h=>(by rw[hl]at h;cases h),fun _=>Has.drew hO0,fun h=>(by rw[hl]at h;cases h)⟩
  ·intro i o lz a' wx ho' hn dq Z;have hC:=Z.c;have hI:=Z.i;have hi:i<13:=(dA.1 ho').1;have Xt:aX wx bH h:=iF hC hs.h (fun e=>n3 (Option.some.inj e));have hAx:aY wx bA ⟨⟨xh,xb,xt,xf,xr⟩,prev,a,n,c⟩:=iF hC hs.a (fun e=>n2 (Option.some.inj e));have cTx:=Xt.time ho;rw[et.out]at cTx;have cAx:=hAx.sl so;have hlx:vz.heap.size<=wx.heap.size:=hC.size;obtain rfl|rfl|rfl|rfl|rfl|rfl|rfl|rfl|rfl|rfl|rfl|rfl|rfl:i=0\/i=1\/i=2\/i=3\/i=4\/i=5\/i=6\/i=7\/i=8\/i=9\/i=10\/i=11\/i=12:=by omega
   all_goals obtain rfl:=Option.some.inj ho'
   exact br 0 Z (aq rfl) (O7 rfl (Z.old' 5)) rfl (hI.keep 0 (aC Z 0));exact br 1 Z (aq rfl) (NN.pg rfl (aw Z dq 0 55) cTx) rfl (hI.keep 1 (aC Z 1));have hsz:=aC Z 2;have h10:(lz.setIfInBounds 2 true).getD 10 false=false:=d_ Z hn 12;have h12:=fB Z hn 12;have X5:lz.getD 12 false=false:=(by rw[<-kk lz 2 12 hsz (by decide)];exact h12);have hbx:Bl wx (wx.alloc (.cells #[.int .i64 ht] 3)):=cu;refine uC 2 Z (aq rfl) (Uy rfl (aw Z dq 1 56)) (vG hC (yy hbx _)) trivial ⟨fun _ _=>⟨wx.heap.size,hlx,oq a' 57 _ (by rw[Z.Vr];exact(show 57<68 by decide)),Has.new _ _⟩,fun e=>(by rw[h10]at e;cases e),fun _=>(hI.2.2.1 X5).on hbx,fun e=>(by rw[h12]at e;cases e)⟩;exact br 3 Z (aq rfl) (E7 rfl (Z.old' 4)) rfl (hI.keep 3 (aC Z 3));exact br 4 Z (aq rfl) (Ff rfl (aw Z dq 3 58) cAx) rfl (hI.keep 4 (aC Z 4));exact br 5 Z (aq rfl) (E7 rfl (Z.old' 4)) rfl (hI.keep 5 (aC Z 5));exact br 6 Z (aq rfl) (Ff rfl (aw Z dq 5 60) cAx) rfl (hI.keep 6 (aC Z 6));exact br 7 Z (aq rfl) (Dx rfl (aw Z dq 6 61)) rfl (hI.keep 7 (aC Z 7));exact br 8 Z (aq rfl) (vX rfl (aw Z dq 7 62) rfl hkm.out) rfl (hI.keep 8 (aC Z 8));exact br 9 Z (aq rfl) (Gw rfl (aw Z dq 4 59) (aw Z dq 8 63) (hcut wx)) rfl (hI.keep 9 (aC Z 9));have hsz:=aC Z 10;have h12:=fB Z hn 12;have X5:lz.getD 12 false=false:=(by rw[<-kk lz 10 12 hsz (by decide)];exact h12);obtain⟨g,hgB,e57,hg⟩:=hI.1 (dq ⟨2,.data⟩ (by simp) rfl) hn;have e64:=(aw Z dq 9 64);have hLx:=(HL1.out.below hs.be (au _)).grown hC hs.be.size (.inr n5);obtain⟨v',w',hr,hown',hgr⟩:=NJ (lo:=0) (hi:=w.heap.size) (ρ:=a'.eval) (.tmp 57) (.tmp 64) vz.heap.size (.slice (some ⟨g,0,none⟩) 1 1) 1 [ht] e57 (LO hg hgB) p1 k c T e64 hn1 hln hLx m1 hlx;obtain⟨p8,c8,rfl⟩:=Fi hown';refine uC 10 Z (aq rfl) (hr _ rfl rfl) (zN hC hgr hgB) trivial ⟨fun _ e=>(by rw[ko _ _ _ hsz,aj rfl]at e;cases e),fun _ _=>⟨p8,c8,oq a' 65 _ (by rw[Z.Vr];exact(show 65<68 by decide)),hown'⟩,fun _=>iF hgr (hI.2.2.1 X5) (fun e=>by have:bO=g:=Option.some.inj e;omega),fun e=>(by rw[h12]at e;cases e)⟩;exact br 11 Z (aq rfl) (E7 rfl (Z.old' 7)) rfl (hI.keep 11 (aC Z 11));have hsz:=aC Z 12;have l10:lz.getD 10 false=true:=dq ⟨10,.data⟩ (by simp) rfl;obtain⟨p8,c8,e65,YW⟩:=hI.2.1 l10 hn;have hOx:=hI.2.2.1 hn;refine uD 12 Z (aq rfl) (Et rfl (aw Z dq 11 66) e65 (hOx.free 37) (hOx.sl i32)) (um hC 37 _) trivial ⟨fun _ e=>(by rw[kk _ _ _ hsz (by decide),l10]at e;cases e),fun _ e=>(by rw[ko _ _ _ hsz,aj rfl]at e;cases e),fun e=>(by rw[ko _ _ _ hsz,aj rfl]at e;cases e),fun _=>⟨p8,c8,hOx.ah6 i32 p8 (1+k) c8,YW.kept (jl _ _ _ _) (.inr (fun e=>by have:=(YW.lt bO e).1;omega))⟩⟩
  intro lz a' v9 hall Z;obtain⟨p8,c8,Yn,X6⟩:=Z.i.2.2.2 (hall 12 (by decide));have hC:=Z.c;have e6:a'.eval (.tmp 6)=.pointer (some ⟨bR,0,none⟩):=Z.old' 6;have e7:a'.eval (.tmp 7)=.pointer (some ⟨bO,0,none⟩):=Z.old' 7;have hR9:aY v9 bR qJ:=iF hC hs.r (fun e=>n4 (Option.some.inj e));have W9:Bl w v9:=hs.be.trans (vi hC n5 hs.be.size);have hRl:bR<vz.heap.size:=hs.r.lt;obtain⟨g8,rfl,hc8⟩:=JO X6;obtain⟨q8,d8,eq8,_,_,ac1⟩:=MM.GN (l:=ht::T) X6;cases eq8;have ac2:=h_ ac1;have HB0:=h_ hs.be.size;obtain⟨u,hu⟩:∃u:Nat->Value,∀t,u t=a'.eval (.tmp t):=⟨_,fun _=>rfl⟩;rw[iz a' 68 u Z.Vr Z.defers hu];rw[<-hu]at e6 e7;clear hu Z hall hC X6 ac1 hs hO0 hcut hmin hn1 hln;simp only[List.range,List.range.loop,bZ,cx];rw[e6,e7];clear e6 e7;have zo:(cU ⟨⟨Xr,hb,ht,zf,zr⟩,id,some ⟨g8,0,none⟩,1+k,c8⟩).size=38:=mJ i32;have HX:Hid (cU ⟨⟨Xr,hb,ht,zf,zr⟩,id,some ⟨g8,0,none⟩,1+k,c8⟩=cU ⟨⟨Xr,hb,ht,zf,zr⟩,id,some ⟨g8,0,none⟩,1+k,c8⟩):=h_ rfl;change aY v9 bO ⟨⟨Xr,hb,ht,zf,zr⟩,id,some ⟨g8,0,none⟩,1+k,c8⟩ at Yn;generalize hq:(⟨⟨Xr,hb,ht,zf,zr⟩,id,some ⟨g8,0,none⟩,1+k,c8⟩:Sp)=sq at Yn zo;have HQ:=h_ hq;clear hq HX
  go_wp2_with (first
   | (with_reducible refine AF rfl _ rfl bO rfl Yn zo ?_)
   | (with_reducible refine wW rfl _ _ rfl bR _ sq rfl rfl rfl zo hR9 z0 ?_))
  refine ay (v:=.agg (cU sq)) (ON Tryz.results125 _ bR rfl (Has.row hR9 _) zo) rfl ⟨g8,c8,by rw[<-HQ.out],hc8,?_,below_setRow W9 XH.out _⟩;have hwd:=ac2.out.wide (lo':=w.heap.size) (hi':=v9.heap.size) HB0.out (au _);rw[setRow_size];exact ac2.out.on (fun q h1 _=>iE v9 bR q _ (by omega)) |>.wide HB0.out (au _)
structure Ps where
 x:NN.Pt
 prev:List UInt8
 ts:List Int
def CX(p:NN.Pr)(x:NN.Pt)(h:Hd):NN.Pt:=⟨x.h+1,h.bits,h.time,if NN.c_ p.Vv x.h=true then h.time else x.f,if NN.c_ p.Vv x.h=true\/p.VD=false\/¬h.bits=p.lim then h.bits else x.r⟩
def bh(p:NN.Pr)(s:Ps)(h:Hd):Ps:=⟨CX p s.x h,h.id,h.time::s.ts.take 10⟩
def J'(p:NN.Pr)(g:Hd):Ps:=bh p ⟨⟨0,0,0,0,p.lim⟩,oX,[]⟩ g
def kC(p:NN.Pr)(g:Hd)(hs:List Hd)(k:Nat):Ps:=(hs.take k).foldl (bh p) (J' p g)
theorem uy(p:NN.Pr)(g:Hd)(hs:List Hd)(k:Nat)(hk:k<hs.length):kC p g hs (k+1)=bh p (kC p g hs k) (hs.getD k fi):=by
 have e:hs.take (k+1)=hs.take k++[hs.getD k fi]:=by
  rw[iJ,aQ hk,dC,aQ hk];rfl
 unfold kC;rw[e,qk];rfl
theorem o8(p:NN.Pr)(g:Hd)(hs:List Hd):∀k,k<=hs.length->(kC p g hs k).x.h=(k:Int)+1
 | 0,_=>rfl
 | k+1,h=>by
  rw[uy p g hs k (by omega)];show(kC p g hs k).x.h+1=_;rw[o8 p g hs k (by omega)];omega
theorem NK(p:NN.Pr)(g:Hd)(hs:List Hd):∀k,k<=hs.length->(kC p g hs k).prev.length=32
 | 0,_=>lJ _
 | k+1,h=>by
  rw[uy p g hs k (by omega)];exact lJ _
theorem sm(p:NN.Pr)(g:Hd)(hs:List Hd):∀k,k<=hs.length->(kC p g hs k).ts.length=min (k+1) 11
 | 0,_=>rfl
 | k+1,h=>by
  rw[uy p g hs k (by omega)];show(_::(kC p g hs k).ts.take 10).length=_;rw[fP,eM,sm p g hs k (by omega)];omega
theorem GU(p:NN.Pr)(hp:p.ok)(s:Sp)(so:s.ok)(ts:List Int)(hl:ts.length=s.n)(hc:s.n<=s.c)(hmax:s.n<=1000)(hnil:s.a=none->s.n=0/\s.c=0)(hx:0<=s.x.h)(hx2:s.x.h<=1000000)(h:Hd)(ho:h.ok)(w:World)(hT:gj w)(hL:MM.gX w 0 w.heap.size s.a ts):aU 125 #[.agg (NN.aV p),.agg (cU s),.agg (aS h)] w fun r w'=>∃b' c',r=.returned (.agg (cU ⟨CX p s.x h,h.id,some ⟨b',0,none⟩,(h.time::ts.take 10).length,c'⟩))/\(h.time::ts.take 10).length<=c'/\MM.gX w' w.heap.size w'.heap.size (bs b') (h.time::ts.take 10)/\Bl w w':=by
 obtain⟨⟨xh,xb,xt,xf,xr⟩,prev,a,n,c⟩:=s;simp only at hl hc hmax hnil hx hx2 hL;obtain⟨k,hk⟩:∃k,k=min n 10:=⟨_,rfl⟩
 have e10:ts.take 10=ts.take k:=by
  by_cases h10:n<=10;rw[gB (by omega),gB (by omega)];rw[show k=10 by omega]
 have hz:=NN.gT hp;have hlk:(h.time::ts.take k).length=1+k:=by simp;omega
 have hw:IntKind.i64.wrap (xh+1)=xh+1:=by rw[IntKind.wrap_i64];omega
 have i32:=lJ h;rw[e10,hlk];unfold CX;simp only;exact JW p hz xh xb xt xf xr prev so a n c h ho h.id i32 h.bits h.time (h_ rfl) (h_ rfl) (NN.c_ p.Vv xh) p.VD (h.bits==p.lim) (h_ (h_ rfl)) p.lim (h_ (h_ rfl)) (h_ rfl) _ _ (h_ rfl) (h_ (by simp only[ld,ne_eq])) (xh+1) hw (h_ (NN.Kq p xh _ rfl)) (h_ fun w hT=>qL h ho w hT) ts hl hc (by omega) hnil k hk w hT hL
structure Tl where
 ga:Option Addr
 gn:Nat
 gc:Nat
 ca:Option Addr
 cn:Nat
 cc:Nat
 nn:List Value
 g:Hd
def Tl.C(t:Tl):List Value:=.slice t.ga t.gn t.gc :: .slice t.ca t.cn t.cc::(t.nn++cP t.g)
def Tl.ok(t:Tl):Prop:=t.nn.length=8/\t.g.ok
theorem r_(p:NN.Pr)(j:Nat):(NN.aV p)[5+j]?=p.tl[j]?:=by unfold NN.aV;rw[dg,show 5+j=j+1+1+1+1+1 by omega];rfl
section
variable{w:World}{k:Nat}{p:NN.Pr}{t:Tl}
theorem r8(h:NN.aK w k p)(e:p.tl=t.C):w.cell? ⟨k,5,none⟩=some (.slice t.ga t.gn t.gc):=(NN.Has.cell h 5).trans (by rw[show 5=5+0 from rfl,r_,e];rfl)
theorem sc(h:NN.aK w k p)(e:p.tl=t.C):w.cell? ⟨k,6,none⟩=some (.slice t.ca t.cn t.cc):=(NN.Has.cell h 6).trans (by rw[show 6=5+1 from rfl,r_,e];rfl)
theorem n7(h:NN.aK w k p)(e:p.tl=t.C)(ht:t.ok):w.rangeAt k 15 (cP t.g):=fun j u hu=>by
 rw[NN.Has.cell h (15+j),show 15+j=5+(10+j) by omega,r_,e,show 10+j=(8+j)+1+1 by omega];show(t.nn++cP t.g)[8+j]?=some u;rw[dE (by rw[ht.1];omega),ht.1,lK];exact hu
end
section
variable{w:World}{ops:Array Oper}{rest:List Oper}{o:Oper}{a:Act}{Q:Exit->Act->World->Prop}
theorem Hg(z:Int):Tryz.prog.built 139 [(4,i_ z)]=some (NN.nB ⟨0,0,0,0,z⟩):=by kernel_rfl
theorem Jm(x:NN.Pt):Tryz.prog.built 141 [(0,.agg (NN.nB x))]=some (cU ⟨x,oX,none,0,0⟩):=by kernel_rfl
theorem Lg(hgd:o.guard=none)(x:Operand)(ho:o.op=.build 139 #[(4,x)])(z:Int)(hx:a.eval x=i_ z)(hk:wpList Tryz.prog ops Q rest (a.put o.dst (.agg (NN.nB ⟨0,0,0,0,z⟩))) w):wpList Tryz.prog ops Q (o::rest) a w:=
 gk hgd fun _ hK=>by
  unfold Oper.wp execOp;simp only[ho,aB];rw[show(#[(4,x)]:Array (Nat×Operand)).map (fun(i,x)=>(i,a.eval x))=#[(4,i_ z)] by simp[hx],gw w 139 _ _ (Hg z)];exact hK _ _ hk
theorem Qt(hgd:o.guard=none)(x:Operand)(ho:o.op=.build 141 #[(0,x)])(y:NN.Pt)(hx:a.eval x=.agg (NN.nB y))(hk:wpList Tryz.prog ops Q rest (a.put o.dst (.agg (cU ⟨y,oX,none,0,0⟩))) w):wpList Tryz.prog ops Q (o::rest) a w:=
 gk hgd fun _ hK=>by
  unfold Oper.wp execOp;simp only[ho,aB];rw[show(#[(0,x)]:Array (Nat×Operand)).map (fun(i,x)=>(i,a.eval x))=#[(0,.agg (NN.nB y))] by simp[hx],gw w 141 _ _ (Jm y)];exact hK _ _ hk
end
def gR(w:World)(lo:Nat)(s:Sp)(q:Ps):Prop:=s.x=q.x/\s.prev=q.prev/\q.ts.length=s.n/\s.n<=s.c/\(∃b,s.a=some ⟨b,0,none⟩)/\MM.gX w lo w.heap.size s.a q.ts
variable{w w':World}{lo:Nat}{s:Sp}{q:Ps}
theorem gR.on(h:gR w lo s q)(hb:Bl w w'):gR w' lo s q:=⟨h.1,h.2.1,h.2.2.1,h.2.2.2.1,h.2.2.2.2.1,(h.2.2.2.2.2.below hb (au _)).wide (au _) hb.size⟩
theorem gR.row{g:Nat}{cs:Array Value}(h:gR w lo s q)(hg:g<lo):gR (w.setRow g cs) lo s q:=⟨h.1,h.2.1,h.2.2.1,h.2.2.2.1,h.2.2.2.2.1,by rw[setRow_size];exact h.2.2.2.2.2.on (fun k h1 _=>iE w g k cs (by omega))⟩
theorem gR.wide{lo':Nat}(h:gR w lo s q)(hl:lo'<=lo):gR w lo' s q:=⟨h.1,h.2.1,h.2.2.1,h.2.2.2.1,h.2.2.2.2.1,h.2.2.2.2.2.wide hl (au _)⟩
theorem Bj(p:NN.Pr)(hp:p.ok)(t:Tl)(et:p.tl=t.C)(ht:t.ok)(lim:Int)(e0:Hid (p.lim=lim))(w:World)(KB:og w fun w'=>aU 125 #[.agg (NN.aV p),.agg (cU ⟨⟨0,0,0,0,lim⟩,oX,none,0,0⟩),.agg (aS t.g)] w' fun r w''=>∃s,r=.returned (.agg (cU s))/\(cU s).size=38/\gR w'' w'.heap.size s (J' p t.g)/\Bl w' w''):aU 141 #[.agg (NN.aV p)] w fun r w'=>∃s,r=.returned (.agg (cU s))/\(cU s).size=38/\gR w' w.heap.size s (J' p t.g)/\Bl w w':=by
 have hz:=NN.gT hp;have z0:=mJ mS;have ET:=h_ et;have HT:=h_ ht;have s1:=gQ ht.2;clear et;go_enter Tryz.func141,Tryz.ntmps141;go_upto_region 1 with fail
 generalize hw0:World.alloc _ _=v0;have hB0:Bl w v0:=by rw[<-hw0];exact cu.alloc (by simp) _
 have hP:NN.aK v0 w.heap.size p:=by rw[<-hw0];exact(NN.Has.new _ _).alloc _
 have hR:aY v0 (w.heap.size+1) qJ:=by rw[<-hw0];exact Has.Vt _ (cU qJ) _
 clear hw0;have c0:=hP.c0 e0;have r15:=n7 hP ET.out HT.out
 go_wp2_with (first
  | (with_reducible refine NN.fK rfl _ rfl _ rfl hP hz ?_)
  | (with_reducible refine Lg rfl _ rfl lim rfl ?_)
  | (with_reducible refine Qt rfl _ rfl ⟨0,0,0,0,lim⟩ rfl ?_)
  | (with_reducible refine mL rfl _ rfl _ 15 rfl t.g r15 s1 ?_))
 refine(KB.out v0 hB0).mono ?_;rintro r v1 ⟨s,rfl,zs,hS,hb1⟩;have Zb:=hR.on hb1;have hRl:=hR.lt;have HB:Hid (Bl w v1):=h_ (ai hB0 hb1);have HB0:=h_ hB0.size;clear hb1 hB0 hP hR c0 r15 KB;go_wp2_with (with_reducible refine wW rfl _ _ rfl _ _ s rfl rfl rfl zs Zb z0 ?_)
 refine ay (v:=.agg (cU s)) (ON Tryz.results141 _ _ rfl (Has.row Zb _) zs) rfl ⟨s,rfl,zs,?_,below_setRow HB.out (by omega) _⟩;obtain⟨h1,h2,h3,h4,h5,h6⟩:=hS;refine⟨h1,h2,h3,h4,h5,?_⟩;rw[setRow_size];exact(h6.on (fun q hq _=>iE v1 _ q _ (by omega))).wide HB0.out (au _)
theorem Ii(p:NN.Pr)(hp:p.ok)(t:Tl)(et:p.tl=t.C)(ht:t.ok)(w:World)(hT:gj w):aU 141 #[.agg (NN.aV p)] w fun r w'=>∃s,r=.returned (.agg (cU s))/\(cU s).size=38/\gR w' w.heap.size s (J' p t.g)/\Bl w w':=by refine Bj p hp t et ht _ (h_ rfl) w (h_ fun w' hb=>?_);refine(GU p hp ⟨⟨0,0,0,0,p.lim⟩,oX,none,0,0⟩ rfl [] rfl (au _) (show 0<=1000 by omega) (fun _=>⟨rfl,rfl⟩) (by simp) (by simp) t.g ht.2 w' (hT.below hb) MM.gX.none).mono ?_;rintro r w2 ⟨b',c',rfl,h1,h2,h3⟩;exact⟨_,rfl,mJ (lJ _),⟨rfl,rfl,rfl,h1,⟨b',rfl⟩,h2⟩,h3⟩
theorem Ut(l:List UInt8)(hl:l.length=32)(w:World):ar 148 #[.agg (ae l)] w (.agg (NN.aa (numOf l))):=by rw[<-U1 l hl];exact NN.UO (pc l) (F5 l) w
theorem N8(p:NN.Pr)(h:Hd)(ho:h.ok)(lim b:Int)(e0:Hid (p.lim=lim))(eb:Hid (h.bits=b))(t:Nat)(KT:Hid (dx 106 #[i_ b,i_ lim] (.tuple #[.agg (NN.aa t),.bool false])))(w:World):ar 112 #[.agg (NN.aV p),.agg (aS h)] w (.bool false):=by
 go_enter Tryz.func112,Tryz.ntmps112;go_upto_region 1 with fail
 generalize hw0:World.alloc _ _=v0;have hB:Below w.heap.size w v0:=by rw[<-hw0];exact cu.alloc (by simp) _
 have hP:NN.aK v0 w.heap.size p:=by rw[<-hw0];exact(NN.Has.new _ _).alloc _
 have hH:aX v0 (w.heap.size+1) h:=by rw[<-hw0];exact uF w _ h
 clear hw0;have c0:=hP.c0 e0;have c1:v0.cell? ⟨w.heap.size+1,66,none⟩=some (i_ b):=by rw[<-eb.out];exact hH.bits ho
 go_wp2_with fail
 refine az (KT.out _) fun v1 hb1=>?_;replace hH:=hH.on hb1;replace hB:=ai hB hb1;clear hb1 c0 c1 hP;have hZ:=NN.Has.Vp (w:=v1) 26;go_upto_region 2 with(with_reducible refine NN.cB rfl _ _ rfl _ _ rfl rfl _ hZ rfl ?_)
 generalize hw2:World.setRow _ _ _=v2;have hb2:Below v1.heap.size v1 v2:=dZ hw2;have hN:NN.Has v2 v1.heap.size (NN.aa t) 26:=by rw[<-hw2];exact NN.Has.row hZ _
 replace hH:=hH.on hb2;replace hB:=ai hB hb2;clear hw2 hb2 hZ;generalize v1.heap.size=bN at hN|-;go_wp2_with fail
 refine wp_region_quiet_below (by kernel_rfl) (by kernel_rfl) ?_
 repeat(first
  | go_big_quiet_step (fail))
 refine wpQuiet_nil ?_;intro _ hw';obtain⟨q,hw''⟩:=hw';subst hw'';have hB2:=hB.trans ((below_regrown v2 q.d q.os).mono hB.size);go_wp2_with fail
 go_ret;exact⟨rfl,hB2⟩
theorem Hp(p:NN.Pr)(h:Hd)(ho:h.ok)(lim b:Int)(e0:Hid (p.lim=lim))(eb:Hid (h.bits=b))(t:Nat)(KT:Hid (dx 106 #[i_ b,i_ lim] (.tuple #[.agg (NN.aa t),.bool true])))(id:List UInt8)(u:Nat)(m:Bool)(KI:Hid (dx 75 #[.agg (aS h)] (.agg (ae id))))(KN:Hid (dx 148 #[.agg (ae id)] (.agg (NN.aa u))))(KM:Hid (dx 102 #[.agg (NN.aa t),.agg (NN.aa u)] (.bool m)))(w:World):ar 112 #[.agg (NN.aV p),.agg (aS h)] w (.bool !m):=by
 go_enter Tryz.func112,Tryz.ntmps112;go_upto_region 1 with fail
 generalize hw0:World.alloc _ _=v0;have hB:Below w.heap.size w v0:=by rw[<-hw0];exact cu.alloc (by simp) _
 have hP:NN.aK v0 w.heap.size p:=by rw[<-hw0];exact(NN.Has.new _ _).alloc _
 have hH:aX v0 (w.heap.size+1) h:=by rw[<-hw0];exact uF w _ h
 clear hw0;have c0:=hP.c0 e0;have c1:v0.cell? ⟨w.heap.size+1,66,none⟩=some (i_ b):=by rw[<-eb.out];exact hH.bits ho
 go_wp2_with fail
 refine az (KT.out _) fun v1 hb1=>?_;replace hH:=hH.on hb1;replace hB:=ai hB hb1;clear hb1 c0 c1 hP;have hZ:=NN.Has.Vp (w:=v1) 26;go_upto_region 2 with(with_reducible refine NN.cB rfl _ _ rfl _ _ rfl rfl _ hZ rfl ?_)
 generalize hw2:World.setRow _ _ _=v2;have hb2:Below v1.heap.size v1 v2:=dZ hw2;have hN:NN.Has v2 v1.heap.size (NN.aa t) 26:=by rw[<-hw2];exact NN.Has.row hZ _
 replace hH:=hH.on hb2;replace hB:=ai hB hb2;clear hw2 hb2 hZ;generalize v1.heap.size=bN at hN|-;have q1:=jW hH.range (ou h);have s1:=gQ ho;go_wp2_with fail
 refine wp_region_quiet_below (by kernel_rfl) (by kernel_rfl) ?_
 repeat(first
  | (go_big_quiet_want;(with_reducible first|refine oS _ rfl (w.heap.size+1) 0 rfl h s1 q1 ?_|refine NN.s_ _ rfl _ rfl _ hN.cls ?_);(simp only[Act.put,da,aZ,bg]);go_big_quiet_on)
  | go_big_quiet_step (first|(go_at_call 75;exact Calls.regrown_of (KI.out _))|(go_at_call 148;exact Calls.regrown_of (KN.out _))|(go_at_call 102;exact Calls.regrown_of (KM.out _))))
 refine wpQuiet_nil ?_;intro _ hw';obtain⟨q,hw''⟩:=hw';subst hw'';have hB2:=hB.trans ((below_regrown v2 q.d q.os).mono hB.size);go_wp2_with fail
 go_ret;exact⟨rfl,hB2⟩
theorem x8(p:NN.Pr)(h:Hd)(ho:h.ok)(g:Bool)(hg:sr p.lim h=g)(w:World):ar 112 #[.agg (NN.aV p),.agg (aS h)] w (.bool g):=by unfold sr at hg;have KT:=NN.zg h.bits p.lim;cases hk:NN.tok h.bits p.lim;rw[hk]at KT hg;rw[<-hg];exact N8 p h ho _ _ (h_ rfl) (h_ rfl) _ (h_ KT) w;rw[hk,dG]at hg;rw[hk]at KT;rw[<-hg];exact Hp p h ho _ _ (h_ rfl) (h_ rfl) _ (h_ KT) h.id _ _ (h_ (mK h ho)) (h_ (Ut h.id (lJ h))) (h_ (NN.sf _ _ (NN.o_ _ _) (MA _))) w
def fu(p:NN.Pr)(ch:List Hd):Nat->Int×Int
 | 0=>(0,p.lim)
 | k+1=>(if NN.c_ p.Vv (k:Int)=true then(ch.getD k fi).time else(fu p ch k).1,if NN.c_ p.Vv (k:Int)=true\/p.VD=false\/¬(ch.getD k fi).bits=p.lim then(ch.getD k fi).bits else(fu p ch k).2)
theorem H'(p:NN.Pr)(g:Hd)(hs:List Hd):∀k,k<=hs.length->fu p (g::hs) (k+1)=((kC p g hs k).x.f,(kC p g hs k).x.r)
 | 0,_=>rfl
 | k+1,h=>by
  rw[uy p g hs k (by omega)];have ih:=H' p g hs k (by omega);have hh:=o8 p g hs k (by omega);show(if NN.c_ p.Vv ((k+1:Nat):Int)=true then((g::hs).getD (k+1) fi).time else(fu p (g::hs) (k+1)).1,_)=_;rw[ih];show _=((CX p (kC p g hs k).x (hs.getD k fi)).f,(CX p (kC p g hs k).x (hs.getD k fi)).r);unfold CX;rw[hh];rfl
theorem sJ(p:NN.Pr)(g:Hd)(hs:List Hd):∀k,k<=hs.length->(kC p g hs k).x.b=((g::hs).getD k fi).bits/\(kC p g hs k).x.t=((g::hs).getD k fi).time/\(kC p g hs k).prev=((g::hs).getD k fi).id
 | 0,_=>⟨rfl,rfl,rfl⟩
 | k+1,h=>by
  rw[uy p g hs k (by omega)];exact⟨rfl,rfl,rfl⟩
theorem yv(p:NN.Pr)(hz:(NN.aV p).size=83)(lim Vv:Int)(VD:Bool)(e0:Hid (p.lim=lim))(e1:Hid (p.Vv=Vv))(e4:Hid (p.VD=VD))(a:Option Addr)(ch:List Hd)(n c:Nat)(hn:n=ch.length)(h0:0<n)(hl:n<=1000)(own:Int)(f r lb lt ans:Int)(hf:fu p ch n=(f,r))(hb:(ch.getD (n-1) fi).bits=lb)(ht:(ch.getD (n-1) fi).time=lt)(KN:Hid (dx 147 #[.agg (NN.aV p),i_ n,i_ lb,i_ lt,i_ f,i_ r,i_ own] (i_ ans)))(w:World)(hA:bo w a ch):ar 111 #[.agg (NN.aV p),.slice a n c,i_ own] w (i_ ans):=by
 have HN:=h_ hn;have HF:=h_ hf;have HA:=h_ hA;obtain⟨m,hm⟩:∃m,m=n-1:=⟨_,rfl⟩;have wm:IntKind.i64.wrap ((n:Int)-1)=(m:Int):=by rw[IntKind.wrap_i64];omega
 have hmn:m<n:=by omega
 have d0:((n:Int)==0)=false:=by simp;omega
 obtain⟨WO,WQ,ea,ac3,hc0⟩:=hA (by rw[<-hn];omega)
 have hq:(ch.getD m fi).ok/\w.rangeAt WO (WQ+m*68) (cP (ch.getD m fi)):=by
  rw[vJ (show m<ch.length by rw[<-hn];omega)];exact hc0 m _
 rw[<-hm]at hb ht;obtain⟨y,hy⟩:∃y,y=ch.getD m fi:=⟨_,rfl⟩;rw[<-hy]at hb ht hq;subst ea;have q1:=gQ hq.1;have q2:=jI hq.1;have qz:=jI iC;have yok:=hq.1;have HB:=h_ hb;have HT:=h_ ht;have HR:=h_ hq.2;clear hn hf hA hm hy hc0 hb ht hq;go_enter Tryz.func111,Tryz.ntmps111;go_upto_region 1 with fail
 generalize hw0:World.alloc _ _=v0;have hB:Bl w v0:=eT hw0;have hP:NN.aK v0 w.heap.size p:=by rw[<-hw0];exact NN.Has.new _ _
 clear hw0;obtain⟨bP,VF⟩:∃b,b=w.heap.size:=⟨_,rfl⟩;rw[<-VF]at hP|-;clear VF;have r0:=lL HR.out hB (ou y);have hnew:=FD v0
 go_upto_region 5 with(first
  | (with_reducible refine mL rfl _ rfl WO (WQ+m*68) rfl y r0 q1 ?_)
  | (with_reducible refine np rfl _ _ rfl _ _ y rfl rfl rfl q2 hnew qz ?_))
 generalize hw1:World.setRow _ _ _=v1;have hb1:Bl v0 v1:=dZ hw1;have hY:aX v1 v0.heap.size y:=by rw[<-hw1];exact Has.row hnew _
 replace hP:=hP.on hb1;replace hB:=ai hB hb1;clear hw1 hb1 hnew r0;obtain⟨bL,hbL⟩:∃b,b=v0.heap.size:=⟨_,rfl⟩;rw[<-hbL]at hY|-;clear hbL;have c0:=hP.c0 e0;go_wp2_with fail
 clear c0;go_loopw [9,10,29] (fun u v i wr=>∃k:Nat,k<=n/\i=i_ k/\∃fk rk:Int,u=i_ fk/\v=i_ rk/\Hid (fu p ch k=(fk,rk))/\NN.aK wr bP p/\aX wr bL y/\Bl w wr) (fun _ _ i _=>n-(intOf i).toNat)
 case atStart=>exact⟨0,by omega,rfl,0,_,rfl,rfl,h_ (by rw[<-e0.out];rfl),hP,hY,hB⟩
 case round=>
  clear hP hY hB;obtain⟨k,hk,rfl,fk,rk,rfl,rfl,HK,hP,hY,hB⟩:=hrel;by_cases hlt:k<n
  ·obtain⟨ab,ao,ea,VR,hc⟩:=(HA.out.below hB) (by rw[<-HN.out];omega);cases ea
   have q:(ch.getD k fi).ok/\wr.rangeAt WO (WQ+k*68) (cP (ch.getD k fi)):=by
    rw[vJ (show k<ch.length by rw[<-HN.out];omega)];exact hc k _
   have hnx:fu p ch (k+1)=(if NN.c_ p.Vv (k:Int)=true then(ch.getD k fi).time else(fu p ch k).1,if NN.c_ p.Vv (k:Int)=true\/p.VD=false\/¬(ch.getD k fi).bits=p.lim then(ch.getD k fi).bits else(fu p ch k).2):=rfl;rw[HK.out]at hnx;generalize ch.getD k fi=z at*;obtain⟨YX,rz⟩:=q;have z1:=gQ YX;have z2:=jI YX;have hnew:=FD wr;have hG:aX ((wr.alloc (.cells Tryz.zeroCells30 30)).setRow wr.heap.size (aS z)) wr.heap.size z:=Has.row hnew _;have hb1:Bl wr ((wr.alloc (.cells Tryz.zeroCells30 30)).setRow wr.heap.size (aS z)):=below_setRow cu (au _) _;replace hP:=hP.on hb1;replace hY:=hY.on hb1;replace hB:=ai hB hb1;have c1:=hP.c1 e1;have c4:=hP.c4 e4;have c0:=hP.c0 e0;obtain⟨tz,htz⟩:∃tz,tz=z.time:=⟨_,rfl⟩;obtain⟨bz,hbz⟩:∃bz,bz=z.bits:=⟨_,rfl⟩;have cb:=hG.bits YX;have ct:=hG.time YX;rw[<-hbz]at cb hnx;rw[<-htz]at ct hnx;rw[e0.out,e1.out,e4.out]at hnx;have HX:=h_ hnx;clear hnx hb1 hG hc htz hbz HK;cases hti:decide (0<Vv)
   ·have hst:NN.c_ Vv (k:Int)=false:=(by unfold NN.c_;rw[hti];rfl);cases hE:VD
    ·rw[hE]at c4;have V6:Hid (fu p ch (k+1)=(fk,bz)):=h_ (by rw[HX.out];simp[hst,hE]);clear HX
     go_wp2_with (first
      | (with_reducible refine mL rfl _ rfl WO (WQ+k*68) rfl z rz z1 ?_)
      | (with_reducible refine np rfl _ _ rfl _ _ z rfl rfl rfl z2 hnew qz ?_))
     go_roundw
     case rel=>exact⟨k+1,by omega,by go_num,fk,bz,rfl,rfl,V6,hP,hY,hB⟩
     case measure=>simp[intOf];omega
    ·rw[hE]at c4;cases hne:(bz==lim)
     ·have hne2:¬bz=lim:=(by simpa using hne);have V6:Hid (fu p ch (k+1)=(fk,bz)):=h_ (by rw[HX.out];simp[hst,hE,hne2]);clear HX
      go_wp2_with (first
       | (with_reducible refine mL rfl _ rfl WO (WQ+k*68) rfl z rz z1 ?_)
       | (with_reducible refine np rfl _ _ rfl _ _ z rfl rfl rfl z2 hnew qz ?_))
      go_roundw
      case rel=>exact⟨k+1,by omega,by go_num,fk,bz,rfl,rfl,V6,hP,hY,hB⟩
      case measure=>simp[intOf];omega
     ·have hne2:bz=lim:=(by simpa using hne);have V6:Hid (fu p ch (k+1)=(fk,rk)):=h_ (by rw[HX.out];simp[hst,hE,hne2]);clear HX
      go_wp2_with (first
       | (with_reducible refine mL rfl _ rfl WO (WQ+k*68) rfl z rz z1 ?_)
       | (with_reducible refine np rfl _ _ rfl _ _ z rfl rfl rfl z2 hnew qz ?_))
      go_roundw
      case rel=>exact⟨k+1,by omega,by go_num,fk,rk,rfl,rfl,V6,hP,hY,hB⟩
      case measure=>simp[intOf];omega
   ·have hne0:¬Vv=0:=(by have:=dX hti;omega);obtain⟨rm,hrm⟩:∃rm,rm=(k:Int).tmod Vv:=⟨_,rfl⟩;have al8:=hrm.symm;cases htm:(rm==0)
    ·have hst:NN.c_ Vv (k:Int)=false:=(by unfold NN.c_;rw[hti,<-hrm,htm];rfl);clear hrm;cases hE:VD
     ·rw[hE]at c4;have V6:Hid (fu p ch (k+1)=(fk,bz)):=h_ (by rw[HX.out];simp[hst,hE]);clear HX
      go_wp2_with (first
       | (with_reducible refine mL rfl _ rfl WO (WQ+k*68) rfl z rz z1 ?_)
       | (with_reducible refine np rfl _ _ rfl _ _ z rfl rfl rfl z2 hnew qz ?_))
      go_roundw
      case rel=>exact⟨k+1,by omega,by go_num,fk,bz,rfl,rfl,V6,hP,hY,hB⟩
      case measure=>simp[intOf];omega
     ·rw[hE]at c4;cases hne:(bz==lim)
      ·have hne2:¬bz=lim:=(by simpa using hne);have V6:Hid (fu p ch (k+1)=(fk,bz)):=h_ (by rw[HX.out];simp[hst,hE,hne2]);clear HX
       go_wp2_with (first
        | (with_reducible refine mL rfl _ rfl WO (WQ+k*68) rfl z rz z1 ?_)
        | (with_reducible refine np rfl _ _ rfl _ _ z rfl rfl rfl z2 hnew qz ?_))
       go_roundw
       case rel=>exact⟨k+1,by omega,by go_num,fk,bz,rfl,rfl,V6,hP,hY,hB⟩
       case measure=>simp[intOf];omega
      ·have hne2:bz=lim:=(by simpa using hne);have V6:Hid (fu p ch (k+1)=(fk,rk)):=h_ (by rw[HX.out];simp[hst,hE,hne2]);clear HX
       go_wp2_with (first
        | (with_reducible refine mL rfl _ rfl WO (WQ+k*68) rfl z rz z1 ?_)
        | (with_reducible refine np rfl _ _ rfl _ _ z rfl rfl rfl z2 hnew qz ?_))
       go_roundw
       case rel=>exact⟨k+1,by omega,by go_num,fk,rk,rfl,rfl,V6,hP,hY,hB⟩
       case measure=>simp[intOf];omega
    ·have hst:NN.c_ Vv (k:Int)=true:=(by unfold NN.c_;rw[hti,<-hrm,htm];rfl);clear hrm;cases hE:VD
     ·rw[hE]at c4;have V6:Hid (fu p ch (k+1)=(tz,bz)):=h_ (by rw[HX.out];simp[hst,hE]);clear HX
      go_wp2_with (first
       | (with_reducible refine mL rfl _ rfl WO (WQ+k*68) rfl z rz z1 ?_)
       | (with_reducible refine np rfl _ _ rfl _ _ z rfl rfl rfl z2 hnew qz ?_))
      go_roundw
      case rel=>exact⟨k+1,by omega,by go_num,tz,bz,rfl,rfl,V6,hP,hY,hB⟩
      case measure=>simp[intOf];omega
     ·rw[hE]at c4;cases hne:(bz==lim)
      ·have hne2:¬bz=lim:=(by simpa using hne);have V6:Hid (fu p ch (k+1)=(tz,bz)):=h_ (by rw[HX.out];simp[hst,hE,hne2]);clear HX
       go_wp2_with (first
        | (with_reducible refine mL rfl _ rfl WO (WQ+k*68) rfl z rz z1 ?_)
        | (with_reducible refine np rfl _ _ rfl _ _ z rfl rfl rfl z2 hnew qz ?_))
       go_roundw
       case rel=>exact⟨k+1,by omega,by go_num,tz,bz,rfl,rfl,V6,hP,hY,hB⟩
       case measure=>simp[intOf];omega
      ·have hne2:bz=lim:=(by simpa using hne);have V6:Hid (fu p ch (k+1)=(tz,lim)):=h_ (by rw[HX.out];simp[hst,hE,hne2]);clear HX
       go_wp2_with (first
        | (with_reducible refine mL rfl _ rfl WO (WQ+k*68) rfl z rz z1 ?_)
        | (with_reducible refine np rfl _ _ rfl _ _ z rfl rfl rfl z2 hnew qz ?_))
       go_roundw
       case rel=>exact⟨k+1,by omega,by go_num,tz,lim,rfl,rfl,V6,hP,hY,hB⟩
       case measure=>simp[intOf];omega
  ·obtain rfl:k=n:=by omega
   have e:(fk,rk)=(f,r):=by rw[<-HK.out,HF.out]
   cases e;have cb:=hY.bits yok;have ct:=hY.time yok;rw[HB.out]at cb;rw[HT.out]at ct;go_wp2_with (first|fail|(with_reducible refine NN.fK rfl _ rfl _ rfl hP hz ?_))
   refine az (KN.out _) fun v9 VE=>?_;replace hB:=ai hB VE;go_wp2_with fail
   go_ret;exact⟨rfl,hB⟩
theorem PW(p:NN.Pr)(hp:p.ok)(a:Option Addr)(g:Hd)(hs:List Hd)(n c:Nat)(hn:n=hs.length+1)(hl:n<=1000)(own:Int)(w:World)(hA:bo w a (g::hs)):ar 111 #[.agg (NN.aV p),.slice a n c,i_ own] w (i_ (NN.tR p (kC p g hs (n-1)).x own)):=by have h1:=H' p g hs (n-1) (by omega);obtain⟨h2,h3,_⟩:=sJ p g hs (n-1) (by omega);have h4:=o8 p g hs (n-1) (by omega);rw[show n-1+1=n by omega]at h1;refine yv p (NN.gT hp) _ _ _ (h_ rfl) (h_ rfl) (h_ rfl) a (g::hs) n c (by simpa using hn) (by omega) hl own _ _ _ _ _ h1 h2.symm h3.symm (h_ fun w=>?_) w hA;have K:=NN.Nx p hp (kC p g hs (n-1)).x own w;rw[h4,show((n-1:Nat):Int)+1=(n:Int) by omega]at K;exact K
structure QM (w wr:World) (bP bA bH:Nat) (p:NN.Pr) (s:Sp) (h:Hd):Prop where
 be:Bl w wr
 p:NN.aK wr bP p
 a:aY wr bA s
 h:aX wr bH h
theorem QM.on{wr:World}{bP bA bH:Nat}{p:NN.Pr}{h:Hd}(hs:QM w wr bP bA bH p s h)(hb:Bl wr w'):QM w w' bP bA bH p s h:=⟨ai hs.be hb,hs.p.on hb,hs.a.on hb,hs.h.on hb⟩
def Fj(g0 b1 b2 g3 g4 g5 b6 g7:Bool):Int:=
 if g0=false then 1 else if b1=true then 2 else if b2=false then 3 else if g3=false then 4 else if g4=false then 5 else if g5=false then 6 else if b6=true then 7 else if g7=false then 8 else 0
theorem Aq(p:NN.Pr)(hz:(NN.aV p).size=83)(xh xb xt xf xr:Int)(prev:List UInt8)(Wz:prev.length=32)(a:Option Addr)(n c:Nat)(h:Hd)(ho:h.ok)(now:Int)(w:World)(g0 b1 b2 g3 g4 g5 b6 g7:Bool)(KG:bG w 118 #[.agg (aS h)] (.bool g0))(t1:(!(h.prev==prev))=b1)(hb ht nb:Int)(eb:Hid (h.bits=hb))(et:Hid (h.time=ht))(KN:bG w 154 #[.agg (NN.aV p),.agg (NN.nB ⟨xh,xb,xt,xf,xr⟩),i_ ht] (i_ nb))(t2:(hb==nb)=b2)(KW:bG w 155 #[.agg (NN.aV p),.agg (aS h)] (.bool g3))(KL:bG w 156 #[i_ ht,.slice a n c] (.bool g4))(Vz:Int)(e3:Hid (p.Vz=Vz))(KE:bG w 157 #[i_ ht,i_ now,i_ Vz] (.bool g5))(t:Tl)(tt:Hid (p.tl=t.C))(hv v:Int)(ev:Hid (h.v=hv))(KV:bG w 158 #[i_ xh,.slice t.ga t.gn t.gc] (i_ v))(t6:decide (hv<v)=b6)(id:List UInt8)(KI:bG w 119 #[.agg (aS h)] (.agg (ae id)))(KT:bG w 159 #[i_ xh,.agg (ae id),.slice t.ca t.cn t.cc] (.bool g7)):ar 121 #[.agg (NN.aV p),.agg (cU ⟨⟨xh,xb,xt,xf,xr⟩,prev,a,n,c⟩),.agg (aS h),i_ now] w (i_ (Fj g0 b1 b2 g3 g4 g5 b6 g7)):=by
 have za:=jI ho;have so:(⟨⟨xh,xb,xt,xf,xr⟩,prev,a,n,c⟩:Sp).ok:=Wz;have qn:=my h.prev prev ho.1 Wz _ t1;obtain⟨ga,hga⟩:∃x,x=t.ga:=⟨_,rfl⟩;obtain⟨gn,hgn⟩:∃x,x=t.gn:=⟨_,rfl⟩;obtain⟨gc,hgc⟩:∃x,x=t.gc:=⟨_,rfl⟩;rw[<-hga,<-hgn,<-hgc]at KV;have P5:Hid (∀wx b,NN.aK wx b p->wx.cell? ⟨b,5,none⟩=some (.slice ga gn gc)):=h_ (fun wx b hh=>by rw[hga,hgn,hgc];exact r8 hh tt.out);clear hga hgn hgc;obtain⟨ca,YY⟩:∃x,x=t.ca:=⟨_,rfl⟩;obtain⟨cn,hcn⟩:∃x,x=t.cn:=⟨_,rfl⟩;obtain⟨cc,hcc⟩:∃x,x=t.cc:=⟨_,rfl⟩;rw[<-YY,<-hcn,<-hcc]at KT;have P6:Hid (∀wx b,NN.aK wx b p->wx.cell? ⟨b,6,none⟩=some (.slice ca cn cc)):=h_ (fun wx b hh=>by rw[YY,hcn,hcc];exact sc hh tt.out);clear YY hcn hcc;go_enter Tryz.func121,Tryz.ntmps121;go_upto_region 1 with fail
 generalize hw0:World.alloc _ _=v0
 have hs:QM w v0 w.heap.size (w.heap.size+1) (w.heap.size+1+1) p ⟨⟨xh,xb,xt,xf,xr⟩,prev,a,n,c⟩ h:=by
  rw[<-hw0];exact⟨(cu.alloc (by simp) _).alloc (by simp;omega) _,((NN.Has.new _ _).alloc _).alloc _,(Has.Vt _ _ _).alloc _,Has.VT _ _ _ _⟩
 clear hw0;obtain⟨bP,VF⟩:∃b,b=w.heap.size:=⟨_,rfl⟩;obtain⟨bA,YV⟩:∃b,b=w.heap.size+1:=⟨_,rfl⟩;obtain⟨bH,Vy⟩:∃b,b=w.heap.size+1+1:=⟨_,rfl⟩;rw[<-Vy,<-YV,<-VF]at hs|-;clear VF YV Vy;have hH:=hs.h;go_wp2_with (first|fail|(with_reducible refine dU rfl _ rfl bH rfl hH za ?_))
 refine az (KG.out _ hs.be) fun v1 hb1=>?_;replace hs:=hs.on hb1;clear hb1;cases g0
 case false=>
  go_wp2_with fail
  go_ret;exact⟨rfl,hs.be⟩
 clear hH;have r1:=A4 hs.h.range;rw[cy]at r1;have r5:=hs.a.prev;have s1:=lj ho.1;have s5:=lj Wz;cases b1
 case true=>
  go_wp2_with (with_reducible first|refine jL rfl _ rfl bH 1 rfl h.prev r1 s1 ?_|refine jL rfl _ rfl bA 5 rfl prev r5 s5 ?_|refine pY (by with_unfolding_all rfl) _ _ _ rfl _ _ _ rfl rfl qn ?_)
  go_ret;exact⟨rfl,hs.be⟩
 go_upto_region 5 with(with_reducible first|refine jL rfl _ rfl bH 1 rfl h.prev r1 s1 ?_|refine jL rfl _ rfl bA 5 rfl prev r5 s5 ?_|refine pY (by with_unfolding_all rfl) _ _ _ rfl _ _ _ rfl rfl qn ?_)
 clear r1 r5 s1 s5 qn;have qb:∀d os,(Sort.grow (redrawn v1 d) os).cell? ⟨bH,66,none⟩=some (i_ hb):=cell_regrown (by rw[<-eb.out];exact hs.h.bits ho);have qt:∀d os,(Sort.grow (redrawn v1 d) os).cell? ⟨bH,65,none⟩=some (i_ ht):=cell_regrown (by rw[<-et.out];exact hs.h.time ho);have qp:=hs.p.cls;have qx:=jW hs.a.pt (show 0<5 by decide);have hbr:∀d os,Bl w (Sort.grow (redrawn v1 d) os):=fun d os=>hs.be.trans ((below_regrown v1 d os).mono hs.be.size)
 refine wp_region_quiet_below (by kernel_rfl) (by kernel_rfl) ?_
 repeat(first
  | (go_big_quiet_want;(with_reducible first|refine NN.Ha _ rfl _ rfl hz qp ?_|refine Jw _ rfl bA rfl ⟨xh,xb,xt,xf,xr⟩ qx ?_);(simp only[Act.put,da,aZ,bg]);go_big_quiet_on)
  | go_big_quiet_step (first|(go_at_call 154;exact Calls.regrown_of (KN.out _ (hbr _ _)))))
 refine wpQuiet_nil ?_;intro v2 hw';obtain⟨rg,hw''⟩:=hw';have hb2:Bl v1 v2:=by rw[hw''];exact below_regrown v1 rg.d rg.os
 clear hw'' hbr;replace hs:=hs.on hb2;clear hb2;clear qb qt qp qx;cases b2
 case false=>
  go_wp2_with fail
  go_ret;exact⟨rfl,hs.be⟩
 have hH:=hs.h;have hP:=hs.p;go_wp2_with (with_reducible first|refine dU rfl _ rfl bH rfl hH za ?_|refine NN.fK rfl _ rfl _ rfl hP hz ?_)
 refine az (KW.out _ hs.be) fun v3 hb3=>?_;replace hs:=hs.on hb3;clear hb3;clear hH hP;cases g3
 case false=>
  go_wp2_with fail
  go_ret;exact⟨rfl,hs.be⟩
 have cT:v3.cell? ⟨bH,65,none⟩=some (i_ ht):=by rw[<-et.out];exact hs.h.time ho
 have cS:=hs.a.sl so;go_wp2_with (first|fail)
 refine az (KL.out _ hs.be) fun v4 hb4=>?_;replace hs:=hs.on hb4;clear hb4;clear cT cS;cases g4
 case false=>
  go_wp2_with fail
  go_ret;exact⟨rfl,hs.be⟩
 have cT:v4.cell? ⟨bH,65,none⟩=some (i_ ht):=by rw[<-et.out];exact hs.h.time ho
 have c3:=hs.p.c3 e3;go_wp2_with (first|fail)
 refine az (KE.out _ hs.be) fun v5 hb5=>?_;replace hs:=hs.on hb5;clear hb5;clear cT c3;cases g5
 case false=>
  go_wp2_with fail
  go_ret;exact⟨rfl,hs.be⟩
 go_upto_region 13 with fail
 have qv:∀d os,(Sort.grow (redrawn v5 d) os).cell? ⟨bH,0,none⟩=some (i_ hv):=cell_regrown (by rw[<-ev.out];exact hs.h.v);have qh:∀d os,(Sort.grow (redrawn v5 d) os).cell? ⟨bA,0,none⟩=some (i_ xh):=cell_regrown (hs.a.c0 (h_ rfl));have qg:∀d os,(Sort.grow (redrawn v5 d) os).cell? ⟨bP,5,none⟩=some (.slice ga gn gc):=cell_regrown (P5.out _ _ hs.p);have hbr:∀d os,Bl w (Sort.grow (redrawn v5 d) os):=fun d os=>hs.be.trans ((below_regrown v5 d os).mono hs.be.size)
 refine wp_region_quiet_below (by kernel_rfl) (by kernel_rfl) ?_
 repeat(first
  | go_big_quiet_step (first|(go_at_call 158;exact Calls.regrown_of (KV.out _ (hbr _ _)))))
 refine wpQuiet_nil ?_;intro v6 hw';obtain⟨rg,hw''⟩:=hw';have hb6:Bl v5 v6:=by rw[hw''];exact below_regrown v5 rg.d rg.os
 clear hw'' hbr;replace hs:=hs.on hb6;clear hb6;clear qv qh qg;cases b6
 case true=>
  go_wp2_with fail
  go_ret;exact⟨rfl,hs.be⟩
 go_upto_region 15 with fail
 have qh:∀d os,(Sort.grow (redrawn v6 d) os).cell? ⟨bA,0,none⟩=some (i_ xh):=cell_regrown (hs.a.c0 (h_ rfl));have qc:∀d os,(Sort.grow (redrawn v6 d) os).cell? ⟨bP,6,none⟩=some (.slice ca cn cc):=cell_regrown (P6.out _ _ hs.p);have qd:=jW hs.h.range (ou h);have sd:=gQ ho;have hbr:∀d os,Bl w (Sort.grow (redrawn v6 d) os):=fun d os=>hs.be.trans ((below_regrown v6 d os).mono hs.be.size)
 refine wp_region_quiet_below (by kernel_rfl) (by kernel_rfl) ?_
 repeat(first
  | (go_big_quiet_want;(with_reducible refine oS _ rfl bH 0 rfl h sd qd ?_);(simp only[Act.put,da,aZ,bg]);go_big_quiet_on)
  | go_big_quiet_step (first|(go_at_call 119;exact Calls.regrown_of (KI.out _ (hbr _ _)))|(go_at_call 159;exact Calls.regrown_of (KT.out _ (hbr _ _)))))
 refine wpQuiet_nil ?_;intro v7 hw';obtain⟨rg,hw''⟩:=hw';have Xl:Bl v6 v7:=by rw[hw''];exact below_regrown v6 rg.d rg.os
 clear hw'' hbr;replace hs:=hs.on Xl;clear Xl;clear qh qc qd sd;cases g7
 case false=>
  go_wp2_with fail
  go_ret;exact⟨rfl,hs.be⟩
 go_wp2_with fail
 go_ret;exact⟨rfl,hs.be⟩
def qO(t now Vz:Int):Bool:=decide (0<=Vz)&&decide (IntKind.i64.wrap (t-now)<=Vz)
def wi(p:NN.Pr)(gs:List Gt)(cs:List Ck)(q:Ps)(h:Hd)(now:Int):Int:=
 if¬h.P then 1 else if¬h.prev=q.prev then 2 else if¬h.bits=NN.nx p q.x h.time then 3 else if sr p.lim h=false then 4 else if MM.late h.time q.ts=false then 5 else if qO h.time now p.Vz=false then 6 else if h.v<mj q.x.h gs then 7 else if p_ q.x.h h.id cs=false then 8 else 0
theorem Im(p:NN.Pr)(hp:p.ok)(t:Tl)(tt:p.tl=t.C)(gs:List Gt)(cs:List Ck)(hgn:t.gn=gs.length)(hcn:t.cn=cs.length)(hgl:t.gn<=1000)(hcl:t.cn<=1000)(s:Sp)(q:Ps)(e1:s.x=q.x)(e2:s.prev=q.prev)(e3:q.ts.length=s.n)(e4:s.n<=s.c)(e5:q.prev.length=32)(e6:s.n<=1000)(h:Hd)(ho:h.ok)(now:Int)(w:World)(hT:gj w)(hL:MM.gX w 0 w.heap.size s.a q.ts)(hG:bc w t.ga gs)(hC:aI w t.ca cs):ar 121 #[.agg (NN.aV p),.agg (cU s),.agg (aS h),i_ now] w (i_ (wi p gs cs q h now)):=by
 obtain⟨x,prev,ts⟩:=q;obtain⟨x',X7,a,n,c⟩:=s;simp only at e1 e2 e3 e4 e5 e6 hL;subst e1 e2;obtain⟨xh,xb,xt,xf,xr⟩:=x';have hz:=NN.gT hp;have hTb:∀w',Bl w w'->gj w':=fun w' hb=>hT.below hb
 have KG:bG w 118 #[.agg (aS h)] (.bool (decide h.P)):=h_ fun w' _=>r7 h ho w'
 have KN:bG w 154 #[.agg (NN.aV p),.agg (NN.nB ⟨xh,xb,xt,xf,xr⟩),i_ h.time] (i_ (NN.nx p ⟨xh,xb,xt,xf,xr⟩ h.time)):=h_ fun w' _=>NN.zM p hp _ _ w'
 have KW:bG w 155 #[.agg (NN.aV p),.agg (aS h)] (.bool (sr p.lim h)):=h_ fun w' hb=>GW p h ho _ rfl w' (hTb w' hb)
 have KL:bG w 156 #[i_ h.time,.slice a n c] (.bool (MM.late h.time ts)):=h_ fun w' hb=>MM.BB h.time a n c 0 w.heap.size ts e3 e4 (by omega) w' (hL.below hb (au _))
 have KE:bG w 157 #[i_ h.time,i_ now,i_ p.Vz] (.bool (qO h.time now p.Vz)):=h_ fun w' _=>(MM.Fc h.time now p.Vz _ rfl w').mono (fun e w'' ⟨h1,h2⟩=>⟨by rw[h1];rfl,by rw[h2];exact cg⟩)
 have KV:bG w 158 #[i_ xh,.slice t.ga t.gn t.gc] (i_ (mj xh gs)):=h_ fun w' hb=>RB xh t.ga gs t.gn t.gc hgn (by omega) w' (hG.below hb) _ rfl
 have KI:bG w 119 #[.agg (aS h)] (.agg (ae h.id)):=h_ fun w' hb=>qL h ho w' (hTb w' hb)
 have KT:bG w 159 #[i_ xh,.agg (ae h.id),.slice t.ca t.cn t.cc] (.bool (p_ xh h.id cs)):=h_ fun w' hb=>Rj xh h.id (lJ h) t.ca cs t.cn t.cc hcn (by omega) w' (hC.below hb) _ rfl
 have e:wi p gs cs ⟨⟨xh,xb,xt,xf,xr⟩,X7,ts⟩ h now=Fj (decide h.P) (!(h.prev==X7)) (h.bits==NN.nx p ⟨xh,xb,xt,xf,xr⟩ h.time) (sr p.lim h) (MM.late h.time ts) (qO h.time now p.Vz) (decide (h.v<mj xh gs)) (p_ xh h.id cs):=by
  unfold wi Fj;simp only[lk,me,ld,ne_eq,fp]
 rw[e];exact Aq p hz xh xb xt xf xr X7 e5 a n c h ho now w _ _ _ _ _ _ _ _ KG rfl h.bits h.time _ (h_ rfl) (h_ rfl) KN rfl KW KL p.Vz (h_ rfl) KE t (h_ tt) h.v _ (h_ rfl) KV rfl h.id KI KT
section
variable{w:World}{ops:Array Oper}{rest:List Oper}{o o2 o3:Oper}{a:Act}{Q:Exit->Act->World->Prop}
theorem MZ(hw:Region.wanted o (yielded ops a.tmps)=true)(x:Operand)(ho:o.op=.load 30 x)(g off:Nat)(hx:a.eval x=.pointer (some ⟨g,off,none⟩))(h:Hd)(hg:w.rangeAt g off (cP h))(hs:(cP h).length=68)(hk:wpList Tryz.prog ops Q rest (a.put o.dst (.agg (aS h))) w):wpList Tryz.prog ops Q (o::rest) a w:=
 mf hw fun _ hK=>by
  unfold Oper.wp execOp;simp only[ho,hx,aB,run_loadAt_mid w g off 30 (cP h) _ hg Tryz.underlying30 rfl (kf.trans (by rw[hs])),aM];exact hK _ _ hk
end
def Po:Tl:=⟨none,0,0,none,0,0,List.replicate 8 (aH 0),fi⟩
theorem Ea:NN.Bq.tl=Po.C:=rfl
theorem GF:Po.ok:=⟨rfl,iC⟩
structure QQ (w wr:World) (bP bH:Nat) (p:NN.Pr) (h:Hd):Prop where
 be:Bl w wr
 p:NN.aK wr bP p
 h:aX wr bH h
variable{w:World}{bH:Nat}
theorem QQ.on{wr w':World}{bP:Nat}{p:NN.Pr}{h:Hd}(hs:QQ w wr bP bH p h)(hb:Bl wr w'):QQ w w' bP bH p h:=⟨ai hs.be hb,hs.p.on hb,hs.h.on hb⟩
def kv(x v:Int)(gs:List Gt):Bool:=gs.any fun g=>decide (g.h<=x)&&decide (v<g.v)
theorem If(x v:Int)(gs:List Gt)(k:Nat)(hk:k<gs.length):kv x v (gs.take (k+1))=(kv x v (gs.take k)||(decide ((gs.getD k oZ).h<=x)&&decide (v<(gs.getD k oZ).v))):=by
 have e:gs.take (k+1)=gs.take k++[gs.getD k oZ]:=by
  rw[iJ,aQ hk,dC,aQ hk];rfl
 rw[e];unfold kv;rw[List.any_append];simp
theorem GV(x v:Int)(gs:List Gt)(k:Nat)(h:kv x v (gs.take k)=true):kv x v gs=true:=by have e:gs=gs.take k++gs.drop k:=(iN k gs).symm;rw[e];unfold kv at*;rw[List.any_append,h];rfl
def FN(g0 b1 b2 g3 b4 b5 b6 g7:Bool):Int:=
 if g0=false then 1 else if b1=true then 2 else if b2=true then 3 else if g3=false then 4 else if b4=true then 5 else if b5=true then 6 else if b6=true then 7 else if g7=false then 8 else 0
def sy(t now Vz:Int):Bool:=decide (Vz<0)||(decide (now<t)&&decide (Vz<IntKind.i64.wrap (t-now)))
variable{P:Program}{ops:Array Oper}{o:Oper}{a:Act}{Q:Exit->Act->World->Prop}{C:World->Prop}{S:World->World->Prop}{f:FuncId}{args:Array Value}
theorem DC{R:Value->World->Prop}{J:Act->World->Prop}{V:Value->World->Prop}(hn:Region.wanted o (yielded ops a.tmps)=true)(h:(execOp a.eval o).run P w=.ok (.enter f args) w)(hcall:Calls P f args w fun e w'=>∃v,e=.returned v/\V v w'/\Bl w w')(hr:∀v w',V v w'->Bl w w'->C w'/\S w w'/\R v w'/\J (a.put o.dst v) w'):if Region.wanted o (yielded ops a.tmps)=true then o.wp P a w (fun a' w'=>C w'/\S w w'/\∃v,a'=a.put o.dst v/\R v w'/\J a' w') Q else R undef w/\J (a.put o.dst undef) w:=by
 rw[aj hn];unfold Oper.wp;rw[h];refine Calls.mono hcall fun e w' he=>?_
 obtain⟨v,rfl,hv,hb⟩:=he;obtain⟨h1,h2,h3,h4⟩:=hr v w' hv hb;exact⟨h1,h2,v,rfl,h3,h4⟩
theorem U0{a0:Act}{R:Nat->Value->World->Prop}{I:Array Bool->Act->World->Prop}{lz:Array Bool}{W:Value->World->Prop}(i:Nat)(_hinv:eE .any ops a0 C R I lz a w)(hn:Region.wanted o (yielded ops a.tmps)=true)(h:(execOp a.eval o).run P w=.ok (.enter f args) w)(hcall:Calls P f args w fun e w'=>∃v,e=.returned v/\W v w'/\Bl w w')(hr:∀v w',W v w'->Bl w w'->C w'/\S w w'/\R i v w'/\I (lz.setIfInBounds i true) (a.put o.dst v) w'):if Region.wanted o (yielded ops a.tmps)=true then o.wp P a w (fun a' w'=>C w'/\S w w'/\∃v,a'=a.put o.dst v/\R i v w'/\I (lz.setIfInBounds i true) a' w') Q else R i undef w/\I (lz.setIfInBounds i true) (a.put o.dst undef) w:=
 DC (S:=S) (C:=C) (R:=R i) (J:=fun a' w'=>I (lz.setIfInBounds i true) a' w') (V:=W) hn h hcall hr
def RH(bH:Nat)(ht m:Int)(ts:List Int)(po:Option Addr)(n co:Nat)(b4:Bool):Nat->Value->World->Prop
 | 0,v,_=>v=i_ n
 | 1,v,_=>v=.bool true
 | 2,v,_=>v=.bool true
 | 3,v,_=>v=.pointer (some ⟨bH,65,none⟩)
 | 4,v,_=>v=i_ ht
 | 5,v,_=>v=.slice po n co
 | 6,v,w=>∃p' c',v=.slice p' (min n 11) c'/\min n 11<=c'/\MM.gX w 0 w.heap.size p' (Md.last ts)
 | 7,v,_=>v=i_ m
 | 8,v,_=>v=.bool b4
 | 9,v,_=>v=.bool b4
 | _,_,_=>True
theorem Nl{ht m:Int}{ts:List Int}{po:Option Addr}{n co:Nat}{b4:Bool}(i:Nat)(v:Value)(w w':World)(hs:Bl w w')(hr:RH bH ht m ts po n co b4 i v w):RH bH ht m ts po n co b4 i v w':=by
 match i,hr with
 | 0,hr=>exact hr
 | 1,hr=>exact hr
 | 2,hr=>exact hr
 | 3,hr=>exact hr
 | 4,hr=>exact hr
 | 5,hr=>exact hr
 | 6,⟨p',c',h1,h2,h3⟩=>exact⟨p',c',h1,h2,(h3.below hs (au _)).wide (au _) hs.size⟩
 | 7,hr=>exact hr
 | 8,hr=>exact hr
 | 9,hr=>exact hr
 | _+10,_=>trivial
variable{ρ:Operand->Value}{x y:Operand}{b:Int}
theorem FU{a:Int}(ho:o.op=.binOp .gtr 3 x y 3)(hx:ρ x=i_ a)(hy:ρ y=i_ b):(execOp ρ o).run Tryz.prog w=.ok (.value (.bool (decide (b<a)))) w:=by unfold execOp;simp only[ho,hx,hy];kernel_rfl
theorem D6{a:Int}(ho:o.op=.binOp .leq 3 x y 3)(hx:ρ x=i_ a)(hy:ρ y=i_ b):(execOp ρ o).run Tryz.prog w=.ok (.value (.bool (decide (a<=b)))) w:=by unfold execOp;simp only[ho,hx,hy];kernel_rfl
theorem R3{p:Addr}{z:Int}(ho:o.op=.load 3 x)(hx:ρ x=.pointer (some p))(hc:w.cell? p=some (i_ z)):(execOp ρ o).run Tryz.prog w=.ok (.value (i_ z)) w:=by
 have hl:(loadVar 3 p).run Tryz.prog w=.ok (i_ z) w:=by go_simp
 unfold execOp;simp only[ho,hx,Instr.loadAt,Instr.sureAddr,aB,cr,aM,hl]
theorem DS(p:NN.Pr)(hz:(NN.aV p).size=83)(a:Option Addr)(ch:List Hd)(n c:Nat)(hn:n=ch.length)(h0:0<n)(hl:n<=1000)(h:Hd)(ho:h.ok)(now:Int)(w:World)(hA:bo w a ch)(tl:Tl)(tt:p.tl=tl.C)(gs:List Gt)(cs:List Ck)(hgn:tl.gn=gs.length)(hcn:tl.cn=cs.length)(hgl:tl.gn<=1000)(hcl:tl.cn<=1000)(hG:bc w tl.ga gs)(hC:aI w tl.ca cs)(g0 b1 b2 g3 b4 b5 b6 g7:Bool)(KG:Hid (dx 73 #[.agg (aS h)] (.bool g0)))(pid id:List UInt8)(Wz:pid.length=32)(ac4:id.length=32)(KP:Hid (dx 75 #[.agg (aS (ch.getD (n-1) fi))] (.agg (ae pid))))(KI:Hid (dx 75 #[.agg (aS h)] (.agg (ae id))))(t1:(!(h.prev==pid))=b1)(hv hb ht nb Vz:Int)(ev:Hid (h.v=hv))(eb:Hid (h.bits=hb))(et:Hid (h.time=ht))(e3:Hid (p.Vz=Vz))(KB:Hid (∀w,bo w a ch->ar 111 #[.agg (NN.aV p),.slice a n c,i_ ht] w (i_ nb)))(t2:(hb != nb)=b2)(KW:Hid (dx 112 #[.agg (NN.aV p),.agg (aS h)] (.bool g3)))(m:Int)(hm:m=Md.oK (Md.last (ch.map Hd.time)))(t4:decide (ht<=m)=b4)(t5:sy ht now Vz=b5)(t6:kv (n:Int) hv gs=b6)(t7:p_ (n:Int) id cs=g7):ar 78 #[.agg (NN.aV p),.slice a n c,.agg (aS h),i_ now] w (i_ (FN g0 b1 b2 g3 b4 b5 b6 g7)):=by
 have za:=jI ho;have HN:=h_ hn;have HA:=h_ hA;have Zl:=h_ hgn;have Zm:=h_ hcn;have HG:=h_ hG;have HC:=h_ hC;have HM:=h_ hm;have T5:=h_ t5;have T6:=h_ t6;have T7:=h_ t7;have P5:Hid (∀wx b,NN.aK wx b p->wx.cell? ⟨b,5,none⟩=some (.slice tl.ga tl.gn tl.gc)):=h_ (fun wx b hh=>r8 hh tt);have P6:Hid (∀wx b,NN.aK wx b p->wx.cell? ⟨b,6,none⟩=some (.slice tl.ca tl.cn tl.cc)):=h_ (fun wx b hh=>sc hh tt);obtain⟨y,hy⟩:∃y,y=n-1:=⟨_,rfl⟩;have wm:IntKind.i64.wrap ((n:Int)-1)=(y:Int):=by rw[IntKind.wrap_i64];omega
 have hyn:y<n:=by omega
 have d0:decide (0<(n:Int))=true:=aG (by omega);obtain⟨WO,WQ,ea,ac3,hc0⟩:=hA (by rw[<-hn];omega)
 have hq:(ch.getD y fi).ok/\w.rangeAt WO (WQ+y*68) (cP (ch.getD y fi)):=by
  rw[vJ (show y<ch.length by rw[<-hn];omega)];exact hc0 y _
 rw[<-hy]at KP;obtain⟨l,hlast⟩:∃l,l=ch.getD y fi:=⟨_,rfl⟩;rw[<-hlast]at KP hq;subst ea;have q1:=gQ hq.1;have HR:=h_ hq.2;have qn:=my h.prev pid ho.1 Wz _ t1;have hyi:(y:Int)<(n:Int):=by omega
 obtain⟨ga,hga⟩:∃x,x=tl.ga:=⟨_,rfl⟩;obtain⟨gn,hgn2⟩:∃x,x=tl.gn:=⟨_,rfl⟩;obtain⟨gc,hgc⟩:∃x,x=tl.gc:=⟨_,rfl⟩;obtain⟨ca,YY⟩:∃x,x=tl.ca:=⟨_,rfl⟩;obtain⟨cn,Zn⟩:∃x,x=tl.cn:=⟨_,rfl⟩;obtain⟨cc,hcc⟩:∃x,x=tl.cc:=⟨_,rfl⟩;rw[<-hga,<-hgn2,<-hgc]at P5;rw[<-YY,<-Zn,<-hcc]at P6;rw[<-hgn2]at Zl hgl;rw[<-Zn]at Zm hcl;rw[<-hga]at HG;rw[<-YY]at HC;clear hn hA hgn hcn hG hC hm t5 t6 t7 tt hy hlast hc0 hq hga hgn2 hgc YY Zn hcc;go_enter Tryz.func78,Tryz.ntmps78;go_upto_region 1 with fail
 generalize hw0:World.alloc _ _=v0
 have hs:QQ w v0 w.heap.size (w.heap.size+1) p h:=by
  rw[<-hw0];exact⟨cu.alloc (by simp) _,(NN.Has.new _ _).alloc _,uF w _ h⟩
 clear hw0;obtain⟨bP,VF⟩:∃b,b=w.heap.size:=⟨_,rfl⟩;obtain⟨bH,Vy⟩:∃b,b=w.heap.size+1:=⟨_,rfl⟩;rw[<-Vy,<-VF]at hs|-;clear VF Vy;have hH:=hs.h;go_wp2_with (first|fail|(with_reducible refine dU rfl _ rfl bH rfl hH za ?_))
 refine az (KG.out _) fun v1 hb1=>?_;replace hs:=hs.on hb1;clear hb1 hH;cases g0
 ·go_wp2_with fail
  go_ret;exact⟨rfl,hs.be⟩
 go_upto_region 4 with fail
 have qc:=jW (A4 hs.h.range) (by rw[Lib.byteCells_length,ho.1];omega);rw[cy]at qc;have qd:=jW (lL HR.out hs.be (ou l)) (ou l);have s1:=lj ho.1;refine wp_region_quiet_below (by kernel_rfl) (by kernel_rfl) ?_
 repeat(first
  | (go_big_quiet_want;(with_reducible first|refine su _ rfl bH 1 rfl h.prev s1 qc ?_|refine oS _ rfl WO (WQ+y*68) rfl l q1 qd ?_|refine DV _ _ _ rfl _ _ _ rfl rfl qn ?_);(simp only[Act.put,da,aZ,bg]);go_big_quiet_on)
  | go_big_quiet_step ((go_at_call 75;exact Calls.regrown_of (KP.out _))))
 refine wpQuiet_nil ?_;intro v2 hw';obtain⟨rg,hw''⟩:=hw';have hb2:Below v1.heap.size v1 v2:=by rw[hw''];exact below_regrown v1 rg.d rg.os
 clear hw'';replace hs:=hs.on hb2;clear hb2 qc qd s1 qn;cases b1
 case true=>
  go_wp2_with fail
  go_ret;exact⟨rfl,hs.be⟩
 go_upto_region 6 with fail
 have hbr:∀d os,Below w.heap.size w (Sort.grow (redrawn v2 d) os):=fun d os=>hs.be.trans ((below_regrown v2 d os).mono hs.be.size)
 have qb:∀d os,(Sort.grow (redrawn v2 d) os).cell? ⟨bH,66,none⟩=some (i_ hb):=cell_regrown (by rw[<-eb.out];exact hs.h.bits ho);have qt:∀d os,(Sort.grow (redrawn v2 d) os).cell? ⟨bH,65,none⟩=some (i_ ht):=cell_regrown (by rw[<-et.out];exact hs.h.time ho);have qp:=hs.p.cls;refine wp_region_quiet_below (by kernel_rfl) (by kernel_rfl) ?_
 repeat(first
  | (go_big_quiet_want;(with_reducible refine NN.Ha _ rfl _ rfl hz qp ?_);(simp only[Act.put,da,aZ,bg]);go_big_quiet_on)
  | go_big_quiet_step ((go_at_call 111;exact Calls.regrown_of (KB.out _ (HA.out.below (hbr _ _))))))
 refine wpQuiet_nil ?_;intro v3 hw';obtain⟨rg,hw''⟩:=hw';have hb3:Below v2.heap.size v2 v3:=by rw[hw''];exact below_regrown v2 rg.d rg.os
 clear hw'' hbr;replace hs:=hs.on hb3;clear hb3 qb qt qp;cases b2
 case true=>
  go_wp2_with fail
  go_ret;exact⟨rfl,hs.be⟩
 have hH:=hs.h;have hP:=hs.p;go_wp2_with (with_reducible first|refine dU rfl _ rfl bH rfl hH za ?_|refine NN.fK rfl _ rfl _ rfl hP hz ?_)
 refine az (KW.out _) fun v4 hb4=>?_;replace hs:=hs.on hb4;clear hb4 hH hP;cases g3
 ·go_wp2_with fail
  go_ret;exact⟨rfl,hs.be⟩
 go_wp2_with fail
 go_loopw [10,49] (fun o i wr=>∃k:Nat,k<=n/\i=i_ k/\wr.ownsRow v4.heap.size 3 1 o k (((ch.take k).map Hd.time).map (Value.int .i64))/\Below v4.heap.size v4 wr) (fun _ i _=>n-(intOf i).toNat)
 case atStart=>exact⟨0,by omega,rfl,lf _ _ _ _,cg⟩
 case round=>
  obtain⟨k,hk,rfl,hown,hB⟩:=hrel;obtain⟨po,co,hu⟩:=Fi hown;subst hu;by_cases hlt:k<n
  ·obtain⟨ab,ao,ea,VR,hc⟩:=(HA.out.below (hs.on hB).be) (by rw[<-HN.out];omega);cases ea
   have q:(ch.getD k fi).ok/\wr.rangeAt WO (WQ+k*68) (cP (ch.getD k fi)):=by
    rw[vJ (show k<ch.length by rw[<-HN.out];omega)];exact hc k _
   have HT:Hid ((ch.take (k+1)).map Hd.time=(ch.take k).map Hd.time++[(ch.getD k fi).time]):=h_ (by
    have hk2:k<ch.length:=(by rw[<-HN.out];exact hlt);rw[iJ,aQ hk2,dC,aQ hk2,ic];rfl)
   generalize ch.getD k fi=z at*;obtain⟨YX,rz⟩:=q;have z1:=gQ YX;have z2:=jI YX;have qz:=jI iC;have hnew:=FD wr;have hZ:aX ((wr.alloc (.cells Tryz.zeroCells30 30)).setRow wr.heap.size (aS z)) wr.heap.size z:=Has.row hnew _;have hb1:Below wr.heap.size wr ((wr.alloc (.cells Tryz.zeroCells30 30)).setRow wr.heap.size (aS z)):=below_setRow cu (au _) _;obtain⟨tz,htz⟩:∃tz,tz=z.time:=⟨_,rfl⟩;have ct:=hZ.time YX;rw[<-htz]at ct HT;clear hc htz hZ
   go_upto_region 14 with(first
    | (with_reducible refine mL rfl _ rfl WO (WQ+k*68) rfl z rz z1 ?_)
    | (with_reducible refine np rfl _ _ rfl _ _ z rfl rfl rfl z2 hnew qz ?_))
   generalize hgv:World.setRow _ _ _=v6 at*;clear hgv rz hnew;have hB6:=ai hB hb1;have hown6:=MM.PY hown hb1 (au _);have ac5:=hown6.alloc (.cells #[i_ tz] 3);have hgb:=h_ (fun k=>(hown6.lt k));have hc7:(v6.alloc (.cells #[i_ tz] 3)).cell? ⟨v6.heap.size,0,none⟩=some (i_ tz):=(Has.new (w:=v6) #[i_ tz] 3).cell 0;have hbs:v4.heap.size<=(v6.alloc (.cells #[i_ tz] 3)).heap.size:=by rw[eZ];have:=hB6.size;omega
   have hB7:=h_ (hB6.alloc hB6.size (.cells #[i_ tz] 3));have Zo:k<=1000:=by omega
   clear hb1 hown hown6 hB hB6;go_wp2_with ((with_reducible refine MM.OU rfl (.tmp 53) (.tmp 56) rfl v4.heap.size (.slice po k co) k ((ch.take k).map Hd.time) rfl ac5 v6.heap.size tz rfl hc7 Zo hbs ?_);intro v' w2 hown2 hg2)
   go_roundw
   case rel=>exact⟨k+1,by omega,by go_num,by rw[HT.out];exact hown2,hB7.out.grown hg2 hbs (fun k hk=>(hgb.out k hk).1)⟩
   case measure=>simp[intOf];omega
  ·obtain rfl:k=n:=by omega
   rw[gB (by rw[<-HN.out];exact au _)]at hown;obtain⟨p5,c5,e5,hcap,hlen,hL⟩:=MM.GN hown;cases e5;replace hs:=hs.on hB;clear hB hown;have hcT:wr.cell? ⟨bH,65,none⟩=some (i_ ht):=by rw[<-et.out];exact hs.h.time ho
   have hbl:bH<wr.heap.size:=hs.h.lt;have hL0:=hL.wide (bB _) (au _);generalize ch.map Hd.time=ts at*;have KL:Hid (∀wx,Below wr.heap.size wr wx->aU 114 #[.slice po k co] wx fun r w'=>∃v,r=.returned v/\(∃p' c',v=.slice p' (min k 11) c'/\min k 11<=c'/\MM.gX w' 0 w'.heap.size p' (Md.last ts))/\Below wx.heap.size wx w'):=h_ fun wx hb=>(MM.J4 po k co ts hlen (by omega) wx (hL0.below hb (au _)) hb.size).mono (fun e w' ⟨p',c',h1,h2,h3,h4⟩=>⟨_,h1,⟨p',c',rfl,h2,h3.wide (bB _) (au _)⟩,h4⟩)
   have KO:Hid (∀(p':Option Addr)(c':Nat)(wx:World),min k 11<=c'->MM.gX wx 0 wx.heap.size p' (Md.last ts)->ar 113 #[.slice p' (min k 11) c'] wx (i_ m)):=h_ fun p' c' wx h1 h2=>by rw[HM.out];exact MM.pN p' (min k 11) c' (Md.last ts) (by rw[Md.Ju,hlen]) h1 (by omega) wx h2 (au _)
   clear hL hL0 hcap hlen HM;go_upto_region 16 with fail
   refine lG (by kernel_rfl) (fun w'=>Below wr.heap.size wr w') (fun i v' w'=>RH bH ht m ts po k co b4 i v' w') (fun _ _ _=>True) (fun w1 w2=>Below w1.heap.size w1 w2) (fun _ _=>aA _ _) (fun i v w w' _ hs h=>Nl i v w w' hs h) (by kernel_rfl) cg.drew (fun _ _=>trivial) ?_ ?_
   ·intro i o lz a wx ho' hn' dq Z;have hC':=Z.c;have hi:i<10:=(dA.1 ho').1;obtain rfl|rfl|rfl|rfl|rfl|rfl|rfl|rfl|rfl|rfl:i=0\/i=1\/i=2\/i=3\/i=4\/i=5\/i=6\/i=7\/i=8\/i=9:=(by omega);all_goals obtain rfl:=Option.some.inj ho'
    exact fw (S:=fun w1 w2=>Below w1.heap.size w1 w2) (fun _ _=>aA _ _) 0 Z (aq rfl) (NN.fs rfl) ((Z.old' 9)) trivial;have e59:a.eval (.tmp 59)=i_ k:=(aw Z dq 0 59);exact fw (S:=fun w1 w2=>Below w1.heap.size w1 w2) (fun _ _=>aA _ _) 1 Z (aq rfl) (FU rfl e59 rfl) (aJ Value.bool d0) trivial;exact fw (S:=fun w1 w2=>Below w1.heap.size w1 w2) (fun _ _=>aA _ _) 2 Z (aq rfl) (NN.fs rfl) ((aw Z dq 1 60)) trivial;exact fw (S:=fun w1 w2=>Below w1.heap.size w1 w2) (fun _ _=>aA _ _) 3 Z (GQ Z dq 2 61 rfl) (O7 rfl (Z.old' 6)) (rfl) trivial;exact fw (S:=fun w1 w2=>Below w1.heap.size w1 w2) (fun _ _=>aA _ _) 4 Z (GQ Z dq 2 61 rfl) (R3 rfl (aw Z dq 3 62) (by rw[hC'.cell (p:=⟨bH,65,none⟩) hbl];exact hcT)) (rfl) trivial;exact fw (S:=fun w1 w2=>Below w1.heap.size w1 w2) (fun _ _=>aA _ _) 5 Z (GQ Z dq 2 61 rfl) (NN.fs rfl) ((Z.old' 10)) trivial
    ·have e64:a.eval (.tmp 64)=.slice po k co:=(aw Z dq 5 64);exact U0 (S:=fun w1 w2=>Below w1.heap.size w1 w2) 6 Z (W:=fun v w'=>∃p' c',v=.slice p' (min k 11) c'/\min k 11<=c'/\MM.gX w' 0 w'.heap.size p' (Md.last ts)) (GQ Z dq 2 61 rfl) (f:=114) (args:=#[a.eval (.tmp 64)]) (by kernel_rfl) (by rw[e64];exact KL.out wx hC') (fun v w' hv hb=>⟨ai hC' hb,hb,hv,trivial⟩)
    ·obtain⟨p',c',e65,h1,h2⟩:∃p' c',a.eval (.tmp 65)=.slice p' (min k 11) c'/\min k 11<=c'/\MM.gX wx 0 wx.heap.size p' (Md.last ts):=(aw Z dq 6 65);exact qF (S:=fun w1 w2=>Below w1.heap.size w1 w2) 7 Z (GQ Z dq 2 61 rfl) (f:=113) (args:=#[a.eval (.tmp 65)]) (by kernel_rfl) (by rw[e65];exact KO.out p' c' wx h1 h2) (fun w' hb=>⟨ai hC' hb,hb,rfl,trivial⟩)
    have e63:a.eval (.tmp 63)=i_ ht:=(aw Z dq 4 63);have e66:a.eval (.tmp 66)=i_ m:=(aw Z dq 7 66);exact fw (S:=fun w1 w2=>Below w1.heap.size w1 w2) (fun _ _=>aA _ _) 8 Z (GQ Z dq 2 61 rfl) (D6 rfl e63 e66) (aJ Value.bool t4) trivial;have e61:a.eval (.tmp 61)=.bool true:=(aw Z dq 2 61);have e67:a.eval (.tmp 67)=.bool b4:=(aw Z dq 8 67);exact fw (S:=fun w1 w2=>Below w1.heap.size w1 w2) (fun _ _=>aA _ _) 9 Z (aq rfl) (BT rfl e61) (by rw[aj rfl];exact e67) trivial
   intro lz a v7 hall Z;have hC':=Z.c;have Zp:a.eval (.tmp 68)=.bool b4:=Z.got 9 _ 68 rfl (hall 9 (by decide)) rfl;have e3':a.eval (.tmp 3)=i_ now:=Z.old' 3;have e4':a.eval (.tmp 4)=af bP:=Z.old' 4;have e6':a.eval (.tmp 6)=af bH:=Z.old' 6;have e9':a.eval (.tmp 9)=i_ k:=Z.old' 9;replace hs:=hs.on hC';obtain⟨u,hu⟩:∃u:Nat->Value,∀t,u t=a.eval (.tmp t):=⟨_,fun _=>rfl⟩;rw[iz a 125 u Z.Vr Z.defers hu];rw[<-hu]at Zp e3' e4' e6' e9';clear hu Z hall hC' KL KO hcT hbl;simp only[List.range,List.range.loop,bZ,cx];rw[Zp,e3',e4',e6',e9'];clear Zp e3' e4' e6' e9';cases b4
   case true=>
    (go_wp2_with fail);go_ret;exact⟨rfl,hs.be⟩
   have ct:=hs.h.time ho;rw[et.out]at ct;have c3:=hs.p.c3 e3;have h5:=T5.out;unfold sy at h5;cases f1:decide (Vz<0)
   case true=>
    obtain rfl:true=b5:=(by rw[<-h5,f1];rfl);clear h5;(go_wp2_with fail);go_ret;exact⟨rfl,hs.be⟩
   cases f2:decide (now<ht)
   case' false=>
    obtain rfl:false=b5:=(by rw[<-h5,f1,f2];rfl);clear h5 T5;(go_upto_region 20 with fail);clear ct c3 f1 f2
   case' true=>
    obtain⟨dt,hdt⟩:∃dt,IntKind.i64.wrap (ht-now)=dt:=⟨_,rfl⟩;cases f3:decide (Vz<dt)
    case true=>
     obtain rfl:true=b5:=(by rw[<-h5,f1,f2,hdt,f3];rfl);clear h5;(go_wp2_with fail);go_ret;exact⟨rfl,hs.be⟩
    obtain rfl:false=b5:=(by rw[<-h5,f1,f2,hdt,f3];rfl);clear h5 T5;(go_upto_region 20 with fail);clear ct c3 f1 f2 f3 hdt
   all_goals
    have c5:=P5.out _ _ hs.p;(go_wp2_with fail);clear c5;go_loopw [90] (fun i wr=>∃j:Nat,j<=gn/\i=i_ j/\Hid (kv (k:Int) hv (gs.take j)=false)/\Below v7.heap.size v7 wr) (fun i _=>gn-(intOf i).toNat)
    case atStart=>exact⟨0,by omega,rfl,h_ rfl,cg⟩
    case round=>
     obtain⟨j,hj,rfl,HZ,hB⟩:=hrel;by_cases hlt:j<gn
     ·obtain⟨ab,ao,rfl,VR,hc⟩:=(HG.out.below (hs.on hB).be) (by rw[<-Zl.out];omega)
      have q:wr.rangeAt ab (ao+j*2) (oB (gs.getD j oZ)):=by
       have:=hc j (by rw[<-Zl.out];omega);rwa[show gs.getD j oZ=gs[j]'(by rw[<-Zl.out];omega) by rw[dC,aQ (by rw[<-Zl.out];omega)];rfl]
      have hnx:=If (k:Int) hv gs j (by rw[<-Zl.out];omega);rw[HZ.out,j6]at hnx;generalize gs.getD j oZ=y2 at*;have HX:=h_ hnx;have hnew:=yz wr;have hY:oV ((wr.alloc (.cells #[i_ 0,i_ 0] 108)).setRow wr.heap.size (qQ y2)) wr.heap.size y2:=Has.row hnew _;have hB2:Below v7.heap.size v7 ((wr.alloc (.cells #[i_ 0,i_ 0] 108)).setRow wr.heap.size (qQ y2)):=below_setRow (hB.alloc hB.size _) hB.size _;have hs2:=hs.on hB2;have c0:=hY.c0;have c1:=hY.c1;have cv:World.cell? ((wr.alloc (.cells #[i_ 0,i_ 0] 108)).setRow wr.heap.size (qQ y2)) ⟨bH,0,none⟩=some (i_ hv):=(by rw[<-ev.out];exact hs2.h.v);clear hnx hc hY hB;cases f1:decide (y2.h<=(k:Int))
      ·have HZ2:Hid (kv (k:Int) hv (gs.take (j+1))=false):=h_ (by rw[HX.out,f1];rfl);clear HX HZ hs2;(go_wp2_with (with_reducible first|refine qa rfl _ rfl ab (ao+j*2) rfl y2 q ?_|refine pA rfl _ _ rfl _ y2 rfl rfl hnew ?_));go_roundw
       case rel=>exact⟨j+1,by omega,by go_num,HZ2,hB2⟩
       case measure=>simp[intOf];omega
      ·cases f2:decide (hv<y2.v)
       ·have HZ2:Hid (kv (k:Int) hv (gs.take (j+1))=false):=h_ (by rw[HX.out,f1,f2];rfl);clear HX HZ hs2;(go_wp2_with (with_reducible first|refine qa rfl _ rfl ab (ao+j*2) rfl y2 q ?_|refine pA rfl _ _ rfl _ y2 rfl rfl hnew ?_));go_roundw
        case rel=>exact⟨j+1,by omega,by go_num,HZ2,hB2⟩
        case measure=>simp[intOf];omega
       ·have hgf:b6=true:=by
         rw[<-T6.out];exact GV (k:Int) hv gs (j+1) (by rw[HX.out,f1,f2];rfl)
        subst hgf;(go_wp2_with (with_reducible first|refine qa rfl _ rfl ab (ao+j*2) rfl y2 q ?_|refine pA rfl _ _ rfl _ y2 rfl rfl hnew ?_));go_ret;exact⟨rfl,hs2.be⟩
     ·obtain rfl:j=gn:=by omega
      have hfin:b6=false:=by
       rw[<-T6.out];have:=HZ.out;rwa[Zl.out,iY]at this
      subst hfin;have c6:=P6.out _ _ (hs.on hB).p;replace hs:=hs.on hB;clear hB HG;obtain⟨v9,hv9⟩:∃v9,v9=wr:=⟨_,rfl⟩;rw[<-hv9]at c6 hs|-;clear hv9;(go_wp2_with fail);clear c6;go_loopw [109] (fun i wr=>∃j:Nat,j<=cn/\i=i_ j/\Hid (p_ (k:Int) id (cs.take j)=true)/\Below v9.heap.size v9 wr) (fun i _=>cn-(intOf i).toNat)
      case atStart=>exact⟨0,by omega,rfl,h_ rfl,cg⟩
      case round=>
       obtain⟨j,hj,rfl,HZ,hB⟩:=hrel;by_cases hlt:j<cn
       ·obtain⟨ab,ao,rfl,VR,hc⟩:=(HC.out.below (hs.on hB).be) (by rw[<-Zm.out];omega)
        have q0:(cs.getD j nD).id.length=32/\wr.rangeAt ab (ao+j*33) (mI (cs.getD j nD)):=by
         have:=hc j (by rw[<-Zm.out];omega);rwa[show cs.getD j nD=cs[j]'(by rw[<-Zm.out];omega) by rw[dC,aQ (by rw[<-Zm.out];omega)];rfl]
        have hnx:=Ll (k:Int) id cs j (by rw[<-Zm.out];omega);rw[HZ.out,dG]at hnx;generalize cs.getD j nD=y2 at*;obtain⟨y32,q⟩:=q0;have HX:=h_ hnx;have z1:=sF y32;have z2:=wD y32;have z3:(qM nD).size=33:=rfl;have hnew:=we wr;have hY:=xF wr y2;have hB2:=Bc hB y2;clear hnx hc hB;(go_upto_region 29 with(with_reducible first|refine rF rfl _ rfl ab (ao+j*33) rfl y2 q z1 ?_|refine qZ rfl _ _ rfl _ y2 rfl rfl z2 hnew z3 ?_));generalize hgv:World.setRow _ _ _=v8 at*;clear hgv q hnew;simp only[Act.put];generalize wr.heap.size=bC at*;have YO:=hs.on hB2;have q0:∀d os,(Sort.grow (redrawn v8 d) os).cell? ⟨bC,0,none⟩=some (i_ y2.h):=cell_regrown hY.c0;have qi:=jW hY.id (by rw[Lib.byteCells_length,y32];omega);have qd:=jW YO.h.range (ou h);have s1:=lj y32;have sd:=gQ ho;cases hh:(y2.h==(k:Int))
        ·have HZ2:Hid (p_ (k:Int) id (cs.take (j+1))=true):=h_ (by rw[HX.out,hh];rfl);refine wp_region_quiet_below (by kernel_rfl) (by kernel_rfl) ?_
         repeat(first
          | (go_big_quiet_want;(with_reducible first|refine su _ rfl bC 1 rfl y2.id s1 qi ?_|refine oS _ rfl bH 0 rfl h sd qd ?_);(simp only[Act.put,da,aZ,bg]);go_big_quiet_on)
          | go_big_quiet_step (fail))
         refine wpQuiet_nil ?_;intro v9q hw';obtain⟨rg,hw''⟩:=hw';have hbq:Below v8.heap.size v8 v9q:=(by rw[hw''];exact below_regrown v8 rg.d rg.os);clear hw'';have hB3:=ai hB2 hbq;clear HX HZ q0 qi qd s1 sd YO hB2 hbq hY;(go_wp2_with fail);go_roundw
         case rel=>exact⟨j+1,by omega,by go_num,HZ2,hB3⟩
         case measure=>simp[intOf];omega
        ·cases he:(y2.id==id)
         ·have qn:=my y2.id id y32 ac4 true (by rw[he];rfl)
          have hgf:g7=false:=by
           rw[<-T7.out];exact vo (k:Int) id cs (j+1) (by rw[HX.out,hh,he];rfl)
          subst hgf;refine wp_region_quiet_below (by kernel_rfl) (by kernel_rfl) ?_
          repeat(first
           | (go_big_quiet_want;(with_reducible first|refine su _ rfl bC 1 rfl y2.id s1 qi ?_|refine oS _ rfl bH 0 rfl h sd qd ?_|refine DV _ _ _ rfl _ _ _ rfl rfl qn ?_);(simp only[Act.put,da,aZ,bg]);go_big_quiet_on)
           | go_big_quiet_step ((go_at_call 75;exact Calls.regrown_of (KI.out _))))
          refine wpQuiet_nil ?_;intro v9q hw';obtain⟨rg,hw''⟩:=hw';have hbq:Below v8.heap.size v8 v9q:=(by rw[hw''];exact below_regrown v8 rg.d rg.os);clear hw'';replace YO:=YO.on hbq;(go_wp2_with fail);go_ret;exact⟨rfl,YO.be⟩
         ·have qn:=my y2.id id y32 ac4 false (by rw[he];rfl);have HZ2:Hid (p_ (k:Int) id (cs.take (j+1))=true):=h_ (by rw[HX.out,hh,he];rfl);refine wp_region_quiet_below (by kernel_rfl) (by kernel_rfl) ?_
          repeat(first
           | (go_big_quiet_want;(with_reducible first|refine su _ rfl bC 1 rfl y2.id s1 qi ?_|refine oS _ rfl bH 0 rfl h sd qd ?_|refine DV _ _ _ rfl _ _ _ rfl rfl qn ?_);(simp only[Act.put,da,aZ,bg]);go_big_quiet_on)
           | go_big_quiet_step ((go_at_call 75;exact Calls.regrown_of (KI.out _))))
          refine wpQuiet_nil ?_;intro v9q hw';obtain⟨rg,hw''⟩:=hw';have hbq:Below v8.heap.size v8 v9q:=(by rw[hw''];exact below_regrown v8 rg.d rg.os);clear hw'';have hB3:=ai hB2 hbq;clear HX HZ q0 qi qd s1 sd YO hB2 hbq hY qn;(go_wp2_with fail);go_roundw
          case rel=>exact⟨j+1,by omega,by go_num,HZ2,hB3⟩
          case measure=>simp[intOf];omega
       ·obtain rfl:j=cn:=by omega
        have hfin:g7=true:=by
         rw[<-T7.out];have:=HZ.out;rwa[Zm.out,iY]at this
        subst hfin;(go_wp2_with fail);go_ret;exact⟨rfl,(hs.on hB).be⟩
theorem Nn(p:NN.Pr)(g:Hd)(hs:List Hd):∀k,k<=hs.length->(kC p g hs k).ts=Md.last (((g::hs).take (k+1)).map Hd.time)
 | 0,_=>rfl
 | k+1,h=>by
  rw[uy p g hs k (by omega)];show(hs.getD k fi).time::(kC p g hs k).ts.take 10=_;rw[Nn p g hs k (by omega)];have hk:k<hs.length:=by omega
  rw[show(g::hs).take (k+1+1)=(g::hs).take (k+1)++[hs.getD k fi] by
   rw[iJ,List.getElem?_cons_succ,aQ hk,dC,aQ hk];rfl]
  unfold Md.last;rw[ic,List.reverse_append,List.take_take];rfl
theorem MV(x v:Int):∀(gs:List Gt)(m:Int),(v<gs.foldl (fun m g=>if g.h<=x then max m g.v else m) m)↔(v<m\/kv x v gs=true)
 | [],m=>by simp[kv]
 | g::gs,m=>by
  rw[jZ,MV x v gs];rw[show kv x v (g::gs)=((decide (g.h<=x)&&decide (v<g.v))||kv x v gs)from rfl];by_cases h:g.h<=x
  ·rw[aj h,aG h,dG,nL,fp];constructor
   ·rintro(h1|h1)
    ·by_cases h2:v<m;exact .inl h2;exact .inr (.inl (by omega))
    exact .inr (.inr h1)
   rintro(h1|h1|h1);exact .inl (by omega);exact .inl (by omega);exact .inr h1
  rw[ah h,aE h,j',j6]
def pq(p:NN.Pr)(gs:List Gt)(cs:List Ck)(q:Ps)(h:Hd)(now:Int):Int:=
 if¬h.P then 1 else if¬h.prev=q.prev then 2 else if¬h.bits=NN.tR p q.x h.time then 3 else if sr p.lim h=false then 4 else if MM.late h.time q.ts=false then 5 else if sy h.time now p.Vz=true then 6 else if h.v<mj q.x.h gs then 7 else if p_ q.x.h h.id cs=false then 8 else 0
theorem Pd(t now Vz:Int)(h0:0<=t)(h1:t<=4294967295)(h2:-9223372036854775808<=now)(h3:now<=9223372036854775807):sy t now Vz = !qO t now Vz:=by unfold sy qO;rw[IntKind.wrap_i64];by_cases hf:Vz<0;rw[aG hf,aE (show¬0<=Vz by omega)];rfl;rw[aE hf,aG (show 0<=Vz by omega),j6,dG];by_cases hn:now<t;rw[aG hn,dG];rw[gJ];simp;rw[aE hn,j',aG (by omega)];rfl
theorem Jg(p:NN.Pr)(gs:List Gt)(cs:List Ck)(q:Ps)(h:Hd)(now:Int)(h2:-9223372036854775808<=now)(h3:now<=9223372036854775807)(e:NN.tR p q.x h.time=NN.nx p q.x h.time):pq p gs cs q h now=wi p gs cs q h now:=by unfold pq wi;rw[e];by_cases hP:h.P;rw[Pd h.time now p.Vz hP.2.2.1 hP.2.2.2.1 h2 h3];simp only[me];rw[aj hP,aj hP]
theorem Ou(p:NN.Pr)(hp:p.ok)(t:Tl)(tt:p.tl=t.C)(gs:List Gt)(cs:List Ck)(hgn:t.gn=gs.length)(hcn:t.cn=cs.length)(hgl:t.gn<=1000)(hcl:t.cn<=1000)(a:Option Addr)(g:Hd)(hs:List Hd)(n c:Nat)(hn:n=hs.length+1)(hl:n<=1000)(h:Hd)(ho:h.ok)(now:Int)(w:World)(hA:bo w a (g::hs))(hG:bc w t.ga gs)(hC:aI w t.ca cs):ar 78 #[.agg (NN.aV p),.slice a n c,.agg (aS h),i_ now] w (i_ (pq p gs cs (kC p g hs hs.length) h now)):=by
 have hz:=NN.gT hp;obtain⟨q,hq⟩:∃q,q=kC p g hs hs.length:=⟨_,rfl⟩;have e1:n-1=hs.length:=by omega
 have eh:q.x.h=(n:Int):=by rw[hq,o8 p g hs _ (au _)];omega
 have ep:q.prev=((g::hs).getD (n-1) fi).id:=by rw[hq,e1];exact(sJ p g hs _ (au _)).2.2
 have et:q.ts=Md.last ((g::hs).map Hd.time):=by
  rw[hq,Nn p g hs _ (au _),gB (by simp)]
 have lok:((g::hs).getD (n-1) fi).ok:=by
  obtain⟨ab,ao,_,_,hc⟩:=hA (by simp);rw[vJ (show n-1<(g::hs).length by simp;omega)];exact(hc _ _).1
 have hne:q.ts.isEmpty=false:=by
  have hl2:=sm p g hs hs.length (au _);rw[<-hq]at hl2;cases hts:q.ts with
  | nil=>rw[hts]at hl2;simp at hl2;omega
  | cons _ _=>rfl
 have key:=DS p hz a (g::hs) n c (by simpa using hn) (by omega) hl h ho now w hA t tt gs cs hgn hcn hgl hcl hG hC (decide h.P) _ _ (sr p.lim h) _ _ _ _ (h_ fun w=>qD h ho w) q.prev h.id (by rw[ep];exact lJ _) (lJ h) (h_ fun w=>by rw[ep];exact mK _ lok w) (h_ (mK h ho)) rfl
  h.v h.bits h.time (NN.tR p q.x h.time) p.Vz (h_ rfl) (h_ rfl) (h_ rfl) (h_ rfl) (h_ fun w' hA'=>by have:=PW p hp a g hs n c hn hl h.time w' hA';rw[e1,<-hq]at this;exact this) rfl
  (h_ (x8 p h ho _ rfl)) (Md.oK q.ts) (by rw[et]) rfl rfl rfl rfl
 have ah8:FN (decide h.P) (!(h.prev==q.prev)) (h.bits != NN.tR p q.x h.time) (sr p.lim h) (decide (h.time<=Md.oK q.ts)) (sy h.time now p.Vz) (kv (n:Int) h.v gs) (p_ (n:Int) h.id cs)=pq p gs cs q h now:=by
  unfold FN pq MM.late;rw[eh,hne,j6];by_cases hP:h.P
  ·rw[aG hP,ah (show¬(true=false) by simp),ah (show¬¬h.P from fun hh=>hh hP)];by_cases h1:h.prev=q.prev;rw[ah (show¬(!(h.prev==q.prev))=true by simp[h1]),ah (show¬¬h.prev=q.prev from fun hh=>hh h1)];by_cases h2:h.bits=NN.tR p q.x h.time;rw[ah (show¬(h.bits != NN.tR p q.x h.time)=true by rw[<-h2];simp),ah (show¬¬h.bits=NN.tR p q.x h.time from fun hh=>hh h2)];by_cases h3:sr p.lim h=false;rw[aj h3,aj h3];rw[ah h3,ah h3];by_cases h4:h.time<=Md.oK q.ts;rw[aj (aG h4),aj (show decide (Md.oK q.ts<h.time)=false from aE (by omega))];rw[ah (show¬decide (h.time<=Md.oK q.ts)=true by simp only[fp];exact h4),ah (show¬decide (Md.oK q.ts<h.time)=false by simp only[lk];omega)];by_cases h5:sy h.time now p.Vz=true;rw[aj h5,aj h5];rw[ah h5,ah h5];have hv:h.v<mj (n:Int) gs↔_:=MV (n:Int) h.v gs (-2147483648);have hlo:=hP.1;by_cases h6:kv (n:Int) h.v gs=true;rw[aj h6,aj (hv.2 (.inr h6))];rw[ah h6,ah (fun hh=>(hv.1 hh).elim (fun h7=>by omega) h6)];rw[aj (show(h.bits != NN.tR p q.x h.time)=true by simpa using h2),aj h2];rw[aj (show(!(h.prev==q.prev))=true by simpa using h1),aj h1]
  rw[aE hP,aj (show false=false from rfl),aj hP]
 rw[<-hq,<-ah8];exact key
def rN:Int->List Gt->Bool
 | _,[]=>true
 | m,y::ys=>decide (m<y.h)&&rN y.h ys
theorem Sx(a:Option Addr)(gs:List Gt)(n c:Nat)(hn:n=gs.length)(hl:n<=4611686018427387904)(w:World)(hA:bc w a gs)(g:Bool)(hg:rN (-1) gs=g):ar 169 #[.slice a n c] w (.bool g):=by
 have HN:=h_ hn;have HV:=h_ hg;have HA:=h_ hA;clear hn hg hA;go_enter Tryz.func169,Tryz.ntmps169;go_wp2_with fail
 go_loopw [3,8] (fun m i wr=>∃k:Nat,k<=n/\i=i_ k/\∃z:Int,m=i_ z/\Hid (rN z (gs.drop k)=g)/\Bl w wr) (fun _ i _=>n-(intOf i).toNat)
 case atStart=>exact⟨0,by omega,rfl,_,rfl,HV,cg⟩
 case round=>
  obtain⟨k,hk,rfl,z,rfl,HZ,hB⟩:=hrel;by_cases hlt:k<n
  ·obtain⟨ab,ao,rfl,VR,hc⟩:=(HA.out.below hB) (by rw[<-HN.out];omega)
   have hd:gs.drop k=gs.getD k oZ::gs.drop (k+1):=by
    have hk2:k<gs.length:=(by rw[<-HN.out];exact hlt);rw[mT hk2,dC,aQ hk2];rfl
   have q0:=hc k (by rw[<-HN.out];omega);rw[show gs[k]'(by rw[<-HN.out];omega)=gs.getD k oZ by rw[dC,aQ (by rw[<-HN.out];omega)];rfl]at q0;have hx:=HZ.out;rw[hd]at hx;clear hd HZ;generalize gs.getD k oZ=y at*;have HX:=h_ hx;clear hx hc;have hnew:=yz wr;have hG:oV ((wr.alloc (.cells #[i_ 0,i_ 0] 108)).setRow wr.heap.size (qQ y)) wr.heap.size y:=Has.row hnew _;have hB2:Bl w ((wr.alloc (.cells #[i_ 0,i_ 0] 108)).setRow wr.heap.size (qQ y)):=below_setRow (hB.alloc hB.size _) hB.size _;have c0:=hG.c0;clear hG hB;cases t1:decide (y.h<=z)
   ·have HZ2:Hid (rN y.h (gs.drop (k+1))=g):=h_ (by
     have:=HX.out;rw[show rN z (y::gs.drop (k+1))=(decide (z<y.h)&&rN y.h (gs.drop (k+1)))from rfl,aG (show z<y.h by have:=fc t1;omega),dG]at this;exact this)
    clear HX;obtain⟨yh,X8⟩:∃yh,yh=y.h:=⟨_,rfl⟩;rw[<-X8]at c0 t1 HZ2;clear X8;(go_wp2_with (with_reducible first|refine qa rfl _ rfl ab (ao+k*2) rfl y q0 ?_|refine pA rfl _ _ rfl _ y rfl rfl hnew ?_));go_roundw
    case rel=>exact⟨k+1,by omega,by go_num,yh,rfl,HZ2,hB2⟩
    case measure=>simp[intOf];omega
   ·have hgf:g=false:=by
     rw[<-HX.out,show rN z (y::gs.drop (k+1))=(decide (z<y.h)&&rN y.h (gs.drop (k+1)))from rfl,aE (show¬z<y.h by have:=dX t1;omega),j']
    subst hgf;clear HX HV;(go_wp2_with (with_reducible first|refine qa rfl _ rfl ab (ao+k*2) rfl y q0 ?_|refine pA rfl _ _ rfl _ y rfl rfl hnew ?_));go_ret;exact⟨rfl,hB2⟩
  ·obtain rfl:k=n:=by omega
   have e:g=true:=by
    have:=HZ.out;rw[HN.out,mE]at this;exact this.symm
   subst e;go_wp2_with fail
   go_ret;exact⟨rfl,hB⟩
def oH:Int->List Ck->Bool
 | _,[]=>true
 | m,y::ys=>decide (m<y.h)&&oH y.h ys
theorem Q7(a:Option Addr)(gs:List Ck)(n c:Nat)(hn:n=gs.length)(hl:n<=4611686018427387904)(w:World)(hA:aI w a gs)(g:Bool)(hg:oH (0) gs=g):ar 170 #[.slice a n c] w (.bool g):=by
 have HN:=h_ hn;have HV:=h_ hg;have HA:=h_ hA;clear hn hg hA;go_enter Tryz.func170,Tryz.ntmps170;go_wp2_with fail
 go_loopw [3,8] (fun m i wr=>∃k:Nat,k<=n/\i=i_ k/\∃z:Int,m=i_ z/\Hid (oH z (gs.drop k)=g)/\Bl w wr) (fun _ i _=>n-(intOf i).toNat)
 case atStart=>exact⟨0,by omega,rfl,_,rfl,HV,cg⟩
 case round=>
  obtain⟨k,hk,rfl,z,rfl,HZ,hB⟩:=hrel;by_cases hlt:k<n
  ·obtain⟨ab,ao,rfl,VR,hc⟩:=(HA.out.below hB) (by rw[<-HN.out];omega)
   have hd:gs.drop k=gs.getD k nD::gs.drop (k+1):=by
    have hk2:k<gs.length:=(by rw[<-HN.out];exact hlt);rw[mT hk2,dC,aQ hk2];rfl
   have q0:=hc k (by rw[<-HN.out];omega);rw[show gs[k]'(by rw[<-HN.out];omega)=gs.getD k nD by rw[dC,aQ (by rw[<-HN.out];omega)];rfl]at q0;have hx:=HZ.out;rw[hd]at hx;clear hd HZ;generalize gs.getD k nD=y at*;have HX:=h_ hx;clear hx hc;obtain⟨y32,q⟩:=q0;have z1:=sF y32;have z2:=wD y32;have z3:(qM nD).size=33:=rfl;have hnew:=we wr;have hG:=xF wr y;have hB2:=Bc hB y;have c0:=hG.c0;clear hG hB;cases t1:decide (y.h<=z)
   ·have HZ2:Hid (oH y.h (gs.drop (k+1))=g):=h_ (by
     have:=HX.out;rw[show oH z (y::gs.drop (k+1))=(decide (z<y.h)&&oH y.h (gs.drop (k+1)))from rfl,aG (show z<y.h by have:=fc t1;omega),dG]at this;exact this)
    clear HX;obtain⟨yh,X8⟩:∃yh,yh=y.h:=⟨_,rfl⟩;rw[<-X8]at c0 t1 HZ2;clear X8;(go_wp2_with (with_reducible first|refine rF rfl _ rfl ab (ao+k*33) rfl y q z1 ?_|refine qZ rfl _ _ rfl _ y rfl rfl z2 hnew z3 ?_));go_roundw
    case rel=>exact⟨k+1,by omega,by go_num,yh,rfl,HZ2,hB2⟩
    case measure=>simp[intOf];omega
   ·have hgf:g=false:=by
     rw[<-HX.out,show oH z (y::gs.drop (k+1))=(decide (z<y.h)&&oH y.h (gs.drop (k+1)))from rfl,aE (show¬z<y.h by have:=dX t1;omega),j']
    subst hgf;clear HX HV;(go_wp2_with (with_reducible first|refine rF rfl _ rfl ab (ao+k*33) rfl y q z1 ?_|refine qZ rfl _ _ rfl _ y rfl rfl z2 hnew z3 ?_));go_ret;exact⟨rfl,hB2⟩
  ·obtain rfl:k=n:=by omega
   have e:g=true:=by
    have:=HZ.out;rw[HN.out,mE]at this;exact this.symm
   subst e;go_wp2_with fail
   go_ret;exact⟨rfl,hB⟩
def na(p:NN.Pr)(g:Hd)(gs:List Gt)(cs:List Ck):Bool:=p.du&&decide g.P&&rN (-1) gs&&oH 0 cs
theorem P2(p:NN.Pr)(hz:(NN.aV p).size=83)(t:Tl)(tt:p.tl=t.C)(ht:t.ok)(b1 b2 b3 b4:Bool)(KP:Hid (dx 168 #[.agg (NN.aV p)] (.bool b1)))(KH:Hid (dx 118 #[.agg (aS t.g)] (.bool b2)))(w:World)(KG:bG w 169 #[.slice t.ga t.gn t.gc] (.bool b3))(KC:bG w 170 #[.slice t.ca t.cn t.cc] (.bool b4)):ar 138 #[.agg (NN.aV p)] w (.bool (b1&&b2&&b3&&b4)):=by
 have s1:=gQ ht.2;obtain⟨ga,gn,gc,ca,cn,cc,nn,g⟩:=t;have HTT:=h_ tt;have HT:=h_ ht;simp only at KG KC KH s1;clear tt ht;go_enter Tryz.func138,Tryz.ntmps138;go_upto_region 1 with fail
 generalize hw0:World.alloc _ _=v0;have hB:Bl w v0:=eT hw0;have hP:NN.aK v0 w.heap.size p:=by rw[<-hw0];exact NN.Has.new _ _
 clear hw0;obtain⟨bP,VF⟩:∃b,b=w.heap.size:=⟨_,rfl⟩;rw[<-VF]at hP|-;clear VF;go_wp2_with (first|fail|(with_reducible refine NN.fK rfl _ rfl _ rfl hP hz ?_))
 refine az (KP.out _) fun v1 hb=>?_;replace hP:=hP.on hb;replace hB:=ai hB hb;clear hb;cases b1
 ·go_wp2_with fail
  go_ret;exact⟨rfl,hB⟩
 have r15:=n7 hP HTT.out HT.out;go_wp2_with (first|fail|(with_reducible refine MZ (by with_unfolding_all rfl) _ rfl bP 15 rfl g r15 s1 ?_))
 refine az (KH.out _) fun v2 hb=>?_;replace hP:=hP.on hb;replace hB:=ai hB hb;clear hb r15;cases b2
 ·go_wp2_with fail
  go_ret;exact⟨rfl,hB⟩
 have c5:v2.cell? ⟨bP,5,none⟩=some (.slice ga gn gc):=r8 hP HTT.out;go_wp2_with fail
 refine az (KG.out _ hB) fun v3 hb=>?_;replace hP:=hP.on hb;replace hB:=ai hB hb;clear hb c5;cases b3
 ·go_wp2_with fail
  go_ret;exact⟨rfl,hB⟩
 have c6:v3.cell? ⟨bP,6,none⟩=some (.slice ca cn cc):=sc hP HTT.out;go_wp2_with fail
 refine az (KC.out _ hB) fun v4 hb=>?_;replace hB:=ai hB hb;go_wp2_with fail
 go_ret;exact⟨rfl,hB⟩
theorem Kx(p:NN.Pr)(hp:p.ok)(t:Tl)(tt:p.tl=t.C)(ht:t.ok)(gs:List Gt)(cs:List Ck)(hgn:t.gn=gs.length)(hcn:t.cn=cs.length)(hgl:t.gn<=1000)(hcl:t.cn<=1000)(w:World)(hG:bc w t.ga gs)(hC:aI w t.ca cs):ar 138 #[.agg (NN.aV p)] w (.bool (na p t.g gs cs)):=
 P2 p (NN.gT hp) t tt ht _ _ _ _ (h_ (NN.NX p)) (h_ (r7 t.g ht.2)) w (h_ fun w' hb=>Sx t.ga gs t.gn t.gc hgn (by omega) w' (hG.below hb) _ rfl) (h_ fun w' hb=>Q7 t.ca cs t.cn t.cc hcn (by omega) w' (hC.below hb) _ rfl)
end
namespace Ar
open Go.RowKit Mem Sc
structure av where
 hs:List Hd
 up:Int
def aN:av:=⟨[],-1⟩
def av.h(g:Hd)(e:av):Hd:=(g::e.hs).getD e.hs.length fi
theorem tL(g:Hd)(u:Int):av.h g ⟨[],u⟩=g:=rfl
theorem lY(g:Hd)(hs:List Hd)(h:Hd)(u:Int):av.h g ⟨hs++[h],u⟩=h:=by unfold av.h;rw[dC,aT,j7,List.getElem?_cons_succ,dE (au _),iu];rfl
def oA(g:Hd)(M:List av)(id:List UInt8):Option Nat:=M.findIdx? fun e=>(e.h g).id==id
structure Ru where
 p:NN.Pr
 g:Hd
 gs:List Gt
 cs:List Ck
 room:Nat
def spot(r:Ru)(e:av):Ps:=kC r.p r.g e.hs e.hs.length
def oY(r:Ru)(e:av)(h:Hd)(now:Int):Int:=wi r.p r.gs r.cs (spot r e) h now
def add(r:Ru)(M:List av)(h:Hd)(now:Int):(Int×Int×Int)×List av:=
 if¬h.P then((-1,1,8),M)else
 match oA r.g M h.id with
 | some i=>(((i:Nat),0,0),M)
 | none=>
  match oA r.g M h.prev with
  | none=>((-1,2,5),M)
  | some j=>
   if¬oY r (M.getD j aN) h now=0 then((-1,oY r (M.getD j aN) h now,8),M)
   else if r.room<=M.length then((-1,0,6),M)
   else(((M.length:Nat),0,0),M++[⟨(M.getD j aN).hs++[h],j⟩])
variable{g:Hd}{M:List av}{id:List UInt8}
theorem uP{i:Nat}(h:oA g M id=some i):∃e,M[i]?=some e/\(e.h g).id=id:=by obtain⟨hi,h1,_⟩:=List.findIdx?_eq_some_iff_getElem.1 h;exact⟨M[i],aQ hi,by simpa using h1⟩
theorem Je(h:oA g M id=none){i:Nat}{e:av}(he:M[i]?=some e):¬(e.h g).id=id:=by have:=List.findIdx?_eq_none_iff.1 h e (ee he);simpa using this
structure Ok (r:Ru) (M:List av):Prop where
 zero:M[0]?=some aN
 up:∀(i:Nat)(e:av),0<i->M[i]?=some e->∃(j:Nat)(d:av)(h:Hd)(now:Int),j<i/\M[j]?=some d/\e=⟨d.hs++[h],(j:Nat)⟩/\h.ok/\h.P/\oY r d h now=0
 ids:∀(i j:Nat)(d e:av),M[i]?=some d->M[j]?=some e->(d.h r.g).id=(e.h r.g).id->i=j
variable{r:Ru}
theorem Ok.pos(h:Ok r M):0<M.length:=(bk.1 h.zero).1
theorem Ok.one(r:Ru):Ok r [aN]:=by refine⟨rfl,fun i e h0 he=>?_,fun i j d e hd he _=>?_⟩;have:=(bk.1 he).1;simp at this;omega;have h1:=(bk.1 hd).1;have h2:=(bk.1 he).1;simp at h1 h2;omega
theorem Ok.put(hM:Ok r M){h:Hd}(ho:h.ok)(hP:h.P){now:Int}{j:Nat}(h1:oA r.g M h.id=none)(h2:oA r.g M h.prev=some j)(h3:oY r (M.getD j aN) h now=0):Ok r (M++[⟨(M.getD j aN).hs++[h],(j:Nat)⟩]):=by
 obtain⟨d,hd,_⟩:=uP h2;have hj:=(bk.1 hd).1;rw[show M.getD j aN=d by rw[dC,hd];rfl]at h3|-
 have old:∀ {i e},(M++[⟨d.hs++[h],(j:Nat)⟩])[i]?=some e->i<M.length/\M[i]?=some e\/i=M.length/\e=⟨d.hs++[h],(j:Nat)⟩:=by
  intro i e he;by_cases hi:i<M.length;rw[dm hi]at he;exact .inl ⟨hi,he⟩
  ·have hl:=(bk.1 he).1;simp at hl;obtain rfl:i=M.length:=by omega
   rw[dE (au _),iu]at he;exact .inr ⟨rfl,by simpa using he.symm⟩
 refine⟨by rw[dm hM.pos];exact hM.zero,fun i e h0 he=>?_,fun i k a b ha hb hab=>?_⟩
 ·rcases old he with⟨hi,he⟩|⟨rfl,rfl⟩
  obtain⟨k,a,x,t,q1,q2,q3⟩:=hM.up i e h0 he;exact⟨k,a,x,t,q1,by rw[dm (by omega)];exact q2,q3⟩;exact⟨j,d,h,now,hj,by rw[dm hj];exact hd,rfl,ho,hP,h3⟩
 ·rcases old ha with⟨hi,ha⟩|⟨rfl,rfl⟩
  ·rcases old hb with⟨hk,hb⟩|⟨rfl,rfl⟩
   exact hM.ids i k a b ha hb hab;rw[lY]at hab;exact absurd hab (Je h1 ha)
  ·rcases old hb with⟨hk,hb⟩|⟨rfl,rfl⟩
   rw[lY]at hab;exact absurd hab.symm (Je h1 hb);rfl
theorem Ok.add(hM:Ok r M){h:Hd}(ho:h.ok)(now:Int):Ok r (Ar.add r M h now).2:=by
 unfold Ar.add;by_cases hP:h.P
 ·rw[ah (fun hh=>hh hP)];cases h1:oA r.g M h.id with
  | some i=>exact hM
  | none=>
   cases h2:oA r.g M h.prev with
   | none=>exact hM
   | some j=>
    simp only;by_cases h3:oY r (M.getD j aN) h now=0;rw[ah (fun hh=>hh h3)];by_cases h4:r.room<=M.length;rw[aj h4];exact hM;rw[ah h4];exact hM.put ho hP h1 h2 h3;rw[aj h3];exact hM
 rw[aj hP];exact hM
theorem Mm{p:NN.Pr}{gs:List Gt}{cs:List Ck}{q:Ps}{h:Hd}{now:Int}(e:wi p gs cs q h now=0):h.P/\h.prev=q.prev/\h.bits=NN.nx p q.x h.time/\sr p.lim h=true:=by unfold wi at e;by_cases h0:h.P;rw[ah (fun hh=>hh h0)]at e;by_cases h1:h.prev=q.prev;rw[ah (fun hh=>hh h1)]at e;by_cases h2:h.bits=NN.nx p q.x h.time;rw[ah (fun hh=>hh h2)]at e;by_cases h3:sr p.lim h=false;rw[aj h3]at e;omega;exact⟨h0,h1,h2,by simpa using h3⟩;rw[aj h2]at e;omega;rw[aj h1]at e;omega;rw[aj h0]at e;omega
theorem Ok.chain(hM:Ok r M):∀(i:Nat)(e:av),M[i]?=some e->e.hs.length<=i/\∀x∈e.hs,x.ok/\x.P/\sr r.p.lim x=true:=by
 intro i;induction i using Nat.strongRecOn with
 | ind i ih=>
  intro e he;by_cases h0:0<i
  ·obtain⟨j,d,h,now,h1,h2,rfl,h3,h4,h5⟩:=hM.up i e h0 he;obtain⟨h6,h7⟩:=ih j h1 d h2;refine⟨by simp;omega,fun x hx=>?_⟩;rcases dL.1 hx with hx|hx
   exact h7 x hx;obtain rfl:x=h:=(by simpa using hx);exact⟨h3,h4,(Mm h5).2.2.2⟩
  ·obtain rfl:i=0:=by omega
   obtain rfl:e=aN:=Option.some.inj (he.symm.trans hM.zero);exact⟨au _,fun x hx=>by cases hx⟩
theorem Ok.head(hM:Ok r M)(hg:r.g.ok)(hP:r.g.P){i:Nat}{e:av}(he:M[i]?=some e):(e.h r.g).ok/\(e.h r.g).P:=by
 by_cases h0:0<i;obtain⟨j,d,h,now,h1,h2,rfl,h3,h4,h5⟩:=hM.up i e h0 he;rw[lY];exact⟨h3,h4⟩
 ·obtain rfl:i=0:=by omega
  obtain rfl:e=aN:=Option.some.inj (he.symm.trans hM.zero);exact⟨hg,hP⟩
theorem Ok.same(hM:Ok r M)(hi:2<=r.p.Vv){i:Nat}{e:av}(he:M[i]?=some e)(own:Int):NN.tR r.p (spot r e).x own=NN.nx r.p (spot r e).x own:=by
 refine NN.G6 fun hs _=>?_
 have hh:=o8 r.p r.g e.hs e.hs.length (au _);obtain⟨hb,_,_⟩:=sJ r.p r.g e.hs e.hs.length (au _);obtain⟨_,hc⟩:=hM.chain i e he;show NN.tok (kC r.p r.g e.hs e.hs.length).x.b r.p.lim=true;rw[hb];rcases List.eq_nil_or_concat e.hs with h0|⟨l,x,h0⟩
 exfalso;have hs':NN.c_ r.p.Vv (kC r.p r.g e.hs e.hs.length).x.h=true:=hs;rw[hh,h0]at hs';unfold NN.c_ at hs';rw[show((([]:List Hd).length:Nat):Int)+1=1 by rfl,Int.tmod_eq_of_lt (by omega) (by omega)]at hs';simp at hs'
 ·have hx:=hc x (by rw[h0];simp);have ew:=hx.2.2;unfold sr at ew;rw[dv]at ew
  have e1:(r.g::e.hs).getD e.hs.length fi=x:=by
   have:=lY r.g l x 0;unfold av.h at this;simp only at this;rw[h0,List.concat_eq_append];exact this
  rw[e1];exact ew.1
theorem Ok.ah9(hM:Ok r M)(hi:2<=r.p.Vv){i:Nat}{e:av}(he:M[i]?=some e)(h:Hd)(now:Int)(h2:-9223372036854775808<=now)(h3:now<=9223372036854775807):pq r.p r.gs r.cs (spot r e) h now=oY r e h now:=
 Jg _ _ _ _ _ _ h2 h3 (hM.same hi he _)
theorem NO(r:Ru)(d:av)(h:Hd)(u:Int):spot r ⟨d.hs++[h],u⟩=bh r.p (spot r d) h:=by unfold spot kC;simp only[iY];rw[qk];rfl
end Ar
namespace Ar
inductive Row (M:List av):Int->List Int->Prop
 | nil:Row M (-1) []
 | snoc (j:Nat) (d:av) (L:List Int):M[j]?=some d->Row M d.up L->Row M (j:Int) (L++[(j:Int)])
variable{M:List av}{k z:Int}{L ps:List Int}
theorem Row.inv(h:Row M k L):(k = -1/\L=[])\/∃(j:Nat)(d:av)(L':List Int),k=(j:Int)/\M[j]?=some d/\Row M d.up L'/\L=L'++[(j:Int)]:=by
 cases h with
 | nil=>exact .inl ⟨rfl,rfl⟩
 | snoc j d L' h1 h2=>exact .inr ⟨j,d,L',rfl,h1,h2,rfl⟩
theorem Row.V'(h:Row M k L):∀{L':List Int},Row M k L'->L=L':=by
 induction h with
 | nil=>
  intro L' h';rcases h'.inv with⟨_,h1⟩|⟨j,d,L1,h1,_⟩
  exact h1.symm;omega
 | snoc j d L h1 _ ih=>
  intro L' h';rcases h'.inv with⟨h2,_⟩|⟨i,e,L1,h2,h3,h4,h5⟩
  omega
  ·obtain rfl:j=i:=by omega
   rw[h1]at h3;cases h3;rw[h5,ih h4]
variable{r:Ru}
theorem Ok.ahead(hM:Ok r M){j:Nat}{d:av}(hd:M[j]?=some d):(j=0/\d=aN)\/∃(i:Nat)(a:av)(h:Hd),i<j/\M[i]?=some a/\d.up=(i:Int)/\d.hs=a.hs++[h]:=by
 by_cases h0:0<j;obtain⟨i,a,h,now,h1,h2,rfl,_⟩:=hM.up j d h0 hd;exact .inr ⟨i,a,h,h1,h2,rfl,rfl⟩
 ·obtain rfl:j=0:=by omega
  rw[hM.zero]at hd;exact .inl ⟨rfl,(Option.some.inj hd).symm⟩
theorem Row.of(hM:Ok r M):∀(n j:Nat)(e:av),j<=n->M[j]?=some e->∃L,Row M (j:Int) L/\L.length=e.hs.length+1:=by
 intro n;induction n with
 | zero=>
  intro j e hj he;rcases hM.ahead he with⟨rfl,rfl⟩|⟨i,a,h,h1,_⟩
  exact⟨_,.snoc 0 aN [] he .nil,rfl⟩;omega
 | succ n ih=>
  intro j e hj he;rcases hM.ahead he with⟨rfl,rfl⟩|⟨i,a,h,h1,h2,h3,h4⟩
  exact⟨_,.snoc 0 aN [] he .nil,rfl⟩;obtain⟨L,hL,hl⟩:=ih i a (by omega) h2;exact⟨_,.snoc j e L he (by rw[h3];exact hL),by rw[aT,hl,h4,aT];rfl⟩
theorem Ok.row(hM:Ok r M){j:Nat}{e:av}(he:M[j]?=some e):∃L,Row M (j:Int) L/\L.length=e.hs.length+1:=Row.of hM j j e (au _) he
theorem Row.len(hM:Ok r M){j:Nat}{e:av}(he:M[j]?=some e){L:List Int}(h:Row M (j:Int) L):L.length=e.hs.length+1:=by obtain⟨L',h1,h2⟩:=hM.row he;rw[h.V' h1];exact h2
theorem Row.take(h:Row M k L):∀{n:Nat}{x:Int},L[n]?=some x->Row M x (L.take (n+1)):=by
 induction h with
 | nil=>intro n x hx;simp at hx
 | snoc j d L h1 h2 ih=>
  intro n x hx;by_cases hn:n<L.length;rw[dm hn]at hx;rw[pQ (by omega)];exact ih hx
  ·have hl:=(bk.1 hx).1;rw[aT,j7]at hl;obtain rfl:n=L.length:=by omega
   rw[dE (au _),iu]at hx;obtain rfl:(j:Int)=x:=by simpa using hx
   rw[gB (by rw[aT,j7];omega)];exact .snoc j d L h1 h2
theorem Row.last{j:Nat}(h:Row M (j:Int) L):0<L.length/\L[L.length-1]?=some (j:Int):=by
 rcases h.inv with⟨h1,_⟩|⟨i,d,L',h1,_,_,rfl⟩
 omega;rw[aT,j7,je,dE (au _),iu,h1];exact⟨by omega,rfl⟩
theorem Row.up(hM:Ok r M){k:Int}{L:List Int}(h:Row M k L):L.Pairwise (· < ·)/\∀x,x∈L->0<=x/\x<=k/\x<(M.length:Int):=by
 induction h with
 | nil=>exact⟨.nil,fun x hx=>by cases hx⟩
 | snoc j d L h1 h2 ih=>
  have hj:=(bk.1 h1).1
  have hu:d.up<(j:Int):=by
   rcases hM.ahead h1 with⟨rfl,rfl⟩|⟨i,a,h,q1,_,q3,_⟩
   simp[aN];omega
  refine⟨List.pairwise_append.2 ⟨ih.1,List.pairwise_singleton _ _,fun x hx y hy=>?_⟩,fun x hx=>?_⟩
  ·obtain rfl:y=(j:Int):=by simpa using hy
   have:=(ih.2 x hx).2.1;omega
  ·rcases dL.1 hx with hx|hx
   have:=ih.2 x hx;omega;obtain rfl:x=(j:Int):=(by simpa using hx);omega
theorem Row.at(hM:Ok r M){k:Int}{L:List Int}(h:Row M k L){x:Nat}(hx:(x:Int)∈L){e:av}(he:M[x]?=some e):L[e.hs.length]?=some (x:Int):=by
 obtain⟨n,hn⟩:=j1.1 hx;have h1:=h.take hn;have h2:=h1.len hM he;have hl:=(bk.1 hn).1;rw[eM]at h2;obtain rfl:n=e.hs.length:=by omega
 exact hn
def dV(M:List av)(x i:Int):Prop:=∃L,Row M i L/\x∈L
theorem dV.refl(hM:Ok r M){j:Nat}{e:av}(he:M[j]?=some e):dV M (j:Int) (j:Int):=by obtain⟨L,h1,_⟩:=hM.row he;exact⟨L,h1,ee h1.last.2⟩
theorem dV.trans{x y:Int}(h:dV M x y)(k:dV M y z):dV M x z:=by obtain⟨L,h1,h2⟩:=h;obtain⟨K,k1,k2⟩:=k;obtain⟨n,hn⟩:=j1.1 k2;obtain rfl:=h1.V' (k1.take hn);exact⟨K,k1,List.mem_of_mem_take h2⟩
theorem dV.le(hM:Ok r M){x y:Int}(h:dV M x y):0<=x/\x<=y/\x<(M.length:Int):=by obtain⟨L,h1,h2⟩:=h;exact(h1.up hM).2 x h2
theorem dV.same(hM:Ok r M){x y:Int}(h:dV M x y)(k:dV M y x):x=y:=by have h1:=h.le hM;have h2:=k.le hM;omega
theorem dV.zero(hM:Ok r M):∀(n j:Nat)(e:av),j<=n->M[j]?=some e->dV M 0 (j:Int):=by
 intro n j e _ he;obtain⟨L,h1,h2⟩:=hM.row he;refine⟨L,h1,?_⟩;obtain⟨x,hx⟩:∃x,L[0]?=some x:=⟨_,aQ (by omega)⟩;have h3:=h1.take hx;rcases h3.inv with⟨_,q⟩|⟨i,d,L',rfl,q2,q3,q4⟩
 have:=aJ List.length q;rw[eM,List.length_nil]at this;omega
 ·have hl:=aJ List.length q4;rw[eM,aT,j7]at hl;obtain rfl:L'=[]:=gE (by omega);rcases hM.ahead q2 with⟨rfl,_⟩|⟨m,a,h,_,m2,m3,_⟩
  exact ee hx;rw[m3]at q3;have:=q3.last.1;simp at this
theorem dV.chain(hM:Ok r M){t z p:Int}(h:dV M t p)(k:dV M z p)(hl:t<=z):dV M t z:=by
 obtain⟨L,h1,h2⟩:=h;obtain⟨K,k1,k2⟩:=k;obtain rfl:=h1.V' k1;obtain⟨a,ha⟩:=j1.1 h2;obtain⟨b,hb⟩:=j1.1 k2;refine⟨_,h1.take hb,?_⟩
 have hab:a<=b:=by
  refine Nat.le_of_not_lt fun hba=>?_
  obtain⟨ha1,ha2⟩:=bk.1 ha;obtain⟨hb1,hb2⟩:=bk.1 hb;have:=mw.1 (h1.up hM).1 b a hb1 ha1 hba;omega
 refine ee (i:=a) ?_;rw[mQ (by omega)];exact ha
def sO(M:List av)(ps:List Int)(z:Int):Prop:=(∀p,p∈ps->dV M z p)/\∀t,(∀p,p∈ps->dV M t p)->t<=z
theorem sO.V'{z':Int}(h:sO M ps z)(h':sO M ps z'):z=z':=by have h1:=h'.2 z h.1;have h2:=h.2 z' h'.1;omega
theorem sO.perm{qs:List Int}(h:sO M ps z)(hq:∀p,p∈qs↔p∈ps):sO M qs z:=⟨fun p hp=>h.1 p ((hq p).1 hp),fun t ht=>h.2 t fun p hp=>ht p ((hq p).2 hp)⟩
theorem sO.one(hM:Ok r M){j:Nat}{e:av}(he:M[j]?=some e):sO M [(j:Int)] (j:Int):=by
 refine⟨fun p hp=>?_,fun t ht=>(ht _ (kD.2 rfl)).le hM |>.2.1⟩;obtain rfl:p=(j:Int):=by simpa using hp
 exact dV.refl hM he
theorem sO.snoc(hM:Ok r M){ps:List Int}{o p z:Int}(hps:ps≠[])(h:sO M ps o)(k:sO M [o,p] z):sO M (ps++[p]) z:=by
 have k1:=k.1 o (by simp);have k2:=k.1 p (by simp);refine⟨fun q hq=>?_,fun t ht=>k.2 t fun q hq=>?_⟩
 ·rcases dL.1 hq with hq|hq
  exact k1.trans (h.1 q hq)
  ·obtain rfl:q=p:=by simpa using hq
   exact k2
 ·have hto:t<=o:=h.2 t fun q hq=>ht q (dL.2 (.inl hq))
  rcases cJ.1 hq with rfl|hq
  obtain⟨q0,hq0⟩:=pz ps hps;exact(ht q0 (dL.2 (.inl hq0))).chain hM (h.1 q0 hq0) hto;exact ht q (dL.2 (.inr hq))
def jj(K:List Int)(L:List Int)(b:Int):Int:=L.foldl (fun b x=>if x∈K then x else b) b
theorem xv(K:List Int):∀(L:List Int)(b:Int),L.Pairwise (· < ·)->(∀x,x∈L->b<=x)->(jj K L b=b\/jj K L b∈L/\jj K L b∈K)/\b<=jj K L b/\∀x,x∈L->x∈K->x<=jj K L b:=by
 intro L;induction L with
 | nil=>intro b _ _;exact⟨.inl rfl,Int.le_refl _,fun x hx=>by cases hx⟩
 | cons y L ih=>
  intro b hp hb;obtain⟨p1,p2⟩:=mn.1 hp;have hyb:=hb y (nT ..);by_cases hy:y∈K
  ·have e:jj K (y::L) b=jj K L y:=by unfold jj;rw[jZ,aj hy]
   obtain⟨h1,h2,h3⟩:=ih y p2 fun x hx=>Int.le_of_lt (p1 x hx)
   rw[e];refine⟨.inr ?_,by omega,fun x hx hk=>?_⟩
   ·rcases h1 with h1|⟨h1,h4⟩
    rw[h1];exact⟨nT ..,hy⟩;exact⟨iL _ h1,h4⟩
   ·rcases cJ.1 hx with rfl|hx
    exact h2;exact h3 x hx hk
  ·have e:jj K (y::L) b=jj K L b:=by unfold jj;rw[jZ,ah hy]
   obtain⟨h1,h2,h3⟩:=ih b p2 fun x hx=>hb x (iL _ hx)
   rw[e];refine⟨?_,h2,fun x hx hk=>?_⟩
   ·rcases h1 with h1|⟨h1,h4⟩
    exact .inl h1;exact .inr ⟨iL _ h1,h4⟩
   ·rcases cJ.1 hx with rfl|hx
    exact absurd hk hy;exact h3 x hx hk
theorem MW(hM:Ok r M){i k:Nat}{d e:av}(hd:M[i]?=some d)(he:M[k]?=some e){L K:List Int}(hL:Row M (i:Int) L)(hK:Row M (k:Int) K):sO M [(k:Int),(i:Int)] (jj K L 0):=by
 obtain⟨h1,h2,h3⟩:=xv K L 0 (hL.up hM).1 fun x hx=>((hL.up hM).2 x hx).1
 have hz:dV M (jj K L 0) (i:Int)/\dV M (jj K L 0) (k:Int):=by
  rcases h1 with h1|⟨h1,h4⟩
  rw[h1];exact⟨dV.zero hM i i d (au _) hd,dV.zero hM k k e (au _) he⟩;exact⟨⟨L,hL,h1⟩,K,hK,h4⟩
 refine⟨fun p hp=>?_,fun t ht=>?_⟩
 ·rcases cJ.1 hp with rfl|hp
  exact hz.2
  ·obtain rfl:p=(i:Int):=by simpa using hp
   exact hz.1
 obtain⟨L',q1,q2⟩:=ht (i:Int) (by simp);obtain⟨K',q3,q4⟩:=ht (k:Int) (by simp);rw[q1.V' hL]at q2;rw[q3.V' hK]at q4;exact h3 t q2 q4
end Ar
namespace Mk
open Ar (av Ru aN Ok Row dV)
structure St where
 said:Nat->Nat
 out:Nat->Bool
def oC:St:=⟨fun i=>if i=0 then 1 else 0,fun _=>false⟩
def fX(S:St)(k:Nat):Bool:=S.out k||S.said k==2
def Valid(M:List av)(S:St)(i:Nat):Prop:=i<M.length/\∀k:Nat,dV M (k:Int) (i:Int)->S.said k=1/\S.out k=false
structure Good (n:Nat) (S:St):Prop where
 Wt:S.said 0=1
 X9:S.out 0=false
 two:∀i,S.said i<=2
 none:∀i,n<=i->S.said i=0/\S.out i=false
theorem Good.start(n:Nat)(hn:0<n):Good n oC:=by
 refine⟨rfl,rfl,fun i=>?_,fun i hi=>⟨?_,rfl⟩⟩
 ·simp only[oC];split<;>omega
 simp only[oC];rw[ah (by omega)]
theorem Good.more{n m:Nat}{S:St}(h:Good n S)(hm:n<=m):Good m S:=⟨h.Wt,h.X9,h.two,fun i hi=>h.none i (by omega)⟩
section
variable{r:Ru}{M N:List av}{S:St}{i j k:Nat}
theorem IN(hM:Ok r M)(hi:i<M.length):dV M (i:Int) (i:Int):=dV.refl hM (aQ hi)
theorem Nq(hM:Ok r M)(hi:i<M.length):dV M 0 (i:Int):=dV.zero hM i i _ (au _) (aQ hi)
theorem AS{L:List Int}(h:Row M (-1) L):L=[]:=by
 rcases h.inv with⟨_,h⟩|⟨j,_,_,h1,_⟩
 exact h;omega
theorem D5(hM:Ok r M){e:av}(he:M[i]?=some e){x:Int}:dV M x (i:Int)↔x=(i:Int)\/dV M x e.up:=by
 constructor
 ·rintro⟨L,hL,hx⟩;rcases hL.inv with⟨h1,_⟩|⟨j,d,L',h1,h2,h3,rfl⟩
  omega
  ·obtain rfl:i=j:=by omega
   rw[he]at h2;cases h2;rcases dL.1 hx with hx|hx
   exact .inr ⟨L',h3,hx⟩;exact .inl (by simpa using hx)
 rintro(rfl|⟨L,hL,hx⟩);exact dV.refl hM he;exact⟨_,.snoc i e L he hL,List.mem_append_left _ hx⟩
theorem Mn(hM:Ok r M):dV M (k:Int) ((0:Nat):Int)↔k=0:=by rw[D5 hM hM.zero];constructor;rintro(h|⟨L,hL,hx⟩);omega;rw[AS hL]at hx;simp at hx;rintro rfl;exact .inl rfl
theorem Ty(hM:Ok r M):Valid M S 0↔S.said 0=1/\S.out 0=false:=by constructor;rintro⟨_,h⟩;exact h 0 (IN hM hM.pos);rintro h;refine⟨hM.pos,fun k hk=>?_⟩;obtain rfl:=(Mn hM).1 hk;exact h
theorem Good.Zq{n:Nat}(hM:Ok r M)(h:Good n S):Valid M S 0:=(Ty hM).2 ⟨h.Wt,h.X9⟩
end
variable{α:Type}
def dk(f:Nat->α)(k:Nat)(x:α):Nat->α:=fun i=>if i=k then x else f i
theorem qN(f:Nat->α)(k:Nat)(x:α):dk f k x k=x:=aj rfl
theorem oN(f:Nat->α){k i:Nat}(x:α)(h:i≠k):dk f k x i=f i:=ah h
def iH(n:Nat)(x:Int):Int:=if 0<=x/\x<(n:Int)then(if x=0 then 1 else 0)else 5
theorem wF{n:Nat}{x:Int}(h:iH n x=0):0<x.toNat/\x.toNat<n/\x=(x.toNat:Int):=by
 unfold iH at h;split at h
 ·split at h;cases h;omega
 cases h
def word(right:Bool):Nat:=if right then 1 else 2
def verdict(n:Nat)(S:St)(x:Int)(right:Bool):Int×St:=
 if¬iH n x=0 then(iH n x,S)else if 0<S.said x.toNat/\¬S.said x.toNat=word right then(1,S)else(0,⟨dk S.said x.toNat (word right),S.out⟩)
def cZ(n:Nat)(S:St)(x:Int):Int×St:=if¬iH n x=0 then(iH n x,S)else(0,⟨S.said,dk S.out x.toNat true⟩)
def On(M:List av)(x:Int)(i:Nat):Prop:=dV M (i:Int) x\/dV M x (i:Int)
open Classical in
noncomputable def cG(M:List av)(S:St)(x:Int):Int×St:=
 if¬iH M.length x=0 then(iH M.length x,S)else(0,⟨fun i=>if On M x i/\S.said i=2 then 0 else S.said i,fun i=>if On M x i then false else S.out i⟩)
section
variable{r:Ru}{M:List av}{S:St}{n:Nat}
theorem Good.verdict(h:Good n S)(x:Int)(right:Bool):Good n (verdict n S x right).2:=by
 unfold Mk.verdict;split;exact h
 ·rename_i hc;obtain⟨h1,h2,_⟩:=wF (Decidable.not_not.1 hc);split;exact h
  ·refine⟨?_,h.X9,fun i=>?_,fun i hi=>⟨?_,(h.none i hi).2⟩⟩;exact(oN _ _ (by omega)).trans h.Wt
   ·show dk S.said x.toNat (word right) i<=2;unfold dk word;have:=h.two i;split
    ·split<;>omega
    exact this
   exact(oN _ _ (by omega)).trans (h.none i hi).1
theorem Good.cZ(h:Good n S)(x:Int):Good n (cZ n S x).2:=by
 unfold Mk.cZ;split;exact h
 ·rename_i hc;obtain⟨h1,h2,_⟩:=wF (Decidable.not_not.1 hc);refine⟨h.Wt,(oN _ _ (by omega)).trans h.X9,h.two,fun i hi=>⟨(h.none i hi).1,(oN _ _ (by omega)).trans (h.none i hi).2⟩⟩
open Classical in
theorem Good.cG(h:Good M.length S)(x:Int):Good M.length (cG M S x).2:=by unfold Mk.cG;split;exact h;refine⟨?_,?_,fun i=>?_,fun i hi=>⟨?_,?_⟩⟩;show(if _ then _ else _)=1;rw[ah (fun hh=>by have:=hh.2;rw[h.Wt]at this;omega)];exact h.Wt;show(if _ then _ else _)=false;split;rfl;exact h.X9;show(if _ then _ else _)<=2;split;omega;exact h.two i;show(if _ then _ else _)=0;split;rfl;exact(h.none i hi).1;show(if _ then _ else _)=false;split;rfl;exact(h.none i hi).2
end
def top(H:Nat->Nat->Bool)(P:Nat->Bool):Nat->Nat
 | 0=>0
 | n+1=>if P n=true/\H n (top H P n)=true then n else top H P n
section
variable{H:Nat->Nat->Bool}{P Q:Nat->Bool}
theorem u5(h0:P 0=true):∀n,P (top H P n)=true
 | 0=>h0
 | n+1=>by
  unfold top;split
  ·rename_i h;exact h.1
  exact u5 h0 n
theorem qe:∀n,0<n->top H P n<n
 | 0,h=>absurd h (Nat.lt_irrefl _)
 | n+1,_=>by
  unfold top;split;omega
  ·rcases lg n with rfl|h
   exact Nat.lt_succ_self _;have:=qe n h;omega
theorem Ef(t:Tp.nJ H):∀n i,i<n->P i=true->i=top H P n\/H (top H P n) i=true
 | 0,i,h,_=>absurd h (Nat.not_lt_zero _)
 | n+1,i,h,hp=>by
  unfold top;by_cases hc:P n=true/\H n (top H P n)=true
  ·rw[aj hc];by_cases e:i=n;exact .inl e
   ·rcases Ef t n i (by omega) hp with rfl|hh
    exact .inr hc.2;exact .inr (t.trans _ _ _ hc.2 hh)
  ·rw[ah hc];by_cases e:i=n
   ·subst e;rcases oa i (top H P i)with _|_|_
    all_goals
     by_cases e2:i=top H P i;exact .inl e2
     ·rcases t.tri _ _ e2 with hh|hh
      exact absurd ⟨hp,hh⟩ hc;exact .inr hh
   exact Ef t n i (by omega) hp
theorem Oy(t:Tp.nJ H){n b:Nat}(hb:b<n)(hP:P b=true)(h0:P 0=true)(h:∀i,i<n->P i=true->i=b\/H b i=true):b=top H P n:=by
 rcases Ef t n b hb hP with e|e
 exact e
 ·rcases h (top H P n) (qe n (by omega)) (u5 h0 n)with e2|e2
  exact e2.symm;have:=t.trans _ _ _ e e2;rw[t.Zi]at this;cases this
end
end Mk
namespace Ar
def ma(n:Nat):Nat:=n&&&(n-1)
theorem N9:ma 0=0:=rfl
variable{n h:Nat}
theorem sU(h:0<n):ma n<n:=by have:ma n<=n-1:=Nat.and_le_right;omega
theorem wK(n:Nat):ma n<=n:=Nat.and_le_left
def oR(h:Nat):Nat:=if h<2 then 0 else if h%2=0 then ma h else 1+ma (ma (h-1))
theorem Ny(h0:h<2):oR h=0:=aj h0
theorem L5(h0:2<=h)(h1:h%2=0):oR h=ma h:=by unfold oR;rw[ah (by omega),aj h1]
theorem Df(h0:2<=h)(h1:h%2=1):oR h=1+ma (ma (h-1)):=by unfold oR;rw[ah (by omega),ah (by omega)]
theorem wN(h0:0<h):oR h<h:=by by_cases h1:h<2;rw[Ny h1];exact h0;by_cases h2:h%2=0;rw[L5 (by omega) h2];exact sU h0;rw[Df (by omega) (by omega)];have h3:=sU (n:=h-1) (by omega);by_cases h4:ma (h-1)=0;rw[h4,N9];omega;have:=sU (n:=ma (h-1)) (by omega);omega
def Up(M:List av)(i:Int)(h:Nat)(z:Int):Prop:=∃L,Row M i L/\L[h]?=some z
variable{M:List av}{L ls ps:List Int}
theorem Row.more{k:Int}(h:Row M k L)(X:List av):Row (M++X) k L:=by
 induction h with
 | nil=>exact .nil
 | snoc j d L h1 _ ih=>exact .snoc j d L (by rw[dm (bk.1 h1).1];exact h1) ih
variable{i z z' p:Int}
theorem Up.more(k:Up M i h z)(X:List av):Up (M++X) i h z:=by obtain⟨L,h1,h2⟩:=k;exact⟨L,h1.more X,h2⟩
theorem Up.V'(k:Up M i h z)(k':Up M i h z'):z=z':=by obtain⟨L,h1,h2⟩:=k;obtain⟨K,h3,h4⟩:=k';rw[h1.V' h3]at h2;exact Option.some.inj (h2.symm.trans h4)
variable{r:Ru}
theorem Up.self(hM:Ok r M){j:Nat}{e:av}(he:M[j]?=some e):Up M (j:Int) e.hs.length (j:Int):=by obtain⟨L,h1,h2⟩:=hM.row he;have h3:=h1.last.2;rw[h2,je]at h3;exact⟨L,h1,h3⟩
theorem Up.trans{x:Int}{k:Nat}(a:Up M i k x)(b:Up M x h z):Up M i h z:=by obtain⟨L,h1,h2⟩:=a;obtain⟨K,h3,h4⟩:=b;obtain rfl:=h3.V' (h1.take h2);refine⟨L,h1,?_⟩;rw[kL]at h4;split at h4;exact h4;cases h4
theorem Up.place(hM:Ok r M){i z:Int}{h:Nat}(k:Up M i h z):∃(n:Nat)(e:av),z=(n:Int)/\M[n]?=some e/\e.hs.length=h:=by
 obtain⟨L,h1,h2⟩:=k;have hp:=(h1.up hM).2 z (ee h2);obtain⟨n,rfl⟩:=eG hp.1;have hn:n<M.length:=by omega
 obtain⟨e,he⟩:∃e,M[n]?=some e:=⟨_,aQ hn⟩;refine⟨n,e,rfl,he,?_⟩;have h3:=(h1.take h2).len hM he;have hl:=(bk.1 h2).1;rw[eM]at h3;omega
theorem Up.ahead(hM:Ok r M){j:Nat}{e:av}(he:M[j]?=some e)(h0:0<e.hs.length):Up M (j:Int) (e.hs.length-1) e.up/\∃(i:Nat)(a:av),e.up=(i:Int)/\i<j/\M[i]?=some a/\e.hs.length=a.hs.length+1:=by
 rcases hM.ahead he with⟨rfl,rfl⟩|⟨i,a,h,h1,h2,h3,h4⟩
 exact absurd h0 (by simp[aN])
 ·have h5:e.hs.length=a.hs.length+1:=by rw[h4,aT];rfl
  refine⟨?_,i,a,h3,h1,h2,h5⟩;obtain⟨L,hL,hl⟩:=hM.row h2;have h6:=hL.last.2;rw[hl,je]at h6;refine⟨L++[(j:Int)],.snoc j e L he (by rw[h3];exact hL),?_⟩;rw[h5,je,dm (by omega),h3];exact h6
theorem Up.there(hM:Ok r M){j:Nat}{e:av}(he:M[j]?=some e){h:Nat}(hh:h<=e.hs.length):∃z,Up M (j:Int) h z:=by obtain⟨L,h1,h2⟩:=hM.row he;exact⟨_,L,h1,aQ (by omega)⟩
theorem Up.low(hM:Ok r M){j:Nat}{e:av}(he:M[j]?=some e){h:Nat}{z:Int}(k:Up M (j:Int) h z):h<=e.hs.length:=by obtain⟨L,h1,h2⟩:=k;have:=h1.len hM he;have:=(bk.1 h2).1;omega
structure Lp (M:List av) (ls:List Int):Prop where
 le:ls.length<=M.length
 to_:∀(i:Nat)(e:av)(x:Int),M[i]?=some e->ls[i]?=some x->0<e.hs.length->Up M (i:Int) (oR e.hs.length) x
theorem Lp.one:Lp [aN] [-1]:=by
 refine⟨au _,fun i e x he _ h0=>?_⟩;have hi:=(bk.1 he).1;obtain rfl:i=0:=by simpa using hi
 obtain rfl:aN=e:=by simpa using he
 exact absurd h0 (by simp[aN])
theorem Lp.more(h:Lp M ls)(X:List av):Lp (M++X) ls:=by refine⟨by rw[aT];have:=h.le;omega,fun i e x he hx h0=>?_⟩;have hi:=(bk.1 hx).1;have:=h.le;rw[dm (by omega)]at he;exact(h.to_ i e x he hx h0).more X
theorem Lp.put(h:Lp M ls){x:Int}(hl:ls.length<M.length)(hx:∀e,M[ls.length]?=some e->0<e.hs.length->Up M (ls.length:Int) (oR e.hs.length) x):Lp M (ls++[x]):=by
 refine⟨by rw[aT];exact hl,fun i e y he hy h0=>?_⟩;by_cases hi:i<ls.length;rw[dm hi]at hy;exact h.to_ i e y he hy h0
 ·have hl2:=(bk.1 hy).1;rw[aT,j7]at hl2;obtain rfl:i=ls.length:=by omega
  rw[dE (au _),iu]at hy;obtain rfl:x=y:=by simpa using hy
  exact hx e he h0
def dB(M:List av)(p:Int):Prop:=0<=p/\p<(M.length:Int)
theorem dB.is(h:dB M p):∃(n:Nat)(e:av),p=(n:Int)/\M[n]?=some e:=by
 obtain⟨n,rfl⟩:=eG h.1;have hn:n<M.length:=by have:=h.2;omega
 exact⟨n,_,rfl,aQ hn⟩
theorem jn{e:av}(h:M[n]?=some e):dB M (n:Int):=by have:=(bk.1 h).1;exact⟨by omega,by omega⟩
def fR(M:List av)(i h z:Int):Prop:=(dB M i/\0<=h/\Up M i h.toNat z)\/(¬(dB M i/\0<=h/\∃x,Up M i h.toNat x)/\z = -1)
theorem fR.ex(M:List av)(i h:Int):∃z,fR M i h z:=by by_cases hh:dB M i/\0<=h/\∃x,Up M i h.toNat x;obtain⟨h1,h2,x,h3⟩:=hh;exact⟨x,.inl ⟨h1,h2,h3⟩⟩;exact⟨-1,.inr ⟨hh,rfl⟩⟩
theorem fR.V'{h:Int}(k:fR M i h z)(k':fR M i h z'):z=z':=by
 rcases k with⟨h1,h2,h3⟩|⟨h1,rfl⟩
 ·rcases k' with⟨_,_,q3⟩|⟨q1,_⟩
  exact h3.V' q3;exact absurd ⟨h1,h2,z,h3⟩ q1
 ·rcases k' with⟨q1,q2,q3⟩|⟨_,rfl⟩
  exact absurd ⟨q1,q2,z',q3⟩ h1;rfl
theorem fR.no{h:Int}(k:fR M i h z)(hh:¬dB M i\/h<0):z = -1:=by
 rcases k with⟨h1,h2,_⟩|⟨_,h⟩
 ·rcases hh with hh|hh
  exact absurd h1 hh;omega
 exact h
theorem fR.high(hM:Ok r M){n:Nat}{e:av}(he:M[n]?=some e){h z:Int}(k:fR M (n:Int) h z)(hh:(e.hs.length:Int)<h):z = -1:=by
 rcases k with⟨h1,h2,h3⟩|⟨_,h⟩
 have:=h3.low hM he;omega;exact h
theorem fR.up(hM:Ok r M){n:Nat}{e:av}(he:M[n]?=some e){h z:Int}(k:fR M (n:Int) h z)(h0:0<=h)(hh:h<=(e.hs.length:Int)):Up M (n:Int) h.toNat z:=by
 rcases k with⟨_,_,h3⟩|⟨h1,_⟩
 exact h3;exact absurd ⟨jn he,h0,Up.there hM he (by omega)⟩ h1
theorem Jf(hM:Ok r M){n:Nat}{e:av}(he:M[n]?=some e){i z:Int}(k:fR M i (e.hs.length:Int) z):(n:Int)=z↔dV M (n:Int) i:=by
 constructor
 ·intro hz;rcases k with⟨_,_,L,h1,h2⟩|⟨_,h⟩
  exact⟨L,h1,ee (by first|exact hz▸h2|(unfold Bl;exact hz▸h2))⟩;omega
 ·rintro⟨L,h1,h2⟩;have h3:=h1.at hM h2 he
  have hi:dB M i:=by
   rcases h1.inv with⟨_,rfl⟩|⟨j,d,L',rfl,q1,_⟩
   cases h2;exact jn q1
  exact fR.V' (.inl ⟨hi,by omega,L,h1,by rw[bU];exact h3⟩) k
theorem Row.first(hM:Ok r M){n:Nat}{e:av}(he:M[n]?=some e){L:List Int}(h:Row M (n:Int) L):L[0]?=some 0:=by
 have hz:(0:Int)∈L:=by
  obtain⟨K,h1,h2⟩:=dV.zero hM n n e (au _) he;rw[h1.V' h]at h2;exact h2
 obtain⟨k,hk⟩:=j1.1 hz;obtain⟨q1,q2⟩:=bk.1 hk;by_cases h0:k=0;subst h0;exact hk;have h2:=(h.up hM).2 _ (ij (by omega:0<L.length));have h3:=mw.1 (h.up hM).1 0 k (by omega) q1 (by omega);omega
def Deep(L K:List Int)(k:Nat):Prop:=∀(n:Nat)(t:Int),L[n]?=some t->K[n]?=some t->n<=k
theorem Deep.start(L K:List Int){k:Nat}(h:L.length<=k+1\/K.length<=k+1):Deep L K k:=fun n t h1 h2=>by
 have:=(bk.1 h1).1;have:=(bk.1 h2).1;omega
theorem Deep.Zr{j:Int}{K:List Int}(hL:Row M i L)(hK:Row M j K){k:Nat}{x y:Int}(hx:L[k]?=some x)(hy:K[k]?=some y)(hne:x≠y):∀(n:Nat)(t:Int),L[n]?=some t->K[n]?=some t->n<k:=fun n t h1 h2=>by
 refine Nat.lt_of_not_le fun hle=>hne ?_
 have q:=(hL.take h1).V' (hK.take h2);have e1:(L.take (n+1))[k]?=some x:=by rw[kL,aj (by omega)];exact hx
 have e2:(K.take (n+1))[k]?=some y:=by rw[kL,aj (by omega)];exact hy
 rw[q]at e1;exact Option.some.inj (e1.symm.trans e2)
def gS(M:List av)(ps:List Int)(z:Int):Prop:=(ps≠[]/\(∀p,p∈ps->dB M p)/\sO M ps z)\/(¬(ps≠[]/\∀p,p∈ps->dB M p)/\z = -1)
theorem gS.V'(h:gS M ps z)(h':gS M ps z'):z=z':=by
 rcases h with⟨h1,h2,h3⟩|⟨h1,rfl⟩
 ·rcases h' with⟨_,_,q3⟩|⟨q1,_⟩
  exact h3.V' q3;exact absurd ⟨h1,h2⟩ q1
 ·rcases h' with⟨q1,q2,_⟩|⟨_,rfl⟩
  exact absurd ⟨q1,q2⟩ h1;rfl
theorem gS.perm{qs:List Int}(h:gS M ps z)(hq:∀p,p∈qs↔p∈ps):gS M qs z:=by
 have hn:qs≠[]↔ps≠[]:=by
  constructor;intro h hp;obtain⟨x,hx⟩:=pz qs h;rw[hq,hp]at hx;cases hx;intro h hp;obtain⟨x,hx⟩:=pz ps h;rw[<-hq,hp]at hx;cases hx
 rcases h with⟨h1,h2,h3⟩|⟨h1,rfl⟩
 exact .inl ⟨hn.2 h1,fun p hp=>h2 p ((hq p).1 hp),h3.perm hq⟩;exact .inr ⟨fun h=>h1 ⟨hn.1 h.1,fun p hp=>h.2 p ((hq p).2 hp)⟩,rfl⟩
theorem gS.snoc(hM:Ok r M){ps:List Int}{o p z:Int}(hps:ps≠[])(h:gS M ps o)(k:gS M [o,p] z):gS M (ps++[p]) z:=by
 rcases h with⟨h1,h2,h3⟩|⟨h1,rfl⟩
 ·have ho:dB M o:=by
   obtain⟨q,hq⟩:=pz ps hps;have:=(h3.1 q hq).le hM;exact⟨this.1,this.2.2⟩
  rcases k with⟨_,k2,k3⟩|⟨k1,rfl⟩
  ·refine .inl ⟨by simp,fun q hq=>?_,h3.snoc hM hps k3⟩;rcases dL.1 hq with hq|hq
   exact h2 q hq;obtain rfl:q=p:=(by simpa using hq);exact k2 q (by simp)
  ·refine .inr ⟨fun hh=>k1 ⟨by simp,fun q hq=>?_⟩,rfl⟩;rcases cJ.1 hq with rfl|hq
   exact ho;obtain rfl:q=p:=(by simpa using hq);exact hh.2 q (by simp)
 ·rcases k with⟨_,k2,_⟩|⟨_,rfl⟩
  have:=(k2 (-1) (by simp)).1;omega;exact .inr ⟨fun hh=>h1 ⟨hps,fun q hq=>hh.2 q (dL.2 (.inl hq))⟩,rfl⟩
theorem gS.ex(hM:Ok r M)(x y:Int):∃z,gS M [x,y] z:=by
 by_cases hh:dB M x/\dB M y
 ·obtain⟨hx,hy⟩:=hh;obtain⟨n,e,rfl,he⟩:=hx.is;obtain⟨m,d,rfl,hd⟩:=hy.is;obtain⟨L,hL,_⟩:=hM.row he;obtain⟨K,hK,_⟩:=hM.row hd;refine⟨_,.inl ⟨by simp,fun p hp=>?_,MW hM hd he hK hL⟩⟩;rcases cJ.1 hp with rfl|hp
  exact hx
  ·obtain rfl:p=(m:Int):=by simpa using hp
   exact hy
 exact⟨-1,.inr ⟨fun h=>hh ⟨h.2 x (by simp),h.2 y (by simp)⟩,rfl⟩⟩
theorem gS.self(h:gS M [p,p] z):gS M [p] z:=h.perm fun q=>by simp
end Ar
namespace Ch
open Ar (av Ru aN Ok Row dV sO gS)
def uq:List Int->List Int->Nat
 | x::L,y::K=>if x=y then uq L K+1 else 0
 | _,_=>0
theorem FG(K:List Int):uq [] K=0:=by unfold uq;rfl
theorem vh:∀L K:List Int,uq L K<=L.length/\uq L K<=K.length
 | [],K=>by rw[FG];exact⟨bB _,bB _⟩
 | x::L,[]=>⟨bB _,bB _⟩
 | x::L,y::K=>by
  have h:=vh L K;unfold uq;split;simp only[fP];omega;exact⟨bB _,bB _⟩
theorem zp:∀{L K:List Int},L <+: K->uq L K=L.length
 | [],K,_=>FG K
 | x::L,[],h=>by simp at h
 | x::L,y::K,h=>by
  rw[List.cons_prefix_cons]at h;unfold uq;rw[aj h.1,zp h.2,fP]
theorem Cg(x:Int):∀{L K:List Int},¬(L++[x]) <+: K->uq (L++[x]) K=uq L K
 | [],[],_=>rfl
 | [],y::K,h=>by
  rw[j_,List.cons_prefix_cons]at h;rw[j_,FG];unfold uq;rw[ah (fun e=>h ⟨e,List.nil_prefix⟩)]
 | a::L,[],_=>rfl
 | a::L,y::K,h=>by
  rw[List.cons_append,List.cons_prefix_cons]at h;rw[List.cons_append];unfold uq;by_cases e:a=y;rw[aj e,aj e,Cg x (fun hh=>h ⟨e,hh⟩)];rw[ah e,ah e]
def l_(K L:List Int):List Int:=if L=K then L else if L.isPrefixOf K=true then K.take (L.length+1)else L.dropLast
variable{K L:List Int}
theorem Bm(h:L=K):l_ K L=L:=aj h
theorem qq(h:L≠K)(hp:L <+: K):l_ K L=K.take (L.length+1):=by unfold l_;rw[ah h,aj (List.isPrefixOf_iff_prefix.2 hp)]
theorem GC(hp:¬L <+: K):l_ K L=L.dropLast:=by unfold l_;rw[ah (fun e:L=K=>hp (by rw[e];exact List.prefix_rfl)),ah (fun e=>hp (List.isPrefixOf_iff_prefix.1 e))]
theorem pF(h:L≠K)(hp:L <+: K):L.length<K.length:=by
 rcases fQ L.length K.length with h1|h1
 exact h1;exact absurd (hp.eq_of_length (Nat.le_antisymm hp.length_le h1)) h
def lF(K L:List Int):Nat:=L.length+K.length-2*uq L K
theorem yH(K:List Int):lF K K=0:=by unfold lF;rw[zp List.prefix_rfl];omega
theorem xL(h:L≠K)(h0:0<L.length):lF K L=lF K (l_ K L)+1:=by by_cases hp:L <+: K;have h1:=pF h hp;rw[qq h hp];unfold lF;rw[zp hp,zp (List.take_prefix _ _),eM];omega;rw[GC hp];obtain rfl|⟨L0,x,rfl⟩:=List.eq_nil_or_concat L;simp at h0;rw[List.concat_eq_append]at hp|-;have h1:=vh L0 K;rw[List.dropLast_concat];unfold lF;rw[Cg x hp,aT,j7];omega
section
variable{r:Ru}{M:List av}{i t:Nat}{L K:List Int}
theorem D8(hL:Row M (i:Int) L)(hK:Row M (t:Int) K):L=K↔i=t:=by constructor;rintro rfl;have:=hL.last.2.symm.trans hK.last.2;exact Int.ofNat.inj (Option.some.inj this);rintro rfl;exact hL.V' hK
theorem sE(hL:Row M (i:Int) L)(hK:Row M (t:Int) K):dV M (i:Int) (t:Int)↔L <+: K:=by constructor;rintro⟨K',h1,h2⟩;obtain rfl:=hK.V' h1;obtain⟨k,hk⟩:=j1.1 h2;rw[hL.V' (hK.take hk)];exact List.take_prefix _ _;intro hp;exact⟨K,hK,hp.subset (ee hL.last.2)⟩
theorem CH(hM:Ok r M)(hK:Row M (t:Int) K)(hp:L <+: K)(hn:L≠K):∃z:Nat,K[L.length]?=some (z:Int)/\z<M.length/\Row M (z:Int) (l_ K L):=by have h1:=pF hn hp;obtain⟨x,hx⟩:∃x,K[L.length]?=some x:=⟨_,aQ h1⟩;have h2:=(hK.up hM).2 x (ee hx);obtain⟨z,rfl⟩:=eG h2.1;refine⟨z,hx,by omega,?_⟩;rw[qq hn hp];exact hK.take hx
theorem gY(hL:Row M (i:Int) L):∃(e:av)(L':List Int),M[i]?=some e/\Row M e.up L'/\L=L'++[(i:Int)]:=by
 rcases hL.inv with⟨h,_⟩|⟨j,d,L',h1,h2,h3,h4⟩
 omega
 ·obtain rfl:i=j:=by omega
  exact⟨d,L',h2,h3,h4⟩
theorem IL(hM:Ok r M)(hL:Row M (i:Int) L)(hK:Row M (t:Int) K)(hp:¬L <+: K):∃(z:Nat)(e:av),M[i]?=some e/\e.up=(z:Int)/\z<M.length/\Row M (z:Int) (l_ K L):=by
 obtain⟨e,L',h1,h2,rfl⟩:=gY hL;obtain⟨_,_,ht,_,_⟩:=gY hK;have ht:=(bk.1 ht).1;rcases hM.ahead h1 with⟨rfl,rfl⟩|⟨j,a,h,q1,q2,q3,_⟩
 exact absurd ((sE hL hK).1 (Mk.Nq hM ht)) hp;refine⟨j,e,h1,q3,(bk.1 q2).1,?_⟩;rw[GC hp,List.dropLast_concat,<-q3];exact h2
theorem Bu(hM:Ok r M)(hL:Row M (i:Int) L)(hK:Row M (t:Int) K):∃z:Nat,z<M.length/\Row M (z:Int) (l_ K L):=by
 by_cases e:L=K;obtain⟨_,_,h,_,_⟩:=gY hL;rw[Bm e];exact⟨i,(bk.1 h).1,hL⟩
 ·by_cases hp:L <+: K;obtain⟨z,_,h1,h2⟩:=CH hM hK hp e;exact⟨z,h1,h2⟩;obtain⟨z,_,_,_,h1,h2⟩:=IL hM hL hK hp;exact⟨z,h1,h2⟩
end
