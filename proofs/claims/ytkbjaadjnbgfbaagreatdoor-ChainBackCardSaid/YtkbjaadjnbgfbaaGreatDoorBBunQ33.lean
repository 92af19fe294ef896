import Derived.Test.YtkbjaadjnbgfbaaGreatDoorBBunQ31
import Derived.Laws.AppendOwnNone
set_option maxRecDepth 100000
set_option maxHeartbeats 16000000
namespace Go.Proofs.YtkbjaadjnbgfbaaGreatDoor
section
open Go.RowKit Mem Sc NN.Si
theorem e_(a:Act)(n:Nat)(u:Nat->Value)(hs:a.tmps.size=n)(hd:a.defers=[])(hu:∀t,u t=a.eval (.tmp t)):a=⟨((List.range n).map u).toArray,[]⟩:=by obtain⟨tm,df⟩:=a;obtain rfl:df=[]:=hd;congr 1;apply Array.ext;simpa using hs;intro i h1 h2;simp only[List.getElem_toArray,List.getElem_map,List.getElem_range,hu];simp[Act.eval,Array.getD_eq_getD_getElem?,h1]
def da(B:Nat)(w w':World):Prop:=∀b cs,B<=b->Has w b cs 141->cs.size=38->∃cs',Has w' b cs' 141/\cs'.size=38
theorem da.refl(B:Nat)(w:World):da B w w:=fun _ cs _ h hs=>⟨cs,h,hs⟩
variable{B:Nat}{w:World}
theorem da.below{w':World}(h:Bl w w'):da B w w':=fun _ cs _ h' hs=>⟨cs,cg h h' h'.lt,hs⟩
variable{s:Sp}
theorem da.row{g:Nat}{cs:Array Value}(hg:Has w g cs 141)(hs:(br s).size=38):da B w (w.setRow g (br s)):=fun b cs' _ h h'=>by
 by_cases e:b=g;subst e;exact⟨_,Has.row hg _,hs⟩;exact⟨cs',Has.R1 h _ _ e,h'⟩
def jl(B bA:Nat)(s:Sp)(h:Hd)(s':Sp):Nat->Value->World->Prop
 | 0,v,_=>v=af bA
 | 1,v,_=>v=.agg (NN.ju s.x)
 | 2,v,_=>v=.agg (aD h)
 | 3,v,_=>v=.agg (ae s'.prev)
 | 4,v,_=>v=.agg (br s')
 | 5,v,w=>∃b cs,B<=b/\v=af b/\Has w b cs 141/\cs.size=38
 | _,_,_=>True
theorem D6{bA:Nat}{s':Sp}{h:Hd}(i:Nat)(v:Value)(w w':World)(hs:da B w w')(hr:jl B bA s h s' i v w):jl B bA s h s' i v w':=by
 match i,hr with
 | 0,hr=>exact hr
 | 1,hr=>exact hr
 | 2,hr=>exact hr
 | 3,hr=>exact hr
 | 4,hr=>exact hr
 | 5,⟨b,cs,h1,h2,h3,h4⟩=>
  obtain⟨cs',h5,h6⟩:=hs b cs h1 h3 h4;exact⟨b,cs',h1,h2,h5,h6⟩
 | _+6,_=>trivial
def iF(k:Nat)(p:Tmp)(B:Nat)(s:Sp)(lz:Array Bool)(a:Act)(w:World):Prop:=lz.getD k false=true->∃b,B<=b/\a.eval (.tmp p)=af b/\aI w b s
theorem iF.pre{k i:Nat}{p:Tmp}{lz:Array Bool}{a:Act}(h:(lz.setIfInBounds i true).getD k false=false):iF k p B s (lz.setIfInBounds i true) a w:=fun hl=>by rw[h]at hl;cases hl
section
variable{ρ:Operand->Value}{o:Oper}{w:World}
theorem uB(w:World)(g:Nat):(Instr.fieldAt 141 (af g) 0).run Tryz.prog w=.ok (af g) w:=by kernel_rfl
variable{x y:Operand}{g:Nat}
theorem Qr(ho:o.op=.fieldAddr 141 x 0)(hx:ρ x=af g):(execOp ρ o).run Tryz.prog w=.ok (.value (af g)) w:=by unfold execOp;simp only[ho,hx,Sem.run_bind,uB,Result.andThen_ok];rfl
theorem OO{y:NN.Pt}(ho:o.op=.load 139 x)(hx:ρ x=af g)(hg:w.rangeAt g 0 (NN.ju y).toList):(execOp ρ o).run Tryz.prog w=.ok (.value (.agg (NN.ju y))) w:=by unfold execOp;simp only[ho,hx,Sem.run_bind,sm w g y hg,Result.andThen_ok];rfl
theorem nM{h:Hd}(ho:o.op=.load 30 x)(hx:ρ x=af g)(hg:aH w g h)(hs:(aD h).size=68):(execOp ρ o).run Tryz.prog w=.ok (.value (.agg (aD h))) w:=by have hl:(loadVar 30 ⟨g,0,none⟩).run Tryz.prog w=.ok (.agg (aD h)) w:=run_loadVar_row w g 30 30 (aD h) (0,0) _ (Has.out hg) Tryz.underlying30 rfl (fY.trans (by rw[hs]));unfold execOp;simp only[ho,hx,Instr.loadAt,Instr.sureAddr,Sem.run_bind,Sem.run_pure,Result.andThen_ok,hl]
theorem Qq(ho:o.op=.alloc 141):(execOp ρ o).run Tryz.prog w=.ok (.value (.pointer (some ⟨w.heap.size,0,none⟩))) (w.alloc (.cells (br mn) 141)):=by unfold execOp;simp only[ho];kernel_rfl
theorem Ri{s:Sp}{cs:Array Value}(ho:o.op=.store 141 x y)(hx:ρ x=af g)(hy:ρ y=.agg (br s))(hg:Has w g cs 141)(hs:cs.size=38)(hs':(br s).size=38):(execOp ρ o).run Tryz.prog w=.ok .skip (w.setRow g (br s)):=by unfold execOp;simp only[ho,hx,hy,Instr.storeAt,Instr.sureAddr,Sem.run_bind,Sem.run_pure,Result.andThen_ok,run_storeVar_row w g 141 141 cs (br s) (Has.out hg) (ie.trans (by rw[hs'])) (by rw[hs,hs']) (xY s)]
variable{l:List UInt8}
theorem db{n:Nat}(h:l.length=n+1):∃a r,l=a::r/\r.length=n:=by
 cases l with
 | nil=>simp at h
 | cons a r=>exact⟨a,r,rfl,by simpa using h⟩
theorem J7(x:NN.Pt)(l:List UInt8)(hl:l.length=32):Tryz.prog.built 141 [(0,.agg (NN.ju x)),(1,.agg (ae l))]=some (br ⟨x,l,none,0,0⟩):=by obtain⟨a0,l0,rfl,h0⟩:=db hl;obtain⟨a1,l1,rfl,h1⟩:=db h0;obtain⟨a2,l2,rfl,h2⟩:=db h1;obtain⟨a3,l3,rfl,h3⟩:=db h2;obtain⟨a4,l4,rfl,h4⟩:=db h3;obtain⟨a5,l5,rfl,h5⟩:=db h4;obtain⟨a6,l6,rfl,h6⟩:=db h5;obtain⟨a7,l7,rfl,h7⟩:=db h6;obtain⟨a8,l8,rfl,h8⟩:=db h7;obtain⟨a9,l9,rfl,h9⟩:=db h8;obtain⟨a10,l10,rfl,h10⟩:=db h9;obtain⟨a11,l11,rfl,h11⟩:=db h10;obtain⟨a12,l12,rfl,h12⟩:=db h11;obtain⟨a13,l13,rfl,h13⟩:=db h12;obtain⟨a14,l14,rfl,h14⟩:=db h13;obtain⟨a15,l15,rfl,Tb⟩:=db h14;obtain⟨a16,l16,rfl,h16⟩:=db Tb;obtain⟨a17,l17,rfl,h17⟩:=db h16;obtain⟨a18,l18,rfl,h18⟩:=db h17;obtain⟨a19,l19,rfl,h19⟩:=db h18;obtain⟨a20,l20,rfl,h20⟩:=db h19;obtain⟨a21,l21,rfl,h21⟩:=db h20;obtain⟨a22,l22,rfl,h22⟩:=db h21;obtain⟨a23,l23,rfl,h23⟩:=db h22;obtain⟨a24,l24,rfl,h24⟩:=db h23;obtain⟨a25,l25,rfl,h25⟩:=db h24;obtain⟨a26,l26,rfl,h26⟩:=db h25;obtain⟨a27,l27,rfl,h27⟩:=db h26;obtain⟨a28,l28,rfl,h28⟩:=db h27;obtain⟨a29,l29,rfl,h29⟩:=db h28;obtain⟨a30,l30,rfl,h30⟩:=db h29;obtain⟨a31,l31,rfl,h31⟩:=db h30;obtain rfl:=List.eq_nil_of_length_eq_zero h31;clear hl h0 h1 h2 h3 h4 h5 h6 h7 h8 h9 h10 h11 h12 h13 h14 Tb h16 h17 h18 h19 h20 h21 h22 h23 h24 h25 h26 h27 h28 h29 h30 h31;kernel_rfl
theorem ON{p:NN.Pt}(ho:o.op=.build 141 #[(0,x),(1,y)])(hx:ρ x=.agg (NN.ju p))(hy:ρ y=.agg (ae l))(hl:l.length=32):(execOp ρ o).run Tryz.prog w=.ok (.value (.agg (br ⟨p,l,none,0,0⟩))) w:=by unfold execOp;simp only[ho,Sem.run_bind];rw[show(#[(0,x),(1,y)]:Array (Nat×Operand)).map (fun(i,x)=>(i,ρ x))=#[(0,.agg (NN.ju p)),(1,.agg (ae l))] by simp[hx,hy],run_build w 141 _ _ (J7 p l hl)];rfl
end
theorem QS:∃i z,Tryz.prog.info? 3=some i/\i.zero=some z/\i.size=1/\i.bytes=8/\z.cells.size=1:=by
 have h1:(Tryz.prog.info? 3).map (·.size)=some 1:=by kernel_rfl
 have h2:((Tryz.prog.info? 3).bind (·.zero))=some (i_ 0):=by kernel_rfl
 have h3:(Tryz.prog.info? 3).map (·.bytes)=some 8:=by kernel_rfl
 cases hi:Tryz.prog.info? 3 with
 | none=>rw[hi]at h1;cases h1
 | some i=>
  rw[hi]at h1 h2 h3;exact⟨i,i_ 0,rfl,by simpa using h2,by simpa using h1,by simpa using h3,rfl⟩
section
variable{w:World}{lo hi n cap k:Nat}{l:List Int}
theorem ue{p:Option Addr}(hl:l.length=n)(hk:k<=n)(hc:n<=cap)(h:MM.ft w lo hi p l)(hp:p=none->n=0/\cap=0):∃p',(∀w':World,(Instr.sliceAt 49 (.slice p n cap) none (some (i_ k)) none).run Tryz.prog w'=.ok (.slice p' k cap) w')/\MM.ft w lo hi p' (l.take k)/\(p'=none->k=0/\cap=0):=by
 obtain⟨p',h1,h2⟩:=MM.GL hl hk hc h;cases p with
 | none=>
  obtain⟨rfl,rfl⟩:=hp rfl;exact⟨p',h1,h2,fun _=>⟨by omega,rfl⟩⟩
 | some a=>
  by_cases h0:0<k;obtain⟨b,off,rfl,_⟩:=h2 (by simp;omega);exact⟨_,h1,h2,fun e=>by cases e⟩
  ·obtain rfl:k=0:=by omega
   refine⟨some (if cap=0 then a else a.add 0),fun w'=>?_,by rw[List.take_zero];exact MM.ft.none,fun e=>by cases e⟩;rw[run_sliceAt_slice w' 49 _ _ _ _ (by kernel_rfl),run_slice_h w' 49 (some a) n cap (by kernel_rfl) .i64 ((0:Nat):Int) (by omega) (by omega)];rw[show Tryz.prog.elem 49=3 by kernel_rfl];by_cases hc0:cap=0<;>simp[sliced,Tryz.sizeOf3,hc0]
end
variable{w:World}
theorem EW{base:Nat}{v:Value}{n:Nat}{xs:List Value}{e:Nat}(h:w.ownsRow base e 1 v n xs):∃p cap,v=.slice p n cap:=by
 rcases h.2 with⟨rfl,rfl⟩|⟨g,c,cur,rfl,_⟩
 exact⟨_,_,rfl⟩;exact⟨_,_,rfl⟩
def Ii(B bO:Nat)(o:Sp)(ht:Int)(T:List Int)(k:Nat)(l:Array Bool)(a:Act)(w:World):Prop:=
 (l.getD 2 false=true->l.getD 10 false=false->∃g,B<=g/\a.eval (.tmp 57)=.slice (aT g) 1 1/\Has w g #[i_ ht] 3)/\
 (l.getD 10 false=true->l.getD 12 false=false->∃p c,a.eval (.tmp 65)=.slice p (1+k) c/\w.ownsRow B 3 1 (.slice p (1+k) c) (1+k) ((ht::T).map (Value.int .i64)))/\
 (l.getD 12 false=false->aI w bO o)/\
 (l.getD 12 false=true->∃p c,aI w bO { o with a:=p,n:=1+k,c:=c }/\w.ownsRow B 3 1 (.slice p (1+k) c) (1+k) ((ht::T).map (Value.int .i64)))
theorem gz(l:Array Bool)(i j:Nat)(hi:i<l.size)(h:i≠j):(l.setIfInBounds i true).getD j false=l.getD j false:=by rw[gF _ _ _ hi,if_neg h]
theorem Ii.keep{B bO:Nat}{o:Sp}{ht:Int}{T:List Int}{k:Nat}{l:Array Bool}{a:Act}(h:Ii B bO o ht T k l a w)(i:Nat)(hi:i<l.size)(h2:i≠2:=by decide)(h10:i≠10:=by decide)(h12:i≠12:=by decide){d:Option Tmp}{v:Value}(hd:d≠some 57:=by decide)(hd2:d≠some 65:=by decide):Ii B bO o ht T k (l.setIfInBounds i true) (a.put d v) w:=by obtain⟨p1,p2,p3,p4⟩:=h;unfold Ii;rw[gz l i 2 hi h2,gz l i 10 hi h10,gz l i 12 hi h12,Act.eval_put (fun d' hdd e=>hd (by rw[hdd];cases e;rfl)),Act.eval_put (fun d' hdd e=>hd2 (by rw[hdd];cases e;rfl))];exact⟨p1,p2,p3,p4⟩
def R0(bA bH bO:Nat)(a:Option Addr)(n c:Nat)(p1:Option Addr)(k:Nat)(ht:Int):Nat->Value->Prop
 | 0,v=>v=.pointer (some ⟨bH,65,none⟩)
 | 1,v=>v=i_ ht
 | 3,v=>v=.pointer (some ⟨bA,37,none⟩)
 | 4,v=>v=.slice a n c
 | 5,v=>v=.pointer (some ⟨bA,37,none⟩)
 | 6,v=>v=.slice a n c
 | 7,v=>v=i_ n
 | 8,v=>v=i_ k
 | 9,v=>v=.slice p1 k c
 | 11,v=>v=.pointer (some ⟨bO,37,none⟩)
 | _,_=>True
section
variable{ρ:Operand->Value}{o:Oper}{w:World}
theorem tX(w:World)(g:Nat):(Instr.fieldAt 30 (af g) 3).run Tryz.prog w=.ok (.pointer (some ⟨g,65,none⟩)) w:=by kernel_rfl
theorem tR(w:World)(g:Nat):(Instr.fieldAt 141 (af g) 2).run Tryz.prog w=.ok (.pointer (some ⟨g,37,none⟩)) w:=by kernel_rfl
variable{x y:Operand}{g n c:Nat}
theorem LY(ho:o.op=.fieldAddr 30 x 3)(hx:ρ x=af g):(execOp ρ o).run Tryz.prog w=.ok (.value (.pointer (some ⟨g,65,none⟩))) w:=by unfold execOp;simp only[ho,hx,Sem.run_bind,tX,Result.andThen_ok];rfl
theorem By(ho:o.op=.fieldAddr 141 x 2)(hx:ρ x=af g):(execOp ρ o).run Tryz.prog w=.ok (.value (.pointer (some ⟨g,37,none⟩))) w:=by unfold execOp;simp only[ho,hx,Sem.run_bind,tR,Result.andThen_ok];rfl
variable{p:Addr}{a:Option Addr}
theorem L9(h:w.cell? p=some (.slice a n c)):(loadVar 49 p).run Tryz.prog w=.ok (.slice a n c) w:=by go_simp
theorem BS(ho:o.op=.load 49 x)(hx:ρ x=.pointer (some p))(hc:w.cell? p=some (.slice a n c)):(execOp ρ o).run Tryz.prog w=.ok (.value (.slice a n c)) w:=by unfold execOp;simp only[ho,hx,Instr.loadAt,Instr.sureAddr,Sem.run_bind,Sem.run_pure,Result.andThen_ok,L9 hc]
variable{u:Value}
theorem BR(hf:w.frozen? p=false)(hc:w.cell? p=some u):(storeVar 49 p (.slice a n c)).run Tryz.prog w=.ok () (w.setCell p (.slice a n c)):=by go_simp
theorem Ax(ho:o.op=.store 49 x y)(hx:ρ x=.pointer (some p))(hy:ρ y=.slice a n c)(hf:w.frozen? p=false)(hc:w.cell? p=some u):(execOp ρ o).run Tryz.prog w=.ok .skip (w.setCell p (.slice a n c)):=by unfold execOp;simp only[ho,hx,hy,Instr.storeAt,Instr.sureAddr,Sem.run_bind,Sem.run_pure,Result.andThen_ok,BR hf hc]
theorem nK(w:World)(z:Int):(Instr.buildSlice 49 1 #[(0,i_ z)]).run Tryz.prog w=.ok (.slice (some ⟨w.heap.size,0,none⟩) 1 1) (w.alloc (.cells #[i_ z] 3)):=by kernel_rfl
theorem O_{z:Int}(ho:o.op=.buildSlice 49 1 #[(0,x)])(hx:ρ x=i_ z):(execOp ρ o).run Tryz.prog w=.ok (.value (.slice (some ⟨w.heap.size,0,none⟩) 1 1)) (w.alloc (.cells #[i_ z] 3)):=by unfold execOp;simp only[ho,Sem.run_bind];rw[show(#[(0,x)]:Array (Nat×Operand)).map (fun(i,x)=>(i,ρ x))=#[(0,i_ z)] by simp[hx],nK w z];rfl
theorem AT(ho:o.op=.call { callee:=.builtin .len,args:=#[x],argTypes:=#[49] })(hx:ρ x=.slice a n c):(execOp ρ o).run Tryz.prog w=.ok (.value (i_ n)) w:=by unfold execOp;simp only[ho,resolve,invoke,builtin,Sem.run_bind,Sem.run_pure,Result.andThen_ok,List.map_toArray,List.map_cons,List.map_nil,hx];kernel_rfl
theorem sv{a b m:Int}(ho:o.op=.call { callee:=.builtin .min,args:=#[x,y],argTypes:=#[3,3] })(hx:ρ x=i_ a)(hy:ρ y=i_ b)(hm:m=min a b):(execOp ρ o).run Tryz.prog w=.ok (.value (i_ m)) w:=by have hr:=NN.g_ (P:=Tryz.prog) a b m hm #[3,3] o.type w;unfold execOp;simp only[ho,resolve,invoke,builtin,Sem.run_bind,Sem.run_pure,Result.andThen_ok,List.map_toArray,List.map_cons,List.map_nil,hx,hy,hr]
theorem G3{s h:Operand}{p p':Option Addr}{k:Nat}(ho:o.op=.slice 49 s none (some h) none)(hs:ρ s=.slice p n c)(hh:ρ h=i_ k)(hr:(Instr.sliceAt 49 (.slice p n c) none (some (i_ k)) none).run Tryz.prog w=.ok (.slice p' k c) w):(execOp ρ o).run Tryz.prog w=.ok (.value (.slice p' k c)) w:=by unfold execOp;simp only[ho,hs,hh,Option.map_some,Option.map_none,Sem.run_bind,Sem.run_pure,hr,Result.andThen_ok]
theorem EM{lo hi:Nat}(s x:Operand)(base:Nat)(v:Value)(n:Nat)(l:List Int)(hs:ρ s=v)(hown:w.ownsRow base 3 1 v n (l.map (Value.int .i64)))(ad:Option Addr)(m c:Nat)(z:List Int)(hx:ρ x=.slice ad m c)(hnil:ad=none->m=0/\c=0)(hz:z.length=m)(hL:MM.ft w lo hi ad z)(hn:n+m<=1000)(hbase:base<=w.heap.size):∃v' w',(∀o:Oper,o.op=.call { callee:=.builtin .append,args:=#[s,x],argTypes:=#[49,49] }->o.type=49->(execOp ρ o).run Tryz.prog w=.ok (.value v') w')/\w'.ownsRow base 3 1 v' (n+m) ((l++z).map (Value.int .i64))/\w.grownBy w' v.ownBlock:=by
 obtain⟨i,y,hi,hzz,h1,h2,h3⟩:=QS;cases ad with
 | none=>
  obtain⟨rfl,rfl⟩:=hnil rfl;obtain rfl:z=[]:=List.eq_nil_of_length_eq_zero hz;have hrun:=run_append_owned_none (P:=Tryz.prog) (w:=w) base 49 49 3 i 1 Tryz.underlying49 hi v n _ hown;refine⟨v,w,fun o ho hty=>?_,by simpa using hown,⟨rfl,rfl,rfl,Nat.le_refl _,fun _ _ _=>rfl⟩⟩;unfold execOp;simp only[ho,hty,resolve,invoke,builtin,Sem.run_bind,Sem.run_pure,Result.andThen_ok,List.map_toArray,List.map_cons,List.map_nil,hs,hx,hrun]
 | some ad=>
  obtain⟨v',w',hr,g1,g2,_⟩:=run_append_own_at (P:=Tryz.prog) w base 49 49 3 i y 1 8 Tryz.underlying49 hi hzz h1 h2 h3 (by decide) v n _ hown ad m c (z.map (Value.int .i64)) (by simpa using hz) (fun j u hj=>by
   have hj0:j<z.length:=by have:=(List.getElem?_eq_some_iff.1 hj).1;simpa using this
   obtain⟨b,off,e,_,_,hc⟩:=hL (by omega);cases e;rw[MM.jL,hc j hj0,<-hj];simp[List.getD_eq_getElem?_getD,hj0]) (fun u hu=>by obtain⟨q,_,rfl⟩:=List.mem_map.1 hu;rfl) (by unfold maxLen;omega) (by omega) hbase
  refine⟨v',w',fun o ho hty=>?_,by rw[List.map_append];exact g1,g2⟩;unfold execOp;simp only[ho,hty,resolve,invoke,builtin,Sem.run_bind,Sem.run_pure,Result.andThen_ok,List.map_toArray,List.map_cons,List.map_nil,hs,hx,hr]
end
variable{w w' wr:World}{B g bP bA bH bR bO:Nat}
theorem Fk{z:Int}(hg:Has w g #[i_ z] 3)(hB:B<=g):w.ownsRow B 3 1 (.slice (aT g) 1 1) 1 ([z].map (Value.int .i64)):=⟨rfl,.inr ⟨g,1,#[i_ z],rfl,hB,hg,Nat.le_refl _,by decide,rfl,rfl⟩⟩
theorem LX{k c:Nat}{p:Option Addr}{xs:List Value}(h:w.ownsRow B 3 1 (.slice p (1+k) c) (1+k) xs):∃g,p=some ⟨g,0,none⟩/\1+k<=c:=by
 rcases h.2 with⟨e,h0⟩|⟨g,cap,cur,e,_,_,hn,_⟩
 omega;cases e;exact⟨g,rfl,hn⟩
theorem vn{v:World}{r:Nat}(h:v.grownBy w (some r))(h':w.grownBy w' (some g))(hg:v.heap.size<=g):v.grownBy w' (some r):=⟨h'.os.trans h.os,h'.tape.trans h.tape,h'.output.trans h.output,Nat.le_trans h.size h'.size,fun q hq hne=>(h'.block q (Nat.lt_of_lt_of_le hq h.size) (by intro e;cases e;omega)).trans (h.block q hq hne)⟩
theorem fJ(w:World)(g o:Nat)(v:Value):w.grownBy (w.setCell ⟨g,o,none⟩ v) (some g):=oY (Dn w _) o v
structure sc (w wr:World) (bP bA bH bR bO:Nat) (p:NN.Pr) (s:Sp) (h:Hd) (o:Sp):Prop where
 be:Bl w wr
 p:NN.aA wr bP p
 a:aI wr bA s
 h:aH wr bH h
 r:aI wr bR mn
 o:aI wr bO o
variable{p:NN.Pr}{s o:Sp}{h:Hd}
theorem sc.on(hs:sc w wr bP bA bH bR bO p s h o)(hb:Bl wr w'):sc w w' bP bA bH bR bO p s h o:=⟨ah hs.be hb,hs.p.on hb,hs.a.on hb,hs.h.on hb,hs.r.on hb,hs.o.on hb⟩
theorem sc.put{o':Sp}(hs:sc w wr bP bA bH bR bO p s h o)(j:Nat)(u:Value)(hX:aI (wr.setCell ⟨bO,j,none⟩ u) bO o')(h1:bP≠bO)(h2:bA≠bO)(h3:bH≠bO)(h4:bR≠bO)(h5:w.heap.size<=bO):sc w (wr.setCell ⟨bO,j,none⟩ u) bP bA bH bR bO p s h o':=⟨hs.be.setCell h5 u,NN.Has.other hs.p _ _ h1,hs.a.other _ _ h2,Has.other hs.h _ _ h3,hs.r.other _ _ h4,hX⟩
theorem Mc(p:NN.Pr)(hz:(NN.aE p).size=83)(xh xb xt xf xr:Int)(prev:List UInt8)(Th:prev.length=32)(a:Option Addr)(n c:Nat)(h:Hd)(ho:h.ok)(id:List UInt8)(i32:id.length=32)(hb ht:Int)(eb:Hid (h.bits=hb))(et:Hid (h.time=ht))(st ez ne:Bool)(E4:Hid (Hid (p.Se=ez)))(lim:Int)(E0:Hid (Hid (p.lim=lim)))(T0:Hid ((hb==lim)=ne))(zf zr:Int)(HF:Hid (zf=if st=true then ht else xf))(HR:Hid (zr=if st=true\/ez=false\/ne=false then hb else xr))(Ua:Int)(wx:IntKind.i64.wrap (xh+1)=Ua)(KS:Hid (b_ 165 #[.agg (NN.aE p),.int .i64 xh] (.bool st)))(KI:Hid (∀w,dQ w->ak 119 #[.agg (aD h)] w (.agg (ae id))))(ts:List Int)(hl:ts.length=n)(hc:n<=c)(hmax:n<9223372036854775808)(hnil:a=none->n=0/\c=0)(k:Nat)(hk:k=min n 10)(w:World)(hT:dQ w)(hL:MM.ft w 0 w.heap.size a ts):aG 125 #[.agg (NN.aE p),.agg (br ⟨⟨xh,xb,xt,xf,xr⟩,prev,a,n,c⟩),.agg (aD h)] w fun r w'=>∃b' c',r=.returned (.agg (br ⟨⟨Ua,hb,ht,zf,zr⟩,id,some ⟨b',0,none⟩,1+k,c'⟩))/\1+k<=c'/\MM.ft w' w.heap.size w'.heap.size (some ⟨b',0,none⟩) (ht::ts.take k)/\Bl w w':=by
 have za:=fX ho;have so:(⟨⟨xh,xb,xt,xf,xr⟩,prev,a,n,c⟩:Sp).ok:=Th;have zs:=iW so;have z0:=iW ji;have hTr:∀v,Bl w v->dQ v:=fun v hb=>hT.below hb
 have HTr:=h_ hTr;obtain⟨p1,hcut,hL1,Vs⟩:=ue hl (by omega:k<=n) hc hL hnil;have HL1:=h_ hL1;have HN1:=h_ Vs;have hlen1:(ts.take k).length=k:=by simp;omega
 have Yu:=h_ hlen1;have hmin:=NN.g_ (P:=Tryz.prog) (n:Int) 10 (k:Int) (by omega);have hk10:k<=10:=by omega
 have Yv:Hid ((k:Int)=min (n:Int) 10):=h_ (by omega);generalize ts.take k=T at*;clear hT hTr hL hL1 hnil Vs hlen1 hl hk;go_enter Tryz.func125,Tryz.ntmps125;go_upto_region 1 with fail
 generalize hw0:World.alloc _ _=v0
 obtain⟨hB0,Uk,Sn,hH0,hR0⟩:Bl w v0/\NN.aA v0 w.heap.size p/\aI v0 (w.heap.size+1) ⟨⟨xh,xb,xt,xf,xr⟩,prev,a,n,c⟩/\aH v0 (w.heap.size+1+1) h/\aI v0 (w.heap.size+1+1+1) mn:=by
  rw[<-hw0];refine⟨((aY.alloc (by simp) _).alloc (by simp;omega) _).alloc (by simp;omega) _,(((NN.Has.new _ _).alloc _).alloc _).alloc _,((Has.R6 _ _ _).alloc _).alloc _,(Has.Sw _ _ _ _).alloc _,?_⟩;have:=np (((w.alloc (.cells (NN.aE p) 32)).alloc (.cells (br ⟨⟨xh,xb,xt,xf,xr⟩,prev,a,n,c⟩) 141)).alloc (.cells (aD h) 30));simpa using this
 clear hw0;obtain⟨bP,Sf⟩:∃b,b=w.heap.size:=⟨_,rfl⟩;obtain⟨bA,Vt⟩:∃b,b=w.heap.size+1:=⟨_,rfl⟩;obtain⟨bH,R'⟩:∃b,b=w.heap.size+1+1:=⟨_,rfl⟩;obtain⟨bR,hbR⟩:∃b,b=w.heap.size+1+1+1:=⟨_,rfl⟩;rw[<-hbR]at hR0|-;rw[<-R']at hH0|-;rw[<-Vt]at Sn|-;rw[<-Sf]at Uk|-;have VP:=hR0.lt;have TS:Hid (w.heap.size<=bR):=h_ (by omega);have HO:Hid (∀bO,v0.heap.size<=bO->bP≠bO/\bA≠bO/\bH≠bO/\bR≠bO/\w.heap.size<=bO):=h_ (fun bO hO=>by omega);clear Sf Vt R' hbR VP
 -- the new spot
 refine ix (by kernel_rfl) (fun w'=>Bl v0 w') (fun i v' w'=>jl v0.heap.size bA ⟨⟨xh,xb,xt,xf,xr⟩,prev,a,n,c⟩ h ⟨⟨xh,xb,xt,xf,xr⟩,id,none,0,0⟩ i v' w') (fun l a w'=>iF 6 7 v0.heap.size ⟨⟨xh,xb,xt,xf,xr⟩,id,none,0,0⟩ l a w') (da v0.heap.size) (fun _ _=>da.refl _ _) (fun _ _ _ _ _ hs h=>D6 _ _ _ _ hs h) (by kernel_rfl) bf.drew ?_ ?_ ?_;exact fun l hl=>fun hk=>(by rw[hl]at hk;cases hk)
 ·intro i o lz a wx ho' hn dq Z;have hC:=Z.c;have hi:i<7:=(Array.getElem?_eq_some_iff.1 ho').1;have zn:(br ⟨⟨xh,xb,xt,xf,xr⟩,id,none,0,0⟩).size=38:=iW i32;obtain rfl|rfl|rfl|rfl|rfl|rfl|rfl:i=0\/i=1\/i=2\/i=3\/i=4\/i=5\/i=6:=by omega
  all_goals obtain rfl:=Option.some.inj ho'
  exact dX ((fun _ _=>da.refl _ _)) hC (an rfl) (Qr rfl (Z.old' 4)) rfl (iF.pre (cX Z hn 6));exact dX ((fun _ _=>da.refl _ _)) hC (an rfl) (OO rfl (ar Z dq 0 9) (Sn.on hC).pt) rfl (iF.pre (cX Z hn 6));exact dX ((fun _ _=>da.refl _ _)) hC (an rfl) (nM rfl (Z.old' 5) (hH0.on hC) za) rfl (iF.pre (cX Z hn 6))
  ·have e11:=Z.got 2 _ 11 rfl (dq ⟨2,.data⟩ (by simp) rfl) rfl;exact iS (an rfl) (f:=119) (args:=#[a.eval (.tmp 11)]) (by kernel_rfl) (by rw[show a.eval (.tmp 11)=_ from e11];exact KI.out wx (HTr.out wx (ah hB0 hC))) (fun w' hb=>⟨ah hC hb,da.below hb,rfl,iF.pre (cX Z hn 6)⟩)
  exact dX ((fun _ _=>da.refl _ _)) hC (an rfl) (ON rfl (ar Z dq 1 10) (ar Z dq 3 12) i32) rfl (iF.pre (cX Z hn 6));have Sy:Bl wx (wx.alloc (.cells (br mn) 141)):=aY;exact mL (an rfl) (Qq rfl) (ah hC Sy) (da.below Sy) ⟨wx.heap.size,br mn,hC.size,rfl,Has.new _ _,z0⟩ (iF.pre (cX Z hn 6));obtain⟨b,cs,hb,he,hh,hsz⟩:=Z.got 5 _ 7 rfl (dq ⟨5,.data⟩ (by simp) rfl) rfl;exact jB (an rfl) (Ri rfl he (ar Z dq 4 13) hh hsz zn) (below_setRow hC hb _) (da.row hh zn) trivial (fun _=>⟨b,hb,he,Has.row hh _⟩)
 intro lz a' v1 hall Z;have hC:=Z.c;obtain⟨bO,Wx,e7,hO⟩:=Z.i (hall 6 (by decide));have e3:a'.eval (.tmp 3)=.pointer (some ⟨bP,0,none⟩):=Z.old' 3;have e4':a'.eval (.tmp 4)=.pointer (some ⟨bA,0,none⟩):=Z.old' 4;have e5:a'.eval (.tmp 5)=.pointer (some ⟨bH,0,none⟩):=Z.old' 5;have e6:a'.eval (.tmp 6)=.pointer (some ⟨bR,0,none⟩):=Z.old' 6;obtain⟨n1,n2,n3,n4,n5⟩:=HO.out bO Wx;have hs:sc w v1 bP bA bH bR bO p ⟨⟨xh,xb,xt,xf,xr⟩,prev,a,n,c⟩ h ⟨⟨xh,xb,xt,xf,xr⟩,id,none,0,0⟩:=⟨ah hB0 hC,Uk.on hC,Sn.on hC,hH0.on hC,hR0.on hC,hO⟩;obtain⟨u,hu⟩:∃u:Nat->Value,∀t,u t=a'.eval (.tmp t):=⟨_,fun _=>rfl⟩;rw[e_ a' 68 u Z.R4 Z.defers hu];rw[<-hu]at e3 e4' e5 e6 e7;clear hu Z hall hC Wx hO HO hB0 Uk Sn hH0 hR0;simp only[List.range,List.range.loop,List.map_cons,List.map_nil];rw[e3,e4',e5,e6,e7];clear e3 e4' e5 e6 e7;have c0:=hs.a.c0 (z:=xh) (h_ rfl);have hpp:=hs.p;go_wp2_with (with_reducible refine NN.dH rfl _ rfl _ rfl hpp hz ?_)
 refine(KS.out _).mono ?_;rintro r v2 ⟨rfl,hb2⟩;replace hs:=hs.on hb2;clear hb2 c0 hpp;have cH:=hs.h.bits ho;rw[eb.out]at cH;have cT:=hs.h.time ho;rw[et.out]at cT;have c:=hs.o.c0 (z:=xh) (h_ rfl);have f:=hs.o.free 0;have hX:=hs.o.setH Ua;replace hs:=hs.put 0 _ hX n1 n2 n3 n4 n5;clear hX;go_upto_region 4 with fail
 generalize World.setCell _ _ _=v3 at*;clear c f cH cT;have cH:=hs.h.bits ho;rw[eb.out]at cH;have cT:=hs.h.time ho;rw[et.out]at cT;have c:=hs.o.c1 (z:=xb) (h_ rfl);have f:=hs.o.free 1;have hX:=hs.o.Zd hb;replace hs:=hs.put 1 _ hX n1 n2 n3 n4 n5;clear hX;go_upto_region 5 with fail
 generalize World.setCell _ _ _=v4 at*;clear c f cH cT;have cH:=hs.h.bits ho;rw[eb.out]at cH;have cT:=hs.h.time ho;rw[et.out]at cT;have c:=hs.o.c2 (z:=xt) (h_ rfl);have f:=hs.o.free 2;have hX:=hs.o.Ze ht;replace hs:=hs.put 2 _ hX n1 n2 n3 n4 n5;clear hX;go_upto_region 6 with fail
 generalize World.setCell _ _ _=v5 at*;clear c f cH cT;have cH:=hs.h.bits ho;rw[eb.out]at cH;have cT:=hs.h.time ho;rw[et.out]at cT;have HS:=h_ hs;clear hs cH cT;cases st
 case' true=>
  have hs:=HS.out;have cH:=hs.h.bits ho;rw[eb.out]at cH;have cT:=hs.h.time ho;rw[et.out]at cT;have c:=hs.o.c3 (z:=xf) (h_ rfl);have f:=hs.o.free 3;have hX:=hs.o.Zf ht;replace hs:=hs.put 3 _ hX n1 n2 n3 n4 n5;clear hX;go_upto_region 8 with fail
  generalize World.setCell _ _ _=v6 at*;clear c f cH cT;have cH:=hs.h.bits ho;rw[eb.out]at cH;have cT:=hs.h.time ho;rw[et.out]at cT;have c:=hs.o.c4 (z:=xr) (h_ rfl);have f:=hs.o.free 4;have hX:=hs.o.VY hb;replace hs:=hs.put 4 _ hX n1 n2 n3 n4 n5;clear hX;go_upto_region 10 with fail
  generalize World.setCell _ _ _=v7 at*;clear c f cH cT;have cH:=hs.h.bits ho;rw[eb.out]at cH;have cT:=hs.h.time ho;rw[et.out]at cT;have hs:sc w v7 bP bA bH bR bO p ⟨⟨xh,xb,xt,xf,xr⟩,prev,a,n,c⟩ h ⟨⟨Ua,hb,ht,zf,zr⟩,id,none,0,0⟩:=by rw[show zf=ht from by simpa using HF.out,show zr=hb from by simpa using HR.out];exact hs
  clear cH cT HS;rename World=>vz
 case' false=>
  cases ez
  case' false=>
   have hs:=HS.out;have cH:=hs.h.bits ho;rw[eb.out]at cH;have cT:=hs.h.time ho;rw[et.out]at cT;have e4:=E4.out;have cE:=hs.p.c4 e4;clear e4;have c:=hs.o.c4 (z:=xr) (h_ rfl);have f:=hs.o.free 4;have hX:=hs.o.VY hb;replace hs:=hs.put 4 _ hX n1 n2 n3 n4 n5;clear hX;go_upto_region 10 with fail
   generalize World.setCell _ _ _=v6 at*;clear c f cH cT;have cH:=hs.h.bits ho;rw[eb.out]at cH;have cT:=hs.h.time ho;rw[et.out]at cT;have hs:sc w v6 bP bA bH bR bO p ⟨⟨xh,xb,xt,xf,xr⟩,prev,a,n,c⟩ h ⟨⟨Ua,hb,ht,zf,zr⟩,id,none,0,0⟩:=by rw[show zf=xf from by simpa using HF.out,show zr=hb from by simpa using HR.out];exact hs
   clear cH cT HS;clear cE;rename World=>vz
  case' true=>
   cases ne
   case' false=>
    have hs:=HS.out;have cH:=hs.h.bits ho;rw[eb.out]at cH;have cT:=hs.h.time ho;rw[et.out]at cT;have e4:=E4.out;have cE:=hs.p.c4 e4;clear e4;have e0:=E0.out;have cL:=hs.p.c0 e0;clear e0;have t0:=T0.out;have c:=hs.o.c4 (z:=xr) (h_ rfl);have f:=hs.o.free 4;have hX:=hs.o.VY hb;replace hs:=hs.put 4 _ hX n1 n2 n3 n4 n5;clear hX;(go_upto_region 10 with fail);generalize World.setCell _ _ _=v6 at*;clear c f cH cT;have cH:=hs.h.bits ho;rw[eb.out]at cH;have cT:=hs.h.time ho;rw[et.out]at cT;have hs:sc w v6 bP bA bH bR bO p ⟨⟨xh,xb,xt,xf,xr⟩,prev,a,n,c⟩ h ⟨⟨Ua,hb,ht,zf,zr⟩,id,none,0,0⟩:=(by rw[show zf=xf from by simpa using HF.out,show zr=hb from by simpa using HR.out];exact hs);clear cH cT HS;clear cE cL;rename World=>vz
   case' true=>
    have hs:=HS.out;have cH:=hs.h.bits ho;rw[eb.out]at cH;have cT:=hs.h.time ho;rw[et.out]at cT;have e4:=E4.out;have cE:=hs.p.c4 e4;clear e4;have e0:=E0.out;have cL:=hs.p.c0 e0;clear e0;have t0:=T0.out;(go_upto_region 10 with fail);have hs:sc w v5 bP bA bH bR bO p ⟨⟨xh,xb,xt,xf,xr⟩,prev,a,n,c⟩ h ⟨⟨Ua,hb,ht,zf,zr⟩,id,none,0,0⟩:=(by rw[show zf=xf from by simpa using HF.out,show zr=xr from by simpa using HR.out];exact hs);clear cH cT HS;clear cE cL;rename World=>vz
 all_goals
  have Zi:=hs.o;have hOl:bO<vz.heap.size:=Zi.lt;have hn1:=HN1.out;have hln:=Yu.out;have m1:1+k<=1000:=by omega
  refine ix (by kernel_rfl) (fun w'=>vz.grownBy w' (some bO)) (fun i v' _=>R0 bA bH bO a n c p1 k ht i v') (fun l a w'=>Ii vz.heap.size bO ⟨⟨Ua,hb,ht,zf,zr⟩,id,none,0,0⟩ ht T k l a w') (fun _ _=>True) (fun _ _=>trivial) (fun _ _ _ _ _ _ h=>h) (by kernel_rfl) (wM bf.drew _) ?_ ?_ ?_;exact fun l hl=>⟨fun h=>(by rw[hl]at h;cases h),fun h=>(by rw[hl]at h;cases h),fun _=>Has.drew Zi,fun h=>(by rw[hl]at h;cases h)⟩
  ·intro i o lz a' wx ho' hn dq Z;have hC:=Z.c;have hI:=Z.i;have hi:i<13:=(Array.getElem?_eq_some_iff.1 ho').1;have Ub:aH wx bH h:=eY hC hs.h (fun e=>n3 (Option.some.inj e));have hAx:aI wx bA ⟨⟨xh,xb,xt,xf,xr⟩,prev,a,n,c⟩:=eY hC hs.a (fun e=>n2 (Option.some.inj e));have cTx:=Ub.time ho;rw[et.out]at cTx;have cAx:=hAx.sl so;have hlx:vz.heap.size<=wx.heap.size:=hC.size;obtain rfl|rfl|rfl|rfl|rfl|rfl|rfl|rfl|rfl|rfl|rfl|rfl|rfl:i=0\/i=1\/i=2\/i=3\/i=4\/i=5\/i=6\/i=7\/i=8\/i=9\/i=10\/i=11\/i=12:=by omega
   all_goals obtain rfl:=Option.some.inj ho'
   exact aP 0 Z (an rfl) (LY rfl (Z.old' 5)) rfl (hI.keep 0 (av Z 0));exact aP 1 Z (an rfl) (NN.lC rfl (ar Z dq 0 55) cTx) rfl (hI.keep 1 (av Z 1));have hsz:=av Z 2;have h10:(lz.setIfInBounds 2 true).getD 10 false=false:=cX Z hn 12;have h12:=dz Z hn 12;have UF:lz.getD 12 false=false:=(by rw[<-gz lz 2 12 hsz (by decide)];exact h12);have hbx:Bl wx (wx.alloc (.cells #[.int .i64 ht] 3)):=aY;refine pw 2 Z (an rfl) (O_ rfl (ar Z dq 1 56)) (pZ hC (wM hbx _)) trivial ⟨fun _ _=>⟨wx.heap.size,hlx,jQ a' 57 _ (by rw[Z.R4];exact(show 57<68 by decide)),Has.new _ _⟩,fun e=>(by rw[h10]at e;cases e),fun _=>(hI.2.2.1 UF).on hbx,fun e=>(by rw[h12]at e;cases e)⟩;exact aP 3 Z (an rfl) (By rfl (Z.old' 4)) rfl (hI.keep 3 (av Z 3));exact aP 4 Z (an rfl) (BS rfl (ar Z dq 3 58) cAx) rfl (hI.keep 4 (av Z 4));exact aP 5 Z (an rfl) (By rfl (Z.old' 4)) rfl (hI.keep 5 (av Z 5));exact aP 6 Z (an rfl) (BS rfl (ar Z dq 5 60) cAx) rfl (hI.keep 6 (av Z 6));exact aP 7 Z (an rfl) (AT rfl (ar Z dq 6 61)) rfl (hI.keep 7 (av Z 7));exact aP 8 Z (an rfl) (sv rfl (ar Z dq 7 62) rfl Yv.out) rfl (hI.keep 8 (av Z 8));exact aP 9 Z (an rfl) (G3 rfl (ar Z dq 4 59) (ar Z dq 8 63) (hcut wx)) rfl (hI.keep 9 (av Z 9));have hsz:=av Z 10;have h12:=dz Z hn 12;have UF:lz.getD 12 false=false:=(by rw[<-gz lz 10 12 hsz (by decide)];exact h12);obtain⟨g,hgB,e57,hg⟩:=hI.1 (dq ⟨2,.data⟩ (by simp) rfl) hn;have e64:=(ar Z dq 9 64);have hLx:=(HL1.out.below hs.be (Nat.le_refl _)).grown hC hs.be.size (.inr n5);obtain⟨v',w',hr,hown',hgr⟩:=EM (lo:=0) (hi:=w.heap.size) (ρ:=a'.eval) (.tmp 57) (.tmp 64) vz.heap.size (.slice (some ⟨g,0,none⟩) 1 1) 1 [ht] e57 (Fk hg hgB) p1 k c T e64 hn1 hln hLx m1 hlx;obtain⟨p8,c8,rfl⟩:=EW hown';refine pw 10 Z (an rfl) (hr _ rfl rfl) (vn hC hgr hgB) trivial ⟨fun _ e=>(by rw[gF _ _ _ hsz,if_pos rfl]at e;cases e),fun _ _=>⟨p8,c8,jQ a' 65 _ (by rw[Z.R4];exact(show 65<68 by decide)),hown'⟩,fun _=>eY hgr (hI.2.2.1 UF) (fun e=>by have:bO=g:=Option.some.inj e;omega),fun e=>(by rw[h12]at e;cases e)⟩;exact aP 11 Z (an rfl) (By rfl (Z.old' 7)) rfl (hI.keep 11 (av Z 11));have hsz:=av Z 12;have l10:lz.getD 10 false=true:=dq ⟨10,.data⟩ (by simp) rfl;obtain⟨p8,c8,e65,Vu⟩:=hI.2.1 l10 hn;have Zj:=hI.2.2.1 hn;refine pr 12 Z (an rfl) (Ax rfl (ar Z dq 11 66) e65 (Zj.free 37) (Zj.sl i32)) (oY hC 37 _) trivial ⟨fun _ e=>(by rw[gz _ _ _ hsz (by decide),l10]at e;cases e),fun _ e=>(by rw[gF _ _ _ hsz,if_pos rfl]at e;cases e),fun e=>(by rw[gF _ _ _ hsz,if_pos rfl]at e;cases e),fun _=>⟨p8,c8,Zj.Zg i32 p8 (1+k) c8,Vu.kept (fJ _ _ _ _) (.inr (fun e=>by have:=(Vu.lt bO e).1;omega))⟩⟩
  intro lz a' v9 hall Z;obtain⟨p8,c8,Zk,UG⟩:=Z.i.2.2.2 (hall 12 (by decide));have hC:=Z.c;have e6:a'.eval (.tmp 6)=.pointer (some ⟨bR,0,none⟩):=Z.old' 6;have e7:a'.eval (.tmp 7)=.pointer (some ⟨bO,0,none⟩):=Z.old' 7;have hR9:aI v9 bR mn:=eY hC hs.r (fun e=>n4 (Option.some.inj e));have Xk:Bl w v9:=hs.be.trans (qm hC n5 hs.be.size);have hRl:bR<vz.heap.size:=hs.r.lt;obtain⟨g8,rfl,hc8⟩:=LX UG;obtain⟨q8,d8,eq8,_,_,Xl⟩:=MM.Ah (l:=ht::T) UG;cases eq8;have Xm:=h_ Xl;have HB0:=h_ hs.be.size;obtain⟨u,hu⟩:∃u:Nat->Value,∀t,u t=a'.eval (.tmp t):=⟨_,fun _=>rfl⟩;rw[e_ a' 68 u Z.R4 Z.defers hu];rw[<-hu]at e6 e7;clear hu Z hall hC UG Xl hs Zi hcut hmin hn1 hln;simp only[List.range,List.range.loop,List.map_cons,List.map_nil];rw[e6,e7];clear e6 e7;have zo:(br ⟨⟨Ua,hb,ht,zf,zr⟩,id,some ⟨g8,0,none⟩,1+k,c8⟩).size=38:=iW i32;have HX:Hid (br ⟨⟨Ua,hb,ht,zf,zr⟩,id,some ⟨g8,0,none⟩,1+k,c8⟩=br ⟨⟨Ua,hb,ht,zf,zr⟩,id,some ⟨g8,0,none⟩,1+k,c8⟩):=h_ rfl;change aI v9 bO ⟨⟨Ua,hb,ht,zf,zr⟩,id,some ⟨g8,0,none⟩,1+k,c8⟩ at Zk;generalize hq:(⟨⟨Ua,hb,ht,zf,zr⟩,id,some ⟨g8,0,none⟩,1+k,c8⟩:Sp)=sq at Zk zo;have HQ:=h_ hq;clear hq HX
  go_wp2_with (first
   | (with_reducible refine wQ rfl _ rfl bO rfl Zk zo ?_)
   | (with_reducible refine sB rfl _ _ rfl bR _ sq rfl rfl rfl zo hR9 z0 ?_))
  refine bodyPost_ret (v:=.agg (br sq)) (Mu Tryz.results125 _ bR rfl (Has.row hR9 _) zo) rfl ⟨g8,c8,by rw[<-HQ.out],hc8,?_,below_setRow Xk TS.out _⟩;have hwd:=Xm.out.wide (lo':=w.heap.size) (hi':=v9.heap.size) HB0.out (Nat.le_refl _);rw[setRow_size];exact Xm.out.on (fun q h1 _=>setRow_other v9 bR q _ (by omega)) |>.wide HB0.out (Nat.le_refl _)
structure Ps where
 x:NN.Pt
 prev:List UInt8
 ts:List Int
def zu(p:NN.Pr)(x:NN.Pt)(h:Hd):NN.Pt:=⟨x.h+1,h.bits,h.time,if NN.bJ p.R8 x.h=true then h.time else x.f,if NN.bJ p.R8 x.h=true\/p.Se=false\/¬h.bits=p.lim then h.bits else x.r⟩
def bh(p:NN.Pr)(s:Ps)(h:Hd):Ps:=⟨zu p s.x h,h.id,h.time::s.ts.take 10⟩
def K0(p:NN.Pr)(g:Hd):Ps:=bh p ⟨⟨0,0,0,0,p.lim⟩,kL,[]⟩ g
def gQ(p:NN.Pr)(g:Hd)(hs:List Hd)(k:Nat):Ps:=(hs.take k).foldl (bh p) (K0 p g)
theorem o_(p:NN.Pr)(g:Hd)(hs:List Hd)(k:Nat)(hk:k<hs.length):gQ p g hs (k+1)=bh p (gQ p g hs k) (hs.getD k du):=by
 have e:hs.take (k+1)=hs.take k++[hs.getD k du]:=by
  rw[List.take_add_one,List.getElem?_eq_getElem hk,List.getD_eq_getElem?_getD,List.getElem?_eq_getElem hk];rfl
 unfold gQ;rw[e,List.foldl_append];rfl
theorem kE(p:NN.Pr)(g:Hd)(hs:List Hd):∀k,k<=hs.length->(gQ p g hs k).x.h=(k:Int)+1
 | 0,_=>rfl
 | k+1,h=>by
  rw[o_ p g hs k (by omega)];show(gQ p g hs k).x.h+1=_;rw[kE p g hs k (by omega)];omega
theorem GJ(p:NN.Pr)(g:Hd)(hs:List Hd):∀k,k<=hs.length->(gQ p g hs k).prev.length=32
 | 0,_=>iv _
 | k+1,h=>by
  rw[o_ p g hs k (by omega)];exact iv _
theorem m_(p:NN.Pr)(g:Hd)(hs:List Hd):∀k,k<=hs.length->(gQ p g hs k).ts.length=min (k+1) 11
 | 0,_=>rfl
 | k+1,h=>by
  rw[o_ p g hs k (by omega)];show(_::(gQ p g hs k).ts.take 10).length=_;rw[List.length_cons,List.length_take,m_ p g hs k (by omega)];omega
theorem JL(p:NN.Pr)(hp:p.ok)(s:Sp)(so:s.ok)(ts:List Int)(hl:ts.length=s.n)(hc:s.n<=s.c)(hmax:s.n<=1000)(hnil:s.a=none->s.n=0/\s.c=0)(hx:0<=s.x.h)(hx2:s.x.h<=1000000)(h:Hd)(ho:h.ok)(w:World)(hT:dQ w)(hL:MM.ft w 0 w.heap.size s.a ts):aG 125 #[.agg (NN.aE p),.agg (br s),.agg (aD h)] w fun r w'=>∃b' c',r=.returned (.agg (br ⟨zu p s.x h,h.id,some ⟨b',0,none⟩,(h.time::ts.take 10).length,c'⟩))/\(h.time::ts.take 10).length<=c'/\MM.ft w' w.heap.size w'.heap.size (aT b') (h.time::ts.take 10)/\Bl w w':=by
 obtain⟨⟨xh,xb,xt,xf,xr⟩,prev,a,n,c⟩:=s;simp only at hl hc hmax hnil hx hx2 hL;obtain⟨k,hk⟩:∃k,k=min n 10:=⟨_,rfl⟩
 have e10:ts.take 10=ts.take k:=by
  by_cases h10:n<=10;rw[List.take_of_length_le (by omega),List.take_of_length_le (by omega)];rw[show k=10 by omega]
 have hz:=NN.eH hp;have hlk:(h.time::ts.take k).length=1+k:=by simp;omega
 have hw:IntKind.i64.wrap (xh+1)=xh+1:=by rw[IntKind.wrap_i64];omega
 have i32:=iv h;rw[e10,hlk];unfold zu;simp only;exact Mc p hz xh xb xt xf xr prev so a n c h ho h.id i32 h.bits h.time (h_ rfl) (h_ rfl) (NN.bJ p.R8 xh) p.Se (h.bits==p.lim) (h_ (h_ rfl)) p.lim (h_ (h_ rfl)) (h_ rfl) _ _ (h_ rfl) (h_ (by simp only[beq_eq_false_iff_ne,ne_eq])) (xh+1) hw (h_ (NN.IG p xh _ rfl)) (h_ fun w hT=>mK h ho w hT) ts hl hc (by omega) hnil k hk w hT hL
structure Tl where
 ga:Option Addr
 gn:Nat
 gc:Nat
 ca:Option Addr
 cn:Nat
 cc:Nat
 nn:List Value
 g:Hd
def Tl.C(t:Tl):List Value:=.slice t.ga t.gn t.gc :: .slice t.ca t.cn t.cc::(t.nn++bq t.g)
def Tl.ok(t:Tl):Prop:=t.nn.length=8/\t.g.ok
theorem na(p:NN.Pr)(j:Nat):(NN.aE p)[5+j]?=p.tl[j]?:=by unfold NN.aE;rw[List.getElem?_toArray,show 5+j=j+1+1+1+1+1 by omega];rfl
section
variable{w:World}{k:Nat}{p:NN.Pr}{t:Tl}
theorem ni(h:NN.aA w k p)(e:p.tl=t.C):w.cell? ⟨k,5,none⟩=some (.slice t.ga t.gn t.gc):=(NN.Has.cell h 5).trans (by rw[show 5=5+0 from rfl,na,e];rfl)
theorem mV(h:NN.aA w k p)(e:p.tl=t.C):w.cell? ⟨k,6,none⟩=some (.slice t.ca t.cn t.cc):=(NN.Has.cell h 6).trans (by rw[show 6=5+1 from rfl,na,e];rfl)
theorem jP(h:NN.aA w k p)(e:p.tl=t.C)(ht:t.ok):w.rangeAt k 15 (bq t.g):=fun j u hu=>by
 rw[NN.Has.cell h (15+j),show 15+j=5+(10+j) by omega,na,e,show 10+j=(8+j)+1+1 by omega];show(t.nn++bq t.g)[8+j]?=some u;rw[List.getElem?_append_right (by rw[ht.1];omega),ht.1,Nat.add_sub_cancel_left];exact hu
end
section
variable{w:World}{ops:Array Oper}{rest:List Oper}{o:Oper}{a:Act}{Q:Exit->Act->World->Prop}
theorem Dz(z:Int):Tryz.prog.built 139 [(4,i_ z)]=some (NN.ju ⟨0,0,0,0,z⟩):=by kernel_rfl
theorem H9(x:NN.Pt):Tryz.prog.built 141 [(0,.agg (NN.ju x))]=some (br ⟨x,kL,none,0,0⟩):=by kernel_rfl
theorem IP(hgd:o.guard=none)(x:Operand)(ho:o.op=.build 139 #[(4,x)])(z:Int)(hx:a.eval x=i_ z)(hk:wpList Tryz.prog ops Q rest (a.put o.dst (.agg (NN.ju ⟨0,0,0,0,z⟩))) w):wpList Tryz.prog ops Q (o::rest) a w:=
 wpList_plain hgd fun _ hK=>by
  unfold Oper.wp execOp;simp only[ho,Sem.run_bind];rw[show(#[(4,x)]:Array (Nat×Operand)).map (fun(i,x)=>(i,a.eval x))=#[(4,i_ z)] by simp[hx],run_build w 139 _ _ (Dz z)];exact hK _ _ hk
theorem Ee(hgd:o.guard=none)(x:Operand)(ho:o.op=.build 141 #[(0,x)])(y:NN.Pt)(hx:a.eval x=.agg (NN.ju y))(hk:wpList Tryz.prog ops Q rest (a.put o.dst (.agg (br ⟨y,kL,none,0,0⟩))) w):wpList Tryz.prog ops Q (o::rest) a w:=
 wpList_plain hgd fun _ hK=>by
  unfold Oper.wp execOp;simp only[ho,Sem.run_bind];rw[show(#[(0,x)]:Array (Nat×Operand)).map (fun(i,x)=>(i,a.eval x))=#[(0,.agg (NN.ju y))] by simp[hx],run_build w 141 _ _ (H9 y)];exact hK _ _ hk
end
def eE(w:World)(lo:Nat)(s:Sp)(q:Ps):Prop:=s.x=q.x/\s.prev=q.prev/\q.ts.length=s.n/\s.n<=s.c/\(∃b,s.a=some ⟨b,0,none⟩)/\MM.ft w lo w.heap.size s.a q.ts
variable{w w':World}{lo:Nat}{s:Sp}{q:Ps}
theorem eE.on(h:eE w lo s q)(hb:Bl w w'):eE w' lo s q:=⟨h.1,h.2.1,h.2.2.1,h.2.2.2.1,h.2.2.2.2.1,(h.2.2.2.2.2.below hb (Nat.le_refl _)).wide (Nat.le_refl _) hb.size⟩
theorem eE.row{g:Nat}{cs:Array Value}(h:eE w lo s q)(hg:g<lo):eE (w.setRow g cs) lo s q:=⟨h.1,h.2.1,h.2.2.1,h.2.2.2.1,h.2.2.2.2.1,by rw[setRow_size];exact h.2.2.2.2.2.on (fun k h1 _=>setRow_other w g k cs (by omega))⟩
theorem eE.wide{lo':Nat}(h:eE w lo s q)(hl:lo'<=lo):eE w lo' s q:=⟨h.1,h.2.1,h.2.2.1,h.2.2.2.1,h.2.2.2.2.1,h.2.2.2.2.2.wide hl (Nat.le_refl _)⟩
theorem uX(p:NN.Pr)(hp:p.ok)(t:Tl)(et:p.tl=t.C)(ht:t.ok)(lim:Int)(e0:Hid (p.lim=lim))(w:World)(KB:jR w fun w'=>aG 125 #[.agg (NN.aE p),.agg (br ⟨⟨0,0,0,0,lim⟩,kL,none,0,0⟩),.agg (aD t.g)] w' fun r w''=>∃s,r=.returned (.agg (br s))/\(br s).size=38/\eE w'' w'.heap.size s (K0 p t.g)/\Bl w' w''):aG 141 #[.agg (NN.aE p)] w fun r w'=>∃s,r=.returned (.agg (br s))/\(br s).size=38/\eE w' w.heap.size s (K0 p t.g)/\Bl w w':=by
 have hz:=NN.eH hp;have z0:=iW ji;have ET:=h_ et;have HT:=h_ ht;have s1:=er ht.2;clear et;go_enter Tryz.func141,Tryz.ntmps141;go_upto_region 1 with fail
 generalize hw0:World.alloc _ _=v0;have hB0:Bl w v0:=by rw[<-hw0];exact aY.alloc (by simp) _
 have hP:NN.aA v0 w.heap.size p:=by rw[<-hw0];exact(NN.Has.new _ _).alloc _
 have hR:aI v0 (w.heap.size+1) mn:=by rw[<-hw0];exact Has.R6 _ (br mn) _
 clear hw0;have c0:=hP.c0 e0;have Xn:=jP hP ET.out HT.out
 go_wp2_with (first
  | (with_reducible refine NN.dH rfl _ rfl _ rfl hP hz ?_)
  | (with_reducible refine IP rfl _ rfl lim rfl ?_)
  | (with_reducible refine Ee rfl _ rfl ⟨0,0,0,0,lim⟩ rfl ?_)
  | (with_reducible refine ja rfl _ rfl _ 15 rfl t.g Xn s1 ?_))
 refine(KB.out v0 hB0).mono ?_;rintro r v1 ⟨s,rfl,zs,hS,hb1⟩;have VP:=hR.on hb1;have hRl:=hR.lt;have HB:Hid (Bl w v1):=h_ (ah hB0 hb1);have HB0:=h_ hB0.size;clear hb1 hB0 hP hR c0 Xn KB;go_wp2_with (with_reducible refine sB rfl _ _ rfl _ _ s rfl rfl rfl zs VP z0 ?_)
 refine bodyPost_ret (v:=.agg (br s)) (Mu Tryz.results141 _ _ rfl (Has.row VP _) zs) rfl ⟨s,rfl,zs,?_,below_setRow HB.out (by omega) _⟩;obtain⟨h1,h2,h3,h4,h5,h6⟩:=hS;refine⟨h1,h2,h3,h4,h5,?_⟩;rw[setRow_size];exact(h6.on (fun q hq _=>setRow_other v1 _ q _ (by omega))).wide HB0.out (Nat.le_refl _)
theorem MA(p:NN.Pr)(hp:p.ok)(t:Tl)(et:p.tl=t.C)(ht:t.ok)(w:World)(hT:dQ w):aG 141 #[.agg (NN.aE p)] w fun r w'=>∃s,r=.returned (.agg (br s))/\(br s).size=38/\eE w' w.heap.size s (K0 p t.g)/\Bl w w':=by refine uX p hp t et ht _ (h_ rfl) w (h_ fun w' hb=>?_);refine(JL p hp ⟨⟨0,0,0,0,p.lim⟩,kL,none,0,0⟩ rfl [] rfl (Nat.le_refl _) (show 0<=1000 by omega) (fun _=>⟨rfl,rfl⟩) (by simp) (by simp) t.g ht.2 w' (hT.below hb) MM.ft.none).mono ?_;rintro r w2 ⟨b',c',rfl,h1,h2,h3⟩;exact⟨_,rfl,iW (iv _),⟨rfl,rfl,rfl,h1,⟨b',rfl⟩,h2⟩,h3⟩
theorem O2(l:List UInt8)(hl:l.length=32)(w:World):ak 148 #[.agg (ae l)] w (.agg (NN.aa (numOf l))):=by rw[<-RG l hl];exact NN.Rx (kz l) (A3 l) w
theorem LF(p:NN.Pr)(h:Hd)(ho:h.ok)(lim b:Int)(e0:Hid (p.lim=lim))(eb:Hid (h.bits=b))(t:Nat)(KT:Hid (b_ 106 #[i_ b,i_ lim] (.tuple #[.agg (NN.aa t),.bool false])))(w:World):ak 112 #[.agg (NN.aE p),.agg (aD h)] w (.bool false):=by
 go_enter Tryz.func112,Tryz.ntmps112;go_upto_region 1 with fail
 generalize hw0:World.alloc _ _=v0;have hB:Below w.heap.size w v0:=by rw[<-hw0];exact aY.alloc (by simp) _
 have hP:NN.aA v0 w.heap.size p:=by rw[<-hw0];exact(NN.Has.new _ _).alloc _
 have hH:aH v0 (w.heap.size+1) h:=by rw[<-hw0];exact qj w _ h
 clear hw0;have c0:=hP.c0 e0;have c1:v0.cell? ⟨w.heap.size+1,66,none⟩=some (i_ b):=by rw[<-eb.out];exact hH.bits ho
 go_wp2_with fail
 refine au (KT.out _) fun v1 hb1=>?_;replace hH:=hH.on hb1;replace hB:=ah hB hb1;clear hb1 c0 c1 hP;have hZ:=NN.Has.R2 (w:=v1) 26;go_upto_region 2 with(with_reducible refine NN.bg rfl _ _ rfl _ _ rfl rfl _ hZ rfl ?_)
 generalize hw2:World.setRow _ _ _=v2;have hb2:Below v1.heap.size v1 v2:=cU hw2;have hN:NN.Has v2 v1.heap.size (NN.aa t) 26:=by rw[<-hw2];exact NN.Has.row hZ _
 replace hH:=hH.on hb2;replace hB:=ah hB hb2;clear hw2 hb2 hZ;generalize v1.heap.size=bN at hN|-;go_wp2_with fail
 refine wp_region_quiet_below (by kernel_rfl) (by kernel_rfl) ?_
 repeat(first
  | go_big_quiet_step (fail))
 refine wpQuiet_nil ?_;intro _ hw';obtain⟨q,hw''⟩:=hw';subst hw'';have hB2:=hB.trans ((below_regrown v2 q.d q.os).mono hB.size);go_wp2_with fail
 go_ret;exact⟨rfl,hB2⟩
theorem Kk(p:NN.Pr)(h:Hd)(ho:h.ok)(lim b:Int)(e0:Hid (p.lim=lim))(eb:Hid (h.bits=b))(t:Nat)(KT:Hid (b_ 106 #[i_ b,i_ lim] (.tuple #[.agg (NN.aa t),.bool true])))(id:List UInt8)(u:Nat)(m:Bool)(KI:Hid (b_ 75 #[.agg (aD h)] (.agg (ae id))))(KN:Hid (b_ 148 #[.agg (ae id)] (.agg (NN.aa u))))(KM:Hid (b_ 102 #[.agg (NN.aa t),.agg (NN.aa u)] (.bool m)))(w:World):ak 112 #[.agg (NN.aE p),.agg (aD h)] w (.bool !m):=by
 go_enter Tryz.func112,Tryz.ntmps112;go_upto_region 1 with fail
 generalize hw0:World.alloc _ _=v0;have hB:Below w.heap.size w v0:=by rw[<-hw0];exact aY.alloc (by simp) _
 have hP:NN.aA v0 w.heap.size p:=by rw[<-hw0];exact(NN.Has.new _ _).alloc _
 have hH:aH v0 (w.heap.size+1) h:=by rw[<-hw0];exact qj w _ h
 clear hw0;have c0:=hP.c0 e0;have c1:v0.cell? ⟨w.heap.size+1,66,none⟩=some (i_ b):=by rw[<-eb.out];exact hH.bits ho
 go_wp2_with fail
 refine au (KT.out _) fun v1 hb1=>?_;replace hH:=hH.on hb1;replace hB:=ah hB hb1;clear hb1 c0 c1 hP;have hZ:=NN.Has.R2 (w:=v1) 26;go_upto_region 2 with(with_reducible refine NN.bg rfl _ _ rfl _ _ rfl rfl _ hZ rfl ?_)
 generalize hw2:World.setRow _ _ _=v2;have hb2:Below v1.heap.size v1 v2:=cU hw2;have hN:NN.Has v2 v1.heap.size (NN.aa t) 26:=by rw[<-hw2];exact NN.Has.row hZ _
 replace hH:=hH.on hb2;replace hB:=ah hB hb2;clear hw2 hb2 hZ;generalize v1.heap.size=bN at hN|-;have q1:=gv hH.range (j3 h);have s1:=er ho;go_wp2_with fail
 refine wp_region_quiet_below (by kernel_rfl) (by kernel_rfl) ?_
 repeat(first
  | (go_big_quiet_want;(with_reducible first|refine kt _ rfl (w.heap.size+1) 0 rfl h s1 q1 ?_|refine NN.og _ rfl _ rfl _ hN.cls ?_);(simp only[Act.put,List.setIfInBounds_toArray,List.set_cons_zero,List.set_cons_succ]);go_big_quiet_on)
  | go_big_quiet_step (first|(go_at_call 75;exact Calls.regrown_of (KI.out _))|(go_at_call 148;exact Calls.regrown_of (KN.out _))|(go_at_call 102;exact Calls.regrown_of (KM.out _))))
 refine wpQuiet_nil ?_;intro _ hw';obtain⟨q,hw''⟩:=hw';subst hw'';have hB2:=hB.trans ((below_regrown v2 q.d q.os).mono hB.size);go_wp2_with fail
 go_ret;exact⟨rfl,hB2⟩
theorem wY(p:NN.Pr)(h:Hd)(ho:h.ok)(g:Bool)(hg:nR p.lim h=g)(w:World):ak 112 #[.agg (NN.aE p),.agg (aD h)] w (.bool g):=by unfold nR at hg;have KT:=NN.xy h.bits p.lim;cases hk:NN.tok h.bits p.lim;rw[hk]at KT hg;rw[<-hg];exact LF p h ho _ _ (h_ rfl) (h_ rfl) _ (h_ KT) w;rw[hk,Bool.true_and]at hg;rw[hk]at KT;rw[<-hg];exact Kk p h ho _ _ (h_ rfl) (h_ rfl) _ (h_ KT) h.id _ _ (h_ (iX h ho)) (h_ (O2 h.id (iv h))) (h_ (NN.ny _ _ (NN.kM _ _) (Mp _))) w
def dv(p:NN.Pr)(ch:List Hd):Nat->Int×Int
 | 0=>(0,p.lim)
 | k+1=>(if NN.bJ p.R8 (k:Int)=true then(ch.getD k du).time else(dv p ch k).1,if NN.bJ p.R8 (k:Int)=true\/p.Se=false\/¬(ch.getD k du).bits=p.lim then(ch.getD k du).bits else(dv p ch k).2)
theorem K_(p:NN.Pr)(g:Hd)(hs:List Hd):∀k,k<=hs.length->dv p (g::hs) (k+1)=((gQ p g hs k).x.f,(gQ p g hs k).x.r)
 | 0,_=>rfl
 | k+1,h=>by
  rw[o_ p g hs k (by omega)];have ih:=K_ p g hs k (by omega);have hh:=kE p g hs k (by omega);show(if NN.bJ p.R8 ((k+1:Nat):Int)=true then((g::hs).getD (k+1) du).time else(dv p (g::hs) (k+1)).1,_)=_;rw[ih];show _=((zu p (gQ p g hs k).x (hs.getD k du)).f,(zu p (gQ p g hs k).x (hs.getD k du)).r);unfold zu;rw[hh];rfl
theorem nw(p:NN.Pr)(g:Hd)(hs:List Hd):∀k,k<=hs.length->(gQ p g hs k).x.b=((g::hs).getD k du).bits/\(gQ p g hs k).x.t=((g::hs).getD k du).time/\(gQ p g hs k).prev=((g::hs).getD k du).id
 | 0,_=>⟨rfl,rfl,rfl⟩
 | k+1,h=>by
  rw[o_ p g hs k (by omega)];exact⟨rfl,rfl,rfl⟩
theorem tw(p:NN.Pr)(hz:(NN.aE p).size=83)(lim R8:Int)(Se:Bool)(e0:Hid (p.lim=lim))(e1:Hid (p.R8=R8))(e4:Hid (p.Se=Se))(a:Option Addr)(ch:List Hd)(n c:Nat)(hn:n=ch.length)(h0:0<n)(hl:n<=1000)(own:Int)(f r lb lt ans:Int)(hf:dv p ch n=(f,r))(hb:(ch.getD (n-1) du).bits=lb)(ht:(ch.getD (n-1) du).time=lt)(KN:Hid (b_ 147 #[.agg (NN.aE p),i_ n,i_ lb,i_ lt,i_ f,i_ r,i_ own] (i_ ans)))(w:World)(hA:aO w a ch):ak 111 #[.agg (NN.aE p),.slice a n c,i_ own] w (i_ ans):=by
 have HN:=h_ hn;have HF:=h_ hf;have HA:=h_ hA;obtain⟨m,hm⟩:∃m,m=n-1:=⟨_,rfl⟩;have wm:IntKind.i64.wrap ((n:Int)-1)=(m:Int):=by rw[IntKind.wrap_i64];omega
 have hmn:m<n:=by omega
 have d0:((n:Int)==0)=false:=by simp;omega
 obtain⟨TC,TD,ea,Xo,hc0⟩:=hA (by rw[<-hn];omega)
 have hq:(ch.getD m du).ok/\w.rangeAt TC (TD+m*68) (bq (ch.getD m du)):=by
  rw[pI (show m<ch.length by rw[<-hn];omega)];exact hc0 m _
 rw[<-hm]at hb ht;obtain⟨y,hy⟩:∃y,y=ch.getD m du:=⟨_,rfl⟩;rw[<-hy]at hb ht hq;subst ea;have q1:=er hq.1;have q2:=fX hq.1;have qz:=fX fe;have yok:=hq.1;have HB:=h_ hb;have HT:=h_ ht;have HR:=h_ hq.2;clear hn hf hA hm hy hc0 hb ht hq;go_enter Tryz.func111,Tryz.ntmps111;go_upto_region 1 with fail
 generalize hw0:World.alloc _ _=v0;have hB:Bl w v0:=dd hw0;have hP:NN.aA v0 w.heap.size p:=by rw[<-hw0];exact NN.Has.new _ _
 clear hw0;obtain⟨bP,Sf⟩:∃b,b=w.heap.size:=⟨_,rfl⟩;rw[<-Sf]at hP|-;clear Sf;have r0:=iE HR.out hB (j3 y);have hnew:=Ae v0
 go_upto_region 5 with(first
  | (with_reducible refine ja rfl _ rfl TC (TD+m*68) rfl y r0 q1 ?_)
  | (with_reducible refine jA rfl _ _ rfl _ _ y rfl rfl rfl q2 hnew qz ?_))
 generalize hw1:World.setRow _ _ _=v1;have hb1:Bl v0 v1:=cU hw1;have hY:aH v1 v0.heap.size y:=by rw[<-hw1];exact Has.row hnew _
 replace hP:=hP.on hb1;replace hB:=ah hB hb1;clear hw1 hb1 hnew r0;obtain⟨bL,hbL⟩:∃b,b=v0.heap.size:=⟨_,rfl⟩;rw[<-hbL]at hY|-;clear hbL;have c0:=hP.c0 e0;go_wp2_with fail
 clear c0;go_loopw [9,10,29] (fun u v i wr=>∃k:Nat,k<=n/\i=i_ k/\∃fk rk:Int,u=i_ fk/\v=i_ rk/\Hid (dv p ch k=(fk,rk))/\NN.aA wr bP p/\aH wr bL y/\Bl w wr) (fun _ _ i _=>n-(intOf i).toNat)
 case atStart=>exact⟨0,by omega,rfl,0,_,rfl,rfl,h_ (by rw[<-e0.out];rfl),hP,hY,hB⟩
 case round=>
  clear hP hY hB;obtain⟨k,hk,rfl,fk,rk,rfl,rfl,HK,hP,hY,hB⟩:=hrel;by_cases hlt:k<n
  ·obtain⟨ab,ao,ea,Sv,hc⟩:=(HA.out.below hB) (by rw[<-HN.out];omega);cases ea
   have q:(ch.getD k du).ok/\wr.rangeAt TC (TD+k*68) (bq (ch.getD k du)):=by
    rw[pI (show k<ch.length by rw[<-HN.out];omega)];exact hc k _
   have hnx:dv p ch (k+1)=(if NN.bJ p.R8 (k:Int)=true then(ch.getD k du).time else(dv p ch k).1,if NN.bJ p.R8 (k:Int)=true\/p.Se=false\/¬(ch.getD k du).bits=p.lim then(ch.getD k du).bits else(dv p ch k).2):=rfl;rw[HK.out]at hnx;generalize ch.getD k du=z at*;obtain⟨Vv,rz⟩:=q;have z1:=er Vv;have z2:=fX Vv;have hnew:=Ae wr;have hG:aH ((wr.alloc (.cells Tryz.zeroCells30 30)).setRow wr.heap.size (aD z)) wr.heap.size z:=Has.row hnew _;have hb1:Bl wr ((wr.alloc (.cells Tryz.zeroCells30 30)).setRow wr.heap.size (aD z)):=below_setRow aY (Nat.le_refl _) _;replace hP:=hP.on hb1;replace hY:=hY.on hb1;replace hB:=ah hB hb1;have c1:=hP.c1 e1;have c4:=hP.c4 e4;have c0:=hP.c0 e0;obtain⟨tz,htz⟩:∃tz,tz=z.time:=⟨_,rfl⟩;obtain⟨bz,hbz⟩:∃bz,bz=z.bits:=⟨_,rfl⟩;have cb:=hG.bits Vv;have ct:=hG.time Vv;rw[<-hbz]at cb hnx;rw[<-htz]at ct hnx;rw[e0.out,e1.out,e4.out]at hnx;have HX:=h_ hnx;clear hnx hb1 hG hc htz hbz HK;cases hti:decide (0<R8)
   ·have hst:NN.bJ R8 (k:Int)=false:=(by unfold NN.bJ;rw[hti];rfl);cases hE:Se
    ·rw[hE]at c4;have SL:Hid (dv p ch (k+1)=(fk,bz)):=h_ (by rw[HX.out];simp[hst,hE]);clear HX
     go_wp2_with (first
      | (with_reducible refine ja rfl _ rfl TC (TD+k*68) rfl z rz z1 ?_)
      | (with_reducible refine jA rfl _ _ rfl _ _ z rfl rfl rfl z2 hnew qz ?_))
     go_roundw
     case rel=>exact⟨k+1,by omega,by go_num,fk,bz,rfl,rfl,SL,hP,hY,hB⟩
     case measure=>simp[intOf];omega
    ·rw[hE]at c4;cases hne:(bz==lim)
     ·have hne2:¬bz=lim:=(by simpa using hne);have SL:Hid (dv p ch (k+1)=(fk,bz)):=h_ (by rw[HX.out];simp[hst,hE,hne2]);clear HX
      go_wp2_with (first
       | (with_reducible refine ja rfl _ rfl TC (TD+k*68) rfl z rz z1 ?_)
       | (with_reducible refine jA rfl _ _ rfl _ _ z rfl rfl rfl z2 hnew qz ?_))
      go_roundw
      case rel=>exact⟨k+1,by omega,by go_num,fk,bz,rfl,rfl,SL,hP,hY,hB⟩
      case measure=>simp[intOf];omega
     ·have hne2:bz=lim:=(by simpa using hne);have SL:Hid (dv p ch (k+1)=(fk,rk)):=h_ (by rw[HX.out];simp[hst,hE,hne2]);clear HX
      go_wp2_with (first
       | (with_reducible refine ja rfl _ rfl TC (TD+k*68) rfl z rz z1 ?_)
       | (with_reducible refine jA rfl _ _ rfl _ _ z rfl rfl rfl z2 hnew qz ?_))
      go_roundw
      case rel=>exact⟨k+1,by omega,by go_num,fk,rk,rfl,rfl,SL,hP,hY,hB⟩
      case measure=>simp[intOf];omega
   ·have hne0:¬R8=0:=(by have:=of_decide_eq_true hti;omega);obtain⟨rm,hrm⟩:∃rm,rm=(k:Int).tmod R8:=⟨_,rfl⟩;have ab8:=hrm.symm;cases WU:(rm==0)
    ·have hst:NN.bJ R8 (k:Int)=false:=(by unfold NN.bJ;rw[hti,<-hrm,WU];rfl);clear hrm;cases hE:Se
     ·rw[hE]at c4;have SL:Hid (dv p ch (k+1)=(fk,bz)):=h_ (by rw[HX.out];simp[hst,hE]);clear HX
      go_wp2_with (first
       | (with_reducible refine ja rfl _ rfl TC (TD+k*68) rfl z rz z1 ?_)
       | (with_reducible refine jA rfl _ _ rfl _ _ z rfl rfl rfl z2 hnew qz ?_))
      go_roundw
      case rel=>exact⟨k+1,by omega,by go_num,fk,bz,rfl,rfl,SL,hP,hY,hB⟩
      case measure=>simp[intOf];omega
     ·rw[hE]at c4;cases hne:(bz==lim)
      ·have hne2:¬bz=lim:=(by simpa using hne);have SL:Hid (dv p ch (k+1)=(fk,bz)):=h_ (by rw[HX.out];simp[hst,hE,hne2]);clear HX
       go_wp2_with (first
        | (with_reducible refine ja rfl _ rfl TC (TD+k*68) rfl z rz z1 ?_)
        | (with_reducible refine jA rfl _ _ rfl _ _ z rfl rfl rfl z2 hnew qz ?_))
       go_roundw
       case rel=>exact⟨k+1,by omega,by go_num,fk,bz,rfl,rfl,SL,hP,hY,hB⟩
       case measure=>simp[intOf];omega
      ·have hne2:bz=lim:=(by simpa using hne);have SL:Hid (dv p ch (k+1)=(fk,rk)):=h_ (by rw[HX.out];simp[hst,hE,hne2]);clear HX
       go_wp2_with (first
        | (with_reducible refine ja rfl _ rfl TC (TD+k*68) rfl z rz z1 ?_)
        | (with_reducible refine jA rfl _ _ rfl _ _ z rfl rfl rfl z2 hnew qz ?_))
       go_roundw
       case rel=>exact⟨k+1,by omega,by go_num,fk,rk,rfl,rfl,SL,hP,hY,hB⟩
       case measure=>simp[intOf];omega
    ·have hst:NN.bJ R8 (k:Int)=true:=(by unfold NN.bJ;rw[hti,<-hrm,WU];rfl);clear hrm;cases hE:Se
     ·rw[hE]at c4;have SL:Hid (dv p ch (k+1)=(tz,bz)):=h_ (by rw[HX.out];simp[hst,hE]);clear HX
      go_wp2_with (first
       | (with_reducible refine ja rfl _ rfl TC (TD+k*68) rfl z rz z1 ?_)
       | (with_reducible refine jA rfl _ _ rfl _ _ z rfl rfl rfl z2 hnew qz ?_))
      go_roundw
      case rel=>exact⟨k+1,by omega,by go_num,tz,bz,rfl,rfl,SL,hP,hY,hB⟩
      case measure=>simp[intOf];omega
     ·rw[hE]at c4;cases hne:(bz==lim)
      ·have hne2:¬bz=lim:=(by simpa using hne);have SL:Hid (dv p ch (k+1)=(tz,bz)):=h_ (by rw[HX.out];simp[hst,hE,hne2]);clear HX
       go_wp2_with (first
        | (with_reducible refine ja rfl _ rfl TC (TD+k*68) rfl z rz z1 ?_)
        | (with_reducible refine jA rfl _ _ rfl _ _ z rfl rfl rfl z2 hnew qz ?_))
       go_roundw
       case rel=>exact⟨k+1,by omega,by go_num,tz,bz,rfl,rfl,SL,hP,hY,hB⟩
       case measure=>simp[intOf];omega
      ·have hne2:bz=lim:=(by simpa using hne);have SL:Hid (dv p ch (k+1)=(tz,lim)):=h_ (by rw[HX.out];simp[hst,hE,hne2]);clear HX
       go_wp2_with (first
        | (with_reducible refine ja rfl _ rfl TC (TD+k*68) rfl z rz z1 ?_)
        | (with_reducible refine jA rfl _ _ rfl _ _ z rfl rfl rfl z2 hnew qz ?_))
       go_roundw
       case rel=>exact⟨k+1,by omega,by go_num,tz,lim,rfl,rfl,SL,hP,hY,hB⟩
       case measure=>simp[intOf];omega
  ·obtain rfl:k=n:=by omega
   have e:(fk,rk)=(f,r):=by rw[<-HK.out,HF.out]
   cases e;have cb:=hY.bits yok;have ct:=hY.time yok;rw[HB.out]at cb;rw[HT.out]at ct;go_wp2_with (first|fail|(with_reducible refine NN.dH rfl _ rfl _ rfl hP hz ?_))
   refine au (KN.out _) fun v9 SC=>?_;replace hB:=ah hB SC;go_wp2_with fail
   go_ret;exact⟨rfl,hB⟩
theorem Kt(p:NN.Pr)(hp:p.ok)(a:Option Addr)(g:Hd)(hs:List Hd)(n c:Nat)(hn:n=hs.length+1)(hl:n<=1000)(own:Int)(w:World)(hA:aO w a (g::hs)):ak 111 #[.agg (NN.aE p),.slice a n c,i_ own] w (i_ (NN.oR p (gQ p g hs (n-1)).x own)):=by have h1:=K_ p g hs (n-1) (by omega);obtain⟨h2,h3,_⟩:=nw p g hs (n-1) (by omega);have h4:=kE p g hs (n-1) (by omega);rw[show n-1+1=n by omega]at h1;refine tw p (NN.eH hp) _ _ _ (h_ rfl) (h_ rfl) (h_ rfl) a (g::hs) n c (by simpa using hn) (by omega) hl own _ _ _ _ _ h1 h2.symm h3.symm (h_ fun w=>?_) w hA;have K:=NN.Lh p hp (gQ p g hs (n-1)).x own w;rw[h4,show((n-1:Nat):Int)+1=(n:Int) by omega]at K;exact K
structure Nk (w wr:World) (bP bA bH:Nat) (p:NN.Pr) (s:Sp) (h:Hd):Prop where
 be:Bl w wr
 p:NN.aA wr bP p
 a:aI wr bA s
 h:aH wr bH h
theorem Nk.on{wr:World}{bP bA bH:Nat}{p:NN.Pr}{h:Hd}(hs:Nk w wr bP bA bH p s h)(hb:Bl wr w'):Nk w w' bP bA bH p s h:=⟨ah hs.be hb,hs.p.on hb,hs.a.on hb,hs.h.on hb⟩
def CQ(g0 b1 b2 g3 g4 g5 b6 g7:Bool):Int:=
 if g0=false then 1 else if b1=true then 2 else if b2=false then 3 else if g3=false then 4 else if g4=false then 5 else if g5=false then 6 else if b6=true then 7 else if g7=false then 8 else 0
theorem xp(p:NN.Pr)(hz:(NN.aE p).size=83)(xh xb xt xf xr:Int)(prev:List UInt8)(Th:prev.length=32)(a:Option Addr)(n c:Nat)(h:Hd)(ho:h.ok)(now:Int)(w:World)(g0 b1 b2 g3 g4 g5 b6 g7:Bool)(KG:aQ w 118 #[.agg (aD h)] (.bool g0))(t1:(!(h.prev==prev))=b1)(hb ht nb:Int)(eb:Hid (h.bits=hb))(et:Hid (h.time=ht))(KN:aQ w 154 #[.agg (NN.aE p),.agg (NN.ju ⟨xh,xb,xt,xf,xr⟩),i_ ht] (i_ nb))(t2:(hb==nb)=b2)(KW:aQ w 155 #[.agg (NN.aE p),.agg (aD h)] (.bool g3))(KL:aQ w 156 #[i_ ht,.slice a n c] (.bool g4))(Sb:Int)(e3:Hid (p.Sb=Sb))(KE:aQ w 157 #[i_ ht,i_ now,i_ Sb] (.bool g5))(t:Tl)(tt:Hid (p.tl=t.C))(hv v:Int)(ev:Hid (h.v=hv))(KV:aQ w 158 #[i_ xh,.slice t.ga t.gn t.gc] (i_ v))(t6:decide (hv<v)=b6)(id:List UInt8)(KI:aQ w 119 #[.agg (aD h)] (.agg (ae id)))(KT:aQ w 159 #[i_ xh,.agg (ae id),.slice t.ca t.cn t.cc] (.bool g7)):ak 121 #[.agg (NN.aE p),.agg (br ⟨⟨xh,xb,xt,xf,xr⟩,prev,a,n,c⟩),.agg (aD h),i_ now] w (i_ (CQ g0 b1 b2 g3 g4 g5 b6 g7)):=by
 have za:=fX ho;have so:(⟨⟨xh,xb,xt,xf,xr⟩,prev,a,n,c⟩:Sp).ok:=Th;have qn:=jg h.prev prev ho.1 Th _ t1;obtain⟨ga,hga⟩:∃x,x=t.ga:=⟨_,rfl⟩;obtain⟨gn,hgn⟩:∃x,x=t.gn:=⟨_,rfl⟩;obtain⟨gc,hgc⟩:∃x,x=t.gc:=⟨_,rfl⟩;rw[<-hga,<-hgn,<-hgc]at KV;have P5:Hid (∀wx b,NN.aA wx b p->wx.cell? ⟨b,5,none⟩=some (.slice ga gn gc)):=h_ (fun wx b hh=>by rw[hga,hgn,hgc];exact ni hh tt.out);clear hga hgn hgc;obtain⟨ca,Vw⟩:∃x,x=t.ca:=⟨_,rfl⟩;obtain⟨cn,hcn⟩:∃x,x=t.cn:=⟨_,rfl⟩;obtain⟨cc,hcc⟩:∃x,x=t.cc:=⟨_,rfl⟩;rw[<-Vw,<-hcn,<-hcc]at KT;have P6:Hid (∀wx b,NN.aA wx b p->wx.cell? ⟨b,6,none⟩=some (.slice ca cn cc)):=h_ (fun wx b hh=>by rw[Vw,hcn,hcc];exact mV hh tt.out);clear Vw hcn hcc;go_enter Tryz.func121,Tryz.ntmps121;go_upto_region 1 with fail
 generalize hw0:World.alloc _ _=v0
 have hs:Nk w v0 w.heap.size (w.heap.size+1) (w.heap.size+1+1) p ⟨⟨xh,xb,xt,xf,xr⟩,prev,a,n,c⟩ h:=by
  rw[<-hw0];exact⟨(aY.alloc (by simp) _).alloc (by simp;omega) _,((NN.Has.new _ _).alloc _).alloc _,(Has.R6 _ _ _).alloc _,Has.Sw _ _ _ _⟩
 clear hw0;obtain⟨bP,Sf⟩:∃b,b=w.heap.size:=⟨_,rfl⟩;obtain⟨bA,Vt⟩:∃b,b=w.heap.size+1:=⟨_,rfl⟩;obtain⟨bH,R'⟩:∃b,b=w.heap.size+1+1:=⟨_,rfl⟩;rw[<-R',<-Vt,<-Sf]at hs|-;clear Sf Vt R';have hH:=hs.h;go_wp2_with (first|fail|(with_reducible refine cP rfl _ rfl bH rfl hH za ?_))
 refine au (KG.out _ hs.be) fun v1 hb1=>?_;replace hs:=hs.on hb1;clear hb1;cases g0
 case false=>
  go_wp2_with fail
  go_ret;exact⟨rfl,hs.be⟩
 clear hH;have r1:=vm hs.h.range;rw[Nat.zero_add]at r1;have r5:=hs.a.prev;have s1:=il ho.1;have s5:=il Th;cases b1
 case true=>
  go_wp2_with (with_reducible first|refine gu rfl _ rfl bH 1 rfl h.prev r1 s1 ?_|refine gu rfl _ rfl bA 5 rfl prev r5 s5 ?_|refine kO (by with_unfolding_all rfl) _ _ _ rfl _ _ _ rfl rfl qn ?_)
  go_ret;exact⟨rfl,hs.be⟩
 go_upto_region 5 with(with_reducible first|refine gu rfl _ rfl bH 1 rfl h.prev r1 s1 ?_|refine gu rfl _ rfl bA 5 rfl prev r5 s5 ?_|refine kO (by with_unfolding_all rfl) _ _ _ rfl _ _ _ rfl rfl qn ?_)
 clear r1 r5 s1 s5 qn;have qb:∀d os,(Sort.grow (redrawn v1 d) os).cell? ⟨bH,66,none⟩=some (i_ hb):=cell_regrown (by rw[<-eb.out];exact hs.h.bits ho);have qt:∀d os,(Sort.grow (redrawn v1 d) os).cell? ⟨bH,65,none⟩=some (i_ ht):=cell_regrown (by rw[<-et.out];exact hs.h.time ho);have qp:=hs.p.cls;have qx:=gv hs.a.pt (show 0<5 by decide);have hbr:∀d os,Bl w (Sort.grow (redrawn v1 d) os):=fun d os=>hs.be.trans ((below_regrown v1 d os).mono hs.be.size)
 refine wp_region_quiet_below (by kernel_rfl) (by kernel_rfl) ?_
 repeat(first
  | (go_big_quiet_want;(with_reducible first|refine NN.Ih _ rfl _ rfl hz qp ?_|refine MN _ rfl bA rfl ⟨xh,xb,xt,xf,xr⟩ qx ?_);(simp only[Act.put,List.setIfInBounds_toArray,List.set_cons_zero,List.set_cons_succ]);go_big_quiet_on)
  | go_big_quiet_step (first|(go_at_call 154;exact Calls.regrown_of (KN.out _ (hbr _ _)))))
 refine wpQuiet_nil ?_;intro v2 hw';obtain⟨rg,hw''⟩:=hw';have hb2:Bl v1 v2:=by rw[hw''];exact below_regrown v1 rg.d rg.os
 clear hw'' hbr;replace hs:=hs.on hb2;clear hb2;clear qb qt qp qx;cases b2
 case false=>
  go_wp2_with fail
  go_ret;exact⟨rfl,hs.be⟩
 have hH:=hs.h;have hP:=hs.p;go_wp2_with (with_reducible first|refine cP rfl _ rfl bH rfl hH za ?_|refine NN.dH rfl _ rfl _ rfl hP hz ?_)
 refine au (KW.out _ hs.be) fun v3 hb3=>?_;replace hs:=hs.on hb3;clear hb3;clear hH hP;cases g3
 case false=>
  go_wp2_with fail
  go_ret;exact⟨rfl,hs.be⟩
 have cT:v3.cell? ⟨bH,65,none⟩=some (i_ ht):=by rw[<-et.out];exact hs.h.time ho
 have cS:=hs.a.sl so;go_wp2_with (first|fail)
 refine au (KL.out _ hs.be) fun v4 hb4=>?_;replace hs:=hs.on hb4;clear hb4;clear cT cS;cases g4
 case false=>
  go_wp2_with fail
  go_ret;exact⟨rfl,hs.be⟩
 have cT:v4.cell? ⟨bH,65,none⟩=some (i_ ht):=by rw[<-et.out];exact hs.h.time ho
 have c3:=hs.p.c3 e3;go_wp2_with (first|fail)
 refine au (KE.out _ hs.be) fun v5 hb5=>?_;replace hs:=hs.on hb5;clear hb5;clear cT c3;cases g5
 case false=>
  go_wp2_with fail
  go_ret;exact⟨rfl,hs.be⟩
 go_upto_region 13 with fail
 have qv:∀d os,(Sort.grow (redrawn v5 d) os).cell? ⟨bH,0,none⟩=some (i_ hv):=cell_regrown (by rw[<-ev.out];exact hs.h.v);have qh:∀d os,(Sort.grow (redrawn v5 d) os).cell? ⟨bA,0,none⟩=some (i_ xh):=cell_regrown (hs.a.c0 (h_ rfl));have qg:∀d os,(Sort.grow (redrawn v5 d) os).cell? ⟨bP,5,none⟩=some (.slice ga gn gc):=cell_regrown (P5.out _ _ hs.p);have hbr:∀d os,Bl w (Sort.grow (redrawn v5 d) os):=fun d os=>hs.be.trans ((below_regrown v5 d os).mono hs.be.size)
 refine wp_region_quiet_below (by kernel_rfl) (by kernel_rfl) ?_
 repeat(first
  | go_big_quiet_step (first|(go_at_call 158;exact Calls.regrown_of (KV.out _ (hbr _ _)))))
 refine wpQuiet_nil ?_;intro v6 hw';obtain⟨rg,hw''⟩:=hw';have hb6:Bl v5 v6:=by rw[hw''];exact below_regrown v5 rg.d rg.os
 clear hw'' hbr;replace hs:=hs.on hb6;clear hb6;clear qv qh qg;cases b6
 case true=>
  go_wp2_with fail
  go_ret;exact⟨rfl,hs.be⟩
 go_upto_region 15 with fail
 have qh:∀d os,(Sort.grow (redrawn v6 d) os).cell? ⟨bA,0,none⟩=some (i_ xh):=cell_regrown (hs.a.c0 (h_ rfl));have qc:∀d os,(Sort.grow (redrawn v6 d) os).cell? ⟨bP,6,none⟩=some (.slice ca cn cc):=cell_regrown (P6.out _ _ hs.p);have qd:=gv hs.h.range (j3 h);have sd:=er ho;have hbr:∀d os,Bl w (Sort.grow (redrawn v6 d) os):=fun d os=>hs.be.trans ((below_regrown v6 d os).mono hs.be.size)
 refine wp_region_quiet_below (by kernel_rfl) (by kernel_rfl) ?_
 repeat(first
  | (go_big_quiet_want;(with_reducible refine kt _ rfl bH 0 rfl h sd qd ?_);(simp only[Act.put,List.setIfInBounds_toArray,List.set_cons_zero,List.set_cons_succ]);go_big_quiet_on)
  | go_big_quiet_step (first|(go_at_call 119;exact Calls.regrown_of (KI.out _ (hbr _ _)))|(go_at_call 159;exact Calls.regrown_of (KT.out _ (hbr _ _)))))
 refine wpQuiet_nil ?_;intro v7 hw';obtain⟨rg,hw''⟩:=hw';have T4:Bl v6 v7:=by rw[hw''];exact below_regrown v6 rg.d rg.os
 clear hw'' hbr;replace hs:=hs.on T4;clear T4;clear qh qc qd sd;cases g7
 case false=>
  go_wp2_with fail
  go_ret;exact⟨rfl,hs.be⟩
 go_wp2_with fail
 go_ret;exact⟨rfl,hs.be⟩
def lZ(t now Sb:Int):Bool:=decide (0<=Sb)&&decide (IntKind.i64.wrap (t-now)<=Sb)
def qy(p:NN.Pr)(gs:List Gt)(cs:List Ck)(q:Ps)(h:Hd)(now:Int):Int:=
 if¬h.P then 1 else if¬h.prev=q.prev then 2 else if¬h.bits=NN.nx p q.x h.time then 3 else if nR p.lim h=false then 4 else if MM.late h.time q.ts=false then 5 else if lZ h.time now p.Sb=false then 6 else if h.v<iU q.x.h gs then 7 else if k9 q.x.h h.id cs=false then 8 else 0
theorem FC(p:NN.Pr)(hp:p.ok)(t:Tl)(tt:p.tl=t.C)(gs:List Gt)(cs:List Ck)(hgn:t.gn=gs.length)(hcn:t.cn=cs.length)(hgl:t.gn<=1000)(hcl:t.cn<=1000)(s:Sp)(q:Ps)(e1:s.x=q.x)(e2:s.prev=q.prev)(e3:q.ts.length=s.n)(e4:s.n<=s.c)(e5:q.prev.length=32)(e6:s.n<=1000)(h:Hd)(ho:h.ok)(now:Int)(w:World)(hT:dQ w)(hL:MM.ft w 0 w.heap.size s.a q.ts)(hG:aJ w t.ga gs)(hC:az w t.ca cs):ak 121 #[.agg (NN.aE p),.agg (br s),.agg (aD h),i_ now] w (i_ (qy p gs cs q h now)):=by
 obtain⟨x,prev,ts⟩:=q;obtain⟨x',UH,a,n,c⟩:=s;simp only at e1 e2 e3 e4 e5 e6 hL;subst e1 e2;obtain⟨xh,xb,xt,xf,xr⟩:=x';have hz:=NN.eH hp;have Yw:∀w',Bl w w'->dQ w':=fun w' hb=>hT.below hb
 have KG:aQ w 118 #[.agg (aD h)] (.bool (decide h.P)):=h_ fun w' _=>nr h ho w'
 have KN:aQ w 154 #[.agg (NN.aE p),.agg (NN.ju ⟨xh,xb,xt,xf,xr⟩),i_ h.time] (i_ (NN.nx p ⟨xh,xb,xt,xf,xr⟩ h.time)):=h_ fun w' _=>NN.xF p hp _ _ w'
 have KW:aQ w 155 #[.agg (NN.aE p),.agg (aD h)] (.bool (nR p.lim h)):=h_ fun w' hb=>L3 p h ho _ rfl w' (Yw w' hb)
 have KL:aQ w 156 #[i_ h.time,.slice a n c] (.bool (MM.late h.time ts)):=h_ fun w' hb=>MM.vq h.time a n c 0 w.heap.size ts e3 e4 (by omega) w' (hL.below hb (Nat.le_refl _))
 have KE:aQ w 157 #[i_ h.time,i_ now,i_ p.Sb] (.bool (lZ h.time now p.Sb)):=h_ fun w' _=>(MM.A8 h.time now p.Sb _ rfl w').mono (fun e w'' ⟨h1,h2⟩=>⟨by rw[h1];rfl,by rw[h2];exact bf⟩)
 have KV:aQ w 158 #[i_ xh,.slice t.ga t.gn t.gc] (i_ (iU xh gs)):=h_ fun w' hb=>Qp xh t.ga gs t.gn t.gc hgn (by omega) w' (hG.below hb) _ rfl
 have KI:aQ w 119 #[.agg (aD h)] (.agg (ae h.id)):=h_ fun w' hb=>mK h ho w' (Yw w' hb)
 have KT:aQ w 159 #[i_ xh,.agg (ae h.id),.slice t.ca t.cn t.cc] (.bool (k9 xh h.id cs)):=h_ fun w' hb=>QA xh h.id (iv h) t.ca cs t.cn t.cc hcn (by omega) w' (hC.below hb) _ rfl
 have e:qy p gs cs ⟨⟨xh,xb,xt,xf,xr⟩,UH,ts⟩ h now=CQ (decide h.P) (!(h.prev==UH)) (h.bits==NN.nx p ⟨xh,xb,xt,xf,xr⟩ h.time) (nR p.lim h) (MM.late h.time ts) (lZ h.time now p.Sb) (decide (h.v<iU xh gs)) (k9 xh h.id cs):=by
  unfold qy CQ;simp only[decide_eq_false_iff_not,Bool.not_eq_true',beq_eq_false_iff_ne,ne_eq,decide_eq_true_eq]
 rw[e];exact xp p hz xh xb xt xf xr UH e5 a n c h ho now w _ _ _ _ _ _ _ _ KG rfl h.bits h.time _ (h_ rfl) (h_ rfl) KN rfl KW KL p.Sb (h_ rfl) KE t (h_ tt) h.v _ (h_ rfl) KV rfl h.id KI KT
section
variable{w:World}{ops:Array Oper}{rest:List Oper}{o o2 o3:Oper}{a:Act}{Q:Exit->Act->World->Prop}
theorem JW(hw:Region.wanted o (yielded ops a.tmps)=true)(x:Operand)(ho:o.op=.load 30 x)(g off:Nat)(hx:a.eval x=.pointer (some ⟨g,off,none⟩))(h:Hd)(hg:w.rangeAt g off (bq h))(hs:(bq h).length=68)(hk:wpList Tryz.prog ops Q rest (a.put o.dst (.agg (aD h))) w):wpList Tryz.prog ops Q (o::rest) a w:=
 BigFrame.wpList_want hw fun _ hK=>by
  unfold Oper.wp execOp;simp only[ho,hx,Sem.run_bind,run_loadAt_mid w g off 30 (bq h) _ hg Tryz.underlying30 rfl (fY.trans (by rw[hs])),Result.andThen_ok];exact hK _ _ hk
end
def JD:Tl:=⟨none,0,0,none,0,0,List.replicate 8 (ay 0),du⟩
theorem CA:NN.uQ.tl=JD.C:=rfl
theorem zU:JD.ok:=⟨rfl,fe⟩
structure Nj (w wr:World) (bP bH:Nat) (p:NN.Pr) (h:Hd):Prop where
 be:Bl w wr
 p:NN.aA wr bP p
 h:aH wr bH h
variable{w:World}{bH:Nat}
theorem Nj.on{wr w':World}{bP:Nat}{p:NN.Pr}{h:Hd}(hs:Nj w wr bP bH p h)(hb:Bl wr w'):Nj w w' bP bH p h:=⟨ah hs.be hb,hs.p.on hb,hs.h.on hb⟩
def gN(x v:Int)(gs:List Gt):Bool:=gs.any fun g=>decide (g.h<=x)&&decide (v<g.v)
theorem Fb(x v:Int)(gs:List Gt)(k:Nat)(hk:k<gs.length):gN x v (gs.take (k+1))=(gN x v (gs.take k)||(decide ((gs.getD k kJ).h<=x)&&decide (v<(gs.getD k kJ).v))):=by
 have e:gs.take (k+1)=gs.take k++[gs.getD k kJ]:=by
  rw[List.take_add_one,List.getElem?_eq_getElem hk,List.getD_eq_getElem?_getD,List.getElem?_eq_getElem hk];rfl
 rw[e];unfold gN;rw[List.any_append];simp
theorem F8(x v:Int)(gs:List Gt)(k:Nat)(h:gN x v (gs.take k)=true):gN x v gs=true:=by have e:gs=gs.take k++gs.drop k:=(List.take_append_drop k gs).symm;rw[e];unfold gN at*;rw[List.any_append,h];rfl
def Dq(g0 b1 b2 g3 b4 b5 b6 g7:Bool):Int:=
 if g0=false then 1 else if b1=true then 2 else if b2=true then 3 else if g3=false then 4 else if b4=true then 5 else if b5=true then 6 else if b6=true then 7 else if g7=false then 8 else 0
def nj(t now Sb:Int):Bool:=decide (Sb<0)||(decide (now<t)&&decide (Sb<IntKind.i64.wrap (t-now)))
variable{P:Program}{ops:Array Oper}{o:Oper}{a:Act}{Q:Exit->Act->World->Prop}{C:World->Prop}{S:World->World->Prop}{f:FuncId}{args:Array Value}
theorem B3{R:Value->World->Prop}{J:Act->World->Prop}{V:Value->World->Prop}(hn:Region.wanted o (yielded ops a.tmps)=true)(h:(execOp a.eval o).run P w=.ok (.enter f args) w)(hcall:Calls P f args w fun e w'=>∃v,e=.returned v/\V v w'/\Bl w w')(hr:∀v w',V v w'->Bl w w'->C w'/\S w w'/\R v w'/\J (a.put o.dst v) w'):if Region.wanted o (yielded ops a.tmps)=true then o.wp P a w (fun a' w'=>C w'/\S w w'/\∃v,a'=a.put o.dst v/\R v w'/\J a' w') Q else R undef w/\J (a.put o.dst undef) w:=by
 rw[if_pos hn];unfold Oper.wp;rw[h];refine Calls.mono hcall fun e w' he=>?_
 obtain⟨v,rfl,hv,hb⟩:=he;obtain⟨h1,h2,h3,h4⟩:=hr v w' hv hb;exact⟨h1,h2,v,rfl,h3,h4⟩
theorem RB{a0:Act}{R:Nat->Value->World->Prop}{I:Array Bool->Act->World->Prop}{lz:Array Bool}{W:Value->World->Prop}(i:Nat)(_hinv:cY .any ops a0 C R I lz a w)(hn:Region.wanted o (yielded ops a.tmps)=true)(h:(execOp a.eval o).run P w=.ok (.enter f args) w)(hcall:Calls P f args w fun e w'=>∃v,e=.returned v/\W v w'/\Bl w w')(hr:∀v w',W v w'->Bl w w'->C w'/\S w w'/\R i v w'/\I (lz.setIfInBounds i true) (a.put o.dst v) w'):if Region.wanted o (yielded ops a.tmps)=true then o.wp P a w (fun a' w'=>C w'/\S w w'/\∃v,a'=a.put o.dst v/\R i v w'/\I (lz.setIfInBounds i true) a' w') Q else R i undef w/\I (lz.setIfInBounds i true) (a.put o.dst undef) w:=
 B3 (S:=S) (C:=C) (R:=R i) (J:=fun a' w'=>I (lz.setIfInBounds i true) a' w') (V:=W) hn h hcall hr
def QU(bH:Nat)(ht m:Int)(ts:List Int)(po:Option Addr)(n co:Nat)(b4:Bool):Nat->Value->World->Prop
 | 0,v,_=>v=i_ n
 | 1,v,_=>v=.bool true
 | 2,v,_=>v=.bool true
 | 3,v,_=>v=.pointer (some ⟨bH,65,none⟩)
 | 4,v,_=>v=i_ ht
 | 5,v,_=>v=.slice po n co
 | 6,v,w=>∃p' c',v=.slice p' (min n 11) c'/\min n 11<=c'/\MM.ft w 0 w.heap.size p' (Md.last ts)
 | 7,v,_=>v=i_ m
 | 8,v,_=>v=.bool b4
 | 9,v,_=>v=.bool b4
 | _,_,_=>True
theorem Gm{ht m:Int}{ts:List Int}{po:Option Addr}{n co:Nat}{b4:Bool}(i:Nat)(v:Value)(w w':World)(hs:Bl w w')(hr:QU bH ht m ts po n co b4 i v w):QU bH ht m ts po n co b4 i v w':=by
 match i,hr with
 | 0,hr=>exact hr
 | 1,hr=>exact hr
 | 2,hr=>exact hr
 | 3,hr=>exact hr
 | 4,hr=>exact hr
 | 5,hr=>exact hr
 | 6,⟨p',c',h1,h2,h3⟩=>exact⟨p',c',h1,h2,(h3.below hs (Nat.le_refl _)).wide (Nat.le_refl _) hs.size⟩
 | 7,hr=>exact hr
 | 8,hr=>exact hr
 | 9,hr=>exact hr
 | _+10,_=>trivial
variable{ρ:Operand->Value}{x y:Operand}{b:Int}
theorem AS{a:Int}(ho:o.op=.binOp .gtr 3 x y 3)(hx:ρ x=i_ a)(hy:ρ y=i_ b):(execOp ρ o).run Tryz.prog w=.ok (.value (.bool (decide (b<a)))) w:=by unfold execOp;simp only[ho,hx,hy];kernel_rfl
theorem Ad{a:Int}(ho:o.op=.binOp .leq 3 x y 3)(hx:ρ x=i_ a)(hy:ρ y=i_ b):(execOp ρ o).run Tryz.prog w=.ok (.value (.bool (decide (a<=b)))) w:=by unfold execOp;simp only[ho,hx,hy];kernel_rfl
theorem PD{p:Addr}{z:Int}(ho:o.op=.load 3 x)(hx:ρ x=.pointer (some p))(hc:w.cell? p=some (i_ z)):(execOp ρ o).run Tryz.prog w=.ok (.value (i_ z)) w:=by
 have hl:(loadVar 3 p).run Tryz.prog w=.ok (i_ z) w:=by go_simp
 unfold execOp;simp only[ho,hx,Instr.loadAt,Instr.sureAddr,Sem.run_bind,Sem.run_pure,Result.andThen_ok,hl]
theorem CR(p:NN.Pr)(hz:(NN.aE p).size=83)(a:Option Addr)(ch:List Hd)(n c:Nat)(hn:n=ch.length)(h0:0<n)(hl:n<=1000)(h:Hd)(ho:h.ok)(now:Int)(w:World)(hA:aO w a ch)(tl:Tl)(tt:p.tl=tl.C)(gs:List Gt)(cs:List Ck)(hgn:tl.gn=gs.length)(hcn:tl.cn=cs.length)(hgl:tl.gn<=1000)(hcl:tl.cn<=1000)(hG:aJ w tl.ga gs)(hC:az w tl.ca cs)(g0 b1 b2 g3 b4 b5 b6 g7:Bool)(KG:Hid (b_ 73 #[.agg (aD h)] (.bool g0)))(pid id:List UInt8)(Th:pid.length=32)(Xp:id.length=32)(KP:Hid (b_ 75 #[.agg (aD (ch.getD (n-1) du))] (.agg (ae pid))))(KI:Hid (b_ 75 #[.agg (aD h)] (.agg (ae id))))(t1:(!(h.prev==pid))=b1)(hv hb ht nb Sb:Int)(ev:Hid (h.v=hv))(eb:Hid (h.bits=hb))(et:Hid (h.time=ht))(e3:Hid (p.Sb=Sb))(KB:Hid (∀w,aO w a ch->ak 111 #[.agg (NN.aE p),.slice a n c,i_ ht] w (i_ nb)))(t2:(hb != nb)=b2)(KW:Hid (b_ 112 #[.agg (NN.aE p),.agg (aD h)] (.bool g3)))(m:Int)(hm:m=Md.km (Md.last (ch.map Hd.time)))(t4:decide (ht<=m)=b4)(t5:nj ht now Sb=b5)(t6:gN (n:Int) hv gs=b6)(t7:k9 (n:Int) id cs=g7):ak 78 #[.agg (NN.aE p),.slice a n c,.agg (aD h),i_ now] w (i_ (Dq g0 b1 b2 g3 b4 b5 b6 g7)):=by
 have za:=fX ho;have HN:=h_ hn;have HA:=h_ hA;have VZ:=h_ hgn;have V0:=h_ hcn;have HG:=h_ hG;have HC:=h_ hC;have HM:=h_ hm;have T5:=h_ t5;have T6:=h_ t6;have T7:=h_ t7;have P5:Hid (∀wx b,NN.aA wx b p->wx.cell? ⟨b,5,none⟩=some (.slice tl.ga tl.gn tl.gc)):=h_ (fun wx b hh=>ni hh tt);have P6:Hid (∀wx b,NN.aA wx b p->wx.cell? ⟨b,6,none⟩=some (.slice tl.ca tl.cn tl.cc)):=h_ (fun wx b hh=>mV hh tt);obtain⟨y,hy⟩:∃y,y=n-1:=⟨_,rfl⟩;have wm:IntKind.i64.wrap ((n:Int)-1)=(y:Int):=by rw[IntKind.wrap_i64];omega
 have hyn:y<n:=by omega
 have d0:decide (0<(n:Int))=true:=decide_eq_true (by omega);obtain⟨TC,TD,ea,Xo,hc0⟩:=hA (by rw[<-hn];omega)
 have hq:(ch.getD y du).ok/\w.rangeAt TC (TD+y*68) (bq (ch.getD y du)):=by
  rw[pI (show y<ch.length by rw[<-hn];omega)];exact hc0 y _
 rw[<-hy]at KP;obtain⟨l,hlast⟩:∃l,l=ch.getD y du:=⟨_,rfl⟩;rw[<-hlast]at KP hq;subst ea;have q1:=er hq.1;have HR:=h_ hq.2;have qn:=jg h.prev pid ho.1 Th _ t1;have hyi:(y:Int)<(n:Int):=by omega
 obtain⟨ga,hga⟩:∃x,x=tl.ga:=⟨_,rfl⟩;obtain⟨gn,hgn2⟩:∃x,x=tl.gn:=⟨_,rfl⟩;obtain⟨gc,hgc⟩:∃x,x=tl.gc:=⟨_,rfl⟩;obtain⟨ca,Vw⟩:∃x,x=tl.ca:=⟨_,rfl⟩;obtain⟨cn,V1⟩:∃x,x=tl.cn:=⟨_,rfl⟩;obtain⟨cc,hcc⟩:∃x,x=tl.cc:=⟨_,rfl⟩;rw[<-hga,<-hgn2,<-hgc]at P5;rw[<-Vw,<-V1,<-hcc]at P6;rw[<-hgn2]at VZ hgl;rw[<-V1]at V0 hcl;rw[<-hga]at HG;rw[<-Vw]at HC;clear hn hA hgn hcn hG hC hm t5 t6 t7 tt hy hlast hc0 hq hga hgn2 hgc Vw V1 hcc;go_enter Tryz.func78,Tryz.ntmps78;go_upto_region 1 with fail
 generalize hw0:World.alloc _ _=v0
 have hs:Nj w v0 w.heap.size (w.heap.size+1) p h:=by
  rw[<-hw0];exact⟨aY.alloc (by simp) _,(NN.Has.new _ _).alloc _,qj w _ h⟩
 clear hw0;obtain⟨bP,Sf⟩:∃b,b=w.heap.size:=⟨_,rfl⟩;obtain⟨bH,R'⟩:∃b,b=w.heap.size+1:=⟨_,rfl⟩;rw[<-R',<-Sf]at hs|-;clear Sf R';have hH:=hs.h;go_wp2_with (first|fail|(with_reducible refine cP rfl _ rfl bH rfl hH za ?_))
 refine au (KG.out _) fun v1 hb1=>?_;replace hs:=hs.on hb1;clear hb1 hH;cases g0
 ·go_wp2_with fail
  go_ret;exact⟨rfl,hs.be⟩
 go_upto_region 4 with fail
 have qc:=gv (vm hs.h.range) (by rw[Lib.byteCells_length,ho.1];omega);rw[Nat.zero_add]at qc;have qd:=gv (iE HR.out hs.be (j3 l)) (j3 l);have s1:=il ho.1;refine wp_region_quiet_below (by kernel_rfl) (by kernel_rfl) ?_
 repeat(first
  | (go_big_quiet_want;(with_reducible first|refine nB _ rfl bH 1 rfl h.prev s1 qc ?_|refine kt _ rfl TC (TD+y*68) rfl l q1 qd ?_|refine BM _ _ _ rfl _ _ _ rfl rfl qn ?_);(simp only[Act.put,List.setIfInBounds_toArray,List.set_cons_zero,List.set_cons_succ]);go_big_quiet_on)
  | go_big_quiet_step ((go_at_call 75;exact Calls.regrown_of (KP.out _))))
 refine wpQuiet_nil ?_;intro v2 hw';obtain⟨rg,hw''⟩:=hw';have hb2:Below v1.heap.size v1 v2:=by rw[hw''];exact below_regrown v1 rg.d rg.os
 clear hw'';replace hs:=hs.on hb2;clear hb2 qc qd s1 qn;cases b1
 case true=>
  go_wp2_with fail
  go_ret;exact⟨rfl,hs.be⟩
 go_upto_region 6 with fail
 have hbr:∀d os,Below w.heap.size w (Sort.grow (redrawn v2 d) os):=fun d os=>hs.be.trans ((below_regrown v2 d os).mono hs.be.size)
 have qb:∀d os,(Sort.grow (redrawn v2 d) os).cell? ⟨bH,66,none⟩=some (i_ hb):=cell_regrown (by rw[<-eb.out];exact hs.h.bits ho);have qt:∀d os,(Sort.grow (redrawn v2 d) os).cell? ⟨bH,65,none⟩=some (i_ ht):=cell_regrown (by rw[<-et.out];exact hs.h.time ho);have qp:=hs.p.cls;refine wp_region_quiet_below (by kernel_rfl) (by kernel_rfl) ?_
 repeat(first
  | (go_big_quiet_want;(with_reducible refine NN.Ih _ rfl _ rfl hz qp ?_);(simp only[Act.put,List.setIfInBounds_toArray,List.set_cons_zero,List.set_cons_succ]);go_big_quiet_on)
  | go_big_quiet_step ((go_at_call 111;exact Calls.regrown_of (KB.out _ (HA.out.below (hbr _ _))))))
 refine wpQuiet_nil ?_;intro v3 hw';obtain⟨rg,hw''⟩:=hw';have hb3:Below v2.heap.size v2 v3:=by rw[hw''];exact below_regrown v2 rg.d rg.os
 clear hw'' hbr;replace hs:=hs.on hb3;clear hb3 qb qt qp;cases b2
 case true=>
  go_wp2_with fail
  go_ret;exact⟨rfl,hs.be⟩
 have hH:=hs.h;have hP:=hs.p;go_wp2_with (with_reducible first|refine cP rfl _ rfl bH rfl hH za ?_|refine NN.dH rfl _ rfl _ rfl hP hz ?_)
 refine au (KW.out _) fun v4 hb4=>?_;replace hs:=hs.on hb4;clear hb4 hH hP;cases g3
 ·go_wp2_with fail
  go_ret;exact⟨rfl,hs.be⟩
 go_wp2_with fail
 go_loopw [10,49] (fun o i wr=>∃k:Nat,k<=n/\i=i_ k/\wr.ownsRow v4.heap.size 3 1 o k (((ch.take k).map Hd.time).map (Value.int .i64))/\Below v4.heap.size v4 wr) (fun _ i _=>n-(intOf i).toNat)
 case atStart=>exact⟨0,by omega,rfl,World.ownsRow_nil _ _ _ _,bf⟩
 case round=>
  obtain⟨k,hk,rfl,hown,hB⟩:=hrel;obtain⟨po,co,hu⟩:=EW hown;subst hu;by_cases hlt:k<n
  ·obtain⟨ab,ao,ea,Sv,hc⟩:=(HA.out.below (hs.on hB).be) (by rw[<-HN.out];omega);cases ea
   have q:(ch.getD k du).ok/\wr.rangeAt TC (TD+k*68) (bq (ch.getD k du)):=by
    rw[pI (show k<ch.length by rw[<-HN.out];omega)];exact hc k _
   have HT:Hid ((ch.take (k+1)).map Hd.time=(ch.take k).map Hd.time++[(ch.getD k du).time]):=h_ (by
    have hk2:k<ch.length:=(by rw[<-HN.out];exact hlt);rw[List.take_add_one,List.getElem?_eq_getElem hk2,List.getD_eq_getElem?_getD,List.getElem?_eq_getElem hk2,List.map_append];rfl)
   generalize ch.getD k du=z at*;obtain⟨Vv,rz⟩:=q;have z1:=er Vv;have z2:=fX Vv;have qz:=fX fe;have hnew:=Ae wr;have hZ:aH ((wr.alloc (.cells Tryz.zeroCells30 30)).setRow wr.heap.size (aD z)) wr.heap.size z:=Has.row hnew _;have hb1:Below wr.heap.size wr ((wr.alloc (.cells Tryz.zeroCells30 30)).setRow wr.heap.size (aD z)):=below_setRow aY (Nat.le_refl _) _;obtain⟨tz,htz⟩:∃tz,tz=z.time:=⟨_,rfl⟩;have ct:=hZ.time Vv;rw[<-htz]at ct HT;clear hc htz hZ
   go_upto_region 14 with(first
    | (with_reducible refine ja rfl _ rfl TC (TD+k*68) rfl z rz z1 ?_)
    | (with_reducible refine jA rfl _ _ rfl _ _ z rfl rfl rfl z2 hnew qz ?_))
   generalize hgv:World.setRow _ _ _=v6 at*;clear hgv rz hnew;have Yx:=ah hB hb1;have hown6:=MM.EZ hown hb1 (Nat.le_refl _);have Xq:=hown6.alloc (.cells #[i_ tz] 3);have hgb:=h_ (fun k=>(hown6.lt k));have hc7:(v6.alloc (.cells #[i_ tz] 3)).cell? ⟨v6.heap.size,0,none⟩=some (i_ tz):=(Has.new (w:=v6) #[i_ tz] 3).cell 0;have hbs:v4.heap.size<=(v6.alloc (.cells #[i_ tz] 3)).heap.size:=by rw[World.size_alloc];have:=Yx.size;omega
   have Yy:=h_ (Yx.alloc Yx.size (.cells #[i_ tz] 3));have V2:k<=1000:=by omega
   clear hb1 hown hown6 hB Yx;go_wp2_with ((with_reducible refine MM.IV rfl (.tmp 53) (.tmp 56) rfl v4.heap.size (.slice po k co) k ((ch.take k).map Hd.time) rfl Xq v6.heap.size tz rfl hc7 V2 hbs ?_);intro v' w2 hown2 hg2)
   go_roundw
   case rel=>exact⟨k+1,by omega,by go_num,by rw[HT.out];exact hown2,Yy.out.grown hg2 hbs (fun k hk=>(hgb.out k hk).1)⟩
   case measure=>simp[intOf];omega
  ·obtain rfl:k=n:=by omega
   rw[List.take_of_length_le (by rw[<-HN.out];exact Nat.le_refl _)]at hown;obtain⟨p5,c5,e5,hcap,hlen,hL⟩:=MM.Ah hown;cases e5;replace hs:=hs.on hB;clear hB hown;have hcT:wr.cell? ⟨bH,65,none⟩=some (i_ ht):=by rw[<-et.out];exact hs.h.time ho
   have hbl:bH<wr.heap.size:=hs.h.lt;have hL0:=hL.wide (Nat.zero_le _) (Nat.le_refl _);generalize ch.map Hd.time=ts at*;have KL:Hid (∀wx,Below wr.heap.size wr wx->aG 114 #[.slice po k co] wx fun r w'=>∃v,r=.returned v/\(∃p' c',v=.slice p' (min k 11) c'/\min k 11<=c'/\MM.ft w' 0 w'.heap.size p' (Md.last ts))/\Below wx.heap.size wx w'):=h_ fun wx hb=>(MM.DP po k co ts hlen (by omega) wx (hL0.below hb (Nat.le_refl _)) hb.size).mono (fun e w' ⟨p',c',h1,h2,h3,h4⟩=>⟨_,h1,⟨p',c',rfl,h2,h3.wide (Nat.zero_le _) (Nat.le_refl _)⟩,h4⟩)
   have KO:Hid (∀(p':Option Addr)(c':Nat)(wx:World),min k 11<=c'->MM.ft wx 0 wx.heap.size p' (Md.last ts)->ak 113 #[.slice p' (min k 11) c'] wx (i_ m)):=h_ fun p' c' wx h1 h2=>by rw[HM.out];exact MM.lE p' (min k 11) c' (Md.last ts) (by rw[Md.LZ,hlen]) h1 (by omega) wx h2 (Nat.le_refl _)
   clear hL hL0 hcap hlen HM;go_upto_region 16 with fail
   refine ix (by kernel_rfl) (fun w'=>Below wr.heap.size wr w') (fun i v' w'=>QU bH ht m ts po k co b4 i v' w') (fun _ _ _=>True) (fun w1 w2=>Below w1.heap.size w1 w2) (fun _ _=>Below.refl _ _) (fun i v w w' _ hs h=>Gm i v w w' hs h) (by kernel_rfl) bf.drew (fun _ _=>trivial) ?_ ?_
   ·intro i o lz a wx ho' hn' dq Z;have hC':=Z.c;have hi:i<10:=(Array.getElem?_eq_some_iff.1 ho').1;obtain rfl|rfl|rfl|rfl|rfl|rfl|rfl|rfl|rfl|rfl:i=0\/i=1\/i=2\/i=3\/i=4\/i=5\/i=6\/i=7\/i=8\/i=9:=(by omega);all_goals obtain rfl:=Option.some.inj ho'
    exact dA (S:=fun w1 w2=>Below w1.heap.size w1 w2) (fun _ _=>Below.refl _ _) 0 Z (an rfl) (NN.dy rfl) ((Z.old' 9)) trivial;have e59:a.eval (.tmp 59)=i_ k:=(ar Z dq 0 59);exact dA (S:=fun w1 w2=>Below w1.heap.size w1 w2) (fun _ _=>Below.refl _ _) 1 Z (an rfl) (AS rfl e59 rfl) (congrArg Value.bool d0) trivial;exact dA (S:=fun w1 w2=>Below w1.heap.size w1 w2) (fun _ _=>Below.refl _ _) 2 Z (an rfl) (NN.dy rfl) ((ar Z dq 1 60)) trivial;exact dA (S:=fun w1 w2=>Below w1.heap.size w1 w2) (fun _ _=>Below.refl _ _) 3 Z (Dw Z dq 2 61 rfl) (LY rfl (Z.old' 6)) (rfl) trivial;exact dA (S:=fun w1 w2=>Below w1.heap.size w1 w2) (fun _ _=>Below.refl _ _) 4 Z (Dw Z dq 2 61 rfl) (PD rfl (ar Z dq 3 62) (by rw[hC'.cell (p:=⟨bH,65,none⟩) hbl];exact hcT)) (rfl) trivial;exact dA (S:=fun w1 w2=>Below w1.heap.size w1 w2) (fun _ _=>Below.refl _ _) 5 Z (Dw Z dq 2 61 rfl) (NN.dy rfl) ((Z.old' 10)) trivial
    ·have e64:a.eval (.tmp 64)=.slice po k co:=(ar Z dq 5 64);exact RB (S:=fun w1 w2=>Below w1.heap.size w1 w2) 6 Z (W:=fun v w'=>∃p' c',v=.slice p' (min k 11) c'/\min k 11<=c'/\MM.ft w' 0 w'.heap.size p' (Md.last ts)) (Dw Z dq 2 61 rfl) (f:=114) (args:=#[a.eval (.tmp 64)]) (by kernel_rfl) (by rw[e64];exact KL.out wx hC') (fun v w' hv hb=>⟨ah hC' hb,hb,hv,trivial⟩)
    ·obtain⟨p',c',e65,h1,h2⟩:∃p' c',a.eval (.tmp 65)=.slice p' (min k 11) c'/\min k 11<=c'/\MM.ft wx 0 wx.heap.size p' (Md.last ts):=(ar Z dq 6 65);exact mf (S:=fun w1 w2=>Below w1.heap.size w1 w2) 7 Z (Dw Z dq 2 61 rfl) (f:=113) (args:=#[a.eval (.tmp 65)]) (by kernel_rfl) (by rw[e65];exact KO.out p' c' wx h1 h2) (fun w' hb=>⟨ah hC' hb,hb,rfl,trivial⟩)
    have e63:a.eval (.tmp 63)=i_ ht:=(ar Z dq 4 63);have Zl:a.eval (.tmp 66)=i_ m:=(ar Z dq 7 66);exact dA (S:=fun w1 w2=>Below w1.heap.size w1 w2) (fun _ _=>Below.refl _ _) 8 Z (Dw Z dq 2 61 rfl) (Ad rfl e63 Zl) (congrArg Value.bool t4) trivial;have e61:a.eval (.tmp 61)=.bool true:=(ar Z dq 2 61);have e67:a.eval (.tmp 67)=.bool b4:=(ar Z dq 8 67);exact dA (S:=fun w1 w2=>Below w1.heap.size w1 w2) (fun _ _=>Below.refl _ _) 9 Z (an rfl) (yB rfl e61) (by rw[if_pos rfl];exact e67) trivial
   intro lz a v7 hall Z;have hC':=Z.c;have V3:a.eval (.tmp 68)=.bool b4:=Z.got 9 _ 68 rfl (hall 9 (by decide)) rfl;have e3':a.eval (.tmp 3)=i_ now:=Z.old' 3;have e4':a.eval (.tmp 4)=af bP:=Z.old' 4;have Zm:a.eval (.tmp 6)=af bH:=Z.old' 6;have Zn:a.eval (.tmp 9)=i_ k:=Z.old' 9;replace hs:=hs.on hC';obtain⟨u,hu⟩:∃u:Nat->Value,∀t,u t=a.eval (.tmp t):=⟨_,fun _=>rfl⟩;rw[e_ a 125 u Z.R4 Z.defers hu];rw[<-hu]at V3 e3' e4' Zm Zn;clear hu Z hall hC' KL KO hcT hbl;simp only[List.range,List.range.loop,List.map_cons,List.map_nil];rw[V3,e3',e4',Zm,Zn];clear V3 e3' e4' Zm Zn;cases b4
   case true=>
    (go_wp2_with fail);go_ret;exact⟨rfl,hs.be⟩
   have ct:=hs.h.time ho;rw[et.out]at ct;have c3:=hs.p.c3 e3;have h5:=T5.out;unfold nj at h5;cases f1:decide (Sb<0)
   case true=>
    obtain rfl:true=b5:=(by rw[<-h5,f1];rfl);clear h5;(go_wp2_with fail);go_ret;exact⟨rfl,hs.be⟩
   cases f2:decide (now<ht)
   case' false=>
    obtain rfl:false=b5:=(by rw[<-h5,f1,f2];rfl);clear h5 T5;(go_upto_region 20 with fail);clear ct c3 f1 f2
   case' true=>
    obtain⟨dt,hdt⟩:∃dt,IntKind.i64.wrap (ht-now)=dt:=⟨_,rfl⟩;cases f3:decide (Sb<dt)
    case true=>
     obtain rfl:true=b5:=(by rw[<-h5,f1,f2,hdt,f3];rfl);clear h5;(go_wp2_with fail);go_ret;exact⟨rfl,hs.be⟩
    obtain rfl:false=b5:=(by rw[<-h5,f1,f2,hdt,f3];rfl);clear h5 T5;(go_upto_region 20 with fail);clear ct c3 f1 f2 f3 hdt
   all_goals
    have c5:=P5.out _ _ hs.p;(go_wp2_with fail);clear c5;go_loopw [90] (fun i wr=>∃j:Nat,j<=gn/\i=i_ j/\Hid (gN (k:Int) hv (gs.take j)=false)/\Below v7.heap.size v7 wr) (fun i _=>gn-(intOf i).toNat)
    case atStart=>exact⟨0,by omega,rfl,h_ rfl,bf⟩
    case round=>
     obtain⟨j,hj,rfl,HZ,hB⟩:=hrel;by_cases hlt:j<gn
     ·obtain⟨ab,ao,rfl,Sv,hc⟩:=(HG.out.below (hs.on hB).be) (by rw[<-VZ.out];omega)
      have q:wr.rangeAt ab (ao+j*2) (j8 (gs.getD j kJ)):=by
       have:=hc j (by rw[<-VZ.out];omega);rwa[show gs.getD j kJ=gs[j]'(by rw[<-VZ.out];omega) by rw[List.getD_eq_getElem?_getD,List.getElem?_eq_getElem (by rw[<-VZ.out];omega)];rfl]
      have hnx:=Fb (k:Int) hv gs j (by rw[<-VZ.out];omega);rw[HZ.out,Bool.false_or]at hnx;generalize gs.getD j kJ=y2 at*;have HX:=h_ hnx;have hnew:=xN wr;have hY:kr ((wr.alloc (.cells #[i_ 0,i_ 0] 108)).setRow wr.heap.size (mD y2)) wr.heap.size y2:=Has.row hnew _;have hB2:Below v7.heap.size v7 ((wr.alloc (.cells #[i_ 0,i_ 0] 108)).setRow wr.heap.size (mD y2)):=below_setRow (hB.alloc hB.size _) hB.size _;have hs2:=hs.on hB2;have c0:=hY.c0;have c1:=hY.c1;have cv:World.cell? ((wr.alloc (.cells #[i_ 0,i_ 0] 108)).setRow wr.heap.size (mD y2)) ⟨bH,0,none⟩=some (i_ hv):=(by rw[<-ev.out];exact hs2.h.v);clear hnx hc hY hB;cases f1:decide (y2.h<=(k:Int))
      ·have HZ2:Hid (gN (k:Int) hv (gs.take (j+1))=false):=h_ (by rw[HX.out,f1];rfl);clear HX HZ hs2;(go_wp2_with (with_reducible first|refine lu rfl _ rfl ab (ao+j*2) rfl y2 q ?_|refine kU rfl _ _ rfl _ y2 rfl rfl hnew ?_));go_roundw
       case rel=>exact⟨j+1,by omega,by go_num,HZ2,hB2⟩
       case measure=>simp[intOf];omega
      ·cases f2:decide (hv<y2.v)
       ·have HZ2:Hid (gN (k:Int) hv (gs.take (j+1))=false):=h_ (by rw[HX.out,f1,f2];rfl);clear HX HZ hs2;(go_wp2_with (with_reducible first|refine lu rfl _ rfl ab (ao+j*2) rfl y2 q ?_|refine kU rfl _ _ rfl _ y2 rfl rfl hnew ?_));go_roundw
        case rel=>exact⟨j+1,by omega,by go_num,HZ2,hB2⟩
        case measure=>simp[intOf];omega
       ·have hgf:b6=true:=by
         rw[<-T6.out];exact F8 (k:Int) hv gs (j+1) (by rw[HX.out,f1,f2];rfl)
        subst hgf;(go_wp2_with (with_reducible first|refine lu rfl _ rfl ab (ao+j*2) rfl y2 q ?_|refine kU rfl _ _ rfl _ y2 rfl rfl hnew ?_));go_ret;exact⟨rfl,hs2.be⟩
     ·obtain rfl:j=gn:=by omega
      have hfin:b6=false:=by
       rw[<-T6.out];have:=HZ.out;rwa[VZ.out,List.take_length]at this
      subst hfin;have c6:=P6.out _ _ (hs.on hB).p;replace hs:=hs.on hB;clear hB HG;obtain⟨v9,hv9⟩:∃v9,v9=wr:=⟨_,rfl⟩;rw[<-hv9]at c6 hs|-;clear hv9;(go_wp2_with fail);clear c6;go_loopw [109] (fun i wr=>∃j:Nat,j<=cn/\i=i_ j/\Hid (k9 (k:Int) id (cs.take j)=true)/\Below v9.heap.size v9 wr) (fun i _=>cn-(intOf i).toNat)
      case atStart=>exact⟨0,by omega,rfl,h_ rfl,bf⟩
      case round=>
       obtain⟨j,hj,rfl,HZ,hB⟩:=hrel;by_cases hlt:j<cn
       ·obtain⟨ab,ao,rfl,Sv,hc⟩:=(HC.out.below (hs.on hB).be) (by rw[<-V0.out];omega)
        have q0:(cs.getD j jG).id.length=32/\wr.rangeAt ab (ao+j*33) (jd (cs.getD j jG)):=by
         have:=hc j (by rw[<-V0.out];omega);rwa[show cs.getD j jG=cs[j]'(by rw[<-V0.out];omega) by rw[List.getD_eq_getElem?_getD,List.getElem?_eq_getElem (by rw[<-V0.out];omega)];rfl]
        have hnx:=LS (k:Int) id cs j (by rw[<-V0.out];omega);rw[HZ.out,Bool.true_and]at hnx;generalize cs.getD j jG=y2 at*;obtain⟨y32,q⟩:=q0;have HX:=h_ hnx;have z1:=nJ y32;have z2:=rD y32;have z3:(mw jG).size=33:=rfl;have hnew:=qQ wr;have hY:=tj wr y2;have hB2:=vR hB y2;clear hnx hc hB;(go_upto_region 29 with(with_reducible first|refine mB rfl _ rfl ab (ao+j*33) rfl y2 q z1 ?_|refine mF rfl _ _ rfl _ y2 rfl rfl z2 hnew z3 ?_));generalize hgv:World.setRow _ _ _=v8 at*;clear hgv q hnew;simp only[Act.put];generalize wr.heap.size=bC at*;have Vm:=hs.on hB2;have q0:∀d os,(Sort.grow (redrawn v8 d) os).cell? ⟨bC,0,none⟩=some (i_ y2.h):=cell_regrown hY.c0;have qi:=gv hY.id (by rw[Lib.byteCells_length,y32];omega);have qd:=gv Vm.h.range (j3 h);have s1:=il y32;have sd:=er ho;cases hh:(y2.h==(k:Int))
        ·have HZ2:Hid (k9 (k:Int) id (cs.take (j+1))=true):=h_ (by rw[HX.out,hh];rfl);refine wp_region_quiet_below (by kernel_rfl) (by kernel_rfl) ?_
         repeat(first
          | (go_big_quiet_want;(with_reducible first|refine nB _ rfl bC 1 rfl y2.id s1 qi ?_|refine kt _ rfl bH 0 rfl h sd qd ?_);(simp only[Act.put,List.setIfInBounds_toArray,List.set_cons_zero,List.set_cons_succ]);go_big_quiet_on)
          | go_big_quiet_step (fail))
         refine wpQuiet_nil ?_;intro Xr hw';obtain⟨rg,hw''⟩:=hw';have hbq:Below v8.heap.size v8 Xr:=(by rw[hw''];exact below_regrown v8 rg.d rg.os);clear hw'';have hB3:=ah hB2 hbq;clear HX HZ q0 qi qd s1 sd Vm hB2 hbq hY;(go_wp2_with fail);go_roundw
         case rel=>exact⟨j+1,by omega,by go_num,HZ2,hB3⟩
         case measure=>simp[intOf];omega
        ·cases he:(y2.id==id)
         ·have qn:=jg y2.id id y32 Xp true (by rw[he];rfl)
          have hgf:g7=false:=by
           rw[<-T7.out];exact sz (k:Int) id cs (j+1) (by rw[HX.out,hh,he];rfl)
          subst hgf;refine wp_region_quiet_below (by kernel_rfl) (by kernel_rfl) ?_
          repeat(first
           | (go_big_quiet_want;(with_reducible first|refine nB _ rfl bC 1 rfl y2.id s1 qi ?_|refine kt _ rfl bH 0 rfl h sd qd ?_|refine BM _ _ _ rfl _ _ _ rfl rfl qn ?_);(simp only[Act.put,List.setIfInBounds_toArray,List.set_cons_zero,List.set_cons_succ]);go_big_quiet_on)
           | go_big_quiet_step ((go_at_call 75;exact Calls.regrown_of (KI.out _))))
          refine wpQuiet_nil ?_;intro Xr hw';obtain⟨rg,hw''⟩:=hw';have hbq:Below v8.heap.size v8 Xr:=(by rw[hw''];exact below_regrown v8 rg.d rg.os);clear hw'';replace Vm:=Vm.on hbq;(go_wp2_with fail);go_ret;exact⟨rfl,Vm.be⟩
         ·have qn:=jg y2.id id y32 Xp false (by rw[he];rfl);have HZ2:Hid (k9 (k:Int) id (cs.take (j+1))=true):=h_ (by rw[HX.out,hh,he];rfl);refine wp_region_quiet_below (by kernel_rfl) (by kernel_rfl) ?_
          repeat(first
           | (go_big_quiet_want;(with_reducible first|refine nB _ rfl bC 1 rfl y2.id s1 qi ?_|refine kt _ rfl bH 0 rfl h sd qd ?_|refine BM _ _ _ rfl _ _ _ rfl rfl qn ?_);(simp only[Act.put,List.setIfInBounds_toArray,List.set_cons_zero,List.set_cons_succ]);go_big_quiet_on)
           | go_big_quiet_step ((go_at_call 75;exact Calls.regrown_of (KI.out _))))
          refine wpQuiet_nil ?_;intro Xr hw';obtain⟨rg,hw''⟩:=hw';have hbq:Below v8.heap.size v8 Xr:=(by rw[hw''];exact below_regrown v8 rg.d rg.os);clear hw'';have hB3:=ah hB2 hbq;clear HX HZ q0 qi qd s1 sd Vm hB2 hbq hY qn;(go_wp2_with fail);go_roundw
          case rel=>exact⟨j+1,by omega,by go_num,HZ2,hB3⟩
          case measure=>simp[intOf];omega
       ·obtain rfl:j=cn:=by omega
        have hfin:g7=true:=by
         rw[<-T7.out];have:=HZ.out;rwa[V0.out,List.take_length]at this
        subst hfin;(go_wp2_with fail);go_ret;exact⟨rfl,(hs.on hB).be⟩
theorem Ip(p:NN.Pr)(g:Hd)(hs:List Hd):∀k,k<=hs.length->(gQ p g hs k).ts=Md.last (((g::hs).take (k+1)).map Hd.time)
 | 0,_=>rfl
 | k+1,h=>by
  rw[o_ p g hs k (by omega)];show(hs.getD k du).time::(gQ p g hs k).ts.take 10=_;rw[Ip p g hs k (by omega)];have hk:k<hs.length:=by omega
  rw[show(g::hs).take (k+1+1)=(g::hs).take (k+1)++[hs.getD k du] by
   rw[List.take_add_one,List.getElem?_cons_succ,List.getElem?_eq_getElem hk,List.getD_eq_getElem?_getD,List.getElem?_eq_getElem hk];rfl]
  unfold Md.last;rw[List.map_append,List.reverse_append,List.take_take];rfl
theorem Dy(x v:Int):∀(gs:List Gt)(m:Int),(v<gs.foldl (fun m g=>if g.h<=x then max m g.v else m) m)↔(v<m\/gN x v gs=true)
 | [],m=>by simp[gN]
 | g::gs,m=>by
  rw[List.foldl_cons,Dy x v gs];rw[show gN x v (g::gs)=((decide (g.h<=x)&&decide (v<g.v))||gN x v gs)from rfl];by_cases h:g.h<=x
  ·rw[if_pos h,decide_eq_true h,Bool.true_and,Bool.or_eq_true,decide_eq_true_eq];constructor
   ·rintro(h1|h1)
    ·by_cases h2:v<m;exact .inl h2;exact .inr (.inl (by omega))
    exact .inr (.inr h1)
   rintro(h1|h1|h1);exact .inl (by omega);exact .inl (by omega);exact .inr h1
  rw[if_neg h,decide_eq_false h,Bool.false_and,Bool.false_or]
def lq(p:NN.Pr)(gs:List Gt)(cs:List Ck)(q:Ps)(h:Hd)(now:Int):Int:=
 if¬h.P then 1 else if¬h.prev=q.prev then 2 else if¬h.bits=NN.oR p q.x h.time then 3 else if nR p.lim h=false then 4 else if MM.late h.time q.ts=false then 5 else if nj h.time now p.Sb=true then 6 else if h.v<iU q.x.h gs then 7 else if k9 q.x.h h.id cs=false then 8 else 0
theorem Fy(t now Sb:Int)(h0:0<=t)(h1:t<=4294967295)(h2:-9223372036854775808<=now)(h3:now<=9223372036854775807):nj t now Sb = !lZ t now Sb:=by unfold nj lZ;rw[IntKind.wrap_i64];by_cases hf:Sb<0;rw[decide_eq_true hf,decide_eq_false (show¬0<=Sb by omega)];rfl;rw[decide_eq_false hf,decide_eq_true (show 0<=Sb by omega),Bool.false_or,Bool.true_and];by_cases hn:now<t;rw[decide_eq_true hn,Bool.true_and];rw[Bool.eq_iff_iff];simp;rw[decide_eq_false hn,Bool.false_and,decide_eq_true (by omega)];rfl
theorem L_(p:NN.Pr)(gs:List Gt)(cs:List Ck)(q:Ps)(h:Hd)(now:Int)(h2:-9223372036854775808<=now)(h3:now<=9223372036854775807)(e:NN.oR p q.x h.time=NN.nx p q.x h.time):lq p gs cs q h now=qy p gs cs q h now:=by unfold lq qy;rw[e];by_cases hP:h.P;rw[Fy h.time now p.Sb hP.2.2.1 hP.2.2.2.1 h2 h3];simp only[Bool.not_eq_true'];rw[if_pos hP,if_pos hP]
theorem Km(p:NN.Pr)(hp:p.ok)(t:Tl)(tt:p.tl=t.C)(gs:List Gt)(cs:List Ck)(hgn:t.gn=gs.length)(hcn:t.cn=cs.length)(hgl:t.gn<=1000)(hcl:t.cn<=1000)(a:Option Addr)(g:Hd)(hs:List Hd)(n c:Nat)(hn:n=hs.length+1)(hl:n<=1000)(h:Hd)(ho:h.ok)(now:Int)(w:World)(hA:aO w a (g::hs))(hG:aJ w t.ga gs)(hC:az w t.ca cs):ak 78 #[.agg (NN.aE p),.slice a n c,.agg (aD h),i_ now] w (i_ (lq p gs cs (gQ p g hs hs.length) h now)):=by
 have hz:=NN.eH hp;obtain⟨q,hq⟩:∃q,q=gQ p g hs hs.length:=⟨_,rfl⟩;have e1:n-1=hs.length:=by omega
 have eh:q.x.h=(n:Int):=by rw[hq,kE p g hs _ (Nat.le_refl _)];omega
 have ep:q.prev=((g::hs).getD (n-1) du).id:=by rw[hq,e1];exact(nw p g hs _ (Nat.le_refl _)).2.2
 have et:q.ts=Md.last ((g::hs).map Hd.time):=by
  rw[hq,Ip p g hs _ (Nat.le_refl _),List.take_of_length_le (by simp)]
 have lok:((g::hs).getD (n-1) du).ok:=by
  obtain⟨ab,ao,_,_,hc⟩:=hA (by simp);rw[pI (show n-1<(g::hs).length by simp;omega)];exact(hc _ _).1
 have hne:q.ts.isEmpty=false:=by
  have hl2:=m_ p g hs hs.length (Nat.le_refl _);rw[<-hq]at hl2;cases hts:q.ts with
  | nil=>rw[hts]at hl2;simp at hl2;omega
  | cons _ _=>rfl
 have key:=CR p hz a (g::hs) n c (by simpa using hn) (by omega) hl h ho now w hA t tt gs cs hgn hcn hgl hcl hG hC (decide h.P) _ _ (nR p.lim h) _ _ _ _ (h_ fun w=>mj h ho w) q.prev h.id (by rw[ep];exact iv _) (iv h) (h_ fun w=>by rw[ep];exact iX _ lok w) (h_ (iX h ho)) rfl
  h.v h.bits h.time (NN.oR p q.x h.time) p.Sb (h_ rfl) (h_ rfl) (h_ rfl) (h_ rfl) (h_ fun w' hA'=>by have:=Kt p hp a g hs n c hn hl h.time w' hA';rw[e1,<-hq]at this;exact this) rfl
  (h_ (wY p h ho _ rfl)) (Md.km q.ts) (by rw[et]) rfl rfl rfl rfl
 have Zo:Dq (decide h.P) (!(h.prev==q.prev)) (h.bits != NN.oR p q.x h.time) (nR p.lim h) (decide (h.time<=Md.km q.ts)) (nj h.time now p.Sb) (gN (n:Int) h.v gs) (k9 (n:Int) h.id cs)=lq p gs cs q h now:=by
  unfold Dq lq MM.late;rw[eh,hne,Bool.false_or];by_cases hP:h.P
  ·rw[decide_eq_true hP,if_neg (show¬(true=false) by simp),if_neg (show¬¬h.P from fun hh=>hh hP)];by_cases h1:h.prev=q.prev;rw[if_neg (show¬(!(h.prev==q.prev))=true by simp[h1]),if_neg (show¬¬h.prev=q.prev from fun hh=>hh h1)];by_cases h2:h.bits=NN.oR p q.x h.time;rw[if_neg (show¬(h.bits != NN.oR p q.x h.time)=true by rw[<-h2];simp),if_neg (show¬¬h.bits=NN.oR p q.x h.time from fun hh=>hh h2)];by_cases h3:nR p.lim h=false;rw[if_pos h3,if_pos h3];rw[if_neg h3,if_neg h3];by_cases h4:h.time<=Md.km q.ts;rw[if_pos (decide_eq_true h4),if_pos (show decide (Md.km q.ts<h.time)=false from decide_eq_false (by omega))];rw[if_neg (show¬decide (h.time<=Md.km q.ts)=true by simp only[decide_eq_true_eq];exact h4),if_neg (show¬decide (Md.km q.ts<h.time)=false by simp only[decide_eq_false_iff_not];omega)];by_cases h5:nj h.time now p.Sb=true;rw[if_pos h5,if_pos h5];rw[if_neg h5,if_neg h5];have hv:h.v<iU (n:Int) gs↔_:=Dy (n:Int) h.v gs (-2147483648);have hlo:=hP.1;by_cases h6:gN (n:Int) h.v gs=true;rw[if_pos h6,if_pos (hv.2 (.inr h6))];rw[if_neg h6,if_neg (fun hh=>(hv.1 hh).elim (fun h7=>by omega) h6)];rw[if_pos (show(h.bits != NN.oR p q.x h.time)=true by simpa using h2),if_pos h2];rw[if_pos (show(!(h.prev==q.prev))=true by simpa using h1),if_pos h1]
  rw[decide_eq_false hP,if_pos (show false=false from rfl),if_pos hP]
 rw[<-hq,<-Zo];exact key
def mS:Int->List Gt->Bool
 | _,[]=>true
 | m,y::ys=>decide (m<y.h)&&mS y.h ys
theorem NF(a:Option Addr)(gs:List Gt)(n c:Nat)(hn:n=gs.length)(hl:n<=4611686018427387904)(w:World)(hA:aJ w a gs)(g:Bool)(hg:mS (-1) gs=g):ak 169 #[.slice a n c] w (.bool g):=by
 have HN:=h_ hn;have HV:=h_ hg;have HA:=h_ hA;clear hn hg hA;go_enter Tryz.func169,Tryz.ntmps169;go_wp2_with fail
 go_loopw [3,8] (fun m i wr=>∃k:Nat,k<=n/\i=i_ k/\∃z:Int,m=i_ z/\Hid (mS z (gs.drop k)=g)/\Bl w wr) (fun _ i _=>n-(intOf i).toNat)
 case atStart=>exact⟨0,by omega,rfl,_,rfl,HV,bf⟩
 case round=>
  obtain⟨k,hk,rfl,z,rfl,HZ,hB⟩:=hrel;by_cases hlt:k<n
  ·obtain⟨ab,ao,rfl,Sv,hc⟩:=(HA.out.below hB) (by rw[<-HN.out];omega)
   have hd:gs.drop k=gs.getD k kJ::gs.drop (k+1):=by
    have hk2:k<gs.length:=(by rw[<-HN.out];exact hlt);rw[List.drop_eq_getElem_cons hk2,List.getD_eq_getElem?_getD,List.getElem?_eq_getElem hk2];rfl
   have q0:=hc k (by rw[<-HN.out];omega);rw[show gs[k]'(by rw[<-HN.out];omega)=gs.getD k kJ by rw[List.getD_eq_getElem?_getD,List.getElem?_eq_getElem (by rw[<-HN.out];omega)];rfl]at q0;have hx:=HZ.out;rw[hd]at hx;clear hd HZ;generalize gs.getD k kJ=y at*;have HX:=h_ hx;clear hx hc;have hnew:=xN wr;have hG:kr ((wr.alloc (.cells #[i_ 0,i_ 0] 108)).setRow wr.heap.size (mD y)) wr.heap.size y:=Has.row hnew _;have hB2:Bl w ((wr.alloc (.cells #[i_ 0,i_ 0] 108)).setRow wr.heap.size (mD y)):=below_setRow (hB.alloc hB.size _) hB.size _;have c0:=hG.c0;clear hG hB;cases t1:decide (y.h<=z)
   ·have HZ2:Hid (mS y.h (gs.drop (k+1))=g):=h_ (by
     have:=HX.out;rw[show mS z (y::gs.drop (k+1))=(decide (z<y.h)&&mS y.h (gs.drop (k+1)))from rfl,decide_eq_true (show z<y.h by have:=of_decide_eq_false t1;omega),Bool.true_and]at this;exact this)
    clear HX;obtain⟨yh,UI⟩:∃yh,yh=y.h:=⟨_,rfl⟩;rw[<-UI]at c0 t1 HZ2;clear UI;(go_wp2_with (with_reducible first|refine lu rfl _ rfl ab (ao+k*2) rfl y q0 ?_|refine kU rfl _ _ rfl _ y rfl rfl hnew ?_));go_roundw
    case rel=>exact⟨k+1,by omega,by go_num,yh,rfl,HZ2,hB2⟩
    case measure=>simp[intOf];omega
   ·have hgf:g=false:=by
     rw[<-HX.out,show mS z (y::gs.drop (k+1))=(decide (z<y.h)&&mS y.h (gs.drop (k+1)))from rfl,decide_eq_false (show¬z<y.h by have:=of_decide_eq_true t1;omega),Bool.false_and]
    subst hgf;clear HX HV;(go_wp2_with (with_reducible first|refine lu rfl _ rfl ab (ao+k*2) rfl y q0 ?_|refine kU rfl _ _ rfl _ y rfl rfl hnew ?_));go_ret;exact⟨rfl,hB2⟩
  ·obtain rfl:k=n:=by omega
   have e:g=true:=by
    have:=HZ.out;rw[HN.out,List.drop_length]at this;exact this.symm
   subst e;go_wp2_with fail
   go_ret;exact⟨rfl,hB⟩
def kh:Int->List Ck->Bool
 | _,[]=>true
 | m,y::ys=>decide (m<y.h)&&kh y.h ys
theorem Of(a:Option Addr)(gs:List Ck)(n c:Nat)(hn:n=gs.length)(hl:n<=4611686018427387904)(w:World)(hA:az w a gs)(g:Bool)(hg:kh (0) gs=g):ak 170 #[.slice a n c] w (.bool g):=by
 have HN:=h_ hn;have HV:=h_ hg;have HA:=h_ hA;clear hn hg hA;go_enter Tryz.func170,Tryz.ntmps170;go_wp2_with fail
 go_loopw [3,8] (fun m i wr=>∃k:Nat,k<=n/\i=i_ k/\∃z:Int,m=i_ z/\Hid (kh z (gs.drop k)=g)/\Bl w wr) (fun _ i _=>n-(intOf i).toNat)
 case atStart=>exact⟨0,by omega,rfl,_,rfl,HV,bf⟩
 case round=>
  obtain⟨k,hk,rfl,z,rfl,HZ,hB⟩:=hrel;by_cases hlt:k<n
  ·obtain⟨ab,ao,rfl,Sv,hc⟩:=(HA.out.below hB) (by rw[<-HN.out];omega)
   have hd:gs.drop k=gs.getD k jG::gs.drop (k+1):=by
    have hk2:k<gs.length:=(by rw[<-HN.out];exact hlt);rw[List.drop_eq_getElem_cons hk2,List.getD_eq_getElem?_getD,List.getElem?_eq_getElem hk2];rfl
   have q0:=hc k (by rw[<-HN.out];omega);rw[show gs[k]'(by rw[<-HN.out];omega)=gs.getD k jG by rw[List.getD_eq_getElem?_getD,List.getElem?_eq_getElem (by rw[<-HN.out];omega)];rfl]at q0;have hx:=HZ.out;rw[hd]at hx;clear hd HZ;generalize gs.getD k jG=y at*;have HX:=h_ hx;clear hx hc;obtain⟨y32,q⟩:=q0;have z1:=nJ y32;have z2:=rD y32;have z3:(mw jG).size=33:=rfl;have hnew:=qQ wr;have hG:=tj wr y;have hB2:=vR hB y;have c0:=hG.c0;clear hG hB;cases t1:decide (y.h<=z)
   ·have HZ2:Hid (kh y.h (gs.drop (k+1))=g):=h_ (by
     have:=HX.out;rw[show kh z (y::gs.drop (k+1))=(decide (z<y.h)&&kh y.h (gs.drop (k+1)))from rfl,decide_eq_true (show z<y.h by have:=of_decide_eq_false t1;omega),Bool.true_and]at this;exact this)
    clear HX;obtain⟨yh,UI⟩:∃yh,yh=y.h:=⟨_,rfl⟩;rw[<-UI]at c0 t1 HZ2;clear UI;(go_wp2_with (with_reducible first|refine mB rfl _ rfl ab (ao+k*33) rfl y q z1 ?_|refine mF rfl _ _ rfl _ y rfl rfl z2 hnew z3 ?_));go_roundw
    case rel=>exact⟨k+1,by omega,by go_num,yh,rfl,HZ2,hB2⟩
    case measure=>simp[intOf];omega
   ·have hgf:g=false:=by
     rw[<-HX.out,show kh z (y::gs.drop (k+1))=(decide (z<y.h)&&kh y.h (gs.drop (k+1)))from rfl,decide_eq_false (show¬z<y.h by have:=of_decide_eq_true t1;omega),Bool.false_and]
    subst hgf;clear HX HV;(go_wp2_with (with_reducible first|refine mB rfl _ rfl ab (ao+k*33) rfl y q z1 ?_|refine mF rfl _ _ rfl _ y rfl rfl z2 hnew z3 ?_));go_ret;exact⟨rfl,hB2⟩
  ·obtain rfl:k=n:=by omega
   have e:g=true:=by
    have:=HZ.out;rw[HN.out,List.drop_length]at this;exact this.symm
   subst e;go_wp2_with fail
   go_ret;exact⟨rfl,hB⟩
def jo(p:NN.Pr)(g:Hd)(gs:List Gt)(cs:List Ck):Bool:=p.bZ&&decide g.P&&mS (-1) gs&&kh 0 cs
theorem Gw(p:NN.Pr)(hz:(NN.aE p).size=83)(t:Tl)(tt:p.tl=t.C)(ht:t.ok)(b1 b2 b3 b4:Bool)(KP:Hid (b_ 168 #[.agg (NN.aE p)] (.bool b1)))(KH:Hid (b_ 118 #[.agg (aD t.g)] (.bool b2)))(w:World)(KG:aQ w 169 #[.slice t.ga t.gn t.gc] (.bool b3))(KC:aQ w 170 #[.slice t.ca t.cn t.cc] (.bool b4)):ak 138 #[.agg (NN.aE p)] w (.bool (b1&&b2&&b3&&b4)):=by
 have s1:=er ht.2;obtain⟨ga,gn,gc,ca,cn,cc,nn,g⟩:=t;have Xt:=h_ tt;have HT:=h_ ht;simp only at KG KC KH s1;clear tt ht;go_enter Tryz.func138,Tryz.ntmps138;go_upto_region 1 with fail
 generalize hw0:World.alloc _ _=v0;have hB:Bl w v0:=dd hw0;have hP:NN.aA v0 w.heap.size p:=by rw[<-hw0];exact NN.Has.new _ _
 clear hw0;obtain⟨bP,Sf⟩:∃b,b=w.heap.size:=⟨_,rfl⟩;rw[<-Sf]at hP|-;clear Sf;go_wp2_with (first|fail|(with_reducible refine NN.dH rfl _ rfl _ rfl hP hz ?_))
 refine au (KP.out _) fun v1 hb=>?_;replace hP:=hP.on hb;replace hB:=ah hB hb;clear hb;cases b1
 ·go_wp2_with fail
  go_ret;exact⟨rfl,hB⟩
 have Xn:=jP hP Xt.out HT.out;go_wp2_with (first|fail|(with_reducible refine JW (by with_unfolding_all rfl) _ rfl bP 15 rfl g Xn s1 ?_))
 refine au (KH.out _) fun v2 hb=>?_;replace hP:=hP.on hb;replace hB:=ah hB hb;clear hb Xn;cases b2
 ·go_wp2_with fail
  go_ret;exact⟨rfl,hB⟩
 have c5:v2.cell? ⟨bP,5,none⟩=some (.slice ga gn gc):=ni hP Xt.out;go_wp2_with fail
 refine au (KG.out _ hB) fun v3 hb=>?_;replace hP:=hP.on hb;replace hB:=ah hB hb;clear hb c5;cases b3
 ·go_wp2_with fail
  go_ret;exact⟨rfl,hB⟩
 have c6:v3.cell? ⟨bP,6,none⟩=some (.slice ca cn cc):=mV hP Xt.out;go_wp2_with fail
 refine au (KC.out _ hB) fun v4 hb=>?_;replace hB:=ah hB hb;go_wp2_with fail
 go_ret;exact⟨rfl,hB⟩
theorem D5(p:NN.Pr)(hp:p.ok)(t:Tl)(tt:p.tl=t.C)(ht:t.ok)(gs:List Gt)(cs:List Ck)(hgn:t.gn=gs.length)(hcn:t.cn=cs.length)(hgl:t.gn<=1000)(hcl:t.cn<=1000)(w:World)(hG:aJ w t.ga gs)(hC:az w t.ca cs):ak 138 #[.agg (NN.aE p)] w (.bool (jo p t.g gs cs)):=
 Gw p (NN.eH hp) t tt ht _ _ _ _ (h_ (NN.Dx p)) (h_ (nr t.g ht.2)) w (h_ fun w' hb=>NF t.ga gs t.gn t.gc hgn (by omega) w' (hG.below hb) _ rfl) (h_ fun w' hb=>Of t.ca cs t.cn t.cc hcn (by omega) w' (hC.below hb) _ rfl)
end
namespace Ar
open Go.RowKit Mem Sc
structure aq where
 hs:List Hd
 up:Int
def aB:aq:=⟨[],-1⟩
def aq.h(g:Hd)(e:aq):Hd:=(g::e.hs).getD e.hs.length du
theorem oy(g:Hd)(u:Int):aq.h g ⟨[],u⟩=g:=rfl
theorem iA(g:Hd)(hs:List Hd)(h:Hd)(u:Int):aq.h g ⟨hs++[h],u⟩=h:=by unfold aq.h;rw[List.getD_eq_getElem?_getD,List.length_append,List.length_singleton,List.getElem?_cons_succ,List.getElem?_append_right (Nat.le_refl _),Nat.sub_self];rfl
def j7(g:Hd)(M:List aq)(id:List UInt8):Option Nat:=M.findIdx? fun e=>(e.h g).id==id
structure Ru where
 p:NN.Pr
 g:Hd
 gs:List Gt
 cs:List Ck
 room:Nat
def spot(r:Ru)(e:aq):Ps:=gQ r.p r.g e.hs e.hs.length
def kD(r:Ru)(e:aq)(h:Hd)(now:Int):Int:=qy r.p r.gs r.cs (spot r e) h now
def add(r:Ru)(M:List aq)(h:Hd)(now:Int):(Int×Int×Int)×List aq:=
 if¬h.P then((-1,1,8),M)else
 match j7 r.g M h.id with
 | some i=>(((i:Nat),0,0),M)
 | none=>
  match j7 r.g M h.prev with
  | none=>((-1,2,5),M)
  | some j=>
   if¬kD r (M.getD j aB) h now=0 then((-1,kD r (M.getD j aB) h now,8),M)
   else if r.room<=M.length then((-1,0,6),M)
   else(((M.length:Nat),0,0),M++[⟨(M.getD j aB).hs++[h],j⟩])
variable{g:Hd}{M:List aq}{id:List UInt8}
theorem ql{i:Nat}(h:j7 g M id=some i):∃e,M[i]?=some e/\(e.h g).id=id:=by obtain⟨hi,h1,_⟩:=List.findIdx?_eq_some_iff_getElem.1 h;exact⟨M[i],List.getElem?_eq_getElem hi,by simpa using h1⟩
theorem Gf(h:j7 g M id=none){i:Nat}{e:aq}(he:M[i]?=some e):¬(e.h g).id=id:=by have:=List.findIdx?_eq_none_iff.1 h e (List.mem_of_getElem? he);simpa using this
structure Ok (r:Ru) (M:List aq):Prop where
 zero:M[0]?=some aB
 up:∀(i:Nat)(e:aq),0<i->M[i]?=some e->∃(j:Nat)(d:aq)(h:Hd)(now:Int),j<i/\M[j]?=some d/\e=⟨d.hs++[h],(j:Nat)⟩/\h.ok/\h.P/\kD r d h now=0
 ids:∀(i j:Nat)(d e:aq),M[i]?=some d->M[j]?=some e->(d.h r.g).id=(e.h r.g).id->i=j
variable{r:Ru}
theorem Ok.pos(h:Ok r M):0<M.length:=(List.getElem?_eq_some_iff.1 h.zero).1
theorem Ok.one(r:Ru):Ok r [aB]:=by refine⟨rfl,fun i e h0 he=>?_,fun i j d e hd he _=>?_⟩;have:=(List.getElem?_eq_some_iff.1 he).1;simp at this;omega;have h1:=(List.getElem?_eq_some_iff.1 hd).1;have h2:=(List.getElem?_eq_some_iff.1 he).1;simp at h1 h2;omega
theorem Ok.put(hM:Ok r M){h:Hd}(ho:h.ok)(hP:h.P){now:Int}{j:Nat}(h1:j7 r.g M h.id=none)(h2:j7 r.g M h.prev=some j)(h3:kD r (M.getD j aB) h now=0):Ok r (M++[⟨(M.getD j aB).hs++[h],(j:Nat)⟩]):=by
 obtain⟨d,hd,_⟩:=ql h2;have hj:=(List.getElem?_eq_some_iff.1 hd).1;rw[show M.getD j aB=d by rw[List.getD_eq_getElem?_getD,hd];rfl]at h3|-
 have old:∀ {i e},(M++[⟨d.hs++[h],(j:Nat)⟩])[i]?=some e->i<M.length/\M[i]?=some e\/i=M.length/\e=⟨d.hs++[h],(j:Nat)⟩:=by
  intro i e he;by_cases hi:i<M.length;rw[List.getElem?_append_left hi]at he;exact .inl ⟨hi,he⟩
  ·have hl:=(List.getElem?_eq_some_iff.1 he).1;simp at hl;obtain rfl:i=M.length:=by omega
   rw[List.getElem?_append_right (Nat.le_refl _),Nat.sub_self]at he;exact .inr ⟨rfl,by simpa using he.symm⟩
 refine⟨by rw[List.getElem?_append_left hM.pos];exact hM.zero,fun i e h0 he=>?_,fun i k a b ha hb hab=>?_⟩
 ·rcases old he with⟨hi,he⟩|⟨rfl,rfl⟩
  obtain⟨k,a,x,t,q1,q2,q3⟩:=hM.up i e h0 he;exact⟨k,a,x,t,q1,by rw[List.getElem?_append_left (by omega)];exact q2,q3⟩;exact⟨j,d,h,now,hj,by rw[List.getElem?_append_left hj];exact hd,rfl,ho,hP,h3⟩
 ·rcases old ha with⟨hi,ha⟩|⟨rfl,rfl⟩
  ·rcases old hb with⟨hk,hb⟩|⟨rfl,rfl⟩
   exact hM.ids i k a b ha hb hab;rw[iA]at hab;exact absurd hab (Gf h1 ha)
  ·rcases old hb with⟨hk,hb⟩|⟨rfl,rfl⟩
   rw[iA]at hab;exact absurd hab.symm (Gf h1 hb);rfl
theorem Ok.add(hM:Ok r M){h:Hd}(ho:h.ok)(now:Int):Ok r (Ar.add r M h now).2:=by
 unfold Ar.add;by_cases hP:h.P
 ·rw[if_neg (fun hh=>hh hP)];cases h1:j7 r.g M h.id with
  | some i=>exact hM
  | none=>
   cases h2:j7 r.g M h.prev with
   | none=>exact hM
   | some j=>
    simp only;by_cases h3:kD r (M.getD j aB) h now=0;rw[if_neg (fun hh=>hh h3)];by_cases h4:r.room<=M.length;rw[if_pos h4];exact hM;rw[if_neg h4];exact hM.put ho hP h1 h2 h3;rw[if_pos h3];exact hM
 rw[if_pos hP];exact hM
theorem LN{p:NN.Pr}{gs:List Gt}{cs:List Ck}{q:Ps}{h:Hd}{now:Int}(e:qy p gs cs q h now=0):h.P/\h.prev=q.prev/\h.bits=NN.nx p q.x h.time/\nR p.lim h=true:=by unfold qy at e;by_cases h0:h.P;rw[if_neg (fun hh=>hh h0)]at e;by_cases h1:h.prev=q.prev;rw[if_neg (fun hh=>hh h1)]at e;by_cases h2:h.bits=NN.nx p q.x h.time;rw[if_neg (fun hh=>hh h2)]at e;by_cases h3:nR p.lim h=false;rw[if_pos h3]at e;omega;exact⟨h0,h1,h2,by simpa using h3⟩;rw[if_pos h2]at e;omega;rw[if_pos h1]at e;omega;rw[if_pos h0]at e;omega
theorem Ok.chain(hM:Ok r M):∀(i:Nat)(e:aq),M[i]?=some e->e.hs.length<=i/\∀x∈e.hs,x.ok/\x.P/\nR r.p.lim x=true:=by
 intro i;induction i using Nat.strongRecOn with
 | ind i ih=>
  intro e he;by_cases h0:0<i
  ·obtain⟨j,d,h,now,h1,h2,rfl,h3,h4,h5⟩:=hM.up i e h0 he;obtain⟨h6,h7⟩:=ih j h1 d h2;refine⟨by simp;omega,fun x hx=>?_⟩;rcases List.mem_append.1 hx with hx|hx
   exact h7 x hx;obtain rfl:x=h:=(by simpa using hx);exact⟨h3,h4,(LN h5).2.2.2⟩
  ·obtain rfl:i=0:=by omega
   obtain rfl:e=aB:=Option.some.inj (he.symm.trans hM.zero);exact⟨Nat.le_refl _,fun x hx=>by cases hx⟩
theorem Ok.head(hM:Ok r M)(hg:r.g.ok)(hP:r.g.P){i:Nat}{e:aq}(he:M[i]?=some e):(e.h r.g).ok/\(e.h r.g).P:=by
 by_cases h0:0<i;obtain⟨j,d,h,now,h1,h2,rfl,h3,h4,h5⟩:=hM.up i e h0 he;rw[iA];exact⟨h3,h4⟩
 ·obtain rfl:i=0:=by omega
  obtain rfl:e=aB:=Option.some.inj (he.symm.trans hM.zero);exact⟨hg,hP⟩
theorem Ok.same(hM:Ok r M)(hi:2<=r.p.R8){i:Nat}{e:aq}(he:M[i]?=some e)(own:Int):NN.oR r.p (spot r e).x own=NN.nx r.p (spot r e).x own:=by
 refine NN.Ea fun hs _=>?_
 have hh:=kE r.p r.g e.hs e.hs.length (Nat.le_refl _);obtain⟨hb,_,_⟩:=nw r.p r.g e.hs e.hs.length (Nat.le_refl _);obtain⟨_,hc⟩:=hM.chain i e he;show NN.tok (gQ r.p r.g e.hs e.hs.length).x.b r.p.lim=true;rw[hb];rcases List.eq_nil_or_concat e.hs with h0|⟨l,x,h0⟩
 exfalso;have hs':NN.bJ r.p.R8 (gQ r.p r.g e.hs e.hs.length).x.h=true:=hs;rw[hh,h0]at hs';unfold NN.bJ at hs';rw[show((([]:List Hd).length:Nat):Int)+1=1 by rfl,Int.tmod_eq_of_lt (by omega) (by omega)]at hs';simp at hs'
 ·have hx:=hc x (by rw[h0];simp);have ew:=hx.2.2;unfold nR at ew;rw[Bool.and_eq_true]at ew
  have e1:(r.g::e.hs).getD e.hs.length du=x:=by
   have:=iA r.g l x 0;unfold aq.h at this;simp only at this;rw[h0,List.concat_eq_append];exact this
  rw[e1];exact ew.1
theorem Ok.Zp(hM:Ok r M)(hi:2<=r.p.R8){i:Nat}{e:aq}(he:M[i]?=some e)(h:Hd)(now:Int)(h2:-9223372036854775808<=now)(h3:now<=9223372036854775807):lq r.p r.gs r.cs (spot r e) h now=kD r e h now:=
 L_ _ _ _ _ _ _ h2 h3 (hM.same hi he _)
theorem Ie(r:Ru)(d:aq)(h:Hd)(u:Int):spot r ⟨d.hs++[h],u⟩=bh r.p (spot r d) h:=by unfold spot gQ;simp only[List.take_length];rw[List.foldl_append];rfl
end Ar
namespace Ar
inductive Row (M:List aq):Int->List Int->Prop
 | nil:Row M (-1) []
 | snoc (j:Nat) (d:aq) (L:List Int):M[j]?=some d->Row M d.up L->Row M (j:Int) (L++[(j:Int)])
variable{M:List aq}{k z:Int}{L ps:List Int}
theorem Row.inv(h:Row M k L):(k = -1/\L=[])\/∃(j:Nat)(d:aq)(L':List Int),k=(j:Int)/\M[j]?=some d/\Row M d.up L'/\L=L'++[(j:Int)]:=by
 cases h with
 | nil=>exact .inl ⟨rfl,rfl⟩
 | snoc j d L' h1 h2=>exact .inr ⟨j,d,L',rfl,h1,h2,rfl⟩
theorem Row.SQ(h:Row M k L):∀{L':List Int},Row M k L'->L=L':=by
 induction h with
 | nil=>
  intro L' h';rcases h'.inv with⟨_,h1⟩|⟨j,d,L1,h1,_⟩
  exact h1.symm;omega
 | snoc j d L h1 _ ih=>
  intro L' h';rcases h'.inv with⟨h2,_⟩|⟨i,e,L1,h2,h3,h4,h5⟩
  omega
  ·obtain rfl:j=i:=by omega
   rw[h1]at h3;cases h3;rw[h5,ih h4]
variable{r:Ru}
theorem Ok.ahead(hM:Ok r M){j:Nat}{d:aq}(hd:M[j]?=some d):(j=0/\d=aB)\/∃(i:Nat)(a:aq)(h:Hd),i<j/\M[i]?=some a/\d.up=(i:Int)/\d.hs=a.hs++[h]:=by
 by_cases h0:0<j;obtain⟨i,a,h,now,h1,h2,rfl,_⟩:=hM.up j d h0 hd;exact .inr ⟨i,a,h,h1,h2,rfl,rfl⟩
 ·obtain rfl:j=0:=by omega
  rw[hM.zero]at hd;exact .inl ⟨rfl,(Option.some.inj hd).symm⟩
theorem Row.of(hM:Ok r M):∀(n j:Nat)(e:aq),j<=n->M[j]?=some e->∃L,Row M (j:Int) L/\L.length=e.hs.length+1:=by
 intro n;induction n with
 | zero=>
  intro j e hj he;rcases hM.ahead he with⟨rfl,rfl⟩|⟨i,a,h,h1,_⟩
  exact⟨_,.snoc 0 aB [] he .nil,rfl⟩;omega
 | succ n ih=>
  intro j e hj he;rcases hM.ahead he with⟨rfl,rfl⟩|⟨i,a,h,h1,h2,h3,h4⟩
  exact⟨_,.snoc 0 aB [] he .nil,rfl⟩;obtain⟨L,hL,hl⟩:=ih i a (by omega) h2;exact⟨_,.snoc j e L he (by rw[h3];exact hL),by rw[List.length_append,hl,h4,List.length_append];rfl⟩
theorem Ok.row(hM:Ok r M){j:Nat}{e:aq}(he:M[j]?=some e):∃L,Row M (j:Int) L/\L.length=e.hs.length+1:=Row.of hM j j e (Nat.le_refl _) he
theorem Row.len(hM:Ok r M){j:Nat}{e:aq}(he:M[j]?=some e){L:List Int}(h:Row M (j:Int) L):L.length=e.hs.length+1:=by obtain⟨L',h1,h2⟩:=hM.row he;rw[h.SQ h1];exact h2
theorem Row.take(h:Row M k L):∀{n:Nat}{x:Int},L[n]?=some x->Row M x (L.take (n+1)):=by
 induction h with
 | nil=>intro n x hx;simp at hx
 | snoc j d L h1 h2 ih=>
  intro n x hx;by_cases hn:n<L.length;rw[List.getElem?_append_left hn]at hx;rw[List.take_append_of_le_length (by omega)];exact ih hx
  ·have hl:=(List.getElem?_eq_some_iff.1 hx).1;rw[List.length_append,List.length_singleton]at hl;obtain rfl:n=L.length:=by omega
   rw[List.getElem?_append_right (Nat.le_refl _),Nat.sub_self]at hx;obtain rfl:(j:Int)=x:=by simpa using hx
   rw[List.take_of_length_le (by rw[List.length_append,List.length_singleton];omega)];exact .snoc j d L h1 h2
theorem Row.last{j:Nat}(h:Row M (j:Int) L):0<L.length/\L[L.length-1]?=some (j:Int):=by
 rcases h.inv with⟨h1,_⟩|⟨i,d,L',h1,_,_,rfl⟩
 omega;rw[List.length_append,List.length_singleton,Nat.add_sub_cancel,List.getElem?_append_right (Nat.le_refl _),Nat.sub_self,h1];exact⟨by omega,rfl⟩
theorem Row.up(hM:Ok r M){k:Int}{L:List Int}(h:Row M k L):L.Pairwise (· < ·)/\∀x,x∈L->0<=x/\x<=k/\x<(M.length:Int):=by
 induction h with
 | nil=>exact⟨.nil,fun x hx=>by cases hx⟩
 | snoc j d L h1 h2 ih=>
  have hj:=(List.getElem?_eq_some_iff.1 h1).1
  have hu:d.up<(j:Int):=by
   rcases hM.ahead h1 with⟨rfl,rfl⟩|⟨i,a,h,q1,_,q3,_⟩
   simp[aB];omega
  refine⟨List.pairwise_append.2 ⟨ih.1,List.pairwise_singleton _ _,fun x hx y hy=>?_⟩,fun x hx=>?_⟩
  ·obtain rfl:y=(j:Int):=by simpa using hy
   have:=(ih.2 x hx).2.1;omega
  ·rcases List.mem_append.1 hx with hx|hx
   have:=ih.2 x hx;omega;obtain rfl:x=(j:Int):=(by simpa using hx);omega
theorem Row.at(hM:Ok r M){k:Int}{L:List Int}(h:Row M k L){x:Nat}(hx:(x:Int)∈L){e:aq}(he:M[x]?=some e):L[e.hs.length]?=some (x:Int):=by
 obtain⟨n,hn⟩:=List.mem_iff_getElem?.1 hx;have h1:=h.take hn;have h2:=h1.len hM he;have hl:=(List.getElem?_eq_some_iff.1 hn).1;rw[List.length_take]at h2;obtain rfl:n=e.hs.length:=by omega
 exact hn
def cB(M:List aq)(x i:Int):Prop:=∃L,Row M i L/\x∈L
theorem cB.refl(hM:Ok r M){j:Nat}{e:aq}(he:M[j]?=some e):cB M (j:Int) (j:Int):=by obtain⟨L,h1,_⟩:=hM.row he;exact⟨L,h1,List.mem_of_getElem? h1.last.2⟩
theorem cB.trans{x y:Int}(h:cB M x y)(k:cB M y z):cB M x z:=by obtain⟨L,h1,h2⟩:=h;obtain⟨K,k1,k2⟩:=k;obtain⟨n,hn⟩:=List.mem_iff_getElem?.1 k2;obtain rfl:=h1.SQ (k1.take hn);exact⟨K,k1,List.mem_of_mem_take h2⟩
theorem cB.le(hM:Ok r M){x y:Int}(h:cB M x y):0<=x/\x<=y/\x<(M.length:Int):=by obtain⟨L,h1,h2⟩:=h;exact(h1.up hM).2 x h2
theorem cB.same(hM:Ok r M){x y:Int}(h:cB M x y)(k:cB M y x):x=y:=by have h1:=h.le hM;have h2:=k.le hM;omega
theorem cB.zero(hM:Ok r M):∀(n j:Nat)(e:aq),j<=n->M[j]?=some e->cB M 0 (j:Int):=by
 intro n j e _ he;obtain⟨L,h1,h2⟩:=hM.row he;refine⟨L,h1,?_⟩;obtain⟨x,hx⟩:∃x,L[0]?=some x:=⟨_,List.getElem?_eq_getElem (by omega)⟩;have h3:=h1.take hx;rcases h3.inv with⟨_,q⟩|⟨i,d,L',rfl,q2,q3,q4⟩
 have:=congrArg List.length q;rw[List.length_take,List.length_nil]at this;omega
 ·have hl:=congrArg List.length q4;rw[List.length_take,List.length_append,List.length_singleton]at hl;obtain rfl:L'=[]:=List.eq_nil_of_length_eq_zero (by omega);rcases hM.ahead q2 with⟨rfl,_⟩|⟨m,a,h,_,m2,m3,_⟩
  exact List.mem_of_getElem? hx;rw[m3]at q3;have:=q3.last.1;simp at this
theorem cB.chain(hM:Ok r M){t z p:Int}(h:cB M t p)(k:cB M z p)(hl:t<=z):cB M t z:=by
 obtain⟨L,h1,h2⟩:=h;obtain⟨K,k1,k2⟩:=k;obtain rfl:=h1.SQ k1;obtain⟨a,ha⟩:=List.mem_iff_getElem?.1 h2;obtain⟨b,hb⟩:=List.mem_iff_getElem?.1 k2;refine⟨_,h1.take hb,?_⟩
 have hab:a<=b:=by
  refine Nat.le_of_not_lt fun hba=>?_
  obtain⟨ha1,ha2⟩:=List.getElem?_eq_some_iff.1 ha;obtain⟨hb1,hb2⟩:=List.getElem?_eq_some_iff.1 hb;have:=List.pairwise_iff_getElem.1 (h1.up hM).1 b a hb1 ha1 hba;omega
 refine List.mem_of_getElem? (i:=a) ?_;rw[List.getElem?_take_of_lt (by omega)];exact ha
def nS(M:List aq)(ps:List Int)(z:Int):Prop:=(∀p,p∈ps->cB M z p)/\∀t,(∀p,p∈ps->cB M t p)->t<=z
theorem nS.SQ{z':Int}(h:nS M ps z)(h':nS M ps z'):z=z':=by have h1:=h'.2 z h.1;have h2:=h.2 z' h'.1;omega
theorem nS.perm{qs:List Int}(h:nS M ps z)(hq:∀p,p∈qs↔p∈ps):nS M qs z:=⟨fun p hp=>h.1 p ((hq p).1 hp),fun t ht=>h.2 t fun p hp=>ht p ((hq p).2 hp)⟩
theorem nS.one(hM:Ok r M){j:Nat}{e:aq}(he:M[j]?=some e):nS M [(j:Int)] (j:Int):=by
 refine⟨fun p hp=>?_,fun t ht=>(ht _ (List.mem_singleton.2 rfl)).le hM |>.2.1⟩;obtain rfl:p=(j:Int):=by simpa using hp
 exact cB.refl hM he
theorem nS.snoc(hM:Ok r M){ps:List Int}{o p z:Int}(hps:ps≠[])(h:nS M ps o)(k:nS M [o,p] z):nS M (ps++[p]) z:=by
 have k1:=k.1 o (by simp);have k2:=k.1 p (by simp);refine⟨fun q hq=>?_,fun t ht=>k.2 t fun q hq=>?_⟩
 ·rcases List.mem_append.1 hq with hq|hq
  exact k1.trans (h.1 q hq)
  ·obtain rfl:q=p:=by simpa using hq
   exact k2
 ·have hto:t<=o:=h.2 t fun q hq=>ht q (List.mem_append.2 (.inl hq))
  rcases List.mem_cons.1 hq with rfl|hq
  obtain⟨q0,hq0⟩:=List.exists_mem_of_ne_nil ps hps;exact(ht q0 (List.mem_append.2 (.inl hq0))).chain hM (h.1 q0 hq0) hto;exact ht q (List.mem_append.2 (.inr hq))
def fz(K:List Int)(L:List Int)(b:Int):Int:=L.foldl (fun b x=>if x∈K then x else b) b
theorem vF(K:List Int):∀(L:List Int)(b:Int),L.Pairwise (· < ·)->(∀x,x∈L->b<=x)->(fz K L b=b\/fz K L b∈L/\fz K L b∈K)/\b<=fz K L b/\∀x,x∈L->x∈K->x<=fz K L b:=by
 intro L;induction L with
 | nil=>intro b _ _;exact⟨.inl rfl,Int.le_refl _,fun x hx=>by cases hx⟩
 | cons y L ih=>
  intro b hp hb;obtain⟨p1,p2⟩:=List.pairwise_cons.1 hp;have hyb:=hb y (List.mem_cons_self ..);by_cases hy:y∈K
  ·have e:fz K (y::L) b=fz K L y:=by unfold fz;rw[List.foldl_cons,if_pos hy]
   obtain⟨h1,h2,h3⟩:=ih y p2 fun x hx=>Int.le_of_lt (p1 x hx)
   rw[e];refine⟨.inr ?_,by omega,fun x hx hk=>?_⟩
   ·rcases h1 with h1|⟨h1,h4⟩
    rw[h1];exact⟨List.mem_cons_self ..,hy⟩;exact⟨List.mem_cons_of_mem _ h1,h4⟩
   ·rcases List.mem_cons.1 hx with rfl|hx
    exact h2;exact h3 x hx hk
  ·have e:fz K (y::L) b=fz K L b:=by unfold fz;rw[List.foldl_cons,if_neg hy]
   obtain⟨h1,h2,h3⟩:=ih b p2 fun x hx=>hb x (List.mem_cons_of_mem _ hx)
   rw[e];refine⟨?_,h2,fun x hx hk=>?_⟩
   ·rcases h1 with h1|⟨h1,h4⟩
    exact .inl h1;exact .inr ⟨List.mem_cons_of_mem _ h1,h4⟩
   ·rcases List.mem_cons.1 hx with rfl|hx
    exact absurd hk hy;exact h3 x hx hk
theorem Iv(hM:Ok r M){i k:Nat}{d e:aq}(hd:M[i]?=some d)(he:M[k]?=some e){L K:List Int}(hL:Row M (i:Int) L)(hK:Row M (k:Int) K):nS M [(k:Int),(i:Int)] (fz K L 0):=by
 obtain⟨h1,h2,h3⟩:=vF K L 0 (hL.up hM).1 fun x hx=>((hL.up hM).2 x hx).1
 have hz:cB M (fz K L 0) (i:Int)/\cB M (fz K L 0) (k:Int):=by
  rcases h1 with h1|⟨h1,h4⟩
  rw[h1];exact⟨cB.zero hM i i d (Nat.le_refl _) hd,cB.zero hM k k e (Nat.le_refl _) he⟩;exact⟨⟨L,hL,h1⟩,K,hK,h4⟩
 refine⟨fun p hp=>?_,fun t ht=>?_⟩
 ·rcases List.mem_cons.1 hp with rfl|hp
  exact hz.2
  ·obtain rfl:p=(i:Int):=by simpa using hp
   exact hz.1
 obtain⟨L',q1,q2⟩:=ht (i:Int) (by simp);obtain⟨K',q3,q4⟩:=ht (k:Int) (by simp);rw[q1.SQ hL]at q2;rw[q3.SQ hK]at q4;exact h3 t q2 q4
end Ar
namespace Mk
open Ar (aq Ru aB Ok Row cB)
structure St where
 said:Nat->Nat
 out:Nat->Bool
def j5:St:=⟨fun i=>if i=0 then 1 else 0,fun _=>false⟩
def bF(S:St)(k:Nat):Bool:=S.out k||S.said k==2
def nt(M:List aq)(S:St)(i:Nat):Prop:=∃k:Nat,cB M (k:Int) (i:Int)/\bF S k=true
def Valid(M:List aq)(S:St)(i:Nat):Prop:=i<M.length/\∀k:Nat,cB M (k:Int) (i:Int)->S.said k=1/\S.out k=false
structure Good (n:Nat) (S:St):Prop where
 Tc:S.said 0=1
 UJ:S.out 0=false
 two:∀i,S.said i<=2
 none:∀i,n<=i->S.said i=0/\S.out i=false
theorem Good.start(n:Nat)(hn:0<n):Good n j5:=by
 refine⟨rfl,rfl,fun i=>?_,fun i hi=>⟨?_,rfl⟩⟩
 ·simp only[j5];split<;>omega
 simp only[j5];rw[if_neg (by omega)]
theorem Good.more{n m:Nat}{S:St}(h:Good n S)(hm:n<=m):Good m S:=⟨h.Tc,h.UJ,h.two,fun i hi=>h.none i (by omega)⟩
section
variable{r:Ru}{M N:List aq}{S:St}{i j k:Nat}
theorem sY(hM:Ok r M){x:Int}(h:cB M x (i:Int)):∃k:Nat,x=(k:Int)/\k<=i/\k<M.length:=by have:=h.le hM;exact⟨x.toNat,by omega,by omega,by omega⟩
theorem Mg(h:cB M (k:Int) (i:Int)):i<M.length:=by
 obtain⟨L,hL,_⟩:=h;rcases hL.inv with⟨h1,_⟩|⟨j,d,L',h1,h2,_⟩
 omega
 ·obtain rfl:i=j:=by omega
  exact(List.getElem?_eq_some_iff.1 h2).1
theorem H7(hM:Ok r M)(hi:i<M.length):cB M (i:Int) (i:Int):=cB.refl hM (List.getElem?_eq_getElem hi)
theorem GG(hM:Ok r M)(hi:i<M.length):cB M 0 (i:Int):=cB.zero hM i i _ (Nat.le_refl _) (List.getElem?_eq_getElem hi)
theorem xv{L:List Int}(h:Row M (-1) L):L=[]:=by
 rcases h.inv with⟨_,h⟩|⟨j,_,_,h1,_⟩
 exact h;omega
theorem AQ(hM:Ok r M){e:aq}(he:M[i]?=some e){x:Int}:cB M x (i:Int)↔x=(i:Int)\/cB M x e.up:=by
 constructor
 ·rintro⟨L,hL,hx⟩;rcases hL.inv with⟨h1,_⟩|⟨j,d,L',h1,h2,h3,rfl⟩
  omega
  ·obtain rfl:i=j:=by omega
   rw[he]at h2;cases h2;rcases List.mem_append.1 hx with hx|hx
   exact .inr ⟨L',h3,hx⟩;exact .inl (by simpa using hx)
 rintro(rfl|⟨L,hL,hx⟩);exact cB.refl hM he;exact⟨_,.snoc i e L he hL,List.mem_append_left _ hx⟩
theorem EP(hM:Ok r M):cB M (k:Int) ((0:Nat):Int)↔k=0:=by rw[AQ hM hM.zero];constructor;rintro(h|⟨L,hL,hx⟩);omega;rw[xv hL]at hx;simp at hx;rintro rfl;exact .inl rfl
theorem Qu(hM:Ok r M):Valid M S 0↔S.said 0=1/\S.out 0=false:=by constructor;rintro⟨_,h⟩;exact h 0 (H7 hM hM.pos);rintro h;refine⟨hM.pos,fun k hk=>?_⟩;obtain rfl:=(EP hM).1 hk;exact h
theorem Pw(h:Valid M S i):¬nt M S i:=by rintro⟨k,h1,h2⟩;obtain⟨h3,h4⟩:=h.2 k h1;unfold bF at h2;rw[h3,h4]at h2;cases h2
variable{n:Nat}
theorem Good.UK(hM:Ok r M)(h:Good n S):Valid M S 0:=(Qu hM).2 ⟨h.Tc,h.UJ⟩
theorem Good.TE(hM:Ok r M)(h:Good n S):¬nt M S 0:=Pw (h.UK hM)
end
variable{α:Type}
def bY(f:Nat->α)(k:Nat)(x:α):Nat->α:=fun i=>if i=k then x else f i
theorem mM(f:Nat->α)(k:Nat)(x:α):bY f k x k=x:=if_pos rfl
theorem j0(f:Nat->α){k i:Nat}(x:α)(h:i≠k):bY f k x i=f i:=if_neg h
def dP(n:Nat)(x:Int):Int:=if 0<=x/\x<(n:Int)then(if x=0 then 1 else 0)else 5
theorem pg{n:Nat}{x:Int}(h:dP n x=0):0<x.toNat/\x.toNat<n/\x=(x.toNat:Int):=by
 unfold dP at h;split at h
 ·split at h;cases h;omega
 cases h
def word(right:Bool):Nat:=if right then 1 else 2
def verdict(n:Nat)(S:St)(x:Int)(right:Bool):Int×St:=
 if¬dP n x=0 then(dP n x,S)else if 0<S.said x.toNat/\¬S.said x.toNat=word right then(1,S)else(0,⟨bY S.said x.toNat (word right),S.out⟩)
def a_(n:Nat)(S:St)(x:Int):Int×St:=if¬dP n x=0 then(dP n x,S)else(0,⟨S.said,bY S.out x.toNat true⟩)
def On(M:List aq)(x:Int)(i:Nat):Prop:=cB M (i:Int) x\/cB M x (i:Int)
open Classical in
noncomputable def bc(M:List aq)(S:St)(x:Int):Int×St:=
 if¬dP M.length x=0 then(dP M.length x,S)else(0,⟨fun i=>if On M x i/\S.said i=2 then 0 else S.said i,fun i=>if On M x i then false else S.out i⟩)
section
variable{r:Ru}{M:List aq}{S:St}{n:Nat}
theorem Good.verdict(h:Good n S)(x:Int)(right:Bool):Good n (verdict n S x right).2:=by
 unfold Mk.verdict;split;exact h
 ·rename_i hc;obtain⟨h1,h2,_⟩:=pg (Decidable.not_not.1 hc);split;exact h
  ·refine⟨?_,h.UJ,fun i=>?_,fun i hi=>⟨?_,(h.none i hi).2⟩⟩;exact(j0 _ _ (by omega)).trans h.Tc
   ·show bY S.said x.toNat (word right) i<=2;unfold bY word;have:=h.two i;split
    ·split<;>omega
    exact this
   exact(j0 _ _ (by omega)).trans (h.none i hi).1
theorem Good.a_(h:Good n S)(x:Int):Good n (a_ n S x).2:=by
 unfold Mk.a_;split;exact h
 ·rename_i hc;obtain⟨h1,h2,_⟩:=pg (Decidable.not_not.1 hc);refine⟨h.Tc,(j0 _ _ (by omega)).trans h.UJ,h.two,fun i hi=>⟨(h.none i hi).1,(j0 _ _ (by omega)).trans (h.none i hi).2⟩⟩
open Classical in
theorem Good.bc(h:Good M.length S)(x:Int):Good M.length (bc M S x).2:=by unfold Mk.bc;split;exact h;refine⟨?_,?_,fun i=>?_,fun i hi=>⟨?_,?_⟩⟩;show(if _ then _ else _)=1;rw[if_neg (fun hh=>by have:=hh.2;rw[h.Tc]at this;omega)];exact h.Tc;show(if _ then _ else _)=false;split;rfl;exact h.UJ;show(if _ then _ else _)<=2;split;omega;exact h.two i;show(if _ then _ else _)=0;split;rfl;exact(h.none i hi).1;show(if _ then _ else _)=false;split;rfl;exact(h.none i hi).2
open Classical in
theorem back(x:Nat)(hx:dP M.length (x:Int)=0)(h:∀i:Nat,On M (x:Int) i->bF S i=false)(hs:On M (x:Int) x):(a_ M.length S (x:Int)).1=0/\bc M (a_ M.length S (x:Int)).2 (x:Int)=(0,S):=by
 unfold Mk.a_;rw[if_neg (fun hh=>hh hx)];refine⟨rfl,?_⟩;unfold Mk.bc;rw[if_neg (fun hh=>hh hx)];refine Prod.ext rfl ?_;show(⟨_,_⟩:St)=S;cases S with
 | mk said out=>
  congr 1
  ·funext i;by_cases hi:On M (x:Int) i/\said i=2;have:=h i hi.1;unfold bF at this;simp only[hi.2,beq_self_eq_true,Bool.or_true]at this;cases this;rw[if_neg hi]
  ·funext i;by_cases hi:On M (x:Int) i;rw[if_pos hi];have:=h i hi;unfold bF at this;simp only[Bool.or_eq_false_iff]at this;exact this.1.symm;rw[if_neg hi];exact j0 _ _ fun e=>hi (by rw[Int.toNat_natCast]at e;subst e;exact hs)
end
def top(H:Nat->Nat->Bool)(P:Nat->Bool):Nat->Nat
 | 0=>0
 | n+1=>if P n=true/\H n (top H P n)=true then n else top H P n
section
variable{H:Nat->Nat->Bool}{P Q:Nat->Bool}
theorem nE(h0:P 0=true):∀n,P (top H P n)=true
 | 0=>h0
 | n+1=>by
  unfold top;split
  ·rename_i h;exact h.1
  exact nE h0 n
theorem jU:∀n,0<n->top H P n<n
 | 0,h=>absurd h (Nat.lt_irrefl _)
 | n+1,_=>by
  unfold top;split;omega
  ·rcases Nat.eq_zero_or_pos n with rfl|h
   exact Nat.lt_succ_self _;have:=jU n h;omega
theorem As(t:Tp.mh H):∀n i,i<n->P i=true->i=top H P n\/H (top H P n) i=true
 | 0,i,h,_=>absurd h (Nat.not_lt_zero _)
 | n+1,i,h,hp=>by
  unfold top;by_cases hc:P n=true/\H n (top H P n)=true
  ·rw[if_pos hc];by_cases e:i=n;exact .inl e
   ·rcases As t n i (by omega) hp with rfl|hh
    exact .inr hc.2;exact .inr (t.trans _ _ _ hc.2 hh)
  ·rw[if_neg hc];by_cases e:i=n
   ·subst e;rcases Nat.lt_trichotomy i (top H P i)with _|_|_
    all_goals
     by_cases e2:i=top H P i;exact .inl e2
     ·rcases t.Yt _ _ e2 with hh|hh
      exact absurd ⟨hp,hh⟩ hc;exact .inr hh
   exact As t n i (by omega) hp
theorem DS(t:Tp.mh H){n b:Nat}(hb:b<n)(hP:P b=true)(h0:P 0=true)(h:∀i,i<n->P i=true->i=b\/H b i=true):b=top H P n:=by
 rcases As t n b hb hP with e|e
 exact e
 ·rcases h (top H P n) (jU n (by omega)) (nE h0 n)with e2|e2
  exact e2.symm;have:=t.trans _ _ _ e e2;rw[t.Xi]at this;cases this
end
end Mk
namespace Ar
def iN(n:Nat):Nat:=n&&&(n-1)
theorem My:iN 0=0:=rfl
variable{n h:Nat}
theorem mU(h:0<n):iN n<n:=by have:iN n<=n-1:=Nat.and_le_right;omega
theorem pM(n:Nat):iN n<=n:=Nat.and_le_left
def j9(h:Nat):Nat:=if h<2 then 0 else if h%2=0 then iN h else 1+iN (iN (h-1))
theorem G_(h0:h<2):j9 h=0:=if_pos h0
theorem Iz(h0:2<=h)(h1:h%2=0):j9 h=iN h:=by unfold j9;rw[if_neg (by omega),if_pos h1]
theorem yg(h0:2<=h)(h1:h%2=1):j9 h=1+iN (iN (h-1)):=by unfold j9;rw[if_neg (by omega),if_neg (by omega)]
theorem su(h0:0<h):j9 h<h:=by by_cases h1:h<2;rw[G_ h1];exact h0;by_cases h2:h%2=0;rw[Iz (by omega) h2];exact mU h0;rw[yg (by omega) (by omega)];have h3:=mU (n:=h-1) (by omega);by_cases h4:iN (h-1)=0;rw[h4,My];omega;have:=mU (n:=iN (h-1)) (by omega);omega
def Up(M:List aq)(i:Int)(h:Nat)(z:Int):Prop:=∃L,Row M i L/\L[h]?=some z
variable{M:List aq}{L ls ps:List Int}
theorem Row.more{k:Int}(h:Row M k L)(X:List aq):Row (M++X) k L:=by
 induction h with
 | nil=>exact .nil
 | snoc j d L h1 _ ih=>exact .snoc j d L (by rw[List.getElem?_append_left (List.getElem?_eq_some_iff.1 h1).1];exact h1) ih
variable{i z z' p:Int}
theorem Up.more(k:Up M i h z)(X:List aq):Up (M++X) i h z:=by obtain⟨L,h1,h2⟩:=k;exact⟨L,h1.more X,h2⟩
theorem Up.SQ(k:Up M i h z)(k':Up M i h z'):z=z':=by obtain⟨L,h1,h2⟩:=k;obtain⟨K,h3,h4⟩:=k';rw[h1.SQ h3]at h2;exact Option.some.inj (h2.symm.trans h4)
variable{r:Ru}
theorem Up.self(hM:Ok r M){j:Nat}{e:aq}(he:M[j]?=some e):Up M (j:Int) e.hs.length (j:Int):=by obtain⟨L,h1,h2⟩:=hM.row he;have h3:=h1.last.2;rw[h2,Nat.add_sub_cancel]at h3;exact⟨L,h1,h3⟩
theorem Up.trans{x:Int}{k:Nat}(a:Up M i k x)(b:Up M x h z):Up M i h z:=by obtain⟨L,h1,h2⟩:=a;obtain⟨K,h3,h4⟩:=b;obtain rfl:=h3.SQ (h1.take h2);refine⟨L,h1,?_⟩;rw[List.getElem?_take]at h4;split at h4;exact h4;cases h4
theorem Up.place(hM:Ok r M){i z:Int}{h:Nat}(k:Up M i h z):∃(n:Nat)(e:aq),z=(n:Int)/\M[n]?=some e/\e.hs.length=h:=by
 obtain⟨L,h1,h2⟩:=k;have hp:=(h1.up hM).2 z (List.mem_of_getElem? h2);obtain⟨n,rfl⟩:=Int.eq_ofNat_of_zero_le hp.1;have hn:n<M.length:=by omega
 obtain⟨e,he⟩:∃e,M[n]?=some e:=⟨_,List.getElem?_eq_getElem hn⟩;refine⟨n,e,rfl,he,?_⟩;have h3:=(h1.take h2).len hM he;have hl:=(List.getElem?_eq_some_iff.1 h2).1;rw[List.length_take]at h3;omega
theorem Up.ahead(hM:Ok r M){j:Nat}{e:aq}(he:M[j]?=some e)(h0:0<e.hs.length):Up M (j:Int) (e.hs.length-1) e.up/\∃(i:Nat)(a:aq),e.up=(i:Int)/\i<j/\M[i]?=some a/\e.hs.length=a.hs.length+1:=by
 rcases hM.ahead he with⟨rfl,rfl⟩|⟨i,a,h,h1,h2,h3,h4⟩
 exact absurd h0 (by simp[aB])
 ·have h5:e.hs.length=a.hs.length+1:=by rw[h4,List.length_append];rfl
  refine⟨?_,i,a,h3,h1,h2,h5⟩;obtain⟨L,hL,hl⟩:=hM.row h2;have h6:=hL.last.2;rw[hl,Nat.add_sub_cancel]at h6;refine⟨L++[(j:Int)],.snoc j e L he (by rw[h3];exact hL),?_⟩;rw[h5,Nat.add_sub_cancel,List.getElem?_append_left (by omega),h3];exact h6
theorem Up.there(hM:Ok r M){j:Nat}{e:aq}(he:M[j]?=some e){h:Nat}(hh:h<=e.hs.length):∃z,Up M (j:Int) h z:=by obtain⟨L,h1,h2⟩:=hM.row he;exact⟨_,L,h1,List.getElem?_eq_getElem (by omega)⟩
theorem Up.low(hM:Ok r M){j:Nat}{e:aq}(he:M[j]?=some e){h:Nat}{z:Int}(k:Up M (j:Int) h z):h<=e.hs.length:=by obtain⟨L,h1,h2⟩:=k;have:=h1.len hM he;have:=(List.getElem?_eq_some_iff.1 h2).1;omega
structure Lp (M:List aq) (ls:List Int):Prop where
 le:ls.length<=M.length
 Zq:∀(i:Nat)(e:aq)(x:Int),M[i]?=some e->ls[i]?=some x->0<e.hs.length->Up M (i:Int) (j9 e.hs.length) x
theorem Lp.one:Lp [aB] [-1]:=by
 refine⟨Nat.le_refl _,fun i e x he _ h0=>?_⟩;have hi:=(List.getElem?_eq_some_iff.1 he).1;obtain rfl:i=0:=by simpa using hi
 obtain rfl:aB=e:=by simpa using he
 exact absurd h0 (by simp[aB])
theorem Lp.more(h:Lp M ls)(X:List aq):Lp (M++X) ls:=by refine⟨by rw[List.length_append];have:=h.le;omega,fun i e x he hx h0=>?_⟩;have hi:=(List.getElem?_eq_some_iff.1 hx).1;have:=h.le;rw[List.getElem?_append_left (by omega)]at he;exact(h.Zq i e x he hx h0).more X
theorem Lp.put(h:Lp M ls){x:Int}(hl:ls.length<M.length)(hx:∀e,M[ls.length]?=some e->0<e.hs.length->Up M (ls.length:Int) (j9 e.hs.length) x):Lp M (ls++[x]):=by
 refine⟨by rw[List.length_append];exact hl,fun i e y he hy h0=>?_⟩;by_cases hi:i<ls.length;rw[List.getElem?_append_left hi]at hy;exact h.Zq i e y he hy h0
 ·have hl2:=(List.getElem?_eq_some_iff.1 hy).1;rw[List.length_append,List.length_singleton]at hl2;obtain rfl:i=ls.length:=by omega
  rw[List.getElem?_append_right (Nat.le_refl _),Nat.sub_self]at hy;obtain rfl:x=y:=by simpa using hy
  exact hx e he h0
def cp(M:List aq)(p:Int):Prop:=0<=p/\p<(M.length:Int)
theorem cp.is(h:cp M p):∃(n:Nat)(e:aq),p=(n:Int)/\M[n]?=some e:=by
 obtain⟨n,rfl⟩:=Int.eq_ofNat_of_zero_le h.1;have hn:n<M.length:=by have:=h.2;omega
 exact⟨n,_,rfl,List.getElem?_eq_getElem hn⟩
theorem fF{e:aq}(h:M[n]?=some e):cp M (n:Int):=by have:=(List.getElem?_eq_some_iff.1 h).1;exact⟨by omega,by omega⟩
def dK(M:List aq)(i h z:Int):Prop:=(cp M i/\0<=h/\Up M i h.toNat z)\/(¬(cp M i/\0<=h/\∃x,Up M i h.toNat x)/\z = -1)
theorem dK.ex(M:List aq)(i h:Int):∃z,dK M i h z:=by by_cases hh:cp M i/\0<=h/\∃x,Up M i h.toNat x;obtain⟨h1,h2,x,h3⟩:=hh;exact⟨x,.inl ⟨h1,h2,h3⟩⟩;exact⟨-1,.inr ⟨hh,rfl⟩⟩
theorem dK.SQ{h:Int}(k:dK M i h z)(k':dK M i h z'):z=z':=by
 rcases k with⟨h1,h2,h3⟩|⟨h1,rfl⟩
 ·rcases k' with⟨_,_,q3⟩|⟨q1,_⟩
  exact h3.SQ q3;exact absurd ⟨h1,h2,z,h3⟩ q1
 ·rcases k' with⟨q1,q2,q3⟩|⟨_,rfl⟩
  exact absurd ⟨q1,q2,z',q3⟩ h1;rfl
theorem dK.no{h:Int}(k:dK M i h z)(hh:¬cp M i\/h<0):z = -1:=by
 rcases k with⟨h1,h2,_⟩|⟨_,h⟩
 ·rcases hh with hh|hh
  exact absurd h1 hh;omega
 exact h
theorem dK.high(hM:Ok r M){n:Nat}{e:aq}(he:M[n]?=some e){h z:Int}(k:dK M (n:Int) h z)(hh:(e.hs.length:Int)<h):z = -1:=by
 rcases k with⟨h1,h2,h3⟩|⟨_,h⟩
 have:=h3.low hM he;omega;exact h
theorem dK.up(hM:Ok r M){n:Nat}{e:aq}(he:M[n]?=some e){h z:Int}(k:dK M (n:Int) h z)(h0:0<=h)(hh:h<=(e.hs.length:Int)):Up M (n:Int) h.toNat z:=by
 rcases k with⟨_,_,h3⟩|⟨h1,_⟩
 exact h3;exact absurd ⟨fF he,h0,Up.there hM he (by omega)⟩ h1
theorem JR(hM:Ok r M){n:Nat}{e:aq}(he:M[n]?=some e){i z:Int}(k:dK M i (e.hs.length:Int) z):(n:Int)=z↔cB M (n:Int) i:=by
 constructor
 ·intro hz;rcases k with⟨_,_,L,h1,h2⟩|⟨_,h⟩
  exact⟨L,h1,List.mem_of_getElem? (by first|exact hz▸h2|(unfold Bl;exact hz▸h2))⟩;omega
 ·rintro⟨L,h1,h2⟩;have h3:=h1.at hM h2 he
  have hi:cp M i:=by
   rcases h1.inv with⟨_,rfl⟩|⟨j,d,L',rfl,q1,_⟩
   cases h2;exact fF q1
  exact dK.SQ (.inl ⟨hi,by omega,L,h1,by rw[Int.toNat_natCast];exact h3⟩) k
theorem Row.first(hM:Ok r M){n:Nat}{e:aq}(he:M[n]?=some e){L:List Int}(h:Row M (n:Int) L):L[0]?=some 0:=by
 have hz:(0:Int)∈L:=by
  obtain⟨K,h1,h2⟩:=cB.zero hM n n e (Nat.le_refl _) he;rw[h1.SQ h]at h2;exact h2
 obtain⟨k,hk⟩:=List.mem_iff_getElem?.1 hz;obtain⟨q1,q2⟩:=List.getElem?_eq_some_iff.1 hk;by_cases h0:k=0;subst h0;exact hk;have h2:=(h.up hM).2 _ (List.getElem_mem (by omega:0<L.length));have h3:=List.pairwise_iff_getElem.1 (h.up hM).1 0 k (by omega) q1 (by omega);omega
def Deep(L K:List Int)(k:Nat):Prop:=∀(n:Nat)(t:Int),L[n]?=some t->K[n]?=some t->n<=k
theorem Deep.start(L K:List Int){k:Nat}(h:L.length<=k+1\/K.length<=k+1):Deep L K k:=fun n t h1 h2=>by
 have:=(List.getElem?_eq_some_iff.1 h1).1;have:=(List.getElem?_eq_some_iff.1 h2).1;omega
theorem Deep.V4{j:Int}{K:List Int}(hL:Row M i L)(hK:Row M j K){k:Nat}{x y:Int}(hx:L[k]?=some x)(hy:K[k]?=some y)(hne:x≠y):∀(n:Nat)(t:Int),L[n]?=some t->K[n]?=some t->n<k:=fun n t h1 h2=>by
 refine Nat.lt_of_not_le fun hle=>hne ?_
 have q:=(hL.take h1).SQ (hK.take h2);have e1:(L.take (n+1))[k]?=some x:=by rw[List.getElem?_take,if_pos (by omega)];exact hx
 have e2:(K.take (n+1))[k]?=some y:=by rw[List.getElem?_take,if_pos (by omega)];exact hy
 rw[q]at e1;exact Option.some.inj (e1.symm.trans e2)
def eJ(M:List aq)(ps:List Int)(z:Int):Prop:=(ps≠[]/\(∀p,p∈ps->cp M p)/\nS M ps z)\/(¬(ps≠[]/\∀p,p∈ps->cp M p)/\z = -1)
theorem eJ.SQ(h:eJ M ps z)(h':eJ M ps z'):z=z':=by
 rcases h with⟨h1,h2,h3⟩|⟨h1,rfl⟩
 ·rcases h' with⟨_,_,q3⟩|⟨q1,_⟩
  exact h3.SQ q3;exact absurd ⟨h1,h2⟩ q1
 ·rcases h' with⟨q1,q2,_⟩|⟨_,rfl⟩
  exact absurd ⟨q1,q2⟩ h1;rfl
theorem eJ.perm{qs:List Int}(h:eJ M ps z)(hq:∀p,p∈qs↔p∈ps):eJ M qs z:=by
 have hn:qs≠[]↔ps≠[]:=by
  constructor;intro h hp;obtain⟨x,hx⟩:=List.exists_mem_of_ne_nil qs h;rw[hq,hp]at hx;cases hx;intro h hp;obtain⟨x,hx⟩:=List.exists_mem_of_ne_nil ps h;rw[<-hq,hp]at hx;cases hx
 rcases h with⟨h1,h2,h3⟩|⟨h1,rfl⟩
 exact .inl ⟨hn.2 h1,fun p hp=>h2 p ((hq p).1 hp),h3.perm hq⟩;exact .inr ⟨fun h=>h1 ⟨hn.1 h.1,fun p hp=>h.2 p ((hq p).2 hp)⟩,rfl⟩
theorem eJ.snoc(hM:Ok r M){ps:List Int}{o p z:Int}(hps:ps≠[])(h:eJ M ps o)(k:eJ M [o,p] z):eJ M (ps++[p]) z:=by
 rcases h with⟨h1,h2,h3⟩|⟨h1,rfl⟩
 ·have ho:cp M o:=by
   obtain⟨q,hq⟩:=List.exists_mem_of_ne_nil ps hps;have:=(h3.1 q hq).le hM;exact⟨this.1,this.2.2⟩
  rcases k with⟨_,k2,k3⟩|⟨k1,rfl⟩
  ·refine .inl ⟨by simp,fun q hq=>?_,h3.snoc hM hps k3⟩;rcases List.mem_append.1 hq with hq|hq
   exact h2 q hq;obtain rfl:q=p:=(by simpa using hq);exact k2 q (by simp)
  ·refine .inr ⟨fun hh=>k1 ⟨by simp,fun q hq=>?_⟩,rfl⟩;rcases List.mem_cons.1 hq with rfl|hq
   exact ho;obtain rfl:q=p:=(by simpa using hq);exact hh.2 q (by simp)
 ·rcases k with⟨_,k2,_⟩|⟨_,rfl⟩
  have:=(k2 (-1) (by simp)).1;omega;exact .inr ⟨fun hh=>h1 ⟨hps,fun q hq=>hh.2 q (List.mem_append.2 (.inl hq))⟩,rfl⟩
theorem eJ.ex(hM:Ok r M)(x y:Int):∃z,eJ M [x,y] z:=by
 by_cases hh:cp M x/\cp M y
 ·obtain⟨hx,hy⟩:=hh;obtain⟨n,e,rfl,he⟩:=hx.is;obtain⟨m,d,rfl,hd⟩:=hy.is;obtain⟨L,hL,_⟩:=hM.row he;obtain⟨K,hK,_⟩:=hM.row hd;refine⟨_,.inl ⟨by simp,fun p hp=>?_,Iv hM hd he hK hL⟩⟩;rcases List.mem_cons.1 hp with rfl|hp
  exact hx
  ·obtain rfl:p=(m:Int):=by simpa using hp
   exact hy
 exact⟨-1,.inr ⟨fun h=>hh ⟨h.2 x (by simp),h.2 y (by simp)⟩,rfl⟩⟩
theorem eJ.self(h:eJ M [p,p] z):eJ M [p] z:=h.perm fun q=>by simp
end Ar
namespace Ch
open Ar (aq Ru aB Ok Row cB nS eJ)
def oZ:List Int->List Int->Nat
 | x::L,y::K=>if x=y then oZ L K+1 else 0
 | _,_=>0
theorem CT(K:List Int):oZ [] K=0:=by unfold oZ;rfl
theorem rG:∀L K:List Int,oZ L K<=L.length/\oZ L K<=K.length
 | [],K=>by rw[CT];exact⟨Nat.zero_le _,Nat.zero_le _⟩
 | x::L,[]=>⟨Nat.zero_le _,Nat.zero_le _⟩
 | x::L,y::K=>by
  have h:=rG L K;unfold oZ;split;simp only[List.length_cons];omega;exact⟨Nat.zero_le _,Nat.zero_le _⟩
theorem vC:∀{L K:List Int},L <+: K->oZ L K=L.length
 | [],K,_=>CT K
 | x::L,[],h=>by simp at h
 | x::L,y::K,h=>by
  rw[List.cons_prefix_cons]at h;unfold oZ;rw[if_pos h.1,vC h.2,List.length_cons]
theorem zm(x:Int):∀{L K:List Int},¬(L++[x]) <+: K->oZ (L++[x]) K=oZ L K
 | [],[],_=>rfl
 | [],y::K,h=>by
  rw[List.nil_append,List.cons_prefix_cons]at h;rw[List.nil_append,CT];unfold oZ;rw[if_neg (fun e=>h ⟨e,List.nil_prefix⟩)]
 | a::L,[],_=>rfl
 | a::L,y::K,h=>by
  rw[List.cons_append,List.cons_prefix_cons]at h;rw[List.cons_append];unfold oZ;by_cases e:a=y;rw[if_pos e,if_pos e,zm x (fun hh=>h ⟨e,hh⟩)];rw[if_neg e,if_neg e]
def iM(K L:List Int):List Int:=if L=K then L else if L.isPrefixOf K=true then K.take (L.length+1)else L.dropLast
variable{K L:List Int}
theorem sU(h:L=K):iM K L=L:=if_pos h
theorem ll(h:L≠K)(hp:L <+: K):iM K L=K.take (L.length+1):=by unfold iM;rw[if_neg h,if_pos (List.isPrefixOf_iff_prefix.2 hp)]
theorem BU(hp:¬L <+: K):iM K L=L.dropLast:=by unfold iM;rw[if_neg (fun e:L=K=>hp (by rw[e];exact List.prefix_rfl)),if_neg (fun e=>hp (List.isPrefixOf_iff_prefix.1 e))]
theorem lO(h:L≠K)(hp:L <+: K):L.length<K.length:=by
 rcases Nat.lt_or_ge L.length K.length with h1|h1
 exact h1;exact absurd (hp.eq_of_length (Nat.le_antisymm hp.length_le h1)) h
def iw(K L:List Int):Nat:=L.length+K.length-2*oZ L K
theorem tO(K:List Int):iw K K=0:=by unfold iw;rw[vC List.prefix_rfl];omega
theorem uN(h:L≠K)(h0:0<L.length):iw K L=iw K (iM K L)+1:=by by_cases hp:L <+: K;have h1:=lO h hp;rw[ll h hp];unfold iw;rw[vC hp,vC (List.take_prefix _ _),List.length_take];omega;rw[BU hp];obtain rfl|⟨L0,x,rfl⟩:=List.eq_nil_or_concat L;simp at h0;rw[List.concat_eq_append]at hp|-;have h1:=rG L0 K;rw[List.dropLast_concat];unfold iw;rw[zm x hp,List.length_append,List.length_singleton];omega
section
variable{r:Ru}{M:List aq}{i t:Nat}{L K:List Int}
theorem Aq(hL:Row M (i:Int) L)(hK:Row M (t:Int) K):L=K↔i=t:=by constructor;rintro rfl;have:=hL.last.2.symm.trans hK.last.2;exact Int.ofNat.inj (Option.some.inj this);rintro rfl;exact hL.SQ hK
theorem nk(hL:Row M (i:Int) L)(hK:Row M (t:Int) K):cB M (i:Int) (t:Int)↔L <+: K:=by constructor;rintro⟨K',h1,h2⟩;obtain rfl:=hK.SQ h1;obtain⟨k,hk⟩:=List.mem_iff_getElem?.1 h2;rw[hL.SQ (hK.take hk)];exact List.take_prefix _ _;intro hp;exact⟨K,hK,hp.subset (List.mem_of_getElem? hL.last.2)⟩
theorem zE(hM:Ok r M)(hK:Row M (t:Int) K)(hp:L <+: K)(hn:L≠K):∃z:Nat,K[L.length]?=some (z:Int)/\z<M.length/\Row M (z:Int) (iM K L):=by have h1:=lO hn hp;obtain⟨x,hx⟩:∃x,K[L.length]?=some x:=⟨_,List.getElem?_eq_getElem h1⟩;have h2:=(hK.up hM).2 x (List.mem_of_getElem? hx);obtain⟨z,rfl⟩:=Int.eq_ofNat_of_zero_le h2.1;refine⟨z,hx,by omega,?_⟩;rw[ll hn hp];exact hK.take hx
theorem im(hL:Row M (i:Int) L):∃(e:aq)(L':List Int),M[i]?=some e/\Row M e.up L'/\L=L'++[(i:Int)]:=by
 rcases hL.inv with⟨h,_⟩|⟨j,d,L',h1,h2,h3,h4⟩
 omega
 ·obtain rfl:i=j:=by omega
  exact⟨d,L',h2,h3,h4⟩
theorem MP(hM:Ok r M)(hL:Row M (i:Int) L)(hK:Row M (t:Int) K)(hp:¬L <+: K):∃(z:Nat)(e:aq),M[i]?=some e/\e.up=(z:Int)/\z<M.length/\Row M (z:Int) (iM K L):=by
 obtain⟨e,L',h1,h2,rfl⟩:=im hL;obtain⟨_,_,ht,_,_⟩:=im hK;have ht:=(List.getElem?_eq_some_iff.1 ht).1;rcases hM.ahead h1 with⟨rfl,rfl⟩|⟨j,a,h,q1,q2,q3,_⟩
 exact absurd ((nk hL hK).1 (Mk.GG hM ht)) hp;refine⟨j,e,h1,q3,(List.getElem?_eq_some_iff.1 q2).1,?_⟩;rw[BU hp,List.dropLast_concat,<-q3];exact h2
theorem tY(hM:Ok r M)(hL:Row M (i:Int) L)(hK:Row M (t:Int) K):∃z:Nat,z<M.length/\Row M (z:Int) (iM K L):=by
 by_cases e:L=K;obtain⟨_,_,h,_,_⟩:=im hL;rw[sU e];exact⟨i,(List.getElem?_eq_some_iff.1 h).1,hL⟩
 ·by_cases hp:L <+: K;obtain⟨z,_,h1,h2⟩:=zE hM hK hp e;exact⟨z,h1,h2⟩;obtain⟨z,_,_,_,h1,h2⟩:=MP hM hL hK hp;exact⟨z,h1,h2⟩
end
