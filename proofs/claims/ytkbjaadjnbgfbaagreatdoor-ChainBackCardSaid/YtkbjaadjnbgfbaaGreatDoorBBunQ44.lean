import Derived.Test.YtkbjaadjnbgfbaaGreatDoorBBunQ42
set_option maxRecDepth 100000
set_option maxHeartbeats 4000000
namespace Go.Proofs.YtkbjaadjnbgfbaaGreatDoor.An
open Go.RowKit Mem Sc
open Ar (aq Ru aB Ok Up cp Row)
theorem DW:(Tryz.prog.info? 3).map (fun i=>(i.zero,i.size,i.bytes))=some (some (i_ 0),1,8):=by kernel_rfl
theorem Fq(n:Nat)(hn:n<=1000)(w:World):(Instr.makeSlice 49 (i_ n) (i_ n)).run Tryz.prog w=.ok (.slice (some ⟨w.heap.size,0,none⟩) n n) (w.alloc (.cells (madeCells #[i_ 0] n) 3)):=
 run_make_row' 49 3 (i_ 0) 8 Tryz.underlying49 DW rfl .i64 .i64 n (by omega) (by omega) w
def fP(L:List Int)(n i:Nat):List Value:=List.replicate (n-i) (i_ 0)++(L.drop (n+1-i)).map (Value.int .i64)
variable{L:List Int}{n:Nat}
theorem QW(h:L.length=n+1):(madeCells #[i_ 0] n)=(fP L n 0).toArray:=by rw[<-Array.toArray_toList (xs:=madeCells #[i_ 0] n),toList_madeCells_one];unfold fP;rw[Nat.sub_zero,Nat.sub_zero,List.drop_eq_nil_of_le (by omega)];simp
theorem Nu{i:Nat}{x:Int}(hi:i<n)(hx:L[n-i]?=some x):(fP L n i).toArray.setIfInBounds (n-1-i) (i_ x)=(fP L n (i+1)).toArray:=by
 unfold fP;obtain⟨m,hm⟩:∃m,n-1-i=m:=⟨_,rfl⟩;have e1:n-i=m+1:=by omega
 have e2:n-(i+1)=m:=by omega
 have e3:n+1-(i+1)=m+1:=by omega
 have e4:n+1-i=m+1+1:=by omega
 rw[hm,e1,e2,e3,e4];rw[e1]at hx;obtain⟨h1,h2⟩:=List.getElem?_eq_some_iff.1 hx;rw[List.drop_eq_getElem_cons h1,h2,List.replicate_succ',List.setIfInBounds_toArray,List.append_assoc,List.set_append_right _ _ (by simp)];simp
theorem Lt(L:List Int)(n:Nat):fP L n n=(L.drop 1).map (Value.int .i64):=by unfold fP;rw[Nat.sub_self,show n+1-n=1 by omega];rfl
theorem P0(L:List Int)(n i:Nat)(h:L.length=n+1)(hi:i<=n):(fP L n i).length=n:=by unfold fP;simp;omega
theorem Kn(tp:Value)(r:Ru)(M:List aq)(hM:Ok r M)(j:Nat)(e:aq)(he:M[j]?=some e)(n:Nat)(hn:n=e.hs.length)(h9:n<=1000)(hE:(bs r e).ok)(L:List Int)(hL:Row M (j:Int) L)(w:World)(KA:aQ w 29 #[tp,i_ j] (.tuple #[.agg (bT (bs r e)),.bool true]))(KU:∀(n:Nat)(e:aq),M[n]?=some e->aQ w 91 #[tp,i_ n] (i_ e.up)):aG 55 #[tp,i_ j] w fun x w'=>∃g,x=.returned (.slice (aT g) n n)/\w.heap.size<=g/\Has w' g ((L.drop 1).map (Value.int .i64)).toArray 3/\Bl w w':=by
 have hLn:L.length=n+1:=by rw[hn];exact hL.len hM he
 have Yu:=h_ hLn;have HL0:Hid (L[n]?=some (j:Int)):=h_ (by have:=hL.last.2;rwa[hLn,Nat.add_sub_cancel]at this);have HE:Hid ((bs r e).ht=(n:Int)):=h_ (by rw[hn];rfl);have HLR:=h_ hL;clear hLn hL hn he;generalize bs r e=E at*;clear e;have ze:=gE hE;have z0:=gE cZ;have hB:=Below.refl w.heap.size w;obtain⟨e1,he1⟩:∃e1:Int,e1=(n:Int)-1:=⟨_,rfl⟩;have hw1:IntKind.i64.wrap ((n:Int)-1)=e1:=by rw[IntKind.wrap_i64];omega
 have Tu:=h_ he1;clear he1;go_enter Tryz.func55,Tryz.ntmps55;go_wp2_with fail
 refine(KA.out _ hB).mono ?_;rintro x v1 ⟨rfl,hb⟩;replace hB:=ah hB hb;clear hb;have hnew:=gL v1;have hX:=lX v1 E;have hb3:=mz v1 60 Tryz.zeroCells60 (bT E);go_upto_region 2 with(with_reducible refine gX rfl _ _ rfl _ _ E rfl rfl rfl ze hnew z0 ?_)
 generalize World.setRow _ _ _=v2 at*;replace hB:=ah hB hb3;have c1:=bB.ht hX hE HE;clear hb3 hnew KA;have hmk:=fun w=>Fq n h9 w
 go_upto_region 5 with fail
 generalize hw3:World.alloc _ _=v3;have hB3:Bl w v3:=by rw[<-hw3];exact hB.alloc hB.size _
 have hG:Has v3 v2.heap.size (fP L n 0).toArray 3:=by rw[<-hw3,QW Yu.out];exact Has.new _ _
 obtain⟨g,hg⟩:∃g,g=v2.heap.size:=⟨_,rfl⟩;rw[<-hg]at hG|-;have HG:Hid (w.heap.size<=g):=h_ (by rw[hg];exact hB.size);clear hw3 hg hB c1 hmk hX;go_wp2_with fail
 go_loopw [1,22] (fun v u wr=>∃(i:Nat)(x:Int),i<=n/\v=i_ x/\u=i_ i/\Hid (L[n-i]?=some x)/\Has wr g (fP L n i).toArray 3/\Bl w wr) (fun _ u _=>n-(intOf u).toNat)
 case atStart=>exact⟨0,(j:Int),by omega,rfl,rfl,HL0,hG,hB3⟩
 case round=>
  clear hG hB3;obtain⟨i,x,hi,rfl,rfl,HX,hG,hB⟩:=hrel;by_cases hlt:i<n
  ·obtain⟨q,hq⟩:∃q,q=n-1-i:=⟨_,rfl⟩;have hw2:IntKind.i64.wrap (e1-(i:Int))=(q:Int):=by have:=Tu.out;rw[IntKind.wrap_i64];omega
   have hqn:q<n:=by omega
   have HQ:=h_ hq;have hup:Up M (j:Int) (n-i) x:=⟨L,HLR.out,HX.out⟩;obtain⟨m,d,rfl,hd,hdl⟩:=hup.place hM
   have HU:Hid (L[n-(i+1)]?=some d.up):=h_ (by
    obtain⟨K,k1,k2⟩:=hup.trans (Up.ahead hM hd (by omega)).1;rw[k1.SQ HLR.out,hdl]at k2;rw[show n-(i+1)=n-i-1 by omega];exact k2)
   have X3:=KU m d hd;have hf:wr.frozen? ⟨g,q,none⟩=false:=Has.free hG q;have hc:∃u,wr.cell? ⟨g,q,none⟩=some u:=⟨_,(Has.cell hG q).trans (Array.getElem?_eq_getElem (by rw[List.size_toArray,P0 L n i Yu.out hi];exact hqn))⟩;obtain⟨u,hc⟩:=hc
   have hG2:Has (wr.setCell ⟨g,q,none⟩ (i_ m)) g (fP L n (i+1)).toArray 3:=by
    have:=Has.set (i:=q) hG (i_ m);rw[HQ.out,Nu hlt HX.out,<-HQ.out]at this;exact this
   have hB2:Bl w (wr.setCell ⟨g,q,none⟩ (i_ m)):=hB.setCell HG.out _;clear hq hup hd hdl HX hG hB;generalize d.up=z at*;go_wp2_with (with_reducible refine D9 rfl _ _ rfl ⟨g,q,none⟩ (m:Int) _ rfl rfl hf hc ?_)
   generalize World.setCell _ _ _=v4 at*;clear hf hc;refine au (X3.out _ hB2) fun v5 hb=>?_;have hG3:=cg hb hG2 (Has.lt hG2);replace hB2:=ah hB2 hb;clear hb hG2;go_wp2_with fail
   go_roundw
   case rel=>exact⟨i+1,z,by omega,rfl,by go_num,HU,hG3,hB2⟩
   case measure=>simp[intOf];omega
  ·obtain rfl:i=n:=by omega
   rw[Lt]at hG;go_wp2_with fail
   go_ret;exact⟨g,rfl,HG.out,hG,hB⟩
theorem xu{w:World}{F:Nat->Prop}{b:Nat}{r:Ru}{M:List aq}{ls:List Int}(h:f_ w F b r M ls)(hM:Ok r M)(Wk:M.length<=900)(j:Nat)(e:aq)(he:M[j]?=some e)(L:List Int)(hL:Row M (j:Int) L):aG 55 #[af b,i_ j] w fun x w'=>∃g,x=.returned (.slice (aT g) e.hs.length e.hs.length)/\w.heap.size<=g/\Has w' g ((L.drop 1).map (Value.int .i64)).toArray 3/\Bl w w':=by obtain⟨Fa,ab,_,k2⟩:=h.parts;have h1:=(hM.chain j e he).1;have h2:=(List.getElem?_eq_some_iff.1 he).1;exact Kn _ r M hM j e he _ rfl (by omega) (jy k2 he) L hL w (h_ fun w' hb=>eZ (h.below hb) he _ rfl) (fun n e he=>h_ fun w' hb=>F0 (h.below hb) he)
end Go.Proofs.YtkbjaadjnbgfbaaGreatDoor.An
namespace Go.Proofs.YtkbjaadjnbgfbaaGreatDoor.An
open Go.RowKit Mem Sc NN.Si
open Ar (aq Ru aB Ok cp Row cB Up dK eJ)
open Mk (cF gk aM pb verdict a_ bc dP word bF)
def RF(cb mr:Nat):Array Value:=#[af cb,af mr]
def Ni(bt mb tip:Nat):Array Value:=#[af bt,af mb,i_ tip]
def Ir(bm rb:Nat)(v:Value):Array Value:=#[af bm,af rb,v]
def y_(La:List Int)(cur:Array Value):Prop:=La.length<=cur.size/\∀(k:Nat)(z:Int),La[k]?=some z->cur[k]?=some (i_ z)
abbrev yS:=List (Nat×Array Value×TypeId)
inductive nh (bb cb mr bt mb bm rb:Nat) (x:yS) (tip ag n:Nat) (cur:Array Value):Nat->Array Value->TypeId->Prop
 | bb:nh bb cb mr bt mb bm rb x tip ag n cur bb (RF cb mr) 58
 | cb:nh bb cb mr bt mb bm rb x tip ag n cur cb (Ni bt mb tip) 88
 | mr:nh bb cb mr bt mb bm rb x tip ag n cur mr (Ir bm rb (.slice (aT ag) n cur.size)) 66
 | ag:nh bb cb mr bt mb bm rb x tip ag n cur ag cur 3
 | act (p:Nat×Array Value×TypeId):p∈x->nh bb cb mr bt mb bm rb x tip ag n cur p.1 p.2.1 p.2.2
def Fo(x:yS):Prop:=∀p∈x,p.2.2≠88/\p.2.2≠66
def aS(w0 w:World)(r:Ru)(bb cb mr bt mb mg bm rb:Nat)(x:yS)(Mt Mr:List aq)(Sp Sr:Mk.St)(tip:Nat)(La:List Int):Prop:=
 Fo x/\∃(ag:Nat)(cur:Array Value),y_ La cur/\Core w0 w r bt mb mg bm rb (nh bb cb mr bt mb bm rb x tip ag La.length cur) Mt Mr Sp Sr
section
variable{w0 w w':World}{r:Ru}{bb cb mr bt mb mg bm rb:Nat}{x:yS}{Mt Mr M:List aq}{Sp Sr S':Mk.St}{tip ag n:Nat}{La:List Int}{cur:Array Value}
theorem aS.below(h:aS w0 w r bb cb mr bt mb mg bm rb x Mt Mr Sp Sr tip La)(hb:Bl w w'):aS w0 w' r bb cb mr bt mb mg bm rb x Mt Mr Sp Sr tip La:=by obtain⟨hf,ag,cur,h1,h2⟩:=h;exact⟨hf,ag,cur,h1,h2.below hb⟩
theorem aS.S9(h:aS w0 w r bb cb mr bt mb mg bm rb x Mt Mr Sp Sr tip La):Bl w0 w:=by obtain⟨hf,ag,cur,h1,h2⟩:=h;exact h2.S9
variable{x':yS}
theorem nh.less(hx:∀p∈x',p∈x){i:Nat}{cs:Array Value}{T:TypeId}(h:nh bb cb mr bt mb bm rb x' tip ag n cur i cs T):nh bb cb mr bt mb bm rb x tip ag n cur i cs T:=by
 cases h with
 | bb=>exact .bb
 | cb=>exact .cb
 | mr=>exact .mr
 | ag=>exact .ag
 | act p hp=>exact .act p (hx p hp)
theorem aS.less(h:aS w0 w r bb cb mr bt mb mg bm rb x Mt Mr Sp Sr tip La)(hx:∀p∈x',p∈x):aS w0 w r bb cb mr bt mb mg bm rb x' Mt Mr Sp Sr tip La:=by obtain⟨hf,ag,cur,h1,h2⟩:=h;exact⟨fun p hp=>hf p (hx p hp),ag,cur,h1,h2.loose fun _ _ _ hi=>hi.less hx⟩
theorem aS.loose(h:aS w0 w r bb cb mr bt mb mg bm rb x Mt Mr Sp Sr tip La):aS w0 w r bb cb mr bt mb mg bm rb [] Mt Mr Sp Sr tip La:=h.less fun _ hp=>by cases hp
variable{bx:Nat}
theorem aS.put{cs:Array Value}{T:TypeId}(h:aS w0 w r bb cb mr bt mb mg bm rb x Mt Mr Sp Sr tip La)(hb:Bl w w')(hx:w.heap.size<=bx)(hY:Has w' bx cs T)(h1:T≠88)(h2:T≠66):aS w0 w' r bb cb mr bt mb mg bm rb ((bx,cs,T)::x) Mt Mr Sp Sr tip La:=by
 obtain⟨hf,ag,cur,g1,g2⟩:=h;refine⟨fun p hp=>?_,ag,cur,g1,g2.turn hb fun i cs T hi=>?_⟩
 ·rcases List.mem_cons.1 hp with rfl|hp
  exact⟨h1,h2⟩;exact hf p hp
 cases hi with
 | bb=>exact .inl .bb
 | cb=>exact .inl .cb
 | mr=>exact .inl .mr
 | ag=>exact .inl .ag
 | act p hp=>
  rcases List.mem_cons.1 hp with rfl|hp
  exact .inr ⟨hx,hY⟩;exact .inl (.act p hp)
theorem aS.has{p:Nat×Array Value×TypeId}(h:aS w0 w r bb cb mr bt mb mg bm rb x Mt Mr Sp Sr tip La)(hp:p∈x):Has w p.1 p.2.1 p.2.2:=by obtain⟨hf,ag,cur,h1,h2⟩:=h;exact h2.has (.act p hp)
theorem aS.box(h:aS w0 w r bb cb mr bt mb mg bm rb [] Mt Mr Sp Sr tip La)(hb:Bl w w'){bx:Nat}(hx:bx=w.heap.size){y:Ac}(hY:dI w' bx y):aS w0 w' r bb cb mr bt mb mg bm rb [(bx,dh y,39)] Mt Mr Sp Sr tip La:=h.put hb (Nat.le_of_eq hx.symm) hY (by decide) (by decide)
theorem aS.act{y:Ac}(h:aS w0 w r bb cb mr bt mb mg bm rb [(bx,dh y,39)] Mt Mr Sp Sr tip La):dI w bx y:=h.has (p:=(bx,dh y,39)) (List.mem_singleton.2 rfl)
theorem aS.b0(h:aS w0 w r bb cb mr bt mb mg bm rb x Mt Mr Sp Sr tip La):w.cell? ⟨bb,0,none⟩=some (af cb):=by obtain⟨hf,ag,cur,h1,h2⟩:=h;exact Has.cell (h2.has .bb) 0
theorem aS.b1(h:aS w0 w r bb cb mr bt mb mg bm rb x Mt Mr Sp Sr tip La):w.cell? ⟨bb,1,none⟩=some (af mr):=by obtain⟨hf,ag,cur,h1,h2⟩:=h;exact Has.cell (h2.has .bb) 1
theorem aS.c0(h:aS w0 w r bb cb mr bt mb mg bm rb x Mt Mr Sp Sr tip La):w.cell? ⟨cb,0,none⟩=some (af bt):=by obtain⟨hf,ag,cur,h1,h2⟩:=h;exact Has.cell (h2.has .cb) 0
theorem aS.c1(h:aS w0 w r bb cb mr bt mb mg bm rb x Mt Mr Sp Sr tip La):w.cell? ⟨cb,1,none⟩=some (af mb):=by obtain⟨hf,ag,cur,h1,h2⟩:=h;exact Has.cell (h2.has .cb) 1
theorem aS.c2(h:aS w0 w r bb cb mr bt mb mg bm rb x Mt Mr Sp Sr tip La):w.cell? ⟨cb,2,none⟩=some (i_ tip):=by obtain⟨hf,ag,cur,h1,h2⟩:=h;exact Has.cell (h2.has .cb) 2
theorem aS.m0(h:aS w0 w r bb cb mr bt mb mg bm rb x Mt Mr Sp Sr tip La):w.cell? ⟨mr,0,none⟩=some (af bm):=by obtain⟨hf,ag,cur,h1,h2⟩:=h;exact Has.cell (h2.has .mr) 0
theorem aS.m1(h:aS w0 w r bb cb mr bt mb mg bm rb x Mt Mr Sp Sr tip La):w.cell? ⟨mr,1,none⟩=some (af rb):=by obtain⟨hf,ag,cur,h1,h2⟩:=h;exact Has.cell (h2.has .mr) 1
theorem aS.row(h:aS w0 w r bb cb mr bt mb mg bm rb x Mt Mr Sp Sr tip La):∃ag c,La.length<=c/\ag<w.heap.size/\∀w',Bl w w'->w'.cell? ⟨mr,2,none⟩=some (.slice (aT ag) La.length c)/\∀(k:Nat)(z:Int),La[k]?=some z->w'.cell? ⟨ag,k,none⟩=some (i_ z):=by obtain⟨hf,ag,cur,h1,h2⟩:=h;refine⟨ag,cur.size,h1.1,(h2.has .ag).lt,fun w' hb=>?_⟩;have h3:=h2.below hb;exact⟨Has.cell (h3.has .mr) 2,fun k z hk=>by rw[Has.cell (h3.has .ag) k];exact h1.2 k z hk⟩
theorem aS.core(h:aS w0 w r bb cb mr bt mb mg bm rb x Mt Mr Sp Sr tip La):∃X,Core w0 w r bt mb mg bm rb X Mt Mr Sp Sr:=by obtain⟨hf,ag,cur,h1,h2⟩:=h;exact⟨_,h2⟩
theorem aS.lift{Mt' Mr':List aq}{Sp' Sr':Mk.St}{P:Program}{f:FuncId}{args:Array Value}{v:Value}(h:aS w0 w r bb cb mr bt mb mg bm rb x Mt Mr Sp Sr tip La)(k:∀X,Core w0 w r bt mb mg bm rb X Mt Mr Sp Sr->Calls P f args w fun e w'=>e=.returned v/\Core w0 w' r bt mb mg bm rb X Mt' Mr' Sp' Sr'):Calls P f args w fun e w'=>e=.returned v/\aS w0 w' r bb cb mr bt mb mg bm rb x Mt' Mr' Sp' Sr' tip La:=by obtain⟨hf,ag,cur,h1,h2⟩:=h;exact(k _ h2).mono fun e w' h3=>⟨h3.1,hf,ag,cur,h1,h3.2⟩
theorem nh.uniq(hf:Fo x)(h:Core w0 w r bt mb mg bm rb (nh bb cb mr bt mb bm rb x tip ag n cur) Mt Mr Sp Sr):bb≠cb/\mr≠cb/\ag≠cb/\bb≠mr/\ag≠mr/\∀p∈x,p.1≠cb/\p.1≠mr:=by have b:=h.has .bb;have c:=h.has .cb;have m:=h.has .mr;have a:=h.has .ag;exact⟨cC b c (by decide),cC m c (by decide),cC a c (by decide),cC b m (by decide),cC a m (by decide),fun p hp=>⟨cC (h.has (.act p hp)) c (hf p hp).1,cC (h.has (.act p hp)) m (hf p hp).2⟩⟩
theorem aS.Wp(h:aS w0 w r bb cb mr bt mb mg bm rb x Mt Mr Sp Sr tip La)(t2:Nat):aS w0 (w.setCell ⟨cb,2,none⟩ (i_ t2)) r bb cb mr bt mb mg bm rb x Mt Mr Sp Sr t2 La:=by
 obtain⟨hf,ag,cur,h1,h2⟩:=h;obtain⟨q1,q2,q3,_,_,q6⟩:=nh.uniq hf h2;refine⟨hf,ag,cur,h1,h2.wrote .cb (Kp.gb (fJ w cb 2 _) (fun k hk=>(Option.some.inj hk).symm)) (cs':=Ni bt mb t2) (Has.set (i:=2) (h2.has .cb) _) fun i d U hi=>?_⟩;cases hi with
 | bb=>exact .inr ⟨q1,.bb⟩
 | cb=>exact .inl ⟨rfl,rfl,rfl⟩
 | mr=>exact .inr ⟨q2,.mr⟩
 | ag=>exact .inr ⟨q3,.ag⟩
 | act p hp=>exact .inr ⟨(q6 p hp).1,.act p hp⟩
theorem aS.Ti(h:aS w0 w r bb cb mr bt mb mg bm rb x Mt Mr Sp Sr tip La)(hb:Bl w w'){a2:Nat}{Ui:Array Value}{L2:List Int}(h2:w.heap.size<=a2)(h3:Has w' a2 Ui 3)(h4:y_ L2 Ui):aS w0 (w'.setCell ⟨mr,2,none⟩ (.slice (aT a2) L2.length Ui.size)) r bb cb mr bt mb mg bm rb x Mt Mr Sp Sr tip L2:=by
 obtain⟨hf,ag,cur,h1,hC⟩:=h;have hA:Core w0 w' r bt mb mg bm rb (fun i cs T=>nh bb cb mr bt mb bm rb x tip ag La.length cur i cs T\/(i=a2/\cs=Ui/\T=3)) Mt Mr Sp Sr:=hC.turn hb fun i cs T hi=>hi.imp id fun⟨e1,e2,e3⟩=>by subst e1 e2 e3;exact⟨h2,h3⟩
 obtain⟨q1,q2,q3,q4,q5,q6⟩:=nh.uniq hf hC;refine⟨hf,a2,Ui,h4,hA.wrote (.inl .mr) (Kp.gb (fJ w' mr 2 _) (fun k hk=>(Option.some.inj hk).symm)) (cs':=Ir bm rb (.slice (aT a2) L2.length Ui.size)) (Has.set (i:=2) (hA.has (.inl .mr)) _) fun i d U hi=>?_⟩;cases hi with
 | bb=>exact .inr ⟨q4,.inl .bb⟩
 | cb=>exact .inr ⟨q2.symm,.inl .cb⟩
 | mr=>exact .inl ⟨rfl,rfl,rfl⟩
 | ag=>exact .inr ⟨cC h3 (hA.has (.inl .mr)) (by decide),.inr ⟨rfl,rfl,rfl⟩⟩
 | act p hp=>exact .inr ⟨(q6 p hp).2,.inl (.act p hp)⟩
theorem aS.Wq(h:aS w0 w r bb cb mr bt mb mg bm rb x Mt Mr Sp Sr tip La){n c:Nat}(hn:n<=La.length)(hc:w.cell? ⟨mr,2,none⟩=some (.slice (aT ag) La.length c)):aS w0 (w.setCell ⟨mr,2,none⟩ (.slice (aT ag) n c)) r bb cb mr bt mb mg bm rb x Mt Mr Sp Sr tip (La.take n):=by
 obtain⟨hf,a2,cur,h1,hC⟩:=h;have h2:=Has.cell (hC.has .mr) 2;rw[hc]at h2;cases h2;obtain⟨q1,q2,q3,q4,q5,q6⟩:=nh.uniq hf hC;have hl:(La.take n).length=n:=by rw[List.length_take];omega
 refine⟨hf,ag,cur,⟨by have:=h1.1;omega,fun k z hk=>h1.2 k z ?_⟩,?_⟩;rw[List.getElem?_take]at hk;split at hk;exact hk;cases hk;rw[hl];refine hC.wrote .mr (Kp.gb (fJ w mr 2 _) (fun k hk=>(Option.some.inj hk).symm)) (cs':=Ir bm rb (.slice (aT ag) n cur.size)) (Has.set (i:=2) (hC.has .mr) _) fun i d U hi=>?_
 cases hi with
 | bb=>exact .inr ⟨q4,.bb⟩
 | cb=>exact .inr ⟨q2.symm,.cb⟩
 | mr=>exact .inl ⟨rfl,rfl,rfl⟩
 | ag=>exact .inr ⟨q5,.ag⟩
 | act p hp=>exact .inr ⟨(q6 p hp).2,.act p hp⟩
theorem aS.free(h:aS w0 w r bb cb mr bt mb mg bm rb x Mt Mr Sp Sr tip La):w.frozen? ⟨cb,2,none⟩=false/\w.frozen? ⟨mr,2,none⟩=false:=by obtain⟨hf,ag,cur,h1,h2⟩:=h;exact⟨Has.free (h2.has .cb) 2,Has.free (h2.has .mr) 2⟩
theorem aS.rd(h:aS w0 w r bb cb mr bt mb mg bm rb x Mt Mr Sp Sr tip La)(hM:Ok r Mt)(hl:Mt.length<=1000):jl w (aT mb) (aT bt) r Mt Sp:=by obtain⟨X,h⟩:=h.core;exact h.rd hM hl
theorem aS.rf(h:aS w0 w r bb cb mr bt mb mg bm rb x Mt Mr Sp Sr tip La):∃Fm,gC w w0.heap.size Fm bm r Mr:=by obtain⟨X,h⟩:=h.core;exact h.rf
theorem aS.rk(h:aS w0 w r bb cb mr bt mb mg bm rb x Mt Mr Sp Sr tip La):dW w rb Sr:=by obtain⟨X,h⟩:=h.core;exact h.rk
theorem aS.tr(h:aS w0 w r bb cb mr bt mb mg bm rb x Mt Mr Sp Sr tip La):∃F ls,f_ w F bt r Mt ls/\ls.length=Mt.length:=by obtain⟨_,ag,cur,_,⟨F,Fm,⟨⟨b,ls,e,h1,h2⟩|⟨e,_⟩,_⟩,_⟩,_⟩:=h;cases e;exact⟨F,ls,h1,h2⟩;cases e
theorem JU(h:aS w0 w r bb cb mr bt mb mg bm rb x Mt Mr Sp Sr tip La){i:Nat}{d:aq}(he:Mt[i]?=some d):ak 29 #[af bt,i_ i] w (.tuple #[.agg (bT (bs r d)),.bool true]):=by obtain⟨F,ls,h1,h2⟩:=h.tr;exact eZ h1 he _ rfl
theorem B9(h:aS w0 w r bb cb mr bt mb mg bm rb x Mt Mr Sp Sr tip La)(hM:Ok r Mt)(hl:Mt.length<=900)(a b:Int):ak 35 #[af bt,i_ a,i_ b] w (.bool (pb (cB Mt a b))):=by obtain⟨X,h⟩:=h.core;exact OR h hM hl a b
theorem OJ(h:aS w0 w r bb cb mr bt mb mg bm rb x Mt Mr Sp Sr tip La)(hM:Ok r Mt)(hl:Mt.length<=900)(i t z:Int)(hz:dK Mt i t z):ak 69 #[af bt,i_ i,i_ t] w (i_ z):=by obtain⟨F,ls,h1,h2⟩:=h.tr;exact B5 h1 hM hl i t z (fun hi=>by have:=hi.2;omega) hz
end
variable{w:World}{cb b:Nat}
theorem wu(h:w.cell? ⟨cb,0,none⟩=some (af b)):ak 25 #[af cb] w (af b):=by
 have hB:=Below.refl w.heap.size w;go_enter Tryz.func25,Tryz.ntmps25;go_wp2_with fail
 go_ret;exact⟨rfl,hB⟩
theorem FU(h:w.cell? ⟨cb,1,none⟩=some (af b)):ak 26 #[af cb] w (af b):=by
 have hB:=Below.refl w.heap.size w;go_enter Tryz.func26,Tryz.ntmps26;go_wp2_with fail
 go_ret;exact⟨rfl,hB⟩
theorem ij(h:w.cell? ⟨cb,2,none⟩=some (i_ b)):ak 18 #[af cb] w (i_ b):=by
 have hB:=Below.refl w.heap.size w;go_enter Tryz.func18,Tryz.ntmps18;go_wp2_with fail
 go_ret;exact⟨rfl,hB⟩
theorem GB(cq mq:Option Addr)(z:Int)(KM:aQ w 26 #[.pointer cq] (.pointer mq))(KB:aQ w 52 #[.pointer mq] (i_ z)):ak 19 #[.pointer cq] w (i_ z):=by
 have hB:=Below.refl w.heap.size w;go_enter Tryz.func19,Tryz.ntmps19;go_wp2_with fail
 refine au (KM.out _ hB) fun v1 hb=>?_;replace hB:=ah hB hb;clear hb;go_wp2_with fail
 refine au (KB.out _ hB) fun v2 hb=>?_;replace hB:=ah hB hb;clear hb;go_wp2_with fail
 go_ret;exact⟨rfl,hB⟩
theorem wv(cq mq:Option Addr)(z:Int)(KM:aQ w 26 #[.pointer cq] (.pointer mq))(KB:aQ w 53 #[.pointer mq] (i_ z)):ak 20 #[.pointer cq] w (i_ z):=by
 have hB:=Below.refl w.heap.size w;go_enter Tryz.func20,Tryz.ntmps20;go_wp2_with fail
 refine au (KM.out _ hB) fun v1 hb=>?_;replace hB:=ah hB hb;clear hb;go_wp2_with fail
 refine au (KB.out _ hB) fun v2 hb=>?_;replace hB:=ah hB hb;clear hb;go_wp2_with fail
 go_ret;exact⟨rfl,hB⟩
theorem N_(cq mq:Option Addr)(J:World->Prop)(z:Int)(at_:Int)(right:Bool)(KM:aQ w 26 #[.pointer cq] (.pointer mq))(KB:jR w fun w'=>aG 49 #[.pointer mq,i_ at_,.bool right] w' fun e w''=>e=.returned (i_ z)/\J w''):aG 15 #[.pointer cq,i_ at_,.bool right] w fun e w'=>e=.returned (i_ z)/\J w':=by
 have hB:=Below.refl w.heap.size w;go_enter Tryz.func15,Tryz.ntmps15;go_wp2_with fail
 refine au (KM.out _ hB) fun v1 hb=>?_;replace hB:=ah hB hb;clear hb;go_wp2_with fail
 refine au (KB.out _ hB) fun v2 hJ=>?_;have HJ:=h_ hJ;clear hJ;go_wp2_with fail
 go_ret;exact⟨rfl,HJ.out⟩
theorem Jz(cq mq:Option Addr)(J:World->Prop)(z:Int)(at_:Int)(KM:aQ w 26 #[.pointer cq] (.pointer mq))(KB:jR w fun w'=>aG 50 #[.pointer mq,i_ at_] w' fun e w''=>e=.returned (i_ z)/\J w''):aG 16 #[.pointer cq,i_ at_] w fun e w'=>e=.returned (i_ z)/\J w':=by
 have hB:=Below.refl w.heap.size w;go_enter Tryz.func16,Tryz.ntmps16;go_wp2_with fail
 refine au (KM.out _ hB) fun v1 hb=>?_;replace hB:=ah hB hb;clear hb;go_wp2_with fail
 refine au (KB.out _ hB) fun v2 hJ=>?_;have HJ:=h_ hJ;clear hJ;go_wp2_with fail
 go_ret;exact⟨rfl,HJ.out⟩
theorem Ga(cq mq:Option Addr)(J:World->Prop)(z:Int)(at_:Int)(KM:aQ w 26 #[.pointer cq] (.pointer mq))(KB:jR w fun w'=>aG 51 #[.pointer mq,i_ at_] w' fun e w''=>e=.returned (i_ z)/\J w''):aG 17 #[.pointer cq,i_ at_] w fun e w'=>e=.returned (i_ z)/\J w':=by
 have hB:=Below.refl w.heap.size w;go_enter Tryz.func17,Tryz.ntmps17;go_wp2_with fail
 refine au (KM.out _ hB) fun v1 hb=>?_;replace hB:=ah hB hb;clear hb;go_wp2_with fail
 refine au (KB.out _ hB) fun v2 hJ=>?_;have HJ:=h_ hJ;clear hJ;go_wp2_with fail
 go_ret;exact⟨rfl,HJ.out⟩
def RS(w:World)(bH:Nat)(y:Hd)(J:World->Prop)(b1 _b2:Bool)(w':World):Prop:=if b1 then J w' else Bl w w'/\aH w' bH y
theorem Ak{w:World}(cq tq:Option Addr)(J:World->Prop)(z1 z2 z3 now:Int)(y:Hd)(hy:y.ok)(KM:aQ w 25 #[.pointer cq] (.pointer tq))(KB:Hid (∀w',Below w.heap.size w w'->Calls Tryz.prog 48 #[.pointer tq,.agg (aD y),.int .i64 now] w' fun e w''=>e=.returned (.tuple #[.int .i64 z1,.int .i64 z2,.int .i64 z3])/\J w'')):Calls Tryz.prog 14 #[.pointer cq,.agg (aD y),.int .i64 now] w fun e w'=>e=.returned (.tuple #[.int .i64 z1,.int .i64 z2,.int .i64 z3])/\J w':=by
 have hz:=er hy;go_enter Tryz.func14,Tryz.ntmps14;go_upto_region 1 with fail
 generalize hw0:World.alloc _ _=v0;have hB:Below w.heap.size w v0:=dd hw0;have hH:aH v0 w.heap.size y:=by rw[<-hw0];exact Has.new _ _
 clear hw0;obtain⟨bH,R'⟩:∃x,x=w.heap.size:=⟨_,rfl⟩;rw[<-R']at hH|-;clear R';go_wp2_with fail
 refine de (RS w bH y J) 4 99 [1,2,4] [.pointer cq,.pointer tq,.agg (aD y),.int .i64 now,.tuple #[.int .i64 z1,.int .i64 z2,.int .i64 z3],.int .i64 z1,.int .i64 z2,.int .i64 z3,.int .i64 z1,.int .i64 z2,.int .i64 z3] ⟨hB.drew,hH.on (bf.drew)⟩ ⟨fun b1 b2 w' f1 _ hC=>?_,fun b1 b2 w' f1 _ hC=>?_,fun b1 b2 w' f1 _ hC=>?_,trivial⟩ ?_
 ·obtain rfl:=f1.no (by kernel_rfl);exact .call ((KM.out _ hC.1).mono fun e w'' h=>⟨h.1,ah hC.1 h.2,hC.2.on h.2⟩)
 ·obtain rfl:=f1.no (by kernel_rfl);exact .val (mC rfl rfl hC.2.range hz) hC
 ·obtain rfl:=f1.no (by kernel_rfl);exact .call (KB.out _ hC.1)
 ·intro w' hJ;have HJ:Hid (J w'):=h_ hJ;clear hJ KM KB hB hH;simp only[dg,List.set_cons_zero,List.set_cons_succ,List.tail_cons,List.headD_cons];go_wp2_with fail
  go_ret3
  exact⟨rfl,HJ.out⟩
section
variable{w:World}{p:Addr}{q a:Option Addr}{n c:Nat}{z:Int}{b:Bool}{u:Value}
theorem wO(h:w.cell? p=some (.pointer q)):(loadVar 51 p).run Tryz.prog w=.ok (.pointer q) w:=by go_simp
theorem iR(h:w.cell? p=some (.pointer q)):(loadVar 63 p).run Tryz.prog w=.ok (.pointer q) w:=by go_simp
theorem k_(h:w.cell? p=some (.pointer q)):(loadVar 64 p).run Tryz.prog w=.ok (.pointer q) w:=by go_simp
theorem fx(h:w.cell? p=some (.pointer q)):(loadVar 41 p).run Tryz.prog w=.ok (.pointer q) w:=by go_simp
theorem fB(h:w.cell? p=some (.pointer q)):(loadVar 56 p).run Tryz.prog w=.ok (.pointer q) w:=by go_simp
theorem fT(h:w.cell? p=some (i_ z)):(loadVar 3 p).run Tryz.prog w=.ok (i_ z) w:=by go_simp
theorem M0(h:w.cell? p=some (.bool b)):(loadVar 4 p).run Tryz.prog w=.ok (.bool b) w:=by go_simp
theorem qJ(h:w.cell? p=some (.slice a n c)):(loadVar 49 p).run Tryz.prog w=.ok (.slice a n c) w:=by go_simp
theorem Nq(hf:w.frozen? p=false)(hc:w.cell? p=some u):(storeVar 3 p (i_ z)).run Tryz.prog w=.ok () (w.setCell p (i_ z)):=by go_simp
theorem DJ(hf:w.frozen? p=false)(hc:w.cell? p=some u):(storeVar 49 p (.slice a n c)).run Tryz.prog w=.ok () (w.setCell p (.slice a n c)):=by go_simp
end
section
variable{ρ:Operand->Value}{o:Oper}{w w':World}{E:En}{g:Nat}
theorem Rz(ho:o.op=.alloc 60):(execOp ρ o).run Tryz.prog w=.ok (.value (.pointer (some ⟨w.heap.size,0,none⟩))) (w.alloc (.cells Tryz.zeroCells60 60)):=by unfold execOp;simp only[ho];kernel_rfl
variable{x y:Operand}{a b:Int}
theorem jh{g:Bool}(ho:o.op=.binOp .eql 3 x y 3)(hx:ρ x=i_ a)(hy:ρ y=i_ b)(h:(a==b)=g):(execOp ρ o).run Tryz.prog w=.ok (.value (.bool g)) w:=by unfold execOp;subst h;simp only[ho,hx,hy];kernel_rfl
theorem vY{g:Bool}(ho:o.op=.binOp .neq 3 x y 3)(hx:ρ x=i_ a)(hy:ρ y=i_ b)(h:(a != b)=g):(execOp ρ o).run Tryz.prog w=.ok (.value (.bool g)) w:=by unfold execOp;subst h;simp only[ho,hx,hy];kernel_rfl
theorem BB{a b g:Bool}(ho:o.op=.binOp .eql 4 x y 4)(hx:ρ x=.bool a)(hy:ρ y=.bool b)(h:(a==b)=g):(execOp ρ o).run Tryz.prog w=.ok (.value (.bool g)) w:=by unfold execOp;subst h;simp only[ho,hx,hy];kernel_rfl
theorem Db{g:Bool}(ho:o.op=.binOp .leq 3 x y 3)(hx:ρ x=i_ a)(hy:ρ y=i_ b)(h:decide (a<=b)=g):(execOp ρ o).run Tryz.prog w=.ok (.value (.bool g)) w:=by unfold execOp;subst h;simp only[ho,hx,hy];kernel_rfl
theorem MU{T:TypeId}{v:Value}(hop:o.op=.buildSlice T 0 #[])(h:(Instr.buildSlice T 0 #[]).run Tryz.prog w=.ok v w'):(execOp ρ o).run Tryz.prog w=.ok (.value v) w':=L8 hop (by simpa using h)
theorem ff{P:Prop}{b:Bool}(h:b=false)(h2:b=true):P:=by rw[h]at h2;cases h2
theorem EU(g n c k:Nat)(hk:k<=n)(hc:n<=c)(w:World):(Instr.sliceAt 49 (.slice (aT g) n c) none (some (i_ k)) none).run Tryz.prog w=.ok (.slice (aT g) k c) w:=by
 go_simp
 intro h;omega
theorem J2{n:Nat}(h0:0<n)(h:n<=1000000):IntKind.i64.wrap ((n:Int)-1)=((n-1:Nat):Int):=by rw[IntKind.wrap_i64];omega
def nY(w:World)(E:En)(b1 b2:Bool)(g:Nat)(w':World):Prop:=Bl w w'/\(b1=true->w.heap.size<=g/\bB w' g (bif b2 then E else je))
variable{b1 b2:Bool}
theorem nY.start(h:Bl w w'):nY w E false false g w':=⟨h,fun h=>by cases h⟩
theorem nY.read{w'':World}(h:nY w E b1 b2 g w')(hb:Bl w' w''):nY w E b1 b2 g w'':=⟨ah h.1 hb,fun h1=>⟨(h.2 h1).1,(h.2 h1).2.on hb⟩⟩
theorem nY.new(h:nY w E b1 b2 g w')(h2:b2=false):nY w E true b2 w'.heap.size (w'.alloc (.cells Tryz.zeroCells60 60)):=by subst h2;exact⟨h.1.alloc h.1.size _,fun _=>⟨h.1.size,gL w'⟩⟩
theorem nY.put(h:nY w E b1 b2 g w')(h1:b1=true):nY w E b1 true g (w'.setRow g (bT E)):=by obtain⟨h3,h4⟩:=h.2 h1;exact⟨below_setRow h.1 h3 _,fun _=>⟨h3,Has.row h4 _⟩⟩
theorem nY.has(h:nY w E true b2 g w'):Has w' g (bT (bif b2 then E else je)) 60:=(h.2 rfl).2
end
structure Nh (w:World) (cb bt tip:Nat) (E:En):Prop where
 c0:∀w',Bl w w'->w'.cell? ⟨cb,0,none⟩=some (af bt)
 c2:∀w',Bl w w'->w'.cell? ⟨cb,2,none⟩=some (i_ tip)/\w'.frozen? ⟨cb,2,none⟩=false
 X_:∀w',Bl w w'->ak 18 #[af cb] w' (i_ tip)
 at_:∀w',Bl w w'->ak 29 #[af bt,i_ tip] w' (.tuple #[.agg (bT E),.bool true])
variable{w w0 w':World}{cb bt tip bb mr mb mg bm rb ag n c B:Nat}{E:En}
theorem zd(H:Hid (Nh w cb bt tip E)):ak 54 #[af cb,i_ tip] w (.bool false):=by
 have h0:((tip:Int)==(tip:Int))=true:=by simp
 have hB:=Below.refl w.heap.size w;go_enter Tryz.func54,Tryz.ntmps54;go_wp2_with fail
 refine au (H.out.X_ _ hB) fun v1 hb=>?_;replace hB:=ah hB hb;clear hb;go_wp2_with fail
 go_ret;exact⟨rfl,hB⟩
theorem zv(H:Hid (Nh w cb bt tip E))(hE:E.ok)(t:Nat)(h0:((tip:Int)==(t:Int))=false)(on:Bool)(ht:Nat)(hh:Hid (E.ht=(ht:Int)))(z:Nat)(hz:Hid (on=false->E.up=(z:Int)))(KW:aQ w 35 #[af bt,i_ tip,i_ t] (.bool on))(KA:Hid (∀w',on=true->Bl w w'->ak 69 #[af bt,i_ t,i_ (IntKind.i64.wrap ((ht:Int)+1))] w' (i_ z))):aG 54 #[af cb,i_ t] w fun e w'=>e=.returned (.bool true)/\∃w1,Bl w w1/\w'=w1.setCell ⟨cb,2,none⟩ (i_ z):=by
 have ze:=gE hE;have z0:=gE cZ;have hB:=Below.refl w.heap.size w;go_enter Tryz.func54,Tryz.ntmps54;go_wp2_with fail
 refine au (H.out.X_ _ hB) fun v1 hb=>?_;replace hB:=ah hB hb;clear hb;go_wp2_with fail
 refine Dc (fun b1 b2 g w'=>nY w E b1 b2 g w') 12 13 [3,7,8,12,13] (fun g=>[af cb,af cb,af cb,af bt,af cb,af cb,.pointer (some ⟨cb,2,none⟩),i_ tip,.tuple #[.agg (bT E),.bool true],.tuple #[.agg (bT E),.bool true],.agg (bT E),.bool true,af g,undef,.bool true]) 0 (nY.start hB.drew)
  ⟨fun b1 b2 g w' _ _ hC=>.val (dj rfl rfl (wO (H.out.c0 _ hC.1))) hC,fun b1 b2 g w' _ _ hC=>.val (dj rfl rfl (fT (H.out.c2 _ hC.1).1)) hC,fun b1 b2 g w' _ _ hC=>.call ((H.out.at_ _ hC.1).mono fun e w'' h=>⟨h.1,hC.read h.2⟩),fun b1 b2 g w' _ f2 hC=>.new w'.heap.size [12] rfl (Rz rfl) (hC.new (f2.no (by kernel_rfl))),fun b1 b2 g w' f1 _ hC=>?_,trivial⟩ ?_
 ·obtain rfl:=f1.yes (by kernel_rfl);exact .store rfl (Jh rfl rfl rfl hC.has (by cases b2<;>assumption) ze) (hC.put rfl)
 intro g v2 hC;have hB:=hC.1;have hg:bB v2 g E:=(hC.2 rfl).2;clear hC;simp only[dg,List.set_cons_zero,List.set_cons_succ,List.tail_cons,List.headD_cons];go_wp2_with fail
 refine de (fun _ _ w'=>Bl w w'/\bB w' g E) 99 99 [3,7,9] [af cb,af cb,af cb,af bt,af cb,af cb,.pointer (some ⟨cb,2,none⟩),i_ tip,i_ t,.bool on] ⟨hB.drew,hg.on (bf.drew)⟩
  ⟨fun _ _ w' _ _ hC=>.val (dj rfl rfl (wO (H.out.c0 _ hC.1))) hC,fun _ _ w' _ _ hC=>.val (dj rfl rfl (fT (H.out.c2 _ hC.1).1)) hC,fun _ _ w' _ _ hC=>.call ((KW.out _ hC.1).mono fun e w'' h=>⟨h.1,ah hC.1 h.2,hC.2.on h.2⟩),trivial⟩ ?_
 rintro v3 ⟨hB,hg⟩;simp only[dg,List.set_cons_zero,List.set_cons_succ,List.tail_cons,List.headD_cons];cases on
 ·have c1:=bB.up hg hE (h_ (hz.out rfl));obtain⟨c2,c3⟩:=H.out.c2 _ hB;clear H KW KA hz hh hg;go_wp2_with fail
  go_ret;exact⟨rfl,v3,hB,rfl⟩
 ·have c1:=bB.ht hg hE hh;clear hz hh;go_wp2_with fail
  refine de (fun b1 _ w'=>∃w1,Bl w w1/\bB w1 g E/\w1.cell? ⟨g,101,none⟩=some (i_ ht)/\w'=bif b1 then w1.setCell ⟨cb,2,none⟩ (i_ z)else w1) 12 99 [4,7,9,12] [af cb,af cb,af cb,af cb,af bt,i_ t,.pointer (some ⟨g,101,none⟩),i_ ht,i_ (IntKind.i64.wrap ((ht:Int)+1)),i_ z,af cb,.pointer (some ⟨cb,2,none⟩),undef] ⟨_,hB.drew,hg.on (bf.drew),bf.drew.cell (block_lt_of_cell c1) |>.trans c1,rfl⟩ ⟨fun b1 _ w' f1 _ hC=>?_,fun b1 _ w' f1 _ hC=>?_,fun b1 _ w' f1 _ hC=>?_,fun b1 _ w' f1 _ hC=>?_,trivial⟩ ?_
  ·obtain rfl:=f1.no (by kernel_rfl);obtain⟨w1,h1,h2,h3,rfl⟩:=hC;exact .val (dj rfl rfl (wO (H.out.c0 _ h1))) ⟨_,h1,h2,h3,rfl⟩
  ·obtain rfl:=f1.no (by kernel_rfl);obtain⟨w1,h1,h2,h3,rfl⟩:=hC;exact .val (dj rfl rfl (fT h3)) ⟨_,h1,h2,h3,rfl⟩
  ·obtain rfl:=f1.no (by kernel_rfl);obtain⟨w1,h1,h2,h3,rfl⟩:=hC;exact .call ((KA.out _ trivial h1).mono fun e w'' h=>⟨h.1,w'',ah h1 h.2,h2.on h.2,(h.2.cell (block_lt_of_cell h3)).trans h3,rfl⟩)
  ·obtain rfl:=f1.no (by kernel_rfl);obtain⟨w1,h1,h2,h3,rfl⟩:=hC;exact .store rfl (ml rfl rfl rfl (Nq (H.out.c2 _ h1).2 (H.out.c2 _ h1).1)) ⟨_,h1,h2,h3,rfl⟩
  ·rintro v4 ⟨w1,h1,_,_,rfl⟩;have H1:=h_ h1;clear h1 H KW KA hg c1 hB;simp only[dg,List.set_cons_zero,List.set_cons_succ,List.tail_cons,List.headD_cons];go_wp2_with fail
   go_ret;exact⟨rfl,w1,H1.out,rfl⟩
variable{r:Ru}{x:yS}{Mt Mr M:List aq}{Sp Sr S:Mk.St}{La L K:List Int}
theorem aS.Ya(h:aS w0 w r bb cb mr bt mb mg bm rb x Mt Mr Sp Sr tip La){i:Nat}{e:aq}(he:Mt[i]?=some e):(bs r e).ok:=by obtain⟨F,ls,h1,_⟩:=h.tr;obtain⟨_,_,_,h2⟩:=h1.parts;exact jy h2 he
theorem yk(h:aS w0 w r bb cb mr bt mb mg bm rb x Mt Mr Sp Sr tip La)(hM:Ok r Mt)(hl:Mt.length<=900){t:Nat}{L K:List Int}(hL:Row Mt (tip:Int) L)(hK:Row Mt (t:Int) K):aG 54 #[af cb,i_ t] w fun e w'=>e=.returned (.bool (decide (0<Ch.iw K L)))/\∃t2:Nat,Row Mt (t2:Int) (Ch.iM K L)/\Ch.iw K (Ch.iM K L)=Ch.iw K L-1/\aS w0 w' r bb cb mr bt mb mg bm rb x Mt Mr Sp Sr t2 La:=by
 obtain⟨e,_,he,_,_⟩:=Ch.im hL;have H:Hid (Nh w cb bt tip (bs r e)):=h_ ⟨fun w' hb=>(h.below hb).c0,fun w' hb=>⟨(h.below hb).c2,(h.below hb).free.1⟩,fun w' hb=>ij (h.below hb).c2,fun w' hb=>JU (h.below hb) he⟩;by_cases Uj:L=K;obtain rfl:=(Ch.Aq hL hK).1 Uj;subst Uj;refine au (zd H) fun w' hb=>?_;rw[Ch.tO,Ch.sU rfl,Ch.tO];exact⟨rfl,tip,hL,rfl,h.below hb⟩;have hn:=Ch.uN Uj hL.last.1
 have h0:((tip:Int)==(t:Int))=false:=by
  rw[beq_eq_false_iff_ne];intro e;exact Uj ((Ch.Aq hL hK).2 (by omega))
 rw[hn,Nat.add_sub_cancel,decide_eq_true (Nat.succ_pos _)];have hlen:=hL.len hM he
 have hw:IntKind.i64.wrap (((e.hs.length:Nat):Int)+1)=((e.hs.length+1:Nat):Int):=by
  have:=Mk.nU hM hL;rw[IntKind.wrap_i64];omega
 have KW:∀on,pb (cB Mt (tip:Int) (t:Int))=on->aQ w 35 #[af bt,i_ tip,i_ t] (.bool on):=fun on hon=>h_ fun w' hb=>by
  have:=B9 (h.below hb) hM hl (tip:Int) (t:Int);rwa[hon]at this
 have fin:∀(z:Nat),Row Mt (z:Int) (Ch.iM K L)->∀w',(∃w1,Bl w w1/\w'=w1.setCell ⟨cb,2,none⟩ (i_ z))->∃t2:Nat,Row Mt (t2:Int) (Ch.iM K L)/\Ch.iw K (Ch.iM K L)=Ch.iw K (Ch.iM K L)/\aS w0 w' r bb cb mr bt mb mg bm rb x Mt Mr Sp Sr t2 La:=by
  rintro z hz w' ⟨w1,hb,rfl⟩;exact⟨z,hz,rfl,(h.below hb).Wp z⟩
 by_cases hp:L <+: K
 ·obtain⟨z,hz,_,hR⟩:=Ch.zE hM hK hp Uj;refine(zv H (h.Ya he) t h0 true e.hs.length (h_ rfl) z (h_ fun h=>by cases h) (KW true (Mk.kv.2 ((Ch.nk hL hK).2 hp))) (h_ fun w' _ hb=>?_)).mono fun e w' h=>⟨h.1,fin z hR w' h.2⟩
  obtain⟨_,_,ht,_,_⟩:=Ch.im hK;rw[hw];exact OJ (h.below hb) hM hl _ _ _ (.inl ⟨Ar.fF ht,by omega,K,hK,by rw[Int.toNat_natCast,<-hlen];exact hz⟩)
 obtain⟨z,e2,h2,hu,_,hR⟩:=Ch.MP hM hL hK hp;rw[he]at h2;cases h2;exact(zv H (h.Ya he) t h0 false e.hs.length (h_ rfl) z (h_ fun _=>hu) (KW false (Mk.qU.2 fun ha=>hp ((Ch.nk hL hK).1 ha))) (h_ fun w' h=>by cases h)).mono fun e w' h=>⟨h.1,fin z hR w' h.2⟩
theorem vB(cq:Option Addr)(t:Int)(b:Bool)(J:World->Prop)(KT:aQ w 19 #[.pointer cq] (i_ t))(KW:jR w fun w'=>aG 54 #[.pointer cq,i_ t] w' fun e w''=>e=.returned (.bool b)/\J w''):aG 21 #[.pointer cq] w fun e w'=>e=.returned (.bool b)/\J w':=by
 have hB:=Below.refl w.heap.size w;go_enter Tryz.func21,Tryz.ntmps21;go_wp2_with fail
 refine au (KT.out _ hB) fun v1 hb=>?_;replace hB:=ah hB hb;clear hb;go_wp2_with fail
 refine au (KW.out _ hB) fun v2 hJ=>?_;have HJ:Hid (J v2):=h_ hJ;clear hJ;go_wp2_with fail
 go_ret;exact⟨rfl,HJ.out⟩
theorem Gg(cq:Option Addr)(t:Int)(KT:aQ w 19 #[.pointer cq] (i_ t))(N:Nat)(hN:N<=1000)(St:World->Nat->Prop)(h0:∀w',Bl w w'->St w' N)(KW:Hid (∀w' n,St w' n->aG 54 #[.pointer cq,i_ t] w' fun e w''=>e=.returned (.bool (decide (0<n)))/\St w'' (n-1))):aG 22 #[.pointer cq] w fun e w'=>e=.returned (i_ N)/\St w' 0:=by
 have hB:=Below.refl w.heap.size w;go_enter Tryz.func22,Tryz.ntmps22;go_wp2_with fail
 refine au (KT.out _ hB) fun v1 hb=>?_;replace hB:=ah hB hb;clear hb;have hS:=h0 _ hB;clear h0 hB KT;go_wp2_with fail
 go_loopw [4] (fun u wr=>∃k n:Nat,k+n=N/\u=i_ k/\St wr n) (fun u _=>N-(intOf u).toNat)
 case atStart=>exact⟨0,N,by omega,rfl,hS⟩
 case round=>
  clear hS;obtain⟨k,n,hk,rfl,hS⟩:=hrel;have K1:=h_ (KW.out _ n hS);clear hS;rcases Nat.eq_zero_or_pos n with rfl|hn
  ·obtain rfl:k=N:=by omega
   clear hk;go_wp2_with fail
   refine K1.out.mono ?_;rintro e v5 ⟨rfl,hS⟩;have HS:=h_ hS;clear hS K1;rw[decide_eq_false (Nat.lt_irrefl 0)];go_wp2_with fail
   go_ret;exact⟨rfl,HS.out⟩
  ·go_wp2_with fail
   refine K1.out.mono ?_;rintro e v5 ⟨rfl,hS⟩;clear K1;rw[decide_eq_true hn];go_wp2_with fail
   go_roundw
   case rel=>exact⟨k+1,n-1,by omega,by go_num,hS⟩
   case measure=>simp[intOf];omega
structure zH (w:World) (mr bm rb ag n c:Nat) (L:List Int):Prop where
 len:n=L.length
 pos:0<n
 few:n<=900
 cap:n<=c
 m0:∀w',Bl w w'->w'.cell? ⟨mr,0,none⟩=some (af bm)
 m1:∀w',Bl w w'->w'.cell? ⟨mr,1,none⟩=some (af rb)
 m2:∀w',Bl w w'->w'.cell? ⟨mr,2,none⟩=some (.slice (aT ag) n c)/\w'.frozen? ⟨mr,2,none⟩=false
 row:∀w',Bl w w'->∀(k:Nat)(z:Int),L[k]?=some z->w'.cell? ⟨ag,k,none⟩=some (i_ z)
theorem zH.on(h:zH w mr bm rb ag n c L)(hb:Bl w w'):zH w' mr bm rb ag n c L:=by
 obtain⟨h1,h2,h3,h4,h5,h6,h7,h8⟩:=h;have q:∀w2,Bl w' w2->Bl w w2:=fun w2 h=>ah hb h
 exact⟨h1,h2,h3,h4,fun w2 h=>h5 w2 (q w2 h),fun w2 h=>h6 w2 (q w2 h),fun w2 h=>h7 w2 (q w2 h),fun w2 h=>h8 w2 (q w2 h)⟩
theorem B7(H:Hid (zH w mr bm rb ag n c L))(z:Int)(hz:Hid (L[n-1]?=some z)):ak 45 #[af mr] w (i_ z):=by
 have hw:=J2 H.out.pos (Nat.le_trans H.out.few (by decide));have hn1:n-1<n:=Nat.sub_lt H.out.pos (by decide);have hB:=Below.refl w.heap.size w;go_enter Tryz.func45,Tryz.ntmps45;go_wp2_with fail
 refine de (fun _ _ w'=>Bl w w') 99 99 [3,7,10,11] [af mr,af mr,.pointer (some ⟨mr,2,none⟩),.slice (aT ag) n c,af mr,af mr,.pointer (some ⟨mr,2,none⟩),.slice (aT ag) n c,i_ n,i_ (IntKind.i64.wrap ((n:Int)-1)),.pointer (some ⟨ag,n-1,none⟩),i_ z,i_ z] hB.drew
  ⟨fun _ _ w' _ _ hC=>.val (dj rfl rfl (qJ (H.out.m2 _ hC).1)) hC,fun _ _ w' _ _ hC=>.val (dj rfl rfl (qJ (H.out.m2 _ hC).1)) hC,fun _ _ w' _ _ hC=>.val (gw rfl rfl (congrArg (Value.int .i64) hw) (oU _ _ _ _ _ hn1)) hC,fun _ _ w' _ _ hC=>.val (dj rfl rfl (fT (H.out.row _ hC _ _ hz.out))) hC,trivial⟩ ?_
 intro v1 hB;simp only[dg,List.set_cons_zero,List.set_cons_succ,List.tail_cons,List.headD_cons];go_wp2_with fail
 go_ret;exact⟨rfl,hB⟩
variable{v:Value}{xs:List Value}
theorem CH{B':Nat}{T:TypeId}(h:w.ownsRow B T 1 v n xs)(hb:B'<=B):w.ownsRow B' T 1 v n xs:=⟨h.1,h.2.imp id fun⟨g,cap,cur,h1,h2,h3⟩=>⟨g,cap,cur,h1,Nat.le_trans hb h2,h3⟩⟩
variable{P:Prop}
theorem u3[Decidable P](h:P):Ending.returned (.bool true)=.returned (.bool (decide P)):=by rw[decide_eq_true h]
theorem nT[Decidable P](h:¬P):Ending.returned (.bool false)=.returned (.bool (decide P)):=by rw[decide_eq_false h]
theorem tJ(h:w.ownsRow B 3 1 v n (K.map (Value.int .i64)))(hn:0<n):∃g c,v=.slice (aT g) n c/\n<=c/\B<=g/\g<w.heap.size/\∀(k:Nat)(z:Int),K[k]?=some z->w.cell? ⟨g,k,none⟩=some (i_ z):=by
 obtain⟨hl,⟨rfl,h0⟩|⟨g,c,cur,rfl,q1,q2,q3,q4,q5,q6⟩⟩:=h;omega
 ·refine⟨g,c,rfl,q3,q1,(Array.getElem?_eq_some_iff.1 q2).1,fun k z hk=>?_⟩;have e:(cur.toList.take (n*1))[k]?=some (Value.int .i64 z):=by rw[q6,List.getElem?_map,hk];rfl
  rw[Has.cell (show Has w g cur 3 from q2),<-Array.getElem?_toList];rw[List.getElem?_take]at e;split at e;exact e;cases e
def Rs(w:World)(mr ag n c:Nat)(L K:List Int)(w':World):Prop:=(L=K/\Bl w w')\/(L≠K/\L <+: K/\∃w1 v,Bl w w1/\w1.ownsRow w.heap.size 3 1 v (n+1) ((Ch.iM K L).map (Value.int .i64))/\w'=w1.setCell ⟨mr,2,none⟩ v)\/(¬L <+: K/\∃w1,Bl w w1/\w'=w1.setCell ⟨mr,2,none⟩ (.slice (aT ag) (n-1) c))
def RI(w v3:World)(mr n:Nat)(L:List Int)(z:Int)(fl:Nat->Bool)(g:(Nat×Value)×Nat×Value)(w':World):Prop:=
 (fl 15=true->∃w1,Bl w w1/\w1.ownsRow w.heap.size 3 1 g.2.2 (n+1) ((L++[z]).map (Value.int .i64))/\w'=w1.setCell ⟨mr,2,none⟩ g.2.2)/\
 (fl 15=false->Bl v3 w'/\
  (fl 1=true->fl 6=false->w'.ownsRow v3.heap.size 3 1 (.slice (some ⟨g.1.1,0,none⟩) 0 0) 0 (([]:List Int).map (Value.int .i64)))/\
  (fl 6=true->fl 12=false->w'.ownsRow v3.heap.size 3 1 g.1.2 n (L.map (Value.int .i64)))/\
  (fl 11=true->fl 12=false->Has w' g.2.1 #[i_ z] 3/\(fl 1=true->fl 6=false->g.2.1≠g.1.1))/\
  (fl 12=true->w'.ownsRow v3.heap.size 3 1 g.2.2 (n+1) ((L++[z]).map (Value.int .i64))))
theorem AH{lo hi:Nat}(s x:Tmp)(hsx:x≠s)(base:Nat)(v:Value)(n:Nat)(l:List Int)(hown:w.ownsRow base 3 1 v n (l.map (Value.int .i64)))(ad:Option Addr)(m c:Nat)(z:List Int)(hnil:ad=none->m=0/\c=0)(hz:z.length=m)(hL:MM.ft w lo hi ad z)(hn:n+m<=1000)(hbase:base<=w.heap.size):∃v' w',(∀(ρ:Operand->Value)(o:Oper),o.op=.call { callee:=.builtin .append,args:=#[.tmp s,.tmp x],argTypes:=#[49,49] }->o.type=49->ρ (.tmp s)=v->ρ (.tmp x)=.slice ad m c->(execOp ρ o).run Tryz.prog w=.ok (.value v') w')/\w'.ownsRow base 3 1 v' (n+m) ((l++z).map (Value.int .i64))/\w.grownBy w' v.ownBlock:=by
 obtain⟨v',w',h1,h2,h3⟩:=EM (ρ:=fun y=>match y with | .tmp q=>if q=s then v else .slice ad m c|_=>undef) (.tmp s) (.tmp x) base v n l (if_pos rfl) hown ad m c z (if_neg hsx) hnil hz hL hn hbase;refine⟨v',w',fun ρ o ho hty hs hx=>?_,h2,h3⟩;rw[<-h1 o ho hty];refine congrArg (fun q:Sem Next=>q.run Tryz.prog w) (execOp_congr o (fun cs b e=>by rw[ho]at e;cases e) fun y hy=>?_);rw[ho]at hy;have hy:y=.tmp s\/y=.tmp x:=by simpa[Op.operands,Call.operands]using hy
 rcases hy with rfl|rfl
 exact hs.trans (if_pos rfl).symm;exact hx.trans (if_neg hsx).symm
theorem oX(hb:Bl w w'):Kp (fun _=>False) w w':=Kp.of hb
theorem Cj(h:w.ownsRow B 3 1 v n xs)(hb:Bl w w'):w'.ownsRow B 3 1 v n xs:=ax h (Kp.of (F:=fun _=>False) hb) (fun _ _ h=>h)
theorem BX(hr:∀(k:Nat)(z:Int),L[k]?=some z->w.cell? ⟨ag,k,none⟩=some (i_ z)):MM.ft w 0 (ag+1) (aT ag) L:=fun _=>⟨ag,0,rfl,Nat.zero_le _,Nat.lt_succ_self _,fun k hk=>by
 rw[Nat.zero_add];refine(hr k L[k] (List.getElem?_eq_getElem hk)).trans ?_;rw[List.getD_eq_getElem?_getD,List.getElem?_eq_getElem hk];rfl⟩
theorem uT(H:Hid (zH w mr bm rb ag n c L))(t:Int)(m:Nat)(hm:m=K.length)(hm0:0<m)(z0:Int)(hz0:Hid (L[n-1]?=some z0))(hpre:Hid (L <+: K↔n<=m/\K[n-1]?=some z0))(KB:aQ w 46 #[af rb,af bm] (i_ t))(KP:jR w fun w'=>aG 66 #[af bm,i_ t] w' fun e w''=>∃v,e=.returned v/\w''.ownsRow w'.heap.size 3 1 v m (K.map (Value.int .i64))/\Bl w' w''):aG 44 #[af mr] w fun e w'=>e=.returned (.bool (decide (¬L=K)))/\Rs w mr ag n c L K w':=by
 have hB:=Below.refl w.heap.size w;have c2:=(H.out.m2 w hB).1;have hn0:=H.out.pos;have hnc:=H.out.cap;have hw:=J2 H.out.pos (Nat.le_trans H.out.few (by decide));have HM:=h_ hm;clear hm;go_enter Tryz.func44,Tryz.ntmps44;go_wp2_with fail
 refine Dc (fun b1 _ v w'=>Bl w w'/\(b1=true->w'.ownsRow w.heap.size 3 1 v m (K.map (Value.int .i64)))) 13 99 [3,7,11,12,13] (fun v=>[af mr,af mr,af mr,af bm,af mr,af mr,.pointer (some ⟨mr,1,none⟩),af rb,af mr,af mr,af mr,af bm,i_ t,v,v]) undef ⟨hB.drew,fun h=>by cases h⟩
  ⟨fun _ _ _ _ _ _ hC=>.val (dj rfl rfl (iR (H.out.m0 _ hC.1))) hC,fun _ _ _ _ _ _ hC=>.val (dj rfl rfl (k_ (H.out.m1 _ hC.1))) hC,fun _ _ _ _ _ _ hC=>.val (dj rfl rfl (iR (H.out.m0 _ hC.1))) hC,fun b1 _ _ _ f1 _ hC=>?_,fun _ _ _ _ _ _ hC=>.UB [13,14] ((KP.out _ hC.1).mono fun e w'' h=>?_),trivial⟩ ?_
 ·obtain rfl:=f1.no (by kernel_rfl);exact .call ((KB.out _ hC.1).mono fun e w'' h=>⟨h.1,ah hC.1 h.2,fun h=>by cases h⟩)
 obtain⟨v,h1,h2,h3⟩:=h;exact⟨v,rfl,h1,ah hC.1 h3,fun _=>CH h2 hC.1.size⟩;rintro v v2 ⟨hB,hv⟩;replace hv:=hv rfl;obtain⟨kg,kc,rfl,hkc,_,hkg,hrow⟩:=tJ hv hm0;have HR:=h_ hrow;have HB2:=h_ hB;have KT:=h_ (fun w' (hb:Bl v2 w')=>B7 (h_ (H.out.on (ah HB2.out hb))) z0 hz0);clear hv hrow hB KB KP c2;simp only[dg,List.set_cons_zero,List.set_cons_succ,List.tail_cons,List.headD_cons];go_wp2_with fail
 obtain⟨n1,e1⟩:∃n1,n1=n-1:=⟨_,rfl⟩;have E1:=h_ e1;rw[<-e1]at hw;have hn1:n1<n:=by omega
 have hcut:=fun w'=>EU ag n c n1 (by omega) hnc w'
 by_cases hnm:n<=m
 ·have hb1:decide ((n:Int)<=(m:Int))=true:=decide_eq_true (by omega);obtain⟨x,hx⟩:∃x,K[n1]?=some x:=⟨_,List.getElem?_eq_getElem (by rw[<-HM.out];omega)⟩;have HX:=h_ hx;have hkx:∀w',Bl v2 w'->w'.cell? ⟨kg,n1,none⟩=some (i_ x):=fun w' hb=>(hb.cell (p:=⟨kg,n1,none⟩) hkg).trans (HR.out n1 x hx)
  have HKX:=h_ hkx;clear hx hkx e1;cases hb2:(x==z0)
  ·-- it aa9 ahead of it
   have hp:¬L <+: K:=fun h=>by
    have:=(hpre.out.1 h).2;rw[<-E1.out,HX.out]at this;rw[Option.some.inj this]at hb2;simp at hb2
   refine de (fun _ _ w'=>Bl v2 w') 99 99 [3,8,9,11,12] [i_ n,.slice (aT kg) m kc,i_ m,.bool true,.bool true,.slice (aT kg) m kc,i_ n,i_ (IntKind.i64.wrap ((n:Int)-1)),.pointer (some ⟨kg,n1,none⟩),i_ x,af mr,i_ z0,.bool false,.bool false,.bool false] (bf.drew) ⟨fun _ _ _ _ _ h=>.val (Db rfl rfl rfl hb1) h,fun _ _ _ _ _ h=>.val (gw rfl rfl (congrArg (Value.int .i64) hw) (oU _ _ _ _ _ (by omega))) h,fun _ _ _ _ _ h=>.val (dj rfl rfl (fT (HKX.out _ h))) h,fun _ _ _ _ _ h=>.call ((KT.out _ h).mono fun _ _ q=>⟨q.1,ah h q.2⟩),fun _ _ _ _ _ h=>.val (jh rfl rfl rfl hb2) h,trivial⟩ ?_;intro v3 hb3;have hB:=ah HB2.out hb3;obtain⟨c2,c3⟩:=H.out.m2 _ hB;have HP:=h_ hp;have HB:=h_ hB;clear H KT hb3 hpre hp hB hb1 hb2;simp only[dg,List.set_cons_zero,List.set_cons_succ,List.tail_cons,List.headD_cons];go_wp2_with fail
   go_ret;exact⟨u3 (fun e:L=K=>HP.out (by rw[e];exact List.prefix_rfl)),.inr (.inr ⟨HP.out,v3,HB.out,by rw[<-E1.out]⟩)⟩
  ·have hp:L <+: K:=hpre.out.2 ⟨hnm,by rw[<-E1.out,HX.out,eq_of_beq hb2]⟩;have HP:=h_ hp;refine de (fun _ _ w'=>Bl v2 w') 99 99 [3,8,9,11,12] [i_ n,.slice (aT kg) m kc,i_ m,.bool true,.bool true,.slice (aT kg) m kc,i_ n,i_ (IntKind.i64.wrap ((n:Int)-1)),.pointer (some ⟨kg,n1,none⟩),i_ x,af mr,i_ z0,.bool true,.bool true,.bool true] (bf.drew) ⟨fun _ _ _ _ _ h=>.val (Db rfl rfl rfl hb1) h,fun _ _ _ _ _ h=>.val (gw rfl rfl (congrArg (Value.int .i64) hw) (oU _ _ _ _ _ (by omega))) h,fun _ _ _ _ _ h=>.val (dj rfl rfl (fT (HKX.out _ h))) h,fun _ _ _ _ _ h=>.call ((KT.out _ h).mono fun _ _ q=>⟨q.1,ah h q.2⟩),fun _ _ _ _ _ h=>.val (jh rfl rfl rfl hb2) h,trivial⟩ ?_;intro v3 hb3;have hB:=ah HB2.out hb3;have HB:=h_ hB;have Hb3:=h_ hb3;clear KT hpre hp hB hb1 hb2 hb3;simp only[dg,List.set_cons_zero,List.set_cons_succ,List.tail_cons,List.headD_cons];by_cases Uj:L=K
   ·have aa1:((n:Int)==(m:Int))=true:=(by rw[HM.out,H.out.len,Uj];simp);have Yb:=h_ Uj;clear Uj H;(go_wp2_with fail);go_ret;exact⟨nT (fun h=>h Yb.out),.inl ⟨Yb.out,HB.out⟩⟩
   ·have hlt:n<m:=(by rw[HM.out,H.out.len];exact Ch.lO Uj HP.out);have aa1:((n:Int)==(m:Int))=false:=(by rw[beq_eq_false_iff_ne];omega);obtain⟨z,hz⟩:∃z,K[n]?=some z:=⟨_,List.getElem?_eq_getElem (by rw[<-HM.out];exact hlt)⟩
    have hst:Ch.iM K L=L++[z]:=by
     rw[Ch.ll Uj HP.out,List.take_add_one,<-H.out.len,hz,H.out.len,<-List.prefix_iff_eq_take.1 HP.out];rfl
    have HKZ:Hid (∀w',Bl v2 w'->w'.cell? ⟨kg,n,none⟩=some (i_ z)):=h_ fun w' hb=>(hb.cell (p:=⟨kg,n,none⟩) hkg).trans (HR.out n z hz)
    have HST:=h_ hst;have Yb:=h_ Uj;clear Uj hst hz;(go_wp2_with fail);have hsl:∀w',(Instr.buildSlice 49 0 #[]).run Tryz.prog w'=.ok (.slice (some ⟨w'.heap.size,0,none⟩) 0 0) (w'.alloc (.cells #[] 3)):=fun _=>by kernel_rfl
    have hs1:∀w',(Instr.buildSlice 49 1 #[(0,i_ z)]).run Tryz.prog w'=.ok (.slice (some ⟨w'.heap.size,0,none⟩) 1 1) (w'.alloc (.cells #[i_ z] 3)):=fun _=>by kernel_rfl
    refine u7 (RI w v3 mr n L z) [1,6,11,12,15] [1,5,6,9,10,11,12,15] (fun g=>[af mr,.slice (some ⟨g.1.1,0,none⟩) 0 0,af mr,af mr,.pointer (some ⟨mr,2,none⟩),.slice (aT ag) n c,g.1.2,.slice (aT kg) m kc,i_ n,.pointer (some ⟨kg,n,none⟩),i_ z,.slice (some ⟨g.2.1,0,none⟩) 1 1,g.2.2,af mr,.pointer (some ⟨mr,2,none⟩),undef]) ((0,undef),0,undef) ⟨fun h=>(by cases h),fun _=>⟨bf.drew,fun h=>(by cases h),fun h=>(by cases h),fun h=>(by cases h),fun h=>by cases h⟩⟩
     ⟨fun fl g w' f hC=>?_,fun fl g w' f hC=>?_,fun fl g w' f hC=>?_,fun fl g w' f hC=>?_,fun fl g w' f hC=>?_,fun fl g w' f hC=>?_,fun fl g w' f hC=>?_,fun fl g w' f hC=>?_,trivial⟩ ?_
    ·have Tb:=f.no 15 (by kernel_rfl);have h6:=f.no 6 (by kernel_rfl);have h12:=f.no 12 (by kernel_rfl);obtain⟨q1,q2,q3,q4,q5⟩:=hC.2 Tb;have hb:Bl w' (w'.alloc (.cells #[] 3)):=aY;refine .new ((w'.heap.size,g.1.2),g.2) [1] rfl (MU rfl (hsl w')) ⟨fun h=>ff Tb h,fun _=>⟨ah q1 hb,fun _ _=>?_,fun h=>ff h6 h,fun h1 h2=>⟨(oX hb).has (q4 h1 h2).1 (fun h=>h),fun _ _=>?_⟩,fun h=>ff h12 h⟩⟩;exact CH (World.ownsRow_made w' #[] 0 (Nat.le_refl _) (by decide) rfl) q1.size;exact Nat.ne_of_lt (q4 h1 h2).1.lt
    ·have Tb:=f.no 15 (by kernel_rfl);exact .val (dj rfl rfl (qJ (H.out.m2 _ (HB.out.trans ((hC.2 Tb).1.mono HB.out.size))).1)) hC
    ·have Tb:=f.no 15 (by kernel_rfl);have h12:=f.no 12 (by kernel_rfl);have h1:=f.yes 1 (by kernel_rfl);have h6:=f.no 6 (by kernel_rfl);obtain⟨q1,q2,q3,q4,q5⟩:=hC.2 Tb;have hbw:=ah HB.out q1;obtain⟨v',w2,g1,g2,g3⟩:=AH (w:=w') 48 52 (by decide) v3.heap.size _ 0 [] (q2 h1 h6) (aT ag) n c L (fun h=>by cases h) H.out.len.symm (BX (H.out.row _ hbw)) (by have:=H.out.few;omega) q1.size;rw[Nat.zero_add,List.nil_append]at g2;have hg:Bl v3 w2:=q1.grown g3 q1.size fun k hk=>(q2 h1 h6).lt k hk |>.1
     refine .new ((g.1.1,v'),g.2) [6] rfl (g1 _ _ rfl rfl rfl rfl) ⟨fun h=>ff Tb h,fun _=>⟨hg,fun _ h=>(by cases h),fun _ _=>g2,fun h11 _=>⟨?_,fun _ h=>by cases h⟩,fun h=>ff h12 h⟩⟩;exact(g3.block _ (q4 h11 h12).1.lt (fun e=>(q4 h11 h12).2 h1 h6 (Option.some.inj e))).trans (q4 h11 h12).1
    exact .val (gw rfl rfl rfl (oU _ _ _ _ _ hlt)) hC
    ·have Tb:=f.no 15 (by kernel_rfl);exact .val (dj rfl rfl (fT (HKZ.out _ (Hb3.out.trans ((hC.2 Tb).1.mono Hb3.out.size))))) hC
    ·have Tb:=f.no 15 (by kernel_rfl);have h12:=f.no 12 (by kernel_rfl);obtain⟨q1,q2,q3,q4,q5⟩:=hC.2 Tb;have hb:Bl w' (w'.alloc (.cells #[i_ z] 3)):=aY;refine .new (g.1,w'.heap.size,g.2.2) [11] rfl (jO rfl rfl (hs1 w')) ⟨fun h=>ff Tb h,fun _=>⟨ah q1 hb,fun h1 h2=>Cj (q2 h1 h2) hb,fun h1 h2=>Cj (q3 h1 h2) hb,fun _ _=>⟨Has.new _ _,fun h1 h2=>?_⟩,fun h=>ff h12 h⟩⟩;exact Nat.ne_of_gt ((q2 h1 h2).lt _ rfl).2
    ·have Tb:=f.no 15 (by kernel_rfl);have h12:=f.no 12 (by kernel_rfl);have h6:=f.yes 6 (by kernel_rfl);have h11:=f.yes 11 (by kernel_rfl);obtain⟨q1,q2,q3,q4,q5⟩:=hC.2 Tb
     obtain⟨v',w2,g1,g2,g3⟩:=AH (w:=w') 53 58 (by decide) v3.heap.size _ n L (q3 h6 h12) (some ⟨g.2.1,0,none⟩) 1 1 [z] (fun h=>by cases h) rfl (BX fun k y hk=>by
      rw[Has.cell (q4 h11 h12).1 k];match k,hk with
      | 0,hk=>cases hk;rfl
      | k+1,hk=>simp at hk) (by have:=H.out.few;omega) q1.size
     have hg:Bl v3 w2:=q1.grown g3 q1.size fun k hk=>(q3 h6 h12).lt k hk |>.1
     exact .new (g.1,g.2.1,v') [12] rfl (g1 _ _ rfl rfl rfl rfl) ⟨fun h=>ff Tb h,fun _=>⟨hg,fun _ h2=>ff h2 h6,fun _ h=>(by cases h),fun _ h=>(by cases h),fun _=>g2⟩⟩
    ·have Tb:=f.no 15 (by kernel_rfl);have h12:=f.yes 12 (by kernel_rfl);obtain⟨q1,q2,q3,q4,q5⟩:=hC.2 Tb;have hbw:=ah HB.out q1;obtain⟨kg2,kc2,e,_⟩:=tJ (q5 h12) (Nat.succ_pos _);refine .store rfl (ml rfl rfl rfl (p:=⟨mr,2,none⟩) (u:=g.2.2) ?_) ⟨fun _=>⟨w',hbw,CH (q5 h12) HB.out.size,rfl⟩,fun h=>by cases h⟩;rw[e];exact DJ (H.out.m2 _ hbw).2 (H.out.m2 _ hbw).1
    intro g v4 hq;obtain⟨w1,hq1,hq2,rfl⟩:=hq.1 rfl;have hq:∃w2 v,Bl w w2/\w2.ownsRow w.heap.size 3 1 v (n+1) ((L++[z]).map (Value.int .i64))/\w1.setCell ⟨mr,2,none⟩ g.2.2=w2.setCell ⟨mr,2,none⟩ v:=⟨w1,g.2.2,hq1,hq2,rfl⟩;have HQ:=h_ hq;generalize World.setCell _ _ _=v4 at*;clear hq hq1 hq2;simp only[dg,List.set_cons_zero,List.set_cons_succ,List.tail_cons,List.headD_cons];clear H;(go_wp2_with fail);go_ret;exact⟨u3 Yb.out,.inr (.inl ⟨Yb.out,HP.out,by rw[HST.out];exact HQ.out⟩)⟩
 ·have hb1:decide ((n:Int)<=(m:Int))=false:=decide_eq_false (by omega);have hp:¬L <+: K:=fun h=>hnm (hpre.out.1 h).1
  clear e1;refine de (fun _ _ w'=>Bl v2 w') 99 99 [3] [i_ n,.slice (aT kg) m kc,i_ m,.bool false,.bool false,undef,undef,undef,undef,undef,undef,undef,undef,.bool false,.bool false] (bf.drew) ⟨fun _ _ _ _ _ h=>.val (Db rfl rfl rfl hb1) h,trivial⟩ ?_;intro v3 hb3;have hB:=ah HB2.out hb3;obtain⟨c2,c3⟩:=H.out.m2 _ hB;have HP:=h_ hp;have HB:=h_ hB;clear H KT hb3 hpre hp hB hb1;simp only[dg,List.set_cons_zero,List.set_cons_succ,List.tail_cons,List.headD_cons];go_wp2_with fail
  go_ret;exact⟨u3 (fun e:L=K=>HP.out (by rw[e];exact List.prefix_rfl)),.inr (.inr ⟨HP.out,v3,HB.out,by rw[<-E1.out]⟩)⟩
theorem zH.of(h:aS w0 w r bb cb mr bt mb mg bm rb x Mt Mr Sp Sr tip La)(hl:La.length<=900)(h0:0<La.length):∃ag c,zH w mr bm rb ag La.length c La:=by obtain⟨ag,c,h1,_,h2⟩:=h.row;exact⟨ag,c,rfl,h0,hl,h1,fun w' hb=>(h.below hb).m0,fun w' hb=>(h.below hb).m1,fun w' hb=>⟨(h2 w' hb).1,(h.below hb).free.2⟩,fun w' hb=>(h2 w' hb).2⟩
theorem G5(h:aS w0 w r bb cb mr bt mb mg bm rb x Mt Mr Sp Sr tip La)(hM:Ok r Mr)(hl:Mr.length<=500){i t:Nat}{K:List Int}(hL:Row Mr (i:Int) La)(hK:Row Mr (t:Int) K)(ht:Mk.top (Hv r Mr) (fun j=>aM Mr Sr (j:Int)) Mr.length=t):aG 44 #[af mr] w fun e w'=>e=.returned (.bool (decide (0<Ch.iw K La)))/\∃i2:Nat,Row Mr (i2:Int) (Ch.iM K La)/\Ch.iw K (Ch.iM K La)=Ch.iw K La-1/\aS w0 w' r bb cb mr bt mb mg bm rb x Mt Mr Sp Sr tip (Ch.iM K La):=by
 have hln:=Mk.nU hM hL;have hkn:=Mk.nU hM hK;obtain⟨hl0,hz⟩:=hL.last;obtain⟨ag,c,HR⟩:=zH.of h (by omega) hl0;obtain⟨Fm,hF⟩:=h.rf;have hS:=h.rk;obtain⟨e,_,he,_,_⟩:=Ch.im hK
 have hpre:La <+: K↔La.length<=K.length/\K[La.length-1]?=some (i:Int):=by
  constructor;intro hp;refine⟨hp.length_le,?_⟩;obtain⟨s,rfl⟩:=hp;rw[List.getElem?_append_left (by omega)];exact hz;rintro⟨_,h2⟩;have:=hL.SQ (hK.take h2);rw[this];exact List.take_prefix _ _
 refine(uT (h_ HR) (t:Int) K.length rfl hK.last.1 (i:Int) (h_ hz) (h_ hpre) (h_ fun w' hb=>?_) (h_ fun w' hb=>ER (hF.below hb) hM (by omega) t e he K hK)).mono ?_;have:=MR (hF.below hb) (hS.below hb) hM hl;rw[ht]at this;exact this;rintro e w' ⟨rfl,hs⟩
 have hc:decide (¬La=K)=decide (0<Ch.iw K La):=by
  by_cases e:La=K;rw[e,Ch.tO];simp;rw[Ch.uN e hl0,decide_eq_true e,decide_eq_true (Nat.succ_pos _)]
 refine⟨by rw[hc],?_⟩;obtain⟨i2,_,hR⟩:=Ch.tY hM hL hK;refine⟨i2,hR,?_,?_⟩
 ·by_cases e:La=K;rw[Ch.sU e,e,Ch.tO];have:=Ch.uN e hl0;omega
 rcases hs with⟨e,hb⟩|⟨e,hp,w1,v,hb,hv,rfl⟩|⟨hp,w1,hb,rfl⟩
 rw[Ch.sU e];exact h.below hb
 ·have hlen:(Ch.iM K La).length=La.length+1:=by
   have:=Ch.lO e hp;rw[Ch.ll e hp,List.length_take];omega
  obtain⟨hl2,⟨_,h0⟩|⟨g,c2,cur,rfl,q1,q2,q3,q4,q5,q6⟩⟩:=hv;omega
  ·rw[Nat.mul_one]at q5 q6;rw[<-hlen,<-q5];refine h.Ti hb q1 q2 ⟨by omega,fun k z hk=>?_⟩;have hk2:=(List.getElem?_eq_some_iff.1 hk).1;have e2:(cur.toList.take (La.length+1))[k]?=some (Value.int .i64 z):=by rw[q6,List.getElem?_map,hk];rfl
   rw[List.getElem?_take,if_pos (by omega),Array.getElem?_toList]at e2;exact e2
 have:=(h.below hb).Wq (ag:=ag) (n:=La.length-1) (c:=c) (by omega) (HR.m2 _ hb).1;rw[Ch.BU hp,List.dropLast_eq_take];exact this
theorem DQ(cq:Option Addr)(N:Nat)(hN:N<=1000)(St:World->Nat->Prop)(h0:∀w',Bl w w'->St w' N)(KW:Hid (∀w' n,St w' n->aG 44 #[.pointer cq] w' fun e w''=>e=.returned (.bool (decide (0<n)))/\St w'' (n-1))):aG 33 #[.pointer cq] w fun e w'=>e=.returned (i_ N)/\St w' 0:=by
 have hB:=Below.refl w.heap.size w;go_enter Tryz.func33,Tryz.ntmps33;have hS:=h0 _ hB;clear h0 hB;go_wp2_with fail
 go_loopw [3] (fun u wr=>∃k n:Nat,k+n=N/\u=i_ k/\St wr n) (fun u _=>N-(intOf u).toNat)
 case atStart=>exact⟨0,N,by omega,rfl,hS⟩
 case round=>
  clear hS;obtain⟨k,n,hk,rfl,hS⟩:=hrel;have K1:=h_ (KW.out _ n hS);clear hS;rcases Nat.eq_zero_or_pos n with rfl|hn
  ·obtain rfl:k=N:=by omega
   clear hk;go_wp2_with fail
   refine K1.out.mono ?_;rintro e v5 ⟨rfl,hS⟩;have HS:=h_ hS;clear hS K1;rw[decide_eq_false (Nat.lt_irrefl 0)];go_wp2_with fail
   go_ret;exact⟨rfl,HS.out⟩
  ·go_wp2_with fail
   refine K1.out.mono ?_;rintro e v5 ⟨rfl,hS⟩;clear K1;rw[decide_eq_true hn];go_wp2_with fail
   go_roundw
   case rel=>exact⟨k+1,n-1,by omega,by go_num,hS⟩
   case measure=>simp[intOf];omega
theorem Cb(hM:Ok r M)(h:Mk.Good n S):aM M S ((0:Nat):Int)=true:=Mk.Qz.2 (h.UK hM)
theorem uq(hM:Ok r M)(h:Mk.Good n S):(!cF M S ((0:Nat):Int))=true:=by
 rw[Bool.not_eq_true'];cases e:cF M S ((0:Nat):Int)with
 | false=>rfl
 | true=>exact absurd (Mk.Ha.1 e) (h.TE hM)
noncomputable def jV(r:Ru)(M:List aq)(S:Mk.St):Nat:=Mk.top (Hv r M) (fun i=>aM M S (i:Int)) M.length
noncomputable def RE(r:Ru)(M:List aq)(S:Mk.St):Nat:=Mk.top (Hv r M) (fun i=>!cF M S (i:Int)) M.length
def Gd(r:Ru)(M:List aq)(S:Mk.St):Prop:=Ok r M/\M.length<=100/\Mk.Good M.length S
theorem AR(h:Gd r M S):∃K,Row M (jV r M S:Int) K:=by obtain⟨K,hK,_⟩:=h.1.row (List.getElem?_eq_getElem (Mk.jU (H:=Hv r M) (P:=fun i=>aM M S (i:Int)) M.length h.1.pos));exact⟨K,hK⟩
theorem Fi(h0:0<L.length)(h:Ch.iw K L=0):L=K:=Decidable.byContradiction fun e=>by
 have:=Ch.uN e h0;omega
theorem zK{i t:Nat}(h:Gd r M S)(hL:Row M (i:Int) L)(hK:Row M (t:Int) K):Ch.iw K L<=1000:=by have h1:=Mk.nU h.1 hL;have h2:=Mk.nU h.1 hK;have h3:=h.2.1;unfold Ch.iw;omega
theorem pj(h:aS w0 w r bb cb mr bt mb mg bm rb x Mt Mr Sp Sr tip La):aQ w 26 #[af cb] (af mb):=h_ fun _ hb=>FU (h.below hb).c1
theorem Al(h:aS w0 w r bb cb mr bt mb mg bm rb x Mt Mr Sp Sr tip La):aQ w 25 #[af cb] (af bt):=h_ fun _ hb=>wu (h.below hb).c0
theorem GN(h:aS w0 w r bb cb mr bt mb mg bm rb x Mt Mr Sp Sr tip La)(hg:Gd r Mt Sp):ak 19 #[af cb] w (i_ (jV r Mt Sp:Int)):=
 GB (aT cb) (aT mb) _ (pj h) (h_ fun w' hb=>((h.below hb).rd hg.1 (Nat.le_trans hg.2.1 (by decide))).fz hg.1 (Cb hg.1 hg.2.2))
theorem zY(h:aS w0 w r bb cb mr bt mb mg bm rb x Mt Mr Sp Sr tip La)(hg:Gd r Mt Sp):ak 20 #[af cb] w (i_ (RE r Mt Sp:Int)):=
 wv (aT cb) (aT mb) _ (pj h) (h_ fun w' hb=>((h.below hb).rd hg.1 (Nat.le_trans hg.2.1 (by decide))).lead hg.1 (uq hg.1 hg.2.2))
theorem u4(h:aS w0 w r bb cb mr bt mb mg bm rb x Mt Mr Sp Sr tip La)(hg:Gd r Mt Sp){L K:List Int}(hL:Row Mt (tip:Int) L)(hK:Row Mt (jV r Mt Sp:Int) K):aG 21 #[af cb] w fun e w'=>e=.returned (.bool (decide (0<Ch.iw K L)))/\∃t2:Nat,Row Mt (t2:Int) (Ch.iM K L)/\aS w0 w' r bb cb mr bt mb mg bm rb x Mt Mr Sp Sr t2 La:=
 vB (aT cb) _ _ (fun w'=>∃t2:Nat,Row Mt (t2:Int) (Ch.iM K L)/\aS w0 w' r bb cb mr bt mb mg bm rb x Mt Mr Sp Sr t2 La) (h_ fun w' hb=>GN (h.below hb) hg) (h_ fun w' hb=>(yk (h.below hb) hg.1 (Nat.le_trans hg.2.1 (by decide)) hL hK).mono fun _ _ ⟨e,t2,h1,_,h2⟩=>⟨e,t2,h1,h2⟩)
theorem pW(h:aS w0 w r bb cb mr bt mb mg bm rb x Mt Mr Sp Sr tip La)(hg:Gd r Mt Sp){L K:List Int}(hL:Row Mt (tip:Int) L)(hK:Row Mt (jV r Mt Sp:Int) K):aG 22 #[af cb] w fun e w'=>e=.returned (i_ (Ch.iw K L:Int))/\aS w0 w' r bb cb mr bt mb mg bm rb x Mt Mr Sp Sr (jV r Mt Sp) La:=by
 refine(Gg (aT cb) (jV r Mt Sp:Int) (h_ fun w' hb=>GN (h.below hb) hg) (Ch.iw K L) (zK hg hL hK) (fun w' n=>∃(t2:Nat)(L2:List Int),Row Mt (t2:Int) L2/\Ch.iw K L2=n/\aS w0 w' r bb cb mr bt mb mg bm rb x Mt Mr Sp Sr t2 La) (fun w' hb=>⟨tip,L,hL,rfl,h.below hb⟩) (h_ ?_)).mono ?_;rintro w' n ⟨t2,L2,h1,rfl,h2⟩;exact(yk h2 hg.1 (Nat.le_trans hg.2.1 (by decide)) h1 hK).mono fun _ _ ⟨e,t3,q1,q2,q3⟩=>⟨e,t3,_,q1,q2,q3⟩
 rintro e w' ⟨rfl,t2,L2,h1,h2,h3⟩;obtain rfl:=(Ch.Aq h1 hK).1 (Fi h1.last.1 h2);exact⟨rfl,h3⟩
theorem uv(h:aS w0 w r bb cb mr bt mb mg bm rb x Mt Mr Sp Sr tip La)(hg:Gd r Mr Sr){i:Nat}{K:List Int}(hL:Row Mr (i:Int) La)(hK:Row Mr (jV r Mr Sr:Int) K):aG 44 #[af mr] w fun e w'=>e=.returned (.bool (decide (0<Ch.iw K La)))/\aS w0 w' r bb cb mr bt mb mg bm rb x Mt Mr Sp Sr tip (Ch.iM K La):=(G5 h hg.1 (Nat.le_trans hg.2.1 (by decide)) hL hK rfl).mono fun _ _ ⟨e,_,_,_,h2⟩=>⟨e,h2⟩
theorem EK(h:aS w0 w r bb cb mr bt mb mg bm rb x Mt Mr Sp Sr tip La)(hg:Gd r Mr Sr){i:Nat}{K:List Int}(hL:Row Mr (i:Int) La)(hK:Row Mr (jV r Mr Sr:Int) K):aG 33 #[af mr] w fun e w'=>e=.returned (i_ (Ch.iw K La:Int))/\aS w0 w' r bb cb mr bt mb mg bm rb x Mt Mr Sp Sr tip K:=by
 refine(DQ (aT mr) (Ch.iw K La) (zK hg hL hK) (fun w' n=>∃(t2:Nat)(L2:List Int),Row Mr (t2:Int) L2/\Ch.iw K L2=n/\aS w0 w' r bb cb mr bt mb mg bm rb x Mt Mr Sp Sr tip L2) (fun w' hb=>⟨i,La,hL,rfl,h.below hb⟩) (h_ ?_)).mono ?_;rintro w' n ⟨t2,L2,h1,rfl,h2⟩;exact(G5 h2 hg.1 (Nat.le_trans hg.2.1 (by decide)) h1 hK rfl).mono fun _ _ ⟨e,t3,q1,q2,q3⟩=>⟨e,t3,_,q1,q2,q3⟩
 rintro e w' ⟨rfl,t2,L2,h1,h2,h3⟩;obtain rfl:=Fi h1.last.1 h2;exact⟨rfl,h3⟩
section
variable{w0 w:World}{r:Ru}{bb cb mr bt mb mg bm rb:Nat}{x:yS}{Mt Mr:List aq}{Sp Sr:Mk.St}{tip:Nat}{La:List Int}{M:List aq}{S:Mk.St}
theorem CE(h:aS w0 w r bb cb mr bt mb mg bm rb x M Mr Sp Sr tip La)(hM:Ok r M)(hl:M.length<=800)(hgl:r.gs.length<=1000)(hcl:r.cs.length<=1000)(hT:∀w',Bl w w'->dQ w')(y:Hd)(ho:y.ok)(now:Int):aG 14 #[af cb,.agg (aD y),i_ now] w fun e w'=>e=.returned (.tuple #[i_ (Ar.add r M y now).1.1,i_ (Ar.add r M y now).1.2.1,i_ (Ar.add r M y now).1.2.2])/\aS w0 w' r bb cb mr bt mb mg bm rb x (Ar.add r M y now).2 Mr Sp Sr tip La:=
 Ak (aT cb) (aT bt) (fun w'=>aS w0 w' r bb cb mr bt mb mg bm rb x (Ar.add r M y now).2 Mr Sp Sr tip La) _ _ _ now y ho (Al h) (h_ fun w' hb=>(h.below hb).lift fun _ hC=>E3 hC hM hl hgl hcl (hT w' hb) y ho now)
theorem Qf(h:aS w0 w r bb cb mr bt mb mg bm rb x Mt Mr Sp Sr tip La)(hl:Mt.length<=100)(z:Int)(right:Bool):aG 15 #[af cb,i_ z,.bool right] w fun e w'=>e=.returned (i_ (verdict Mt.length Sp z right).1)/\aS w0 w' r bb cb mr bt mb mg bm rb x Mt Mr (verdict Mt.length Sp z right).2 Sr tip La:=
 N_ (aT cb) (aT mb) (fun w'=>aS w0 w' r bb cb mr bt mb mg bm rb x Mt Mr (verdict Mt.length Sp z right).2 Sr tip La) _ z right (pj h) (h_ fun _ hb=>(h.below hb).lift fun _ hC=>Q4 hC (Nat.le_trans hl (by decide)) z right)
theorem Ca(h:aS w0 w r bb cb mr bt mb mg bm rb x Mt Mr Sp Sr tip La)(hl:Mt.length<=100)(z:Int):aG 16 #[af cb,i_ z] w fun e w'=>e=.returned (i_ (a_ Mt.length Sp z).1)/\aS w0 w' r bb cb mr bt mb mg bm rb x Mt Mr (a_ Mt.length Sp z).2 Sr tip La:=
 Jz (aT cb) (aT mb) (fun w'=>aS w0 w' r bb cb mr bt mb mg bm rb x Mt Mr (a_ Mt.length Sp z).2 Sr tip La) _ z (pj h) (h_ fun _ hb=>(h.below hb).lift fun _ hC=>P1 hC (Nat.le_trans hl (by decide)) z)
theorem B8(h:aS w0 w r bb cb mr bt mb mg bm rb x Mt Mr Sp Sr tip La)(hM:Ok r Mt)(hl:Mt.length<=100)(z:Int):aG 17 #[af cb,i_ z] w fun e w'=>e=.returned (i_ (bc Mt Sp z).1)/\aS w0 w' r bb cb mr bt mb mg bm rb x Mt Mr (bc Mt Sp z).2 Sr tip La:=
 Ga (aT cb) (aT mb) (fun w'=>aS w0 w' r bb cb mr bt mb mg bm rb x Mt Mr (bc Mt Sp z).2 Sr tip La) _ z (pj h) (h_ fun _ hb=>(h.below hb).lift fun _ hC=>Rp hC hM (Nat.le_trans hl (by decide)) z)
end
def RV(w:World)(k:Nat)(P:List Int)(fl:Nat->Bool)(g:Nat×Nat×Value)(w':World):Prop:=
 Bl w w'/\(fl 0=true->fl 10=false->w'.ownsRow w.heap.size 3 1 (.slice (some ⟨g.1,0,none⟩) 1 1) 1 ([0].map (Value.int .i64)))/\
 (fl 9=true->fl 10=false->Has w' g.2.1 (P.map (Value.int .i64)).toArray 3/\(fl 0=true->g.2.1≠g.1))/\(fl 10=true->w'.ownsRow w.heap.size 3 1 g.2.2 (1+k) ((0::P).map (Value.int .i64)))
variable{w:World}
theorem Ec{cb bt tip:Nat}(k:Nat)(P:List Int)(hk:k=P.length)(Xe:k<=900)(C0:jR w fun w'=>w'.cell? ⟨cb,0,none⟩=some (af bt)/\w'.cell? ⟨cb,2,none⟩=some (i_ tip))(KP:jR w fun w'=>aG 55 #[af bt,i_ tip] w' fun x w''=>∃g,x=.returned (.slice (aT g) k k)/\w'.heap.size<=g/\Has w'' g (P.map (Value.int .i64)).toArray 3/\Bl w' w''):aG 23 #[af cb] w fun e w'=>∃v,e=.returned v/\w'.ownsRow w.heap.size 3 1 v (1+k) ((0::P).map (Value.int .i64))/\Bl w w':=by
 have HK:=h_ hk;clear hk;have hB:=Below.refl w.heap.size w;go_enter Tryz.func23,Tryz.ntmps23;go_wp2_with fail
 have hs1:∀w',(Instr.buildSlice 49 1 #[(0,i_ 0)]).run Tryz.prog w'=.ok (.slice (some ⟨w'.heap.size,0,none⟩) 1 1) (w'.alloc (.cells #[i_ 0] 3)):=fun _=>by kernel_rfl
 refine u7 (RV w k P) [0,9,10] [0,4,8,9,10] (fun g=>[.slice (some ⟨g.1,0,none⟩) 1 1,af cb,af cb,af cb,af bt,af cb,af cb,.pointer (some ⟨cb,2,none⟩),i_ tip,.slice (some ⟨g.2.1,0,none⟩) k k,g.2.2,g.2.2]) (0,0,undef) ⟨hB.drew,fun h=>(by cases h),fun h=>(by cases h),fun h=>by cases h⟩
  ⟨fun fl g w' f hC=>?_,fun fl g w' f hC=>.val (dj rfl rfl (wO (C0.out _ hC.1).1)) hC,fun fl g w' f hC=>.val (dj rfl rfl (fT (C0.out _ hC.1).2)) hC,fun fl g w' f hC=>?_,fun fl g w' f hC=>?_,trivial⟩ ?_
 ·have h10:=f.no 10 (by kernel_rfl);obtain⟨q1,q2,q3,q4⟩:=hC;have hb:Bl w' (w'.alloc (.cells #[i_ 0] 3)):=aY;exact .new (w'.heap.size,g.2) [0] rfl (jO rfl rfl (hs1 w')) ⟨ah q1 hb,fun _ _=>Fk (Has.new _ _) q1.size,fun h1 h2=>⟨(oX hb).has (q3 h1 h2).1 (fun h=>h),fun _=>Nat.ne_of_lt (q3 h1 h2).1.lt⟩,fun h=>ff h10 h⟩
 ·have h10:=f.no 10 (by kernel_rfl);obtain⟨q1,q2,q3,q4⟩:=hC;refine .UB [9] ((KP.out _ q1).mono fun e w'' h=>?_);obtain⟨gp,h1,h2,h3,h4⟩:=h;exact⟨(g.1,gp,g.2.2),rfl,h1,ah q1 h4,fun h5 h6=>Cj (q2 h5 h6) h4,fun _ _=>⟨h3,fun h5=>Nat.ne_of_gt (Nat.lt_of_lt_of_le ((q2 h5 h10).lt _ rfl).2 h2)⟩,fun h=>ff h10 h⟩
 ·have h0:=f.yes 0 (by kernel_rfl);have h9:=f.yes 9 (by kernel_rfl);have h10:=f.no 10 (by kernel_rfl);obtain⟨q1,q2,q3,q4⟩:=hC;obtain⟨p1,p2⟩:=q3 h9 h10;obtain⟨v',w2,g1,g2,g3⟩:=AH (w:=w') 5 14 (by decide) w.heap.size _ 1 [0] (q2 h0 h10) (some ⟨g.2.1,0,none⟩) k k P (fun h=>by cases h) HK.out.symm (BX fun j z hj=>by rw[Has.cell p1 j,List.getElem?_toArray,List.getElem?_map,hj];rfl) (by omega) q1.size;have hg:Bl w w2:=q1.grown g3 q1.size fun k hk=>((q2 h0 h10).lt k hk).1
  exact .new (g.1,g.2.1,v') [10,11] rfl (g1 _ _ rfl rfl rfl rfl) ⟨hg,fun _ h=>(by cases h),fun _ h=>(by cases h),fun _=>g2⟩
 rintro g v2 ⟨hB,_,_,hv⟩;have HV:=h_ (hv rfl);have HB:=h_ hB;clear hv hB KP C0;simp only[dg,List.set_cons_zero,List.set_cons_succ,List.tail_cons,List.headD_cons];go_wp2_with fail
 go_ret;exact⟨_,rfl,HV.out,HB.out⟩
def jf(w:World)(v:Value)(l:List Int):Prop:=∃p c,v=.slice p l.length c/\(0<l.length->∃g,p=some ⟨g,0,none⟩/\∀w',Bl w w'->∀(k:Nat)(z:Int),l[k]?=some z->w'.cell? ⟨g,k,none⟩=some (i_ z))
variable{v:Value}{l:List Int}
theorem jf.on{w':World}(h:jf w v l)(hb:Bl w w'):jf w' v l:=by obtain⟨p,c,e,h1⟩:=h;refine⟨p,c,e,fun h0=>?_⟩;obtain⟨g,e2,h2⟩:=h1 h0;exact⟨g,e2,fun w2 hb2=>h2 w2 (ah hb hb2)⟩
theorem jf.of{B n:Nat}(h:w.ownsRow B 3 1 v n (l.map (Value.int .i64)))(hn:n=l.length):jf w v l:=by
 subst hn;rcases Nat.eq_zero_or_pos l.length with h0|h0
 obtain⟨_,⟨rfl,_⟩|⟨g,c,cur,rfl,_⟩⟩:=h;exact⟨none,0,by rw[h0],fun hh=>by omega⟩;exact⟨_,c,rfl,fun hh=>by omega⟩;obtain⟨g,c,e,_,_,hg,h1⟩:=tJ h h0;exact⟨_,c,e,fun _=>⟨g,rfl,fun w' hb k z hk=>(hb.cell (p:=⟨g,k,none⟩) hg).trans (h1 k z hk)⟩⟩
theorem Em{v1 v2:Value}{l1 l2:List Int}(h1:jf w v1 l1)(h2:jf w v2 l2)(hl:l1.length<=1000):ak 27 #[v1,v2] w (.bool (decide (l1=l2))):=by
 obtain⟨p1,c1,rfl,h1⟩:=h1;obtain⟨p2,c2,rfl,h2⟩:=h2;have H1:=h_ h1;have H2:=h_ h2;obtain⟨n,hn⟩:∃n,n=l1.length:=⟨_,rfl⟩;obtain⟨m,hm⟩:∃m,m=l2.length:=⟨_,rfl⟩;rw[<-hn,<-hm];have HN:=h_ hn;have HM:=h_ hm;clear h1 h2 hn hm;have hB:=Below.refl w.heap.size w;go_enter Tryz.func27,Tryz.ntmps27;by_cases hnm:n=m
 ·subst hnm;have e0:((n:Int) != (n:Int))=false:=by simp
  have TW:n<=1000:=by rw[HN.out];exact hl
  go_wp2_with fail
  go_loopw [13] (fun u wr=>∃k:Nat,k<=n/\u=i_ k/\Hid (l1.take k=l2.take k)/\Bl w wr) (fun u _=>n-(intOf u).toNat)
  case atStart=>exact⟨0,Nat.zero_le _,rfl,h_ rfl,hB⟩
  case round=>
   clear hB;obtain⟨k,hk,rfl,HE,hB⟩:=hrel;by_cases hlt:k<n
   ·obtain⟨g1,rfl,q1⟩:=H1.out (by rw[<-HN.out];omega);obtain⟨g2,rfl,q2⟩:=H2.out (by rw[<-HM.out];omega);obtain⟨x,hx⟩:∃x,l1[k]?=some x:=⟨_,List.getElem?_eq_getElem (by rw[<-HN.out];exact hlt)⟩;obtain⟨y,hy⟩:∃y,l2[k]?=some y:=⟨_,List.getElem?_eq_getElem (by rw[<-HM.out];exact hlt)⟩;have X1:Hid (∀w',Bl w w'->w'.cell? ⟨g1,k,none⟩=some (i_ x)):=h_ fun w' hb=>q1 w' hb k x hx
    have X2:Hid (∀w',Bl w w'->w'.cell? ⟨g2,k,none⟩=some (i_ y)):=h_ fun w' hb=>q2 w' hb k y hy
    have HX:=h_ hx;have HY:=h_ hy;clear q1 q2 hx hy;have hB0:=hB.drew;(go_wp2_with fail);cases hb:(x != y)
    all_goals
     refine de (fun _ _ w'=>Bl w w') 99 99 [2,3,6,7,8] [.slice (aT g1) n c1,i_ k,.pointer (some ⟨g1,k,none⟩),i_ x,.slice (aT g2) n c2,i_ k,.pointer (some ⟨g2,k,none⟩),i_ y,.bool _] hB0
      ⟨fun _ _ _ _ _ hC=>.val (gw rfl rfl rfl (oU _ _ _ _ _ hlt)) hC,fun _ _ _ _ _ hC=>.val (dj rfl rfl (fT (X1.out _ hC))) hC,fun _ _ _ _ _ hC=>.val (gw rfl rfl rfl (oU _ _ _ _ _ hlt)) hC,fun _ _ _ _ _ hC=>.val (dj rfl rfl (fT (X2.out _ hC))) hC,fun _ _ _ _ _ hC=>.val (vY rfl rfl rfl hb) hC,trivial⟩ ?_
     intro v3 hB;simp only[dg,List.set_cons_zero,List.set_cons_succ,List.tail_cons,List.headD_cons]
    ·(go_wp2_with fail);go_roundw
     case rel=>exact⟨k+1,by omega,by go_num,h_ (by rw[List.take_add_one,List.take_add_one,HE.out,HX.out,HY.out,eq_of_beq (a:=x) (b:=y) (by simpa using hb)]),hB⟩
     case measure=>simp[intOf];omega
    ·(go_wp2_with fail);go_ret
     exact⟨nT (fun e:l1=l2=>by
      have h1:=HX.out;rw[e,HY.out]at h1;rw[Option.some.inj h1]at hb;simp at hb),hB⟩
   ·obtain rfl:k=n:=(by omega);(go_wp2_with fail);go_ret;refine⟨u3 ?_,hB⟩;have:=HE.out;rwa[List.take_of_length_le (by rw[HN.out];exact Nat.le_refl _),List.take_of_length_le (by rw[HM.out];exact Nat.le_refl _)]at this
 ·have e0:((n:Int) != (m:Int))=true:=by
   rw[bne_iff_ne];omega
  go_wp2_with fail
  go_ret;exact⟨nT (fun e:l1=l2=>hnm (by rw[HN.out,HM.out,e])),hB⟩
section
variable{ρ:Operand->Value}{o:Oper}{w w':World}
end
