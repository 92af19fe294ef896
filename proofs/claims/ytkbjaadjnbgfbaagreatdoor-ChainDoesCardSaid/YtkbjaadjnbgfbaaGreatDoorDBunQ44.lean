import Derived.Test.YtkbjaadjnbgfbaaGreatDoorDBunQ42
import Derived.Test.YtkbjaadjnbgfbaaGreatDoorDSkPath
set_option maxRecDepth 100000
set_option maxHeartbeats 4000000
namespace Go.Proofs.YtkbjaadjnbgfbaaGreatDoor.An
open Go.RowKit Mem Sc NN.Q8
open Ar (aq Ru aB Ok cg Row cG Up dO eE)
open Mk (bZ cZ aY pb verdict bB bk eZ word a_)
def Qp(cb mr:Nat):Array Value:=#[af cb,af mr]
def Lt(bt mb tip:Nat):Array Value:=#[af bt,af mb,i_ tip]
def IE(bm rb:Nat)(v:Value):Array Value:=#[af bm,af rb,v]
def xO(La:List Int)(cur:Array Value):Prop:=La.length<=cur.size/\∀(k:Nat)(z:Int),La[k]?=some z->cur[k]?=some (i_ z)
abbrev vF:=List (Nat×Array Value×TypeId)
inductive np (bb cb mr bt mb bm rb:Nat) (x:vF) (tip ag n:Nat) (cur:Array Value):Nat->Array Value->TypeId->Prop
 | bb:np bb cb mr bt mb bm rb x tip ag n cur bb (Qp cb mr) 58
 | cb:np bb cb mr bt mb bm rb x tip ag n cur cb (Lt bt mb tip) 88
 | mr:np bb cb mr bt mb bm rb x tip ag n cur mr (IE bm rb (.slice (aX ag) n cur.size)) 66
 | ag:np bb cb mr bt mb bm rb x tip ag n cur ag cur 3
 | act (p:Nat×Array Value×TypeId):p∈x->np bb cb mr bt mb bm rb x tip ag n cur p.1 p.2.1 p.2.2
def CK(x:vF):Prop:=∀p∈x,p.2.2≠88/\p.2.2≠66
def aN(w0 w:World)(r:Ru)(bb cb mr bt mb mg bm rb:Nat)(x:vF)(Mt Mr:List aq)(Sp Sr:Mk.St)(tip:Nat)(La:List Int):Prop:=
 CK x/\∃(ag:Nat)(cur:Array Value),xO La cur/\Core w0 w r bt mb mg bm rb (np bb cb mr bt mb bm rb x tip ag La.length cur) Mt Mr Sp Sr
section
variable{w0 w w':World}{r:Ru}{bb cb mr bt mb mg bm rb:Nat}{x:vF}{Mt Mr M:List aq}{Sp Sr S':Mk.St}{tip ag n:Nat}{La:List Int}{cur:Array Value}
theorem aN.below(h:aN w0 w r bb cb mr bt mb mg bm rb x Mt Mr Sp Sr tip La)(hb:Bl w w'):aN w0 w' r bb cb mr bt mb mg bm rb x Mt Mr Sp Sr tip La:=by obtain⟨hf,ag,cur,h1,h2⟩:=h;exact⟨hf,ag,cur,h1,h2.below hb⟩
theorem aN.TQ(h:aN w0 w r bb cb mr bt mb mg bm rb x Mt Mr Sp Sr tip La):Bl w0 w:=by obtain⟨hf,ag,cur,h1,h2⟩:=h;exact h2.TQ
variable{x':vF}
theorem np.less(hx:∀p∈x',p∈x){i:Nat}{cs:Array Value}{T:TypeId}(h:np bb cb mr bt mb bm rb x' tip ag n cur i cs T):np bb cb mr bt mb bm rb x tip ag n cur i cs T:=by
 cases h with
 | bb=>exact .bb
 | cb=>exact .cb
 | mr=>exact .mr
 | ag=>exact .ag
 | act p hp=>exact .act p (hx p hp)
theorem aN.less(h:aN w0 w r bb cb mr bt mb mg bm rb x Mt Mr Sp Sr tip La)(hx:∀p∈x',p∈x):aN w0 w r bb cb mr bt mb mg bm rb x' Mt Mr Sp Sr tip La:=by obtain⟨hf,ag,cur,h1,h2⟩:=h;exact⟨fun p hp=>hf p (hx p hp),ag,cur,h1,h2.loose fun _ _ _ hi=>hi.less hx⟩
theorem aN.loose(h:aN w0 w r bb cb mr bt mb mg bm rb x Mt Mr Sp Sr tip La):aN w0 w r bb cb mr bt mb mg bm rb [] Mt Mr Sp Sr tip La:=h.less fun _ hp=>by cases hp
variable{bx:Nat}
theorem aN.put{cs:Array Value}{T:TypeId}(h:aN w0 w r bb cb mr bt mb mg bm rb x Mt Mr Sp Sr tip La)(hb:Bl w w')(hx:w.heap.size<=bx)(hY:Has w' bx cs T)(h1:T≠88)(h2:T≠66):aN w0 w' r bb cb mr bt mb mg bm rb ((bx,cs,T)::x) Mt Mr Sp Sr tip La:=by
 obtain⟨hf,ag,cur,g1,g2⟩:=h;refine⟨fun p hp=>?_,ag,cur,g1,g2.turn hb fun i cs T hi=>?_⟩
 ·rcases List.mem_cons.1 hp with rfl|hp
  exact⟨h1,h2⟩;exact hf p hp
 cases hi with
 | bb=>exact .inl .bb
 | cb=>exact .inl .cb
 | mr=>exact .inl .mr
 | ag=>exact .inl .ag
 | act p hp=>
  rcases List.mem_cons.1 hp with rfl|hp
  exact .inr ⟨hx,hY⟩;exact .inl (.act p hp)
theorem aN.has{p:Nat×Array Value×TypeId}(h:aN w0 w r bb cb mr bt mb mg bm rb x Mt Mr Sp Sr tip La)(hp:p∈x):Has w p.1 p.2.1 p.2.2:=by obtain⟨hf,ag,cur,h1,h2⟩:=h;exact h2.has (.act p hp)
theorem aN.box(h:aN w0 w r bb cb mr bt mb mg bm rb [] Mt Mr Sp Sr tip La)(hb:Bl w w'){bx:Nat}(hx:bx=w.heap.size){y:Ac}(hY:dI w' bx y):aN w0 w' r bb cb mr bt mb mg bm rb [(bx,dk y,39)] Mt Mr Sp Sr tip La:=h.put hb (Nat.le_of_eq hx.symm) hY (by decide) (by decide)
theorem aN.act{y:Ac}(h:aN w0 w r bb cb mr bt mb mg bm rb [(bx,dk y,39)] Mt Mr Sp Sr tip La):dI w bx y:=h.has (p:=(bx,dk y,39)) (List.mem_singleton.2 rfl)
theorem aN.b0(h:aN w0 w r bb cb mr bt mb mg bm rb x Mt Mr Sp Sr tip La):w.cell? ⟨bb,0,none⟩=some (af cb):=by obtain⟨hf,ag,cur,h1,h2⟩:=h;exact Has.cell (h2.has .bb) 0
theorem aN.b1(h:aN w0 w r bb cb mr bt mb mg bm rb x Mt Mr Sp Sr tip La):w.cell? ⟨bb,1,none⟩=some (af mr):=by obtain⟨hf,ag,cur,h1,h2⟩:=h;exact Has.cell (h2.has .bb) 1
theorem aN.c0(h:aN w0 w r bb cb mr bt mb mg bm rb x Mt Mr Sp Sr tip La):w.cell? ⟨cb,0,none⟩=some (af bt):=by obtain⟨hf,ag,cur,h1,h2⟩:=h;exact Has.cell (h2.has .cb) 0
theorem aN.c1(h:aN w0 w r bb cb mr bt mb mg bm rb x Mt Mr Sp Sr tip La):w.cell? ⟨cb,1,none⟩=some (af mb):=by obtain⟨hf,ag,cur,h1,h2⟩:=h;exact Has.cell (h2.has .cb) 1
theorem aN.c2(h:aN w0 w r bb cb mr bt mb mg bm rb x Mt Mr Sp Sr tip La):w.cell? ⟨cb,2,none⟩=some (i_ tip):=by obtain⟨hf,ag,cur,h1,h2⟩:=h;exact Has.cell (h2.has .cb) 2
theorem aN.m0(h:aN w0 w r bb cb mr bt mb mg bm rb x Mt Mr Sp Sr tip La):w.cell? ⟨mr,0,none⟩=some (af bm):=by obtain⟨hf,ag,cur,h1,h2⟩:=h;exact Has.cell (h2.has .mr) 0
theorem aN.m1(h:aN w0 w r bb cb mr bt mb mg bm rb x Mt Mr Sp Sr tip La):w.cell? ⟨mr,1,none⟩=some (af rb):=by obtain⟨hf,ag,cur,h1,h2⟩:=h;exact Has.cell (h2.has .mr) 1
theorem aN.row(h:aN w0 w r bb cb mr bt mb mg bm rb x Mt Mr Sp Sr tip La):∃ag c,La.length<=c/\ag<w.heap.size/\∀w',Bl w w'->w'.cell? ⟨mr,2,none⟩=some (.slice (aX ag) La.length c)/\∀(k:Nat)(z:Int),La[k]?=some z->w'.cell? ⟨ag,k,none⟩=some (i_ z):=by obtain⟨hf,ag,cur,h1,h2⟩:=h;refine⟨ag,cur.size,h1.1,(h2.has .ag).lt,fun w' hb=>?_⟩;have h3:=h2.below hb;exact⟨Has.cell (h3.has .mr) 2,fun k z hk=>by rw[Has.cell (h3.has .ag) k];exact h1.2 k z hk⟩
theorem aN.core(h:aN w0 w r bb cb mr bt mb mg bm rb x Mt Mr Sp Sr tip La):∃X,Core w0 w r bt mb mg bm rb X Mt Mr Sp Sr:=by obtain⟨hf,ag,cur,h1,h2⟩:=h;exact⟨_,h2⟩
theorem aN.lift{Mt' Mr':List aq}{Sp' Sr':Mk.St}{P:Program}{f:FuncId}{args:Array Value}{v:Value}(h:aN w0 w r bb cb mr bt mb mg bm rb x Mt Mr Sp Sr tip La)(k:∀X,Core w0 w r bt mb mg bm rb X Mt Mr Sp Sr->Calls P f args w fun e w'=>e=.returned v/\Core w0 w' r bt mb mg bm rb X Mt' Mr' Sp' Sr'):Calls P f args w fun e w'=>e=.returned v/\aN w0 w' r bb cb mr bt mb mg bm rb x Mt' Mr' Sp' Sr' tip La:=by obtain⟨hf,ag,cur,h1,h2⟩:=h;exact(k _ h2).mono fun e w' h3=>⟨h3.1,hf,ag,cur,h1,h3.2⟩
theorem np.uniq(hf:CK x)(h:Core w0 w r bt mb mg bm rb (np bb cb mr bt mb bm rb x tip ag n cur) Mt Mr Sp Sr):bb≠cb/\mr≠cb/\ag≠cb/\bb≠mr/\ag≠mr/\∀p∈x,p.1≠cb/\p.1≠mr:=by have b:=h.has .bb;have c:=h.has .cb;have m:=h.has .mr;have a:=h.has .ag;exact⟨cC b c (by decide),cC m c (by decide),cC a c (by decide),cC b m (by decide),cC a m (by decide),fun p hp=>⟨cC (h.has (.act p hp)) c (hf p hp).1,cC (h.has (.act p hp)) m (hf p hp).2⟩⟩
theorem aN.Vd(h:aN w0 w r bb cb mr bt mb mg bm rb x Mt Mr Sp Sr tip La)(t2:Nat):aN w0 (w.setCell ⟨cb,2,none⟩ (i_ t2)) r bb cb mr bt mb mg bm rb x Mt Mr Sp Sr t2 La:=by
 obtain⟨hf,ag,cur,h1,h2⟩:=h;obtain⟨q1,q2,q3,_,_,q6⟩:=np.uniq hf h2;refine⟨hf,ag,cur,h1,h2.wrote .cb (Kp.gb (gv w cb 2 _) (fun k hk=>(Option.some.inj hk).symm)) (cs':=Lt bt mb t2) (Has.set (i:=2) (h2.has .cb) _) fun i d U hi=>?_⟩;cases hi with
 | bb=>exact .inr ⟨q1,.bb⟩
 | cb=>exact .inl ⟨rfl,rfl,rfl⟩
 | mr=>exact .inr ⟨q2,.mr⟩
 | ag=>exact .inr ⟨q3,.ag⟩
 | act p hp=>exact .inr ⟨(q6 p hp).1,.act p hp⟩
theorem aN.R1(h:aN w0 w r bb cb mr bt mb mg bm rb x Mt Mr Sp Sr tip La)(hb:Bl w w'){a2:Nat}{S6:Array Value}{L2:List Int}(h2:w.heap.size<=a2)(h3:Has w' a2 S6 3)(h4:xO L2 S6):aN w0 (w'.setCell ⟨mr,2,none⟩ (.slice (aX a2) L2.length S6.size)) r bb cb mr bt mb mg bm rb x Mt Mr Sp Sr tip L2:=by
 obtain⟨hf,ag,cur,h1,hC⟩:=h;have hA:Core w0 w' r bt mb mg bm rb (fun i cs T=>np bb cb mr bt mb bm rb x tip ag La.length cur i cs T\/(i=a2/\cs=S6/\T=3)) Mt Mr Sp Sr:=hC.turn hb fun i cs T hi=>hi.imp id fun⟨e1,e2,e3⟩=>by subst e1 e2 e3;exact⟨h2,h3⟩
 obtain⟨q1,q2,q3,q4,q5,q6⟩:=np.uniq hf hC;refine⟨hf,a2,S6,h4,hA.wrote (.inl .mr) (Kp.gb (gv w' mr 2 _) (fun k hk=>(Option.some.inj hk).symm)) (cs':=IE bm rb (.slice (aX a2) L2.length S6.size)) (Has.set (i:=2) (hA.has (.inl .mr)) _) fun i d U hi=>?_⟩;cases hi with
 | bb=>exact .inr ⟨q4,.inl .bb⟩
 | cb=>exact .inr ⟨q2.symm,.inl .cb⟩
 | mr=>exact .inl ⟨rfl,rfl,rfl⟩
 | ag=>exact .inr ⟨cC h3 (hA.has (.inl .mr)) (by decide),.inr ⟨rfl,rfl,rfl⟩⟩
 | act p hp=>exact .inr ⟨(q6 p hp).2,.inl (.act p hp)⟩
theorem aN.Ve(h:aN w0 w r bb cb mr bt mb mg bm rb x Mt Mr Sp Sr tip La){n c:Nat}(hn:n<=La.length)(hc:w.cell? ⟨mr,2,none⟩=some (.slice (aX ag) La.length c)):aN w0 (w.setCell ⟨mr,2,none⟩ (.slice (aX ag) n c)) r bb cb mr bt mb mg bm rb x Mt Mr Sp Sr tip (La.take n):=by
 obtain⟨hf,a2,cur,h1,hC⟩:=h;have h2:=Has.cell (hC.has .mr) 2;rw[hc]at h2;cases h2;obtain⟨q1,q2,q3,q4,q5,q6⟩:=np.uniq hf hC;have hl:(La.take n).length=n:=by rw[List.length_take];omega
 refine⟨hf,ag,cur,⟨by have:=h1.1;omega,fun k z hk=>h1.2 k z ?_⟩,?_⟩;rw[List.getElem?_take]at hk;split at hk;exact hk;cases hk;rw[hl];refine hC.wrote .mr (Kp.gb (gv w mr 2 _) (fun k hk=>(Option.some.inj hk).symm)) (cs':=IE bm rb (.slice (aX ag) n cur.size)) (Has.set (i:=2) (hC.has .mr) _) fun i d U hi=>?_
 cases hi with
 | bb=>exact .inr ⟨q4,.bb⟩
 | cb=>exact .inr ⟨q2.symm,.cb⟩
 | mr=>exact .inl ⟨rfl,rfl,rfl⟩
 | ag=>exact .inr ⟨q5,.ag⟩
 | act p hp=>exact .inr ⟨(q6 p hp).2,.act p hp⟩
theorem aN.free(h:aN w0 w r bb cb mr bt mb mg bm rb x Mt Mr Sp Sr tip La):w.frozen? ⟨cb,2,none⟩=false/\w.frozen? ⟨mr,2,none⟩=false:=by obtain⟨hf,ag,cur,h1,h2⟩:=h;exact⟨Has.free (h2.has .cb) 2,Has.free (h2.has .mr) 2⟩
theorem aN.rd(h:aN w0 w r bb cb mr bt mb mg bm rb x Mt Mr Sp Sr tip La)(hM:Ok r Mt)(hl:Mt.length<=1000):gQ w (aX mb) (aX bt) r Mt Sp:=by obtain⟨X,h⟩:=h.core;exact h.rd hM hl
theorem aN.rf(h:aN w0 w r bb cb mr bt mb mg bm rb x Mt Mr Sp Sr tip La):∃Fm,fP w w0.heap.size Fm bm r Mr:=by obtain⟨X,h⟩:=h.core;exact h.rf
theorem aN.rk(h:aN w0 w r bb cb mr bt mb mg bm rb x Mt Mr Sp Sr tip La):dR w rb Sr:=by obtain⟨X,h⟩:=h.core;exact h.rk
theorem aN.tr(h:aN w0 w r bb cb mr bt mb mg bm rb x Mt Mr Sp Sr tip La):∃F ls,gz w F bt r Mt ls/\ls.length=Mt.length:=by obtain⟨_,ag,cur,_,⟨F,Fm,⟨⟨b,ls,e,h1,h2⟩|⟨e,_⟩,_⟩,_⟩,_⟩:=h;cases e;exact⟨F,ls,h1,h2⟩;cases e
theorem Ht(h:aN w0 w r bb cb mr bt mb mg bm rb x Mt Mr Sp Sr tip La){i:Nat}{d:aq}(he:Mt[i]?=some d):ak 29 #[af bt,i_ i] w (.tuple #[.agg (bU (bs r d)),.bool true]):=by obtain⟨F,ls,h1,h2⟩:=h.tr;exact fy h1 he _ rfl
theorem G4(h:aN w0 w r bb cb mr bt mb mg bm rb x Mt Mr Sp Sr tip La)(hM:Ok r Mt)(hl:Mt.length<=900)(a b:Int):ak 35 #[af bt,i_ a,i_ b] w (.bool (pb (cG Mt a b))):=by obtain⟨X,h⟩:=h.core;exact OC h hM hl a b
theorem OH(h:aN w0 w r bb cb mr bt mb mg bm rb x Mt Mr Sp Sr tip La)(hM:Ok r Mt)(hl:Mt.length<=900)(i t z:Int)(hz:dO Mt i t z):ak 69 #[af bt,i_ i,i_ t] w (i_ z):=by obtain⟨F,ls,h1,h2⟩:=h.tr;exact Cq h1 hM hl i t z (fun hi=>by have:=hi.2;omega) hz
theorem tH(h:aN w0 w r bb cb mr bt mb mg bm rb x Mt Mr Sp Sr tip La)(hM:Ok r Mt)(hl:Mt.length<=900){i:Nat}{e:aq}(he:Mt[i]?=some e){L:List Int}(hL:Row Mt (i:Int) L):aK 55 #[af bt,i_ i] w fun x w'=>∃g,x=.returned (.slice (aX g) e.hs.length e.hs.length)/\w.heap.size<=g/\Has w' g ((L.drop 1).map (Value.int .i64)).toArray 3/\Bl w w':=by obtain⟨F,ls,h1,h2⟩:=h.tr;exact xX h1 hM hl i e he L hL
end
variable{w:World}{cb b:Nat}
theorem sM(h:w.cell? ⟨cb,0,none⟩=some (af b)):ak 25 #[af cb] w (af b):=by
 have hB:=Below.refl w.heap.size w;go_enter Tryz.func25,Tryz.ntmps25;go_wp2_with fail
 go_ret;exact⟨rfl,hB⟩
theorem zm(w:World):ak 25 #[.pointer none] w (.pointer none):=by
 have hB:=Below.refl w.heap.size w;go_enter Tryz.func25,Tryz.ntmps25;go_wp2_with fail
 go_ret;exact⟨rfl,hB⟩
theorem EL(h:w.cell? ⟨cb,1,none⟩=some (af b)):ak 26 #[af cb] w (af b):=by
 have hB:=Below.refl w.heap.size w;go_enter Tryz.func26,Tryz.ntmps26;go_wp2_with fail
 go_ret;exact⟨rfl,hB⟩
theorem mZ(w:World):ak 26 #[.pointer none] w (.pointer none):=by
 have hB:=Below.refl w.heap.size w;go_enter Tryz.func26,Tryz.ntmps26;go_wp2_with fail
 go_ret;exact⟨rfl,hB⟩
theorem ll(h:w.cell? ⟨cb,2,none⟩=some (i_ b)):ak 18 #[af cb] w (i_ b):=by
 have hB:=Below.refl w.heap.size w;go_enter Tryz.func18,Tryz.ntmps18;go_wp2_with fail
 go_ret;exact⟨rfl,hB⟩
theorem yM(w:World):ak 18 #[.pointer none] w (i_ (-1)):=by
 have hB:=Below.refl w.heap.size w;go_enter Tryz.func18,Tryz.ntmps18;go_wp2_with fail
 go_ret;exact⟨rfl,hB⟩
theorem AQ(cq mq:Option Addr)(z:Int)(KM:aO w 26 #[.pointer cq] (.pointer mq))(KB:aO w 52 #[.pointer mq] (i_ z)):ak 19 #[.pointer cq] w (i_ z):=by
 have hB:=Below.refl w.heap.size w;go_enter Tryz.func19,Tryz.ntmps19;go_wp2_with fail
 refine ar (KM.out _ hB) fun v1 hb=>?_;replace hB:=ah hB hb;clear hb;go_wp2_with fail
 refine ar (KB.out _ hB) fun v2 hb=>?_;replace hB:=ah hB hb;clear hb;go_wp2_with fail
 go_ret;exact⟨rfl,hB⟩
theorem xK(cq mq:Option Addr)(z:Int)(KM:aO w 26 #[.pointer cq] (.pointer mq))(KB:aO w 53 #[.pointer mq] (i_ z)):ak 20 #[.pointer cq] w (i_ z):=by
 have hB:=Below.refl w.heap.size w;go_enter Tryz.func20,Tryz.ntmps20;go_wp2_with fail
 refine ar (KM.out _ hB) fun v1 hb=>?_;replace hB:=ah hB hb;clear hb;go_wp2_with fail
 refine ar (KB.out _ hB) fun v2 hb=>?_;replace hB:=ah hB hb;clear hb;go_wp2_with fail
 go_ret;exact⟨rfl,hB⟩
theorem G3(cq mq:Option Addr)(J:World->Prop)(z:Int)(at_:Int)(right:Bool)(KM:aO w 26 #[.pointer cq] (.pointer mq))(KB:j1 w fun w'=>aK 49 #[.pointer mq,i_ at_,.bool right] w' fun e w''=>e=.returned (i_ z)/\J w''):aK 15 #[.pointer cq,i_ at_,.bool right] w fun e w'=>e=.returned (i_ z)/\J w':=by
 have hB:=Below.refl w.heap.size w;go_enter Tryz.func15,Tryz.ntmps15;go_wp2_with fail
 refine ar (KM.out _ hB) fun v1 hb=>?_;replace hB:=ah hB hb;clear hb;go_wp2_with fail
 refine ar (KB.out _ hB) fun v2 hJ=>?_;have HJ:=h_ hJ;clear hJ;go_wp2_with fail
 go_ret;exact⟨rfl,HJ.out⟩
theorem Jg(cq mq:Option Addr)(J:World->Prop)(z:Int)(at_:Int)(KM:aO w 26 #[.pointer cq] (.pointer mq))(KB:j1 w fun w'=>aK 50 #[.pointer mq,i_ at_] w' fun e w''=>e=.returned (i_ z)/\J w''):aK 16 #[.pointer cq,i_ at_] w fun e w'=>e=.returned (i_ z)/\J w':=by
 have hB:=Below.refl w.heap.size w;go_enter Tryz.func16,Tryz.ntmps16;go_wp2_with fail
 refine ar (KM.out _ hB) fun v1 hb=>?_;replace hB:=ah hB hb;clear hb;go_wp2_with fail
 refine ar (KB.out _ hB) fun v2 hJ=>?_;have HJ:=h_ hJ;clear hJ;go_wp2_with fail
 go_ret;exact⟨rfl,HJ.out⟩
theorem Eg(cq mq:Option Addr)(J:World->Prop)(z:Int)(at_:Int)(KM:aO w 26 #[.pointer cq] (.pointer mq))(KB:j1 w fun w'=>aK 51 #[.pointer mq,i_ at_] w' fun e w''=>e=.returned (i_ z)/\J w''):aK 17 #[.pointer cq,i_ at_] w fun e w'=>e=.returned (i_ z)/\J w':=by
 have hB:=Below.refl w.heap.size w;go_enter Tryz.func17,Tryz.ntmps17;go_wp2_with fail
 refine ar (KM.out _ hB) fun v1 hb=>?_;replace hB:=ah hB hb;clear hb;go_wp2_with fail
 refine ar (KB.out _ hB) fun v2 hJ=>?_;have HJ:=h_ hJ;clear hJ;go_wp2_with fail
 go_ret;exact⟨rfl,HJ.out⟩
def QJ(w:World)(bH:Nat)(y:Hd)(J:World->Prop)(b1 _b2:Bool)(w':World):Prop:=if b1 then J w' else Bl w w'/\aG w' bH y
theorem o_{w:World}(cq tq:Option Addr)(J:World->Prop)(z1 z2 z3 now:Int)(y:Hd)(hy:y.ok)(KM:aO w 25 #[.pointer cq] (.pointer tq))(KB:Hid (∀w',Below w.heap.size w w'->Calls Tryz.prog 48 #[.pointer tq,.agg (aD y),.int .i64 now] w' fun e w''=>e=.returned (.tuple #[.int .i64 z1,.int .i64 z2,.int .i64 z3])/\J w'')):Calls Tryz.prog 14 #[.pointer cq,.agg (aD y),.int .i64 now] w fun e w'=>e=.returned (.tuple #[.int .i64 z1,.int .i64 z2,.int .i64 z3])/\J w':=by
 have hz:=ek hy;go_enter Tryz.func14,Tryz.ntmps14;go_upto_region 1 with fail
 generalize hw0:World.alloc _ _=v0;have hB:Below w.heap.size w v0:=de hw0;have hH:aG v0 w.heap.size y:=by rw[<-hw0];exact Has.new _ _
 clear hw0;obtain⟨bH,Q1⟩:∃x,x=w.heap.size:=⟨_,rfl⟩;rw[<-Q1]at hH|-;clear Q1;go_wp2_with fail
 refine dg (QJ w bH y J) 4 99 [1,2,4] [.pointer cq,.pointer tq,.agg (aD y),.int .i64 now,.tuple #[.int .i64 z1,.int .i64 z2,.int .i64 z3],.int .i64 z1,.int .i64 z2,.int .i64 z3,.int .i64 z1,.int .i64 z2,.int .i64 z3] ⟨hB.drew,hH.on (bg.drew)⟩ ⟨fun b1 b2 w' f1 _ hC=>?_,fun b1 b2 w' f1 _ hC=>?_,fun b1 b2 w' f1 _ hC=>?_,trivial⟩ ?_
 ·obtain rfl:=f1.no (by kernel_rfl);exact .call ((KM.out _ hC.1).mono fun e w'' h=>⟨h.1,ah hC.1 h.2,hC.2.on h.2⟩)
 ·obtain rfl:=f1.no (by kernel_rfl);exact .val (lT rfl rfl hC.2.range hz) hC
 ·obtain rfl:=f1.no (by kernel_rfl);exact .call (KB.out _ hC.1)
 ·intro w' hJ;have HJ:Hid (J w'):=h_ hJ;clear hJ KM KB hB hH;simp only[dj,List.set_cons_zero,List.set_cons_succ,List.tail_cons,List.headD_cons];go_wp2_with fail
  go_ret3
  exact⟨rfl,HJ.out⟩
section
variable{w:World}{p:Addr}{q a:Option Addr}{n c:Nat}{z:Int}{b:Bool}{u:Value}
theorem vh(h:w.cell? p=some (.pointer q)):(loadVar 51 p).run Tryz.prog w=.ok (.pointer q) w:=by go_simp
theorem f_(h:w.cell? p=some (.pointer q)):(loadVar 63 p).run Tryz.prog w=.ok (.pointer q) w:=by go_simp
theorem iQ(h:w.cell? p=some (.pointer q)):(loadVar 64 p).run Tryz.prog w=.ok (.pointer q) w:=by go_simp
theorem eM(h:w.cell? p=some (.pointer q)):(loadVar 41 p).run Tryz.prog w=.ok (.pointer q) w:=by go_simp
theorem dh(h:w.cell? p=some (.pointer q)):(loadVar 56 p).run Tryz.prog w=.ok (.pointer q) w:=by go_simp
theorem fQ(h:w.cell? p=some (i_ z)):(loadVar 3 p).run Tryz.prog w=.ok (i_ z) w:=by go_simp
theorem EM(h:w.cell? p=some (.bool b)):(loadVar 4 p).run Tryz.prog w=.ok (.bool b) w:=by go_simp
theorem nX(h:w.cell? p=some (.slice a n c)):(loadVar 49 p).run Tryz.prog w=.ok (.slice a n c) w:=by go_simp
theorem Mn(hf:w.frozen? p=false)(hc:w.cell? p=some u):(storeVar 3 p (i_ z)).run Tryz.prog w=.ok () (w.setCell p (i_ z)):=by go_simp
theorem GQ(hf:w.frozen? p=false)(hc:w.cell? p=some u):(storeVar 49 p (.slice a n c)).run Tryz.prog w=.ok () (w.setCell p (.slice a n c)):=by go_simp
end
section
variable{ρ:Operand->Value}{o:Oper}{w w':World}{E:En}{g:Nat}
theorem P3(ho:o.op=.alloc 60):(execOp ρ o).run Tryz.prog w=.ok (.value (.pointer (some ⟨w.heap.size,0,none⟩))) (w.alloc (.cells Tryz.zeroCells60 60)):=by unfold execOp;simp only[ho];kernel_rfl
variable{x y:Operand}{a b:Int}
theorem fz{g:Bool}(ho:o.op=.binOp .eql 3 x y 3)(hx:ρ x=i_ a)(hy:ρ y=i_ b)(h:(a==b)=g):(execOp ρ o).run Tryz.prog w=.ok (.value (.bool g)) w:=by unfold execOp;subst h;simp only[ho,hx,hy];kernel_rfl
theorem sU{g:Bool}(ho:o.op=.binOp .neq 3 x y 3)(hx:ρ x=i_ a)(hy:ρ y=i_ b)(h:(a != b)=g):(execOp ρ o).run Tryz.prog w=.ok (.value (.bool g)) w:=by unfold execOp;subst h;simp only[ho,hx,hy];kernel_rfl
theorem y7{a b g:Bool}(ho:o.op=.binOp .eql 4 x y 4)(hx:ρ x=.bool a)(hy:ρ y=.bool b)(h:(a==b)=g):(execOp ρ o).run Tryz.prog w=.ok (.value (.bool g)) w:=by unfold execOp;subst h;simp only[ho,hx,hy];kernel_rfl
theorem B3{g:Bool}(ho:o.op=.binOp .leq 3 x y 3)(hx:ρ x=i_ a)(hy:ρ y=i_ b)(h:decide (a<=b)=g):(execOp ρ o).run Tryz.prog w=.ok (.value (.bool g)) w:=by unfold execOp;subst h;simp only[ho,hx,hy];kernel_rfl
theorem Ee{T:TypeId}{v:Value}(hop:o.op=.buildSlice T 0 #[])(h:(Instr.buildSlice T 0 #[]).run Tryz.prog w=.ok v w'):(execOp ρ o).run Tryz.prog w=.ok (.value v) w':=Kr hop (by simpa using h)
theorem ff{P:Prop}{b:Bool}(h:b=false)(h2:b=true):P:=by rw[h]at h2;cases h2
theorem ID(g n c k:Nat)(hk:k<=n)(hc:n<=c)(w:World):(Instr.sliceAt 49 (.slice (aX g) n c) none (some (i_ k)) none).run Tryz.prog w=.ok (.slice (aX g) k c) w:=by
 go_simp
 intro h;omega
theorem D0{n:Nat}(h0:0<n)(h:n<=1000000):IntKind.i64.wrap ((n:Int)-1)=((n-1:Nat):Int):=by rw[IntKind.wrap_i64];omega
def ni(w:World)(E:En)(b1 b2:Bool)(g:Nat)(w':World):Prop:=Bl w w'/\(b1=true->w.heap.size<=g/\br w' g (bif b2 then E else iS))
variable{b1 b2:Bool}
theorem ni.start(h:Bl w w'):ni w E false false g w':=⟨h,fun h=>by cases h⟩
theorem ni.read{w'':World}(h:ni w E b1 b2 g w')(hb:Bl w' w''):ni w E b1 b2 g w'':=⟨ah h.1 hb,fun h1=>⟨(h.2 h1).1,(h.2 h1).2.on hb⟩⟩
theorem ni.new(h:ni w E b1 b2 g w')(h2:b2=false):ni w E true b2 w'.heap.size (w'.alloc (.cells Tryz.zeroCells60 60)):=by subst h2;exact⟨h.1.alloc h.1.size _,fun _=>⟨h.1.size,gS w'⟩⟩
theorem ni.put(h:ni w E b1 b2 g w')(h1:b1=true):ni w E b1 true g (w'.setRow g (bU E)):=by obtain⟨h3,h4⟩:=h.2 h1;exact⟨below_setRow h.1 h3 _,fun _=>⟨h3,Has.row h4 _⟩⟩
theorem ni.has(h:ni w E true b2 g w'):Has w' g (bU (bif b2 then E else iS)) 60:=(h.2 rfl).2
end
structure Lu (w:World) (cb bt tip:Nat) (E:En):Prop where
 c0:∀w',Bl w w'->w'.cell? ⟨cb,0,none⟩=some (af bt)
 c2:∀w',Bl w w'->w'.cell? ⟨cb,2,none⟩=some (i_ tip)/\w'.frozen? ⟨cb,2,none⟩=false
 WS:∀w',Bl w w'->ak 18 #[af cb] w' (i_ tip)
 at_:∀w',Bl w w'->ak 29 #[af bt,i_ tip] w' (.tuple #[.agg (bU E),.bool true])
variable{w w0 w':World}{cb bt tip bb mr mb mg bm rb ag n c B:Nat}{E:En}
theorem xF(H:Hid (Lu w cb bt tip E)):ak 54 #[af cb,i_ tip] w (.bool false):=by
 have h0:((tip:Int)==(tip:Int))=true:=by simp
 have hB:=Below.refl w.heap.size w;go_enter Tryz.func54,Tryz.ntmps54;go_wp2_with fail
 refine ar (H.out.WS _ hB) fun v1 hb=>?_;replace hB:=ah hB hb;clear hb;go_wp2_with fail
 go_ret;exact⟨rfl,hB⟩
theorem xQ(H:Hid (Lu w cb bt tip E))(hE:E.ok)(t:Nat)(h0:((tip:Int)==(t:Int))=false)(on:Bool)(ht:Nat)(hh:Hid (E.ht=(ht:Int)))(z:Nat)(hz:Hid (on=false->E.up=(z:Int)))(KW:aO w 35 #[af bt,i_ tip,i_ t] (.bool on))(KA:Hid (∀w',on=true->Bl w w'->ak 69 #[af bt,i_ t,i_ (IntKind.i64.wrap ((ht:Int)+1))] w' (i_ z))):aK 54 #[af cb,i_ t] w fun e w'=>e=.returned (.bool true)/\∃w1,Bl w w1/\w'=w1.setCell ⟨cb,2,none⟩ (i_ z):=by
 have ze:=dc hE;have z0:=dc di;have hB:=Below.refl w.heap.size w;go_enter Tryz.func54,Tryz.ntmps54;go_wp2_with fail
 refine ar (H.out.WS _ hB) fun v1 hb=>?_;replace hB:=ah hB hb;clear hb;go_wp2_with fail
 refine BP (fun b1 b2 g w'=>ni w E b1 b2 g w') 12 13 [3,7,8,12,13] (fun g=>[af cb,af cb,af cb,af bt,af cb,af cb,.pointer (some ⟨cb,2,none⟩),i_ tip,.tuple #[.agg (bU E),.bool true],.tuple #[.agg (bU E),.bool true],.agg (bU E),.bool true,af g,undef,.bool true]) 0 (ni.start hB.drew)
  ⟨fun b1 b2 g w' _ _ hC=>.val (cK rfl rfl (vh (H.out.c0 _ hC.1))) hC,fun b1 b2 g w' _ _ hC=>.val (cK rfl rfl (fQ (H.out.c2 _ hC.1).1)) hC,fun b1 b2 g w' _ _ hC=>.call ((H.out.at_ _ hC.1).mono fun e w'' h=>⟨h.1,hC.read h.2⟩),fun b1 b2 g w' _ f2 hC=>.new w'.heap.size [12] rfl (P3 rfl) (hC.new (f2.no (by kernel_rfl))),fun b1 b2 g w' f1 _ hC=>?_,trivial⟩ ?_
 ·obtain rfl:=f1.yes (by kernel_rfl);exact .store rfl (Jz rfl rfl rfl hC.has (by cases b2<;>assumption) ze) (hC.put rfl)
 intro g v2 hC;have hB:=hC.1;have hg:br v2 g E:=(hC.2 rfl).2;clear hC;simp only[dj,List.set_cons_zero,List.set_cons_succ,List.tail_cons,List.headD_cons];go_wp2_with fail
 refine dg (fun _ _ w'=>Bl w w'/\br w' g E) 99 99 [3,7,9] [af cb,af cb,af cb,af bt,af cb,af cb,.pointer (some ⟨cb,2,none⟩),i_ tip,i_ t,.bool on] ⟨hB.drew,hg.on (bg.drew)⟩
  ⟨fun _ _ w' _ _ hC=>.val (cK rfl rfl (vh (H.out.c0 _ hC.1))) hC,fun _ _ w' _ _ hC=>.val (cK rfl rfl (fQ (H.out.c2 _ hC.1).1)) hC,fun _ _ w' _ _ hC=>.call ((KW.out _ hC.1).mono fun e w'' h=>⟨h.1,ah hC.1 h.2,hC.2.on h.2⟩),trivial⟩ ?_
 rintro v3 ⟨hB,hg⟩;simp only[dj,List.set_cons_zero,List.set_cons_succ,List.tail_cons,List.headD_cons];cases on
 ·have c1:=br.up hg hE (h_ (hz.out rfl));obtain⟨c2,c3⟩:=H.out.c2 _ hB;clear H KW KA hz hh hg;go_wp2_with fail
  go_ret;exact⟨rfl,v3,hB,rfl⟩
 ·have c1:=br.ht hg hE hh;clear hz hh;go_wp2_with fail
  refine dg (fun b1 _ w'=>∃w1,Bl w w1/\br w1 g E/\w1.cell? ⟨g,101,none⟩=some (i_ ht)/\w'=bif b1 then w1.setCell ⟨cb,2,none⟩ (i_ z)else w1) 12 99 [4,7,9,12] [af cb,af cb,af cb,af cb,af bt,i_ t,.pointer (some ⟨g,101,none⟩),i_ ht,i_ (IntKind.i64.wrap ((ht:Int)+1)),i_ z,af cb,.pointer (some ⟨cb,2,none⟩),undef] ⟨_,hB.drew,hg.on (bg.drew),bg.drew.cell (block_lt_of_cell c1) |>.trans c1,rfl⟩ ⟨fun b1 _ w' f1 _ hC=>?_,fun b1 _ w' f1 _ hC=>?_,fun b1 _ w' f1 _ hC=>?_,fun b1 _ w' f1 _ hC=>?_,trivial⟩ ?_
  ·obtain rfl:=f1.no (by kernel_rfl);obtain⟨w1,h1,h2,h3,rfl⟩:=hC;exact .val (cK rfl rfl (vh (H.out.c0 _ h1))) ⟨_,h1,h2,h3,rfl⟩
  ·obtain rfl:=f1.no (by kernel_rfl);obtain⟨w1,h1,h2,h3,rfl⟩:=hC;exact .val (cK rfl rfl (fQ h3)) ⟨_,h1,h2,h3,rfl⟩
  ·obtain rfl:=f1.no (by kernel_rfl);obtain⟨w1,h1,h2,h3,rfl⟩:=hC;exact .call ((KA.out _ trivial h1).mono fun e w'' h=>⟨h.1,w'',ah h1 h.2,h2.on h.2,(h.2.cell (block_lt_of_cell h3)).trans h3,rfl⟩)
  ·obtain rfl:=f1.no (by kernel_rfl);obtain⟨w1,h1,h2,h3,rfl⟩:=hC;exact .store rfl (lZ rfl rfl rfl (Mn (H.out.c2 _ h1).2 (H.out.c2 _ h1).1)) ⟨_,h1,h2,h3,rfl⟩
  ·rintro v4 ⟨w1,h1,_,_,rfl⟩;have H1:=h_ h1;clear h1 H KW KA hg c1 hB;simp only[dj,List.set_cons_zero,List.set_cons_succ,List.tail_cons,List.headD_cons];go_wp2_with fail
   go_ret;exact⟨rfl,w1,H1.out,rfl⟩
variable{r:Ru}{x:vF}{Mt Mr M:List aq}{Sp Sr S:Mk.St}{La L K:List Int}
theorem aN.WT(h:aN w0 w r bb cb mr bt mb mg bm rb x Mt Mr Sp Sr tip La){i:Nat}{e:aq}(he:Mt[i]?=some e):(bs r e).ok:=by obtain⟨F,ls,h1,_⟩:=h.tr;obtain⟨_,_,_,h2⟩:=h1.parts;exact jS h2 he
theorem yv(h:aN w0 w r bb cb mr bt mb mg bm rb x Mt Mr Sp Sr tip La)(hM:Ok r Mt)(hl:Mt.length<=900){t:Nat}{L K:List Int}(hL:Row Mt (tip:Int) L)(hK:Row Mt (t:Int) K):aK 54 #[af cb,i_ t] w fun e w'=>e=.returned (.bool (decide (0<Ch.iq K L)))/\∃t2:Nat,Row Mt (t2:Int) (Ch.iH K L)/\Ch.iq K (Ch.iH K L)=Ch.iq K L-1/\aN w0 w' r bb cb mr bt mb mg bm rb x Mt Mr Sp Sr t2 La:=by
 obtain⟨e,_,he,_,_⟩:=Ch.fV hL;have H:Hid (Lu w cb bt tip (bs r e)):=h_ ⟨fun w' hb=>(h.below hb).c0,fun w' hb=>⟨(h.below hb).c2,(h.below hb).free.1⟩,fun w' hb=>ll (h.below hb).c2,fun w' hb=>Ht (h.below hb) he⟩;by_cases S7:L=K;obtain rfl:=(Ch.BZ hL hK).1 S7;subst S7;refine ar (xF H) fun w' hb=>?_;rw[Ch.sv,Ch.uf rfl,Ch.sv];exact⟨rfl,tip,hL,rfl,h.below hb⟩;have hn:=Ch.wh S7 hL.last.1
 have h0:((tip:Int)==(t:Int))=false:=by
  rw[beq_eq_false_iff_ne];intro e;exact S7 ((Ch.BZ hL hK).2 (by omega))
 rw[hn,Nat.add_sub_cancel,decide_eq_true (Nat.succ_pos _)];have hlen:=hL.len hM he
 have hw:IntKind.i64.wrap (((e.hs.length:Nat):Int)+1)=((e.hs.length+1:Nat):Int):=by
  have:=Mk.j9 hM hL;rw[IntKind.wrap_i64];omega
 have KW:∀on,pb (cG Mt (tip:Int) (t:Int))=on->aO w 35 #[af bt,i_ tip,i_ t] (.bool on):=fun on hon=>h_ fun w' hb=>by
  have:=G4 (h.below hb) hM hl (tip:Int) (t:Int);rwa[hon]at this
 have fin:∀(z:Nat),Row Mt (z:Int) (Ch.iH K L)->∀w',(∃w1,Bl w w1/\w'=w1.setCell ⟨cb,2,none⟩ (i_ z))->∃t2:Nat,Row Mt (t2:Int) (Ch.iH K L)/\Ch.iq K (Ch.iH K L)=Ch.iq K (Ch.iH K L)/\aN w0 w' r bb cb mr bt mb mg bm rb x Mt Mr Sp Sr t2 La:=by
  rintro z hz w' ⟨w1,hb,rfl⟩;exact⟨z,hz,rfl,(h.below hb).Vd z⟩
 by_cases hp:L <+: K
 ·obtain⟨z,hz,_,hR⟩:=Ch.xk hM hK hp S7;refine(xQ H (h.WT he) t h0 true e.hs.length (h_ rfl) z (h_ fun h=>by cases h) (KW true (Mk.jn.2 ((Ch.na hL hK).2 hp))) (h_ fun w' _ hb=>?_)).mono fun e w' h=>⟨h.1,fin z hR w' h.2⟩
  obtain⟨_,_,ht,_,_⟩:=Ch.fV hK;rw[hw];exact OH (h.below hb) hM hl _ _ _ (.inl ⟨Ar.fi ht,by omega,K,hK,by rw[Int.toNat_natCast,<-hlen];exact hz⟩)
 obtain⟨z,e2,h2,hu,_,hR⟩:=Ch.Lb hM hL hK hp;rw[he]at h2;cases h2;exact(xQ H (h.WT he) t h0 false e.hs.length (h_ rfl) z (h_ fun _=>hu) (KW false (Mk.wG.2 fun ha=>hp ((Ch.na hL hK).1 ha))) (h_ fun w' h=>by cases h)).mono fun e w' h=>⟨h.1,fin z hR w' h.2⟩
theorem xm(cq:Option Addr)(t:Int)(b:Bool)(J:World->Prop)(KT:aO w 19 #[.pointer cq] (i_ t))(KW:j1 w fun w'=>aK 54 #[.pointer cq,i_ t] w' fun e w''=>e=.returned (.bool b)/\J w''):aK 21 #[.pointer cq] w fun e w'=>e=.returned (.bool b)/\J w':=by
 have hB:=Below.refl w.heap.size w;go_enter Tryz.func21,Tryz.ntmps21;go_wp2_with fail
 refine ar (KT.out _ hB) fun v1 hb=>?_;replace hB:=ah hB hb;clear hb;go_wp2_with fail
 refine ar (KW.out _ hB) fun v2 hJ=>?_;have HJ:Hid (J v2):=h_ hJ;clear hJ;go_wp2_with fail
 go_ret;exact⟨rfl,HJ.out⟩
theorem BI(cq:Option Addr)(t:Int)(KT:aO w 19 #[.pointer cq] (i_ t))(N:Nat)(hN:N<=1000)(St:World->Nat->Prop)(h0:∀w',Bl w w'->St w' N)(KW:Hid (∀w' n,St w' n->aK 54 #[.pointer cq,i_ t] w' fun e w''=>e=.returned (.bool (decide (0<n)))/\St w'' (n-1))):aK 22 #[.pointer cq] w fun e w'=>e=.returned (i_ N)/\St w' 0:=by
 have hB:=Below.refl w.heap.size w;go_enter Tryz.func22,Tryz.ntmps22;go_wp2_with fail
 refine ar (KT.out _ hB) fun v1 hb=>?_;replace hB:=ah hB hb;clear hb;have hS:=h0 _ hB;clear h0 hB KT;go_wp2_with fail
 go_loopw [4] (fun u wr=>∃k n:Nat,k+n=N/\u=i_ k/\St wr n) (fun u _=>N-(intOf u).toNat)
 case atStart=>exact⟨0,N,by omega,rfl,hS⟩
 case round=>
  clear hS;obtain⟨k,n,hk,rfl,hS⟩:=hrel;have K1:=h_ (KW.out _ n hS);clear hS;rcases Nat.eq_zero_or_pos n with rfl|hn
  ·obtain rfl:k=N:=by omega
   clear hk;go_wp2_with fail
   refine K1.out.mono ?_;rintro e v5 ⟨rfl,hS⟩;have HS:=h_ hS;clear hS K1;rw[decide_eq_false (Nat.lt_irrefl 0)];go_wp2_with fail
   go_ret;exact⟨rfl,HS.out⟩
  ·go_wp2_with fail
   refine K1.out.mono ?_;rintro e v5 ⟨rfl,hS⟩;clear K1;rw[decide_eq_true hn];go_wp2_with fail
   go_roundw
   case rel=>exact⟨k+1,n-1,by omega,by go_num,hS⟩
   case measure=>simp[intOf];omega
structure uS (w:World) (mr bm rb ag n c:Nat) (L:List Int):Prop where
 len:n=L.length
 pos:0<n
 few:n<=900
 cap:n<=c
 m0:∀w',Bl w w'->w'.cell? ⟨mr,0,none⟩=some (af bm)
 m1:∀w',Bl w w'->w'.cell? ⟨mr,1,none⟩=some (af rb)
 m2:∀w',Bl w w'->w'.cell? ⟨mr,2,none⟩=some (.slice (aX ag) n c)/\w'.frozen? ⟨mr,2,none⟩=false
 row:∀w',Bl w w'->∀(k:Nat)(z:Int),L[k]?=some z->w'.cell? ⟨ag,k,none⟩=some (i_ z)
theorem uS.on(h:uS w mr bm rb ag n c L)(hb:Bl w w'):uS w' mr bm rb ag n c L:=by
 obtain⟨h1,h2,h3,h4,h5,h6,h7,h8⟩:=h;have q:∀w2,Bl w' w2->Bl w w2:=fun w2 h=>ah hb h
 exact⟨h1,h2,h3,h4,fun w2 h=>h5 w2 (q w2 h),fun w2 h=>h6 w2 (q w2 h),fun w2 h=>h7 w2 (q w2 h),fun w2 h=>h8 w2 (q w2 h)⟩
theorem qJ(H:Hid (uS w mr bm rb ag n c L))(z:Int)(hz:Hid (L[n-1]?=some z)):ak 45 #[af mr] w (i_ z):=by
 have hw:=D0 H.out.pos (Nat.le_trans H.out.few (by decide));have hn1:n-1<n:=Nat.sub_lt H.out.pos (by decide);have hB:=Below.refl w.heap.size w;go_enter Tryz.func45,Tryz.ntmps45;go_wp2_with fail
 refine dg (fun _ _ w'=>Bl w w') 99 99 [3,7,10,11] [af mr,af mr,.pointer (some ⟨mr,2,none⟩),.slice (aX ag) n c,af mr,af mr,.pointer (some ⟨mr,2,none⟩),.slice (aX ag) n c,i_ n,i_ (IntKind.i64.wrap ((n:Int)-1)),.pointer (some ⟨ag,n-1,none⟩),i_ z,i_ z] hB.drew
  ⟨fun _ _ w' _ _ hC=>.val (cK rfl rfl (nX (H.out.m2 _ hC).1)) hC,fun _ _ w' _ _ hC=>.val (cK rfl rfl (nX (H.out.m2 _ hC).1)) hC,fun _ _ w' _ _ hC=>.val (gh rfl rfl (congrArg (Value.int .i64) hw) (oF _ _ _ _ _ hn1)) hC,fun _ _ w' _ _ hC=>.val (cK rfl rfl (fQ (H.out.row _ hC _ _ hz.out))) hC,trivial⟩ ?_
 intro v1 hB;simp only[dj,List.set_cons_zero,List.set_cons_succ,List.tail_cons,List.headD_cons];go_wp2_with fail
 go_ret;exact⟨rfl,hB⟩
variable{v:Value}{xs:List Value}
theorem Ao{B':Nat}{T:TypeId}(h:w.ownsRow B T 1 v n xs)(hb:B'<=B):w.ownsRow B' T 1 v n xs:=⟨h.1,h.2.imp id fun⟨g,cap,cur,h1,h2,h3⟩=>⟨g,cap,cur,h1,Nat.le_trans hb h2,h3⟩⟩
variable{P:Prop}
theorem va[Decidable P](h:P):Ending.returned (.bool true)=.returned (.bool (decide P)):=by rw[decide_eq_true h]
theorem nh[Decidable P](h:¬P):Ending.returned (.bool false)=.returned (.bool (decide P)):=by rw[decide_eq_false h]
theorem vP(h:w.ownsRow B 3 1 v n (K.map (Value.int .i64)))(hn:0<n):∃g c,v=.slice (aX g) n c/\n<=c/\B<=g/\g<w.heap.size/\∀(k:Nat)(z:Int),K[k]?=some z->w.cell? ⟨g,k,none⟩=some (i_ z):=by
 obtain⟨hl,⟨rfl,h0⟩|⟨g,c,cur,rfl,q1,q2,q3,q4,q5,q6⟩⟩:=h;omega
 ·refine⟨g,c,rfl,q3,q1,(Array.getElem?_eq_some_iff.1 q2).1,fun k z hk=>?_⟩;have e:(cur.toList.take (n*1))[k]?=some (Value.int .i64 z):=by rw[q6,List.getElem?_map,hk];rfl
  rw[Has.cell (show Has w g cur 3 from q2),<-Array.getElem?_toList];rw[List.getElem?_take]at e;split at e;exact e;cases e
def Rs(w:World)(mr ag n c:Nat)(L K:List Int)(w':World):Prop:=(L=K/\Bl w w')\/(L≠K/\L <+: K/\∃w1 v,Bl w w1/\w1.ownsRow w.heap.size 3 1 v (n+1) ((Ch.iH K L).map (Value.int .i64))/\w'=w1.setCell ⟨mr,2,none⟩ v)\/(¬L <+: K/\∃w1,Bl w w1/\w'=w1.setCell ⟨mr,2,none⟩ (.slice (aX ag) (n-1) c))
def QA(w v3:World)(mr n:Nat)(L:List Int)(z:Int)(fl:Nat->Bool)(g:(Nat×Value)×Nat×Value)(w':World):Prop:=
 (fl 15=true->∃w1,Bl w w1/\w1.ownsRow w.heap.size 3 1 g.2.2 (n+1) ((L++[z]).map (Value.int .i64))/\w'=w1.setCell ⟨mr,2,none⟩ g.2.2)/\
 (fl 15=false->Bl v3 w'/\
  (fl 1=true->fl 6=false->w'.ownsRow v3.heap.size 3 1 (.slice (some ⟨g.1.1,0,none⟩) 0 0) 0 (([]:List Int).map (Value.int .i64)))/\
  (fl 6=true->fl 12=false->w'.ownsRow v3.heap.size 3 1 g.1.2 n (L.map (Value.int .i64)))/\
  (fl 11=true->fl 12=false->Has w' g.2.1 #[i_ z] 3/\(fl 1=true->fl 6=false->g.2.1≠g.1.1))/\
  (fl 12=true->w'.ownsRow v3.heap.size 3 1 g.2.2 (n+1) ((L++[z]).map (Value.int .i64))))
theorem Av{lo hi:Nat}(s x:Tmp)(hsx:x≠s)(base:Nat)(v:Value)(n:Nat)(l:List Int)(hown:w.ownsRow base 3 1 v n (l.map (Value.int .i64)))(ad:Option Addr)(m c:Nat)(z:List Int)(hnil:ad=none->m=0/\c=0)(hz:z.length=m)(hL:MM.fa w lo hi ad z)(hn:n+m<=1000)(hbase:base<=w.heap.size):∃v' w',(∀(ρ:Operand->Value)(o:Oper),o.op=.call { callee:=.builtin .append,args:=#[.tmp s,.tmp x],argTypes:=#[49,49] }->o.type=49->ρ (.tmp s)=v->ρ (.tmp x)=.slice ad m c->(execOp ρ o).run Tryz.prog w=.ok (.value v') w')/\w'.ownsRow base 3 1 v' (n+m) ((l++z).map (Value.int .i64))/\w.grownBy w' v.ownBlock:=by
 obtain⟨v',w',h1,h2,h3⟩:=JS (ρ:=fun y=>match y with | .tmp q=>if q=s then v else .slice ad m c|_=>undef) (.tmp s) (.tmp x) base v n l (if_pos rfl) hown ad m c z (if_neg hsx) hnil hz hL hn hbase;refine⟨v',w',fun ρ o ho hty hs hx=>?_,h2,h3⟩;rw[<-h1 o ho hty];refine congrArg (fun q:Sem Next=>q.run Tryz.prog w) (execOp_congr o (fun cs b e=>by rw[ho]at e;cases e) fun y hy=>?_);rw[ho]at hy;have hy:y=.tmp s\/y=.tmp x:=by simpa[Op.operands,Call.operands]using hy
 rcases hy with rfl|rfl
 exact hs.trans (if_pos rfl).symm;exact hx.trans (if_neg hsx).symm
theorem my(hb:Bl w w'):Kp (fun _=>False) w w':=Kp.of hb
theorem Cr(h:w.ownsRow B 3 1 v n xs)(hb:Bl w w'):w'.ownsRow B 3 1 v n xs:=ay h (Kp.of (F:=fun _=>False) hb) (fun _ _ h=>h)
theorem BH(hr:∀(k:Nat)(z:Int),L[k]?=some z->w.cell? ⟨ag,k,none⟩=some (i_ z)):MM.fa w 0 (ag+1) (aX ag) L:=fun _=>⟨ag,0,rfl,Nat.zero_le _,Nat.lt_succ_self _,fun k hk=>by
 rw[Nat.zero_add];refine(hr k L[k] (List.getElem?_eq_getElem hk)).trans ?_;rw[List.getD_eq_getElem?_getD,List.getElem?_eq_getElem hk];rfl⟩
theorem vu(H:Hid (uS w mr bm rb ag n c L))(t:Int)(m:Nat)(hm:m=K.length)(hm0:0<m)(z0:Int)(hz0:Hid (L[n-1]?=some z0))(hpre:Hid (L <+: K↔n<=m/\K[n-1]?=some z0))(KB:aO w 46 #[af rb,af bm] (i_ t))(KP:j1 w fun w'=>aK 66 #[af bm,i_ t] w' fun e w''=>∃v,e=.returned v/\w''.ownsRow w'.heap.size 3 1 v m (K.map (Value.int .i64))/\Bl w' w''):aK 44 #[af mr] w fun e w'=>e=.returned (.bool (decide (¬L=K)))/\Rs w mr ag n c L K w':=by
 have hB:=Below.refl w.heap.size w;have c2:=(H.out.m2 w hB).1;have hn0:=H.out.pos;have hnc:=H.out.cap;have hw:=D0 H.out.pos (Nat.le_trans H.out.few (by decide));have HM:=h_ hm;clear hm;go_enter Tryz.func44,Tryz.ntmps44;go_wp2_with fail
 refine BP (fun b1 _ v w'=>Bl w w'/\(b1=true->w'.ownsRow w.heap.size 3 1 v m (K.map (Value.int .i64)))) 13 99 [3,7,11,12,13] (fun v=>[af mr,af mr,af mr,af bm,af mr,af mr,.pointer (some ⟨mr,1,none⟩),af rb,af mr,af mr,af mr,af bm,i_ t,v,v]) undef ⟨hB.drew,fun h=>by cases h⟩
  ⟨fun _ _ _ _ _ _ hC=>.val (cK rfl rfl (f_ (H.out.m0 _ hC.1))) hC,fun _ _ _ _ _ _ hC=>.val (cK rfl rfl (iQ (H.out.m1 _ hC.1))) hC,fun _ _ _ _ _ _ hC=>.val (cK rfl rfl (f_ (H.out.m0 _ hC.1))) hC,fun b1 _ _ _ f1 _ hC=>?_,fun _ _ _ _ _ _ hC=>.Tt [13,14] ((KP.out _ hC.1).mono fun e w'' h=>?_),trivial⟩ ?_
 ·obtain rfl:=f1.no (by kernel_rfl);exact .call ((KB.out _ hC.1).mono fun e w'' h=>⟨h.1,ah hC.1 h.2,fun h=>by cases h⟩)
 obtain⟨v,h1,h2,h3⟩:=h;exact⟨v,rfl,h1,ah hC.1 h3,fun _=>Ao h2 hC.1.size⟩;rintro v v2 ⟨hB,hv⟩;replace hv:=hv rfl;obtain⟨kg,kc,rfl,hkc,_,hkg,hrow⟩:=vP hv hm0;have HR:=h_ hrow;have HB2:=h_ hB;have KT:=h_ (fun w' (hb:Bl v2 w')=>qJ (h_ (H.out.on (ah HB2.out hb))) z0 hz0);clear hv hrow hB KB KP c2;simp only[dj,List.set_cons_zero,List.set_cons_succ,List.tail_cons,List.headD_cons];go_wp2_with fail
 obtain⟨n1,e1⟩:∃n1,n1=n-1:=⟨_,rfl⟩;have E1:=h_ e1;rw[<-e1]at hw;have hn1:n1<n:=by omega
 have hcut:=fun w'=>ID ag n c n1 (by omega) hnc w'
 by_cases hnm:n<=m
 ·have hb1:decide ((n:Int)<=(m:Int))=true:=decide_eq_true (by omega);obtain⟨x,hx⟩:∃x,K[n1]?=some x:=⟨_,List.getElem?_eq_getElem (by rw[<-HM.out];omega)⟩;have HX:=h_ hx;have hkx:∀w',Bl v2 w'->w'.cell? ⟨kg,n1,none⟩=some (i_ x):=fun w' hb=>(hb.cell (p:=⟨kg,n1,none⟩) hkg).trans (HR.out n1 x hx)
  have HKX:=h_ hkx;clear hx hkx e1;cases hb2:(x==z0)
  ·-- it aa0 ahead of it
   have hp:¬L <+: K:=fun h=>by
    have:=(hpre.out.1 h).2;rw[<-E1.out,HX.out]at this;rw[Option.some.inj this]at hb2;simp at hb2
   refine dg (fun _ _ w'=>Bl v2 w') 99 99 [3,8,9,11,12] [i_ n,.slice (aX kg) m kc,i_ m,.bool true,.bool true,.slice (aX kg) m kc,i_ n,i_ (IntKind.i64.wrap ((n:Int)-1)),.pointer (some ⟨kg,n1,none⟩),i_ x,af mr,i_ z0,.bool false,.bool false,.bool false] (bg.drew) ⟨fun _ _ _ _ _ h=>.val (B3 rfl rfl rfl hb1) h,fun _ _ _ _ _ h=>.val (gh rfl rfl (congrArg (Value.int .i64) hw) (oF _ _ _ _ _ (by omega))) h,fun _ _ _ _ _ h=>.val (cK rfl rfl (fQ (HKX.out _ h))) h,fun _ _ _ _ _ h=>.call ((KT.out _ h).mono fun _ _ q=>⟨q.1,ah h q.2⟩),fun _ _ _ _ _ h=>.val (fz rfl rfl rfl hb2) h,trivial⟩ ?_;intro v3 hb3;have hB:=ah HB2.out hb3;obtain⟨c2,c3⟩:=H.out.m2 _ hB;have HP:=h_ hp;have HB:=h_ hB;clear H KT hb3 hpre hp hB hb1 hb2;simp only[dj,List.set_cons_zero,List.set_cons_succ,List.tail_cons,List.headD_cons];go_wp2_with fail
   go_ret;exact⟨va (fun e:L=K=>HP.out (by rw[e];exact List.prefix_rfl)),.inr (.inr ⟨HP.out,v3,HB.out,by rw[<-E1.out]⟩)⟩
  ·have hp:L <+: K:=hpre.out.2 ⟨hnm,by rw[<-E1.out,HX.out,eq_of_beq hb2]⟩;have HP:=h_ hp;refine dg (fun _ _ w'=>Bl v2 w') 99 99 [3,8,9,11,12] [i_ n,.slice (aX kg) m kc,i_ m,.bool true,.bool true,.slice (aX kg) m kc,i_ n,i_ (IntKind.i64.wrap ((n:Int)-1)),.pointer (some ⟨kg,n1,none⟩),i_ x,af mr,i_ z0,.bool true,.bool true,.bool true] (bg.drew) ⟨fun _ _ _ _ _ h=>.val (B3 rfl rfl rfl hb1) h,fun _ _ _ _ _ h=>.val (gh rfl rfl (congrArg (Value.int .i64) hw) (oF _ _ _ _ _ (by omega))) h,fun _ _ _ _ _ h=>.val (cK rfl rfl (fQ (HKX.out _ h))) h,fun _ _ _ _ _ h=>.call ((KT.out _ h).mono fun _ _ q=>⟨q.1,ah h q.2⟩),fun _ _ _ _ _ h=>.val (fz rfl rfl rfl hb2) h,trivial⟩ ?_;intro v3 hb3;have hB:=ah HB2.out hb3;have HB:=h_ hB;have Hb3:=h_ hb3;clear KT hpre hp hB hb1 hb2 hb3;simp only[dj,List.set_cons_zero,List.set_cons_succ,List.tail_cons,List.headD_cons];by_cases S7:L=K
   ·have Y4:((n:Int)==(m:Int))=true:=(by rw[HM.out,H.out.len,S7];simp);have WU:=h_ S7;clear S7 H;(go_wp2_with fail);go_ret;exact⟨nh (fun h=>h WU.out),.inl ⟨WU.out,HB.out⟩⟩
   ·have hlt:n<m:=(by rw[HM.out,H.out.len];exact Ch.lj S7 HP.out);have Y4:((n:Int)==(m:Int))=false:=(by rw[beq_eq_false_iff_ne];omega);obtain⟨z,hz⟩:∃z,K[n]?=some z:=⟨_,List.getElem?_eq_getElem (by rw[<-HM.out];exact hlt)⟩
    have hst:Ch.iH K L=L++[z]:=by
     rw[Ch.kE S7 HP.out,List.take_add_one,<-H.out.len,hz,H.out.len,<-List.prefix_iff_eq_take.1 HP.out];rfl
    have HKZ:Hid (∀w',Bl v2 w'->w'.cell? ⟨kg,n,none⟩=some (i_ z)):=h_ fun w' hb=>(hb.cell (p:=⟨kg,n,none⟩) hkg).trans (HR.out n z hz)
    have HST:=h_ hst;have WU:=h_ S7;clear S7 hst hz;(go_wp2_with fail);have hsl:∀w',(Instr.buildSlice 49 0 #[]).run Tryz.prog w'=.ok (.slice (some ⟨w'.heap.size,0,none⟩) 0 0) (w'.alloc (.cells #[] 3)):=fun _=>by kernel_rfl
    have hs1:∀w',(Instr.buildSlice 49 1 #[(0,i_ z)]).run Tryz.prog w'=.ok (.slice (some ⟨w'.heap.size,0,none⟩) 1 1) (w'.alloc (.cells #[i_ z] 3)):=fun _=>by kernel_rfl
    refine uk (QA w v3 mr n L z) [1,6,11,12,15] [1,5,6,9,10,11,12,15] (fun g=>[af mr,.slice (some ⟨g.1.1,0,none⟩) 0 0,af mr,af mr,.pointer (some ⟨mr,2,none⟩),.slice (aX ag) n c,g.1.2,.slice (aX kg) m kc,i_ n,.pointer (some ⟨kg,n,none⟩),i_ z,.slice (some ⟨g.2.1,0,none⟩) 1 1,g.2.2,af mr,.pointer (some ⟨mr,2,none⟩),undef]) ((0,undef),0,undef) ⟨fun h=>(by cases h),fun _=>⟨bg.drew,fun h=>(by cases h),fun h=>(by cases h),fun h=>(by cases h),fun h=>by cases h⟩⟩
     ⟨fun fl g w' f hC=>?_,fun fl g w' f hC=>?_,fun fl g w' f hC=>?_,fun fl g w' f hC=>?_,fun fl g w' f hC=>?_,fun fl g w' f hC=>?_,fun fl g w' f hC=>?_,fun fl g w' f hC=>?_,trivial⟩ ?_
    ·have RV:=f.no 15 (by kernel_rfl);have h6:=f.no 6 (by kernel_rfl);have h12:=f.no 12 (by kernel_rfl);obtain⟨q1,q2,q3,q4,q5⟩:=hC.2 RV;have hb:Bl w' (w'.alloc (.cells #[] 3)):=aZ;refine .new ((w'.heap.size,g.1.2),g.2) [1] rfl (Ee rfl (hsl w')) ⟨fun h=>ff RV h,fun _=>⟨ah q1 hb,fun _ _=>?_,fun h=>ff h6 h,fun h1 h2=>⟨(my hb).has (q4 h1 h2).1 (fun h=>h),fun _ _=>?_⟩,fun h=>ff h12 h⟩⟩;exact Ao (World.ownsRow_made w' #[] 0 (Nat.le_refl _) (by decide) rfl) q1.size;exact Nat.ne_of_lt (q4 h1 h2).1.lt
    ·have RV:=f.no 15 (by kernel_rfl);exact .val (cK rfl rfl (nX (H.out.m2 _ (HB.out.trans ((hC.2 RV).1.mono HB.out.size))).1)) hC
    ·have RV:=f.no 15 (by kernel_rfl);have h12:=f.no 12 (by kernel_rfl);have h1:=f.yes 1 (by kernel_rfl);have h6:=f.no 6 (by kernel_rfl);obtain⟨q1,q2,q3,q4,q5⟩:=hC.2 RV;have hbw:=ah HB.out q1;obtain⟨v',w2,g1,g2,g3⟩:=Av (w:=w') 48 52 (by decide) v3.heap.size _ 0 [] (q2 h1 h6) (aX ag) n c L (fun h=>by cases h) H.out.len.symm (BH (H.out.row _ hbw)) (by have:=H.out.few;omega) q1.size;rw[Nat.zero_add,List.nil_append]at g2;have hg:Bl v3 w2:=q1.grown g3 q1.size fun k hk=>(q2 h1 h6).lt k hk |>.1
     refine .new ((g.1.1,v'),g.2) [6] rfl (g1 _ _ rfl rfl rfl rfl) ⟨fun h=>ff RV h,fun _=>⟨hg,fun _ h=>(by cases h),fun _ _=>g2,fun h11 _=>⟨?_,fun _ h=>by cases h⟩,fun h=>ff h12 h⟩⟩;exact(g3.block _ (q4 h11 h12).1.lt (fun e=>(q4 h11 h12).2 h1 h6 (Option.some.inj e))).trans (q4 h11 h12).1
    exact .val (gh rfl rfl rfl (oF _ _ _ _ _ hlt)) hC
    ·have RV:=f.no 15 (by kernel_rfl);exact .val (cK rfl rfl (fQ (HKZ.out _ (Hb3.out.trans ((hC.2 RV).1.mono Hb3.out.size))))) hC
    ·have RV:=f.no 15 (by kernel_rfl);have h12:=f.no 12 (by kernel_rfl);obtain⟨q1,q2,q3,q4,q5⟩:=hC.2 RV;have hb:Bl w' (w'.alloc (.cells #[i_ z] 3)):=aZ;refine .new (g.1,w'.heap.size,g.2.2) [11] rfl (jF rfl rfl (hs1 w')) ⟨fun h=>ff RV h,fun _=>⟨ah q1 hb,fun h1 h2=>Cr (q2 h1 h2) hb,fun h1 h2=>Cr (q3 h1 h2) hb,fun _ _=>⟨Has.new _ _,fun h1 h2=>?_⟩,fun h=>ff h12 h⟩⟩;exact Nat.ne_of_gt ((q2 h1 h2).lt _ rfl).2
    ·have RV:=f.no 15 (by kernel_rfl);have h12:=f.no 12 (by kernel_rfl);have h6:=f.yes 6 (by kernel_rfl);have h11:=f.yes 11 (by kernel_rfl);obtain⟨q1,q2,q3,q4,q5⟩:=hC.2 RV
     obtain⟨v',w2,g1,g2,g3⟩:=Av (w:=w') 53 58 (by decide) v3.heap.size _ n L (q3 h6 h12) (some ⟨g.2.1,0,none⟩) 1 1 [z] (fun h=>by cases h) rfl (BH fun k y hk=>by
      rw[Has.cell (q4 h11 h12).1 k];match k,hk with
      | 0,hk=>cases hk;rfl
      | k+1,hk=>simp at hk) (by have:=H.out.few;omega) q1.size
     have hg:Bl v3 w2:=q1.grown g3 q1.size fun k hk=>(q3 h6 h12).lt k hk |>.1
     exact .new (g.1,g.2.1,v') [12] rfl (g1 _ _ rfl rfl rfl rfl) ⟨fun h=>ff RV h,fun _=>⟨hg,fun _ h2=>ff h2 h6,fun _ h=>(by cases h),fun _ h=>(by cases h),fun _=>g2⟩⟩
    ·have RV:=f.no 15 (by kernel_rfl);have h12:=f.yes 12 (by kernel_rfl);obtain⟨q1,q2,q3,q4,q5⟩:=hC.2 RV;have hbw:=ah HB.out q1;obtain⟨kg2,kc2,e,_⟩:=vP (q5 h12) (Nat.succ_pos _);refine .store rfl (lZ rfl rfl rfl (p:=⟨mr,2,none⟩) (u:=g.2.2) ?_) ⟨fun _=>⟨w',hbw,Ao (q5 h12) HB.out.size,rfl⟩,fun h=>by cases h⟩;rw[e];exact GQ (H.out.m2 _ hbw).2 (H.out.m2 _ hbw).1
    intro g v4 hq;obtain⟨w1,hq1,hq2,rfl⟩:=hq.1 rfl;have hq:∃w2 v,Bl w w2/\w2.ownsRow w.heap.size 3 1 v (n+1) ((L++[z]).map (Value.int .i64))/\w1.setCell ⟨mr,2,none⟩ g.2.2=w2.setCell ⟨mr,2,none⟩ v:=⟨w1,g.2.2,hq1,hq2,rfl⟩;have HQ:=h_ hq;generalize World.setCell _ _ _=v4 at*;clear hq hq1 hq2;simp only[dj,List.set_cons_zero,List.set_cons_succ,List.tail_cons,List.headD_cons];clear H;(go_wp2_with fail);go_ret;exact⟨va WU.out,.inr (.inl ⟨WU.out,HP.out,by rw[HST.out];exact HQ.out⟩)⟩
 ·have hb1:decide ((n:Int)<=(m:Int))=false:=decide_eq_false (by omega);have hp:¬L <+: K:=fun h=>hnm (hpre.out.1 h).1
  clear e1;refine dg (fun _ _ w'=>Bl v2 w') 99 99 [3] [i_ n,.slice (aX kg) m kc,i_ m,.bool false,.bool false,undef,undef,undef,undef,undef,undef,undef,undef,.bool false,.bool false] (bg.drew) ⟨fun _ _ _ _ _ h=>.val (B3 rfl rfl rfl hb1) h,trivial⟩ ?_;intro v3 hb3;have hB:=ah HB2.out hb3;obtain⟨c2,c3⟩:=H.out.m2 _ hB;have HP:=h_ hp;have HB:=h_ hB;clear H KT hb3 hpre hp hB hb1;simp only[dj,List.set_cons_zero,List.set_cons_succ,List.tail_cons,List.headD_cons];go_wp2_with fail
  go_ret;exact⟨va (fun e:L=K=>HP.out (by rw[e];exact List.prefix_rfl)),.inr (.inr ⟨HP.out,v3,HB.out,by rw[<-E1.out]⟩)⟩
theorem uS.of(h:aN w0 w r bb cb mr bt mb mg bm rb x Mt Mr Sp Sr tip La)(hl:La.length<=900)(h0:0<La.length):∃ag c,uS w mr bm rb ag La.length c La:=by obtain⟨ag,c,h1,_,h2⟩:=h.row;exact⟨ag,c,rfl,h0,hl,h1,fun w' hb=>(h.below hb).m0,fun w' hb=>(h.below hb).m1,fun w' hb=>⟨(h2 w' hb).1,(h.below hb).free.2⟩,fun w' hb=>(h2 w' hb).2⟩
theorem JU(h:aN w0 w r bb cb mr bt mb mg bm rb x Mt Mr Sp Sr tip La)(hM:Ok r Mr)(hl:Mr.length<=500){i t:Nat}{K:List Int}(hL:Row Mr (i:Int) La)(hK:Row Mr (t:Int) K)(ht:Mk.top (Hv r Mr) (fun j=>aY Mr Sr (j:Int)) Mr.length=t):aK 44 #[af mr] w fun e w'=>e=.returned (.bool (decide (0<Ch.iq K La)))/\∃i2:Nat,Row Mr (i2:Int) (Ch.iH K La)/\Ch.iq K (Ch.iH K La)=Ch.iq K La-1/\aN w0 w' r bb cb mr bt mb mg bm rb x Mt Mr Sp Sr tip (Ch.iH K La):=by
 have hln:=Mk.j9 hM hL;have hkn:=Mk.j9 hM hK;obtain⟨hl0,hz⟩:=hL.last;obtain⟨ag,c,HR⟩:=uS.of h (by omega) hl0;obtain⟨Fm,hF⟩:=h.rf;have hS:=h.rk;obtain⟨e,_,he,_,_⟩:=Ch.fV hK
 have hpre:La <+: K↔La.length<=K.length/\K[La.length-1]?=some (i:Int):=by
  constructor;intro hp;refine⟨hp.length_le,?_⟩;obtain⟨s,rfl⟩:=hp;rw[List.getElem?_append_left (by omega)];exact hz;rintro⟨_,h2⟩;have:=hL.RG (hK.take h2);rw[this];exact List.take_prefix _ _
 refine(vu (h_ HR) (t:Int) K.length rfl hK.last.1 (i:Int) (h_ hz) (h_ hpre) (h_ fun w' hb=>?_) (h_ fun w' hb=>GC (hF.below hb) hM (by omega) t e he K hK)).mono ?_;have:=H8 (hF.below hb) (hS.below hb) hM hl;rw[ht]at this;exact this;rintro e w' ⟨rfl,hs⟩
 have hc:decide (¬La=K)=decide (0<Ch.iq K La):=by
  by_cases e:La=K;rw[e,Ch.sv];simp;rw[Ch.wh e hl0,decide_eq_true e,decide_eq_true (Nat.succ_pos _)]
 refine⟨by rw[hc],?_⟩;obtain⟨i2,_,hR⟩:=Ch.wv hM hL hK;refine⟨i2,hR,?_,?_⟩
 ·by_cases e:La=K;rw[Ch.uf e,e,Ch.sv];have:=Ch.wh e hl0;omega
 rcases hs with⟨e,hb⟩|⟨e,hp,w1,v,hb,hv,rfl⟩|⟨hp,w1,hb,rfl⟩
 rw[Ch.uf e];exact h.below hb
 ·have hlen:(Ch.iH K La).length=La.length+1:=by
   have:=Ch.lj e hp;rw[Ch.kE e hp,List.length_take];omega
  obtain⟨hl2,⟨_,h0⟩|⟨g,c2,cur,rfl,q1,q2,q3,q4,q5,q6⟩⟩:=hv;omega
  ·rw[Nat.mul_one]at q5 q6;rw[<-hlen,<-q5];refine h.R1 hb q1 q2 ⟨by omega,fun k z hk=>?_⟩;have hk2:=(List.getElem?_eq_some_iff.1 hk).1;have e2:(cur.toList.take (La.length+1))[k]?=some (Value.int .i64 z):=by rw[q6,List.getElem?_map,hk];rfl
   rw[List.getElem?_take,if_pos (by omega),Array.getElem?_toList]at e2;exact e2
 have:=(h.below hb).Ve (ag:=ag) (n:=La.length-1) (c:=c) (by omega) (HR.m2 _ hb).1;rw[Ch.B2 hp,List.dropLast_eq_take];exact this
theorem D6(cq:Option Addr)(N:Nat)(hN:N<=1000)(St:World->Nat->Prop)(h0:∀w',Bl w w'->St w' N)(KW:Hid (∀w' n,St w' n->aK 44 #[.pointer cq] w' fun e w''=>e=.returned (.bool (decide (0<n)))/\St w'' (n-1))):aK 33 #[.pointer cq] w fun e w'=>e=.returned (i_ N)/\St w' 0:=by
 have hB:=Below.refl w.heap.size w;go_enter Tryz.func33,Tryz.ntmps33;have hS:=h0 _ hB;clear h0 hB;go_wp2_with fail
 go_loopw [3] (fun u wr=>∃k n:Nat,k+n=N/\u=i_ k/\St wr n) (fun u _=>N-(intOf u).toNat)
 case atStart=>exact⟨0,N,by omega,rfl,hS⟩
 case round=>
  clear hS;obtain⟨k,n,hk,rfl,hS⟩:=hrel;have K1:=h_ (KW.out _ n hS);clear hS;rcases Nat.eq_zero_or_pos n with rfl|hn
  ·obtain rfl:k=N:=by omega
   clear hk;go_wp2_with fail
   refine K1.out.mono ?_;rintro e v5 ⟨rfl,hS⟩;have HS:=h_ hS;clear hS K1;rw[decide_eq_false (Nat.lt_irrefl 0)];go_wp2_with fail
   go_ret;exact⟨rfl,HS.out⟩
  ·go_wp2_with fail
   refine K1.out.mono ?_;rintro e v5 ⟨rfl,hS⟩;clear K1;rw[decide_eq_true hn];go_wp2_with fail
   go_roundw
   case rel=>exact⟨k+1,n-1,by omega,by go_num,hS⟩
   case measure=>simp[intOf];omega
theorem wW(hM:Ok r M)(h:Mk.Good n S):aY M S ((0:Nat):Int)=true:=Mk.ON.2 (h.TD hM)
theorem vO(hM:Ok r M)(h:Mk.Good n S):(!bZ M S ((0:Nat):Int))=true:=by
 rw[Bool.not_eq_true'];cases e:bZ M S ((0:Nat):Int)with
 | false=>rfl
 | true=>exact absurd (Mk.Gl.1 e) (h.Sg hM)
noncomputable def jM(r:Ru)(M:List aq)(S:Mk.St):Nat:=Mk.top (Hv r M) (fun i=>aY M S (i:Int)) M.length
noncomputable def Qu(r:Ru)(M:List aq)(S:Mk.St):Nat:=Mk.top (Hv r M) (fun i=>!bZ M S (i:Int)) M.length
def Gd(r:Ru)(M:List aq)(S:Mk.St):Prop:=Ok r M/\M.length<=100/\Mk.Good M.length S
theorem tL(h:Gd r M S):∃K,Row M (jM r M S:Int) K:=by obtain⟨K,hK,_⟩:=h.1.row (List.getElem?_eq_getElem (Mk.jO (H:=Hv r M) (P:=fun i=>aY M S (i:Int)) M.length h.1.pos));exact⟨K,hK⟩
theorem Du(h0:0<L.length)(h:Ch.iq K L=0):L=K:=Decidable.byContradiction fun e=>by
 have:=Ch.wh e h0;omega
theorem w7{i t:Nat}(h:Gd r M S)(hL:Row M (i:Int) L)(hK:Row M (t:Int) K):Ch.iq K L<=1000:=by have h1:=Mk.j9 h.1 hL;have h2:=Mk.j9 h.1 hK;have h3:=h.2.1;unfold Ch.iq;omega
theorem qo(h:aN w0 w r bb cb mr bt mb mg bm rb x Mt Mr Sp Sr tip La):aO w 26 #[af cb] (af mb):=h_ fun _ hb=>EL (h.below hb).c1
theorem wQ(h:aN w0 w r bb cb mr bt mb mg bm rb x Mt Mr Sp Sr tip La):aO w 25 #[af cb] (af bt):=h_ fun _ hb=>sM (h.below hb).c0
theorem Bc(h:aN w0 w r bb cb mr bt mb mg bm rb x Mt Mr Sp Sr tip La)(hg:Gd r Mt Sp):ak 19 #[af cb] w (i_ (jM r Mt Sp:Int)):=
 AQ (aX cb) (aX mb) _ (qo h) (h_ fun w' hb=>((h.below hb).rd hg.1 (Nat.le_trans hg.2.1 (by decide))).fx hg.1 (wW hg.1 hg.2.2))
theorem uH(h:aN w0 w r bb cb mr bt mb mg bm rb x Mt Mr Sp Sr tip La)(hg:Gd r Mt Sp):ak 20 #[af cb] w (i_ (Qu r Mt Sp:Int)):=
 xK (aX cb) (aX mb) _ (qo h) (h_ fun w' hb=>((h.below hb).rd hg.1 (Nat.le_trans hg.2.1 (by decide))).lead hg.1 (vO hg.1 hg.2.2))
theorem tj(h:aN w0 w r bb cb mr bt mb mg bm rb x Mt Mr Sp Sr tip La)(hg:Gd r Mt Sp){L K:List Int}(hL:Row Mt (tip:Int) L)(hK:Row Mt (jM r Mt Sp:Int) K):aK 21 #[af cb] w fun e w'=>e=.returned (.bool (decide (0<Ch.iq K L)))/\∃t2:Nat,Row Mt (t2:Int) (Ch.iH K L)/\aN w0 w' r bb cb mr bt mb mg bm rb x Mt Mr Sp Sr t2 La:=
 xm (aX cb) _ _ (fun w'=>∃t2:Nat,Row Mt (t2:Int) (Ch.iH K L)/\aN w0 w' r bb cb mr bt mb mg bm rb x Mt Mr Sp Sr t2 La) (h_ fun w' hb=>Bc (h.below hb) hg) (h_ fun w' hb=>(yv (h.below hb) hg.1 (Nat.le_trans hg.2.1 (by decide)) hL hK).mono fun _ _ ⟨e,t2,h1,_,h2⟩=>⟨e,t2,h1,h2⟩)
theorem Ir(h:aN w0 w r bb cb mr bt mb mg bm rb x Mt Mr Sp Sr tip La)(hg:Gd r Mt Sp){L K:List Int}(hL:Row Mt (tip:Int) L)(hK:Row Mt (jM r Mt Sp:Int) K):aK 22 #[af cb] w fun e w'=>e=.returned (i_ (Ch.iq K L:Int))/\aN w0 w' r bb cb mr bt mb mg bm rb x Mt Mr Sp Sr (jM r Mt Sp) La:=by
 refine(BI (aX cb) (jM r Mt Sp:Int) (h_ fun w' hb=>Bc (h.below hb) hg) (Ch.iq K L) (w7 hg hL hK) (fun w' n=>∃(t2:Nat)(L2:List Int),Row Mt (t2:Int) L2/\Ch.iq K L2=n/\aN w0 w' r bb cb mr bt mb mg bm rb x Mt Mr Sp Sr t2 La) (fun w' hb=>⟨tip,L,hL,rfl,h.below hb⟩) (h_ ?_)).mono ?_;rintro w' n ⟨t2,L2,h1,rfl,h2⟩;exact(yv h2 hg.1 (Nat.le_trans hg.2.1 (by decide)) h1 hK).mono fun _ _ ⟨e,t3,q1,q2,q3⟩=>⟨e,t3,_,q1,q2,q3⟩
 rintro e w' ⟨rfl,t2,L2,h1,h2,h3⟩;obtain rfl:=(Ch.BZ h1 hK).1 (Du h1.last.1 h2);exact⟨rfl,h3⟩
theorem vv(h:aN w0 w r bb cb mr bt mb mg bm rb x Mt Mr Sp Sr tip La)(hg:Gd r Mr Sr){i:Nat}{K:List Int}(hL:Row Mr (i:Int) La)(hK:Row Mr (jM r Mr Sr:Int) K):aK 44 #[af mr] w fun e w'=>e=.returned (.bool (decide (0<Ch.iq K La)))/\aN w0 w' r bb cb mr bt mb mg bm rb x Mt Mr Sp Sr tip (Ch.iH K La):=(JU h hg.1 (Nat.le_trans hg.2.1 (by decide)) hL hK rfl).mono fun _ _ ⟨e,_,_,_,h2⟩=>⟨e,h2⟩
theorem F7(h:aN w0 w r bb cb mr bt mb mg bm rb x Mt Mr Sp Sr tip La)(hg:Gd r Mr Sr){i:Nat}{K:List Int}(hL:Row Mr (i:Int) La)(hK:Row Mr (jM r Mr Sr:Int) K):aK 33 #[af mr] w fun e w'=>e=.returned (i_ (Ch.iq K La:Int))/\aN w0 w' r bb cb mr bt mb mg bm rb x Mt Mr Sp Sr tip K:=by
 refine(D6 (aX mr) (Ch.iq K La) (w7 hg hL hK) (fun w' n=>∃(t2:Nat)(L2:List Int),Row Mr (t2:Int) L2/\Ch.iq K L2=n/\aN w0 w' r bb cb mr bt mb mg bm rb x Mt Mr Sp Sr tip L2) (fun w' hb=>⟨i,La,hL,rfl,h.below hb⟩) (h_ ?_)).mono ?_;rintro w' n ⟨t2,L2,h1,rfl,h2⟩;exact(JU h2 hg.1 (Nat.le_trans hg.2.1 (by decide)) h1 hK rfl).mono fun _ _ ⟨e,t3,q1,q2,q3⟩=>⟨e,t3,_,q1,q2,q3⟩
 rintro e w' ⟨rfl,t2,L2,h1,h2,h3⟩;obtain rfl:=Du h1.last.1 h2;exact⟨rfl,h3⟩
theorem AI(h:aN w0 w r bb cb mr bt mb mg bm rb x Mt Mr Sp Sr tip La)(hg:Gd r Mr Sr){i:Nat}(hL:Row Mr (i:Int) La):ak 45 #[af mr] w (i_ i):=by have h1:=Mk.j9 hg.1 hL;have h2:=hg.2.1;obtain⟨hl0,hz⟩:=hL.last;obtain⟨ag,c,HR⟩:=uS.of h (by omega) hl0;exact qJ (h_ HR) (i:Int) (h_ hz)
section
variable{w0 w:World}{r:Ru}{bb cb mr bt mb mg bm rb:Nat}{x:vF}{Mt Mr:List aq}{Sp Sr:Mk.St}{tip:Nat}{La:List Int}{M:List aq}{S:Mk.St}
theorem BB(h:aN w0 w r bb cb mr bt mb mg bm rb x M Mr Sp Sr tip La)(hM:Ok r M)(hl:M.length<=800)(hgl:r.gs.length<=1000)(hcl:r.cs.length<=1000)(hT:∀w',Bl w w'->dS w')(y:Hd)(ho:y.ok)(now:Int):aK 14 #[af cb,.agg (aD y),i_ now] w fun e w'=>e=.returned (.tuple #[i_ (Ar.add r M y now).1.1,i_ (Ar.add r M y now).1.2.1,i_ (Ar.add r M y now).1.2.2])/\aN w0 w' r bb cb mr bt mb mg bm rb x (Ar.add r M y now).2 Mr Sp Sr tip La:=
 o_ (aX cb) (aX bt) (fun w'=>aN w0 w' r bb cb mr bt mb mg bm rb x (Ar.add r M y now).2 Mr Sp Sr tip La) _ _ _ now y ho (wQ h) (h_ fun w' hb=>(h.below hb).lift fun _ hC=>Jl hC hM hl hgl hcl (hT w' hb) y ho now)
theorem PG(h:aN w0 w r bb cb mr bt mb mg bm rb x Mt Mr Sp Sr tip La)(hl:Mt.length<=100)(z:Int)(right:Bool):aK 15 #[af cb,i_ z,.bool right] w fun e w'=>e=.returned (i_ (verdict Mt.length Sp z right).1)/\aN w0 w' r bb cb mr bt mb mg bm rb x Mt Mr (verdict Mt.length Sp z right).2 Sr tip La:=
 G3 (aX cb) (aX mb) (fun w'=>aN w0 w' r bb cb mr bt mb mg bm rb x Mt Mr (verdict Mt.length Sp z right).2 Sr tip La) _ z right (qo h) (h_ fun _ hb=>(h.below hb).lift fun _ hC=>Qi hC (Nat.le_trans hl (by decide)) z right)
theorem GM(h:aN w0 w r bb cb mr bt mb mg bm rb x Mt Mr Sp Sr tip La)(hl:Mt.length<=100)(z:Int):aK 16 #[af cb,i_ z] w fun e w'=>e=.returned (i_ (bB Mt.length Sp z).1)/\aN w0 w' r bb cb mr bt mb mg bm rb x Mt Mr (bB Mt.length Sp z).2 Sr tip La:=
 Jg (aX cb) (aX mb) (fun w'=>aN w0 w' r bb cb mr bt mb mg bm rb x Mt Mr (bB Mt.length Sp z).2 Sr tip La) _ z (qo h) (h_ fun _ hb=>(h.below hb).lift fun _ hC=>Oq hC (Nat.le_trans hl (by decide)) z)
theorem GW(h:aN w0 w r bb cb mr bt mb mg bm rb x Mt Mr Sp Sr tip La)(hM:Ok r Mt)(hl:Mt.length<=100)(z:Int):aK 17 #[af cb,i_ z] w fun e w'=>e=.returned (i_ (bk Mt Sp z).1)/\aN w0 w' r bb cb mr bt mb mg bm rb x Mt Mr (bk Mt Sp z).2 Sr tip La:=
 Eg (aX cb) (aX mb) (fun w'=>aN w0 w' r bb cb mr bt mb mg bm rb x Mt Mr (bk Mt Sp z).2 Sr tip La) _ z (qo h) (h_ fun _ hb=>(h.below hb).lift fun _ hC=>O1 hC hM (Nat.le_trans hl (by decide)) z)
end
def QN(w:World)(k:Nat)(P:List Int)(fl:Nat->Bool)(g:Nat×Nat×Value)(w':World):Prop:=
 Bl w w'/\(fl 0=true->fl 10=false->w'.ownsRow w.heap.size 3 1 (.slice (some ⟨g.1,0,none⟩) 1 1) 1 ([0].map (Value.int .i64)))/\
 (fl 9=true->fl 10=false->Has w' g.2.1 (P.map (Value.int .i64)).toArray 3/\(fl 0=true->g.2.1≠g.1))/\(fl 10=true->w'.ownsRow w.heap.size 3 1 g.2.2 (1+k) ((0::P).map (Value.int .i64)))
variable{w w0:World}{cb bt tip bb mr mb mg bm rb:Nat}
theorem JN(k:Nat)(P:List Int)(hk:k=P.length)(VU:k<=900)(C0:j1 w fun w'=>w'.cell? ⟨cb,0,none⟩=some (af bt)/\w'.cell? ⟨cb,2,none⟩=some (i_ tip))(KP:j1 w fun w'=>aK 55 #[af bt,i_ tip] w' fun x w''=>∃g,x=.returned (.slice (aX g) k k)/\w'.heap.size<=g/\Has w'' g (P.map (Value.int .i64)).toArray 3/\Bl w' w''):aK 23 #[af cb] w fun e w'=>∃v,e=.returned v/\w'.ownsRow w.heap.size 3 1 v (1+k) ((0::P).map (Value.int .i64))/\Bl w w':=by
 have HK:=h_ hk;clear hk;have hB:=Below.refl w.heap.size w;go_enter Tryz.func23,Tryz.ntmps23;go_wp2_with fail
 have hs1:∀w',(Instr.buildSlice 49 1 #[(0,i_ 0)]).run Tryz.prog w'=.ok (.slice (some ⟨w'.heap.size,0,none⟩) 1 1) (w'.alloc (.cells #[i_ 0] 3)):=fun _=>by kernel_rfl
 refine uk (QN w k P) [0,9,10] [0,4,8,9,10] (fun g=>[.slice (some ⟨g.1,0,none⟩) 1 1,af cb,af cb,af cb,af bt,af cb,af cb,.pointer (some ⟨cb,2,none⟩),i_ tip,.slice (some ⟨g.2.1,0,none⟩) k k,g.2.2,g.2.2]) (0,0,undef) ⟨hB.drew,fun h=>(by cases h),fun h=>(by cases h),fun h=>by cases h⟩
  ⟨fun fl g w' f hC=>?_,fun fl g w' f hC=>.val (cK rfl rfl (vh (C0.out _ hC.1).1)) hC,fun fl g w' f hC=>.val (cK rfl rfl (fQ (C0.out _ hC.1).2)) hC,fun fl g w' f hC=>?_,fun fl g w' f hC=>?_,trivial⟩ ?_
 ·have h10:=f.no 10 (by kernel_rfl);obtain⟨q1,q2,q3,q4⟩:=hC;have hb:Bl w' (w'.alloc (.cells #[i_ 0] 3)):=aZ;exact .new (w'.heap.size,g.2) [0] rfl (jF rfl rfl (hs1 w')) ⟨ah q1 hb,fun _ _=>Ku (Has.new _ _) q1.size,fun h1 h2=>⟨(my hb).has (q3 h1 h2).1 (fun h=>h),fun _=>Nat.ne_of_lt (q3 h1 h2).1.lt⟩,fun h=>ff h10 h⟩
 ·have h10:=f.no 10 (by kernel_rfl);obtain⟨q1,q2,q3,q4⟩:=hC;refine .Tt [9] ((KP.out _ q1).mono fun e w'' h=>?_);obtain⟨gp,h1,h2,h3,h4⟩:=h;exact⟨(g.1,gp,g.2.2),rfl,h1,ah q1 h4,fun h5 h6=>Cr (q2 h5 h6) h4,fun _ _=>⟨h3,fun h5=>Nat.ne_of_gt (Nat.lt_of_lt_of_le ((q2 h5 h10).lt _ rfl).2 h2)⟩,fun h=>ff h10 h⟩
 ·have h0:=f.yes 0 (by kernel_rfl);have h9:=f.yes 9 (by kernel_rfl);have h10:=f.no 10 (by kernel_rfl);obtain⟨q1,q2,q3,q4⟩:=hC;obtain⟨p1,p2⟩:=q3 h9 h10;obtain⟨v',w2,g1,g2,g3⟩:=Av (w:=w') 5 14 (by decide) w.heap.size _ 1 [0] (q2 h0 h10) (some ⟨g.2.1,0,none⟩) k k P (fun h=>by cases h) HK.out.symm (BH fun j z hj=>by rw[Has.cell p1 j,List.getElem?_toArray,List.getElem?_map,hj];rfl) (by omega) q1.size;have hg:Bl w w2:=q1.grown g3 q1.size fun k hk=>((q2 h0 h10).lt k hk).1
  exact .new (g.1,g.2.1,v') [10,11] rfl (g1 _ _ rfl rfl rfl rfl) ⟨hg,fun _ h=>(by cases h),fun _ h=>(by cases h),fun _=>g2⟩
 rintro g v2 ⟨hB,_,_,hv⟩;have HV:=h_ (hv rfl);have HB:=h_ hB;clear hv hB KP C0;simp only[dj,List.set_cons_zero,List.set_cons_succ,List.tail_cons,List.headD_cons];go_wp2_with fail
 go_ret;exact⟨_,rfl,HV.out,HB.out⟩
theorem NC(w:World):ak 23 #[.pointer none] w (.slice none 0 0):=by
 have hB:=Below.refl w.heap.size w;go_enter Tryz.func23,Tryz.ntmps23;go_wp2_with fail
 go_ret;exact⟨rfl,hB⟩
def iz(w:World)(v:Value)(l:List Int):Prop:=∃p c,v=.slice p l.length c/\(0<l.length->∃g,p=some ⟨g,0,none⟩/\∀w',Bl w w'->∀(k:Nat)(z:Int),l[k]?=some z->w'.cell? ⟨g,k,none⟩=some (i_ z))
variable{v:Value}{l La:List Int}
theorem iz.on{w':World}(h:iz w v l)(hb:Bl w w'):iz w' v l:=by obtain⟨p,c,e,h1⟩:=h;refine⟨p,c,e,fun h0=>?_⟩;obtain⟨g,e2,h2⟩:=h1 h0;exact⟨g,e2,fun w2 hb2=>h2 w2 (ah hb hb2)⟩
theorem iz.of{B n:Nat}(h:w.ownsRow B 3 1 v n (l.map (Value.int .i64)))(hn:n=l.length):iz w v l:=by
 subst hn;rcases Nat.eq_zero_or_pos l.length with h0|h0
 obtain⟨_,⟨rfl,_⟩|⟨g,c,cur,rfl,_⟩⟩:=h;exact⟨none,0,by rw[h0],fun hh=>by omega⟩;exact⟨_,c,rfl,fun hh=>by omega⟩;obtain⟨g,c,e,_,_,hg,h1⟩:=vP h h0;exact⟨_,c,e,fun _=>⟨g,rfl,fun w' hb k z hk=>(hb.cell (p:=⟨g,k,none⟩) hg).trans (h1 k z hk)⟩⟩
theorem J9{v1 v2:Value}{l1 l2:List Int}(h1:iz w v1 l1)(h2:iz w v2 l2)(hl:l1.length<=1000):ak 27 #[v1,v2] w (.bool (decide (l1=l2))):=by
 obtain⟨p1,c1,rfl,h1⟩:=h1;obtain⟨p2,c2,rfl,h2⟩:=h2;have H1:=h_ h1;have H2:=h_ h2;obtain⟨n,hn⟩:∃n,n=l1.length:=⟨_,rfl⟩;obtain⟨m,hm⟩:∃m,m=l2.length:=⟨_,rfl⟩;rw[<-hn,<-hm];have HN:=h_ hn;have HM:=h_ hm;clear h1 h2 hn hm;have hB:=Below.refl w.heap.size w;go_enter Tryz.func27,Tryz.ntmps27;by_cases hnm:n=m
 ·subst hnm;have e0:((n:Int) != (n:Int))=false:=by simp
  have SC:n<=1000:=by rw[HN.out];exact hl
  go_wp2_with fail
  go_loopw [13] (fun u wr=>∃k:Nat,k<=n/\u=i_ k/\Hid (l1.take k=l2.take k)/\Bl w wr) (fun u _=>n-(intOf u).toNat)
  case atStart=>exact⟨0,Nat.zero_le _,rfl,h_ rfl,hB⟩
  case round=>
   clear hB;obtain⟨k,hk,rfl,HE,hB⟩:=hrel;by_cases hlt:k<n
   ·obtain⟨g1,rfl,q1⟩:=H1.out (by rw[<-HN.out];omega);obtain⟨g2,rfl,q2⟩:=H2.out (by rw[<-HM.out];omega);obtain⟨x,hx⟩:∃x,l1[k]?=some x:=⟨_,List.getElem?_eq_getElem (by rw[<-HN.out];exact hlt)⟩;obtain⟨y,hy⟩:∃y,l2[k]?=some y:=⟨_,List.getElem?_eq_getElem (by rw[<-HM.out];exact hlt)⟩;have X1:Hid (∀w',Bl w w'->w'.cell? ⟨g1,k,none⟩=some (i_ x)):=h_ fun w' hb=>q1 w' hb k x hx
    have X2:Hid (∀w',Bl w w'->w'.cell? ⟨g2,k,none⟩=some (i_ y)):=h_ fun w' hb=>q2 w' hb k y hy
    have HX:=h_ hx;have HY:=h_ hy;clear q1 q2 hx hy;have hB0:=hB.drew;(go_wp2_with fail);cases hb:(x != y)
    all_goals
     refine dg (fun _ _ w'=>Bl w w') 99 99 [2,3,6,7,8] [.slice (aX g1) n c1,i_ k,.pointer (some ⟨g1,k,none⟩),i_ x,.slice (aX g2) n c2,i_ k,.pointer (some ⟨g2,k,none⟩),i_ y,.bool _] hB0
      ⟨fun _ _ _ _ _ hC=>.val (gh rfl rfl rfl (oF _ _ _ _ _ hlt)) hC,fun _ _ _ _ _ hC=>.val (cK rfl rfl (fQ (X1.out _ hC))) hC,fun _ _ _ _ _ hC=>.val (gh rfl rfl rfl (oF _ _ _ _ _ hlt)) hC,fun _ _ _ _ _ hC=>.val (cK rfl rfl (fQ (X2.out _ hC))) hC,fun _ _ _ _ _ hC=>.val (sU rfl rfl rfl hb) hC,trivial⟩ ?_
     intro v3 hB;simp only[dj,List.set_cons_zero,List.set_cons_succ,List.tail_cons,List.headD_cons]
    ·(go_wp2_with fail);go_roundw
     case rel=>exact⟨k+1,by omega,by go_num,h_ (by rw[List.take_add_one,List.take_add_one,HE.out,HX.out,HY.out,eq_of_beq (a:=x) (b:=y) (by simpa using hb)]),hB⟩
     case measure=>simp[intOf];omega
    ·(go_wp2_with fail);go_ret
     exact⟨nh (fun e:l1=l2=>by
      have h1:=HX.out;rw[e,HY.out]at h1;rw[Option.some.inj h1]at hb;simp at hb),hB⟩
   ·obtain rfl:k=n:=(by omega);(go_wp2_with fail);go_ret;refine⟨va ?_,hB⟩;have:=HE.out;rwa[List.take_of_length_le (by rw[HN.out];exact Nat.le_refl _),List.take_of_length_le (by rw[HM.out];exact Nat.le_refl _)]at this
 ·have e0:((n:Int) != (m:Int))=true:=by
   rw[bne_iff_ne];omega
  go_wp2_with fail
  go_ret;exact⟨nh (fun e:l1=l2=>hnm (by rw[HN.out,HM.out,e])),hB⟩
variable{r:Ru}{x:vF}{Mt Mr:List aq}{Sp Sr:Mk.St}
theorem Lo(h:aN w0 w r bb cb mr bt mb mg bm rb x Mt Mr Sp Sr tip La)(hg:Gd r Mt Sp){L:List Int}(hL:Row Mt (tip:Int) L):aK 23 #[af cb] w fun e w'=>∃v,e=.returned v/\iz w' v L/\Bl w w':=by
 obtain⟨d,_,hd,_,_⟩:=Ch.fV hL;have hlen:=hL.len hg.1 hd;have WV:=Mk.j9 hg.1 hL;have RO:=hg.2.1
 have h0:L=0::L.drop 1:=by
  have:=Ar.Row.first hg.1 hd hL;cases L with
  | nil=>cases this
  | cons a l=>cases this;rfl
 refine(JN (cb:=cb) (bt:=bt) (tip:=tip) d.hs.length (L.drop 1) (by rw[List.length_drop];omega) (by omega) (h_ fun w' hb=>⟨(h.below hb).c0,(h.below hb).c2⟩) (h_ fun w' hb=>tH (h.below hb) hg.1 (by omega) hd hL)).mono ?_;rintro e w' ⟨v,rfl,hv,hb⟩;rw[<-h0]at hv;exact⟨v,rfl,iz.of hv (by omega),hb⟩
theorem Ai(h:aN w0 w r bb cb mr bt mb mg bm rb x Mt Mr Sp Sr tip La):∃v,iz w v La/\∀w',Bl w w'->(loadVar 49 ⟨mr,2,none⟩).run Tryz.prog w'=.ok v w':=by obtain⟨ag,c,h1,hg,h2⟩:=h.row;exact⟨_,⟨_,c,rfl,fun _=>⟨ag,rfl,fun w' hb=>(h2 w' hb).2⟩⟩,fun w' hb=>nX (h2 w' hb).1⟩
section
variable{ρ:Operand->Value}{o:Oper}{w w':World}
end
