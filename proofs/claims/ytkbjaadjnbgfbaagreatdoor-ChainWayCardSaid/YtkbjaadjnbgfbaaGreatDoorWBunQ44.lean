import Derived.Test.YtkbjaadjnbgfbaaGreatDoorWBunQ42
import Derived.Test.YtkbjaadjnbgfbaaGreatDoorWSkPath
set_option maxRecDepth 100000
set_option maxHeartbeats 4000000
namespace Go.Proofs.YtkbjaadjnbgfbaaGreatDoor.An
open Go.RowKit Mem Sc NN.Rg2
open Ar (Ent Ru entZ Ok isP Row Anc Up IsAn ComI)
open Mk (failB childB validB pb verdict inval recon chg word itself)
def boA (cb mr:Nat):Array Value:=#[pp_ cb,pp_ mr]
def ccA (bt mb tip:Nat):Array Value:=#[pp_ bt,pp_ mb,i_ tip]
def rcA (bm rb:Nat) (v:Value):Array Value:=#[pp_ bm,pp_ rb,v]
def FitsI (La:List Int) (cur:Array Value):Prop:=La.length<=cur.size/\∀ (k:Nat) (z:Int),La[k]?=some z->cur[k]?=some (i_ z)
abbrev Bxs:=List (Nat × Array Value × TypeId)
inductive ChX (bb cb mr bt mb bm rb:Nat) (x:Bxs) (tip ag n:Nat) (cur:Array Value):Nat->Array Value->TypeId->Prop
 | bb:ChX bb cb mr bt mb bm rb x tip ag n cur bb (boA cb mr) 58
 | cb:ChX bb cb mr bt mb bm rb x tip ag n cur cb (ccA bt mb tip) 88
 | mr:ChX bb cb mr bt mb bm rb x tip ag n cur mr (rcA bm rb (.slice (sp_ ag) n cur.size)) 66
 | ag:ChX bb cb mr bt mb bm rb x tip ag n cur ag cur 3
 | act (p:Nat × Array Value × TypeId):p ∈ x->ChX bb cb mr bt mb bm rb x tip ag n cur p.1 p.2.1 p.2.2
def Fine (x:Bxs):Prop:=∀ p ∈ x,p.2.2 ≠ 88/\p.2.2 ≠ 66
def CCo (w0 w:World) (r:Ru) (bb cb mr bt mb mg bm rb:Nat) (x:Bxs) (Mt Mr:List Ent) (Sp Sr:Mk.St) (tip:Nat) (La:List Int):Prop :=
 Fine x/\∃ (ag:Nat) (cur:Array Value),FitsI La cur/\Core w0 w r bt mb mg bm rb (ChX bb cb mr bt mb bm rb x tip ag La.length cur) Mt Mr Sp Sr
section
variable {w0 w w':World} {r:Ru} {bb cb mr bt mb mg bm rb:Nat} {x:Bxs} {Mt Mr M:List Ent} {Sp Sr S':Mk.St} {tip ag n:Nat} {La:List Int} {cur:Array Value}
theorem CCo.below (h:CCo w0 w r bb cb mr bt mb mg bm rb x Mt Mr Sp Sr tip La) (hb:Bl w w'):CCo w0 w' r bb cb mr bt mb mg bm rb x Mt Mr Sp Sr tip La:=by
 obtain ⟨hf,ag,cur,h1,h2⟩:=h;exact ⟨hf,ag,cur,h1,h2.below hb⟩
theorem CCo.bel (h:CCo w0 w r bb cb mr bt mb mg bm rb x Mt Mr Sp Sr tip La):Bl w0 w:=by
 obtain ⟨hf,ag,cur,h1,h2⟩:=h;exact h2.bel
variable {x':Bxs}
theorem ChX.less (hx:∀ p ∈ x',p ∈ x) {i:Nat} {cs:Array Value} {T:TypeId} (h:ChX bb cb mr bt mb bm rb x' tip ag n cur i cs T):ChX bb cb mr bt mb bm rb x tip ag n cur i cs T:=by
 cases h with
 | bb=>exact .bb
 | cb=>exact .cb
 | mr=>exact .mr
 | ag=>exact .ag
 | act p hp=>exact .act p (hx p hp)
theorem CCo.less (h:CCo w0 w r bb cb mr bt mb mg bm rb x Mt Mr Sp Sr tip La) (hx:∀ p ∈ x',p ∈ x):CCo w0 w r bb cb mr bt mb mg bm rb x' Mt Mr Sp Sr tip La:=by
 obtain ⟨hf,ag,cur,h1,h2⟩:=h;exact ⟨fun p hp=>hf p (hx p hp),ag,cur,h1,h2.loose fun _ _ _ hi=>hi.less hx⟩
theorem CCo.loose (h:CCo w0 w r bb cb mr bt mb mg bm rb x Mt Mr Sp Sr tip La):CCo w0 w r bb cb mr bt mb mg bm rb [] Mt Mr Sp Sr tip La:=h.less fun _ hp=>by cases hp
variable {bx:Nat}
theorem CCo.put {cs:Array Value} {T:TypeId} (h:CCo w0 w r bb cb mr bt mb mg bm rb x Mt Mr Sp Sr tip La) (hb:Bl w w') (hx:w.heap.size<=bx) (hY:Has w' bx cs T) (h1:T ≠ 88) (h2:T ≠ 66):CCo w0 w' r bb cb mr bt mb mg bm rb ((bx,cs,T) :: x) Mt Mr Sp Sr tip La:=by
 obtain ⟨hf,ag,cur,g1,g2⟩:=h;refine ⟨fun p hp=>?_,ag,cur,g1,g2.turn hb fun i cs T hi=>?_⟩
 ·rcases List.mem_cons.1 hp with rfl|hp
  exact ⟨h1,h2⟩;exact hf p hp
 cases hi with
 | bb=>exact .inl .bb
 | cb=>exact .inl .cb
 | mr=>exact .inl .mr
 | ag=>exact .inl .ag
 | act p hp=>
  rcases List.mem_cons.1 hp with rfl|hp
  exact .inr ⟨hx,hY⟩;exact .inl (.act p hp)
theorem CCo.has {p:Nat × Array Value × TypeId} (h:CCo w0 w r bb cb mr bt mb mg bm rb x Mt Mr Sp Sr tip La) (hp:p ∈ x):Has w p.1 p.2.1 p.2.2:=by
 obtain ⟨hf,ag,cur,h1,h2⟩:=h;exact h2.has (.act p hp)
theorem CCo.box (h:CCo w0 w r bb cb mr bt mb mg bm rb [] Mt Mr Sp Sr tip La) (hb:Bl w w') {bx:Nat} (hx:bx=w.heap.size) {y:Ac} (hY:AcAt w' bx y):CCo w0 w' r bb cb mr bt mb mg bm rb [(bx,acA y,39)] Mt Mr Sp Sr tip La:=h.put hb (Nat.le_of_eq hx.symm) hY (by decide) (by decide)
theorem CCo.act {y:Ac} (h:CCo w0 w r bb cb mr bt mb mg bm rb [(bx,acA y,39)] Mt Mr Sp Sr tip La):AcAt w bx y:=h.has (p:=(bx,acA y,39)) (List.mem_singleton.2 rfl)
theorem CCo.b0 (h:CCo w0 w r bb cb mr bt mb mg bm rb x Mt Mr Sp Sr tip La):w.cell? ⟨bb,0,none⟩=some (pp_ cb):=by
 obtain ⟨hf,ag,cur,h1,h2⟩:=h;exact Has.cell (h2.has .bb) 0
theorem CCo.b1 (h:CCo w0 w r bb cb mr bt mb mg bm rb x Mt Mr Sp Sr tip La):w.cell? ⟨bb,1,none⟩=some (pp_ mr):=by
 obtain ⟨hf,ag,cur,h1,h2⟩:=h;exact Has.cell (h2.has .bb) 1
theorem CCo.c0 (h:CCo w0 w r bb cb mr bt mb mg bm rb x Mt Mr Sp Sr tip La):w.cell? ⟨cb,0,none⟩=some (pp_ bt):=by
 obtain ⟨hf,ag,cur,h1,h2⟩:=h;exact Has.cell (h2.has .cb) 0
theorem CCo.c1 (h:CCo w0 w r bb cb mr bt mb mg bm rb x Mt Mr Sp Sr tip La):w.cell? ⟨cb,1,none⟩=some (pp_ mb):=by
 obtain ⟨hf,ag,cur,h1,h2⟩:=h;exact Has.cell (h2.has .cb) 1
theorem CCo.c2 (h:CCo w0 w r bb cb mr bt mb mg bm rb x Mt Mr Sp Sr tip La):w.cell? ⟨cb,2,none⟩=some (i_ tip):=by
 obtain ⟨hf,ag,cur,h1,h2⟩:=h;exact Has.cell (h2.has .cb) 2
theorem CCo.m0 (h:CCo w0 w r bb cb mr bt mb mg bm rb x Mt Mr Sp Sr tip La):w.cell? ⟨mr,0,none⟩=some (pp_ bm):=by
 obtain ⟨hf,ag,cur,h1,h2⟩:=h;exact Has.cell (h2.has .mr) 0
theorem CCo.m1 (h:CCo w0 w r bb cb mr bt mb mg bm rb x Mt Mr Sp Sr tip La):w.cell? ⟨mr,1,none⟩=some (pp_ rb):=by
 obtain ⟨hf,ag,cur,h1,h2⟩:=h;exact Has.cell (h2.has .mr) 1
theorem CCo.row (h:CCo w0 w r bb cb mr bt mb mg bm rb x Mt Mr Sp Sr tip La):∃ ag c,La.length<=c/\ag<w.heap.size/\∀ w',Bl w w'->w'.cell? ⟨mr,2,none⟩=some (.slice (sp_ ag) La.length c)/\∀ (k:Nat) (z:Int),La[k]?=some z->w'.cell? ⟨ag,k,none⟩=some (i_ z):=by
 obtain ⟨hf,ag,cur,h1,h2⟩:=h;refine ⟨ag,cur.size,h1.1,(h2.has .ag).lt,fun w' hb=>?_⟩;have h3:=h2.below hb;exact ⟨Has.cell (h3.has .mr) 2,fun k z hk=>by rw[Has.cell (h3.has .ag) k];exact h1.2 k z hk⟩
theorem CCo.core (h:CCo w0 w r bb cb mr bt mb mg bm rb x Mt Mr Sp Sr tip La):∃ X,Core w0 w r bt mb mg bm rb X Mt Mr Sp Sr:=by
 obtain ⟨hf,ag,cur,h1,h2⟩:=h;exact ⟨_,h2⟩
theorem CCo.lift {Mt' Mr':List Ent} {Sp' Sr':Mk.St} {P:Program} {f:FuncId} {args:Array Value} {v:Value} (h:CCo w0 w r bb cb mr bt mb mg bm rb x Mt Mr Sp Sr tip La) (k:∀ X,Core w0 w r bt mb mg bm rb X Mt Mr Sp Sr->Calls P f args w fun e w'=>e = .returned v/\Core w0 w' r bt mb mg bm rb X Mt' Mr' Sp' Sr'):Calls P f args w fun e w'=>e = .returned v/\CCo w0 w' r bb cb mr bt mb mg bm rb x Mt' Mr' Sp' Sr' tip La:=by
 obtain ⟨hf,ag,cur,h1,h2⟩:=h;exact (k _ h2).mono fun e w' h3=>⟨h3.1,hf,ag,cur,h1,h3.2⟩
theorem ChX.uniq (hf:Fine x) (h:Core w0 w r bt mb mg bm rb (ChX bb cb mr bt mb bm rb x tip ag n cur) Mt Mr Sp Sr):bb ≠ cb/\mr ≠ cb/\ag ≠ cb/\bb ≠ mr/\ag ≠ mr/\∀ p ∈ x,p.1 ≠ cb/\p.1 ≠ mr:=by
 have b:=h.has .bb;have c:=h.has .cb;have m:=h.has .mr;have a:=h.has .ag;exact ⟨qaf_ b c (by decide),qaf_ m c (by decide),qaf_ a c (by decide),qaf_ b m (by decide),qaf_ a m (by decide),fun p hp=>⟨qaf_ (h.has (.act p hp)) c (hf p hp).1,qaf_ (h.has (.act p hp)) m (hf p hp).2⟩⟩
theorem CCo.setTip (h:CCo w0 w r bb cb mr bt mb mg bm rb x Mt Mr Sp Sr tip La) (t2:Nat):CCo w0 (w.setCell ⟨cb,2,none⟩ (i_ t2)) r bb cb mr bt mb mg bm rb x Mt Mr Sp Sr t2 La:=by
 obtain ⟨hf,ag,cur,h1,h2⟩:=h;obtain ⟨q1,q2,q3,_,_,q6⟩:=ChX.uniq hf h2;refine ⟨hf,ag,cur,h1,h2.wrote .cb (Kp.gb (qax_ w cb 2 _) (fun k hk=>(Option.some.inj hk).symm)) (cs':=ccA bt mb t2) (Has.set (i:=2) (h2.has .cb) _) fun i d U hi=>?_⟩;cases hi with
 | bb=>exact .inr ⟨q1,.bb⟩
 | cb=>exact .inl ⟨rfl,rfl,rfl⟩
 | mr=>exact .inr ⟨q2,.mr⟩
 | ag=>exact .inr ⟨q3,.ag⟩
 | act p hp=>exact .inr ⟨(q6 p hp).1,.act p hp⟩
theorem CCo.rowNew (h:CCo w0 w r bb cb mr bt mb mg bm rb x Mt Mr Sp Sr tip La) (hb:Bl w w') {a2:Nat} {cur2:Array Value} {L2:List Int} (h2:w.heap.size<=a2) (h3:Has w' a2 cur2 3) (h4:FitsI L2 cur2):CCo w0 (w'.setCell ⟨mr,2,none⟩ (.slice (sp_ a2) L2.length cur2.size)) r bb cb mr bt mb mg bm rb x Mt Mr Sp Sr tip L2:=by
 obtain ⟨hf,ag,cur,h1,hC⟩:=h;have hA:Core w0 w' r bt mb mg bm rb (fun i cs T=>ChX bb cb mr bt mb bm rb x tip ag La.length cur i cs T\/(i=a2/\cs=cur2/\T=3)) Mt Mr Sp Sr:=hC.turn hb fun i cs T hi=>hi.imp id fun ⟨e1,e2,e3⟩=>by subst e1 e2 e3;exact ⟨h2,h3⟩
 obtain ⟨q1,q2,q3,q4,q5,q6⟩:=ChX.uniq hf hC;refine ⟨hf,a2,cur2,h4,hA.wrote (.inl .mr) (Kp.gb (qax_ w' mr 2 _) (fun k hk=>(Option.some.inj hk).symm)) (cs':=rcA bm rb (.slice (sp_ a2) L2.length cur2.size)) (Has.set (i:=2) (hA.has (.inl .mr)) _) fun i d U hi=>?_⟩;cases hi with
 | bb=>exact .inr ⟨q4,.inl .bb⟩
 | cb=>exact .inr ⟨q2.symm,.inl .cb⟩
 | mr=>exact .inl ⟨rfl,rfl,rfl⟩
 | ag=>exact .inr ⟨qaf_ h3 (hA.has (.inl .mr)) (by decide),.inr ⟨rfl,rfl,rfl⟩⟩
 | act p hp=>exact .inr ⟨(q6 p hp).2,.inl (.act p hp)⟩
theorem CCo.rowCut (h:CCo w0 w r bb cb mr bt mb mg bm rb x Mt Mr Sp Sr tip La) {n c:Nat} (hn:n<=La.length) (hc:w.cell? ⟨mr,2,none⟩=some (.slice (sp_ ag) La.length c)):CCo w0 (w.setCell ⟨mr,2,none⟩ (.slice (sp_ ag) n c)) r bb cb mr bt mb mg bm rb x Mt Mr Sp Sr tip (La.take n):=by
 obtain ⟨hf,a2,cur,h1,hC⟩:=h;have h2:=Has.cell (hC.has .mr) 2;rw[hc] at h2;cases h2;obtain ⟨q1,q2,q3,q4,q5,q6⟩:=ChX.uniq hf hC;have hl:(La.take n).length=n:=by rw[List.length_take];omega
 refine ⟨hf,ag,cur,⟨by have:=h1.1;omega,fun k z hk=>h1.2 k z ?_⟩,?_⟩;rw[List.getElem?_take] at hk;split at hk;exact hk;cases hk;rw[hl];refine hC.wrote .mr (Kp.gb (qax_ w mr 2 _) (fun k hk=>(Option.some.inj hk).symm)) (cs':=rcA bm rb (.slice (sp_ ag) n cur.size)) (Has.set (i:=2) (hC.has .mr) _) fun i d U hi=>?_
 cases hi with
 | bb=>exact .inr ⟨q4,.bb⟩
 | cb=>exact .inr ⟨q2.symm,.cb⟩
 | mr=>exact .inl ⟨rfl,rfl,rfl⟩
 | ag=>exact .inr ⟨q5,.ag⟩
 | act p hp=>exact .inr ⟨(q6 p hp).2,.act p hp⟩
theorem CCo.free (h:CCo w0 w r bb cb mr bt mb mg bm rb x Mt Mr Sp Sr tip La):w.frozen? ⟨cb,2,none⟩=false/\w.frozen? ⟨mr,2,none⟩=false:=by
 obtain ⟨hf,ag,cur,h1,h2⟩:=h;exact ⟨Has.free (h2.has .cb) 2,Has.free (h2.has .mr) 2⟩
theorem CCo.rd (h:CCo w0 w r bb cb mr bt mb mg bm rb x Mt Mr Sp Sr tip La) (hM:Ok r Mt) (hl:Mt.length<=1000):MkR w (sp_ mb) (sp_ bt) r Mt Sp:=by
 obtain ⟨X,h⟩:=h.core;exact h.rd hM hl
theorem CCo.rf (h:CCo w0 w r bb cb mr bt mb mg bm rb x Mt Mr Sp Sr tip La):∃ Fm,RfS w w0.heap.size Fm bm r Mr:=by
 obtain ⟨X,h⟩:=h.core;exact h.rf
theorem CCo.rk (h:CCo w0 w r bb cb mr bt mb mg bm rb x Mt Mr Sp Sr tip La):RkS w rb Sr:=by
 obtain ⟨X,h⟩:=h.core;exact h.rk
theorem CCo.tr (h:CCo w0 w r bb cb mr bt mb mg bm rb x Mt Mr Sp Sr tip La):∃ F ls,TrS w F bt r Mt ls/\ls.length=Mt.length:=by
 obtain ⟨_,ag,cur,_,⟨F,Fm,⟨⟨b,ls,e,h1,h2⟩|⟨e,_⟩,_⟩,_⟩,_⟩:=h;cases e;exact ⟨F,ls,h1,h2⟩;cases e
theorem co_at (h:CCo w0 w r bb cb mr bt mb mg bm rb x Mt Mr Sp Sr tip La) {i:Nat} {d:Ent} (he:Mt[i]?=some d):Ca_ 29 #[pp_ bt,i_ i] w (.tuple #[.agg (enA (enOf r d)),.bool true]):=by
 obtain ⟨F,ls,h1,h2⟩:=h.tr;exact tat_at h1 he _ rfl
theorem qabz_ (h:CCo w0 w r bb cb mr bt mb mg bm rb x Mt Mr Sp Sr tip La) (hM:Ok r Mt) (hl:Mt.length<=900) (a b:Int):Ca_ 35 #[pp_ bt,i_ a,i_ b] w (.bool (pb (Anc Mt a b))):=by
 obtain ⟨X,h⟩:=h.core;exact qrq_ h hM hl a b
theorem qrw_ (h:CCo w0 w r bb cb mr bt mb mg bm rb x Mt Mr Sp Sr tip La) (hM:Ok r Mt) (hl:Mt.length<=900) (i t z:Int) (hz:IsAn Mt i t z):Ca_ 69 #[pp_ bt,i_ i,i_ t] w (i_ z):=by
 obtain ⟨F,ls,h1,h2⟩:=h.tr;exact qdy_ h1 hM hl i t z (fun hi=>by have:=hi.2;omega) hz
theorem qaca_ (h:CCo w0 w r bb cb mr bt mb mg bm rb x Mt Mr Sp Sr tip La) (hM:Ok r Mt) (hl:Mt.length<=900) (p:Option Addr) (n c:Nat) (l:List Int) (hn:n=l.length) (hln:n<=4611686018427387904) {lo hi:Nat} (hhi:hi<=w.heap.size) (hL:MM.Lie w lo hi p l) (z:Int) (hz:ComI Mt l z):Ca_ 32 #[pp_ bt,.slice p n c] w (i_ z):=by
 obtain ⟨F,ls,h1,h2⟩:=h.tr;exact qabg_ h1 hM hl h2 p n c l hn hln hhi hL z hz
end
variable {w:World} {cb b:Nat}
theorem qaef_ (h:w.cell? ⟨cb,0,none⟩=some (pp_ b)):Ca_ 25 #[pp_ cb] w (pp_ b):=by
 have hB:=Below.refl w.heap.size w;go_enter Tryz.func25,Tryz.ntmps25;go_wp2_with fail
 go_ret;exact ⟨rfl,hB⟩
theorem qxc_ (h:w.cell? ⟨cb,1,none⟩=some (pp_ b)):Ca_ 26 #[pp_ cb] w (pp_ b):=by
 have hB:=Below.refl w.heap.size w;go_enter Tryz.func26,Tryz.ntmps26;go_wp2_with fail
 go_ret;exact ⟨rfl,hB⟩
theorem ctip_w (h:w.cell? ⟨cb,2,none⟩=some (i_ b)):Ca_ 18 #[pp_ cb] w (i_ b):=by
 have hB:=Below.refl w.heap.size w;go_enter Tryz.func18,Tryz.ntmps18;go_wp2_with fail
 go_ret;exact ⟨rfl,hB⟩
theorem qpt_ (cq mq:Option Addr) (z:Int) (KM:HK_ w 26 #[.pointer cq] (.pointer mq)) (KB:HK_ w 52 #[.pointer mq] (i_ z)) :
  Ca_ 19 #[.pointer cq] w (i_ z):=by
 have hB:=Below.refl w.heap.size w;go_enter Tryz.func19,Tryz.ntmps19;go_wp2_with fail
 refine (KM.out _ hB).mono ?_;rintro e v1 ⟨rfl,hb⟩;replace hB:=tb_ hB hb;clear hb;go_wp2_with fail
 refine (KB.out _ hB).mono ?_;rintro e v2 ⟨rfl,hb⟩;replace hB:=tb_ hB hb;clear hb;go_wp2_with fail
 go_ret;exact ⟨rfl,hB⟩
theorem qxd_ (cq mq:Option Addr) (J:World->Prop) (z:Int) (at_:Int) (right:Bool) (KM:HK_ w 26 #[.pointer cq] (.pointer mq)) (KB:HB_ w fun w'=>Cl_ 49 #[.pointer mq,i_ at_,.bool right] w' fun e w''=>e = .returned (i_ z)/\J w'') :
  Cl_ 15 #[.pointer cq,i_ at_,.bool right] w fun e w'=>e = .returned (i_ z)/\J w':=by
 have hB:=Below.refl w.heap.size w;go_enter Tryz.func15,Tryz.ntmps15;go_wp2_with fail
 refine (KM.out _ hB).mono ?_;rintro e v1 ⟨rfl,hb⟩;replace hB:=tb_ hB hb;clear hb;go_wp2_with fail
 refine (KB.out _ hB).mono ?_;rintro e v2 ⟨rfl,hJ⟩;have HJ:=h_ hJ;clear hJ;go_wp2_with fail
 go_ret;exact ⟨rfl,HJ.out⟩
theorem qajl_ (cq mq:Option Addr) (J:World->Prop) (z:Int) (at_:Int) (KM:HK_ w 26 #[.pointer cq] (.pointer mq)) (KB:HB_ w fun w'=>Cl_ 50 #[.pointer mq,i_ at_] w' fun e w''=>e = .returned (i_ z)/\J w'') :
  Cl_ 16 #[.pointer cq,i_ at_] w fun e w'=>e = .returned (i_ z)/\J w':=by
 have hB:=Below.refl w.heap.size w;go_enter Tryz.func16,Tryz.ntmps16;go_wp2_with fail
 refine (KM.out _ hB).mono ?_;rintro e v1 ⟨rfl,hb⟩;replace hB:=tb_ hB hb;clear hb;go_wp2_with fail
 refine (KB.out _ hB).mono ?_;rintro e v2 ⟨rfl,hJ⟩;have HJ:=h_ hJ;clear hJ;go_wp2_with fail
 go_ret;exact ⟨rfl,HJ.out⟩
theorem qajm_ (cq mq:Option Addr) (J:World->Prop) (z:Int) (at_:Int) (KM:HK_ w 26 #[.pointer cq] (.pointer mq)) (KB:HB_ w fun w'=>Cl_ 51 #[.pointer mq,i_ at_] w' fun e w''=>e = .returned (i_ z)/\J w'') :
  Cl_ 17 #[.pointer cq,i_ at_] w fun e w'=>e = .returned (i_ z)/\J w':=by
 have hB:=Below.refl w.heap.size w;go_enter Tryz.func17,Tryz.ntmps17;go_wp2_with fail
 refine (KM.out _ hB).mono ?_;rintro e v1 ⟨rfl,hb⟩;replace hB:=tb_ hB hb;clear hb;go_wp2_with fail
 refine (KB.out _ hB).mono ?_;rintro e v2 ⟨rfl,hJ⟩;have HJ:=h_ hJ;clear hJ;go_wp2_with fail
 go_ret;exact ⟨rfl,HJ.out⟩
def CaC (w:World) (bH:Nat) (y:Hd) (J:World->Prop) (b1 _b2:Bool) (w':World):Prop:=if b1 then J w' else Bl w w'/\HdAt w' bH y
theorem cadd_w {w:World} (cq tq:Option Addr) (J:World->Prop) (z1 z2 z3 now:Int) (y:Hd) (hy:y.ok) (KM:HK_ w 25 #[.pointer cq] (.pointer tq)) (KB:Hid (∀w',Below w.heap.size w w'->Calls Tryz.prog 48 #[.pointer tq,.agg (hdA y),.int .i64 now] w' fun e w''=>e = .returned (.tuple #[.int .i64 z1,.int .i64 z2,.int .i64 z3])/\J w'')) :
  Calls Tryz.prog 14 #[.pointer cq,.agg (hdA y),.int .i64 now] w fun e w'=>e = .returned (.tuple #[.int .i64 z1,.int .i64 z2,.int .i64 z3])/\J w':=by
 have hz:=qh_ hy;go_enter Tryz.func14,Tryz.ntmps14;go_upto_region 1 with fail
 generalize hw0:World.alloc _ _=v0;have hB:Below w.heap.size w v0:=bl_ hw0;have hH:HdAt v0 w.heap.size y:=by rw[<-hw0];exact Has.new _ _
 clear hw0;obtain ⟨bH,hbH⟩:∃ x,x=w.heap.size:=⟨_,rfl⟩;rw[<-hbH] at hH |-;clear hbH;go_wp2_with fail
 refine wp_tab (CaC w bH y J) 4 99 [1,2,4] [.pointer cq,.pointer tq,.agg (hdA y),.int .i64 now,.tuple #[.int .i64 z1,.int .i64 z2,.int .i64 z3],.int .i64 z1,.int .i64 z2,.int .i64 z3,.int .i64 z1,.int .i64 z2,.int .i64 z3] ⟨hB.drew,hH.on (br_.drew)⟩ ⟨fun b1 b2 w' f1 _ hC=>?_,fun b1 b2 w' f1 _ hC=>?_,fun b1 b2 w' f1 _ hC=>?_,trivial⟩ ?_
 ·obtain rfl:=f1.no (by kernel_rfl);exact .call ((KM.out _ hC.1).mono fun e w'' h=>⟨h.1,tb_ hC.1 h.2,hC.2.on h.2⟩)
 ·obtain rfl:=f1.no (by kernel_rfl);exact .val (qbr_ rfl rfl hC.2.range hz) hC
 ·obtain rfl:=f1.no (by kernel_rfl);exact .call (KB.out _ hC.1)
 ·intro w' hJ;have HJ:Hid (J w'):=h_ hJ;clear hJ KM KB hB hH;simp only[finT,List.set_cons_zero,List.set_cons_succ,List.tail_cons,List.headD_cons];go_wp2_with fail
  go_ret3
  exact ⟨rfl,HJ.out⟩
section
variable {w:World} {p:Addr} {q a:Option Addr} {n c:Nat} {z:Int} {b:Bool} {u:Value}
theorem qpu_ (h:w.cell? p=some (.pointer q)):(loadVar 51 p).run Tryz.prog w = .ok (.pointer q) w:=by go_simp
theorem ld_rar (h:w.cell? p=some (.pointer q)):(loadVar 63 p).run Tryz.prog w = .ok (.pointer q) w:=by go_simp
theorem ld_rmk (h:w.cell? p=some (.pointer q)):(loadVar 64 p).run Tryz.prog w = .ok (.pointer q) w:=by go_simp
theorem ld_chp (h:w.cell? p=some (.pointer q)):(loadVar 41 p).run Tryz.prog w = .ok (.pointer q) w:=by go_simp
theorem ld_rcp (h:w.cell? p=some (.pointer q)):(loadVar 56 p).run Tryz.prog w = .ok (.pointer q) w:=by go_simp
theorem ld_i (h:w.cell? p=some (i_ z)):(loadVar 3 p).run Tryz.prog w = .ok (i_ z) w:=by go_simp
theorem ld_b (h:w.cell? p=some (.bool b)):(loadVar 4 p).run Tryz.prog w = .ok (.bool b) w:=by go_simp
theorem ld_is (h:w.cell? p=some (.slice a n c)):(loadVar 49 p).run Tryz.prog w = .ok (.slice a n c) w:=by go_simp
theorem sv_i (hf:w.frozen? p=false) (hc:w.cell? p=some u):(storeVar 3 p (i_ z)).run Tryz.prog w = .ok () (w.setCell p (i_ z)):=by go_simp
theorem sv_is (hf:w.frozen? p=false) (hc:w.cell? p=some u):(storeVar 49 p (.slice a n c)).run Tryz.prog w = .ok () (w.setCell p (.slice a n c)):=by go_simp
end
section
variable {ρ:Operand->Value} {o:Oper} {w w':World} {E:En} {g:Nat}
theorem qrx_ (ho:o.op = .alloc 60):(execOp ρ o).run Tryz.prog w = .ok (.value (.pointer (some ⟨w.heap.size,0,none⟩))) (w.alloc (.cells Tryz.zeroCells60 60)):=by
 unfold execOp;simp only[ho];kernel_rfl
variable {x y:Operand} {a b:Int}
theorem ex_eqi {g:Bool} (ho:o.op = .binOp .eql 3 x y 3) (hx:ρ x = i_ a) (hy:ρ y = i_ b) (h:(a==b)=g):(execOp ρ o).run Tryz.prog w = .ok (.value (.bool g)) w:=by
 unfold execOp;subst h;simp only[ho,hx,hy];kernel_rfl
theorem ex_eqb {a b g:Bool} (ho:o.op = .binOp .eql 4 x y 4) (hx:ρ x = .bool a) (hy:ρ y = .bool b) (h:(a==b)=g):(execOp ρ o).run Tryz.prog w = .ok (.value (.bool g)) w:=by
 unfold execOp;subst h;simp only[ho,hx,hy];kernel_rfl
theorem qxe_ {g:Bool} (ho:o.op = .binOp .leq 3 x y 3) (hx:ρ x = i_ a) (hy:ρ y = i_ b) (h:decide (a<=b)=g):(execOp ρ o).run Tryz.prog w = .ok (.value (.bool g)) w:=by
 unfold execOp;subst h;simp only[ho,hx,hy];kernel_rfl
theorem qacb_ {T:TypeId} {v:Value} (hop:o.op = .buildSlice T 0 #[]) (h:(Instr.buildSlice T 0 #[]).run Tryz.prog w = .ok v w'):(execOp ρ o).run Tryz.prog w = .ok (.value v) w':=qfd_ hop (by simpa using h)
theorem ff {P:Prop} {b:Bool} (h:b=false) (h2:b=true):P:=by rw[h] at h2;cases h2
theorem qajn_ (g n c k:Nat) (hk:k<=n) (hc:n<=c) (w:World):(Instr.sliceAt 49 (.slice (sp_ g) n c) none (some (i_ k)) none).run Tryz.prog w = .ok (.slice (sp_ g) k c) w:=by
 go_simp
 intro h;omega
theorem qpv_ {n:Nat} (h0:0<n) (h:n<=1000000):IntKind.i64.wrap ((n:Int) - 1)=((n - 1:Nat):Int):=by rw[IntKind.wrap_i64];omega
def EnS (w:World) (E:En) (b1 b2:Bool) (g:Nat) (w':World):Prop:=Bl w w'/\(b1=true->w.heap.size<=g/\EnAt w' g (bif b2 then E else enZ))
variable {b1 b2:Bool}
theorem EnS.start (h:Bl w w'):EnS w E false false g w':=⟨h,fun h=>by cases h⟩
theorem EnS.read {w'':World} (h:EnS w E b1 b2 g w') (hb:Bl w' w''):EnS w E b1 b2 g w'':=⟨tb_ h.1 hb,fun h1=>⟨(h.2 h1).1,(h.2 h1).2.on hb⟩⟩
theorem EnS.new (h:EnS w E b1 b2 g w') (h2:b2=false):EnS w E true b2 w'.heap.size (w'.alloc (.cells Tryz.zeroCells60 60)):=by
 subst h2;exact ⟨h.1.alloc h.1.size _,fun _=>⟨h.1.size,qbm_ w'⟩⟩
theorem EnS.put (h:EnS w E b1 b2 g w') (h1:b1=true):EnS w E b1 true g (w'.setRow g (enA E)):=by
 obtain ⟨h3,h4⟩:=h.2 h1;exact ⟨below_setRow h.1 h3 _,fun _=>⟨h3,Has.row h4 _⟩⟩
theorem EnS.has (h:EnS w E true b2 g w'):Has w' g (enA (bif b2 then E else enZ)) 60:=(h.2 rfl).2
end
structure TwH (w:World) (cb bt tip:Nat) (E:En):Prop where
 c0:∀ w',Bl w w'->w'.cell? ⟨cb,0,none⟩=some (pp_ bt)
 c2:∀ w',Bl w w'->w'.cell? ⟨cb,2,none⟩=some (i_ tip)/\w'.frozen? ⟨cb,2,none⟩=false
 tip_:∀ w',Bl w w'->Ca_ 18 #[pp_ cb] w' (i_ tip)
 at_:∀ w',Bl w w'->Ca_ 29 #[pp_ bt,i_ tip] w' (.tuple #[.agg (enA E),.bool true])
variable {w w0 w':World} {cb bt tip bb mr mb mg bm rb ag n c B:Nat} {E:En}
theorem qaeg_ (H:Hid (TwH w cb bt tip E)):Ca_ 54 #[pp_ cb,i_ tip] w (.bool false):=by
 have h0:((tip:Int)==(tip:Int))=true:=by simp
 have hB:=Below.refl w.heap.size w;go_enter Tryz.func54,Tryz.ntmps54;go_wp2_with fail
 refine (H.out.tip_ _ hB).mono ?_;rintro e v1 ⟨rfl,hb⟩;replace hB:=tb_ hB hb;clear hb;go_wp2_with fail
 go_ret;exact ⟨rfl,hB⟩
theorem qaeh_ (H:Hid (TwH w cb bt tip E)) (hE:E.ok) (t:Nat) (h0:((tip:Int)==(t:Int))=false) (on:Bool) (ht:Nat) (hh:Hid (E.ht=(ht:Int))) (z:Nat) (hz:Hid (on=false->E.up=(z:Int)))
  (KW:HK_ w 35 #[pp_ bt,i_ tip,i_ t] (.bool on))
  (KA:Hid (∀w',on=true->Bl w w'->Ca_ 69 #[pp_ bt,i_ t,i_ (IntKind.i64.wrap ((ht:Int)+1))] w' (i_ z))) :
  Cl_ 54 #[pp_ cb,i_ t] w fun e w'=>e = .returned (.bool true)/\∃ w1,Bl w w1/\w'=w1.setCell ⟨cb,2,none⟩ (i_ z):=by
 have ze:=qm_ hE;have z0:=qm_ enZ_ok;have hB:=Below.refl w.heap.size w;go_enter Tryz.func54,Tryz.ntmps54;go_wp2_with fail
 refine (H.out.tip_ _ hB).mono ?_;rintro e v1 ⟨rfl,hb⟩;replace hB:=tb_ hB hb;clear hb;go_wp2_with fail
 refine quf_ (fun b1 b2 g w'=>EnS w E b1 b2 g w') 12 13 [3,7,8,12,13] (fun g=>[pp_ cb,pp_ cb,pp_ cb,pp_ bt,pp_ cb,pp_ cb,.pointer (some ⟨cb,2,none⟩),i_ tip,.tuple #[.agg (enA E),.bool true],.tuple #[.agg (enA E),.bool true],.agg (enA E),.bool true,pp_ g,undef,.bool true]) 0 (EnS.start hB.drew)
  ⟨fun b1 b2 g w' _ _ hC=>.val (qe_ rfl rfl (qpu_ (H.out.c0 _ hC.1))) hC,fun b1 b2 g w' _ _ hC=>.val (qe_ rfl rfl (ld_i (H.out.c2 _ hC.1).1)) hC,fun b1 b2 g w' _ _ hC=>.call ((H.out.at_ _ hC.1).mono fun e w'' h=>⟨h.1,hC.read h.2⟩),fun b1 b2 g w' _ f2 hC=>.new w'.heap.size [12] rfl (qrx_ rfl) (hC.new (f2.no (by kernel_rfl))),fun b1 b2 g w' f1 _ hC=>?_,trivial⟩ ?_
 ·obtain rfl:=f1.yes (by kernel_rfl);exact .store rfl (qig_ rfl rfl rfl hC.has (by cases b2 <;> assumption) ze) (hC.put rfl)
 intro g v2 hC;have hB:=hC.1;have hg:EnAt v2 g E:=(hC.2 rfl).2;clear hC;simp only[finT,List.set_cons_zero,List.set_cons_succ,List.tail_cons,List.headD_cons];go_wp2_with fail
 refine wp_tab (fun _ _ w'=>Bl w w'/\EnAt w' g E) 99 99 [3,7,9] [pp_ cb,pp_ cb,pp_ cb,pp_ bt,pp_ cb,pp_ cb,.pointer (some ⟨cb,2,none⟩),i_ tip,i_ t,.bool on] ⟨hB.drew,hg.on (br_.drew)⟩
  ⟨fun _ _ w' _ _ hC=>.val (qe_ rfl rfl (qpu_ (H.out.c0 _ hC.1))) hC,fun _ _ w' _ _ hC=>.val (qe_ rfl rfl (ld_i (H.out.c2 _ hC.1).1)) hC,fun _ _ w' _ _ hC=>.call ((KW.out _ hC.1).mono fun e w'' h=>⟨h.1,tb_ hC.1 h.2,hC.2.on h.2⟩),trivial⟩ ?_
 rintro v3 ⟨hB,hg⟩;simp only[finT,List.set_cons_zero,List.set_cons_succ,List.tail_cons,List.headD_cons];cases on
 ·have c1:=EnAt.up hg hE (h_ (hz.out rfl));obtain ⟨c2,c3⟩:=H.out.c2 _ hB;clear H KW KA hz hh hg;go_wp2_with fail
  go_ret;exact ⟨rfl,v3,hB,rfl⟩
 ·have c1:=EnAt.ht hg hE hh;clear hz hh;go_wp2_with fail
  refine wp_tab (fun b1 _ w'=>∃ w1,Bl w w1/\EnAt w1 g E/\w1.cell? ⟨g,101,none⟩=some (i_ ht)/\w'=bif b1 then w1.setCell ⟨cb,2,none⟩ (i_ z) else w1) 12 99 [4,7,9,12] [pp_ cb,pp_ cb,pp_ cb,pp_ cb,pp_ bt,i_ t,.pointer (some ⟨g,101,none⟩),i_ ht,i_ (IntKind.i64.wrap ((ht:Int)+1)),i_ z,pp_ cb,.pointer (some ⟨cb,2,none⟩),undef] ⟨_,hB.drew,hg.on (br_.drew),br_.drew.cell (block_lt_of_cell c1) |>.trans c1,rfl⟩ ⟨fun b1 _ w' f1 _ hC=>?_,fun b1 _ w' f1 _ hC=>?_,fun b1 _ w' f1 _ hC=>?_,fun b1 _ w' f1 _ hC=>?_,trivial⟩ ?_
  ·obtain rfl:=f1.no (by kernel_rfl);obtain ⟨w1,h1,h2,h3,rfl⟩:=hC;exact .val (qe_ rfl rfl (qpu_ (H.out.c0 _ h1))) ⟨_,h1,h2,h3,rfl⟩
  ·obtain rfl:=f1.no (by kernel_rfl);obtain ⟨w1,h1,h2,h3,rfl⟩:=hC;exact .val (qe_ rfl rfl (ld_i h3)) ⟨_,h1,h2,h3,rfl⟩
  ·obtain rfl:=f1.no (by kernel_rfl);obtain ⟨w1,h1,h2,h3,rfl⟩:=hC;exact .call ((KA.out _ trivial h1).mono fun e w'' h=>⟨h.1,w'',tb_ h1 h.2,h2.on h.2,(h.2.cell (block_lt_of_cell h3)).trans h3,rfl⟩)
  ·obtain rfl:=f1.no (by kernel_rfl);obtain ⟨w1,h1,h2,h3,rfl⟩:=hC;exact .store rfl (qbs_ rfl rfl rfl (sv_i (H.out.c2 _ h1).2 (H.out.c2 _ h1).1)) ⟨_,h1,h2,h3,rfl⟩
  ·rintro v4 ⟨w1,h1,_,_,rfl⟩;have H1:=h_ h1;clear h1 H KW KA hg c1 hB;simp only[finT,List.set_cons_zero,List.set_cons_succ,List.tail_cons,List.headD_cons];go_wp2_with fail
   go_ret;exact ⟨rfl,w1,H1.out,rfl⟩
variable {r:Ru} {x:Bxs} {Mt Mr M:List Ent} {Sp Sr S:Mk.St} {La L K:List Int}
theorem CCo.enok (h:CCo w0 w r bb cb mr bt mb mg bm rb x Mt Mr Sp Sr tip La) {i:Nat} {e:Ent} (he:Mt[i]?=some e):(enOf r e).ok:=by
 obtain ⟨F,ls,h1,_⟩:=h.tr;obtain ⟨_,_,_,h2⟩:=h1.parts;exact qcz_ h2 he
theorem tw_at (h:CCo w0 w r bb cb mr bt mb mg bm rb x Mt Mr Sp Sr tip La) (hM:Ok r Mt) (hl:Mt.length<=900) {t:Nat} {L K:List Int} (hL:Row Mt (tip:Int) L) (hK:Row Mt (t:Int) K) :
  Cl_ 54 #[pp_ cb,i_ t] w fun e w'=>e = .returned (.bool (decide (0<Ch.cnt K L)))/\∃ t2:Nat,Row Mt (t2:Int) (Ch.stp K L)/\Ch.cnt K (Ch.stp K L)=Ch.cnt K L - 1/\CCo w0 w' r bb cb mr bt mb mg bm rb x Mt Mr Sp Sr t2 La:=by
 obtain ⟨e,_,he,_,_⟩:=Ch.qay_ hL;have H:Hid (TwH w cb bt tip (enOf r e)):=h_ ⟨fun w' hb=>(h.below hb).c0,fun w' hb=>⟨(h.below hb).c2,(h.below hb).free.1⟩,fun w' hb=>ctip_w (h.below hb).c2,fun w' hb=>co_at (h.below hb) he⟩;by_cases hLK:L=K;obtain rfl:=(Ch.qmt_ hL hK).1 hLK;subst hLK;refine (qaeg_ H).mono ?_;rintro e w' ⟨rfl,hb⟩;rw[Ch.qje_,Ch.qjd_ rfl,Ch.qje_];exact ⟨rfl,tip,hL,rfl,h.below hb⟩;have hn:=Ch.qjf_ hLK hL.last.1
 have h0:((tip:Int)==(t:Int))=false:=by
  rw[beq_eq_false_iff_ne];intro e;exact hLK ((Ch.qmt_ hL hK).2 (by omega))
 rw[hn,Nat.add_sub_cancel,decide_eq_true (Nat.succ_pos _)];have hlen:=hL.len hM he
 have hw:IntKind.i64.wrap (((e.hs.length:Nat):Int)+1)=((e.hs.length+1:Nat):Int):=by
  have:=Mk.qep_ hM hL;rw[IntKind.wrap_i64];omega
 have KW:∀ on,pb (Anc Mt (tip:Int) (t:Int))=on->HK_ w 35 #[pp_ bt,i_ tip,i_ t] (.bool on):=fun on hon=>h_ fun w' hb=>by
  have:=qabz_ (h.below hb) hM hl (tip:Int) (t:Int);rwa [hon] at this
 have fin:∀ (z:Nat),Row Mt (z:Int) (Ch.stp K L)->∀ w',(∃w1,Bl w w1/\w'=w1.setCell ⟨cb,2,none⟩ (i_ z))->∃ t2:Nat,Row Mt (t2:Int) (Ch.stp K L)/\Ch.cnt K (Ch.stp K L)=Ch.cnt K (Ch.stp K L)/\CCo w0 w' r bb cb mr bt mb mg bm rb x Mt Mr Sp Sr t2 La:=by
  rintro z hz w' ⟨w1,hb,rfl⟩;exact ⟨z,hz,rfl,(h.below hb).setTip z⟩
 by_cases hp:L <+: K
 ·obtain ⟨z,hz,_,hR⟩:=Ch.qadq_ hM hK hp hLK;refine (qaeh_ H (h.enok he) t h0 true e.hs.length (h_ rfl) z (h_ fun h=>by cases h) (KW true (Mk.qeo_.2 ((Ch.pre_of hL hK).2 hp))) (h_ fun w' _ hb=>?_)).mono fun e w' h=>⟨h.1,fin z hR w' h.2⟩
  obtain ⟨_,_,ht,_,_⟩:=Ch.qay_ hK;rw[hw];exact qrw_ (h.below hb) hM hl _ _ _ (.inl ⟨Ar.isP_of ht,by omega,K,hK,by rw[Int.toNat_natCast,<-hlen];exact hz⟩)
 obtain ⟨z,e2,h2,hu,_,hR⟩:=Ch.qvh_ hM hL hK hp;rw[he] at h2;cases h2;exact (qaeh_ H (h.enok he) t h0 false e.hs.length (h_ rfl) z (h_ fun _=>hu) (KW false (Mk.qnj_.2 fun ha=>hp ((Ch.pre_of hL hK).1 ha))) (h_ fun w' h=>by cases h)).mono fun e w' h=>⟨h.1,fin z hR w' h.2⟩
theorem cstep_w (cq:Option Addr) (t:Int) (b:Bool) (J:World->Prop) (KT:HK_ w 19 #[.pointer cq] (i_ t)) (KW:HB_ w fun w'=>Cl_ 54 #[.pointer cq,i_ t] w' fun e w''=>e = .returned (.bool b)/\J w'') :
  Cl_ 21 #[.pointer cq] w fun e w'=>e = .returned (.bool b)/\J w':=by
 have hB:=Below.refl w.heap.size w;go_enter Tryz.func21,Tryz.ntmps21;go_wp2_with fail
 refine (KT.out _ hB).mono ?_;rintro e v1 ⟨rfl,hb⟩;replace hB:=tb_ hB hb;clear hb;go_wp2_with fail
 refine (KW.out _ hB).mono ?_;rintro e v2 ⟨rfl,hJ⟩;have HJ:Hid (J v2):=h_ hJ;clear hJ;go_wp2_with fail
 go_ret;exact ⟨rfl,HJ.out⟩
theorem qpw_ (cq:Option Addr) (t:Int) (KT:HK_ w 19 #[.pointer cq] (i_ t)) (N:Nat) (hN:N<=1000) (St:World->Nat->Prop) (h0:∀ w',Bl w w'->St w' N) (KW:Hid (∀w' n,St w' n->Cl_ 54 #[.pointer cq,i_ t] w' fun e w''=>e = .returned (.bool (decide (0<n)))/\St w'' (n - 1))) :
  Cl_ 22 #[.pointer cq] w fun e w'=>e = .returned (i_ N)/\St w' 0:=by
 have hB:=Below.refl w.heap.size w;go_enter Tryz.func22,Tryz.ntmps22;go_wp2_with fail
 refine (KT.out _ hB).mono ?_;rintro e v1 ⟨rfl,hb⟩;replace hB:=tb_ hB hb;clear hb;have hS:=h0 _ hB;clear h0 hB KT;go_wp2_with fail
 go_loopw [4] (fun u wr=>∃ k n:Nat,k+n=N/\u = i_ k/\St wr n) (fun u _=>N - (intOf u).toNat)
 case atStart=>exact ⟨0,N,by omega,rfl,hS⟩
 case round=>
  clear hS;obtain ⟨k,n,hk,rfl,hS⟩:=hrel;have K1:=h_ (KW.out _ n hS);clear hS;rcases Nat.eq_zero_or_pos n with rfl|hn
  ·obtain rfl:k=N:=by omega
   clear hk;go_wp2_with fail
   refine K1.out.mono ?_;rintro e v5 ⟨rfl,hS⟩;have HS:=h_ hS;clear hS K1;rw[decide_eq_false (Nat.lt_irrefl 0)];go_wp2_with fail
   go_ret;exact ⟨rfl,HS.out⟩
  ·go_wp2_with fail
   refine K1.out.mono ?_;rintro e v5 ⟨rfl,hS⟩;clear K1;rw[decide_eq_true hn];go_wp2_with fail
   go_roundw
   case rel=>exact ⟨k+1,n - 1,by omega,by go_num,hS⟩
   case measure=>simp[intOf];omega
structure RsH (w:World) (mr bm rb ag n c:Nat) (L:List Int):Prop where
 len:n=L.length
 pos:0<n
 few:n<=900
 cap:n<=c
 m0:∀ w',Bl w w'->w'.cell? ⟨mr,0,none⟩=some (pp_ bm)
 m1:∀ w',Bl w w'->w'.cell? ⟨mr,1,none⟩=some (pp_ rb)
 m2:∀ w',Bl w w'->w'.cell? ⟨mr,2,none⟩=some (.slice (sp_ ag) n c)/\w'.frozen? ⟨mr,2,none⟩=false
 row:∀ w',Bl w w'->∀ (k:Nat) (z:Int),L[k]?=some z->w'.cell? ⟨ag,k,none⟩=some (i_ z)
theorem RsH.on (h:RsH w mr bm rb ag n c L) (hb:Bl w w'):RsH w' mr bm rb ag n c L:=by
 obtain ⟨h1,h2,h3,h4,h5,h6,h7,h8⟩:=h;have q:∀ w2,Bl w' w2->Bl w w2:=fun w2 h=>tb_ hb h
 exact ⟨h1,h2,h3,h4,fun w2 h=>h5 w2 (q w2 h),fun w2 h=>h6 w2 (q w2 h),fun w2 h=>h7 w2 (q w2 h),fun w2 h=>h8 w2 (q w2 h)⟩
theorem rtip_w (H:Hid (RsH w mr bm rb ag n c L)) (z:Int) (hz:Hid (L[n - 1]?=some z)):Ca_ 45 #[pp_ mr] w (i_ z):=by
 have hw:=qpv_ H.out.pos (Nat.le_trans H.out.few (by decide));have hn1:n - 1<n:=Nat.sub_lt H.out.pos (by decide);have hB:=Below.refl w.heap.size w;go_enter Tryz.func45,Tryz.ntmps45;go_wp2_with fail
 refine wp_tab (fun _ _ w'=>Bl w w') 99 99 [3,7,10,11] [pp_ mr,pp_ mr,.pointer (some ⟨mr,2,none⟩),.slice (sp_ ag) n c,pp_ mr,pp_ mr,.pointer (some ⟨mr,2,none⟩),.slice (sp_ ag) n c,i_ n,i_ (IntKind.i64.wrap ((n:Int) - 1)),.pointer (some ⟨ag,n - 1,none⟩),i_ z,i_ z] hB.drew
  ⟨fun _ _ w' _ _ hC=>.val (qe_ rfl rfl (ld_is (H.out.m2 _ hC).1)) hC,fun _ _ w' _ _ hC=>.val (qe_ rfl rfl (ld_is (H.out.m2 _ hC).1)) hC,fun _ _ w' _ _ hC=>.val (ex_idx rfl rfl (congrArg (Value.int .i64) hw) (qjk_ _ _ _ _ _ hn1)) hC,fun _ _ w' _ _ hC=>.val (qe_ rfl rfl (ld_i (H.out.row _ hC _ _ hz.out))) hC,trivial⟩ ?_
 intro v1 hB;simp only[finT,List.set_cons_zero,List.set_cons_succ,List.tail_cons,List.headD_cons];go_wp2_with fail
 go_ret;exact ⟨rfl,hB⟩
variable {v:Value} {xs:List Value}
theorem qnr_ {B':Nat} {T:TypeId} (h:w.ownsRow B T 1 v n xs) (hb:B'<=B):w.ownsRow B' T 1 v n xs:=⟨h.1,h.2.imp id fun ⟨g,cap,cur,h1,h2,h3⟩=>⟨g,cap,cur,h1,Nat.le_trans hb h2,h3⟩⟩
variable {P:Prop}
theorem qxf_ [Decidable P] (h:P):Ending.returned (.bool true) = .returned (.bool (decide P)):=by rw[decide_eq_true h]
theorem ret_no [Decidable P] (h:¬P):Ending.returned (.bool false) = .returned (.bool (decide P)):=by rw[decide_eq_false h]
theorem qjp_ (h:w.ownsRow B 3 1 v n (K.map (Value.int .i64))) (hn:0<n):∃ g c,v = .slice (sp_ g) n c/\n<=c/\B<=g/\g<w.heap.size/\∀ (k:Nat) (z:Int),K[k]?=some z->w.cell? ⟨g,k,none⟩=some (i_ z):=by
 obtain ⟨hl,⟨rfl,h0⟩|⟨g,c,cur,rfl,q1,q2,q3,q4,q5,q6⟩⟩:=h;omega
 ·refine ⟨g,c,rfl,q3,q1,(Array.getElem?_eq_some_iff.1 q2).1,fun k z hk=>?_⟩;have e:(cur.toList.take (n*1))[k]?=some (Value.int .i64 z):=by rw[q6,List.getElem?_map,hk];rfl
  rw[Has.cell (show Has w g cur 3 from q2),<-Array.getElem?_toList];rw[List.getElem?_take] at e;split at e;exact e;cases e
def Rs (w:World) (mr ag n c:Nat) (L K:List Int) (w':World):Prop:=(L=K/\Bl w w')\/(L ≠ K/\L <+: K/\∃ w1 v,Bl w w1/\w1.ownsRow w.heap.size 3 1 v (n+1) ((Ch.stp K L).map (Value.int .i64))/\w'=w1.setCell ⟨mr,2,none⟩ v)\/(¬L <+: K/\∃ w1,Bl w w1/\w'=w1.setCell ⟨mr,2,none⟩ (.slice (sp_ ag) (n - 1) c))
def RgC (w v3:World) (mr n:Nat) (L:List Int) (z:Int) (fl:Nat->Bool) (g:(Nat × Value) × Nat × Value) (w':World):Prop :=
 (fl 15=true->∃ w1,Bl w w1/\w1.ownsRow w.heap.size 3 1 g.2.2 (n+1) ((L ++ [z]).map (Value.int .i64))/\w'=w1.setCell ⟨mr,2,none⟩ g.2.2)/\
 (fl 15=false->Bl v3 w'/\
  (fl 1=true->fl 6=false->w'.ownsRow v3.heap.size 3 1 (.slice (some ⟨g.1.1,0,none⟩) 0 0) 0 (([]:List Int).map (Value.int .i64)))/\
  (fl 6=true->fl 12=false->w'.ownsRow v3.heap.size 3 1 g.1.2 n (L.map (Value.int .i64)))/\
  (fl 11=true->fl 12=false->Has w' g.2.1 #[i_ z] 3/\(fl 1=true->fl 6=false->g.2.1 ≠ g.1.1))/\
  (fl 12=true->w'.ownsRow v3.heap.size 3 1 g.2.2 (n+1) ((L ++ [z]).map (Value.int .i64))))
theorem qhg_ {lo hi:Nat} (s x:Tmp) (hsx:x ≠ s) (base:Nat) (v:Value) (n:Nat) (l:List Int) (hown:w.ownsRow base 3 1 v n (l.map (Value.int .i64)))
  (ad:Option Addr) (m c:Nat) (z:List Int) (hnil:ad=none->m=0/\c=0) (hz:z.length=m) (hL:MM.Lie w lo hi ad z) (hn:n+m<=1000) (hbase:base<=w.heap.size) :
  ∃ v' w',(∀(ρ:Operand->Value) (o:Oper),o.op = .call { callee:=.builtin .append,args:=#[.tmp s,.tmp x],argTypes:=#[49,49] }->o.type=49->ρ (.tmp s)=v->ρ (.tmp x) = .slice ad m c->(execOp ρ o).run Tryz.prog w = .ok (.value v') w')/\w'.ownsRow base 3 1 v' (n+m) ((l ++ z).map (Value.int .i64))/\w.grownBy w' v.ownBlock:=by
 obtain ⟨v',w',h1,h2,h3⟩:=qox_ (ρ:=fun y=>match y with | .tmp q=>if q=s then v else .slice ad m c|_=>undef) (.tmp s) (.tmp x) base v n l (if_pos rfl) hown ad m c z (if_neg hsx) hnil hz hL hn hbase;refine ⟨v',w',fun ρ o ho hty hs hx=>?_,h2,h3⟩;rw[<-h1 o ho hty];refine congrArg (fun q:Sem Next=>q.run Tryz.prog w) (execOp_congr o (fun cs b e=>by rw[ho] at e;cases e) fun y hy=>?_);rw[ho] at hy;have hy:y = .tmp s\/y = .tmp x:=by simpa [Op.operands,Call.operands] using hy
 rcases hy with rfl|rfl
 exact hs.trans (if_pos rfl).symm;exact hx.trans (if_neg hsx).symm
theorem qii_ (hb:Bl w w'):Kp (fun _=>False) w w':=Kp.of hb
theorem qns_ (h:w.ownsRow B 3 1 v n xs) (hb:Bl w w'):w'.ownsRow B 3 1 v n xs:=kp_row h (Kp.of (F:=fun _=>False) hb) (fun _ _ h=>h)
theorem qpx_ (hr:∀ (k:Nat) (z:Int),L[k]?=some z->w.cell? ⟨ag,k,none⟩=some (i_ z)):MM.Lie w 0 (ag+1) (sp_ ag) L:=fun _=>⟨ag,0,rfl,Nat.zero_le _,Nat.lt_succ_self _,fun k hk=>by
 rw[Nat.zero_add];refine (hr k L[k] (List.getElem?_eq_getElem hk)).trans ?_;rw[List.getD_eq_getElem?_getD,List.getElem?_eq_getElem hk];rfl⟩
theorem rstep_w (H:Hid (RsH w mr bm rb ag n c L)) (t:Int) (m:Nat) (hm:m=K.length) (hm0:0<m) (z0:Int) (hz0:Hid (L[n - 1]?=some z0)) (hpre:Hid (L <+: K ↔ n<=m/\K[n - 1]?=some z0)) (KB:HK_ w 46 #[pp_ rb,pp_ bm] (i_ t)) (KP:HB_ w fun w'=>Cl_ 66 #[pp_ bm,i_ t] w' fun e w''=>∃ v,e = .returned v/\w''.ownsRow w'.heap.size 3 1 v m (K.map (Value.int .i64))/\Bl w' w'') :
  Cl_ 44 #[pp_ mr] w fun e w'=>e = .returned (.bool (decide (¬L=K)))/\Rs w mr ag n c L K w':=by
 have hB:=Below.refl w.heap.size w;have c2:=(H.out.m2 w hB).1;have hn0:=H.out.pos;have hnc:=H.out.cap;have hw:=qpv_ H.out.pos (Nat.le_trans H.out.few (by decide));have HM:=h_ hm;clear hm;go_enter Tryz.func44,Tryz.ntmps44;go_wp2_with fail
 refine quf_ (fun b1 _ v w'=>Bl w w'/\(b1=true->w'.ownsRow w.heap.size 3 1 v m (K.map (Value.int .i64)))) 13 99 [3,7,11,12,13] (fun v=>[pp_ mr,pp_ mr,pp_ mr,pp_ bm,pp_ mr,pp_ mr,.pointer (some ⟨mr,1,none⟩),pp_ rb,pp_ mr,pp_ mr,pp_ mr,pp_ bm,i_ t,v,v]) undef ⟨hB.drew,fun h=>by cases h⟩
  ⟨fun _ _ _ _ _ _ hC=>.val (qe_ rfl rfl (ld_rar (H.out.m0 _ hC.1))) hC,fun _ _ _ _ _ _ hC=>.val (qe_ rfl rfl (ld_rmk (H.out.m1 _ hC.1))) hC,fun _ _ _ _ _ _ hC=>.val (qe_ rfl rfl (ld_rar (H.out.m0 _ hC.1))) hC,fun b1 _ _ _ f1 _ hC=>?_,fun _ _ _ _ _ _ hC=>.callN [13,14] ((KP.out _ hC.1).mono fun e w'' h=>?_),trivial⟩ ?_
 ·obtain rfl:=f1.no (by kernel_rfl);exact .call ((KB.out _ hC.1).mono fun e w'' h=>⟨h.1,tb_ hC.1 h.2,fun h=>by cases h⟩)
 obtain ⟨v,h1,h2,h3⟩:=h;exact ⟨v,rfl,h1,tb_ hC.1 h3,fun _=>qnr_ h2 hC.1.size⟩;rintro v v2 ⟨hB,hv⟩;replace hv:=hv rfl;obtain ⟨kg,kc,rfl,hkc,_,hkg,hrow⟩:=qjp_ hv hm0;have HR:=h_ hrow;have HB2:=h_ hB;have KT:=h_ (fun w' (hb:Bl v2 w')=>rtip_w (h_ (H.out.on (tb_ HB2.out hb))) z0 hz0);clear hv hrow hB KB KP c2;simp only[finT,List.set_cons_zero,List.set_cons_succ,List.tail_cons,List.headD_cons];go_wp2_with fail
 obtain ⟨n1,e1⟩:∃ n1,n1=n - 1:=⟨_,rfl⟩;have E1:=h_ e1;rw[<-e1] at hw;have hn1:n1<n:=by omega
 have hcut:=fun w'=>qajn_ ag n c n1 (by omega) hnc w'
 by_cases hnm:n<=m
 ·have hb1:decide ((n:Int)<=(m:Int))=true:=decide_eq_true (by omega);obtain ⟨x,hx⟩:∃ x,K[n1]?=some x:=⟨_,List.getElem?_eq_getElem (by rw[<-HM.out];omega)⟩;have HX:=h_ hx;have hkx:∀ w',Bl v2 w'->w'.cell? ⟨kg,n1,none⟩=some (i_ x):=fun w' hb=>(hb.cell (p:=⟨kg,n1,none⟩) hkg).trans (HR.out n1 x hx)
  have HKX:=h_ hkx;clear hx hkx e1;cases hb2:(x==z0)
  ·-- it isn't ahead of it
   have hp:¬L <+: K:=fun h=>by
    have:=(hpre.out.1 h).2;rw[<-E1.out,HX.out] at this;rw[Option.some.inj this] at hb2;simp at hb2
   refine wp_tab (fun _ _ w'=>Bl v2 w') 99 99 [3,8,9,11,12] [i_ n,.slice (sp_ kg) m kc,i_ m,.bool true,.bool true,.slice (sp_ kg) m kc,i_ n,i_ (IntKind.i64.wrap ((n:Int) - 1)),.pointer (some ⟨kg,n1,none⟩),i_ x,pp_ mr,i_ z0,.bool false,.bool false,.bool false] (br_.drew) ⟨fun _ _ _ _ _ h=>.val (qxe_ rfl rfl rfl hb1) h,fun _ _ _ _ _ h=>.val (ex_idx rfl rfl (congrArg (Value.int .i64) hw) (qjk_ _ _ _ _ _ (by omega))) h,fun _ _ _ _ _ h=>.val (qe_ rfl rfl (ld_i (HKX.out _ h))) h,fun _ _ _ _ _ h=>.call ((KT.out _ h).mono fun _ _ q=>⟨q.1,tb_ h q.2⟩),fun _ _ _ _ _ h=>.val (ex_eqi rfl rfl rfl hb2) h,trivial⟩ ?_;intro v3 hb3;have hB:=tb_ HB2.out hb3;obtain ⟨c2,c3⟩:=H.out.m2 _ hB;have HP:=h_ hp;have HB:=h_ hB;clear H KT hb3 hpre hp hB hb1 hb2;simp only[finT,List.set_cons_zero,List.set_cons_succ,List.tail_cons,List.headD_cons];go_wp2_with fail
   go_ret;exact ⟨qxf_ (fun e:L=K=>HP.out (by rw[e];exact List.prefix_rfl)),.inr (.inr ⟨HP.out,v3,HB.out,by rw[<-E1.out]⟩)⟩
  ·have hp:L <+: K:=hpre.out.2 ⟨hnm,by rw[<-E1.out,HX.out,eq_of_beq hb2]⟩;have HP:=h_ hp;refine wp_tab (fun _ _ w'=>Bl v2 w') 99 99 [3,8,9,11,12] [i_ n,.slice (sp_ kg) m kc,i_ m,.bool true,.bool true,.slice (sp_ kg) m kc,i_ n,i_ (IntKind.i64.wrap ((n:Int) - 1)),.pointer (some ⟨kg,n1,none⟩),i_ x,pp_ mr,i_ z0,.bool true,.bool true,.bool true] (br_.drew) ⟨fun _ _ _ _ _ h=>.val (qxe_ rfl rfl rfl hb1) h,fun _ _ _ _ _ h=>.val (ex_idx rfl rfl (congrArg (Value.int .i64) hw) (qjk_ _ _ _ _ _ (by omega))) h,fun _ _ _ _ _ h=>.val (qe_ rfl rfl (ld_i (HKX.out _ h))) h,fun _ _ _ _ _ h=>.call ((KT.out _ h).mono fun _ _ q=>⟨q.1,tb_ h q.2⟩),fun _ _ _ _ _ h=>.val (ex_eqi rfl rfl rfl hb2) h,trivial⟩ ?_;intro v3 hb3;have hB:=tb_ HB2.out hb3;have HB:=h_ hB;have Hb3:=h_ hb3;clear KT hpre hp hB hb1 hb2 hb3;simp only[finT,List.set_cons_zero,List.set_cons_succ,List.tail_cons,List.headD_cons];by_cases hLK:L=K
   ·have hnm2:((n:Int)==(m:Int))=true:=(by rw[HM.out,H.out.len,hLK];simp);have HLK:=h_ hLK;clear hLK H;(go_wp2_with fail);go_ret;exact ⟨ret_no (fun h=>h HLK.out),.inl ⟨HLK.out,HB.out⟩⟩
   ·have hlt:n<m:=(by rw[HM.out,H.out.len];exact Ch.pre_lt hLK HP.out);have hnm2:((n:Int)==(m:Int))=false:=(by rw[beq_eq_false_iff_ne];omega);obtain ⟨z,hz⟩:∃ z,K[n]?=some z:=⟨_,List.getElem?_eq_getElem (by rw[<-HM.out];exact hlt)⟩
    have hst:Ch.stp K L=L ++ [z]:=by
     rw[Ch.stp_on hLK HP.out,List.take_add_one,<-H.out.len,hz,H.out.len,<-List.prefix_iff_eq_take.1 HP.out];rfl
    have HKZ:Hid (∀w',Bl v2 w'->w'.cell? ⟨kg,n,none⟩=some (i_ z)):=h_ fun w' hb=>(hb.cell (p:=⟨kg,n,none⟩) hkg).trans (HR.out n z hz)
    have HST:=h_ hst;have HLK:=h_ hLK;clear hLK hst hz;(go_wp2_with fail);have hsl:∀ w',(Instr.buildSlice 49 0 #[]).run Tryz.prog w' = .ok (.slice (some ⟨w'.heap.size,0,none⟩) 0 0) (w'.alloc (.cells #[] 3)):=fun _=>by kernel_rfl
    have hs1:∀ w',(Instr.buildSlice 49 1 #[(0,i_ z)]).run Tryz.prog w' = .ok (.slice (some ⟨w'.heap.size,0,none⟩) 1 1) (w'.alloc (.cells #[i_ z] 3)):=fun _=>by kernel_rfl
    refine que_ (RgC w v3 mr n L z) [1,6,11,12,15] [1,5,6,9,10,11,12,15] (fun g=>[pp_ mr,.slice (some ⟨g.1.1,0,none⟩) 0 0,pp_ mr,pp_ mr,.pointer (some ⟨mr,2,none⟩),.slice (sp_ ag) n c,g.1.2,.slice (sp_ kg) m kc,i_ n,.pointer (some ⟨kg,n,none⟩),i_ z,.slice (some ⟨g.2.1,0,none⟩) 1 1,g.2.2,pp_ mr,.pointer (some ⟨mr,2,none⟩),undef]) ((0,undef),0,undef) ⟨fun h=>(by cases h),fun _=>⟨br_.drew,fun h=>(by cases h),fun h=>(by cases h),fun h=>(by cases h),fun h=>by cases h⟩⟩
     ⟨fun fl g w' f hC=>?_,fun fl g w' f hC=>?_,fun fl g w' f hC=>?_,fun fl g w' f hC=>?_,fun fl g w' f hC=>?_,fun fl g w' f hC=>?_,fun fl g w' f hC=>?_,fun fl g w' f hC=>?_,trivial⟩ ?_
    ·have h15:=f.no 15 (by kernel_rfl);have h6:=f.no 6 (by kernel_rfl);have h12:=f.no 12 (by kernel_rfl);obtain ⟨q1,q2,q3,q4,q5⟩:=hC.2 h15;have hb:Bl w' (w'.alloc (.cells #[] 3)):=ba_;refine .new ((w'.heap.size,g.1.2),g.2) [1] rfl (qacb_ rfl (hsl w')) ⟨fun h=>ff h15 h,fun _=>⟨tb_ q1 hb,fun _ _=>?_,fun h=>ff h6 h,fun h1 h2=>⟨(qii_ hb).has (q4 h1 h2).1 (fun h=>h),fun _ _=>?_⟩,fun h=>ff h12 h⟩⟩;exact qnr_ (World.ownsRow_made w' #[] 0 (Nat.le_refl _) (by decide) rfl) q1.size;exact Nat.ne_of_lt (q4 h1 h2).1.lt
    ·have h15:=f.no 15 (by kernel_rfl);exact .val (qe_ rfl rfl (ld_is (H.out.m2 _ (HB.out.trans ((hC.2 h15).1.mono HB.out.size))).1)) hC
    ·have h15:=f.no 15 (by kernel_rfl);have h12:=f.no 12 (by kernel_rfl);have h1:=f.yes 1 (by kernel_rfl);have h6:=f.no 6 (by kernel_rfl);obtain ⟨q1,q2,q3,q4,q5⟩:=hC.2 h15;have hbw:=tb_ HB.out q1;obtain ⟨v',w2,g1,g2,g3⟩:=qhg_ (w:=w') 48 52 (by decide) v3.heap.size _ 0 [] (q2 h1 h6) (sp_ ag) n c L (fun h=>by cases h) H.out.len.symm (qpx_ (H.out.row _ hbw)) (by have:=H.out.few;omega) q1.size;rw[Nat.zero_add,List.nil_append] at g2;have hg:Bl v3 w2:=q1.grown g3 q1.size fun k hk=>(q2 h1 h6).lt k hk |>.1
     refine .new ((g.1.1,v'),g.2) [6] rfl (g1 _ _ rfl rfl rfl rfl) ⟨fun h=>ff h15 h,fun _=>⟨hg,fun _ h=>(by cases h),fun _ _=>g2,fun h11 _=>⟨?_,fun _ h=>by cases h⟩,fun h=>ff h12 h⟩⟩;exact (g3.block _ (q4 h11 h12).1.lt (fun e=>(q4 h11 h12).2 h1 h6 (Option.some.inj e))).trans (q4 h11 h12).1
    exact .val (ex_idx rfl rfl rfl (qjk_ _ _ _ _ _ hlt)) hC
    ·have h15:=f.no 15 (by kernel_rfl);exact .val (qe_ rfl rfl (ld_i (HKZ.out _ (Hb3.out.trans ((hC.2 h15).1.mono Hb3.out.size))))) hC
    ·have h15:=f.no 15 (by kernel_rfl);have h12:=f.no 12 (by kernel_rfl);obtain ⟨q1,q2,q3,q4,q5⟩:=hC.2 h15;have hb:Bl w' (w'.alloc (.cells #[i_ z] 3)):=ba_;refine .new (g.1,w'.heap.size,g.2.2) [11] rfl (qbu_ rfl rfl (hs1 w')) ⟨fun h=>ff h15 h,fun _=>⟨tb_ q1 hb,fun h1 h2=>qns_ (q2 h1 h2) hb,fun h1 h2=>qns_ (q3 h1 h2) hb,fun _ _=>⟨Has.new _ _,fun h1 h2=>?_⟩,fun h=>ff h12 h⟩⟩;exact Nat.ne_of_gt ((q2 h1 h2).lt _ rfl).2
    ·have h15:=f.no 15 (by kernel_rfl);have h12:=f.no 12 (by kernel_rfl);have h6:=f.yes 6 (by kernel_rfl);have h11:=f.yes 11 (by kernel_rfl);obtain ⟨q1,q2,q3,q4,q5⟩:=hC.2 h15
     obtain ⟨v',w2,g1,g2,g3⟩:=qhg_ (w:=w') 53 58 (by decide) v3.heap.size _ n L (q3 h6 h12) (some ⟨g.2.1,0,none⟩) 1 1 [z] (fun h=>by cases h) rfl (qpx_ fun k y hk=>by
      rw[Has.cell (q4 h11 h12).1 k];match k,hk with
      | 0,hk=>cases hk;rfl
      | k+1,hk=>simp at hk) (by have:=H.out.few;omega) q1.size
     have hg:Bl v3 w2:=q1.grown g3 q1.size fun k hk=>(q3 h6 h12).lt k hk |>.1
     exact .new (g.1,g.2.1,v') [12] rfl (g1 _ _ rfl rfl rfl rfl) ⟨fun h=>ff h15 h,fun _=>⟨hg,fun _ h2=>ff h2 h6,fun _ h=>(by cases h),fun _ h=>(by cases h),fun _=>g2⟩⟩
    ·have h15:=f.no 15 (by kernel_rfl);have h12:=f.yes 12 (by kernel_rfl);obtain ⟨q1,q2,q3,q4,q5⟩:=hC.2 h15;have hbw:=tb_ HB.out q1;obtain ⟨kg2,kc2,e,_⟩:=qjp_ (q5 h12) (Nat.succ_pos _);refine .store rfl (qbs_ rfl rfl rfl (p:=⟨mr,2,none⟩) (u:=g.2.2) ?_) ⟨fun _=>⟨w',hbw,qnr_ (q5 h12) HB.out.size,rfl⟩,fun h=>by cases h⟩;rw[e];exact sv_is (H.out.m2 _ hbw).2 (H.out.m2 _ hbw).1
    intro g v4 hq;obtain ⟨w1,hq1,hq2,rfl⟩:=hq.1 rfl;have hq:∃ w2 v,Bl w w2/\w2.ownsRow w.heap.size 3 1 v (n+1) ((L ++ [z]).map (Value.int .i64))/\w1.setCell ⟨mr,2,none⟩ g.2.2=w2.setCell ⟨mr,2,none⟩ v:=⟨w1,g.2.2,hq1,hq2,rfl⟩;have HQ:=h_ hq;generalize World.setCell _ _ _=v4 at *;clear hq hq1 hq2;simp only[finT,List.set_cons_zero,List.set_cons_succ,List.tail_cons,List.headD_cons];clear H;(go_wp2_with fail);go_ret;exact ⟨qxf_ HLK.out,.inr (.inl ⟨HLK.out,HP.out,by rw[HST.out];exact HQ.out⟩)⟩
 ·have hb1:decide ((n:Int)<=(m:Int))=false:=decide_eq_false (by omega);have hp:¬L <+: K:=fun h=>hnm (hpre.out.1 h).1
  clear e1;refine wp_tab (fun _ _ w'=>Bl v2 w') 99 99 [3] [i_ n,.slice (sp_ kg) m kc,i_ m,.bool false,.bool false,undef,undef,undef,undef,undef,undef,undef,undef,.bool false,.bool false] (br_.drew) ⟨fun _ _ _ _ _ h=>.val (qxe_ rfl rfl rfl hb1) h,trivial⟩ ?_;intro v3 hb3;have hB:=tb_ HB2.out hb3;obtain ⟨c2,c3⟩:=H.out.m2 _ hB;have HP:=h_ hp;have HB:=h_ hB;clear H KT hb3 hpre hp hB hb1;simp only[finT,List.set_cons_zero,List.set_cons_succ,List.tail_cons,List.headD_cons];go_wp2_with fail
  go_ret;exact ⟨qxf_ (fun e:L=K=>HP.out (by rw[e];exact List.prefix_rfl)),.inr (.inr ⟨HP.out,v3,HB.out,by rw[<-E1.out]⟩)⟩
theorem RsH.of (h:CCo w0 w r bb cb mr bt mb mg bm rb x Mt Mr Sp Sr tip La) (hl:La.length<=900) (h0:0<La.length):∃ ag c,RsH w mr bm rb ag La.length c La:=by
 obtain ⟨ag,c,h1,_,h2⟩:=h.row;exact ⟨ag,c,rfl,h0,hl,h1,fun w' hb=>(h.below hb).m0,fun w' hb=>(h.below hb).m1,fun w' hb=>⟨(h2 w' hb).1,(h.below hb).free.2⟩,fun w' hb=>(h2 w' hb).2⟩
theorem qxg_ (h:CCo w0 w r bb cb mr bt mb mg bm rb x Mt Mr Sp Sr tip La) (hM:Ok r Mr) (hl:Mr.length<=500) {i t:Nat} {K:List Int} (hL:Row Mr (i:Int) La) (hK:Row Mr (t:Int) K) (ht:Mk.top (Hv r Mr) (fun j=>validB Mr Sr (j:Int)) Mr.length=t) :
  Cl_ 44 #[pp_ mr] w fun e w'=>e = .returned (.bool (decide (0<Ch.cnt K La)))/\∃ i2:Nat,Row Mr (i2:Int) (Ch.stp K La)/\Ch.cnt K (Ch.stp K La)=Ch.cnt K La - 1/\CCo w0 w' r bb cb mr bt mb mg bm rb x Mt Mr Sp Sr tip (Ch.stp K La):=by
 have hln:=Mk.qep_ hM hL;have hkn:=Mk.qep_ hM hK;obtain ⟨hl0,hz⟩:=hL.last;obtain ⟨ag,c,HR⟩:=RsH.of h (by omega) hl0;obtain ⟨Fm,hF⟩:=h.rf;have hS:=h.rk;obtain ⟨e,_,he,_,_⟩:=Ch.qay_ hK
 have hpre:La <+: K ↔ La.length<=K.length/\K[La.length - 1]?=some (i:Int):=by
  constructor;intro hp;refine ⟨hp.length_le,?_⟩;obtain ⟨s,rfl⟩:=hp;rw[List.getElem?_append_left (by omega)];exact hz;rintro ⟨_,h2⟩;have:=hL.det (hK.take h2);rw[this];exact List.take_prefix _ _
 refine (rstep_w (h_ HR) (t:Int) K.length rfl hK.last.1 (i:Int) (h_ hz) (h_ hpre) (h_ fun w' hb=>?_) (h_ fun w' hb=>qih_ (hF.below hb) hM (by omega) t e he K hK)).mono ?_;have:=qaji_ (hF.below hb) (hS.below hb) hM hl;rw[ht] at this;exact this;rintro e w' ⟨rfl,hs⟩
 have hc:decide (¬La=K)=decide (0<Ch.cnt K La):=by
  by_cases e:La=K;rw[e,Ch.qje_];simp;rw[Ch.qjf_ e hl0,decide_eq_true e,decide_eq_true (Nat.succ_pos _)]
 refine ⟨by rw[hc],?_⟩;obtain ⟨i2,_,hR⟩:=Ch.stp_row hM hL hK;refine ⟨i2,hR,?_,?_⟩
 ·by_cases e:La=K;rw[Ch.qjd_ e,e,Ch.qje_];have:=Ch.qjf_ e hl0;omega
 rcases hs with ⟨e,hb⟩|⟨e,hp,w1,v,hb,hv,rfl⟩|⟨hp,w1,hb,rfl⟩
 rw[Ch.qjd_ e];exact h.below hb
 ·have hlen:(Ch.stp K La).length=La.length+1:=by
   have:=Ch.pre_lt e hp;rw[Ch.stp_on e hp,List.length_take];omega
  obtain ⟨hl2,⟨_,h0⟩|⟨g,c2,cur,rfl,q1,q2,q3,q4,q5,q6⟩⟩:=hv;omega
  ·rw[Nat.mul_one] at q5 q6;rw[<-hlen,<-q5];refine h.rowNew hb q1 q2 ⟨by omega,fun k z hk=>?_⟩;have hk2:=(List.getElem?_eq_some_iff.1 hk).1;have e2:(cur.toList.take (La.length+1))[k]?=some (Value.int .i64 z):=by rw[q6,List.getElem?_map,hk];rfl
   rw[List.getElem?_take,if_pos (by omega),Array.getElem?_toList] at e2;exact e2
 have:=(h.below hb).rowCut (ag:=ag) (n:=La.length - 1) (c:=c) (by omega) (HR.m2 _ hb).1;rw[Ch.qvg_ hp,List.dropLast_eq_take];exact this
theorem qacc_ (cq:Option Addr) (N:Nat) (hN:N<=1000) (St:World->Nat->Prop) (h0:∀ w',Bl w w'->St w' N) (KW:Hid (∀w' n,St w' n->Cl_ 44 #[.pointer cq] w' fun e w''=>e = .returned (.bool (decide (0<n)))/\St w'' (n - 1))) :
  Cl_ 33 #[.pointer cq] w fun e w'=>e = .returned (i_ N)/\St w' 0:=by
 have hB:=Below.refl w.heap.size w;go_enter Tryz.func33,Tryz.ntmps33;have hS:=h0 _ hB;clear h0 hB;go_wp2_with fail
 go_loopw [3] (fun u wr=>∃ k n:Nat,k+n=N/\u = i_ k/\St wr n) (fun u _=>N - (intOf u).toNat)
 case atStart=>exact ⟨0,N,by omega,rfl,hS⟩
 case round=>
  clear hS;obtain ⟨k,n,hk,rfl,hS⟩:=hrel;have K1:=h_ (KW.out _ n hS);clear hS;rcases Nat.eq_zero_or_pos n with rfl|hn
  ·obtain rfl:k=N:=by omega
   clear hk;go_wp2_with fail
   refine K1.out.mono ?_;rintro e v5 ⟨rfl,hS⟩;have HS:=h_ hS;clear hS K1;rw[decide_eq_false (Nat.lt_irrefl 0)];go_wp2_with fail
   go_ret;exact ⟨rfl,HS.out⟩
  ·go_wp2_with fail
   refine K1.out.mono ?_;rintro e v5 ⟨rfl,hS⟩;clear K1;rw[decide_eq_true hn];go_wp2_with fail
   go_roundw
   case rel=>exact ⟨k+1,n - 1,by omega,by go_num,hS⟩
   case measure=>simp[intOf];omega
theorem qaei_ (hM:Ok r M) (h:Mk.Good n S):validB M S ((0:Nat):Int)=true:=Mk.qwm_.2 (h.valid0 hM)
noncomputable def tgt (r:Ru) (M:List Ent) (S:Mk.St):Nat:=Mk.top (Hv r M) (fun i=>validB M S (i:Int)) M.length
def Gd (r:Ru) (M:List Ent) (S:Mk.St):Prop:=Ok r M/\M.length<=100/\Mk.Good M.length S
theorem qaej_ (h:Gd r M S):∃ K,Row M (tgt r M S:Int) K:=by
 obtain ⟨K,hK,_⟩:=h.1.row (List.getElem?_eq_getElem (Mk.top_lt (H:=Hv r M) (P:=fun i=>validB M S (i:Int)) M.length h.1.pos));exact ⟨K,hK⟩
theorem qxh_ (h0:0<L.length) (h:Ch.cnt K L=0):L=K:=Decidable.byContradiction fun e=>by
 have:=Ch.qjf_ e h0;omega
theorem qaek_ {i t:Nat} (h:Gd r M S) (hL:Row M (i:Int) L) (hK:Row M (t:Int) K):Ch.cnt K L<=1000:=by
 have h1:=Mk.qep_ h.1 hL;have h2:=Mk.qep_ h.1 hK;have h3:=h.2.1;unfold Ch.cnt;omega
theorem qjq_ (h:CCo w0 w r bb cb mr bt mb mg bm rb x Mt Mr Sp Sr tip La):HK_ w 26 #[pp_ cb] (pp_ mb):=h_ fun _ hb=>qxc_ (h.below hb).c1
theorem ch_tree (h:CCo w0 w r bb cb mr bt mb mg bm rb x Mt Mr Sp Sr tip La):HK_ w 25 #[pp_ cb] (pp_ bt):=h_ fun _ hb=>qaef_ (h.below hb).c0
theorem qjr_ (h:CCo w0 w r bb cb mr bt mb mg bm rb x Mt Mr Sp Sr tip La) (hg:Gd r Mt Sp):Ca_ 19 #[pp_ cb] w (i_ (tgt r Mt Sp:Int)) :=
 qpt_ (sp_ cb) (sp_ mb) _ (qjq_ h) (h_ fun w' hb=>((h.below hb).rd hg.1 (Nat.le_trans hg.2.1 (by decide))).best hg.1 (qaei_ hg.1 hg.2.2))
theorem ch_step (h:CCo w0 w r bb cb mr bt mb mg bm rb x Mt Mr Sp Sr tip La) (hg:Gd r Mt Sp) {L K:List Int} (hL:Row Mt (tip:Int) L) (hK:Row Mt (tgt r Mt Sp:Int) K) :
  Cl_ 21 #[pp_ cb] w fun e w'=>e = .returned (.bool (decide (0<Ch.cnt K L)))/\∃ t2:Nat,Row Mt (t2:Int) (Ch.stp K L)/\CCo w0 w' r bb cb mr bt mb mg bm rb x Mt Mr Sp Sr t2 La :=
 cstep_w (sp_ cb) _ _ (fun w'=>∃ t2:Nat,Row Mt (t2:Int) (Ch.stp K L)/\CCo w0 w' r bb cb mr bt mb mg bm rb x Mt Mr Sp Sr t2 La) (h_ fun w' hb=>qjr_ (h.below hb) hg) (h_ fun w' hb=>(tw_at (h.below hb) hg.1 (Nat.le_trans hg.2.1 (by decide)) hL hK).mono fun _ _ ⟨e,t2,h1,_,h2⟩=>⟨e,t2,h1,h2⟩)
theorem qpy_ (h:CCo w0 w r bb cb mr bt mb mg bm rb x Mt Mr Sp Sr tip La) (hg:Gd r Mt Sp) {L K:List Int} (hL:Row Mt (tip:Int) L) (hK:Row Mt (tgt r Mt Sp:Int) K) :
  Cl_ 22 #[pp_ cb] w fun e w'=>e = .returned (i_ (Ch.cnt K L:Int))/\CCo w0 w' r bb cb mr bt mb mg bm rb x Mt Mr Sp Sr (tgt r Mt Sp) La:=by
 refine (qpw_ (sp_ cb) (tgt r Mt Sp:Int) (h_ fun w' hb=>qjr_ (h.below hb) hg) (Ch.cnt K L) (qaek_ hg hL hK) (fun w' n=>∃ (t2:Nat) (L2:List Int),Row Mt (t2:Int) L2/\Ch.cnt K L2=n/\CCo w0 w' r bb cb mr bt mb mg bm rb x Mt Mr Sp Sr t2 La) (fun w' hb=>⟨tip,L,hL,rfl,h.below hb⟩) (h_ ?_)).mono ?_;rintro w' n ⟨t2,L2,h1,rfl,h2⟩;exact (tw_at h2 hg.1 (Nat.le_trans hg.2.1 (by decide)) h1 hK).mono fun _ _ ⟨e,t3,q1,q2,q3⟩=>⟨e,t3,_,q1,q2,q3⟩
 rintro e w' ⟨rfl,t2,L2,h1,h2,h3⟩;obtain rfl:=(Ch.qmt_ h1 hK).1 (qxh_ h1.last.1 h2);exact ⟨rfl,h3⟩
theorem rf_step (h:CCo w0 w r bb cb mr bt mb mg bm rb x Mt Mr Sp Sr tip La) (hg:Gd r Mr Sr) {i:Nat} {K:List Int} (hL:Row Mr (i:Int) La) (hK:Row Mr (tgt r Mr Sr:Int) K) :
  Cl_ 44 #[pp_ mr] w fun e w'=>e = .returned (.bool (decide (0<Ch.cnt K La)))/\CCo w0 w' r bb cb mr bt mb mg bm rb x Mt Mr Sp Sr tip (Ch.stp K La) :=
 (qxg_ h hg.1 (Nat.le_trans hg.2.1 (by decide)) hL hK rfl).mono fun _ _ ⟨e,_,_,_,h2⟩=>⟨e,h2⟩
theorem qacd_ (h:CCo w0 w r bb cb mr bt mb mg bm rb x Mt Mr Sp Sr tip La) (hg:Gd r Mr Sr) {i:Nat} {K:List Int} (hL:Row Mr (i:Int) La) (hK:Row Mr (tgt r Mr Sr:Int) K) :
  Cl_ 33 #[pp_ mr] w fun e w'=>e = .returned (i_ (Ch.cnt K La:Int))/\CCo w0 w' r bb cb mr bt mb mg bm rb x Mt Mr Sp Sr tip K:=by
 refine (qacc_ (sp_ mr) (Ch.cnt K La) (qaek_ hg hL hK) (fun w' n=>∃ (t2:Nat) (L2:List Int),Row Mr (t2:Int) L2/\Ch.cnt K L2=n/\CCo w0 w' r bb cb mr bt mb mg bm rb x Mt Mr Sp Sr tip L2) (fun w' hb=>⟨i,La,hL,rfl,h.below hb⟩) (h_ ?_)).mono ?_;rintro w' n ⟨t2,L2,h1,rfl,h2⟩;exact (qxg_ h2 hg.1 (Nat.le_trans hg.2.1 (by decide)) h1 hK rfl).mono fun _ _ ⟨e,t3,q1,q2,q3⟩=>⟨e,t3,_,q1,q2,q3⟩
 rintro e w' ⟨rfl,t2,L2,h1,h2,h3⟩;obtain rfl:=qxh_ h1.last.1 h2;exact ⟨rfl,h3⟩
section
variable {w0 w:World} {r:Ru} {bb cb mr bt mb mg bm rb:Nat} {x:Bxs} {Mt Mr:List Ent} {Sp Sr:Mk.St} {tip:Nat} {La:List Int} {M:List Ent} {S:Mk.St}
theorem ch_add (h:CCo w0 w r bb cb mr bt mb mg bm rb x M Mr Sp Sr tip La) (hM:Ok r M) (hl:M.length<=800) (hgl:r.gs.length<=1000) (hcl:r.cs.length<=1000) (hT:∀ w',Bl w w'->Tab w') (y:Hd) (ho:y.ok) (now:Int) :
  Cl_ 14 #[pp_ cb,.agg (hdA y),i_ now] w fun e w'=>e = .returned (.tuple #[i_ (Ar.add r M y now).1.1,i_ (Ar.add r M y now).1.2.1,i_ (Ar.add r M y now).1.2.2])/\CCo w0 w' r bb cb mr bt mb mg bm rb x (Ar.add r M y now).2 Mr Sp Sr tip La :=
 cadd_w (sp_ cb) (sp_ bt) (fun w'=>CCo w0 w' r bb cb mr bt mb mg bm rb x (Ar.add r M y now).2 Mr Sp Sr tip La) _ _ _ now y ho (ch_tree h) (h_ fun w' hb=>(h.below hb).lift fun _ hC=>qabt_ hC hM hl hgl hcl (hT w' hb) y ho now)
theorem qxi_ (h:CCo w0 w r bb cb mr bt mb mg bm rb x Mt Mr Sp Sr tip La) (hl:Mt.length<=100) (z:Int) (right:Bool) :
  Cl_ 15 #[pp_ cb,i_ z,.bool right] w fun e w'=>e = .returned (i_ (verdict Mt.length Sp z right).1)/\CCo w0 w' r bb cb mr bt mb mg bm rb x Mt Mr (verdict Mt.length Sp z right).2 Sr tip La :=
 qxd_ (sp_ cb) (sp_ mb) (fun w'=>CCo w0 w' r bb cb mr bt mb mg bm rb x Mt Mr (verdict Mt.length Sp z right).2 Sr tip La) _ z right (qjq_ h) (h_ fun _ hb=>(h.below hb).lift fun _ hC=>qln_ hC (Nat.le_trans hl (by decide)) z right)
theorem qajo_ (h:CCo w0 w r bb cb mr bt mb mg bm rb x Mt Mr Sp Sr tip La) (hl:Mt.length<=100) (z:Int) :
  Cl_ 16 #[pp_ cb,i_ z] w fun e w'=>e = .returned (i_ (inval Mt.length Sp z).1)/\CCo w0 w' r bb cb mr bt mb mg bm rb x Mt Mr (inval Mt.length Sp z).2 Sr tip La :=
 qajl_ (sp_ cb) (sp_ mb) (fun w'=>CCo w0 w' r bb cb mr bt mb mg bm rb x Mt Mr (inval Mt.length Sp z).2 Sr tip La) _ z (qjq_ h) (h_ fun _ hb=>(h.below hb).lift fun _ hC=>qrr_ hC (Nat.le_trans hl (by decide)) z)
theorem qajp_ (h:CCo w0 w r bb cb mr bt mb mg bm rb x Mt Mr Sp Sr tip La) (hM:Ok r Mt) (hl:Mt.length<=100) (z:Int) :
  Cl_ 17 #[pp_ cb,i_ z] w fun e w'=>e = .returned (i_ (recon Mt Sp z).1)/\CCo w0 w' r bb cb mr bt mb mg bm rb x Mt Mr (recon Mt Sp z).2 Sr tip La :=
 qajm_ (sp_ cb) (sp_ mb) (fun w'=>CCo w0 w' r bb cb mr bt mb mg bm rb x Mt Mr (recon Mt Sp z).2 Sr tip La) _ z (qjq_ h) (h_ fun _ hb=>(h.below hb).lift fun _ hC=>qrt_ hC hM (Nat.le_trans hl (by decide)) z)
end
def AvC (w:World) (k:Nat) (P:List Int) (fl:Nat->Bool) (g:Nat × Nat × Value) (w':World):Prop :=
 Bl w w'/\(fl 0=true->fl 10=false->w'.ownsRow w.heap.size 3 1 (.slice (some ⟨g.1,0,none⟩) 1 1) 1 ([0].map (Value.int .i64)))/\
 (fl 9=true->fl 10=false->Has w' g.2.1 (P.map (Value.int .i64)).toArray 3/\(fl 0=true->g.2.1 ≠ g.1))/\(fl 10=true->w'.ownsRow w.heap.size 3 1 g.2.2 (1+k) ((0 :: P).map (Value.int .i64)))
theorem qace_ {w:World} {cb bt tip:Nat} (k:Nat) (P:List Int) (hk:k=P.length) (hk9:k<=900) (C0:HB_ w fun w'=>w'.cell? ⟨cb,0,none⟩=some (pp_ bt)/\w'.cell? ⟨cb,2,none⟩=some (i_ tip)) (KP:HB_ w fun w'=>Cl_ 55 #[pp_ bt,i_ tip] w' fun x w''=>∃ g,x = .returned (.slice (sp_ g) k k)/\w'.heap.size<=g/\Has w'' g (P.map (Value.int .i64)).toArray 3/\Bl w' w'') :
  Cl_ 23 #[pp_ cb] w fun e w'=>∃ v,e = .returned v/\w'.ownsRow w.heap.size 3 1 v (1+k) ((0 :: P).map (Value.int .i64))/\Bl w w':=by
 have HK:=h_ hk;clear hk;have hB:=Below.refl w.heap.size w;go_enter Tryz.func23,Tryz.ntmps23;go_wp2_with fail
 have hs1:∀ w',(Instr.buildSlice 49 1 #[(0,i_ 0)]).run Tryz.prog w' = .ok (.slice (some ⟨w'.heap.size,0,none⟩) 1 1) (w'.alloc (.cells #[i_ 0] 3)):=fun _=>by kernel_rfl
 refine que_ (AvC w k P) [0,9,10] [0,4,8,9,10] (fun g=>[.slice (some ⟨g.1,0,none⟩) 1 1,pp_ cb,pp_ cb,pp_ cb,pp_ bt,pp_ cb,pp_ cb,.pointer (some ⟨cb,2,none⟩),i_ tip,.slice (some ⟨g.2.1,0,none⟩) k k,g.2.2,g.2.2]) (0,0,undef) ⟨hB.drew,fun h=>(by cases h),fun h=>(by cases h),fun h=>by cases h⟩
  ⟨fun fl g w' f hC=>?_,fun fl g w' f hC=>.val (qe_ rfl rfl (qpu_ (C0.out _ hC.1).1)) hC,fun fl g w' f hC=>.val (qe_ rfl rfl (ld_i (C0.out _ hC.1).2)) hC,fun fl g w' f hC=>?_,fun fl g w' f hC=>?_,trivial⟩ ?_
 ·have h10:=f.no 10 (by kernel_rfl);obtain ⟨q1,q2,q3,q4⟩:=hC;have hb:Bl w' (w'.alloc (.cells #[i_ 0] 3)):=ba_;exact .new (w'.heap.size,g.2) [0] rfl (qbu_ rfl rfl (hs1 w')) ⟨tb_ q1 hb,fun _ _=>quy_ (Has.new _ _) q1.size,fun h1 h2=>⟨(qii_ hb).has (q3 h1 h2).1 (fun h=>h),fun _=>Nat.ne_of_lt (q3 h1 h2).1.lt⟩,fun h=>ff h10 h⟩
 ·have h10:=f.no 10 (by kernel_rfl);obtain ⟨q1,q2,q3,q4⟩:=hC;refine .callN [9] ((KP.out _ q1).mono fun e w'' h=>?_);obtain ⟨gp,h1,h2,h3,h4⟩:=h;exact ⟨(g.1,gp,g.2.2),rfl,h1,tb_ q1 h4,fun h5 h6=>qns_ (q2 h5 h6) h4,fun _ _=>⟨h3,fun h5=>Nat.ne_of_gt (Nat.lt_of_lt_of_le ((q2 h5 h10).lt _ rfl).2 h2)⟩,fun h=>ff h10 h⟩
 ·have h0:=f.yes 0 (by kernel_rfl);have h9:=f.yes 9 (by kernel_rfl);have h10:=f.no 10 (by kernel_rfl);obtain ⟨q1,q2,q3,q4⟩:=hC;obtain ⟨p1,p2⟩:=q3 h9 h10;obtain ⟨v',w2,g1,g2,g3⟩:=qhg_ (w:=w') 5 14 (by decide) w.heap.size _ 1 [0] (q2 h0 h10) (some ⟨g.2.1,0,none⟩) k k P (fun h=>by cases h) HK.out.symm (qpx_ fun j z hj=>by rw[Has.cell p1 j,List.getElem?_toArray,List.getElem?_map,hj];rfl) (by omega) q1.size;have hg:Bl w w2:=q1.grown g3 q1.size fun k hk=>((q2 h0 h10).lt k hk).1
  exact .new (g.1,g.2.1,v') [10,11] rfl (g1 _ _ rfl rfl rfl rfl) ⟨hg,fun _ h=>(by cases h),fun _ h=>(by cases h),fun _=>g2⟩
 rintro g v2 ⟨hB,_,_,hv⟩;have HV:=h_ (hv rfl);have HB:=h_ hB;clear hv hB KP C0;simp only[finT,List.set_cons_zero,List.set_cons_succ,List.tail_cons,List.headD_cons];go_wp2_with fail
 go_ret;exact ⟨_,rfl,HV.out,HB.out⟩
section
variable {ρ:Operand->Value} {o:Oper} {w w':World}
end
end Go.Proofs.YtkbjaadjnbgfbaaGreatDoor.An
