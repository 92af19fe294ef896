import Derived.Test.YtkbjaadjnbgfbaaGreatDoorCBunQ39
set_option maxRecDepth 100000
set_option maxHeartbeats 4000000
namespace Go.Proofs.YtkbjaadjnbgfbaaGreatDoor
open Go.RowKit
namespace An
open Mem Sc
open Ar (aq Ru aB Ok Lp ki iG Up bV dG)
def qL(w:World)(tp:Value)(r:Ru)(M:List aq):Prop:=∀w',Bl w w'->∀(k:Int),(∃(n:Nat)(e:aq),k=(n:Int)/\M[n]?=some e/\(bq r e).ok/\an 29 #[tp,i_ k] w' (.tuple #[.agg (bB (bq r e)),.bool true]))\/(¬bV M k/\an 29 #[tp,i_ k] w' (.tuple #[.agg (bB lf),.bool false]))
def iB(w:World)(b g n c:Nat)(ls:List Int):Prop:=w.cell? ⟨b,1,none⟩=some (.slice (aW g) n c)/\∀(k:Nat)(x:Int),ls[k]?=some x->w.cell? ⟨g,k,none⟩=some (i_ x)
variable{w w1:World}{r:Ru}{M:List aq}
theorem qL.below{tp:Value}(h:qL w tp r M)(hb:Bl w w1):qL w1 tp r M:=fun w' hb'=>h w' (af hb hb')
variable{b n:Nat}{ls:List Int}
theorem iB.below{g c:Nat}(h:iB w b g n c ls)(hb:Bl w w1):iB w1 b g n c ls:=⟨(hb.cell (block_lt_of_cell h.1)).trans h.1,fun k x hk=>(hb.cell (block_lt_of_cell (h.2 k x hk))).trans (h.2 k x hk)⟩
variable{F:Nat->Prop}
theorem fO.Y6(h:fO w F b r M ls):qL w (ah b) r M:=fun w' hb k=>by
 by_cases hk:bV M k;obtain⟨n,e,rfl,he⟩:=hk.is;refine .inl ⟨n,e,rfl,he,?_,eI (h.below hb) he _ rfl⟩;obtain⟨Fa,ab,_,k2⟩:=h.parts;exact jm k2 he;exact .inr ⟨hk,qw (h.below hb) k hk⟩
theorem fO.UQ(h:fO w F b r M ls)(h0:0<ls.length):∃g c,iB w b g ls.length c ls:=by obtain⟨hl,Fa,ab,lv,h1,h2,h3,h4,h5,h6,h7,h8,h9⟩:=h;obtain⟨g,c,rfl,_⟩:=mR h3 (k:=0) (x:=ls[0]) (List.getElem?_eq_getElem h0);refine⟨g,c,Has.cell h1 1,fun k x hk=>?_⟩;obtain⟨g2,c2,e,hc⟩:=mR h3 hk;cases e;exact hc
theorem fO.lp(h:fO w F b r M ls):Lp M ls:=by obtain⟨hl,Fa,ab,lv,h1,h2,h3,h4,_⟩:=h;exact h4
theorem vi(tp:Value)(k:Int)(E:En)(hE:E.ok)(z:Int)(hz:Hid (E.up=z))(g:Bool)(w:World)(KA:aV w 29 #[tp,i_ k] (.tuple #[.agg (bB E),.bool g])):an 91 #[tp,i_ k] w (i_ z):=by
 have ze:=gh hE;have z0:=gh cU;have hB:=Below.refl w.heap.size w;go_enter Tryz.func91,Tryz.ntmps91;go_wp2_with fail
 refine(KA.out _ hB).mono ?_;rintro x v1 ⟨rfl,hb⟩;replace hB:=af hB hb;clear hb;have hnew:=gl v1;have hE1:=lR v1 E;have hb3:=ma v1 60 Tryz.zeroCells60 (bB E);go_upto_region 2 with(with_reducible refine gQ rfl _ _ rfl _ _ E rfl rfl rfl ze hnew z0 ?_)
 generalize World.setRow _ _ _=v2 at*;replace hB:=af hB hb3;have c1:=br.up hE1 hE hz;clear hb3 hnew;go_wp2_with fail
 go_ret;exact⟨rfl,hB⟩
theorem rr(tp:Value)(k h:Int)(E:En)(hE:E.ok)(t:Int)(ht:Hid (E.ht=t))(g a b:Bool)(ha:decide (h<0)=a)(hb:decide (t<h)=b)(hno:(!g||a||b)=true)(w:World)(KA:aV w 29 #[tp,i_ k] (.tuple #[.agg (bB E),.bool g])):an 69 #[tp,i_ k,i_ h] w (i_ (-1)):=by
 have ze:=gh hE;have z0:=gh cU;have hB:=Below.refl w.heap.size w;go_enter Tryz.func69,Tryz.ntmps69;go_wp2_with fail
 refine(KA.out _ hB).mono ?_;rintro x v1 ⟨rfl,hb⟩;replace hB:=af hB hb;clear hb;have hnew:=gl v1;have hE1:=lR v1 E;have hb3:=ma v1 60 Tryz.zeroCells60 (bB E);go_upto_region 2 with(with_reducible refine gQ rfl _ _ rfl _ _ E rfl rfl rfl ze hnew z0 ?_)
 generalize World.setRow _ _ _=v2 at*;replace hB:=af hB hb3;have c1:=br.ht hE1 hE ht;clear hb3 hnew;cases g<;>cases a<;>cases b
 case true.false.false=>cases hno
 all_goals
  clear hno;go_wp2_with fail
  go_ret;exact⟨rfl,hB⟩
theorem mm(hM:Ok r M){n:Nat}{e:aq}{h:Nat}{z:Int}(he:M[n]?=some e)(k:Up M (n:Int) h z)(hh:h<e.hs.length):0<=z/\z<(n:Int):=by
 obtain⟨L,h1,h2⟩:=k;have q:=(h1.up hM).2 z (List.mem_of_getElem? h2);refine⟨q.1,?_⟩;have h3:=h1.last;have h4:=h1.len hM he;have hlt:h<L.length-1:=by omega
 obtain⟨u1,u2⟩:=List.getElem?_eq_some_iff.1 h2;obtain⟨v1,v2⟩:=List.getElem?_eq_some_iff.1 h3.2;have:=List.pairwise_iff_getElem.1 (h1.up hM).1 _ _ u1 v1 hlt;omega
structure Way (r:Ru) (M:List aq) (i:Int) (t n:Nat) (E:En) (k:Nat):Prop where
 ok:E.ok
 ht:E.ht=(k:Int)
 low:t<=k
 ex:∃e,M[n]?=some e/\E=bq r e/\e.hs.length=k/\Up M i k (n:Int)
theorem Way.next{i:Int}{t:Nat}{E:En}{k:Nat}(hM:Ok r M)(h:Way r M i t n E k){j:Nat}{z:Int}(hz:∀e,M[n]?=some e->e.hs.length=k->Up M (n:Int) j z)(hj:j<k)(hj2:t<=j)(hE:∀(m:Nat)(e:aq),M[m]?=some e->(bq r e).ok):∃(m:Nat)(e:aq),z=(m:Int)/\m<n/\M[m]?=some e/\Way r M i t m (bq r e) j:=by obtain⟨e,h1,h2,h3,h4⟩:=h.ex;have q:=hz e h1 h3;obtain⟨m,d,rfl,hd,hl⟩:=q.place hM;have:=mm hM h1 q (by omega);exact⟨m,d,rfl,by omega,hd,hE m d hd,by rw[<-hl];rfl,hj2,d,hd,rfl,hl,h4.trans q⟩
theorem Ec(b g nn c:Nat)(ls:List Int)(r:Ru)(M:List aq)(hM:Ok r M)(hl:Lp M ls)(hn:nn=ls.length)(Vs:M.length<=900)(i:Nat)(hi:i<ls.length)(e:aq)(he:M[i]?=some e)(t:Nat)(ht:t<=e.hs.length)(w:World)(KA:Hid (qL w (ah b) r M))(KL:Hid (iB w b g nn c ls)):aN 69 #[ah b,i_ i,i_ t] w fun x w'=>∃z,x=.returned (i_ z)/\Up M (i:Int) t z/\Bl w w':=by
 have Y7:∀(n:Nat)(e:aq),M[n]?=some e->aV w 29 #[ah b,i_ n] (.tuple #[.agg (bB (bq r e)),.bool true]):=fun n e he=>h_ fun w' hb=>by
  rcases KA.out w' hb (n:Int)with⟨m,d,h1,h2,_,h3⟩|⟨h1,_⟩
  ·obtain rfl:n=m:=by omega
   rw[he]at h2;cases h2;exact h3
  exact absurd (Ar.fu he) h1
 have VM:Hid (∀(n:Nat)(e:aq),M[n]?=some e->(bq r e).ok):=h_ fun n e he=>by
  rcases KA.out w a_ (n:Int)with⟨m,d,h1,h2,h3,_⟩|⟨h1,_⟩
  ·obtain rfl:n=m:=by omega
   rw[he]at h2;cases h2;exact h3
  exact absurd (Ar.fu he) h1
 have hc:=hM.chain i e he;have hiM:=(List.getElem?_eq_some_iff.1 he).1;have VN:=Y7 i e he;have hW:Hid (Way r M (i:Int) t i (bq r e) e.hs.length):=h_ ⟨VM.out i e he,rfl,ht,e,he,rfl,rfl,Up.self hM he⟩;have hE:=VM.out i e he;have z0:=gh cU;have hB:=Below.refl w.heap.size w;obtain⟨k,hk⟩:∃k,k=e.hs.length:=⟨_,rfl⟩;obtain⟨E,hEe⟩:∃E,E=bq r e:=⟨_,rfl⟩;have HT:Hid (E.ht=(k:Int)):=h_ (by rw[hEe,hk];rfl);rw[<-hk]at ht hc;rw[<-hEe]at VN hE hW;rw[<-hk]at hW;have Wg:k<=900:=by omega
 clear he hEe hk KA;have HN:=h_ hn;have HI:=h_ hi;clear hn hi hc;have ze:=gh hE;have t1:decide ((t:Int)<0)=false:=decide_eq_false (by omega);have t2:¬k<t:=by omega
 clear ht;go_enter Tryz.func69,Tryz.ntmps69;go_wp2_with fail
 refine(VN.out _ hB).mono ?_;rintro x v1 ⟨rfl,hb⟩;replace hB:=af hB hb;clear hb;have hnew:=gl v1;have hE1:=lR v1 E;have hb3:=ma v1 60 Tryz.zeroCells60 (bB E);go_upto_region 2 with(with_reducible refine gQ rfl _ _ rfl _ _ E rfl rfl rfl ze hnew z0 ?_)
 generalize World.setRow _ _ _=v2 at*;obtain⟨bX,hbX⟩:∃x,x=v1.heap.size:=⟨_,rfl⟩;rw[<-hbX]at hE1|-;have T_:Hid (w.heap.size<=bX):=h_ (by have:=hB.size;omega);replace hB:=af hB hb3;have c1:=br.ht hE1 hE HT;clear hb3 hnew hbX VN;go_wp2_with fail
 clear c1 t1 t2;go_loopw [1] (fun v wr=>∃(n:Nat)(E:En)(k:Nat),v=i_ n/\k<=900/\br wr bX E/\Hid (n<=i/\Way r M (i:Int) t n E k)/\Bl w wr) (fun v _=>(intOf v).toNat)
 case atStart=>exact⟨i,E,k,rfl,Wg,hE1,h_ ⟨Nat.le_refl _,hW.out⟩,hB⟩
 case round=>
  clear hE1 hB hW HT ze hE Wg;obtain⟨n,E,k,rfl,Wg,hE1,HW,hB⟩:=hrel;have c1:=br.ht hE1 HW.out.2.ok (h_ HW.out.2.ht);have ze:=gh HW.out.2.ok;by_cases hlt:t<k
  ·have hN:Hid (n<ls.length):=h_ (by have:=HI.out;have:=HW.out.1;omega);have KH:=h_ fun w'=>Dv (k:Int) (by omega) (by omega) w'
   rw[Int.toNat_natCast]at KH;have hlt2:=Ar.rD (h:=k) (by omega);by_cases hge:t<=ki k
   ·obtain⟨x,hx⟩:∃x,ls[n]?=some x:=⟨_,List.getElem?_eq_getElem hN.out⟩;obtain⟨m,d,rfl,Z9,hd,hW2⟩:=HW.out.2.next hM (z:=x) (j:=ki k) (fun e he hek=>by have:=hl.Yr n e x he hx (by omega);rwa[hek]at this) hlt2 hge VM.out;have HW2:Hid (m<=i/\Way r M (i:Int) t m (bq r d) (ki k)):=h_ ⟨by have:=HW.out.1;omega,hW2⟩;have HX:=h_ hx;have hnn:n<nn:=(by rw[HN.out];exact hN.out);have Tt:=Y7 m d hd;have hE2:=VM.out m d hd;clear hW2 hx hd HW;generalize bq r d=E2 at*;have z2:=gh hE2;(go_wp2_with fail);refine(KH.out _).mono ?_;rintro x v3 ⟨rfl,hb⟩;replace hE1:=hE1.on hb;replace hB:=af hB hb;have hL1:=KL.out.below hB;obtain⟨l1,l2⟩:=hL1;have l3:=l2 n _ HX.out;have c2:=br.ht hE1;clear hb l2 KH c2;(go_wp2_with fail);refine(Tt.out _ hB).mono ?_;rintro x v4 ⟨rfl,hb⟩;replace hE1:=hE1.on hb;replace hB:=af hB hb;clear hb l1 l3 Tt;(go_wp2_with (with_reducible refine gQ rfl _ _ rfl _ _ E2 rfl rfl rfl z2 hE1 ze ?_));have Y8:br _ bX E2:=Has.row hE1 (bB E2);have hB3:=below_setRow hB T_.out (bB E2);generalize World.setRow _ _ _=v5 at*;simp only[Act.put];go_roundw
    case rel=>exact⟨m,E2,ki k,rfl,by omega,Y8,HW2,hB3⟩
    case measure=>simp[intOf];omega
   ·have hup:Hid (∃(m:Nat)(e:aq),E.up=(m:Int)/\m<n/\M[m]?=some e/\Way r M (i:Int) t m (bq r e) (k-1)):=h_ (by
     obtain⟨e,h1,h2,h3,h4⟩:=HW.out.2.ex;have:=HW.out.2.next hM (z:=e.up) (j:=k-1) (fun d hd hdk=>by rw[h1]at hd;cases hd;have:=(Up.ahead hM h1 (by omega)).1;rwa[h3]at this) (by omega) (by omega) VM.out;rw[h2];exact this)
    obtain⟨m,d,hu,Z9,hd,hW2⟩:=hup.out;have HU:=h_ hu;have HW2:Hid (m<=i/\Way r M (i:Int) t m (bq r d) (k-1)):=h_ ⟨by have:=HW.out.1;omega,hW2⟩;have Tt:=Y7 m d hd;have hE2:=VM.out m d hd;have Y9:=h_ HW.out.2.ok;clear hW2 hd HW hup hu;generalize bq r d=E2 at*;have z2:=gh hE2;(go_wp2_with fail);refine(KH.out _).mono ?_;rintro x v3 ⟨rfl,hb⟩;replace hE1:=hE1.on hb;replace hB:=af hB hb;have c2:=br.up hE1 Y9.out HU;clear hb KH;(go_wp2_with fail);refine(Tt.out _ hB).mono ?_;rintro x v4 ⟨rfl,hb⟩;replace hE1:=hE1.on hb;replace hB:=af hB hb;clear hb c2 Tt;(go_wp2_with (with_reducible refine gQ rfl _ _ rfl _ _ E2 rfl rfl rfl z2 hE1 ze ?_));have Y8:br _ bX E2:=Has.row hE1 (bB E2);have hB3:=below_setRow hB T_.out (bB E2);generalize World.setRow _ _ _=v5 at*;simp only[Act.put];go_roundw
    case rel=>exact⟨m,E2,k-1,rfl,by omega,Y8,HW2,hB3⟩
    case measure=>simp[intOf];omega
  ·have hup:Hid (Up M (i:Int) t (n:Int)):=h_ (by
    obtain⟨e,h1,h2,h3,h4⟩:=HW.out.2.ex;have:=HW.out.2.low;obtain rfl:k=t:=(by omega);exact h4)
   clear HW ze;go_wp2_with fail
   go_ret;exact⟨_,rfl,hup.out,hB⟩
theorem Cb(h:fO w F b r M ls)(hM:Ok r M)(Vs:M.length<=900)(i t z:Int)(hi:bV M i->i<(ls.length:Int))(hz:dG M i t z):an 69 #[ah b,i_ i,i_ t] w (i_ z):=by
 have hA:=h.Y6;by_cases hp:bV M i
 ·obtain⟨n,e,rfl,he⟩:=hp.is;have hn:=hi hp
  have hE:(bq r e).ok/\∀w',Bl w w'->an 29 #[ah b,i_ n] w' (.tuple #[.agg (bB (bq r e)),.bool true]):=by
   obtain⟨Fa,ab,_,k2⟩:=h.parts;exact⟨jm k2 he,fun w' hb=>eI (h.below hb) he _ rfl⟩
  by_cases hlow:t<0\/(e.hs.length:Int)<t;have ez:z = -1:=hlow.elim (fun hh=>hz.no (.inr hh)) (fun hh=>hz.high hM he hh);subst ez;exact rr _ (n:Int) t (bq r e) hE.1 (e.hs.length:Nat) (h_ rfl) true _ _ rfl rfl (by simp only[Bool.not_true,Bool.false_or,Bool.or_eq_true,decide_eq_true_eq];exact hlow) w (h_ hE.2);obtain⟨tn,rfl⟩:=Int.eq_ofNat_of_zero_le (by omega:0<=t);obtain⟨g,c,hL⟩:=h.UQ (by omega);refine(Ec b g ls.length c ls r M hM h.lp rfl Vs n (by omega) e he tn (by omega) w (h_ hA) (h_ hL)).mono ?_;rintro x w' ⟨z',rfl,hu,hb⟩;have:=hz.up hM he (by omega) (by omega);rw[Int.toNat_natCast]at this;rw[hu.R0 this];exact⟨rfl,hb⟩
 ·have ez:=hz.no (.inl hp);subst ez;have hE:∀w',Bl w w'->an 29 #[ah b,i_ i] w' (.tuple #[.agg (bB lf),.bool false]):=fun w' hb=>qw (h.below hb) i hp
  exact rr _ i t lf dR 0 (h_ rfl) false _ _ rfl rfl rfl w (h_ hE)
theorem E8(h:fO w F b r M ls){n:Nat}{e:aq}(he:M[n]?=some e):an 91 #[ah b,i_ n] w (i_ e.up):=by obtain⟨Fa,ab,_,k2⟩:=h.parts;exact vi _ (n:Int) (bq r e) (jm k2 he) e.up (h_ rfl) true w (h_ fun w' hb=>eI (h.below hb) he _ rfl)
theorem GL(tp:Value)(k i:Int)(E:En)(hE:E.ok)(t z:Int)(ht:Hid (E.ht=t))(g g2:Bool)(hg:(z==k)=g2)(w:World)(KA:aV w 29 #[tp,i_ k] (.tuple #[.agg (bB E),.bool g]))(KN:lJ w fun w'=>g=true->an 69 #[tp,i_ i,i_ t] w' (i_ z)):an 35 #[tp,i_ k,i_ i] w (.bool (g&&g2)):=by
 have ze:=gh hE;have z0:=gh cU;have hB:=Below.refl w.heap.size w;go_enter Tryz.func35,Tryz.ntmps35;go_wp2_with fail
 refine(KA.out _ hB).mono ?_;rintro x v1 ⟨rfl,hb⟩;replace hB:=af hB hb;clear hb;have hnew:=gl v1;have hE1:=lR v1 E;have hb3:=ma v1 60 Tryz.zeroCells60 (bB E);go_upto_region 2 with(with_reducible refine gQ rfl _ _ rfl _ _ E rfl rfl rfl ze hnew z0 ?_)
 generalize World.setRow _ _ _=v2 at*;replace hB:=af hB hb3;have c1:=br.ht hE1 hE ht;clear hb3 hnew;cases g
 ·go_wp2_with fail
  go_ret;exact⟨rfl,hB⟩
 ·go_wp2_with fail
  refine(KN.out _ hB (by simp)).mono ?_;rintro x v3 ⟨rfl,hb⟩;replace hB:=af hB hb;clear hb;go_wp2_with fail
  go_ret;exact⟨by cases g2<;>rfl,hB⟩
theorem FR(h:fO w F b r M ls)(hM:Ok r M)(Vs:M.length<=900)(hl:ls.length=M.length)(k i:Int)(g:Bool)(hg:g=true↔Ar.cY M k i):an 35 #[ah b,i_ k,i_ i] w (.bool g):=by
 by_cases hp:bV M k
 ·obtain⟨n,e,rfl,he⟩:=hp.is;obtain⟨z,hz⟩:=dG.ex M i (e.hs.length:Int)
  have hE:(bq r e).ok/\∀w',Bl w w'->an 29 #[ah b,i_ n] w' (.tuple #[.agg (bB (bq r e)),.bool true]):=by
   obtain⟨Fa,ab,_,k2⟩:=h.parts;exact⟨jm k2 he,fun w' hb=>eI (h.below hb) he _ rfl⟩
  have:=GL _ (n:Int) i (bq r e) hE.1 (e.hs.length:Nat) z (h_ rfl) true (z==(n:Int)) rfl w (h_ hE.2) (h_ fun w' hb _=>Cb (h.below hb) hM Vs i _ z (fun hq=>by rw[hl];exact hq.2) hz)
  have eg:(true&&z==(n:Int))=g:=by
   have h1:=Ar.ID hM he hz;have h2:(z==(n:Int))=true↔g=true:=by rw[beq_iff_eq,hg,<-h1];exact⟨fun h=>h.symm,fun h=>h.symm⟩
   rw[Bool.true_and];exact Bool.eq_iff_iff.2 h2
  rw[eg]at this;exact this
 ·have eg:g=false:=by
   cases g;rfl;exact absurd (by have:=(hg.1 rfl).le hM;exact⟨this.1,this.2.2⟩) hp
  subst eg;exact GL _ k i lf dR 0 0 (h_ rfl) false (0==k) rfl w (h_ fun w' hb=>qw (h.below hb) k hp) (h_ fun _ _ h=>by cases h)
end An
namespace An
open Mem Sc
open Ar (aq Ru aB Ok bV)
theorem Pd{w:World}{ops:Array Oper}{rest:List Oper}{o:Oper}{a:Act}{Q:Exit->Act->World->Prop}(hgd:o.guard=none)(x:Operand)(ho:o.op=.load 26 x)(g off:Nat)(hx:a.eval x=.pointer (some ⟨g,off,none⟩))(z:Nat)(hg:w.rangeAt g off (NN.aa z).toList)(hk:wpList Tryz.prog ops Q rest (a.put o.dst (.agg (NN.aa z))) w):wpList Tryz.prog ops Q (o::rest) a w:=
 wpList_load_mid hgd 26 x ho g off hx (NN.aa z).toList _ hg Tryz.underlying26 rfl (NN.cg.trans (by rw[Array.length_toList,NN.fJ])) hk
theorem vD(b g n c j z:Nat)(hj:j<n)(w:World)(hv:w.cell? ⟨b,86,none⟩=some (.slice (aW g) n c))(hr:w.rangeAt g (j*4) (NN.aa z).toList):an 101 #[ah b,i_ j] w (.agg (NN.aa z)):=by
 go_enter Tryz.func101,Tryz.ntmps101;go_upto_region 1 with fail
 generalize hw0:World.alloc _ _=v0;have hR:NN.Has v0 w.heap.size (NN.aa 0) 26:=by rw[<-hw0];exact NN.Has.Rb _
 have bj:Bl w v0:=db hw0;clear hw0;have c1:=(bj.cell (p:=⟨b,86,none⟩) (block_lt_of_cell hv)).trans hv;have r1:=ix hr bj (by rw[Array.length_toList,NN.fJ];decide);clear hv hr;go_wp2_with (with_reducible first|refine Pd rfl _ rfl g (j*4) rfl z r1 ?_|refine NN.aZ rfl _ _ rfl _ _ rfl rfl _ hR rfl ?_)
 exact bodyPost_ret (v:=.agg (NN.aa z)) (NN.fs Tryz.results101 _ _ _ rfl (hR.row _)) rfl ⟨rfl,below_setRow bj (Nat.le_refl _) _⟩
theorem Mp(bm x y zx zy:Nat)(w:World)(KX:aV w 101 #[ah bm,i_ x] (.agg (NN.aa zx)))(KY:aV w 101 #[ah bm,i_ y] (.agg (NN.aa zy)))(g1 g2 g3:Bool)(KL:x9 102 #[.agg (NN.aa zy),.agg (NN.aa zx)] (.bool g1))(hq:∀w',(binOp .eql 26 (.agg (NN.aa zx)) (.agg (NN.aa zy))).run Tryz.prog w'=.ok (.bool g2) w')(h3:decide (x<y)=g3):an 62 #[ah bm,i_ x,i_ y] w (.bool (g1||(g2&&g3))):=by
 have bj:=Below.refl w.heap.size w;have h3':decide ((x:Int)<(y:Int))=g3:=by rw[<-h3];exact decide_eq_decide.2 (by omega)
 go_enter Tryz.func62,Tryz.ntmps62;go_wp2_with (first|fail)
 refine au (KX.out _ bj) fun v1 hb1=>?_;replace bj:=af bj hb1;clear hb1;go_upto_region 2 with(first|(with_reducible refine NN.aZ rfl _ _ rfl _ _ rfl rfl _ (NN.Has.Rb _) rfl ?_))
 generalize hw2:World.setRow _ _ _=v2;have hb2:Bl v1 v2:=cG hw2;have h7:NN.Has v2 v1.heap.size (NN.aa zx) 26:=by rw[<-hw2];exact(NN.Has.Rb _).row _
 replace bj:=af bj hb2;clear hw2 hb2;obtain⟨RP,TV⟩:∃x,x=v1.heap.size:=⟨_,rfl⟩;rw[<-TV]at h7|-;clear TV;go_wp2_with (with_reducible first|refine NN.aJ rfl _ rfl _ rfl _ h7 rfl ?_|refine NN.dD (by with_unfolding_all rfl) _ rfl _ rfl _ h7 rfl ?_)
 refine au (KY.out _ bj) fun v3 hb3=>?_;replace h7:=NN.Has.on h7 hb3;replace bj:=af bj hb3;clear hb3;go_upto_region 3 with(with_reducible first|refine NN.aJ rfl _ rfl _ rfl _ h7 rfl ?_|refine NN.dD (by with_unfolding_all rfl) _ rfl _ rfl _ h7 rfl ?_|refine NN.aZ rfl _ _ rfl _ _ rfl rfl _ (NN.Has.Rb _) rfl ?_)
 generalize hw4:World.setRow _ _ _=v4;have hb4:Bl v3 v4:=cG hw4;have h8:NN.Has v4 v3.heap.size (NN.aa zy) 26:=by rw[<-hw4];exact(NN.Has.Rb _).row _
 replace h7:=NN.Has.on h7 hb4;replace bj:=af bj hb4;clear hw4 hb4;obtain⟨ab5,W6⟩:∃x,x=v3.heap.size:=⟨_,rfl⟩;rw[<-W6]at h8|-;clear W6;go_wp2_with (with_reducible first|refine NN.aJ rfl _ rfl _ rfl _ (by assumption) rfl ?_|refine NN.dD (by with_unfolding_all rfl) _ rfl _ rfl _ (by assumption) rfl ?_)
 refine au (KL.out _) fun v5 hb5=>?_;replace h7:=NN.Has.on h7 hb5;replace h8:=NN.Has.on h8 hb5;replace bj:=af bj hb5;clear hb5;clear KX KY KL;cases g1
 case true=>
  go_wp2_with fail
  go_ret;exact⟨rfl,bj⟩
 case false=>
  cases g2
  case false=>
   go_wp2_with (with_reducible first|refine NN.aJ rfl _ rfl _ rfl _ (by assumption) rfl ?_|refine NN.dD (by with_unfolding_all rfl) _ rfl _ rfl _ (by assumption) rfl ?_)
   go_ret;exact⟨rfl,bj⟩
  case true=>
   go_wp2_with (with_reducible first|refine NN.aJ rfl _ rfl _ rfl _ (by assumption) rfl ?_|refine NN.dD (by with_unfolding_all rfl) _ rfl _ rfl _ (by assumption) rfl ?_)
   go_ret;exact⟨by first|rfl|(rw[<-h3];simp)|simp[h3],bj⟩
section
variable{w:World}{B:Nat}{F:Nat->Prop}{bm:Nat}{r:Ru}{M:List aq}
theorem wc(h:ir w B F bm r M){j:Nat}{e:aq}(he:M[j]?=some e):an 101 #[ah bm,i_ j] w (.agg (NN.aa (fe r e.hs))):=by
 obtain⟨_,_,_,p,t,vH,vI,vA,vW,ws,h3,_,h5,_⟩:=h;have rW:=h3.SW;have hz:ws[j]?=some (fe r e.hs):=by rw[h5,List.getElem?_map,he];rfl
 have hj:=(List.getElem?_eq_some_iff.1 hz).1;obtain⟨gW,cW,rfl⟩:=iV rW (by omega);obtain⟨A,C,e1,hA⟩:=pz (fun z=>(NN.aa z).toList) 4 ws (fun z _=>by rw[Array.length_toList,NN.fJ]) j _ hz;rw[e1]at rW;obtain⟨g,c,e2,e3⟩:=kM rW (by omega);rw[hA]at e3;cases e2;exact vD bm gW ws.length cW j _ hj w (sR h3.has h3.RG) e3
theorem N7(h:ir w B F bm r M){x y:Nat}(hx:x<M.length)(hy:y<M.length):an 62 #[ah bm,i_ x,i_ y] w (.bool (Hv r M x y)):=by
 have ex:=List.getElem?_eq_getElem hx;have ey:=List.getElem?_eq_getElem hy;have lx:=qQ r (M[x]).hs;have ly:=qQ r (M[y]).hs;have:=Mp bm x y _ _ w (h_ fun w' hb=>wc (h.below hb) ex) (h_ fun w' hb=>wc (h.below hb) ey) _ _ _ (h_ fun w'=>NN.mS _ _ ly lx w') (fun w'=>NN.qj lx ly w') rfl
 have e:Hv r M x y=(decide (fe r (M[y]).hs<fe r (M[x]).hs)||(decide (fe r (M[x]).hs=fe r (M[y]).hs)&&decide (x<y))):=by
  unfold Hv Tp.xQ;rw[kG ex,kG ey];rfl
 rw[e];exact this
end
end An
namespace An
open Mem Sc
open Ar (aq Ru aB Ok)
structure Ac where
 kind:Int
 h:Hd
 now:Int
 n:Int
 rt:Bool
def oF(c:Ac):List Value:=i_ c.kind::(bp c.h++[i_ c.now,i_ c.n,.bool c.rt])
def eY(c:Ac):Array Value:=(oF c).toArray
def Jf:Ac:=⟨0,dh,0,0,false⟩
variable{c:Ac}
theorem CK(h:c.h.ok):(oF c).length=72:=by simp[oF,eR h]
theorem mB(h:c.h.ok):(eY c).size=72:=by show(oF c).toArray.size=72;rw[List.size_toArray];exact CK h
theorem vk(c:Ac):∀v∈oF c,v.oneCell'=true:=fun v hv=>by
 rcases List.mem_cons.1 hv with rfl|hv
 rfl
 ·rcases List.mem_append.1 hv with h|h
  exact oW _ v h
  ·rcases List.mem_cons.1 h with rfl|h
   rfl
   ·rcases List.mem_cons.1 h with rfl|h
    rfl;obtain rfl:v=.bool c.rt:=(by simpa using h);rfl
theorem mP:(Tryz.prog.info? 39).map (·.size)=some 72:=by kernel_rfl
def eG(w:World)(k:Nat)(c:Ac):Prop:=Has w k (eY c) 39
def fR(w:World)(a:Option Addr)(cs:List Ac):Prop:=
 0<cs.length->∃ab ao,a=some ⟨ab,ao,none⟩/\ab<w.heap.size/\∀i (hi:i<cs.length),cs[i].h.ok/\w.rangeAt ab (ao+i*72) (oF cs[i])
theorem yw(c:Ac):0<(oF c).length:=by simp[oF]
section
variable{w w':World}{k:Nat}{c:Ac}
theorem fR.below{a:Option Addr}{cs:List Ac}(h:fR w a cs)(hb:Bl w w'):fR w' a cs:=fun h0=>by
 obtain⟨ab,ao,ha,hlt,hc⟩:=h h0;exact⟨ab,ao,ha,Nat.lt_of_lt_of_le hlt hb.size,fun i hi=>⟨(hc i hi).1,ix (hc i hi).2 hb (yw _)⟩⟩
theorem eG.on(h:eG w k c)(hb:Bl w w'):eG w' k c:=bY hb h (Has.lt h)
theorem eG.kind(h:eG w k c):w.cell? ⟨k,0,none⟩=some (i_ c.kind):=Has.cell h 0
theorem eG.head(h:eG w k c):w.rangeAt k 1 (bp c.h):=by have:=gk (A:=[i_ c.kind]) (cs:=bp c.h) (C:=[i_ c.now,i_ c.n,.bool c.rt]) (o:=1) (w:=w) (b:=k) (t:=39) h rfl;exact this
theorem eG.now(h:eG w k c)(ho:c.h.ok):w.cell? ⟨k,69,none⟩=some (i_ c.now):=by have:=gk (A:=i_ c.kind::bp c.h) (cs:=[i_ c.now,i_ c.n,.bool c.rt]) (C:=[]) (o:=69) (w:=w) (b:=k) (t:=39) (by rw[List.append_nil];exact h) (by simp[eR ho]);exact this 0 _ rfl
theorem eG.num(h:eG w k c)(ho:c.h.ok):w.cell? ⟨k,70,none⟩=some (i_ c.n):=by have:=gk (A:=i_ c.kind::bp c.h) (cs:=[i_ c.now,i_ c.n,.bool c.rt]) (C:=[]) (o:=69) (w:=w) (b:=k) (t:=39) (by rw[List.append_nil];exact h) (by simp[eR ho]);exact this 1 _ rfl
theorem zF(w:World):eG (w.alloc (.cells Tryz.zeroCells39 39)) w.heap.size Jf:=Has.new (eY Jf) _
variable{ops:Array Oper}{rest:List Oper}{o:Oper}{a:Act}{Q:Exit->Act->World->Prop}
theorem Aa(hgd:o.guard=none)(x:Operand)(ho:o.op=.load 39 x)(g off:Nat)(hx:a.eval x=.pointer (some ⟨g,off,none⟩))(c:Ac)(hg:w.rangeAt g off (oF c))(hs:(oF c).length=72)(hk:wpList Tryz.prog ops Q rest (a.put o.dst (.agg (eY c))) w):wpList Tryz.prog ops Q (o::rest) a w:=
 wpList_load_mid hgd 39 x ho g off hx (oF c) _ hg Tryz.underlying39 rfl (mP.trans (by rw[hs])) hk
theorem B5(hgd:o.guard=none)(x y:Operand)(ho:o.op=.store 39 x y)(g:Nat)(cz:Array Value)(c':Ac)(hx:a.eval x=ah g)(hy:a.eval y=.agg cz)(he:cz=eY c')(hs':(eY c').size=72)(hg:eG w g c)(hs:(eY c).size=72)(hk:wpList Tryz.prog ops Q rest (a.put o.dst undef) (w.setRow g (eY c'))):wpList Tryz.prog ops Q (o::rest) a w:=by subst he;exact wpList_store_row hgd 39 x y ho g (eY c') hx hy 39 (eY c) (Has.out hg) (mP.trans (by rw[hs'])) (by rw[hs,hs']) (all_oneCell_toArray (vk c')) hk
theorem ya(w:World)(c:Ac):eG ((w.alloc (.cells Tryz.zeroCells39 39)).setRow w.heap.size (eY c)) w.heap.size c:=Has.row (zF w) _
end
def j4(cs:List Ac):Bool:=cs.any (fun c=>decide (c.now<0))
open NN.Rz
open Ar (dG Lp Up ki bV)
theorem od(w:World)(g:Nat):(Instr.fieldAt 119 (ah g) 1).run Tryz.prog w=.ok (.pointer (some ⟨g,1,none⟩)) w:=by kernel_rfl
variable{w:World}
theorem wS{p:Addr}{a:Option Addr}{n c:Nat}(h:w.cell? p=some (.slice a n c)):(loadVar 49 p).run Tryz.prog w=.ok (.slice a n c) w:=by go_simp
theorem Aq{b ab:Nat}{v:Value}(h:Has w b (n8 ab v) 119)(v':Value):Has (w.setCell ⟨b,1,none⟩ v') b (n8 ab v') 119:=Has.set (i:=1) h v'
def MF(tp ap:Value)(h:Hd)(now x1 x2 x3:Int):Nat->Value->Prop
 | 0,u=>u=tp
 | 1,u=>u=ap
 | 2,u=>u=.agg (aD h)
 | 3,u=>u=i_ now
 | 4,u|5,u=>u=.tuple #[i_ x1,i_ x2,i_ x3]
 | 6,u|9,u=>u=i_ x1
 | 7,u|10,u=>u=i_ x2
 | 8,u|11,u=>u=i_ x3
 | _,_=>now=now
def QT(b bE g n c:Nat)(ua k q y:Int):Nat->Value->Prop
 | 0,v|1,v|2,v|5,v|14,v=>v=ah b
 | 3,v|15,v=>v=.pointer (some ⟨b,1,none⟩)
 | 4,v=>v=.slice (aW g) n c
 | 6,v=>v=.pointer (some ⟨bE,100,none⟩)
 | 7,v=>v=i_ ua
 | 8,v=>v=.pointer (some ⟨bE,101,none⟩)
 | 9,v=>v=i_ k
 | 10,v=>v=i_ q
 | 11,v=>v=i_ y
 | _,_=>b=b
theorem OS(ab:Nat)(v:Value)(hv:v.oneCell'=true):Tryz.prog.built 119 [(0,ah ab),(1,v)]=some (n8 ab v):=by
 have h:Tryz.prog.built 119 [(0,ah ab),(1,v)]=Instr.fill ((#[(0,1),(1,1)]:Array (Nat×Nat))[·]?) #[.pointer none,.slice none 0 0] [(0,ah ab),(1,v)]:=by kernel_rfl
 rw[h];cases v<;>first|rfl|cases hv
theorem CE(p:NN.Pr)(hp:p.ok)(room:Int)(r:Ru)(w:World)(KN:Hid (∀w',Below w.heap.size w w'->aN 105 #[.agg (NN.aE p),i_ room] w' fun e w''=>∃b F,e=.returned (.tuple #[ah b,i_ 0])/\gM w'' F b r [aB]/\(∀i,F i->w'.heap.size<=i)/\Below w'.heap.size w' w'')):aN 70 #[.agg (NN.aE p),i_ room] w fun e w'=>∃b F,e=.returned (.tuple #[ah b,i_ 0])/\fO w' F b r [aB] [-1]/\(∀i,F i->w.heap.size<=i)/\Below w.heap.size w w':=by
 have hz:=NN.ef hp;go_enter Tryz.func70,Tryz.ntmps70;go_upto_region 1 with fail
 generalize hw0:World.alloc _ _=v0;have hB:Below w.heap.size w v0:=db hw0;have hP:NN.aA v0 w.heap.size p:=by rw[<-hw0];exact NN.Has.new _ _
 clear hw0;go_wp2_with (first|fail|(with_reducible refine NN.dA rfl _ rfl _ rfl hP hz ?_))
 refine(KN.out _ hB).mono ?_;rintro e v1 ⟨ab,Fa,rfl,hA,hF,hb⟩;have Uz:∀i,Fa i->w.heap.size<=i:=fun i hi=>Nat.le_trans hB.size (hF i hi)
 replace hB:=af hB hb;clear hb hP hF;have hmk:=fun w=>nM w (-1)
 have hbt:=fun g=>OS ab (.slice (aW g) 1 1) rfl
 go_wp2_with fail
 have hL1:Has (v1.alloc (.cells #[i_ (-1)] 3)) v1.heap.size #[i_ (-1)] 3:=Has.new _ _;have hbL:Below v1.heap.size v1 (v1.alloc (.cells #[i_ (-1)] 3)):=aY;have hsz:(v1.alloc (.cells #[i_ (-1)] 3)).heap.size=v1.heap.size+1:=by simp
 generalize v1.alloc (.cells #[i_ (-1)] 3)=v2 at*;have hT:Has (v2.alloc (.cells (n8 ab (.slice (some ⟨v1.heap.size,0,none⟩) 1 1)) 119)) v2.heap.size (n8 ab (.slice (some ⟨v1.heap.size,0,none⟩) 1 1)) 119:=Has.new _ _;rw[hsz]at hT;have hbT:Below v2.heap.size v2 (v2.alloc (.cells (n8 ab (.slice (some ⟨v1.heap.size,0,none⟩) 1 1)) 119)):=aY;have hsz2:(v2.alloc (.cells (n8 ab (.slice (some ⟨v1.heap.size,0,none⟩) 1 1)) 119)).heap.size=v2.heap.size+1:=by simp
 go_ret2;have hb2:Below v1.heap.size v1 (v2.alloc (.cells (n8 ab (.slice (some ⟨v1.heap.size,0,none⟩) 1 1)) 119)):=af hbL hbT;have hs:=hB.size;have hA1:=hA.1;refine⟨v1.heap.size+1,fun i=>Fa i\/i=v1.heap.size\/i=v1.heap.size+1,rfl,⟨fun i hi=>?_,Fa,ab,.slice (some ⟨v1.heap.size,0,none⟩) 1 1,hT,hA.below hb2,⟨rfl,.inr ⟨v1.heap.size,1,_,rfl,Nat.zero_le _,bY hbT hL1 (Has.lt hL1),Nat.le_refl _,by decide,rfl,rfl⟩⟩,Lp.one,.inr (.inr rfl),fun i hi=>.inl hi,fun i hi=>?_,fun hf=>?_,fun i hi hf=>?_⟩,fun i hi=>?_,hB.trans (hb2.mono hs)⟩
 ·show i<(v2.alloc (.cells (n8 ab (.slice (some ⟨v1.heap.size,0,none⟩) 1 1)) 119)).heap.size;rcases hi with hi|rfl|rfl
  have:=hA1 i hi;omega;omega;omega
 exact .inr (.inl (Option.some.inj hi).symm);have:=hA1 _ hf;omega;have h1:v1.heap.size=i:=Option.some.inj hi;have:=hA1 _ hf;omega
 ·rcases hi with hi|rfl|rfl
  exact Uz i hi;exact hs;omega
theorem F4(tp ap:Value)(h:Hd)(ho:h.ok)(now x1 x2 x3:Int)(X:World->World->Prop)(w:World)(KH:Hid (dv w tp ap))(RY:Hid (∀w',Below w.heap.size w w'->Calls Tryz.prog 84 #[ap,.agg (aD h),.int .i64 now] w' fun e w''=>e=.returned (.tuple #[.int .i64 x1,.int .i64 x2,.int .i64 x3])/\X w' w''))(hx:(x3==0)=false):Calls Tryz.prog 48 #[tp,.agg (aD h),.int .i64 now] w fun e w'=>e=.returned (.tuple #[.int .i64 x1,.int .i64 x2,.int .i64 x3])/\∃vx,Below w.heap.size w vx/\X vx w':=by
 have za:=fM ho;go_enter Tryz.func48,Tryz.ntmps48;go_upto_region 1 with fail
 generalize hw0:World.alloc _ _=v0;have hB:Below w.heap.size w v0:=db hw0;have hH:aG v0 w.heap.size h:=by rw[<-hw0];exact Has.new _ _
 clear hw0;obtain⟨bH,Rn⟩:∃x,x=w.heap.size:=⟨_,rfl⟩;rw[<-Rn]at hH|-;clear Rn;refine ig (by kernel_rfl) (fun _=>True) (fun i v' _=>MF tp ap h now x1 x2 x3 i v') (fun l _ w'=>Ph 4 (fun w'=>Below w.heap.size w w'/\aG w' bH h) (fun w'=>∃vx,Below w.heap.size w vx/\X vx w') l w') (fun _ _=>True) (fun _ _=>trivial) (fun _ _ _ _ _ _ h=>h) (by kernel_rfl) trivial ?_ ?_ ?_;exact fun l hl=>Ph.zero hl ⟨hB.trans (a_.drew.mono hB.size),Has.drew hH⟩
 ·intro i o lz a wx ho' hnl dq Z;have hC:=Z.c;have hI:=Z.i;have hi:i<12:=(Array.getElem?_eq_some_iff.1 ho').1;obtain rfl|rfl|rfl|rfl|rfl|rfl|rfl|rfl|rfl|rfl|rfl|rfl:i=0\/i=1\/i=2\/i=3\/i=4\/i=5\/i=6\/i=7\/i=8\/i=9\/i=10\/i=11:=by omega
  all_goals obtain rfl:=Option.some.inj ho'
  exact aP 0 Z (ak rfl) (NN.dk rfl) (Z.old' 0) (hI.keep (av Z 0))
  ·have hsz:=av Z 1;have Ri:=du Z hnl 4;have hpre:=hI.pre Ri hsz (by decide);exact lZ (S:=mJ) 1 Z (ak rfl) (f:=64) (args:=#[a.eval (.tmp 15)]) (by kernel_rfl) (by rw[show a.eval (.tmp 15)=_ from(ar Z dq 0 15)];  exact KH.out wx hpre.1) (fun w' hb=>⟨trivial,trivial,rfl,Ph.made Ri (⟨af hpre.1 hb,hpre.2.on hb⟩)⟩)
  have hsz:=av Z 2;have Ri:=du Z hnl 4;have hpre:=hI.pre Ri hsz (by decide);exact aP 2 Z (ak rfl) (nw rfl (Z.old' 4) hpre.2 za) rfl (hI.keep hsz);exact aP 3 Z (ak rfl) (NN.dk rfl) (Z.old' 2) (hI.keep (av Z 3))
  ·have hsz:=av Z 4;have hpre:=hI.1 hnl
   exact yZ (S:=mJ) 4 Z (ak rfl) (f:=84) (args:=#[a.eval (.tmp 16),a.eval (.tmp 17),a.eval (.tmp 18)]) (by kernel_rfl) (by
    rw[show a.eval (.tmp 16)=_ from(ar Z dq 1 16),show a.eval (.tmp 17)=_ from(ar Z dq 2 17),show a.eval (.tmp 18)=_ from(ar Z dq 3 18)];refine(RY.out wx hpre.1).mono ?_;rintro r w' ⟨rfl,hX⟩;exact⟨_,rfl,trivial,trivial,rfl,Ph.last hsz ⟨wx,hpre.1,hX⟩⟩)
  exact aP 5 Z (ak rfl) (NN.dk rfl) (ar Z dq 4 19) (hI.keep (av Z 5));exact aP 6 Z (ak rfl) (NN.er rfl (ar Z dq 5 14) rfl) rfl (hI.keep (av Z 6));exact aP 7 Z (ak rfl) (NN.er rfl (ar Z dq 5 14) rfl) rfl (hI.keep (av Z 7));exact aP 8 Z (ak rfl) (NN.er rfl (ar Z dq 5 14) rfl) rfl (hI.keep (av Z 8));exact aP 9 Z (ak rfl) (NN.eT rfl) (ar Z dq 6 20) (hI.keep (av Z 9));exact aP 10 Z (ak rfl) (NN.eT rfl) (ar Z dq 7 21) (hI.keep (av Z 10));exact aP 11 Z (ak rfl) (NN.eT rfl) (ar Z dq 8 22) (hI.keep (av Z 11))
 intro lz a' v1 hall Z;obtain⟨vx,hBx,hX⟩:=Z.i.2 (hall 4 (by decide));have e9:a'.eval (.tmp 9)=.int .i64 x1:=Z.got 9 _ 9 rfl (hall 9 (by decide)) rfl;have e10:a'.eval (.tmp 10)=.int .i64 x2:=Z.got 10 _ 10 rfl (hall 10 (by decide)) rfl;have e11:a'.eval (.tmp 11)=.int .i64 x3:=Z.got 11 _ 11 rfl (hall 11 (by decide)) rfl;have e0:a'.eval (.tmp 0)=tp:=Z.old' 0;obtain⟨u,hu⟩:∃u:Nat->Value,∀t,u t=a'.eval (.tmp t):=⟨_,fun _=>rfl⟩;rw[eE a' 59 u Z.Re Z.defers hu];rw[<-hu]at e0 e9 e10 e11;clear hu Z hall;simp only[List.range,List.range.loop,List.map_cons,List.map_nil];rw[e0,e9,e10,e11];clear e0 e9 e10 e11;clear hB hH KH RY;go_wp2_with fail
 go_ret3
 exact⟨rfl,vx,hBx,hX⟩
theorem IX(b:Nat)(ap:Value)(h:Hd)(ho:h.ok)(now x1 x2 x3:Int)(X:World->World->Prop)(w:World)(KH:Hid (dv w (.pointer (some ⟨b,0,none⟩)) ap))(RY:Hid (∀w',Below w.heap.size w w'->Calls Tryz.prog 84 #[ap,.agg (aD h),.int .i64 now] w' fun e w''=>e=.returned (.tuple #[.int .i64 x1,.int .i64 x2,.int .i64 x3])/\X w' w''))(n:Nat)(hx:(x3==0)=true)(hx2:(x1==(n:Int))=false)(HV:Hid (∀w' w'',Below w.heap.size w w'->X w' w''->∃a c,w''.cell? ⟨b,1,none⟩=some (.slice a n c))):Calls Tryz.prog 48 #[.pointer (some ⟨b,0,none⟩),.agg (aD h),.int .i64 now] w fun e w'=>e=.returned (.tuple #[.int .i64 x1,.int .i64 x2,.int .i64 x3])/\∃vx,Below w.heap.size w vx/\X vx w':=by
 have za:=fM ho;go_enter Tryz.func48,Tryz.ntmps48;go_upto_region 1 with fail
 generalize hw0:World.alloc _ _=v0;have hB:Below w.heap.size w v0:=db hw0;have hH:aG v0 w.heap.size h:=by rw[<-hw0];exact Has.new _ _
 clear hw0;obtain⟨bH,Rn⟩:∃x,x=w.heap.size:=⟨_,rfl⟩;rw[<-Rn]at hH|-;clear Rn;refine ig (by kernel_rfl) (fun _=>True) (fun i v' _=>MF (.pointer (some ⟨b,0,none⟩)) ap h now x1 x2 x3 i v') (fun l _ w'=>Ph 4 (fun w'=>Below w.heap.size w w'/\aG w' bH h) (fun w'=>∃vx,Below w.heap.size w vx/\X vx w') l w') (fun _ _=>True) (fun _ _=>trivial) (fun _ _ _ _ _ _ h=>h) (by kernel_rfl) trivial ?_ ?_ ?_;exact fun l hl=>Ph.zero hl ⟨hB.trans (a_.drew.mono hB.size),Has.drew hH⟩
 ·intro i o lz a wx ho' hnl dq Z;have hC:=Z.c;have hI:=Z.i;have hi:i<12:=(Array.getElem?_eq_some_iff.1 ho').1;obtain rfl|rfl|rfl|rfl|rfl|rfl|rfl|rfl|rfl|rfl|rfl|rfl:i=0\/i=1\/i=2\/i=3\/i=4\/i=5\/i=6\/i=7\/i=8\/i=9\/i=10\/i=11:=by omega
  all_goals obtain rfl:=Option.some.inj ho'
  exact aP 0 Z (ak rfl) (NN.dk rfl) (Z.old' 0) (hI.keep (av Z 0))
  ·have hsz:=av Z 1;have Ri:=du Z hnl 4;have hpre:=hI.pre Ri hsz (by decide);exact lZ (S:=mJ) 1 Z (ak rfl) (f:=64) (args:=#[a.eval (.tmp 15)]) (by kernel_rfl) (by rw[show a.eval (.tmp 15)=_ from(ar Z dq 0 15)];  exact KH.out wx hpre.1) (fun w' hb=>⟨trivial,trivial,rfl,Ph.made Ri (⟨af hpre.1 hb,hpre.2.on hb⟩)⟩)
  have hsz:=av Z 2;have Ri:=du Z hnl 4;have hpre:=hI.pre Ri hsz (by decide);exact aP 2 Z (ak rfl) (nw rfl (Z.old' 4) hpre.2 za) rfl (hI.keep hsz);exact aP 3 Z (ak rfl) (NN.dk rfl) (Z.old' 2) (hI.keep (av Z 3))
  ·have hsz:=av Z 4;have hpre:=hI.1 hnl
   exact yZ (S:=mJ) 4 Z (ak rfl) (f:=84) (args:=#[a.eval (.tmp 16),a.eval (.tmp 17),a.eval (.tmp 18)]) (by kernel_rfl) (by
    rw[show a.eval (.tmp 16)=_ from(ar Z dq 1 16),show a.eval (.tmp 17)=_ from(ar Z dq 2 17),show a.eval (.tmp 18)=_ from(ar Z dq 3 18)];refine(RY.out wx hpre.1).mono ?_;rintro r w' ⟨rfl,hX⟩;exact⟨_,rfl,trivial,trivial,rfl,Ph.last hsz ⟨wx,hpre.1,hX⟩⟩)
  exact aP 5 Z (ak rfl) (NN.dk rfl) (ar Z dq 4 19) (hI.keep (av Z 5));exact aP 6 Z (ak rfl) (NN.er rfl (ar Z dq 5 14) rfl) rfl (hI.keep (av Z 6));exact aP 7 Z (ak rfl) (NN.er rfl (ar Z dq 5 14) rfl) rfl (hI.keep (av Z 7));exact aP 8 Z (ak rfl) (NN.er rfl (ar Z dq 5 14) rfl) rfl (hI.keep (av Z 8));exact aP 9 Z (ak rfl) (NN.eT rfl) (ar Z dq 6 20) (hI.keep (av Z 9));exact aP 10 Z (ak rfl) (NN.eT rfl) (ar Z dq 7 21) (hI.keep (av Z 10));exact aP 11 Z (ak rfl) (NN.eT rfl) (ar Z dq 8 22) (hI.keep (av Z 11))
 intro lz a' v1 hall Z;obtain⟨vx,hBx,hX⟩:=Z.i.2 (hall 4 (by decide));have e9:a'.eval (.tmp 9)=.int .i64 x1:=Z.got 9 _ 9 rfl (hall 9 (by decide)) rfl;have e10:a'.eval (.tmp 10)=.int .i64 x2:=Z.got 10 _ 10 rfl (hall 10 (by decide)) rfl;have e11:a'.eval (.tmp 11)=.int .i64 x3:=Z.got 11 _ 11 rfl (hall 11 (by decide)) rfl;have e0:a'.eval (.tmp 0)=(.pointer (some ⟨b,0,none⟩)):=Z.old' 0;obtain⟨u,hu⟩:∃u:Nat->Value,∀t,u t=a'.eval (.tmp t):=⟨_,fun _=>rfl⟩;rw[eE a' 59 u Z.Re Z.defers hu];rw[<-hu]at e0 e9 e10 e11;clear hu Z hall;simp only[List.range,List.range.loop,List.map_cons,List.map_nil];rw[e0,e9,e10,e11];clear e0 e9 e10 e11;clear hB hH KH RY;obtain⟨al,cl,c1⟩:=HV.out vx v1 hBx hX;go_wp2_with fail
 go_ret3
 exact⟨rfl,vx,hBx,hX⟩
theorem ER(b ab g n c:Nat)(ap:Value)(h:Hd)(ho:h.ok)(now x2:Int)(X:World->World->Prop)(w:World)(KH:Hid (dv w (.pointer (some ⟨b,0,none⟩)) ap))(RY:Hid (∀w',Below w.heap.size w w'->Calls Tryz.prog 84 #[ap,.agg (aD h),.int .i64 now] w' fun e w''=>e=.returned (.tuple #[.int .i64 (n:Int),.int .i64 x2,.int .i64 0])/\X w' w''))(ls:List Int)(h9:n<=1000)(E:En)(hE:E.ok)(ua k q y:Int)(HU:Hid (E.up=ua))(HT:Hid (E.ht=k))(hne:b≠g)(HV:Hid (∀w' w'',Below w.heap.size w w'->X w' w''->Has w'' b (n8 ab (.slice (some ⟨g,0,none⟩) n c)) 119/\w''.ownsRow 0 3 1 (.slice (some ⟨g,0,none⟩) n c) n (ls.map (Value.int .i64))))(KAt:Hid (∀w' w'',Below w.heap.size w w'->X w' w''->∀w3,Below w''.heap.size w'' w3->Calls Tryz.prog 29 #[.pointer (some ⟨b,0,none⟩),.int .i64 (n:Int)] w3 fun x w4=>x=.returned (.tuple #[.agg (bB E),.bool true])/\Below w3.heap.size w3 w4))(KHt:x9 85 #[.int .i64 k] (.int .i64 q))(W7:Hid (∀w' w'',Below w.heap.size w w'->X w' w''->∀w3,Below w''.heap.size w'' w3->Calls Tryz.prog 69 #[.pointer (some ⟨b,0,none⟩),.int .i64 ua,.int .i64 q] w3 fun x w4=>x=.returned (.int .i64 y)/\Below w3.heap.size w3 w4)):Calls Tryz.prog 48 #[.pointer (some ⟨b,0,none⟩),.agg (aD h),.int .i64 now] w fun e w'=>e=.returned (.tuple #[.int .i64 (n:Int),.int .i64 x2,.int .i64 0])/\∃vx v1 v2 v',Below w.heap.size w vx/\X vx v1/\Below v1.heap.size v1 v2/\Kp (fun i=>i=b\/i=g) v2 w'/\Has w' b (n8 ab v') 119/\w'.ownsRow 0 3 1 v' (n+1) ((ls++[y]).map (Value.int .i64))/\(v'.ownBlock=some g\/∃g',v'.ownBlock=some g'/\v2.heap.size<=g'):=by
 have za:=fM ho;go_enter Tryz.func48,Tryz.ntmps48;go_upto_region 1 with fail
 generalize hw0:World.alloc _ _=v0;have hB:Below w.heap.size w v0:=db hw0;have hH:aG v0 w.heap.size h:=by rw[<-hw0];exact Has.new _ _
 clear hw0;obtain⟨bH,Rn⟩:∃x,x=w.heap.size:=⟨_,rfl⟩;rw[<-Rn]at hH|-;clear Rn;refine ig (by kernel_rfl) (fun _=>True) (fun i v' _=>MF (.pointer (some ⟨b,0,none⟩)) ap h now (n:Int) x2 0 i v') (fun l _ w'=>Ph 4 (fun w'=>Below w.heap.size w w'/\aG w' bH h) (fun w'=>∃vx,Below w.heap.size w vx/\X vx w') l w') (fun _ _=>True) (fun _ _=>trivial) (fun _ _ _ _ _ _ h=>h) (by kernel_rfl) trivial ?_ ?_ ?_;exact fun l hl=>Ph.zero hl ⟨hB.trans (a_.drew.mono hB.size),Has.drew hH⟩
 ·intro i o lz a wx ho' hnl dq Z;have hC:=Z.c;have hI:=Z.i;have hi:i<12:=(Array.getElem?_eq_some_iff.1 ho').1;obtain rfl|rfl|rfl|rfl|rfl|rfl|rfl|rfl|rfl|rfl|rfl|rfl:i=0\/i=1\/i=2\/i=3\/i=4\/i=5\/i=6\/i=7\/i=8\/i=9\/i=10\/i=11:=by omega
  all_goals obtain rfl:=Option.some.inj ho'
  exact aP 0 Z (ak rfl) (NN.dk rfl) (Z.old' 0) (hI.keep (av Z 0))
  ·have hsz:=av Z 1;have Ri:=du Z hnl 4;have hpre:=hI.pre Ri hsz (by decide);exact lZ (S:=mJ) 1 Z (ak rfl) (f:=64) (args:=#[a.eval (.tmp 15)]) (by kernel_rfl) (by rw[show a.eval (.tmp 15)=_ from(ar Z dq 0 15)];  exact KH.out wx hpre.1) (fun w' hb=>⟨trivial,trivial,rfl,Ph.made Ri (⟨af hpre.1 hb,hpre.2.on hb⟩)⟩)
  have hsz:=av Z 2;have Ri:=du Z hnl 4;have hpre:=hI.pre Ri hsz (by decide);exact aP 2 Z (ak rfl) (nw rfl (Z.old' 4) hpre.2 za) rfl (hI.keep hsz);exact aP 3 Z (ak rfl) (NN.dk rfl) (Z.old' 2) (hI.keep (av Z 3))
  ·have hsz:=av Z 4;have hpre:=hI.1 hnl
   exact yZ (S:=mJ) 4 Z (ak rfl) (f:=84) (args:=#[a.eval (.tmp 16),a.eval (.tmp 17),a.eval (.tmp 18)]) (by kernel_rfl) (by
    rw[show a.eval (.tmp 16)=_ from(ar Z dq 1 16),show a.eval (.tmp 17)=_ from(ar Z dq 2 17),show a.eval (.tmp 18)=_ from(ar Z dq 3 18)];refine(RY.out wx hpre.1).mono ?_;rintro r w' ⟨rfl,hX⟩;exact⟨_,rfl,trivial,trivial,rfl,Ph.last hsz ⟨wx,hpre.1,hX⟩⟩)
  exact aP 5 Z (ak rfl) (NN.dk rfl) (ar Z dq 4 19) (hI.keep (av Z 5));exact aP 6 Z (ak rfl) (NN.er rfl (ar Z dq 5 14) rfl) rfl (hI.keep (av Z 6));exact aP 7 Z (ak rfl) (NN.er rfl (ar Z dq 5 14) rfl) rfl (hI.keep (av Z 7));exact aP 8 Z (ak rfl) (NN.er rfl (ar Z dq 5 14) rfl) rfl (hI.keep (av Z 8));exact aP 9 Z (ak rfl) (NN.eT rfl) (ar Z dq 6 20) (hI.keep (av Z 9));exact aP 10 Z (ak rfl) (NN.eT rfl) (ar Z dq 7 21) (hI.keep (av Z 10));exact aP 11 Z (ak rfl) (NN.eT rfl) (ar Z dq 8 22) (hI.keep (av Z 11))
 intro lz a' v1 hall Z;obtain⟨vx,hBx,hX⟩:=Z.i.2 (hall 4 (by decide));have e9:a'.eval (.tmp 9)=.int .i64 (n:Int):=Z.got 9 _ 9 rfl (hall 9 (by decide)) rfl;have e10:a'.eval (.tmp 10)=.int .i64 x2:=Z.got 10 _ 10 rfl (hall 10 (by decide)) rfl;have e11:a'.eval (.tmp 11)=.int .i64 0:=Z.got 11 _ 11 rfl (hall 11 (by decide)) rfl;have e0:a'.eval (.tmp 0)=(.pointer (some ⟨b,0,none⟩)):=Z.old' 0;obtain⟨u,hu⟩:∃u:Nat->Value,∀t,u t=a'.eval (.tmp t):=⟨_,fun _=>rfl⟩;rw[eE a' 59 u Z.Re Z.defers hu];rw[<-hu]at e0 e9 e10 e11;clear hu Z hall;simp only[List.range,List.range.loop,List.map_cons,List.map_nil];rw[e0,e9,e10,e11];clear e0 e9 e10 e11;clear hB hH KH RY;obtain⟨RD,Y_⟩:=HV.out vx v1 hBx hX;have VN:=h_ (KAt.out vx v1 hBx hX);have Tt:=h_ (W7.out vx v1 hBx hX);have HQ:=h_ (And.intro hBx hX);clear HV KAt W7 hBx hX;have c1:=Has.cell RD 1;have hB:=Below.refl v1.heap.size v1;have t3:((n:Int)==(n:Int))=true:=by simp
 have c1':v1.cell? ⟨b,1,none⟩=some (.slice (some ⟨g,0,none⟩) n c):=c1;clear c1;go_wp2_with fail
 refine(VN.out _ hB).mono ?_;rintro x XA ⟨rfl,hb⟩;replace hB:=af hB hb;clear hb VN c1';have hnew:=gl XA;have hE1:=lR XA E;have ze:=gh hE;have z0:=gh cU;have hb3:=ma XA 60 Tryz.zeroCells60 (bB E);go_upto_region 4 with(with_reducible refine gQ rfl _ _ rfl _ _ E rfl rfl rfl ze hnew z0 ?_)
 generalize World.setRow _ _ _=v2 at*;obtain⟨bE,SP⟩:∃x,x=XA.heap.size:=⟨_,rfl⟩;rw[<-SP]at hE1|-;have hlt1:=Has.lt RD;have hlt2:=(cx Y_ (i:=g) rfl).1;have hs1:=hB.size;have fE:¬(bE=b\/bE=g):=fun h=>by rcases h with h|h<;>omega
 replace hB:=af hB hb3;have k0:=Kp.of (F:=fun _=>False) hB;have hA:=k0.has RD (fun h=>h);have rL:=ax Y_ k0 (fun _ _ h=>h);have KAn:Hid (∀w3,Below v2.heap.size v2 w3->Calls Tryz.prog 69 #[.pointer (some ⟨b,0,none⟩),.int .i64 ua,.int .i64 q] w3 fun x w4=>x=.returned (.int .i64 y)/\Below w3.heap.size w3 w4):=h_ fun w3 hb=>Tt.out w3 (af hB hb)
 have RQ:Hid (g≠b):=h_ fun h=>hne h.symm
 clear SP hlt1 hlt2 hs1 hb3 hnew k0 RD Y_ Tt hne;refine ig (by kernel_rfl) (fun w'=>Kp (fun i=>i=b\/i=g) v2 w') (fun i v' _=>QT b bE g n c ua k q y i v') (fun l a w'=>iE 12 13 16 52 53 v2.heap.size 3 119 1 (fun cs=>cs=#[.int .i64 y]) (.slice (some ⟨g,0,none⟩) n c) n (ls.map (Value.int .i64)) b (fun u=>n8 ab u) l a w'/\Ph 13 (fun w'=>Below v2.heap.size v2 w') (fun _=>True) l w') (fun _ _=>True) (fun _ _=>trivial) (fun _ _ _ _ _ _ h=>h) (by kernel_rfl) (Kp.of a_.drew) ?_ ?_ ?_;exact fun l hl=>⟨iE.zero hl (ax rL (Kp.of (F:=fun _=>False) a_.drew) (fun _ _ h=>h)) (Has.drew hA),Ph.zero hl a_.drew⟩
 ·intro i o lz a wx ho' hnl dq Z;have hC:=Z.c;have hI:=Z.i;have hi:i<17:=(Array.getElem?_eq_some_iff.1 ho').1;have VG:br wx bE E:=hC.has hE1 fE;have hlx:v2.heap.size<=wx.heap.size:=hC.size;obtain rfl|rfl|rfl|rfl|rfl|rfl|rfl|rfl|rfl|rfl|rfl|rfl|rfl|rfl|rfl|rfl|rfl:i=0\/i=1\/i=2\/i=3\/i=4\/i=5\/i=6\/i=7\/i=8\/i=9\/i=10\/i=11\/i=12\/i=13\/i=14\/i=15\/i=16:=by omega
  all_goals obtain rfl:=Option.some.inj ho'
  have hsz:=av Z 0;exact aP 0 Z (ak rfl) (NN.dk rfl) (Z.old' 0) ⟨hI.1.keep hsz,hI.2.keep hsz⟩;have hsz:=av Z 1;exact aP 1 Z (ak rfl) (NN.dk rfl) (Z.old' 0) ⟨hI.1.keep hsz,hI.2.keep hsz⟩;have hsz:=av Z 2;exact aP 2 Z (ak rfl) (cB rfl (ar Z dq 1 41)) rfl ⟨hI.1.keep hsz,hI.2.keep hsz⟩;have hsz:=av Z 3;exact aP 3 Z (ak rfl) (de rfl (ar Z dq 2 42) (od wx b)) rfl ⟨hI.1.keep hsz,hI.2.keep hsz⟩;have hsz:=av Z 4;have hks:=du Z hnl 16;have hAx:=hI.1.ha (by rw[<-gd lz 4 16 hsz (by decide)];exact hks);exact aP 4 Z (ak rfl) (gF rfl (ar Z dq 3 43) (wS (Has.cell hAx 1))) rfl ⟨hI.1.keep hsz,hI.2.keep hsz⟩;have hsz:=av Z 5;exact aP 5 Z (ak rfl) (NN.dk rfl) (Z.old' 0) ⟨hI.1.keep hsz,hI.2.keep hsz⟩;have hsz:=av Z 6;exact aP 6 Z (ak rfl) (de rfl (Z.old' 12) (wT wx bE)) rfl ⟨hI.1.keep hsz,hI.2.keep hsz⟩;have hsz:=av Z 7;exact aP 7 Z (ak rfl) (NN.kU rfl (ar Z dq 6 46) (br.up VG hE HU)) rfl ⟨hI.1.keep hsz,hI.2.keep hsz⟩;have hsz:=av Z 8;exact aP 8 Z (ak rfl) (de rfl (Z.old' 12) (sJ wx bE)) rfl ⟨hI.1.keep hsz,hI.2.keep hsz⟩;have hsz:=av Z 9;exact aP 9 Z (ak rfl) (NN.kU rfl (ar Z dq 8 48) (br.ht VG hE HT)) rfl ⟨hI.1.keep hsz,hI.2.keep hsz⟩
  ·have hsz:=av Z 10;have Ri:=du Z hnl 13;have hpre:=hI.2.pre Ri hsz (by decide);exact lZ (S:=mJ) 10 Z (ak rfl) (f:=85) (args:=#[a.eval (.tmp 49)]) (by kernel_rfl) (by rw[show a.eval (.tmp 49)=_ from(ar Z dq 9 49)];  exact KHt.out wx) (fun w' hb=>⟨hC.trans (Kp.of (F:=fun i=>i=b\/i=g) hb) (fun i hi _=>hi),trivial,rfl,(hI.1.on hb).keep hsz,Ph.made Ri (af hpre hb)⟩)
  ·have hsz:=av Z 11;have Ri:=du Z hnl 13;have hpre:=hI.2.pre Ri hsz (by decide);exact lZ (S:=mJ) 11 Z (ak rfl) (f:=69) (args:=#[a.eval (.tmp 45),a.eval (.tmp 47),a.eval (.tmp 50)]) (by kernel_rfl) (by rw[show a.eval (.tmp 45)=_ from(ar Z dq 5 45)];rw[show a.eval (.tmp 47)=_ from(ar Z dq 7 47)];rw[show a.eval (.tmp 50)=_ from(ar Z dq 10 50)];  exact KAn.out wx hpre) (fun w' hb=>⟨hC.trans (Kp.of (F:=fun i=>i=b\/i=g) hb) (fun i hi _=>hi),trivial,rfl,(hI.1.on hb).keep hsz,Ph.made Ri (af hpre hb)⟩)
  have hsz:=av Z 12;have hka:=du Z hnl 13;have hks:=du Z hnl 16;have Ri:=du Z hnl 13;have hpre:=hI.2.pre Ri hsz (by decide);have hb:Below wx.heap.size wx (wx.alloc _):=a_.alloc (Nat.le_refl _) (.cells #[.int .i64 y] 3);exact o_ 12 Z (ak rfl) (NN.Rz.jI rfl (ar Z dq 11 51) (nM wx y)) (hC.trans (Kp.of (F:=fun i=>i=b\/i=g) hb) (fun i hi _=>hi)) rfl ⟨hI.1.built hsz hka hks (by decide) (by decide) (by rw[Z.Re];exact(show 52<59 by decide)) rfl,Ph.made Ri (af hpre hb)⟩;have hsz:=av Z 13;have hks:=du Z hnl 16;have hkb:lz.getD 12 false=true:=dq ⟨12,.data⟩ (by simp) rfl;obtain⟨gg,cs,rfl,hg,hgh⟩:=hI.1.bu hkb hnl;obtain⟨v',w',hr,g1,g2,g3⟩:=vN (ρ:=a.eval) (x:=.tmp 44) (y:=.tmp 52) (Ts:=49) Tryz.underlying49 si (by decide) (by decide) rfl (by intro u hu;simp at hu;subst hu;rfl) (ar Z dq 4 44) (hI.1.ro hnl) hg hgh h9;exact o_ 13 Z (ak rfl) (hr _ rfl rfl) (hC.trans (Kp.gb (F:=fun i=>i=b\/i=g) g2 (fun k hk=>.inr (Option.some.inj hk).symm)) (fun i hi _=>hi)) rfl ⟨hI.1.appended hsz hks (by decide) (by rw[Z.Re];exact(show 53<59 by decide)) rfl g1 g2 g3 hlx (fun e=>RQ.out (Option.some.inj e)),Ph.last hsz trivial⟩;have hsz:=av Z 14;exact aP 14 Z (ak rfl) (cB rfl (ar Z dq 0 40)) rfl ⟨hI.1.keep hsz,hI.2.keep hsz⟩;have hsz:=av Z 15;exact aP 15 Z (ak rfl) (de rfl (ar Z dq 14 54) (od wx b)) rfl ⟨hI.1.keep hsz,hI.2.keep hsz⟩
  ·have hsz:=av Z 16;have hka:lz.getD 13 false=true:=dq ⟨13,.data⟩ (by simp) rfl;obtain⟨v',cs,rfl,hv',hr',hl'⟩:=hI.1.ap hka hnl;obtain⟨g',c',rfl⟩:=iV hr' (Nat.succ_pos _);have hAx:=hI.1.ha hnl;have kb:Kp (fun i=>i=b) wx (wx.setCell ⟨b,1,none⟩ (.slice (some ⟨g',0,none⟩) (n+1) c')):=Kp.gb (gO wx b 1 _) (fun k hk=>(Option.some.inj hk).symm)
   exact o8 16 Z (ak rfl) (lY rfl (ar Z dq 15 55) hv' (Cf (Has.free hAx 1) (Has.cell hAx 1))) (hC.trans kb (fun i hi _=>.inl hi)) rfl ⟨iE.stored hsz (by decide) hka rfl (Aq hAx _) (ax hr' kb (fun i hi e=>by
    obtain⟨_,k⟩:=eP hr' hi;exact cu k hAx.out (by decide) e)) hl',⟨fun h=>(by rw[gd lz 16 13 hsz (by decide),hka]at h;cases h),fun _=>trivial⟩⟩
 intro lz a' v5 hall Z;have hC:=Z.c;obtain⟨v',cs,rfl,hA',rL',hl'⟩:=Z.i.1.st (hall 16 (by decide));have e9:a'.eval (.tmp 9)=.int .i64 (n:Int):=Z.old' 9;have e10:a'.eval (.tmp 10)=.int .i64 x2:=Z.old' 10;have e11:a'.eval (.tmp 11)=.int .i64 0:=Z.old' 11;obtain⟨u,hu⟩:∃u:Nat->Value,∀t,u t=a'.eval (.tmp t):=⟨_,fun _=>rfl⟩;rw[eE a' 59 u Z.Re Z.defers hu];rw[<-hu]at e9 e10 e11;clear hu Z hall;simp only[List.range,List.range.loop,List.map_cons,List.map_nil];rw[e9,e10,e11];clear e9 e10 e11;go_wp2_with fail
 go_ret3
 exact⟨rfl,vx,HQ.out.1,v1,HQ.out.2,v2,hB,hC,v',hA',rL',hl'⟩
end An
namespace An
open Mem Sc
open Ar (aq Ru aB Ok Lp ki Up bV dG)
theorem JN(r:Ru)(M:List aq)(h:Hd)(now:Int):(¬(Ar.add r M h now).1.2.2=0/\(Ar.add r M h now).2=M) \/ ((Ar.add r M h now).1.2.2=0/\(∃i:Nat,(Ar.add r M h now).1.1=(i:Int)/\i<M.length)/\(Ar.add r M h now).2=M) \/ ((Ar.add r M h now).1=(((M.length:Nat):Int),(0:Int),(0:Int))/\∃(j:Nat)(d:aq),M[j]?=some d/\(Ar.add r M h now).2=M++[⟨d.hs++[h],(j:Int)⟩]):=by
 unfold Ar.add;by_cases hP:h.P
 ·rw[if_neg (fun hh=>hh hP)];cases h1:Ar.jW r.g M h.id with
  | some i=>
   obtain⟨e,he,_⟩:=Ar.pM h1;exact .inr (.inl ⟨rfl,⟨i,rfl,(List.getElem?_eq_some_iff.1 he).1⟩,rfl⟩)
  | none=>
   cases h2:Ar.jW r.g M h.prev with
   | none=>exact .inl ⟨by simp,rfl⟩
   | some j=>
    simp only;obtain⟨d,hd,_⟩:=Ar.pM h2;by_cases h3:Ar.km r (M.getD j aB) h now=0;rw[if_neg (fun hh=>hh h3)];by_cases h4:r.room<=M.length;rw[if_pos h4];exact .inl ⟨by simp,rfl⟩;rw[if_neg h4];refine .inr (.inr ⟨rfl,j,d,hd,?_⟩);rw[show M.getD j aB=d by rw[List.getD_eq_getElem?_getD,hd];rfl];rw[if_pos h3];exact .inl ⟨by simp,rfl⟩
 rw[if_pos hP];exact .inl ⟨by simp,rfl⟩
variable{w:World}{F:Nat->Prop}{b k:Nat}{r:Ru}{ls L K:List Int}
theorem BA{vx w':World}{Fa:Nat->Prop}{ab:Nat}{lv:Value}{M':List aq}(hF:∀i,F i->i<w.heap.size)(h1:Has w b (n8 ab lv) 119)(h3:w.ownsRow 0 3 1 lv ls.length (ls.map (Value.int .i64)))(h4:Lp M' ls)(h5:F b)(h6:∀i,Fa i->F i)(h7:∀i,lv.ownBlock=some i->F i)(h8:¬Fa b)(h9:∀i,lv.ownBlock=some i->¬Fa i)(hb:Bl w vx)(hA:gM w' (iS Fa vx w') ab r M')(hK:Kp Fa vx w'):fO w' (iS F w w') b r M' ls/\Kp F w w':=by
 have k0:Kp Fa w w':=(Kp.of hb).trans hK fun i hi _=>hi
 have hs:=hb.size;have hlt:=Has.lt h1;refine⟨⟨lq hF k0.size,iS Fa vx w',ab,lv,k0.has h1 h8,hA,ax h3 k0 h9,h4,.inl h5,fun i hi=>?_,fun i hi=>.inl (h7 i hi),fun hn=>?_,fun i hi hn=>?_⟩,k0.mono fun i hi _=>h6 i hi⟩;exact hi.elim (fun h=>.inl (h6 i h)) (fun h=>.inr ⟨Nat.le_trans hs h.1,h.2⟩);exact hn.elim h8 (fun h=>by omega);have:=(cx h3 hi).1;exact hn.elim (h9 i hi) (fun h=>by omega)
variable{M:List aq}
theorem xg(hS:fO w F b r M ls)(hM:Ok r M)(hl:M.length<=800)(hls:ls.length=M.length)(hgl:r.gs.length<=1000)(hcl:r.cs.length<=1000)(hT:dM w)(h:Hd)(ho:h.ok)(now:Int):aN 48 #[ah b,.agg (aD h),i_ now] w fun e w'=>e=.returned (.tuple #[i_ (Ar.add r M h now).1.1,i_ (Ar.add r M h now).1.2.1,i_ (Ar.add r M h now).1.2.2])/\(∃ls',ls'.length=(Ar.add r M h now).2.length/\fO w' (iS F w w') b r (Ar.add r M h now).2 ls')/\Kp F w w':=by
 have hpos:=hM.pos;have VO:=hM.add ho now;obtain⟨gg,cc,hL⟩:=hS.UQ (by omega);have hS':=hS;obtain⟨hF,Fa,ab,lv,h1,h2,h3,h4,h5,h6,h7,h8,h9⟩:=hS'
 have hlv:lv=.slice (aW gg) ls.length cc:=by
  have e1:=hL.1;have e2:w.cell? ⟨b,1,none⟩=some lv:=Has.cell h1 1;rw[e1]at e2;exact(Option.some.inj e2).symm
 have hbl:=Has.lt h1;have KH:Hid (dv w (ah b) (ah ab)):=h_ fun w' hb=>qC b ab w' ((hb.cell (p:=⟨b,0,none⟩) hbl).trans (Has.cell h1 0))
 have KA:=fun(w':World)(hb:Bl w w')=>jT (h2.below hb) hM (by omega) hgl hcl (hT.below hb) h ho now
 rcases JN r M h now with⟨c1,c2⟩|⟨c1,⟨i,c2,c3⟩,c4⟩|⟨c1,j,d,c2,c3⟩
 obtain⟨⟨x1,x2,x3⟩,hx⟩:∃x,x=(Ar.add r M h now).1:=⟨_,rfl⟩;rw[<-hx]at c1 KA|-;rw[c2]at KA|-;refine(F4 _ _ h ho now x1 x2 x3 (fun w' w''=>gM w'' (iS Fa w' w'') ab r M/\Kp Fa w' w'') w KH (h_ KA) (by simpa using c1)).mono ?_;rintro e w' ⟨rfl,vx,q1,q2,q3⟩;obtain⟨u1,u2⟩:=BA hF h1 h3 h4 h5 h6 h7 h8 h9 q1 q2 q3;exact⟨rfl,⟨ls,hls,u1⟩,u2⟩;obtain⟨⟨x1,x2,x3⟩,hx⟩:∃x,x=(Ar.add r M h now).1:=⟨_,rfl⟩;rw[<-hx]at c1 c2 KA|-;rw[c4]at KA|-;simp only at c1 c2;refine(IX b _ h ho now x1 x2 x3 (fun w' w''=>gM w'' (iS Fa w' w'') ab r M/\Kp Fa w' w'') w KH (h_ KA) ls.length (by simpa using c1) (by rw[c2,beq_eq_false_iff_ne];omega) (h_ fun w' w'' hb hX=>?_)).mono ?_;obtain⟨_,k⟩:=hX;have h1':=k.has (bY hb h1 hbl) h8;exact⟨_,_,(Has.cell h1' 1).trans (by rw[hlv];rfl)⟩;rintro e w' ⟨rfl,vx,q1,q2,q3⟩;obtain⟨u1,u2⟩:=BA hF h1 h3 h4 h5 h6 h7 h8 h9 q1 q2 q3;exact⟨rfl,⟨ls,hls,u1⟩,u2⟩
 ·rw[c3]at VO KA|-;rw[c1]at KA|-;simp only at KA|-;subst hlv;have hd:=c2;obtain⟨e',he'⟩:∃e':aq,e'=⟨d.hs++[h],(j:Int)⟩:=⟨_,rfl⟩;rw[<-he']at VO KA|-;have hel:e'.hs.length=d.hs.length+1:=by rw[he',List.length_append];rfl
  have XB:e'.up=(j:Int):=by rw[he']
  have hnew:(M++[e'])[M.length]?=some e':=by rw[List.getElem?_append_right (Nat.le_refl _),Nat.sub_self];rfl
  have hjl:=(List.getElem?_eq_some_iff.1 hd).1;have hd':(M++[e'])[j]?=some d:=by rw[List.getElem?_append_left hjl];exact hd
  have hdc:=(hM.chain j d hd).1;obtain⟨y,hy⟩:=Up.there VO hd' (h:=ki e'.hs.length) (by have:=Ar.rD (h:=e'.hs.length) (by omega);omega);have W8:Lp (M++[e']) ls:=h4.more [e'];have hX:∀(w' w'':World),Bl w w'->gM w'' (iS Fa w' w'') ab r (M++[e'])/\Kp Fa w' w''->fO w'' (iS F w w'') b r (M++[e']) ls/\Kp F w w'':=fun w' w'' hb hX=>BA hF h1 h3 W8 h5 h6 h7 h8 h9 hb hX.1 hX.2
  have hne:b≠gg:=fun e=>h9 gg rfl (by
   obtain⟨_,k⟩:=eP h3 (i:=gg) rfl;exact absurd e (cu h1.out k (by decide)))
  have hE:(bq r e').ok:=by
   have:=VO.up M.length e' hpos hnew;obtain⟨j2,d2,h2',ab6,_,_,q3,q4,_,_⟩:=this;refine⟨?_,ij _⟩;show(e'.h r.g).ok;rw[q3,Ar.iw];exact q4
  have hKA:Hid (∀(w':World),Bl w w'->aN 84 #[ah ab,.agg (aD h),i_ now] w' fun e w''=>e=.returned (.tuple #[i_ ((ls.length:Nat):Int),i_ 0,i_ 0])/\gM w'' (iS Fa w' w'') ab r (M++[e'])/\Kp Fa w' w''):=h_ (by rw[hls];exact KA);refine(ER b ab gg ls.length cc _ h ho now 0 (fun w' w''=>gM w'' (iS Fa w' w'') ab r (M++[e'])/\Kp Fa w' w'') w KH hKA ls (by omega) (bq r e') hE e'.up (e'.hs.length:Nat) ((ki e'.hs.length:Nat):Int) y (h_ rfl) (h_ rfl) hne (h_ fun w' w'' hb hx=>?_) (h_ fun w' w'' hb hx w3 hb3=>?_) (h_ fun w'=>?_) (h_ fun w' w'' hb hx w3 hb3=>?_)).mono ?_
  ·have k0:Kp Fa w w'':=(Kp.of hb).trans hx.2 fun i hi _=>hi
   exact⟨k0.has h1 h8,ax h3 k0 h9⟩
  exact eI ((hX w' w'' hb hx).1.below hb3) hnew _ (by rw[hls]);have:=Dv (e'.hs.length:Nat) (by omega) (by omega) w';rwa[Int.toNat_natCast]at this
  refine Cb ((hX w' w'' hb hx).1.below hb3) VO (by rw[List.length_append];have:[e'].length=1:=rfl;omega) e'.up _ y (fun _=>by rw[XB];omega) (.inl ⟨by rw[XB];exact Ar.fu hd',by omega,?_⟩);rw[XB,Int.toNat_natCast];exact hy
  ·rintro e w' ⟨rfl,vx,v1,v2,v',q1,q2,q3,q4,q5,q6,q7⟩;obtain⟨u1,u2⟩:=hX vx v1 q1 q2;obtain⟨q2a,q2k⟩:=q2;have k0:Kp Fa w v1:=(Kp.of q1).trans q2k fun i hi _=>hi
   have k1:Kp Fa w v2:=k0.trans (Kp.of (F:=fun _=>False) q3) fun _ hi _=>hi.elim
   have hs1:=q1.size;have hs2:=q2k.size;have hs3:=q3.size;have hs4:=q4.size;have ab7:=(cx h3 (i:=gg) rfl).1;have hA2:=q2a.below q3
   have hA3:gM w' (iS Fa vx v1) ab r (M++[e']):=hA2.on q4 fun i hi hh=>by
    rcases hh with rfl|rfl
    exact hi.elim h8 (fun h=>by omega);exact hi.elim (h9 _ rfl) (fun h=>by omega)
   have kF:Kp F w w':=(k1.mono fun i hi _=>h6 i hi).trans q4 fun i hi _=>by
    rcases hi with rfl|rfl
    exact h5;exact h7 _ rfl
   refine⟨by rw[hls],⟨ls++[y],by rw[List.length_append,List.length_append,hls];rfl,lq hF kF.size,iS Fa vx v1,ab,v',q5,hA3,?_,W8.put (by rw[hls,List.length_append];exact Nat.lt_succ_self _) fun e0 he0 h0=>?_,.inl h5,fun i hi=>?_,fun i hi=>?_,fun hn=>?_,fun i hi hn=>?_⟩,kF⟩;rw[List.length_append];exact q6;rw[hls]at he0|-;rw[hnew]at he0;obtain rfl:=Option.some.inj he0;have hup:=(Up.ahead VO hnew h0).1;rw[XB]at hup;exact hup.trans hy;exact hi.elim (fun h=>.inl (h6 i h)) (fun h=>.inr ⟨by omega,by omega⟩)
   ·rcases q7 with q7|⟨g',q7,q8⟩
    rw[q7]at hi;exact .inl (h7 i hi);rw[q7]at hi;have e1:g'=i:=Option.some.inj hi;have:=(cx q6 (i:=g') q7).1;exact .inr ⟨by omega,by omega⟩
   exact hn.elim h8 (fun h=>by omega)
   ·rcases q7 with q7|⟨g',q7,q8⟩
    rw[q7]at hi;have e1:gg=i:=Option.some.inj hi;exact hn.elim (h9 i hi) (fun h=>by omega)
    ·rw[q7]at hi;have e1:g'=i:=Option.some.inj hi;rcases hn with hn|hn
     have:=h2.1 i hn;omega;omega
open Ar (d_ Deep Row iG)
structure jO (M:List aq) (i j:Int) (L K:List Int) (k:Nat) (x y:Int):Prop where
 one:Row M i L
 two:Row M j K
 x:L[k]?=some x
 y:K[k]?=some y
 deep:Deep L K k
variable{i j x y:Int}
theorem jO.upx(h:jO M i j L K k x y):Up M i k x:=⟨L,h.one,h.x⟩
theorem jO.upy(h:jO M i j L K k x y):Up M j k y:=⟨K,h.two,h.y⟩
theorem Up.in_(hL:Row M i L){k:Nat}{x:Int}(h:Up M i k x):L[k]?=some x:=by obtain⟨K,h1,h2⟩:=h;rw[h1.R0 hL]at h2;exact h2
theorem jO.pos(hM:Ok r M){n m:Nat}{d e:aq}(hn:M[n]?=some d)(hm:M[m]?=some e){L K:List Int}{k:Nat}{x y:Int}(h:jO M (n:Int) (m:Int) L K k x y)(hne:x≠y):0<k:=by
 refine Nat.pos_of_ne_zero fun h0=>hne ?_
 subst h0;have h1:=h.x.symm.trans (h.one.first hM hn);have h2:=h.y.symm.trans (h.two.first hM hm);rw[Option.some.inj h1,Option.some.inj h2]
theorem jO.step{x' y':Int}(t:jO M i j L K k x y)(hx:Up M x (k-1) x')(hy:Up M y (k-1) y')(hne:x≠y):jO M i j L K (k-1) x' y':=by have h1:=Up.in_ t.one (t.upx.trans hx);have h2:=Up.in_ t.two (t.upy.trans hy);exact⟨t.one,t.two,h1,h2,fun n s q1 q2=>by have:=Deep.Vc t.one t.two t.x t.y hne n s q1 q2;omega⟩
end An
namespace An
open Mem Sc
open Ar (aq Ru aB Ok bV dG)
theorem yL(p:NN.Pr)(hp:p.ok)(h1:p.one)(t:Tl)(tt:p.tl=t.C)(ht:t.ok)(gs:List Gt)(cs:List Ck)(hgn:t.gn=gs.length)(hcn:t.cn=cs.length)(hgl:t.gn<=1000)(hcl:t.cn<=1000)(room:Int)(hgood:jc p t.g gs cs=true)(w:World)(hT:dM w)(hG:aI w t.ga gs)(hC:az w t.ca cs):aN 70 #[.agg (NN.aE p),i_ room] w fun r w'=>∃b F,r=.returned (.tuple #[ah b,i_ 0])/\fO w' F b ⟨p,t.g,gs,cs,dF room⟩ [aB] [-1]/\(∀i,F i->w.heap.size<=i)/\Bl w w':=
 CE p hp room _ w (h_ fun w' hb=>BD p hp h1 t tt ht gs cs hgn hcn hgl hcl room hgood w' (hT.below hb) (hG.below hb) (hC.below hb))
end An
namespace An
open Mem Sc
open Ar (aq Ru aB Ok)
def AE(t:Tl)(cs:List Ac):Bool:=cs.any (fun c=>decide (c.now<0))||decide (20<t.gn)||decide (20<t.cn)||decide (50<cs.length)
theorem Gv(p:NN.Pr)(t:Tl)(tt:p.tl=t.C)(cs:List Ac)(n:Nat)(a:Option Addr)(c:Nat)(hn:n=cs.length)(hl:n<=4611686018427387904)(gn cn:Nat)(eg:t.gn=gn)(ec:t.cn=cn)(g1 g2 g3 gr g:Bool)(h1:decide ((20:Int)<(gn:Int))=g1)(h2:decide ((20:Int)<(cn:Int))=g2)(h3:decide ((50:Int)<(n:Int))=g3)(hg:(j4 cs||g1||g2||g3||!gr)=g)(w:World)(KR:Hid (g1=false->g2=false->g3=false->∀w',Bl w w'->an 37 #[.agg (NN.aE p)] w' (.bool gr)))(hp:p.ok)(hA:fR w a cs):an 10 #[.agg (NN.aE p),.slice a n c] w (.bool g):=by
 have HN:=h_ hn;have HA:=h_ hA;have HG:=h_ hg;clear hn hA hg;go_enter Tryz.func10,Tryz.ntmps10;go_upto_region 1 with fail
 generalize hw0:World.alloc _ _=v0;have hB:Bl w v0:=db hw0;have hP:NN.aA v0 w.heap.size p:=by rw[<-hw0];exact NN.Has.new _ _
 clear hw0;obtain⟨bP,Rv⟩:∃x,x=w.heap.size:=⟨_,rfl⟩;rw[<-Rv]at hP|-;clear Rv;have H1:=h_ h1;have H2:=h_ h2;have H3:=h_ h3;clear h1 h2 h3;go_wp2_with fail
 go_loopw [9] (fun i wr=>∃k:Nat,k<=n/\i=i_ k/\Hid (j4 cs=j4 (cs.drop k))/\NN.aA wr bP p/\Bl w wr) (fun i _=>n-(intOf i).toNat)
 case atStart=>exact⟨0,by omega,rfl,h_ rfl,hP,hB⟩
 case round=>
  clear hP hB;obtain⟨k,hk,rfl,HZ,hP,hB⟩:=hrel;by_cases hlt:k<n
  ·obtain⟨ab,ao,hae,RH,hc⟩:=(HA.out.below hB) (by rw[<-HN.out];omega);subst hae;have hk2:k<cs.length:=by rw[<-HN.out];exact hlt
   have hd:cs.drop k=cs[k]::cs.drop (k+1):=List.drop_eq_getElem_cons hk2;obtain⟨q0,q1⟩:=hc k hk2;have hx:=HZ.out;rw[hd]at hx;clear hd HZ hc;generalize cs[k]=y at*;have HX:=h_ hx;clear hx hk2;have z1:=CK q0;have z2:=mB q0;have z0:=mB (c:=Jf) eH;have hb2:Bl wr ((wr.alloc (.cells Tryz.zeroCells39 39)).setRow wr.heap.size (eY y)):=below_setRow aY (Nat.le_refl _) _;have hB2:=af hB hb2;have hP2:=NN.aA.on hP hb2;have c0:=(ya wr y).now q0;have hnew:=zF wr;clear hB hb2 hP;cases t1:decide (y.now<0)
   ·have HZ2:Hid (j4 cs=j4 (cs.drop (k+1))):=h_ (by
     have e:j4 (y::cs.drop (k+1))=(decide (y.now<0)||j4 (cs.drop (k+1))):=rfl;rw[HX.out,e,t1,Bool.false_or])
    clear HX;obtain⟨yn,hyn⟩:∃yn,yn=y.now:=⟨_,rfl⟩;rw[<-hyn]at c0 t1;clear hyn;(go_wp2_with (with_reducible first|refine Aa rfl _ rfl ab (ao+k*72) rfl y q1 z1 ?_|refine B5 rfl _ _ rfl _ _ y rfl rfl rfl z2 hnew z0 ?_));go_roundw
    case rel=>exact⟨k+1,by omega,by go_num,HZ2,hP2,hB2⟩
    case measure=>simp[intOf];omega
   ·have ki:g=true:=by
     have e:j4 (y::cs.drop (k+1))=(decide (y.now<0)||j4 (cs.drop (k+1))):=rfl;rw[<-HG.out,HX.out,e,t1];simp
    subst ki;clear HX HG;obtain⟨yn,hyn⟩:∃yn,yn=y.now:=⟨_,rfl⟩;rw[<-hyn]at c0 t1;clear hyn;(go_wp2_with (with_reducible first|refine Aa rfl _ rfl ab (ao+k*72) rfl y q1 z1 ?_|refine B5 rfl _ _ rfl _ _ y rfl rfl rfl z2 hnew z0 ?_));go_ret;exact⟨rfl,hB2⟩
  ·obtain rfl:k=n:=by omega
   have hg:(g1||g2||g3||!gr)=g:=by
    have:=HG.out;rw[HZ.out,HN.out,List.drop_length]at this;exact this
   have h1:=H1.out;have h2:=H2.out;have h3:=H3.out;clear HG HZ;have c5:=mQ hP tt;have c6:=mZ hP tt;rw[eg]at c5;rw[ec]at c6;have hz:=NN.ef hp;generalize t.ga=ga at*;generalize t.gc=gc at*;generalize t.ca=ca at*;generalize t.cc=cc at*;have VP:=h_ hg;clear eg ec hg H1 H2 H3;cases g1
   ·cases g2
    ·cases g3
     ·(go_wp2_with (with_reducible first|refine NN.dA rfl _ rfl _ rfl hP hz ?_|refine NN.fL (by with_unfolding_all rfl) _ rfl _ rfl hP hz ?_));refine au (KR.out (by simp) (by simp) (by simp) _ hB) fun v9 hb=>?_;replace hB:=af hB hb;clear hb;cases gr
      all_goals
       (go_wp2_with fail);go_ret;exact⟨by rw[<-VP.out];rfl,hB⟩
     ·(go_wp2_with fail);go_ret;exact⟨by rw[<-VP.out];rfl,hB⟩
    ·(go_wp2_with fail);go_ret;exact⟨by rw[<-VP.out];rfl,hB⟩
   ·(go_wp2_with fail);go_ret;exact⟨by rw[<-VP.out];rfl,hB⟩
def mD(p:NN.Pr)(t:Tl)(gs:List Gt)(ks:List Ck)(cs:List Ac):Bool:=AE t cs||!jc p t.g gs ks
theorem D3(p:NN.Pr)(hp:p.ok)(t:Tl)(tt:p.tl=t.C)(ht:t.ok)(gs:List Gt)(ks:List Ck)(hgn:t.gn=gs.length)(hcn:t.cn=ks.length)(cs:List Ac)(n:Nat)(a:Option Addr)(c:Nat)(hn:n=cs.length)(hl:n<=4611686018427387904)(g:Bool)(hg:mD p t gs ks cs=g)(w:World)(hA:fR w a cs)(hG:aI w t.ga gs)(hC:az w t.ca ks):an 10 #[.agg (NN.aE p),.slice a n c] w (.bool g):=by
 refine Gv p t tt cs n a c hn hl t.gn t.cn rfl rfl _ _ _ (jc p t.g gs ks) g rfl rfl rfl ?_ w (h_ fun h1 h2 _ w' hb=>?_) hp hA
 ·rw[<-hg,hn];unfold mD AE j4;congr 1;congr 1
  ·congr 1
   ·congr 1;exact decide_eq_decide.2 (by omega)
   exact decide_eq_decide.2 (by omega)
  exact decide_eq_decide.2 (by omega)
 have:=of_decide_eq_false h1;have:=of_decide_eq_false h2;exact PI p hp t tt ht gs ks hgn hcn (by omega) (by omega) w' (hG.below hb) (hC.below hb)
