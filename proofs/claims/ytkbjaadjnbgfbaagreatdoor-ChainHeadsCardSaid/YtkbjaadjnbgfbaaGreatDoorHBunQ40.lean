import Derived.Test.YtkbjaadjnbgfbaaGreatDoorHBunQ39
set_option maxRecDepth 100000
set_option maxHeartbeats 4000000
namespace Go.Proofs.YtkbjaadjnbgfbaaGreatDoor
open Go.RowKit
namespace An
open Mem Sc
open Ar (av Ru aN Ok Lp oR ma Up dB fR)
def uW(w:World)(tp:Value)(r:Ru)(M:List av):Prop:=∀w',Bl w w'->∀(k:Int),(∃(n:Nat)(e:av),k=(n:Int)/\M[n]?=some e/\(cX r e).ok/\ar 29 #[tp,i_ k] w' (.tuple #[.agg (dc (cX r e)),.bool true]))\/(¬dB M k/\ar 29 #[tp,i_ k] w' (.tuple #[.agg (dc pn),.bool false]))
def lQ(w:World)(b g n c:Nat)(ls:List Int):Prop:=w.cell? ⟨b,1,none⟩=some (.slice (bs g) n c)/\∀(k:Nat)(x:Int),ls[k]?=some x->w.cell? ⟨g,k,none⟩=some (i_ x)
variable{w w1:World}{r:Ru}{M:List av}
theorem uW.below{tp:Value}(h:uW w tp r M)(hb:Bl w w1):uW w1 tp r M:=fun w' hb'=>h w' (ai hb hb')
variable{b n:Nat}{ls:List Int}
theorem lQ.below{g c:Nat}(h:lQ w b g n c ls)(hb:Bl w w1):lQ w1 b g n c ls:=⟨(hb.cell (block_lt_of_cell h.1)).trans h.1,fun k x hk=>(hb.cell (block_lt_of_cell (h.2 k x hk))).trans (h.2 k x hk)⟩
variable{F:Nat->Prop}
theorem jU.aj8(h:jU w F b r M ls):uW w (af b) r M:=fun w' hb k=>by
 by_cases hk:dB M k;obtain⟨n,e,rfl,he⟩:=hk.is;refine .inl ⟨n,e,rfl,he,?_,iq (h.below hb) he _ rfl⟩;obtain⟨Fa,ab,_,k2⟩:=h.parts;exact nj k2 he;exact .inr ⟨hk,uK (h.below hb) k hk⟩
theorem jU.Y4(h:jU w F b r M ls)(h0:0<ls.length):∃g c,lQ w b g ls.length c ls:=by obtain⟨hl,Fa,ab,lv,h1,h2,h3,h4,h5,h6,h7,h8,h9⟩:=h;obtain⟨g,c,rfl,_⟩:=qV h3 (k:=0) (x:=ls[0]) (aQ h0);refine⟨g,c,Has.cell h1 1,fun k x hk=>?_⟩;obtain⟨g2,c2,e,hc⟩:=qV h3 hk;cases e;exact hc
theorem jU.lp(h:jU w F b r M ls):Lp M ls:=by obtain⟨hl,Fa,ab,lv,h1,h2,h3,h4,_⟩:=h;exact h4
theorem AU(tp:Value)(k:Int)(E:En)(hE:E.ok)(z:Int)(hz:Hid (E.up=z))(g:Bool)(w:World)(KA:bG w 29 #[tp,i_ k] (.tuple #[.agg (dc E),.bool g])):ar 91 #[tp,i_ k] w (i_ z):=by
 have ze:=ki hE;have z0:=ki eo;have hB:=aA w.heap.size w;go_enter Tryz.func91,Tryz.ntmps91;go_wp2_with fail
 refine(KA.out _ hB).mono ?_;rintro x v1 ⟨rfl,hb⟩;replace hB:=ai hB hb;clear hb;have hnew:=kp v1;have hE1:=qC v1 E;have hb3:=qW v1 60 Tryz.zeroCells60 (dc E);go_upto_region 2 with(with_reducible refine lu rfl _ _ rfl _ _ E rfl rfl rfl ze hnew z0 ?_)
 generalize World.setRow _ _ _=v2 at*;replace hB:=ai hB hb3;have c1:=cV.up hE1 hE hz;clear hb3 hnew;go_wp2_with fail
 go_ret;exact⟨rfl,hB⟩
theorem vT(tp:Value)(k h:Int)(E:En)(hE:E.ok)(t:Int)(ht:Hid (E.ht=t))(g a b:Bool)(ha:decide (h<0)=a)(hb:decide (t<h)=b)(hno:(!g||a||b)=true)(w:World)(KA:bG w 29 #[tp,i_ k] (.tuple #[.agg (dc E),.bool g])):ar 69 #[tp,i_ k,i_ h] w (i_ (-1)):=by
 have ze:=ki hE;have z0:=ki eo;have hB:=aA w.heap.size w;go_enter Tryz.func69,Tryz.ntmps69;go_wp2_with fail
 refine(KA.out _ hB).mono ?_;rintro x v1 ⟨rfl,hb⟩;replace hB:=ai hB hb;clear hb;have hnew:=kp v1;have hE1:=qC v1 E;have hb3:=qW v1 60 Tryz.zeroCells60 (dc E);go_upto_region 2 with(with_reducible refine lu rfl _ _ rfl _ _ E rfl rfl rfl ze hnew z0 ?_)
 generalize World.setRow _ _ _=v2 at*;replace hB:=ai hB hb3;have c1:=cV.ht hE1 hE ht;clear hb3 hnew;cases g<;>cases a<;>cases b
 case true.false.false=>cases hno
 all_goals
  clear hno;go_wp2_with fail
  go_ret;exact⟨rfl,hB⟩
theorem rr(hM:Ok r M){n:Nat}{e:av}{h:Nat}{z:Int}(he:M[n]?=some e)(k:Up M (n:Int) h z)(hh:h<e.hs.length):0<=z/\z<(n:Int):=by
 obtain⟨L,h1,h2⟩:=k;have q:=(h1.up hM).2 z (ee h2);refine⟨q.1,?_⟩;have h3:=h1.last;have h4:=h1.len hM he;have hlt:h<L.length-1:=by omega
 obtain⟨u1,u2⟩:=bk.1 h2;obtain⟨v1,v2⟩:=bk.1 h3.2;have:=mw.1 (h1.up hM).1 _ _ u1 v1 hlt;omega
structure Way (r:Ru) (M:List av) (i:Int) (t n:Nat) (E:En) (k:Nat):Prop where
 ok:E.ok
 ht:E.ht=(k:Int)
 low:t<=k
 ex:∃e,M[n]?=some e/\E=cX r e/\e.hs.length=k/\Up M i k (n:Int)
theorem Way.next{i:Int}{t:Nat}{E:En}{k:Nat}(hM:Ok r M)(h:Way r M i t n E k){j:Nat}{z:Int}(hz:∀e,M[n]?=some e->e.hs.length=k->Up M (n:Int) j z)(hj:j<k)(hj2:t<=j)(hE:∀(m:Nat)(e:av),M[m]?=some e->(cX r e).ok):∃(m:Nat)(e:av),z=(m:Int)/\m<n/\M[m]?=some e/\Way r M i t m (cX r e) j:=by obtain⟨e,h1,h2,h3,h4⟩:=h.ex;have q:=hz e h1 h3;obtain⟨m,d,rfl,hd,hl⟩:=q.place hM;have:=rr hM h1 q (by omega);exact⟨m,d,rfl,by omega,hd,hE m d hd,by rw[<-hl];rfl,hj2,d,hd,rfl,hl,h4.trans q⟩
theorem I6(b g nn c:Nat)(ls:List Int)(r:Ru)(M:List av)(hM:Ok r M)(hl:Lp M ls)(hn:nn=ls.length)(ZH:M.length<=900)(i:Nat)(hi:i<ls.length)(e:av)(he:M[i]?=some e)(t:Nat)(ht:t<=e.hs.length)(w:World)(KA:Hid (uW w (af b) r M))(KL:Hid (lQ w b g nn c ls)):aU 69 #[af b,i_ i,i_ t] w fun x w'=>∃z,x=.returned (i_ z)/\Up M (i:Int) t z/\Bl w w':=by
 have KAT:∀(n:Nat)(e:av),M[n]?=some e->bG w 29 #[af b,i_ n] (.tuple #[.agg (dc (cX r e)),.bool true]):=fun n e he=>h_ fun w' hb=>by
  rcases KA.out w' hb (n:Int)with⟨m,d,h1,h2,_,h3⟩|⟨h1,_⟩
  ·obtain rfl:n=m:=by omega
   rw[he]at h2;cases h2;exact h3
  exact absurd (Ar.jn he) h1
 have Z0:Hid (∀(n:Nat)(e:av),M[n]?=some e->(cX r e).ok):=h_ fun n e he=>by
  rcases KA.out w cg (n:Int)with⟨m,d,h1,h2,h3,_⟩|⟨h1,_⟩
  ·obtain rfl:n=m:=by omega
   rw[he]at h2;cases h2;exact h3
  exact absurd (Ar.jn he) h1
 have hc:=hM.chain i e he;have hiM:=(bk.1 he).1;have Z4:=KAT i e he;have hW:Hid (Way r M (i:Int) t i (cX r e) e.hs.length):=h_ ⟨Z0.out i e he,rfl,ht,e,he,rfl,rfl,Up.self hM he⟩;have hE:=Z0.out i e he;have z0:=ki eo;have hB:=aA w.heap.size w;obtain⟨k,hk⟩:∃k,k=e.hs.length:=⟨_,rfl⟩;obtain⟨E,hEe⟩:∃E,E=cX r e:=⟨_,rfl⟩;have HT:Hid (E.ht=(k:Int)):=h_ (by rw[hEe,hk];rfl);rw[<-hk]at ht hc;rw[<-hEe]at Z4 hE hW;rw[<-hk]at hW;have hk9:k<=900:=by omega
 clear he hEe hk KA;have HN:=h_ hn;have HI:=h_ hi;clear hn hi hc;have ze:=ki hE;have t1:decide ((t:Int)<0)=false:=aE (by omega);have t2:¬k<t:=by omega
 clear ht;go_enter Tryz.func69,Tryz.ntmps69;go_wp2_with fail
 refine(Z4.out _ hB).mono ?_;rintro x v1 ⟨rfl,hb⟩;replace hB:=ai hB hb;clear hb;have hnew:=kp v1;have hE1:=qC v1 E;have hb3:=qW v1 60 Tryz.zeroCells60 (dc E);go_upto_region 2 with(with_reducible refine lu rfl _ _ rfl _ _ E rfl rfl rfl ze hnew z0 ?_)
 generalize World.setRow _ _ _=v2 at*;obtain⟨bX,hbX⟩:∃x,x=v1.heap.size:=⟨_,rfl⟩;rw[<-hbX]at hE1|-;have W6:Hid (w.heap.size<=bX):=h_ (by have:=hB.size;omega);replace hB:=ai hB hb3;have c1:=cV.ht hE1 hE HT;clear hb3 hnew hbX Z4;go_wp2_with fail
 clear c1 t1 t2;go_loopw [1] (fun v wr=>∃(n:Nat)(E:En)(k:Nat),v=i_ n/\k<=900/\cV wr bX E/\Hid (n<=i/\Way r M (i:Int) t n E k)/\Bl w wr) (fun v _=>(intOf v).toNat)
 case atStart=>exact⟨i,E,k,rfl,hk9,hE1,h_ ⟨au _,hW.out⟩,hB⟩
 case round=>
  clear hE1 hB hW HT ze hE hk9;obtain⟨n,E,k,rfl,hk9,hE1,HW,hB⟩:=hrel;have c1:=cV.ht hE1 HW.out.2.ok (h_ HW.out.2.ht);have ze:=ki HW.out.2.ok;by_cases hlt:t<k
  ·have hN:Hid (n<ls.length):=h_ (by have:=HI.out;have:=HW.out.1;omega);have KH:=h_ fun w'=>IZ (k:Int) (by omega) (by omega) w'
   rw[bU]at KH;have hlt2:=Ar.wN (h:=k) (by omega);by_cases hge:t<=oR k
   ·obtain⟨x,hx⟩:∃x,ls[n]?=some x:=⟨_,aQ hN.out⟩;obtain⟨m,d,rfl,hmn,hd,hW2⟩:=HW.out.2.next hM (z:=x) (j:=oR k) (fun e he hek=>by have:=hl.to_ n e x he hx (by omega);rwa[hek]at this) hlt2 hge Z0.out;have HW2:Hid (m<=i/\Way r M (i:Int) t m (cX r d) (oR k)):=h_ ⟨by have:=HW.out.1;omega,hW2⟩;have HX:=h_ hx;have hnn:n<nn:=(by rw[HN.out];exact hN.out);have XI:=KAT m d hd;have hE2:=Z0.out m d hd;clear hW2 hx hd HW;generalize cX r d=E2 at*;have z2:=ki hE2;(go_wp2_with fail);refine(KH.out _).mono ?_;rintro x v3 ⟨rfl,hb⟩;replace hE1:=hE1.on hb;replace hB:=ai hB hb;have hL1:=KL.out.below hB;obtain⟨l1,l2⟩:=hL1;have l3:=l2 n _ HX.out;have c2:=cV.ht hE1;clear hb l2 KH c2;(go_wp2_with fail);refine(XI.out _ hB).mono ?_;rintro x v4 ⟨rfl,hb⟩;replace hE1:=hE1.on hb;replace hB:=ai hB hb;clear hb l1 l3 XI;(go_wp2_with (with_reducible refine lu rfl _ _ rfl _ _ E2 rfl rfl rfl z2 hE1 ze ?_));have hE3:cV _ bX E2:=Has.row hE1 (dc E2);have hB3:=below_setRow hB W6.out (dc E2);generalize World.setRow _ _ _=v5 at*;simp only[Act.put];go_roundw
    case rel=>exact⟨m,E2,oR k,rfl,by omega,hE3,HW2,hB3⟩
    case measure=>simp[intOf];omega
   ·have hup:Hid (∃(m:Nat)(e:av),E.up=(m:Int)/\m<n/\M[m]?=some e/\Way r M (i:Int) t m (cX r e) (k-1)):=h_ (by
     obtain⟨e,h1,h2,h3,h4⟩:=HW.out.2.ex;have:=HW.out.2.next hM (z:=e.up) (j:=k-1) (fun d hd hdk=>by rw[h1]at hd;cases hd;have:=(Up.ahead hM h1 (by omega)).1;rwa[h3]at this) (by omega) (by omega) Z0.out;rw[h2];exact this)
    obtain⟨m,d,hu,hmn,hd,hW2⟩:=hup.out;have HU:=h_ hu;have HW2:Hid (m<=i/\Way r M (i:Int) t m (cX r d) (k-1)):=h_ ⟨by have:=HW.out.1;omega,hW2⟩;have XI:=KAT m d hd;have hE2:=Z0.out m d hd;have aj9:=h_ HW.out.2.ok;clear hW2 hd HW hup hu;generalize cX r d=E2 at*;have z2:=ki hE2;(go_wp2_with fail);refine(KH.out _).mono ?_;rintro x v3 ⟨rfl,hb⟩;replace hE1:=hE1.on hb;replace hB:=ai hB hb;have c2:=cV.up hE1 aj9.out HU;clear hb KH;(go_wp2_with fail);refine(XI.out _ hB).mono ?_;rintro x v4 ⟨rfl,hb⟩;replace hE1:=hE1.on hb;replace hB:=ai hB hb;clear hb c2 XI;(go_wp2_with (with_reducible refine lu rfl _ _ rfl _ _ E2 rfl rfl rfl z2 hE1 ze ?_));have hE3:cV _ bX E2:=Has.row hE1 (dc E2);have hB3:=below_setRow hB W6.out (dc E2);generalize World.setRow _ _ _=v5 at*;simp only[Act.put];go_roundw
    case rel=>exact⟨m,E2,k-1,rfl,by omega,hE3,HW2,hB3⟩
    case measure=>simp[intOf];omega
  ·have hup:Hid (Up M (i:Int) t (n:Int)):=h_ (by
    obtain⟨e,h1,h2,h3,h4⟩:=HW.out.2.ex;have:=HW.out.2.low;obtain rfl:k=t:=(by omega);exact h4)
   clear HW ze;go_wp2_with fail
   go_ret;exact⟨_,rfl,hup.out,hB⟩
theorem GL(h:jU w F b r M ls)(hM:Ok r M)(ZH:M.length<=900)(i t z:Int)(hi:dB M i->i<(ls.length:Int))(hz:fR M i t z):ar 69 #[af b,i_ i,i_ t] w (i_ z):=by
 have hA:=h.aj8;by_cases hp:dB M i
 ·obtain⟨n,e,rfl,he⟩:=hp.is;have hn:=hi hp
  have hE:(cX r e).ok/\∀w',Bl w w'->ar 29 #[af b,i_ n] w' (.tuple #[.agg (dc (cX r e)),.bool true]):=by
   obtain⟨Fa,ab,_,k2⟩:=h.parts;exact⟨nj k2 he,fun w' hb=>iq (h.below hb) he _ rfl⟩
  by_cases hlow:t<0\/(e.hs.length:Int)<t;have ez:z = -1:=hlow.elim (fun hh=>hz.no (.inr hh)) (fun hh=>hz.high hM he hh);subst ez;exact vT _ (n:Int) t (cX r e) hE.1 (e.hs.length:Nat) (h_ rfl) true _ _ rfl rfl (by simp only[Bool.not_true,j6,nL,fp];exact hlow) w (h_ hE.2);obtain⟨tn,rfl⟩:=eG (by omega:0<=t);obtain⟨g,c,hL⟩:=h.Y4 (by omega);refine(I6 b g ls.length c ls r M hM h.lp rfl ZH n (by omega) e he tn (by omega) w (h_ hA) (h_ hL)).mono ?_;rintro x w' ⟨z',rfl,hu,hb⟩;have:=hz.up hM he (by omega) (by omega);rw[bU]at this;rw[hu.V' this];exact⟨rfl,hb⟩
 ·have ez:=hz.no (.inl hp);subst ez;have hE:∀w',Bl w w'->ar 29 #[af b,i_ i] w' (.tuple #[.agg (dc pn),.bool false]):=fun w' hb=>uK (h.below hb) i hp
  exact vT _ i t pn gC 0 (h_ rfl) false _ _ rfl rfl rfl w (h_ hE)
theorem LC(h:jU w F b r M ls){n:Nat}{e:av}(he:M[n]?=some e):ar 91 #[af b,i_ n] w (i_ e.up):=by obtain⟨Fa,ab,_,k2⟩:=h.parts;exact AU _ (n:Int) (cX r e) (nj k2 he) e.up (h_ rfl) true w (h_ fun w' hb=>iq (h.below hb) he _ rfl)
theorem PB(tp:Value)(k i:Int)(E:En)(hE:E.ok)(t z:Int)(ht:Hid (E.ht=t))(g g2:Bool)(hg:(z==k)=g2)(w:World)(KA:bG w 29 #[tp,i_ k] (.tuple #[.agg (dc E),.bool g]))(KN:og w fun w'=>g=true->ar 69 #[tp,i_ i,i_ t] w' (i_ z)):ar 35 #[tp,i_ k,i_ i] w (.bool (g&&g2)):=by
 have ze:=ki hE;have z0:=ki eo;have hB:=aA w.heap.size w;go_enter Tryz.func35,Tryz.ntmps35;go_wp2_with fail
 refine(KA.out _ hB).mono ?_;rintro x v1 ⟨rfl,hb⟩;replace hB:=ai hB hb;clear hb;have hnew:=kp v1;have hE1:=qC v1 E;have hb3:=qW v1 60 Tryz.zeroCells60 (dc E);go_upto_region 2 with(with_reducible refine lu rfl _ _ rfl _ _ E rfl rfl rfl ze hnew z0 ?_)
 generalize World.setRow _ _ _=v2 at*;replace hB:=ai hB hb3;have c1:=cV.ht hE1 hE ht;clear hb3 hnew;cases g
 ·go_wp2_with fail
  go_ret;exact⟨rfl,hB⟩
 ·go_wp2_with fail
  refine(KN.out _ hB (by simp)).mono ?_;rintro x v3 ⟨rfl,hb⟩;replace hB:=ai hB hb;clear hb;go_wp2_with fail
  go_ret;exact⟨by cases g2<;>rfl,hB⟩
theorem OR(h:jU w F b r M ls)(hM:Ok r M)(ZH:M.length<=900)(hl:ls.length=M.length)(k i:Int)(g:Bool)(hg:g=true↔Ar.dV M k i):ar 35 #[af b,i_ k,i_ i] w (.bool g):=by
 by_cases hp:dB M k
 ·obtain⟨n,e,rfl,he⟩:=hp.is;obtain⟨z,hz⟩:=fR.ex M i (e.hs.length:Int)
  have hE:(cX r e).ok/\∀w',Bl w w'->ar 29 #[af b,i_ n] w' (.tuple #[.agg (dc (cX r e)),.bool true]):=by
   obtain⟨Fa,ab,_,k2⟩:=h.parts;exact⟨nj k2 he,fun w' hb=>iq (h.below hb) he _ rfl⟩
  have:=PB _ (n:Int) i (cX r e) hE.1 (e.hs.length:Nat) z (h_ rfl) true (z==(n:Int)) rfl w (h_ hE.2) (h_ fun w' hb _=>GL (h.below hb) hM ZH i _ z (fun hq=>by rw[hl];exact hq.2) hz)
  have eg:(true&&z==(n:Int))=g:=by
   have h1:=Ar.Jf hM he hz;have h2:(z==(n:Int))=true↔g=true:=by rw[jq,hg,<-h1];exact⟨fun h=>h.symm,fun h=>h.symm⟩
   rw[dG];exact gJ.2 h2
  rw[eg]at this;exact this
 ·have eg:g=false:=by
   cases g;rfl;exact absurd (by have:=(hg.1 rfl).le hM;exact⟨this.1,this.2.2⟩) hp
  subst eg;exact PB _ k i pn gC 0 0 (h_ rfl) false (0==k) rfl w (h_ fun w' hb=>uK (h.below hb) k hp) (h_ fun _ _ h=>by cases h)
end An
namespace An
open Mem Sc
open Ar (av Ru aN Ok dB)
theorem R6{w:World}{ops:Array Oper}{rest:List Oper}{o:Oper}{a:Act}{Q:Exit->Act->World->Prop}(hgd:o.guard=none)(x:Operand)(ho:o.op=.load 26 x)(g off:Nat)(hx:a.eval x=.pointer (some ⟨g,off,none⟩))(z:Nat)(hg:w.rangeAt g off (NN.aa z).toList)(hk:wpList Tryz.prog ops Q rest (a.put o.dst (.agg (NN.aa z))) w):wpList Tryz.prog ops Q (o::rest) a w:=
 wpList_load_mid hgd 26 x ho g off hx (NN.aa z).toList _ hg Tryz.underlying26 rfl (NN.dH.trans (by rw[g_,NN.jE])) hk
theorem yS(b g n c j z:Nat)(hj:j<n)(w:World)(hv:w.cell? ⟨b,86,none⟩=some (.slice (bs g) n c))(hr:w.rangeAt g (j*4) (NN.aa z).toList):ar 101 #[af b,i_ j] w (.agg (NN.aa z)):=by
 go_enter Tryz.func101,Tryz.ntmps101;go_upto_region 1 with fail
 generalize hw0:World.alloc _ _=v0;have hR:NN.Has v0 w.heap.size (NN.aa 0) 26:=by rw[<-hw0];exact NN.Has.Vp _
 have bj:Bl w v0:=eT hw0;clear hw0;have c1:=(bj.cell (p:=⟨b,86,none⟩) (block_lt_of_cell hv)).trans hv;have r1:=lL hr bj (by rw[g_,NN.jE];decide);clear hv hr;go_wp2_with (with_reducible first|refine R6 rfl _ rfl g (j*4) rfl z r1 ?_|refine NN.cB rfl _ _ rfl _ _ rfl rfl _ hR rfl ?_)
 exact ay (v:=.agg (NN.aa z)) (NN.jm Tryz.results101 _ _ _ rfl (hR.row _)) rfl ⟨rfl,below_setRow bj (au _) _⟩
theorem Sk(bm x y zx zy:Nat)(w:World)(KX:bG w 101 #[af bm,i_ x] (.agg (NN.aa zx)))(KY:bG w 101 #[af bm,i_ y] (.agg (NN.aa zy)))(g1 g2 g3:Bool)(KL:CN 102 #[.agg (NN.aa zy),.agg (NN.aa zx)] (.bool g1))(hq:∀w',(binOp .eql 26 (.agg (NN.aa zx)) (.agg (NN.aa zy))).run Tryz.prog w'=.ok (.bool g2) w')(h3:decide (x<y)=g3):ar 62 #[af bm,i_ x,i_ y] w (.bool (g1||(g2&&g3))):=by
 have bj:=aA w.heap.size w;have h3':decide ((x:Int)<(y:Int))=g3:=by rw[<-h3];exact decide_eq_decide.2 (by omega)
 go_enter Tryz.func62,Tryz.ntmps62;go_wp2_with (first|fail)
 refine az (KX.out _ bj) fun v1 hb1=>?_;replace bj:=ai bj hb1;clear hb1;go_upto_region 2 with(first|(with_reducible refine NN.cB rfl _ _ rfl _ _ rfl rfl _ (NN.Has.Vp _) rfl ?_))
 generalize hw2:World.setRow _ _ _=v2;have hb2:Bl v1 v2:=dZ hw2;have h7:NN.Has v2 v1.heap.size (NN.aa zx) 26:=by rw[<-hw2];exact(NN.Has.Vp _).row _
 replace bj:=ai bj hb2;clear hw2 hb2;obtain⟨V1,Yd⟩:∃x,x=v1.heap.size:=⟨_,rfl⟩;rw[<-Yd]at h7|-;clear Yd;go_wp2_with (with_reducible first|refine NN.a_ rfl _ rfl _ rfl _ h7 rfl ?_|refine NN.fM (by with_unfolding_all rfl) _ rfl _ rfl _ h7 rfl ?_)
 refine az (KY.out _ bj) fun v3 hb3=>?_;replace h7:=NN.Has.on h7 hb3;replace bj:=ai bj hb3;clear hb3;go_upto_region 3 with(with_reducible first|refine NN.a_ rfl _ rfl _ rfl _ h7 rfl ?_|refine NN.fM (by with_unfolding_all rfl) _ rfl _ rfl _ h7 rfl ?_|refine NN.cB rfl _ _ rfl _ _ rfl rfl _ (NN.Has.Vp _) rfl ?_)
 generalize hw4:World.setRow _ _ _=v4;have hb4:Bl v3 v4:=dZ hw4;have h8:NN.Has v4 v3.heap.size (NN.aa zy) 26:=by rw[<-hw4];exact(NN.Has.Vp _).row _
 replace h7:=NN.Has.on h7 hb4;replace bj:=ai bj hb4;clear hw4 hb4;obtain⟨am3,ae7⟩:∃x,x=v3.heap.size:=⟨_,rfl⟩;rw[<-ae7]at h8|-;clear ae7;go_wp2_with (with_reducible first|refine NN.a_ rfl _ rfl _ rfl _ (by assumption) rfl ?_|refine NN.fM (by with_unfolding_all rfl) _ rfl _ rfl _ (by assumption) rfl ?_)
 refine az (KL.out _) fun v5 hb5=>?_;replace h7:=NN.Has.on h7 hb5;replace h8:=NN.Has.on h8 hb5;replace bj:=ai bj hb5;clear hb5;clear KX KY KL;cases g1
 case true=>
  go_wp2_with fail
  go_ret;exact⟨rfl,bj⟩
 case false=>
  cases g2
  case false=>
   go_wp2_with (with_reducible first|refine NN.a_ rfl _ rfl _ rfl _ (by assumption) rfl ?_|refine NN.fM (by with_unfolding_all rfl) _ rfl _ rfl _ (by assumption) rfl ?_)
   go_ret;exact⟨rfl,bj⟩
  case true=>
   go_wp2_with (with_reducible first|refine NN.a_ rfl _ rfl _ rfl _ (by assumption) rfl ?_|refine NN.fM (by with_unfolding_all rfl) _ rfl _ rfl _ (by assumption) rfl ?_)
   go_ret;exact⟨by first|rfl|(rw[<-h3];simp)|simp[h3],bj⟩
section
variable{w:World}{B:Nat}{F:Nat->Prop}{bm:Nat}{r:Ru}{M:List av}
theorem x8(h:km w B F bm r M){j:Nat}{e:av}(he:M[j]?=some e):ar 101 #[af bm,i_ j] w (.agg (NN.aa (iK r e.hs))):=by
 obtain⟨_,_,_,p,t,vH,vI,vA,vW,ws,h3,_,h5,_⟩:=h;have rW:=h3.Xb;have hz:ws[j]?=some (iK r e.hs):=by rw[h5,eK,he];rfl
 have hj:=(bk.1 hz).1;obtain⟨gW,cW,rfl⟩:=lV rW (by omega);obtain⟨A,C,e1,hA⟩:=wQ (fun z=>(NN.aa z).toList) 4 ws (fun z _=>by rw[g_,NN.jE]) j _ hz;rw[e1]at rW;obtain⟨g,c,e2,e3⟩:=qf rW (by omega);rw[hA]at e3;cases e2;exact yS bm gW ws.length cW j _ hj w (Bb h3.has h3.VQ) e3
theorem O4(h:km w B F bm r M){x y:Nat}(hx:x<M.length)(hy:y<M.length):ar 62 #[af bm,i_ x,i_ y] w (.bool (Hv r M x y)):=by
 have ex:=aQ hx;have ey:=aQ hy;have lx:=wM r (M[x]).hs;have ly:=wM r (M[y]).hs;have:=Sk bm x y _ _ w (h_ fun w' hb=>x8 (h.below hb) ex) (h_ fun w' hb=>x8 (h.below hb) ey) _ _ _ (h_ fun w'=>NN.sf _ _ ly lx w') (fun w'=>NN.wZ lx ly w') rfl
 have e:Hv r M x y=(decide (iK r (M[y]).hs<iK r (M[x]).hs)||(decide (iK r (M[x]).hs=iK r (M[y]).hs)&&decide (x<y))):=by
  unfold Hv Tp.CO;rw[pJ ex,pJ ey];rfl
 rw[e];exact this
end
end An
namespace An
open Mem Sc
open Ar (av Ru aN Ok)
structure Ac where
 kind:Int
 h:Hd
 now:Int
 n:Int
 rt:Bool
def ux(c:Ac):List Value:=i_ c.kind::(cP c.h++[i_ c.now,i_ c.n,.bool c.rt])
def eL(c:Ac):Array Value:=(ux c).toArray
def PS:Ac:=⟨0,fi,0,0,false⟩
variable{c:Ac}
theorem D1(h:c.h.ok):(ux c).length=72:=by simp[ux,gQ h]
theorem n_(h:c.h.ok):(eL c).size=72:=by show(ux c).toArray.size=72;rw[iR];exact D1 h
theorem A9(c:Ac):∀v∈ux c,v.oneCell'=true:=fun v hv=>by
 rcases cJ.1 hv with rfl|hv
 rfl
 ·rcases dL.1 hv with h|h
  exact tX _ v h
  ·rcases cJ.1 h with rfl|h
   rfl
   ·rcases cJ.1 h with rfl|h
    rfl;obtain rfl:v=.bool c.rt:=(by simpa using h);rfl
theorem rT:(Tryz.prog.info? 39).map (·.size)=some 72:=by kernel_rfl
def fC(w:World)(k:Nat)(c:Ac):Prop:=Has w k (eL c) 39
def jY(w:World)(a:Option Addr)(cs:List Ac):Prop:=
 0<cs.length->∃ab ao,a=some ⟨ab,ao,none⟩/\ab<w.heap.size/\∀i (hi:i<cs.length),cs[i].h.ok/\w.rangeAt ab (ao+i*72) (ux cs[i])
theorem BY(c:Ac):0<(ux c).length:=by simp[ux]
section
variable{w w':World}{k:Nat}{c:Ac}
theorem jY.below{a:Option Addr}{cs:List Ac}(h:jY w a cs)(hb:Bl w w'):jY w' a cs:=fun h0=>by
 obtain⟨ab,ao,ha,hlt,hc⟩:=h h0;exact⟨ab,ao,ha,b_ hlt hb.size,fun i hi=>⟨(hc i hi).1,lL (hc i hi).2 hb (BY _)⟩⟩
theorem fC.on(h:fC w k c)(hb:Bl w w'):fC w' k c:=dz hb h (Has.lt h)
theorem fC.kind(h:fC w k c):w.cell? ⟨k,0,none⟩=some (i_ c.kind):=Has.cell h 0
theorem fC.head(h:fC w k c):w.rangeAt k 1 (cP c.h):=by have:=j4 (A:=[i_ c.kind]) (cs:=cP c.h) (C:=[i_ c.now,i_ c.n,.bool c.rt]) (o:=1) (w:=w) (b:=k) (t:=39) h rfl;exact this
theorem fC.now(h:fC w k c)(ho:c.h.ok):w.cell? ⟨k,69,none⟩=some (i_ c.now):=by have:=j4 (A:=i_ c.kind::cP c.h) (cs:=[i_ c.now,i_ c.n,.bool c.rt]) (C:=[]) (o:=69) (w:=w) (b:=k) (t:=39) (by rw[dW];exact h) (by simp[gQ ho]);exact this 0 _ rfl
theorem fC.num(h:fC w k c)(ho:c.h.ok):w.cell? ⟨k,70,none⟩=some (i_ c.n):=by have:=j4 (A:=i_ c.kind::cP c.h) (cs:=[i_ c.now,i_ c.n,.bool c.rt]) (C:=[]) (o:=69) (w:=w) (b:=k) (t:=39) (by rw[dW];exact h) (by simp[gQ ho]);exact this 1 _ rfl
theorem fC.right(h:fC w k c)(ho:c.h.ok):w.cell? ⟨k,71,none⟩=some (.bool c.rt):=by have:=j4 (A:=i_ c.kind::cP c.h) (cs:=[i_ c.now,i_ c.n,.bool c.rt]) (C:=[]) (o:=69) (w:=w) (b:=k) (t:=39) (by rw[dW];exact h) (by simp[gQ ho]);exact this 2 _ rfl
theorem ED(w:World):fC (w.alloc (.cells Tryz.zeroCells39 39)) w.heap.size PS:=Has.new (eL PS) _
variable{ops:Array Oper}{rest:List Oper}{o:Oper}{a:Act}{Q:Exit->Act->World->Prop}
theorem DW(hgd:o.guard=none)(x:Operand)(ho:o.op=.load 39 x)(g off:Nat)(hx:a.eval x=.pointer (some ⟨g,off,none⟩))(c:Ac)(hg:w.rangeAt g off (ux c))(hs:(ux c).length=72)(hk:wpList Tryz.prog ops Q rest (a.put o.dst (.agg (eL c))) w):wpList Tryz.prog ops Q (o::rest) a w:=
 wpList_load_mid hgd 39 x ho g off hx (ux c) _ hg Tryz.underlying39 rfl (rT.trans (by rw[hs])) hk
theorem Ek(hgd:o.guard=none)(x y:Operand)(ho:o.op=.store 39 x y)(g:Nat)(cz:Array Value)(c':Ac)(hx:a.eval x=af g)(hy:a.eval y=.agg cz)(he:cz=eL c')(hs':(eL c').size=72)(hg:fC w g c)(hs:(eL c).size=72)(hk:wpList Tryz.prog ops Q rest (a.put o.dst undef) (w.setRow g (eL c'))):wpList Tryz.prog ops Q (o::rest) a w:=by subst he;exact eI hgd 39 x y ho g (eL c') hx hy 39 (eL c) (Has.out hg) (rT.trans (by rw[hs'])) (by rw[hs,hs']) (all_oneCell_toArray (A9 c')) hk
theorem CC(w:World)(c:Ac):fC ((w.alloc (.cells Tryz.zeroCells39 39)).setRow w.heap.size (eL c)) w.heap.size c:=Has.row (ED w) _
end
def oF(cs:List Ac):Bool:=cs.any (fun c=>decide (c.now<0))
open NN.VI
open Ar (fR Lp Up oR dB)
theorem sZ(w:World)(g:Nat):(Instr.fieldAt 119 (af g) 1).run Tryz.prog w=.ok (.pointer (some ⟨g,1,none⟩)) w:=by kernel_rfl
variable{w:World}
theorem zO{p:Addr}{a:Option Addr}{n c:Nat}(h:w.cell? p=some (.slice a n c)):(loadVar 49 p).run Tryz.prog w=.ok (.slice a n c) w:=by go_simp
theorem DD{b ab:Nat}{v:Value}(h:Has w b (sY ab v) 119)(v':Value):Has (w.setCell ⟨b,1,none⟩ v') b (sY ab v') 119:=Has.set (i:=1) h v'
def Tn(tp ap:Value)(h:Hd)(now x1 x2 x3:Int):Nat->Value->Prop
 | 0,u=>u=tp
 | 1,u=>u=ap
 | 2,u=>u=.agg (aS h)
 | 3,u=>u=i_ now
 | 4,u|5,u=>u=.tuple #[i_ x1,i_ x2,i_ x3]
 | 6,u|9,u=>u=i_ x1
 | 7,u|10,u=>u=i_ x2
 | 8,u|11,u=>u=i_ x3
 | _,_=>now=now
def U6(b bE g n c:Nat)(ua k q y:Int):Nat->Value->Prop
 | 0,v|1,v|2,v|5,v|14,v=>v=af b
 | 3,v|15,v=>v=.pointer (some ⟨b,1,none⟩)
 | 4,v=>v=.slice (bs g) n c
 | 6,v=>v=.pointer (some ⟨bE,100,none⟩)
 | 7,v=>v=i_ ua
 | 8,v=>v=.pointer (some ⟨bE,101,none⟩)
 | 9,v=>v=i_ k
 | 10,v=>v=i_ q
 | 11,v=>v=i_ y
 | _,_=>b=b
theorem UE(ab:Nat)(v:Value)(hv:v.oneCell'=true):Tryz.prog.built 119 [(0,af ab),(1,v)]=some (sY ab v):=by
 have h:Tryz.prog.built 119 [(0,af ab),(1,v)]=Instr.fill ((#[(0,1),(1,1)]:Array (Nat×Nat))[·]?) #[.pointer none,.slice none 0 0] [(0,af ab),(1,v)]:=by kernel_rfl
 rw[h];cases v<;>first|rfl|cases hv
theorem FP(p:NN.Pr)(hp:p.ok)(room:Int)(r:Ru)(w:World)(KN:Hid (∀w',Below w.heap.size w w'->aU 105 #[.agg (NN.aV p),i_ room] w' fun e w''=>∃b F,e=.returned (.tuple #[af b,i_ 0])/\k9 w'' F b r [aN]/\(∀i,F i->w'.heap.size<=i)/\Below w'.heap.size w' w'')):aU 70 #[.agg (NN.aV p),i_ room] w fun e w'=>∃b F,e=.returned (.tuple #[af b,i_ 0])/\jU w' F b r [aN] [-1]/\(∀i,F i->w.heap.size<=i)/\Below w.heap.size w w':=by
 have hz:=NN.gT hp;go_enter Tryz.func70,Tryz.ntmps70;go_upto_region 1 with fail
 generalize hw0:World.alloc _ _=v0;have hB:Below w.heap.size w v0:=eT hw0;have hP:NN.aK v0 w.heap.size p:=by rw[<-hw0];exact NN.Has.new _ _
 clear hw0;go_wp2_with (first|fail|(with_reducible refine NN.fK rfl _ rfl _ rfl hP hz ?_))
 refine(KN.out _ hB).mono ?_;rintro e v1 ⟨ab,Fa,rfl,hA,hF,hb⟩;have YQ:∀i,Fa i->w.heap.size<=i:=fun i hi=>ax hB.size (hF i hi)
 replace hB:=ai hB hb;clear hb hP hF;have hmk:=fun w=>sj w (-1)
 have hbt:=fun g=>UE ab (.slice (bs g) 1 1) rfl
 go_wp2_with fail
 have hL1:Has (v1.alloc (.cells #[i_ (-1)] 3)) v1.heap.size #[i_ (-1)] 3:=Has.new _ _;have hbL:Below v1.heap.size v1 (v1.alloc (.cells #[i_ (-1)] 3)):=cu;have hsz:(v1.alloc (.cells #[i_ (-1)] 3)).heap.size=v1.heap.size+1:=by simp
 generalize v1.alloc (.cells #[i_ (-1)] 3)=v2 at*;have hT:Has (v2.alloc (.cells (sY ab (.slice (some ⟨v1.heap.size,0,none⟩) 1 1)) 119)) v2.heap.size (sY ab (.slice (some ⟨v1.heap.size,0,none⟩) 1 1)) 119:=Has.new _ _;rw[hsz]at hT;have hbT:Below v2.heap.size v2 (v2.alloc (.cells (sY ab (.slice (some ⟨v1.heap.size,0,none⟩) 1 1)) 119)):=cu;have hsz2:(v2.alloc (.cells (sY ab (.slice (some ⟨v1.heap.size,0,none⟩) 1 1)) 119)).heap.size=v2.heap.size+1:=by simp
 go_ret2;have hb2:Below v1.heap.size v1 (v2.alloc (.cells (sY ab (.slice (some ⟨v1.heap.size,0,none⟩) 1 1)) 119)):=ai hbL hbT;have hs:=hB.size;have hA1:=hA.1;refine⟨v1.heap.size+1,fun i=>Fa i\/i=v1.heap.size\/i=v1.heap.size+1,rfl,⟨fun i hi=>?_,Fa,ab,.slice (some ⟨v1.heap.size,0,none⟩) 1 1,hT,hA.below hb2,⟨rfl,.inr ⟨v1.heap.size,1,_,rfl,bB _,dz hbT hL1 (Has.lt hL1),au _,by decide,rfl,rfl⟩⟩,Lp.one,.inr (.inr rfl),fun i hi=>.inl hi,fun i hi=>?_,fun hf=>?_,fun i hi hf=>?_⟩,fun i hi=>?_,hB.trans (hb2.mono hs)⟩
 ·show i<(v2.alloc (.cells (sY ab (.slice (some ⟨v1.heap.size,0,none⟩) 1 1)) 119)).heap.size;rcases hi with hi|rfl|rfl
  have:=hA1 i hi;omega;omega;omega
 exact .inr (.inl (Option.some.inj hi).symm);have:=hA1 _ hf;omega;have h1:v1.heap.size=i:=Option.some.inj hi;have:=hA1 _ hf;omega
 ·rcases hi with hi|rfl|rfl
  exact YQ i hi;exact hs;omega
theorem P7(tp ap:Value)(h:Hd)(ho:h.ok)(now x1 x2 x3:Int)(X:World->World->Prop)(w:World)(KH:Hid (fz w tp ap))(V_:Hid (∀w',Below w.heap.size w w'->Calls Tryz.prog 84 #[ap,.agg (aS h),.int .i64 now] w' fun e w''=>e=.returned (.tuple #[.int .i64 x1,.int .i64 x2,.int .i64 x3])/\X w' w''))(hx:(x3==0)=false):Calls Tryz.prog 48 #[tp,.agg (aS h),.int .i64 now] w fun e w'=>e=.returned (.tuple #[.int .i64 x1,.int .i64 x2,.int .i64 x3])/\∃vx,Below w.heap.size w vx/\X vx w':=by
 have za:=jI ho;go_enter Tryz.func48,Tryz.ntmps48;go_upto_region 1 with fail
 generalize hw0:World.alloc _ _=v0;have hB:Below w.heap.size w v0:=eT hw0;have hH:aX v0 w.heap.size h:=by rw[<-hw0];exact Has.new _ _
 clear hw0;obtain⟨bH,Vy⟩:∃x,x=w.heap.size:=⟨_,rfl⟩;rw[<-Vy]at hH|-;clear Vy;refine lG (by kernel_rfl) (fun _=>True) (fun i v' _=>Tn tp ap h now x1 x2 x3 i v') (fun l _ w'=>Ph 4 (fun w'=>Below w.heap.size w w'/\aX w' bH h) (fun w'=>∃vx,Below w.heap.size w vx/\X vx w') l w') (fun _ _=>True) (fun _ _=>trivial) (fun _ _ _ _ _ _ h=>h) (by kernel_rfl) trivial ?_ ?_ ?_;exact fun l hl=>Ph.zero hl ⟨hB.trans (cg.drew.mono hB.size),Has.drew hH⟩
 ·intro i o lz a wx ho' hnl dq Z;have hC:=Z.c;have hI:=Z.i;have hi:i<12:=(dA.1 ho').1;obtain rfl|rfl|rfl|rfl|rfl|rfl|rfl|rfl|rfl|rfl|rfl|rfl:i=0\/i=1\/i=2\/i=3\/i=4\/i=5\/i=6\/i=7\/i=8\/i=9\/i=10\/i=11:=by omega
  all_goals obtain rfl:=Option.some.inj ho'
  exact br 0 Z (aq rfl) (NN.fs rfl) (Z.old' 0) (hI.keep (aC Z 0))
  ·have hsz:=aC Z 1;have Vu:=fB Z hnl 4;have hpre:=hI.pre Vu hsz (by decide);exact qF (S:=rQ) 1 Z (aq rfl) (f:=64) (args:=#[a.eval (.tmp 15)]) (by kernel_rfl) (by rw[show a.eval (.tmp 15)=_ from(aw Z dq 0 15)];  exact KH.out wx hpre.1) (fun w' hb=>⟨trivial,trivial,rfl,Ph.made Vu (⟨ai hpre.1 hb,hpre.2.on hb⟩)⟩)
  have hsz:=aC Z 2;have Vu:=fB Z hnl 4;have hpre:=hI.pre Vu hsz (by decide);exact br 2 Z (aq rfl) (sC rfl (Z.old' 4) hpre.2 za) rfl (hI.keep hsz);exact br 3 Z (aq rfl) (NN.fs rfl) (Z.old' 2) (hI.keep (aC Z 3))
  ·have hsz:=aC Z 4;have hpre:=hI.1 hnl
   exact CA (S:=rQ) 4 Z (aq rfl) (f:=84) (args:=#[a.eval (.tmp 16),a.eval (.tmp 17),a.eval (.tmp 18)]) (by kernel_rfl) (by
    rw[show a.eval (.tmp 16)=_ from(aw Z dq 1 16),show a.eval (.tmp 17)=_ from(aw Z dq 2 17),show a.eval (.tmp 18)=_ from(aw Z dq 3 18)];refine(V_.out wx hpre.1).mono ?_;rintro r w' ⟨rfl,hX⟩;exact⟨_,rfl,trivial,trivial,rfl,Ph.last hsz ⟨wx,hpre.1,hX⟩⟩)
  exact br 5 Z (aq rfl) (NN.fs rfl) (aw Z dq 4 19) (hI.keep (aC Z 5));exact br 6 Z (aq rfl) (NN.iy rfl (aw Z dq 5 14) rfl) rfl (hI.keep (aC Z 6));exact br 7 Z (aq rfl) (NN.iy rfl (aw Z dq 5 14) rfl) rfl (hI.keep (aC Z 7));exact br 8 Z (aq rfl) (NN.iy rfl (aw Z dq 5 14) rfl) rfl (hI.keep (aC Z 8));exact br 9 Z (aq rfl) (NN.iX rfl) (aw Z dq 6 20) (hI.keep (aC Z 9));exact br 10 Z (aq rfl) (NN.iX rfl) (aw Z dq 7 21) (hI.keep (aC Z 10));exact br 11 Z (aq rfl) (NN.iX rfl) (aw Z dq 8 22) (hI.keep (aC Z 11))
 intro lz a' v1 hall Z;obtain⟨vx,hBx,hX⟩:=Z.i.2 (hall 4 (by decide));have e9:a'.eval (.tmp 9)=.int .i64 x1:=Z.got 9 _ 9 rfl (hall 9 (by decide)) rfl;have e10:a'.eval (.tmp 10)=.int .i64 x2:=Z.got 10 _ 10 rfl (hall 10 (by decide)) rfl;have e11:a'.eval (.tmp 11)=.int .i64 x3:=Z.got 11 _ 11 rfl (hall 11 (by decide)) rfl;have e0:a'.eval (.tmp 0)=tp:=Z.old' 0;obtain⟨u,hu⟩:∃u:Nat->Value,∀t,u t=a'.eval (.tmp t):=⟨_,fun _=>rfl⟩;rw[iz a' 59 u Z.Vr Z.defers hu];rw[<-hu]at e0 e9 e10 e11;clear hu Z hall;simp only[List.range,List.range.loop,bZ,cx];rw[e0,e9,e10,e11];clear e0 e9 e10 e11;clear hB hH KH V_;go_wp2_with fail
 go_ret3
 exact⟨rfl,vx,hBx,hX⟩
theorem Lt(b:Nat)(ap:Value)(h:Hd)(ho:h.ok)(now x1 x2 x3:Int)(X:World->World->Prop)(w:World)(KH:Hid (fz w (.pointer (some ⟨b,0,none⟩)) ap))(V_:Hid (∀w',Below w.heap.size w w'->Calls Tryz.prog 84 #[ap,.agg (aS h),.int .i64 now] w' fun e w''=>e=.returned (.tuple #[.int .i64 x1,.int .i64 x2,.int .i64 x3])/\X w' w''))(n:Nat)(hx:(x3==0)=true)(hx2:(x1==(n:Int))=false)(HV:Hid (∀w' w'',Below w.heap.size w w'->X w' w''->∃a c,w''.cell? ⟨b,1,none⟩=some (.slice a n c))):Calls Tryz.prog 48 #[.pointer (some ⟨b,0,none⟩),.agg (aS h),.int .i64 now] w fun e w'=>e=.returned (.tuple #[.int .i64 x1,.int .i64 x2,.int .i64 x3])/\∃vx,Below w.heap.size w vx/\X vx w':=by
 have za:=jI ho;go_enter Tryz.func48,Tryz.ntmps48;go_upto_region 1 with fail
 generalize hw0:World.alloc _ _=v0;have hB:Below w.heap.size w v0:=eT hw0;have hH:aX v0 w.heap.size h:=by rw[<-hw0];exact Has.new _ _
 clear hw0;obtain⟨bH,Vy⟩:∃x,x=w.heap.size:=⟨_,rfl⟩;rw[<-Vy]at hH|-;clear Vy;refine lG (by kernel_rfl) (fun _=>True) (fun i v' _=>Tn (.pointer (some ⟨b,0,none⟩)) ap h now x1 x2 x3 i v') (fun l _ w'=>Ph 4 (fun w'=>Below w.heap.size w w'/\aX w' bH h) (fun w'=>∃vx,Below w.heap.size w vx/\X vx w') l w') (fun _ _=>True) (fun _ _=>trivial) (fun _ _ _ _ _ _ h=>h) (by kernel_rfl) trivial ?_ ?_ ?_;exact fun l hl=>Ph.zero hl ⟨hB.trans (cg.drew.mono hB.size),Has.drew hH⟩
 ·intro i o lz a wx ho' hnl dq Z;have hC:=Z.c;have hI:=Z.i;have hi:i<12:=(dA.1 ho').1;obtain rfl|rfl|rfl|rfl|rfl|rfl|rfl|rfl|rfl|rfl|rfl|rfl:i=0\/i=1\/i=2\/i=3\/i=4\/i=5\/i=6\/i=7\/i=8\/i=9\/i=10\/i=11:=by omega
  all_goals obtain rfl:=Option.some.inj ho'
  exact br 0 Z (aq rfl) (NN.fs rfl) (Z.old' 0) (hI.keep (aC Z 0))
  ·have hsz:=aC Z 1;have Vu:=fB Z hnl 4;have hpre:=hI.pre Vu hsz (by decide);exact qF (S:=rQ) 1 Z (aq rfl) (f:=64) (args:=#[a.eval (.tmp 15)]) (by kernel_rfl) (by rw[show a.eval (.tmp 15)=_ from(aw Z dq 0 15)];  exact KH.out wx hpre.1) (fun w' hb=>⟨trivial,trivial,rfl,Ph.made Vu (⟨ai hpre.1 hb,hpre.2.on hb⟩)⟩)
  have hsz:=aC Z 2;have Vu:=fB Z hnl 4;have hpre:=hI.pre Vu hsz (by decide);exact br 2 Z (aq rfl) (sC rfl (Z.old' 4) hpre.2 za) rfl (hI.keep hsz);exact br 3 Z (aq rfl) (NN.fs rfl) (Z.old' 2) (hI.keep (aC Z 3))
  ·have hsz:=aC Z 4;have hpre:=hI.1 hnl
   exact CA (S:=rQ) 4 Z (aq rfl) (f:=84) (args:=#[a.eval (.tmp 16),a.eval (.tmp 17),a.eval (.tmp 18)]) (by kernel_rfl) (by
    rw[show a.eval (.tmp 16)=_ from(aw Z dq 1 16),show a.eval (.tmp 17)=_ from(aw Z dq 2 17),show a.eval (.tmp 18)=_ from(aw Z dq 3 18)];refine(V_.out wx hpre.1).mono ?_;rintro r w' ⟨rfl,hX⟩;exact⟨_,rfl,trivial,trivial,rfl,Ph.last hsz ⟨wx,hpre.1,hX⟩⟩)
  exact br 5 Z (aq rfl) (NN.fs rfl) (aw Z dq 4 19) (hI.keep (aC Z 5));exact br 6 Z (aq rfl) (NN.iy rfl (aw Z dq 5 14) rfl) rfl (hI.keep (aC Z 6));exact br 7 Z (aq rfl) (NN.iy rfl (aw Z dq 5 14) rfl) rfl (hI.keep (aC Z 7));exact br 8 Z (aq rfl) (NN.iy rfl (aw Z dq 5 14) rfl) rfl (hI.keep (aC Z 8));exact br 9 Z (aq rfl) (NN.iX rfl) (aw Z dq 6 20) (hI.keep (aC Z 9));exact br 10 Z (aq rfl) (NN.iX rfl) (aw Z dq 7 21) (hI.keep (aC Z 10));exact br 11 Z (aq rfl) (NN.iX rfl) (aw Z dq 8 22) (hI.keep (aC Z 11))
 intro lz a' v1 hall Z;obtain⟨vx,hBx,hX⟩:=Z.i.2 (hall 4 (by decide));have e9:a'.eval (.tmp 9)=.int .i64 x1:=Z.got 9 _ 9 rfl (hall 9 (by decide)) rfl;have e10:a'.eval (.tmp 10)=.int .i64 x2:=Z.got 10 _ 10 rfl (hall 10 (by decide)) rfl;have e11:a'.eval (.tmp 11)=.int .i64 x3:=Z.got 11 _ 11 rfl (hall 11 (by decide)) rfl;have e0:a'.eval (.tmp 0)=(.pointer (some ⟨b,0,none⟩)):=Z.old' 0;obtain⟨u,hu⟩:∃u:Nat->Value,∀t,u t=a'.eval (.tmp t):=⟨_,fun _=>rfl⟩;rw[iz a' 59 u Z.Vr Z.defers hu];rw[<-hu]at e0 e9 e10 e11;clear hu Z hall;simp only[List.range,List.range.loop,bZ,cx];rw[e0,e9,e10,e11];clear e0 e9 e10 e11;clear hB hH KH V_;obtain⟨al,cl,c1⟩:=HV.out vx v1 hBx hX;go_wp2_with fail
 go_ret3
 exact⟨rfl,vx,hBx,hX⟩
theorem IE(b ab g n c:Nat)(ap:Value)(h:Hd)(ho:h.ok)(now x2:Int)(X:World->World->Prop)(w:World)(KH:Hid (fz w (.pointer (some ⟨b,0,none⟩)) ap))(V_:Hid (∀w',Below w.heap.size w w'->Calls Tryz.prog 84 #[ap,.agg (aS h),.int .i64 now] w' fun e w''=>e=.returned (.tuple #[.int .i64 (n:Int),.int .i64 x2,.int .i64 0])/\X w' w''))(ls:List Int)(h9:n<=1000)(E:En)(hE:E.ok)(ua k q y:Int)(HU:Hid (E.up=ua))(HT:Hid (E.ht=k))(hne:b≠g)(HV:Hid (∀w' w'',Below w.heap.size w w'->X w' w''->Has w'' b (sY ab (.slice (some ⟨g,0,none⟩) n c)) 119/\w''.ownsRow 0 3 1 (.slice (some ⟨g,0,none⟩) n c) n (ls.map (Value.int .i64))))(KAt:Hid (∀w' w'',Below w.heap.size w w'->X w' w''->∀w3,Below w''.heap.size w'' w3->Calls Tryz.prog 29 #[.pointer (some ⟨b,0,none⟩),.int .i64 (n:Int)] w3 fun x w4=>x=.returned (.tuple #[.agg (dc E),.bool true])/\Below w3.heap.size w3 w4))(KHt:CN 85 #[.int .i64 k] (.int .i64 q))(ae8:Hid (∀w' w'',Below w.heap.size w w'->X w' w''->∀w3,Below w''.heap.size w'' w3->Calls Tryz.prog 69 #[.pointer (some ⟨b,0,none⟩),.int .i64 ua,.int .i64 q] w3 fun x w4=>x=.returned (.int .i64 y)/\Below w3.heap.size w3 w4)):Calls Tryz.prog 48 #[.pointer (some ⟨b,0,none⟩),.agg (aS h),.int .i64 now] w fun e w'=>e=.returned (.tuple #[.int .i64 (n:Int),.int .i64 x2,.int .i64 0])/\∃vx v1 v2 v',Below w.heap.size w vx/\X vx v1/\Below v1.heap.size v1 v2/\Kp (fun i=>i=b\/i=g) v2 w'/\Has w' b (sY ab v') 119/\w'.ownsRow 0 3 1 v' (n+1) ((ls++[y]).map (Value.int .i64))/\(v'.ownBlock=some g\/∃g',v'.ownBlock=some g'/\v2.heap.size<=g'):=by
 have za:=jI ho;go_enter Tryz.func48,Tryz.ntmps48;go_upto_region 1 with fail
 generalize hw0:World.alloc _ _=v0;have hB:Below w.heap.size w v0:=eT hw0;have hH:aX v0 w.heap.size h:=by rw[<-hw0];exact Has.new _ _
 clear hw0;obtain⟨bH,Vy⟩:∃x,x=w.heap.size:=⟨_,rfl⟩;rw[<-Vy]at hH|-;clear Vy;refine lG (by kernel_rfl) (fun _=>True) (fun i v' _=>Tn (.pointer (some ⟨b,0,none⟩)) ap h now (n:Int) x2 0 i v') (fun l _ w'=>Ph 4 (fun w'=>Below w.heap.size w w'/\aX w' bH h) (fun w'=>∃vx,Below w.heap.size w vx/\X vx w') l w') (fun _ _=>True) (fun _ _=>trivial) (fun _ _ _ _ _ _ h=>h) (by kernel_rfl) trivial ?_ ?_ ?_;exact fun l hl=>Ph.zero hl ⟨hB.trans (cg.drew.mono hB.size),Has.drew hH⟩
 ·intro i o lz a wx ho' hnl dq Z;have hC:=Z.c;have hI:=Z.i;have hi:i<12:=(dA.1 ho').1;obtain rfl|rfl|rfl|rfl|rfl|rfl|rfl|rfl|rfl|rfl|rfl|rfl:i=0\/i=1\/i=2\/i=3\/i=4\/i=5\/i=6\/i=7\/i=8\/i=9\/i=10\/i=11:=by omega
  all_goals obtain rfl:=Option.some.inj ho'
  exact br 0 Z (aq rfl) (NN.fs rfl) (Z.old' 0) (hI.keep (aC Z 0))
  ·have hsz:=aC Z 1;have Vu:=fB Z hnl 4;have hpre:=hI.pre Vu hsz (by decide);exact qF (S:=rQ) 1 Z (aq rfl) (f:=64) (args:=#[a.eval (.tmp 15)]) (by kernel_rfl) (by rw[show a.eval (.tmp 15)=_ from(aw Z dq 0 15)];  exact KH.out wx hpre.1) (fun w' hb=>⟨trivial,trivial,rfl,Ph.made Vu (⟨ai hpre.1 hb,hpre.2.on hb⟩)⟩)
  have hsz:=aC Z 2;have Vu:=fB Z hnl 4;have hpre:=hI.pre Vu hsz (by decide);exact br 2 Z (aq rfl) (sC rfl (Z.old' 4) hpre.2 za) rfl (hI.keep hsz);exact br 3 Z (aq rfl) (NN.fs rfl) (Z.old' 2) (hI.keep (aC Z 3))
  ·have hsz:=aC Z 4;have hpre:=hI.1 hnl
   exact CA (S:=rQ) 4 Z (aq rfl) (f:=84) (args:=#[a.eval (.tmp 16),a.eval (.tmp 17),a.eval (.tmp 18)]) (by kernel_rfl) (by
    rw[show a.eval (.tmp 16)=_ from(aw Z dq 1 16),show a.eval (.tmp 17)=_ from(aw Z dq 2 17),show a.eval (.tmp 18)=_ from(aw Z dq 3 18)];refine(V_.out wx hpre.1).mono ?_;rintro r w' ⟨rfl,hX⟩;exact⟨_,rfl,trivial,trivial,rfl,Ph.last hsz ⟨wx,hpre.1,hX⟩⟩)
  exact br 5 Z (aq rfl) (NN.fs rfl) (aw Z dq 4 19) (hI.keep (aC Z 5));exact br 6 Z (aq rfl) (NN.iy rfl (aw Z dq 5 14) rfl) rfl (hI.keep (aC Z 6));exact br 7 Z (aq rfl) (NN.iy rfl (aw Z dq 5 14) rfl) rfl (hI.keep (aC Z 7));exact br 8 Z (aq rfl) (NN.iy rfl (aw Z dq 5 14) rfl) rfl (hI.keep (aC Z 8));exact br 9 Z (aq rfl) (NN.iX rfl) (aw Z dq 6 20) (hI.keep (aC Z 9));exact br 10 Z (aq rfl) (NN.iX rfl) (aw Z dq 7 21) (hI.keep (aC Z 10));exact br 11 Z (aq rfl) (NN.iX rfl) (aw Z dq 8 22) (hI.keep (aC Z 11))
 intro lz a' v1 hall Z;obtain⟨vx,hBx,hX⟩:=Z.i.2 (hall 4 (by decide));have e9:a'.eval (.tmp 9)=.int .i64 (n:Int):=Z.got 9 _ 9 rfl (hall 9 (by decide)) rfl;have e10:a'.eval (.tmp 10)=.int .i64 x2:=Z.got 10 _ 10 rfl (hall 10 (by decide)) rfl;have e11:a'.eval (.tmp 11)=.int .i64 0:=Z.got 11 _ 11 rfl (hall 11 (by decide)) rfl;have e0:a'.eval (.tmp 0)=(.pointer (some ⟨b,0,none⟩)):=Z.old' 0;obtain⟨u,hu⟩:∃u:Nat->Value,∀t,u t=a'.eval (.tmp t):=⟨_,fun _=>rfl⟩;rw[iz a' 59 u Z.Vr Z.defers hu];rw[<-hu]at e0 e9 e10 e11;clear hu Z hall;simp only[List.range,List.range.loop,bZ,cx];rw[e0,e9,e10,e11];clear e0 e9 e10 e11;clear hB hH KH V_;obtain⟨VN,rL0⟩:=HV.out vx v1 hBx hX;have Z4:=h_ (KAt.out vx v1 hBx hX);have XI:=h_ (ae8.out vx v1 hBx hX);have HQ:=h_ (dQ hBx hX);clear HV KAt ae8 hBx hX;have c1:=Has.cell VN 1;have hB:=aA v1.heap.size v1;have t3:((n:Int)==(n:Int))=true:=by simp
 have c1':v1.cell? ⟨b,1,none⟩=some (.slice (some ⟨g,0,none⟩) n c):=c1;clear c1;go_wp2_with fail
 refine(Z4.out _ hB).mono ?_;rintro x v1' ⟨rfl,hb⟩;replace hB:=ai hB hb;clear hb Z4 c1';have hnew:=kp v1';have hE1:=qC v1' E;have ze:=ki hE;have z0:=ki eo;have hb3:=qW v1' 60 Tryz.zeroCells60 (dc E);go_upto_region 4 with(with_reducible refine lu rfl _ _ rfl _ _ E rfl rfl rfl ze hnew z0 ?_)
 generalize World.setRow _ _ _=v2 at*;obtain⟨bE,W5⟩:∃x,x=v1'.heap.size:=⟨_,rfl⟩;rw[<-W5]at hE1|-;have hlt1:=Has.lt VN;have hlt2:=(dM rL0 (i:=g) rfl).1;have hs1:=hB.size;have fE:¬(bE=b\/bE=g):=fun h=>by rcases h with h|h<;>omega
 replace hB:=ai hB hb3;have k0:=Kp.of (F:=fun _=>False) hB;have hA:=k0.has VN (fun h=>h);have rL:=aF rL0 k0 (fun _ _ h=>h);have KAn:Hid (∀w3,Below v2.heap.size v2 w3->Calls Tryz.prog 69 #[.pointer (some ⟨b,0,none⟩),.int .i64 ua,.int .i64 q] w3 fun x w4=>x=.returned (.int .i64 y)/\Below w3.heap.size w3 w4):=h_ fun w3 hb=>XI.out w3 (ai hB hb)
 have V2:Hid (g≠b):=h_ fun h=>hne h.symm
 clear W5 hlt1 hlt2 hs1 hb3 hnew k0 VN rL0 XI hne;refine lG (by kernel_rfl) (fun w'=>Kp (fun i=>i=b\/i=g) v2 w') (fun i v' _=>U6 b bE g n c ua k q y i v') (fun l a w'=>mc 12 13 16 52 53 v2.heap.size 3 119 1 (fun cs=>cs=#[.int .i64 y]) (.slice (some ⟨g,0,none⟩) n c) n (ls.map (Value.int .i64)) b (fun u=>sY ab u) l a w'/\Ph 13 (fun w'=>Below v2.heap.size v2 w') (fun _=>True) l w') (fun _ _=>True) (fun _ _=>trivial) (fun _ _ _ _ _ _ h=>h) (by kernel_rfl) (Kp.of cg.drew) ?_ ?_ ?_;exact fun l hl=>⟨mc.zero hl (aF rL (Kp.of (F:=fun _=>False) cg.drew) (fun _ _ h=>h)) (Has.drew hA),Ph.zero hl cg.drew⟩
 ·intro i o lz a wx ho' hnl dq Z;have hC:=Z.c;have hI:=Z.i;have hi:i<17:=(dA.1 ho').1;have ZU:cV wx bE E:=hC.has hE1 fE;have hlx:v2.heap.size<=wx.heap.size:=hC.size;obtain rfl|rfl|rfl|rfl|rfl|rfl|rfl|rfl|rfl|rfl|rfl|rfl|rfl|rfl|rfl|rfl|rfl:i=0\/i=1\/i=2\/i=3\/i=4\/i=5\/i=6\/i=7\/i=8\/i=9\/i=10\/i=11\/i=12\/i=13\/i=14\/i=15\/i=16:=by omega
  all_goals obtain rfl:=Option.some.inj ho'
  have hsz:=aC Z 0;exact br 0 Z (aq rfl) (NN.fs rfl) (Z.old' 0) ⟨hI.1.keep hsz,hI.2.keep hsz⟩;have hsz:=aC Z 1;exact br 1 Z (aq rfl) (NN.fs rfl) (Z.old' 0) ⟨hI.1.keep hsz,hI.2.keep hsz⟩;have hsz:=aC Z 2;exact br 2 Z (aq rfl) (dR rfl (aw Z dq 1 41)) rfl ⟨hI.1.keep hsz,hI.2.keep hsz⟩;have hsz:=aC Z 3;exact br 3 Z (aq rfl) (fg rfl (aw Z dq 2 42) (sZ wx b)) rfl ⟨hI.1.keep hsz,hI.2.keep hsz⟩;have hsz:=aC Z 4;have hks:=fB Z hnl 16;have hAx:=hI.1.ha (by rw[<-kk lz 4 16 hsz (by decide)];exact hks);exact br 4 Z (aq rfl) (dy rfl (aw Z dq 3 43) (zO (Has.cell hAx 1))) rfl ⟨hI.1.keep hsz,hI.2.keep hsz⟩;have hsz:=aC Z 5;exact br 5 Z (aq rfl) (NN.fs rfl) (Z.old' 0) ⟨hI.1.keep hsz,hI.2.keep hsz⟩;have hsz:=aC Z 6;exact br 6 Z (aq rfl) (fg rfl (Z.old' 12) (Az wx bE)) rfl ⟨hI.1.keep hsz,hI.2.keep hsz⟩;have hsz:=aC Z 7;exact br 7 Z (aq rfl) (NN.pg rfl (aw Z dq 6 46) (cV.up ZU hE HU)) rfl ⟨hI.1.keep hsz,hI.2.keep hsz⟩;have hsz:=aC Z 8;exact br 8 Z (aq rfl) (fg rfl (Z.old' 12) (Bg wx bE)) rfl ⟨hI.1.keep hsz,hI.2.keep hsz⟩;have hsz:=aC Z 9;exact br 9 Z (aq rfl) (NN.pg rfl (aw Z dq 8 48) (cV.ht ZU hE HT)) rfl ⟨hI.1.keep hsz,hI.2.keep hsz⟩
  ·have hsz:=aC Z 10;have Vu:=fB Z hnl 13;have hpre:=hI.2.pre Vu hsz (by decide);exact qF (S:=rQ) 10 Z (aq rfl) (f:=85) (args:=#[a.eval (.tmp 49)]) (by kernel_rfl) (by rw[show a.eval (.tmp 49)=_ from(aw Z dq 9 49)];  exact KHt.out wx) (fun w' hb=>⟨hC.trans (Kp.of (F:=fun i=>i=b\/i=g) hb) (fun i hi _=>hi),trivial,rfl,(hI.1.on hb).keep hsz,Ph.made Vu (ai hpre hb)⟩)
  ·have hsz:=aC Z 11;have Vu:=fB Z hnl 13;have hpre:=hI.2.pre Vu hsz (by decide);exact qF (S:=rQ) 11 Z (aq rfl) (f:=69) (args:=#[a.eval (.tmp 45),a.eval (.tmp 47),a.eval (.tmp 50)]) (by kernel_rfl) (by rw[show a.eval (.tmp 45)=_ from(aw Z dq 5 45)];rw[show a.eval (.tmp 47)=_ from(aw Z dq 7 47)];rw[show a.eval (.tmp 50)=_ from(aw Z dq 10 50)];  exact KAn.out wx hpre) (fun w' hb=>⟨hC.trans (Kp.of (F:=fun i=>i=b\/i=g) hb) (fun i hi _=>hi),trivial,rfl,(hI.1.on hb).keep hsz,Ph.made Vu (ai hpre hb)⟩)
  have hsz:=aC Z 12;have hka:=fB Z hnl 13;have hks:=fB Z hnl 16;have Vu:=fB Z hnl 13;have hpre:=hI.2.pre Vu hsz (by decide);have hb:Below wx.heap.size wx (wx.alloc _):=cg.alloc (au _) (.cells #[.int .i64 y] 3);exact uC 12 Z (aq rfl) (NN.VI.ny rfl (aw Z dq 11 51) (sj wx y)) (hC.trans (Kp.of (F:=fun i=>i=b\/i=g) hb) (fun i hi _=>hi)) rfl ⟨hI.1.built hsz hka hks (by decide) (by decide) (by rw[Z.Vr];exact(show 52<59 by decide)) rfl,Ph.made Vu (ai hpre hb)⟩;have hsz:=aC Z 13;have hks:=fB Z hnl 16;have hkb:lz.getD 12 false=true:=dq ⟨12,.data⟩ (by simp) rfl;obtain⟨gg,cs,rfl,hg,hgh⟩:=hI.1.bu hkb hnl;obtain⟨v',w',hr,g1,g2,g3⟩:=yp (ρ:=a.eval) (x:=.tmp 44) (y:=.tmp 52) (Ts:=49) Tryz.underlying49 wP (by decide) (by decide) rfl (by intro u hu;simp at hu;subst hu;rfl) (aw Z dq 4 44) (hI.1.ro hnl) hg hgh h9;exact uC 13 Z (aq rfl) (hr _ rfl rfl) (hC.trans (Kp.gb (F:=fun i=>i=b\/i=g) g2 (fun k hk=>.inr (Option.some.inj hk).symm)) (fun i hi _=>hi)) rfl ⟨hI.1.appended hsz hks (by decide) (by rw[Z.Vr];exact(show 53<59 by decide)) rfl g1 g2 g3 hlx (fun e=>V2.out (Option.some.inj e)),Ph.last hsz trivial⟩;have hsz:=aC Z 14;exact br 14 Z (aq rfl) (dR rfl (aw Z dq 0 40)) rfl ⟨hI.1.keep hsz,hI.2.keep hsz⟩;have hsz:=aC Z 15;exact br 15 Z (aq rfl) (fg rfl (aw Z dq 14 54) (sZ wx b)) rfl ⟨hI.1.keep hsz,hI.2.keep hsz⟩
  ·have hsz:=aC Z 16;have hka:lz.getD 13 false=true:=dq ⟨13,.data⟩ (by simp) rfl;obtain⟨v',cs,rfl,hv',hr',hl'⟩:=hI.1.ap hka hnl;obtain⟨g',c',rfl⟩:=lV hr' (jf _);have hAx:=hI.1.ha hnl;have kb:Kp (fun i=>i=b) wx (wx.setCell ⟨b,1,none⟩ (.slice (some ⟨g',0,none⟩) (n+1) c')):=Kp.gb (jl wx b 1 _) (fun k hk=>(Option.some.inj hk).symm)
   exact uD 16 Z (aq rfl) (nu rfl (aw Z dq 15 55) hv' (D0 (Has.free hAx 1) (Has.cell hAx 1))) (hC.trans kb (fun i hi _=>.inl hi)) rfl ⟨mc.stored hsz (by decide) hka rfl (DD hAx _) (aF hr' kb (fun i hi e=>by
    obtain⟨_,k⟩:=iD hr' hi;exact dK k hAx.out (by decide) e)) hl',⟨fun h=>(by rw[kk lz 16 13 hsz (by decide),hka]at h;cases h),fun _=>trivial⟩⟩
 intro lz a' v5 hall Z;have hC:=Z.c;obtain⟨v',cs,rfl,hA',rL',hl'⟩:=Z.i.1.st (hall 16 (by decide));have e9:a'.eval (.tmp 9)=.int .i64 (n:Int):=Z.old' 9;have e10:a'.eval (.tmp 10)=.int .i64 x2:=Z.old' 10;have e11:a'.eval (.tmp 11)=.int .i64 0:=Z.old' 11;obtain⟨u,hu⟩:∃u:Nat->Value,∀t,u t=a'.eval (.tmp t):=⟨_,fun _=>rfl⟩;rw[iz a' 59 u Z.Vr Z.defers hu];rw[<-hu]at e9 e10 e11;clear hu Z hall;simp only[List.range,List.range.loop,bZ,cx];rw[e9,e10,e11];clear e9 e10 e11;go_wp2_with fail
 go_ret3
 exact⟨rfl,vx,HQ.out.1,v1,HQ.out.2,v2,hB,hC,v',hA',rL',hl'⟩
end An
namespace An
open Mem Sc
open Ar (av Ru aN Ok Lp oR Up dB fR)
theorem Le(r:Ru)(M:List av)(h:Hd)(now:Int):(¬(Ar.add r M h now).1.2.2=0/\(Ar.add r M h now).2=M) \/ ((Ar.add r M h now).1.2.2=0/\(∃i:Nat,(Ar.add r M h now).1.1=(i:Int)/\i<M.length)/\(Ar.add r M h now).2=M) \/ ((Ar.add r M h now).1=(((M.length:Nat):Int),(0:Int),(0:Int))/\∃(j:Nat)(d:av),M[j]?=some d/\(Ar.add r M h now).2=M++[⟨d.hs++[h],(j:Int)⟩]):=by
 unfold Ar.add;by_cases hP:h.P
 ·rw[ah (fun hh=>hh hP)];cases h1:Ar.oA r.g M h.id with
  | some i=>
   obtain⟨e,he,_⟩:=Ar.uP h1;exact .inr (.inl ⟨rfl,⟨i,rfl,(bk.1 he).1⟩,rfl⟩)
  | none=>
   cases h2:Ar.oA r.g M h.prev with
   | none=>exact .inl ⟨by simp,rfl⟩
   | some j=>
    simp only;obtain⟨d,hd,_⟩:=Ar.uP h2;by_cases h3:Ar.oY r (M.getD j aN) h now=0;rw[ah (fun hh=>hh h3)];by_cases h4:r.room<=M.length;rw[aj h4];exact .inl ⟨by simp,rfl⟩;rw[ah h4];refine .inr (.inr ⟨rfl,j,d,hd,?_⟩);rw[show M.getD j aN=d by rw[dC,hd];rfl];rw[aj h3];exact .inl ⟨by simp,rfl⟩
 rw[aj hP];exact .inl ⟨by simp,rfl⟩
variable{w:World}{F:Nat->Prop}{b k:Nat}{r:Ru}{ls L K:List Int}
theorem F0{vx w':World}{Fa:Nat->Prop}{ab:Nat}{lv:Value}{M':List av}(hF:∀i,F i->i<w.heap.size)(h1:Has w b (sY ab lv) 119)(h3:w.ownsRow 0 3 1 lv ls.length (ls.map (Value.int .i64)))(h4:Lp M' ls)(h5:F b)(h6:∀i,Fa i->F i)(h7:∀i,lv.ownBlock=some i->F i)(h8:¬Fa b)(h9:∀i,lv.ownBlock=some i->¬Fa i)(hb:Bl w vx)(hA:k9 w' (mD Fa vx w') ab r M')(hK:Kp Fa vx w'):jU w' (mD F w w') b r M' ls/\Kp F w w':=by
 have k0:Kp Fa w w':=(Kp.of hb).trans hK fun i hi _=>hi
 have hs:=hb.size;have hlt:=Has.lt h1;refine⟨⟨pG hF k0.size,mD Fa vx w',ab,lv,k0.has h1 h8,hA,aF h3 k0 h9,h4,.inl h5,fun i hi=>?_,fun i hi=>.inl (h7 i hi),fun hn=>?_,fun i hi hn=>?_⟩,k0.mono fun i hi _=>h6 i hi⟩;exact hi.elim (fun h=>.inl (h6 i h)) (fun h=>.inr ⟨ax hs h.1,h.2⟩);exact hn.elim h8 (fun h=>by omega);have:=(dM h3 hi).1;exact hn.elim (h9 i hi) (fun h=>by omega)
variable{M:List av}
theorem yA(hS:jU w F b r M ls)(hM:Ok r M)(hl:M.length<=800)(hls:ls.length=M.length)(hgl:r.gs.length<=1000)(hcl:r.cs.length<=1000)(hT:gj w)(h:Hd)(ho:h.ok)(now:Int):aU 48 #[af b,.agg (aS h),i_ now] w fun e w'=>e=.returned (.tuple #[i_ (Ar.add r M h now).1.1,i_ (Ar.add r M h now).1.2.1,i_ (Ar.add r M h now).1.2.2])/\(∃ls',ls'.length=(Ar.add r M h now).2.length/\jU w' (mD F w w') b r (Ar.add r M h now).2 ls')/\Kp F w w':=by
 have hpos:=hM.pos;have Z5:=hM.add ho now;obtain⟨gg,cc,hL⟩:=hS.Y4 (by omega);have hS':=hS;obtain⟨hF,Fa,ab,lv,h1,h2,h3,h4,h5,h6,h7,h8,h9⟩:=hS'
 have hlv:lv=.slice (bs gg) ls.length cc:=by
  have e1:=hL.1;have e2:w.cell? ⟨b,1,none⟩=some lv:=Has.cell h1 1;rw[e1]at e2;exact(Option.some.inj e2).symm
 have hbl:=Has.lt h1;have KH:Hid (fz w (af b) (af ab)):=h_ fun w' hb=>vF b ab w' ((hb.cell (p:=⟨b,0,none⟩) hbl).trans (Has.cell h1 0))
 have KA:=fun(w':World)(hb:Bl w w')=>nO (h2.below hb) hM (by omega) hgl hcl (hT.below hb) h ho now
 rcases Le r M h now with⟨c1,c2⟩|⟨c1,⟨i,c2,c3⟩,c4⟩|⟨c1,j,d,c2,c3⟩
 obtain⟨⟨x1,x2,x3⟩,hx⟩:∃x,x=(Ar.add r M h now).1:=⟨_,rfl⟩;rw[<-hx]at c1 KA|-;rw[c2]at KA|-;refine(P7 _ _ h ho now x1 x2 x3 (fun w' w''=>k9 w'' (mD Fa w' w'') ab r M/\Kp Fa w' w'') w KH (h_ KA) (by simpa using c1)).mono ?_;rintro e w' ⟨rfl,vx,q1,q2,q3⟩;obtain⟨u1,u2⟩:=F0 hF h1 h3 h4 h5 h6 h7 h8 h9 q1 q2 q3;exact⟨rfl,⟨ls,hls,u1⟩,u2⟩;obtain⟨⟨x1,x2,x3⟩,hx⟩:∃x,x=(Ar.add r M h now).1:=⟨_,rfl⟩;rw[<-hx]at c1 c2 KA|-;rw[c4]at KA|-;simp only at c1 c2;refine(Lt b _ h ho now x1 x2 x3 (fun w' w''=>k9 w'' (mD Fa w' w'') ab r M/\Kp Fa w' w'') w KH (h_ KA) ls.length (by simpa using c1) (by rw[c2,ld];omega) (h_ fun w' w'' hb hX=>?_)).mono ?_;obtain⟨_,k⟩:=hX;have h1':=k.has (dz hb h1 hbl) h8;exact⟨_,_,(Has.cell h1' 1).trans (by rw[hlv];rfl)⟩;rintro e w' ⟨rfl,vx,q1,q2,q3⟩;obtain⟨u1,u2⟩:=F0 hF h1 h3 h4 h5 h6 h7 h8 h9 q1 q2 q3;exact⟨rfl,⟨ls,hls,u1⟩,u2⟩
 ·rw[c3]at Z5 KA|-;rw[c1]at KA|-;simp only at KA|-;subst hlv;have hd:=c2;obtain⟨e',he'⟩:∃e':av,e'=⟨d.hs++[h],(j:Int)⟩:=⟨_,rfl⟩;rw[<-he']at Z5 KA|-;have hel:e'.hs.length=d.hs.length+1:=by rw[he',aT];rfl
  have heu:e'.up=(j:Int):=by rw[he']
  have hnew:(M++[e'])[M.length]?=some e':=by rw[dE (au _),iu];rfl
  have hjl:=(bk.1 hd).1;have hd':(M++[e'])[j]?=some d:=by rw[dm hjl];exact hd
  have hdc:=(hM.chain j d hd).1;obtain⟨y,hy⟩:=Up.there Z5 hd' (h:=oR e'.hs.length) (by have:=Ar.wN (h:=e'.hs.length) (by omega);omega);have ae9:Lp (M++[e']) ls:=h4.more [e'];have hX:∀(w' w'':World),Bl w w'->k9 w'' (mD Fa w' w'') ab r (M++[e'])/\Kp Fa w' w''->jU w'' (mD F w w'') b r (M++[e']) ls/\Kp F w w'':=fun w' w'' hb hX=>F0 hF h1 h3 ae9 h5 h6 h7 h8 h9 hb hX.1 hX.2
  have hne:b≠gg:=fun e=>h9 gg rfl (by
   obtain⟨_,k⟩:=iD h3 (i:=gg) rfl;exact absurd e (dK h1.out k (by decide)))
  have hE:(cX r e').ok:=by
   have:=Z5.up M.length e' hpos hnew;obtain⟨j2,d2,h2',am4,_,_,q3,q4,_,_⟩:=this;refine⟨?_,lJ _⟩;show(e'.h r.g).ok;rw[q3,Ar.lY];exact q4
  have hKA:Hid (∀(w':World),Bl w w'->aU 84 #[af ab,.agg (aS h),i_ now] w' fun e w''=>e=.returned (.tuple #[i_ ((ls.length:Nat):Int),i_ 0,i_ 0])/\k9 w'' (mD Fa w' w'') ab r (M++[e'])/\Kp Fa w' w''):=h_ (by rw[hls];exact KA);refine(IE b ab gg ls.length cc _ h ho now 0 (fun w' w''=>k9 w'' (mD Fa w' w'') ab r (M++[e'])/\Kp Fa w' w'') w KH hKA ls (by omega) (cX r e') hE e'.up (e'.hs.length:Nat) ((oR e'.hs.length:Nat):Int) y (h_ rfl) (h_ rfl) hne (h_ fun w' w'' hb hx=>?_) (h_ fun w' w'' hb hx w3 hb3=>?_) (h_ fun w'=>?_) (h_ fun w' w'' hb hx w3 hb3=>?_)).mono ?_
  ·have k0:Kp Fa w w'':=(Kp.of hb).trans hx.2 fun i hi _=>hi
   exact⟨k0.has h1 h8,aF h3 k0 h9⟩
  exact iq ((hX w' w'' hb hx).1.below hb3) hnew _ (by rw[hls]);have:=IZ (e'.hs.length:Nat) (by omega) (by omega) w';rwa[bU]at this
  refine GL ((hX w' w'' hb hx).1.below hb3) Z5 (by rw[aT];have:[e'].length=1:=rfl;omega) e'.up _ y (fun _=>by rw[heu];omega) (.inl ⟨by rw[heu];exact Ar.jn hd',by omega,?_⟩);rw[heu,bU];exact hy
  ·rintro e w' ⟨rfl,vx,v1,v2,v',q1,q2,q3,q4,q5,q6,q7⟩;obtain⟨u1,u2⟩:=hX vx v1 q1 q2;obtain⟨q2a,q2k⟩:=q2;have k0:Kp Fa w v1:=(Kp.of q1).trans q2k fun i hi _=>hi
   have k1:Kp Fa w v2:=k0.trans (Kp.of (F:=fun _=>False) q3) fun _ hi _=>hi.elim
   have hs1:=q1.size;have hs2:=q2k.size;have hs3:=q3.size;have hs4:=q4.size;have am5:=(dM h3 (i:=gg) rfl).1;have hA2:=q2a.below q3
   have hA3:k9 w' (mD Fa vx v1) ab r (M++[e']):=hA2.on q4 fun i hi hh=>by
    rcases hh with rfl|rfl
    exact hi.elim h8 (fun h=>by omega);exact hi.elim (h9 _ rfl) (fun h=>by omega)
   have kF:Kp F w w':=(k1.mono fun i hi _=>h6 i hi).trans q4 fun i hi _=>by
    rcases hi with rfl|rfl
    exact h5;exact h7 _ rfl
   refine⟨by rw[hls],⟨ls++[y],by rw[aT,aT,hls];rfl,pG hF kF.size,mD Fa vx v1,ab,v',q5,hA3,?_,ae9.put (by rw[hls,aT];exact Nat.lt_succ_self _) fun e0 he0 h0=>?_,.inl h5,fun i hi=>?_,fun i hi=>?_,fun hn=>?_,fun i hi hn=>?_⟩,kF⟩;rw[aT];exact q6;rw[hls]at he0|-;rw[hnew]at he0;obtain rfl:=Option.some.inj he0;have hup:=(Up.ahead Z5 hnew h0).1;rw[heu]at hup;exact hup.trans hy;exact hi.elim (fun h=>.inl (h6 i h)) (fun h=>.inr ⟨by omega,by omega⟩)
   ·rcases q7 with q7|⟨g',q7,q8⟩
    rw[q7]at hi;exact .inl (h7 i hi);rw[q7]at hi;have e1:g'=i:=Option.some.inj hi;have:=(dM q6 (i:=g') q7).1;exact .inr ⟨by omega,by omega⟩
   exact hn.elim h8 (fun h=>by omega)
   ·rcases q7 with q7|⟨g',q7,q8⟩
    rw[q7]at hi;have e1:gg=i:=Option.some.inj hi;exact hn.elim (h9 i hi) (fun h=>by omega)
    ·rw[q7]at hi;have e1:g'=i:=Option.some.inj hi;rcases hn with hn|hn
     have:=h2.1 i hn;omega;omega
open Ar (gS Deep Row ma)
structure ot (M:List av) (i j:Int) (L K:List Int) (k:Nat) (x y:Int):Prop where
 one:Row M i L
 two:Row M j K
 x:L[k]?=some x
 y:K[k]?=some y
 deep:Deep L K k
variable{i j x y:Int}
theorem ot.upx(h:ot M i j L K k x y):Up M i k x:=⟨L,h.one,h.x⟩
theorem ot.upy(h:ot M i j L K k x y):Up M j k y:=⟨K,h.two,h.y⟩
theorem Up.in_(hL:Row M i L){k:Nat}{x:Int}(h:Up M i k x):L[k]?=some x:=by obtain⟨K,h1,h2⟩:=h;rw[h1.V' hL]at h2;exact h2
theorem ot.pos(hM:Ok r M){n m:Nat}{d e:av}(hn:M[n]?=some d)(hm:M[m]?=some e){L K:List Int}{k:Nat}{x y:Int}(h:ot M (n:Int) (m:Int) L K k x y)(hne:x≠y):0<k:=by
 refine Nat.pos_of_ne_zero fun h0=>hne ?_
 subst h0;have h1:=h.x.symm.trans (h.one.first hM hn);have h2:=h.y.symm.trans (h.two.first hM hm);rw[Option.some.inj h1,Option.some.inj h2]
theorem ot.step{x' y':Int}(t:ot M i j L K k x y)(hx:Up M x (k-1) x')(hy:Up M y (k-1) y')(hne:x≠y):ot M i j L K (k-1) x' y':=by have h1:=Up.in_ t.one (t.upx.trans hx);have h2:=Up.in_ t.two (t.upy.trans hy);exact⟨t.one,t.two,h1,h2,fun n s q1 q2=>by have:=Deep.Zr t.one t.two t.x t.y hne n s q1 q2;omega⟩
end An
namespace An
open Mem Sc
open Ar (av Ru aN Ok dB fR)
theorem CF(p:NN.Pr)(hp:p.ok)(h1:p.one)(t:Tl)(tt:p.tl=t.C)(ht:t.ok)(gs:List Gt)(cs:List Ck)(hgn:t.gn=gs.length)(hcn:t.cn=cs.length)(hgl:t.gn<=1000)(hcl:t.cn<=1000)(room:Int)(hgood:na p t.g gs cs=true)(w:World)(hT:gj w)(hG:bc w t.ga gs)(hC:aI w t.ca cs):aU 70 #[.agg (NN.aV p),i_ room] w fun r w'=>∃b F,r=.returned (.tuple #[af b,i_ 0])/\jU w' F b ⟨p,t.g,gs,cs,fZ room⟩ [aN] [-1]/\(∀i,F i->w.heap.size<=i)/\Bl w w':=
 FP p hp room _ w (h_ fun w' hb=>Dy p hp h1 t tt ht gs cs hgn hcn hgl hcl room hgood w' (hT.below hb) (hG.below hb) (hC.below hb))
end An
namespace An
open Mem Sc
open Ar (av Ru aN Ok)
def Ds(t:Tl)(cs:List Ac):Bool:=cs.any (fun c=>decide (c.now<0))||decide (20<t.gn)||decide (20<t.cn)||decide (50<cs.length)
theorem IK(p:NN.Pr)(t:Tl)(tt:p.tl=t.C)(cs:List Ac)(n:Nat)(a:Option Addr)(c:Nat)(hn:n=cs.length)(hl:n<=4611686018427387904)(gn cn:Nat)(eg:t.gn=gn)(ec:t.cn=cn)(g1 g2 g3 gr g:Bool)(h1:decide ((20:Int)<(gn:Int))=g1)(h2:decide ((20:Int)<(cn:Int))=g2)(h3:decide ((50:Int)<(n:Int))=g3)(hg:(oF cs||g1||g2||g3||!gr)=g)(w:World)(KR:Hid (g1=false->g2=false->g3=false->∀w',Bl w w'->ar 37 #[.agg (NN.aV p)] w' (.bool gr)))(hp:p.ok)(hA:jY w a cs):ar 10 #[.agg (NN.aV p),.slice a n c] w (.bool g):=by
 have HN:=h_ hn;have HA:=h_ hA;have HG:=h_ hg;clear hn hA hg;go_enter Tryz.func10,Tryz.ntmps10;go_upto_region 1 with fail
 generalize hw0:World.alloc _ _=v0;have hB:Bl w v0:=eT hw0;have hP:NN.aK v0 w.heap.size p:=by rw[<-hw0];exact NN.Has.new _ _
 clear hw0;obtain⟨bP,VF⟩:∃x,x=w.heap.size:=⟨_,rfl⟩;rw[<-VF]at hP|-;clear VF;have H1:=h_ h1;have H2:=h_ h2;have H3:=h_ h3;clear h1 h2 h3;go_wp2_with fail
 go_loopw [9] (fun i wr=>∃k:Nat,k<=n/\i=i_ k/\Hid (oF cs=oF (cs.drop k))/\NN.aK wr bP p/\Bl w wr) (fun i _=>n-(intOf i).toNat)
 case atStart=>exact⟨0,by omega,rfl,h_ rfl,hP,hB⟩
 case round=>
  clear hP hB;obtain⟨k,hk,rfl,HZ,hP,hB⟩:=hrel;by_cases hlt:k<n
  ·obtain⟨ab,ao,hae,VR,hc⟩:=(HA.out.below hB) (by rw[<-HN.out];omega);subst hae;have hk2:k<cs.length:=by rw[<-HN.out];exact hlt
   have hd:cs.drop k=cs[k]::cs.drop (k+1):=mT hk2;obtain⟨q0,q1⟩:=hc k hk2;have hx:=HZ.out;rw[hd]at hx;clear hd HZ hc;generalize cs[k]=y at*;have HX:=h_ hx;clear hx hk2;have z1:=D1 q0;have z2:=n_ q0;have z0:=n_ (c:=PS) iC;have hb2:Bl wr ((wr.alloc (.cells Tryz.zeroCells39 39)).setRow wr.heap.size (eL y)):=below_setRow cu (au _) _;have hB2:=ai hB hb2;have hP2:=NN.aK.on hP hb2;have c0:=(CC wr y).now q0;have hnew:=ED wr;clear hB hb2 hP;cases t1:decide (y.now<0)
   ·have HZ2:Hid (oF cs=oF (cs.drop (k+1))):=h_ (by
     have e:oF (y::cs.drop (k+1))=(decide (y.now<0)||oF (cs.drop (k+1))):=rfl;rw[HX.out,e,t1,j6])
    clear HX;obtain⟨yn,hyn⟩:∃yn,yn=y.now:=⟨_,rfl⟩;rw[<-hyn]at c0 t1;clear hyn;(go_wp2_with (with_reducible first|refine DW rfl _ rfl ab (ao+k*72) rfl y q1 z1 ?_|refine Ek rfl _ _ rfl _ _ y rfl rfl rfl z2 hnew z0 ?_));go_roundw
    case rel=>exact⟨k+1,by omega,by go_num,HZ2,hP2,hB2⟩
    case measure=>simp[intOf];omega
   ·have oR:g=true:=by
     have e:oF (y::cs.drop (k+1))=(decide (y.now<0)||oF (cs.drop (k+1))):=rfl;rw[<-HG.out,HX.out,e,t1];simp
    subst oR;clear HX HG;obtain⟨yn,hyn⟩:∃yn,yn=y.now:=⟨_,rfl⟩;rw[<-hyn]at c0 t1;clear hyn;(go_wp2_with (with_reducible first|refine DW rfl _ rfl ab (ao+k*72) rfl y q1 z1 ?_|refine Ek rfl _ _ rfl _ _ y rfl rfl rfl z2 hnew z0 ?_));go_ret;exact⟨rfl,hB2⟩
  ·obtain rfl:k=n:=by omega
   have hg:(g1||g2||g3||!gr)=g:=by
    have:=HG.out;rw[HZ.out,HN.out,mE]at this;exact this
   have h1:=H1.out;have h2:=H2.out;have h3:=H3.out;clear HG HZ;have c5:=r8 hP tt;have c6:=sc hP tt;rw[eg]at c5;rw[ec]at c6;have hz:=NN.gT hp;generalize t.ga=ga at*;generalize t.gc=gc at*;generalize t.ca=ca at*;generalize t.cc=cc at*;have Z6:=h_ hg;clear eg ec hg H1 H2 H3;cases g1
   ·cases g2
    ·cases g3
     ·(go_wp2_with (with_reducible first|refine NN.fK rfl _ rfl _ rfl hP hz ?_|refine NN.jF (by with_unfolding_all rfl) _ rfl _ rfl hP hz ?_));refine az (KR.out (by simp) (by simp) (by simp) _ hB) fun v9 hb=>?_;replace hB:=ai hB hb;clear hb;cases gr
      all_goals
       (go_wp2_with fail);go_ret;exact⟨by rw[<-Z6.out];rfl,hB⟩
     ·(go_wp2_with fail);go_ret;exact⟨by rw[<-Z6.out];rfl,hB⟩
    ·(go_wp2_with fail);go_ret;exact⟨by rw[<-Z6.out];rfl,hB⟩
   ·(go_wp2_with fail);go_ret;exact⟨by rw[<-Z6.out];rfl,hB⟩
def rK(p:NN.Pr)(t:Tl)(gs:List Gt)(ks:List Ck)(cs:List Ac):Bool:=Ds t cs||!na p t.g gs ks
theorem Kk(p:NN.Pr)(hp:p.ok)(t:Tl)(tt:p.tl=t.C)(ht:t.ok)(gs:List Gt)(ks:List Ck)(hgn:t.gn=gs.length)(hcn:t.cn=ks.length)(cs:List Ac)(n:Nat)(a:Option Addr)(c:Nat)(hn:n=cs.length)(hl:n<=4611686018427387904)(g:Bool)(hg:rK p t gs ks cs=g)(w:World)(hA:jY w a cs)(hG:bc w t.ga gs)(hC:aI w t.ca ks):ar 10 #[.agg (NN.aV p),.slice a n c] w (.bool g):=by
 refine IK p t tt cs n a c hn hl t.gn t.cn rfl rfl _ _ _ (na p t.g gs ks) g rfl rfl rfl ?_ w (h_ fun h1 h2 _ w' hb=>?_) hp hA
 ·rw[<-hg,hn];unfold rK Ds oF;congr 1;congr 1
  ·congr 1
   ·congr 1;exact decide_eq_decide.2 (by omega)
   exact decide_eq_decide.2 (by omega)
  exact decide_eq_decide.2 (by omega)
 have:=fc h1;have:=fc h2;exact Tk p hp t tt ht gs ks hgn hcn (by omega) (by omega) w' (hG.below hb) (hC.below hb)
