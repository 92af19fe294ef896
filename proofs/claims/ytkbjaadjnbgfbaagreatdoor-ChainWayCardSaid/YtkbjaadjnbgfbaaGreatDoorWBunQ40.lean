import Derived.Test.YtkbjaadjnbgfbaaGreatDoorWBunQ39
set_option maxRecDepth 100000
set_option maxHeartbeats 4000000
namespace Go.Proofs.YtkbjaadjnbgfbaaGreatDoor.An
open Go.RowKit Mem Sc
open Ar (Ent Ru entZ Ok Lp hgt clr Up isP IsAn)
def AtIs (w:World) (tp:Value) (r:Ru) (M:List Ent):Prop:=∀ w',Bl w w'->∀ (k:Int),(∃(n:Nat) (e:Ent),k=(n:Int)/\M[n]?=some e/\(enOf r e).ok/\Ca_ 29 #[tp,i_ k] w' (.tuple #[.agg (enA (enOf r e)),.bool true]))\/(¬isP M k/\Ca_ 29 #[tp,i_ k] w' (.tuple #[.agg (enA enN),.bool false]))
def LeapsAt (w:World) (b g n c:Nat) (ls:List Int):Prop:=w.cell? ⟨b,1,none⟩=some (.slice (sp_ g) n c)/\∀ (k:Nat) (x:Int),ls[k]?=some x->w.cell? ⟨g,k,none⟩=some (i_ x)
variable {w w1:World} {r:Ru} {M:List Ent}
theorem AtIs.below {tp:Value} (h:AtIs w tp r M) (hb:Bl w w1):AtIs w1 tp r M:=fun w' hb'=>h w' (tb_ hb hb')
variable {b n:Nat} {ls:List Int}
theorem LeapsAt.below {g c:Nat} (h:LeapsAt w b g n c ls) (hb:Bl w w1):LeapsAt w1 b g n c ls :=
 ⟨(hb.cell (block_lt_of_cell h.1)).trans h.1,fun k x hk=>(hb.cell (block_lt_of_cell (h.2 k x hk))).trans (h.2 k x hk)⟩
variable {F:Nat->Prop}
theorem TrS.atis (h:TrS w F b r M ls):AtIs w (pp_ b) r M:=fun w' hb k=>by
 by_cases hk:isP M k;obtain ⟨n,e,rfl,he⟩:=hk.is;refine .inl ⟨n,e,rfl,he,?_,tat_at (h.below hb) he _ rfl⟩;obtain ⟨Fa,ab,_,k2⟩:=h.parts;exact qcz_ k2 he;exact .inr ⟨hk,qlh_ (h.below hb) k hk⟩
theorem TrS.leaps (h:TrS w F b r M ls) (h0:0<ls.length):∃ g c,LeapsAt w b g ls.length c ls:=by
 obtain ⟨hl,Fa,ab,lv,h1,h2,h3,h4,h5,h6,h7,h8,h9⟩:=h;obtain ⟨g,c,rfl,_⟩:=qfh_ h3 (k:=0) (x:=ls[0]) (List.getElem?_eq_getElem h0);refine ⟨g,c,Has.cell h1 1,fun k x hk=>?_⟩;obtain ⟨g2,c2,e,hc⟩:=qfh_ h3 hk;cases e;exact hc
theorem TrS.lp (h:TrS w F b r M ls):Lp M ls:=by
 obtain ⟨hl,Fa,ab,lv,h1,h2,h3,h4,_⟩:=h;exact h4
theorem ahead_w (tp:Value) (k:Int) (E:En) (hE:E.ok) (z:Int) (hz:Hid (E.up=z)) (g:Bool) (w:World) (KA:HK_ w 29 #[tp,i_ k] (.tuple #[.agg (enA E),.bool g])) :
  Ca_ 91 #[tp,i_ k] w (i_ z):=by
 have ze:=qm_ hE;have z0:=qm_ enZ_ok;have hB:=Below.refl w.heap.size w;go_enter Tryz.func91,Tryz.ntmps91;go_wp2_with fail
 refine (KA.out _ hB).mono ?_;rintro x v1 ⟨rfl,hb⟩;replace hB:=tb_ hB hb;clear hb;have hnew:=qbm_ v1;have hE1:=qcs_ v1 E;have hb3:=qbp_ v1 60 Tryz.zeroCells60 (enA E);go_upto_region 2 with (with_reducible refine qba_ rfl _ _ rfl _ _ E rfl rfl rfl ze hnew z0 ?_)
 generalize World.setRow _ _ _=v2 at *;replace hB:=tb_ hB hb3;have c1:=EnAt.up hE1 hE hz;clear hb3 hnew;go_wp2_with fail
 go_ret;exact ⟨rfl,hB⟩
theorem anc_no (tp:Value) (k h:Int) (E:En) (hE:E.ok) (t:Int) (ht:Hid (E.ht=t)) (g a b:Bool) (ha:decide (h<0)=a) (hb:decide (t<h)=b) (hno:(!g || a || b)=true) (w:World) (KA:HK_ w 29 #[tp,i_ k] (.tuple #[.agg (enA E),.bool g])) :
  Ca_ 69 #[tp,i_ k,i_ h] w (i_ (-1)):=by
 have ze:=qm_ hE;have z0:=qm_ enZ_ok;have hB:=Below.refl w.heap.size w;go_enter Tryz.func69,Tryz.ntmps69;go_wp2_with fail
 refine (KA.out _ hB).mono ?_;rintro x v1 ⟨rfl,hb⟩;replace hB:=tb_ hB hb;clear hb;have hnew:=qbm_ v1;have hE1:=qcs_ v1 E;have hb3:=qbp_ v1 60 Tryz.zeroCells60 (enA E);go_upto_region 2 with (with_reducible refine qba_ rfl _ _ rfl _ _ E rfl rfl rfl ze hnew z0 ?_)
 generalize World.setRow _ _ _=v2 at *;replace hB:=tb_ hB hb3;have c1:=EnAt.ht hE1 hE ht;clear hb3 hnew;cases g <;> cases a <;> cases b
 case true.false.false=>cases hno
 all_goals
  clear hno;go_wp2_with fail
  go_ret;exact ⟨rfl,hB⟩
theorem up_lt (hM:Ok r M) {n:Nat} {e:Ent} {h:Nat} {z:Int} (he:M[n]?=some e) (k:Up M (n:Int) h z) (hh:h<e.hs.length):0<=z/\z<(n:Int):=by
 obtain ⟨L,h1,h2⟩:=k;have q:=(h1.up hM).2 z (List.mem_of_getElem? h2);refine ⟨q.1,?_⟩;have h3:=h1.last;have h4:=h1.len hM he;have hlt:h<L.length - 1:=by omega
 obtain ⟨u1,u2⟩:=List.getElem?_eq_some_iff.1 h2;obtain ⟨v1,v2⟩:=List.getElem?_eq_some_iff.1 h3.2;have:=List.pairwise_iff_getElem.1 (h1.up hM).1 _ _ u1 v1 hlt;omega
structure Way (r:Ru) (M:List Ent) (i:Int) (t n:Nat) (E:En) (k:Nat):Prop where
 ok:E.ok
 ht:E.ht=(k:Int)
 low:t<=k
 ex:∃ e,M[n]?=some e/\E=enOf r e/\e.hs.length=k/\Up M i k (n:Int)
theorem Way.next {i:Int} {t:Nat} {E:En} {k:Nat} (hM:Ok r M) (h:Way r M i t n E k) {j:Nat} {z:Int} (hz:∀ e,M[n]?=some e->e.hs.length=k->Up M (n:Int) j z) (hj:j<k) (hj2:t<=j) (hE:∀ (m:Nat) (e:Ent),M[m]?=some e->(enOf r e).ok) :
  ∃ (m:Nat) (e:Ent),z=(m:Int)/\m<n/\M[m]?=some e/\Way r M i t m (enOf r e) j:=by
 obtain ⟨e,h1,h2,h3,h4⟩:=h.ex;have q:=hz e h1 h3;obtain ⟨m,d,rfl,hd,hl⟩:=q.place hM;have:=up_lt hM h1 q (by omega);exact ⟨m,d,rfl,by omega,hd,hE m d hd,by rw[<-hl];rfl,hj2,d,hd,rfl,hl,h4.trans q⟩
theorem qaiy_ (b g nn c:Nat) (ls:List Int) (r:Ru) (M:List Ent) (hM:Ok r M) (hl:Lp M ls) (hn:nn=ls.length) (hl9:M.length<=900) (i:Nat) (hi:i<ls.length) (e:Ent) (he:M[i]?=some e) (t:Nat) (ht:t<=e.hs.length) (w:World)
  (KA:Hid (AtIs w (pp_ b) r M)) (KL:Hid (LeapsAt w b g nn c ls)) :
  Cl_ 69 #[pp_ b,i_ i,i_ t] w fun x w'=>∃ z,x = .returned (i_ z)/\Up M (i:Int) t z/\Bl w w':=by
 have KAT:∀ (n:Nat) (e:Ent),M[n]?=some e->HK_ w 29 #[pp_ b,i_ n] (.tuple #[.agg (enA (enOf r e)),.bool true]):=fun n e he=>h_ fun w' hb=>by
  rcases KA.out w' hb (n:Int) with ⟨m,d,h1,h2,_,h3⟩|⟨h1,_⟩
  ·obtain rfl:n=m:=by omega
   rw[he] at h2;cases h2;exact h3
  exact absurd (Ar.isP_of he) h1
 have HOK:Hid (∀(n:Nat) (e:Ent),M[n]?=some e->(enOf r e).ok):=h_ fun n e he=>by
  rcases KA.out w br_ (n:Int) with ⟨m,d,h1,h2,h3,_⟩|⟨h1,_⟩
  ·obtain rfl:n=m:=by omega
   rw[he] at h2;cases h2;exact h3
  exact absurd (Ar.isP_of he) h1
 have hc:=hM.chain i e he;have hiM:=(List.getElem?_eq_some_iff.1 he).1;have KA1:=KAT i e he;have hW:Hid (Way r M (i:Int) t i (enOf r e) e.hs.length):=h_ ⟨HOK.out i e he,rfl,ht,e,he,rfl,rfl,Up.self hM he⟩;have hE:=HOK.out i e he;have z0:=qm_ enZ_ok;have hB:=Below.refl w.heap.size w;obtain ⟨k,hk⟩:∃ k,k=e.hs.length:=⟨_,rfl⟩;obtain ⟨E,hEe⟩:∃ E,E=enOf r e:=⟨_,rfl⟩;have HT:Hid (E.ht=(k:Int)):=h_ (by rw[hEe,hk];rfl);rw[<-hk] at ht hc;rw[<-hEe] at KA1 hE hW;rw[<-hk] at hW;have hk9:k<=900:=by omega
 clear he hEe hk KA;have HN:=h_ hn;have HI:=h_ hi;clear hn hi hc;have ze:=qm_ hE;have t1:decide ((t:Int)<0)=false:=decide_eq_false (by omega);have t2:¬k<t:=by omega
 clear ht;go_enter Tryz.func69,Tryz.ntmps69;go_wp2_with fail
 refine (KA1.out _ hB).mono ?_;rintro x v1 ⟨rfl,hb⟩;replace hB:=tb_ hB hb;clear hb;have hnew:=qbm_ v1;have hE1:=qcs_ v1 E;have hb3:=qbp_ v1 60 Tryz.zeroCells60 (enA E);go_upto_region 2 with (with_reducible refine qba_ rfl _ _ rfl _ _ E rfl rfl rfl ze hnew z0 ?_)
 generalize World.setRow _ _ _=v2 at *;obtain ⟨bX,hbX⟩:∃ x,x=v1.heap.size:=⟨_,rfl⟩;rw[<-hbX] at hE1 |-;have HBX:Hid (w.heap.size<=bX):=h_ (by have:=hB.size;omega);replace hB:=tb_ hB hb3;have c1:=EnAt.ht hE1 hE HT;clear hb3 hnew hbX KA1;go_wp2_with fail
 clear c1 t1 t2;go_loopw [1] (fun v wr=>∃ (n:Nat) (E:En) (k:Nat),v = i_ n/\k<=900/\EnAt wr bX E/\Hid (n<=i/\Way r M (i:Int) t n E k)/\Bl w wr) (fun v _=>(intOf v).toNat)
 case atStart=>exact ⟨i,E,k,rfl,hk9,hE1,h_ ⟨Nat.le_refl _,hW.out⟩,hB⟩
 case round=>
  clear hE1 hB hW HT ze hE hk9;obtain ⟨n,E,k,rfl,hk9,hE1,HW,hB⟩:=hrel;have c1:=EnAt.ht hE1 HW.out.2.ok (h_ HW.out.2.ht);have ze:=qm_ HW.out.2.ok;by_cases hlt:t<k
  ·have hN:Hid (n<ls.length):=h_ (by have:=HI.out;have:=HW.out.1;omega);have KH:=h_ fun w'=>qpo_ (k:Int) (by omega) (by omega) w'
   rw[Int.toNat_natCast] at KH;have hlt2:=Ar.hgt_lt (h:=k) (by omega);by_cases hge:t<=hgt k
   ·obtain ⟨x,hx⟩:∃ x,ls[n]?=some x:=⟨_,List.getElem?_eq_getElem hN.out⟩;obtain ⟨m,d,rfl,hmn,hd,hW2⟩:=HW.out.2.next hM (z:=x) (j:=hgt k) (fun e he hek=>by have:=hl.to_ n e x he hx (by omega);rwa [hek] at this) hlt2 hge HOK.out;have HW2:Hid (m<=i/\Way r M (i:Int) t m (enOf r d) (hgt k)):=h_ ⟨by have:=HW.out.1;omega,hW2⟩;have HX:=h_ hx;have hnn:n<nn:=(by rw[HN.out];exact hN.out);have KA2:=KAT m d hd;have hE2:=HOK.out m d hd;clear hW2 hx hd HW;generalize enOf r d=E2 at *;have z2:=qm_ hE2;(go_wp2_with fail);refine (KH.out _).mono ?_;rintro x v3 ⟨rfl,hb⟩;replace hE1:=hE1.on hb;replace hB:=tb_ hB hb;have hL1:=KL.out.below hB;obtain ⟨l1,l2⟩:=hL1;have l3:=l2 n _ HX.out;have c2:=EnAt.ht hE1;clear hb l2 KH c2;(go_wp2_with fail);refine (KA2.out _ hB).mono ?_;rintro x v4 ⟨rfl,hb⟩;replace hE1:=hE1.on hb;replace hB:=tb_ hB hb;clear hb l1 l3 KA2;(go_wp2_with (with_reducible refine qba_ rfl _ _ rfl _ _ E2 rfl rfl rfl z2 hE1 ze ?_));have hE3:EnAt _ bX E2:=Has.row hE1 (enA E2);have hB3:=below_setRow hB HBX.out (enA E2);generalize World.setRow _ _ _=v5 at *;simp only[Act.put];go_roundw
    case rel=>exact ⟨m,E2,hgt k,rfl,by omega,hE3,HW2,hB3⟩
    case measure=>simp[intOf];omega
   ·have hup:Hid (∃(m:Nat) (e:Ent),E.up=(m:Int)/\m<n/\M[m]?=some e/\Way r M (i:Int) t m (enOf r e) (k - 1)):=h_ (by
     obtain ⟨e,h1,h2,h3,h4⟩:=HW.out.2.ex;have:=HW.out.2.next hM (z:=e.up) (j:=k - 1) (fun d hd hdk=>by rw[h1] at hd;cases hd;have:=(Up.ahead hM h1 (by omega)).1;rwa [h3] at this) (by omega) (by omega) HOK.out;rw[h2];exact this)
    obtain ⟨m,d,hu,hmn,hd,hW2⟩:=hup.out;have HU:=h_ hu;have HW2:Hid (m<=i/\Way r M (i:Int) t m (enOf r d) (k - 1)):=h_ ⟨by have:=HW.out.1;omega,hW2⟩;have KA2:=KAT m d hd;have hE2:=HOK.out m d hd;have HEok:=h_ HW.out.2.ok;clear hW2 hd HW hup hu;generalize enOf r d=E2 at *;have z2:=qm_ hE2;(go_wp2_with fail);refine (KH.out _).mono ?_;rintro x v3 ⟨rfl,hb⟩;replace hE1:=hE1.on hb;replace hB:=tb_ hB hb;have c2:=EnAt.up hE1 HEok.out HU;clear hb KH;(go_wp2_with fail);refine (KA2.out _ hB).mono ?_;rintro x v4 ⟨rfl,hb⟩;replace hE1:=hE1.on hb;replace hB:=tb_ hB hb;clear hb c2 KA2;(go_wp2_with (with_reducible refine qba_ rfl _ _ rfl _ _ E2 rfl rfl rfl z2 hE1 ze ?_));have hE3:EnAt _ bX E2:=Has.row hE1 (enA E2);have hB3:=below_setRow hB HBX.out (enA E2);generalize World.setRow _ _ _=v5 at *;simp only[Act.put];go_roundw
    case rel=>exact ⟨m,E2,k - 1,rfl,by omega,hE3,HW2,hB3⟩
    case measure=>simp[intOf];omega
  ·have hup:Hid (Up M (i:Int) t (n:Int)):=h_ (by
    obtain ⟨e,h1,h2,h3,h4⟩:=HW.out.2.ex;have:=HW.out.2.low;obtain rfl:k=t:=(by omega);exact h4)
   clear HW ze;go_wp2_with fail
   go_ret;exact ⟨_,rfl,hup.out,hB⟩
theorem qdy_ (h:TrS w F b r M ls) (hM:Ok r M) (hl9:M.length<=900) (i t z:Int) (hi:isP M i->i<(ls.length:Int)) (hz:IsAn M i t z) :
  Ca_ 69 #[pp_ b,i_ i,i_ t] w (i_ z):=by
 have hA:=h.atis;by_cases hp:isP M i
 ·obtain ⟨n,e,rfl,he⟩:=hp.is;have hn:=hi hp
  have hE:(enOf r e).ok/\∀ w',Bl w w'->Ca_ 29 #[pp_ b,i_ n] w' (.tuple #[.agg (enA (enOf r e)),.bool true]):=by
   obtain ⟨Fa,ab,_,k2⟩:=h.parts;exact ⟨qcz_ k2 he,fun w' hb=>tat_at (h.below hb) he _ rfl⟩
  by_cases hlow:t<0\/(e.hs.length:Int)<t;have ez:z = -1:=hlow.elim (fun hh=>hz.no (.inr hh)) (fun hh=>hz.high hM he hh);subst ez;exact anc_no _ (n:Int) t (enOf r e) hE.1 (e.hs.length:Nat) (h_ rfl) true _ _ rfl rfl (by simp only[Bool.not_true,Bool.false_or,Bool.or_eq_true,decide_eq_true_eq];exact hlow) w (h_ hE.2);obtain ⟨tn,rfl⟩:=Int.eq_ofNat_of_zero_le (by omega:0<=t);obtain ⟨g,c,hL⟩:=h.leaps (by omega);refine (qaiy_ b g ls.length c ls r M hM h.lp rfl hl9 n (by omega) e he tn (by omega) w (h_ hA) (h_ hL)).mono ?_;rintro x w' ⟨z',rfl,hu,hb⟩;have:=hz.up hM he (by omega) (by omega);rw[Int.toNat_natCast] at this;rw[hu.det this];exact ⟨rfl,hb⟩
 ·have ez:=hz.no (.inl hp);subst ez;have hE:∀ w',Bl w w'->Ca_ 29 #[pp_ b,i_ i] w' (.tuple #[.agg (enA enN),.bool false]):=fun w' hb=>qlh_ (h.below hb) i hp
  exact anc_no _ i t enN enN_ok 0 (h_ rfl) false _ _ rfl rfl rfl w (h_ hE)
theorem qwn_ (h:TrS w F b r M ls) {n:Nat} {e:Ent} (he:M[n]?=some e) :
  Ca_ 91 #[pp_ b,i_ n] w (i_ e.up):=by
 obtain ⟨Fa,ab,_,k2⟩:=h.parts;exact ahead_w _ (n:Int) (enOf r e) (qcz_ k2 he) e.up (h_ rfl) true w (h_ fun w' hb=>tat_at (h.below hb) he _ rfl)
theorem qwo_ (tp:Value) (k i:Int) (E:En) (hE:E.ok) (t z:Int) (ht:Hid (E.ht=t)) (g g2:Bool) (hg:(z==k)=g2) (w:World) (KA:HK_ w 29 #[tp,i_ k] (.tuple #[.agg (enA E),.bool g]))
  (KN:HB_ w fun w'=>g=true->Ca_ 69 #[tp,i_ i,i_ t] w' (i_ z)) :
  Ca_ 35 #[tp,i_ k,i_ i] w (.bool (g && g2)):=by
 have ze:=qm_ hE;have z0:=qm_ enZ_ok;have hB:=Below.refl w.heap.size w;go_enter Tryz.func35,Tryz.ntmps35;go_wp2_with fail
 refine (KA.out _ hB).mono ?_;rintro x v1 ⟨rfl,hb⟩;replace hB:=tb_ hB hb;clear hb;have hnew:=qbm_ v1;have hE1:=qcs_ v1 E;have hb3:=qbp_ v1 60 Tryz.zeroCells60 (enA E);go_upto_region 2 with (with_reducible refine qba_ rfl _ _ rfl _ _ E rfl rfl rfl ze hnew z0 ?_)
 generalize World.setRow _ _ _=v2 at *;replace hB:=tb_ hB hb3;have c1:=EnAt.ht hE1 hE ht;clear hb3 hnew;cases g
 ·go_wp2_with fail
  go_ret;exact ⟨rfl,hB⟩
 ·go_wp2_with fail
  refine (KN.out _ hB (by simp)).mono ?_;rintro x v3 ⟨rfl,hb⟩;replace hB:=tb_ hB hb;clear hb;go_wp2_with fail
  go_ret;exact ⟨by cases g2 <;> rfl,hB⟩
theorem qpq_ (h:TrS w F b r M ls) (hM:Ok r M) (hl9:M.length<=900) (hl:ls.length=M.length) (k i:Int) (g:Bool) (hg:g=true ↔ Ar.Anc M k i) :
  Ca_ 35 #[pp_ b,i_ k,i_ i] w (.bool g):=by
 by_cases hp:isP M k
 ·obtain ⟨n,e,rfl,he⟩:=hp.is;obtain ⟨z,hz⟩:=IsAn.ex M i (e.hs.length:Int)
  have hE:(enOf r e).ok/\∀ w',Bl w w'->Ca_ 29 #[pp_ b,i_ n] w' (.tuple #[.agg (enA (enOf r e)),.bool true]):=by
   obtain ⟨Fa,ab,_,k2⟩:=h.parts;exact ⟨qcz_ k2 he,fun w' hb=>tat_at (h.below hb) he _ rfl⟩
  have:=qwo_ _ (n:Int) i (enOf r e) hE.1 (e.hs.length:Nat) z (h_ rfl) true (z==(n:Int)) rfl w (h_ hE.2) (h_ fun w' hb _=>qdy_ (h.below hb) hM hl9 i _ z (fun hq=>by rw[hl];exact hq.2) hz)
  have eg:(true && z==(n:Int))=g:=by
   have h1:=Ar.qzw_ hM he hz;have h2:(z==(n:Int))=true ↔ g=true:=by rw[beq_iff_eq,hg,<-h1];exact ⟨fun h=>h.symm,fun h=>h.symm⟩
   rw[Bool.true_and];exact Bool.eq_iff_iff.2 h2
  rw[eg] at this;exact this
 ·have eg:g=false:=by
   cases g;rfl;exact absurd (by have:=(hg.1 rfl).le hM;exact ⟨this.1,this.2.2⟩) hp
  subst eg;exact qwo_ _ k i enN enN_ok 0 0 (h_ rfl) false (0==k) rfl w (h_ fun w' hb=>qlh_ (h.below hb) k hp) (h_ fun _ _ h=>by cases h)
end Go.Proofs.YtkbjaadjnbgfbaaGreatDoor.An
namespace Go.Proofs.YtkbjaadjnbgfbaaGreatDoor.An
open Go.RowKit Mem Sc
open Ar (Ent Ru entZ Ok isP)
theorem qnl_ {w:World} {ops:Array Oper} {rest:List Oper} {o:Oper} {a:Act} {Q:Exit->Act->World->Prop} (hgd:o.guard=none) (x:Operand) (ho:o.op = .load 26 x) (g off:Nat) (hx:a.eval x = .pointer (some ⟨g,off,none⟩)) (z:Nat) (hg:w.rangeAt g off (NN.numC z).toList)
  (hk:wpList Tryz.prog ops Q rest (a.put o.dst (.agg (NN.numC z))) w):wpList Tryz.prog ops Q (o :: rest) a w :=
 wpList_load_mid hgd 26 x ho g off hx (NN.numC z).toList _ hg Tryz.underlying26 rfl (NN.infoNum.trans (by rw[Array.length_toList,NN.qau_])) hk
theorem rwork_w (b g n c j z:Nat) (hj:j<n) (w:World) (hv:w.cell? ⟨b,86,none⟩=some (.slice (sp_ g) n c)) (hr:w.rangeAt g (j*4) (NN.numC z).toList) :
  Ca_ 101 #[pp_ b,i_ j] w (.agg (NN.numC z)):=by
 go_enter Tryz.func101,Tryz.ntmps101;go_upto_region 1 with fail
 generalize hw0:World.alloc _ _=v0;have hR:NN.Has v0 w.heap.size (NN.numC 0) 26:=by rw[<-hw0];exact NN.Has.newz _
 have bj:Bl w v0:=bl_ hw0;clear hw0;have c1:=(bj.cell (p:=⟨b,86,none⟩) (block_lt_of_cell hv)).trans hv;have r1:=qam_ hr bj (by rw[Array.length_toList,NN.qau_];decide);clear hv hr;go_wp2_with (with_reducible first|refine qnl_ rfl _ rfl g (j*4) rfl z r1 ?_|refine NN.qc_ rfl _ _ rfl _ _ rfl rfl _ hR rfl ?_)
 exact bodyPost_ret (v:=.agg (NN.numC z)) (NN.qi_ Tryz.results101 _ _ _ rfl (hR.row _)) rfl ⟨rfl,below_setRow bj (Nat.le_refl _) _⟩
theorem qwp_ (bm x y zx zy:Nat) (w:World) (KX:HK_ w 101 #[pp_ bm,i_ x] (.agg (NN.numC zx))) (KY:HK_ w 101 #[pp_ bm,i_ y] (.agg (NN.numC zy))) (g1 g2 g3:Bool) (KL:HG_ 102 #[.agg (NN.numC zy),.agg (NN.numC zx)] (.bool g1)) (hq:∀ w',(binOp .eql 26 (.agg (NN.numC zx)) (.agg (NN.numC zy))).run Tryz.prog w' = .ok (.bool g2) w') (h3:decide (x<y)=g3) :
  Ca_ 62 #[pp_ bm,i_ x,i_ y] w (.bool (g1 || (g2 && g3))):=by
 have bj:=Below.refl w.heap.size w;have h3':decide ((x:Int)<(y:Int))=g3:=by rw[<-h3];exact decide_eq_decide.2 (by omega)
 go_enter Tryz.func62,Tryz.ntmps62;go_wp2_with (first|fail)
 refine (KX.out _ bj).mono ?_;rintro e v1 ⟨rfl,hb1⟩;replace bj:=tb_ bj hb1;clear hb1;go_upto_region 2 with (first|(with_reducible refine NN.qc_ rfl _ _ rfl _ _ rfl rfl _ (NN.Has.newz _) rfl ?_))
 generalize hw2:World.setRow _ _ _=v2;have hb2:Bl v1 v2:=bw_ hw2;have h7:NN.Has v2 v1.heap.size (NN.numC zx) 26:=by rw[<-hw2];exact (NN.Has.newz _).row _
 replace bj:=tb_ bj hb2;clear hw2 hb2;obtain ⟨b_h7,e_h7⟩:∃ x,x=v1.heap.size:=⟨_,rfl⟩;rw[<-e_h7] at h7 |-;clear e_h7;go_wp2_with (with_reducible first|refine NN.qb_ rfl _ rfl _ rfl _ h7 rfl ?_|refine NN.qf_ (by with_unfolding_all rfl) _ rfl _ rfl _ h7 rfl ?_)
 refine (KY.out _ bj).mono ?_;rintro e v3 ⟨rfl,hb3⟩;replace h7:=NN.Has.on h7 hb3;replace bj:=tb_ bj hb3;clear hb3;go_upto_region 3 with (with_reducible first|refine NN.qb_ rfl _ rfl _ rfl _ h7 rfl ?_|refine NN.qf_ (by with_unfolding_all rfl) _ rfl _ rfl _ h7 rfl ?_|refine NN.qc_ rfl _ _ rfl _ _ rfl rfl _ (NN.Has.newz _) rfl ?_)
 generalize hw4:World.setRow _ _ _=v4;have hb4:Bl v3 v4:=bw_ hw4;have h8:NN.Has v4 v3.heap.size (NN.numC zy) 26:=by rw[<-hw4];exact (NN.Has.newz _).row _
 replace h7:=NN.Has.on h7 hb4;replace bj:=tb_ bj hb4;clear hw4 hb4;obtain ⟨b_h8,e_h8⟩:∃ x,x=v3.heap.size:=⟨_,rfl⟩;rw[<-e_h8] at h8 |-;clear e_h8;go_wp2_with (with_reducible first|refine NN.qb_ rfl _ rfl _ rfl _ (by assumption) rfl ?_|refine NN.qf_ (by with_unfolding_all rfl) _ rfl _ rfl _ (by assumption) rfl ?_)
 refine (KL.out _).mono ?_;rintro e v5 ⟨rfl,hb5⟩;replace h7:=NN.Has.on h7 hb5;replace h8:=NN.Has.on h8 hb5;replace bj:=tb_ bj hb5;clear hb5;clear KX KY KL;cases g1
 case true=>
  go_wp2_with fail
  go_ret;exact ⟨rfl,bj⟩
 case false=>
  cases g2
  case false=>
   go_wp2_with (with_reducible first|refine NN.qb_ rfl _ rfl _ rfl _ (by assumption) rfl ?_|refine NN.qf_ (by with_unfolding_all rfl) _ rfl _ rfl _ (by assumption) rfl ?_)
   go_ret;exact ⟨rfl,bj⟩
  case true=>
   go_wp2_with (with_reducible first|refine NN.qb_ rfl _ rfl _ rfl _ (by assumption) rfl ?_|refine NN.qf_ (by with_unfolding_all rfl) _ rfl _ rfl _ (by assumption) rfl ?_)
   go_ret;exact ⟨by first|rfl|(rw[<-h3];simp)|simp[h3],bj⟩
section
variable {w:World} {B:Nat} {F:Nat->Prop} {bm:Nat} {r:Ru} {M:List Ent}
theorem qjc_ (h:RfS w B F bm r M) {j:Nat} {e:Ent} (he:M[j]?=some e):Ca_ 101 #[pp_ bm,i_ j] w (.agg (NN.numC (wkOf r e.hs))):=by
 obtain ⟨_,_,_,p,t,vH,vI,vA,vW,ws,h3,_,h5,_⟩:=h;have rW:=h3.rowW;have hz:ws[j]?=some (wkOf r e.hs):=by rw[h5,List.getElem?_map,he];rfl
 have hj:=(List.getElem?_eq_some_iff.1 hz).1;obtain ⟨gW,cW,rfl⟩:=qbv_ rW (by omega);obtain ⟨A,C,e1,hA⟩:=qen_ (fun z=>(NN.numC z).toList) 4 ws (fun z _=>by rw[Array.length_toList,NN.qau_]) j _ hz;rw[e1] at rW;obtain ⟨g,c,e2,e3⟩:=row_at rW (by omega);rw[hA] at e3;cases e2;exact rwork_w bm gW ws.length cW j _ hj w (rf86 h3.has h3.pok) e3
theorem qrm_ (h:RfS w B F bm r M) {x y:Nat} (hx:x<M.length) (hy:y<M.length):Ca_ 62 #[pp_ bm,i_ x,i_ y] w (.bool (Hv r M x y)):=by
 have ex:=List.getElem?_eq_getElem hx;have ey:=List.getElem?_eq_getElem hy;have lx:=qkz_ r (M[x]).hs;have ly:=qkz_ r (M[y]).hs;have:=qwp_ bm x y _ _ w (h_ fun w' hb=>qjc_ (h.below hb) ex) (h_ fun w' hb=>qjc_ (h.below hb) ey) _ _ _ (h_ fun w'=>NN.qee_ _ _ ly lx w') (fun w'=>NN.qkh_ lx ly w') rfl
 have e:Hv r M x y=(decide (wkOf r (M[y]).hs<wkOf r (M[x]).hs) || (decide (wkOf r (M[x]).hs=wkOf r (M[y]).hs) && decide (x<y))):=by
  unfold Hv Tp.byW;rw[wtM_at ex,wtM_at ey];rfl
 rw[e];exact this
end
end Go.Proofs.YtkbjaadjnbgfbaaGreatDoor.An
namespace Go.Proofs.YtkbjaadjnbgfbaaGreatDoor.An
open Go.RowKit Mem Sc
open Ar (Ent Ru entZ Ok)
structure Ac where
 kind:Int
 h:Hd
 now:Int
 n:Int
 rt:Bool
def acC (c:Ac):List Value:=i_ c.kind :: (hdC c.h ++ [i_ c.now,i_ c.n,.bool c.rt])
def acA (c:Ac):Array Value:=(acC c).toArray
def acZ:Ac:=⟨0,hdZ,0,0,false⟩
variable {c:Ac}
theorem qhe_ (h:c.h.ok):(acC c).length=72:=by simp[acC,qh_ h]
theorem qck_ (h:c.h.ok):(acA c).size=72:=by show (acC c).toArray.size=72;rw[List.size_toArray];exact qhe_ h
theorem acC_one (c:Ac):∀ v ∈ acC c,v.oneCell'=true:=fun v hv=>by
 rcases List.mem_cons.1 hv with rfl|hv
 rfl
 ·rcases List.mem_append.1 hv with h|h
  exact qhu_ _ v h
  ·rcases List.mem_cons.1 h with rfl|h
   rfl
   ·rcases List.mem_cons.1 h with rfl|h
    rfl;obtain rfl:v = .bool c.rt:=(by simpa using h);rfl
theorem acinfo:(Tryz.prog.info? 39).map (·.size)=some 72:=by kernel_rfl
def AcAt (w:World) (k:Nat) (c:Ac):Prop:=Has w k (acA c) 39
def ActsAt (w:World) (a:Option Addr) (cs:List Ac):Prop :=
 0<cs.length->∃ ab ao,a=some ⟨ab,ao,none⟩/\ab<w.heap.size/\∀ i (hi:i<cs.length),cs[i].h.ok/\w.rangeAt ab (ao+i*72) (acC cs[i])
theorem qaea_ (c:Ac):0<(acC c).length:=by simp[acC]
section
variable {w w':World} {k:Nat} {c:Ac}
theorem ActsAt.below {a:Option Addr} {cs:List Ac} (h:ActsAt w a cs) (hb:Bl w w'):ActsAt w' a cs:=fun h0=>by
 obtain ⟨ab,ao,ha,hlt,hc⟩:=h h0;exact ⟨ab,ao,ha,Nat.lt_of_lt_of_le hlt hb.size,fun i hi=>⟨(hc i hi).1,qam_ (hc i hi).2 hb (qaea_ _)⟩⟩
theorem AcAt.on (h:AcAt w k c) (hb:Bl w w'):AcAt w' k c:=qd_ hb h (Has.lt h)
theorem AcAt.kind (h:AcAt w k c):w.cell? ⟨k,0,none⟩=some (i_ c.kind):=Has.cell h 0
theorem AcAt.head (h:AcAt w k c):w.rangeAt k 1 (hdC c.h):=by
 have:=qbh_ (A:=[i_ c.kind]) (cs:=hdC c.h) (C:=[i_ c.now,i_ c.n,.bool c.rt]) (o:=1) (w:=w) (b:=k) (t:=39) h rfl;exact this
theorem AcAt.now (h:AcAt w k c) (ho:c.h.ok):w.cell? ⟨k,69,none⟩=some (i_ c.now):=by
 have:=qbh_ (A:=i_ c.kind :: hdC c.h) (cs:=[i_ c.now,i_ c.n,.bool c.rt]) (C:=[]) (o:=69) (w:=w) (b:=k) (t:=39) (by rw[List.append_nil];exact h) (by simp[qh_ ho]);exact this 0 _ rfl
theorem AcAt.num (h:AcAt w k c) (ho:c.h.ok):w.cell? ⟨k,70,none⟩=some (i_ c.n):=by
 have:=qbh_ (A:=i_ c.kind :: hdC c.h) (cs:=[i_ c.now,i_ c.n,.bool c.rt]) (C:=[]) (o:=69) (w:=w) (b:=k) (t:=39) (by rw[List.append_nil];exact h) (by simp[qh_ ho]);exact this 1 _ rfl
theorem AcAt.right (h:AcAt w k c) (ho:c.h.ok):w.cell? ⟨k,71,none⟩=some (.bool c.rt):=by
 have:=qbh_ (A:=i_ c.kind :: hdC c.h) (cs:=[i_ c.now,i_ c.n,.bool c.rt]) (C:=[]) (o:=69) (w:=w) (b:=k) (t:=39) (by rw[List.append_nil];exact h) (by simp[qh_ ho]);exact this 2 _ rfl
theorem qwq_ (w:World):AcAt (w.alloc (.cells Tryz.zeroCells39 39)) w.heap.size acZ:=Has.new (acA acZ) _
variable {ops:Array Oper} {rest:List Oper} {o:Oper} {a:Act} {Q:Exit->Act->World->Prop}
theorem qey_ (hgd:o.guard=none) (x:Operand) (ho:o.op = .load 39 x) (g off:Nat) (hx:a.eval x = .pointer (some ⟨g,off,none⟩)) (c:Ac) (hg:w.rangeAt g off (acC c)) (hs:(acC c).length=72)
  (hk:wpList Tryz.prog ops Q rest (a.put o.dst (.agg (acA c))) w):wpList Tryz.prog ops Q (o :: rest) a w :=
 wpList_load_mid hgd 39 x ho g off hx (acC c) _ hg Tryz.underlying39 rfl (acinfo.trans (by rw[hs])) hk
theorem qnm_ (hgd:o.guard=none) (x y:Operand) (ho:o.op = .store 39 x y) (g:Nat) (cz:Array Value) (c':Ac) (hx:a.eval x = pp_ g) (hy:a.eval y = .agg cz) (he:cz=acA c') (hs':(acA c').size=72) (hg:AcAt w g c) (hs:(acA c).size=72)
  (hk:wpList Tryz.prog ops Q rest (a.put o.dst undef) (w.setRow g (acA c'))):wpList Tryz.prog ops Q (o :: rest) a w:=by
 subst he;exact wpList_store_row hgd 39 x y ho g (acA c') hx hy 39 (acA c) (Has.out hg) (acinfo.trans (by rw[hs'])) (by rw[hs,hs']) (all_oneCell_toArray (acC_one c')) hk
theorem qaeb_ (w:World) (c:Ac):AcAt ((w.alloc (.cells Tryz.zeroCells39 39)).setRow w.heap.size (acA c)) w.heap.size c:=Has.row (qwq_ w) _
end
def negA (cs:List Ac):Bool:=cs.any (fun c=>decide (c.now<0))
open NN.Rg2
open Ar (IsAn Lp Up hgt isP)
theorem tfield1 (w:World) (g:Nat):(Instr.fieldAt 119 (pp_ g) 1).run Tryz.prog w = .ok (.pointer (some ⟨g,1,none⟩)) w:=by kernel_rfl
variable {w:World}
theorem ld_ints {p:Addr} {a:Option Addr} {n c:Nat} (h:w.cell? p=some (.slice a n c)):(loadVar 49 p).run Tryz.prog w = .ok (.slice a n c) w:=by
 go_simp
theorem tr_set {b ab:Nat} {v:Value} (h:Has w b (trA ab v) 119) (v':Value):Has (w.setCell ⟨b,1,none⟩ v') b (trA ab v') 119:=Has.set (i:=1) h v'
def TaR (tp ap:Value) (h:Hd) (now x1 x2 x3:Int):Nat->Value->Prop
 | 0,u=>u=tp
 | 1,u=>u=ap
 | 2,u=>u = .agg (hdA h)
 | 3,u=>u = i_ now
 | 4,u|5,u=>u = .tuple #[i_ x1,i_ x2,i_ x3]
 | 6,u|9,u=>u = i_ x1
 | 7,u|10,u=>u = i_ x2
 | 8,u|11,u=>u = i_ x3
 | _,_=>now=now
def TgR (b bE g n c:Nat) (ua k q y:Int):Nat->Value->Prop
 | 0,v|1,v|2,v|5,v|14,v=>v = pp_ b
 | 3,v|15,v=>v = .pointer (some ⟨b,1,none⟩)
 | 4,v=>v = .slice (sp_ g) n c
 | 6,v=>v = .pointer (some ⟨bE,100,none⟩)
 | 7,v=>v = i_ ua
 | 8,v=>v = .pointer (some ⟨bE,101,none⟩)
 | 9,v=>v = i_ k
 | 10,v=>v = i_ q
 | 11,v=>v = i_ y
 | _,_=>b=b
theorem qwr_ (ab:Nat) (v:Value) (hv:v.oneCell'=true):Tryz.prog.built 119 [(0,pp_ ab),(1,v)]=some (trA ab v):=by
 have h:Tryz.prog.built 119 [(0,pp_ ab),(1,v)]=Instr.fill ((#[(0,1),(1,1)]:Array (Nat × Nat))[·]?) #[.pointer none,.slice none 0 0] [(0,pp_ ab),(1,v)]:=by kernel_rfl
 rw[h];cases v <;> first|rfl|cases hv
theorem tnew_w (p:NN.Pr) (hp:p.ok) (room:Int) (r:Ru) (w:World) (KN:Hid (∀w',Below w.heap.size w w'->Cl_ 105 #[.agg (NN.prA p),i_ room] w' fun e w''=>∃ b F,e = .returned (.tuple #[pp_ b,i_ 0])/\ArS w'' F b r [entZ]/\(∀i,F i->w'.heap.size<=i)/\Below w'.heap.size w' w'')) :
  Cl_ 70 #[.agg (NN.prA p),i_ room] w fun e w'=>∃ b F,e = .returned (.tuple #[pp_ b,i_ 0])/\TrS w' F b r [entZ] [-1]/\(∀i,F i->w.heap.size<=i)/\Below w.heap.size w w':=by
 have hz:=NN.qav_ hp;go_enter Tryz.func70,Tryz.ntmps70;go_upto_region 1 with fail
 generalize hw0:World.alloc _ _=v0;have hB:Below w.heap.size w v0:=bl_ hw0;have hP:NN.PrAt v0 w.heap.size p:=by rw[<-hw0];exact NN.Has.new _ _
 clear hw0;go_wp2_with (first|fail|(with_reducible refine NN.qq_ rfl _ rfl _ rfl hP hz ?_))
 refine (KN.out _ hB).mono ?_;rintro e v1 ⟨ab,Fa,rfl,hA,hF,hb⟩;have hF0:∀ i,Fa i->w.heap.size<=i:=fun i hi=>Nat.le_trans hB.size (hF i hi)
 replace hB:=tb_ hB hb;clear hb hP hF;have hmk:=fun w=>qdw_ w (-1)
 have hbt:=fun g=>qwr_ ab (.slice (sp_ g) 1 1) rfl
 go_wp2_with fail
 have hL1:Has (v1.alloc (.cells #[i_ (-1)] 3)) v1.heap.size #[i_ (-1)] 3:=Has.new _ _;have hbL:Below v1.heap.size v1 (v1.alloc (.cells #[i_ (-1)] 3)):=ba_;have hsz:(v1.alloc (.cells #[i_ (-1)] 3)).heap.size=v1.heap.size+1:=by simp
 generalize v1.alloc (.cells #[i_ (-1)] 3)=v2 at *;have hT:Has (v2.alloc (.cells (trA ab (.slice (some ⟨v1.heap.size,0,none⟩) 1 1)) 119)) v2.heap.size (trA ab (.slice (some ⟨v1.heap.size,0,none⟩) 1 1)) 119:=Has.new _ _;rw[hsz] at hT;have hbT:Below v2.heap.size v2 (v2.alloc (.cells (trA ab (.slice (some ⟨v1.heap.size,0,none⟩) 1 1)) 119)):=ba_;have hsz2:(v2.alloc (.cells (trA ab (.slice (some ⟨v1.heap.size,0,none⟩) 1 1)) 119)).heap.size=v2.heap.size+1:=by simp
 go_ret2;have hb2:Below v1.heap.size v1 (v2.alloc (.cells (trA ab (.slice (some ⟨v1.heap.size,0,none⟩) 1 1)) 119)):=tb_ hbL hbT;have hs:=hB.size;have hA1:=hA.1;refine ⟨v1.heap.size+1,fun i=>Fa i\/i=v1.heap.size\/i=v1.heap.size+1,rfl,⟨fun i hi=>?_,Fa,ab,.slice (some ⟨v1.heap.size,0,none⟩) 1 1,hT,hA.below hb2,⟨rfl,.inr ⟨v1.heap.size,1,_,rfl,Nat.zero_le _,qd_ hbT hL1 (Has.lt hL1),Nat.le_refl _,by decide,rfl,rfl⟩⟩,Lp.one,.inr (.inr rfl),fun i hi=>.inl hi,fun i hi=>?_,fun hf=>?_,fun i hi hf=>?_⟩,fun i hi=>?_,hB.trans (hb2.mono hs)⟩
 ·show i<(v2.alloc (.cells (trA ab (.slice (some ⟨v1.heap.size,0,none⟩) 1 1)) 119)).heap.size;rcases hi with hi|rfl|rfl
  have:=hA1 i hi;omega;omega;omega
 exact .inr (.inl (Option.some.inj hi).symm);have:=hA1 _ hf;omega;have h1:v1.heap.size=i:=Option.some.inj hi;have:=hA1 _ hf;omega
 ·rcases hi with hi|rfl|rfl
  exact hF0 i hi;exact hs;omega
theorem qaiz_ (tp ap:Value) (h:Hd) (ho:h.ok) (now x1 x2 x3:Int) (X:World->World->Prop) (w:World)
  (KH:Hid (HeldIs w tp ap)) (KAdd:Hid (∀w',Below w.heap.size w w'->Calls Tryz.prog 84 #[ap,.agg (hdA h),.int .i64 now] w' fun e w''=>e = .returned (.tuple #[.int .i64 x1,.int .i64 x2,.int .i64 x3])/\X w' w'')) (hx:(x3==0)=false) :
  Calls Tryz.prog 48 #[tp,.agg (hdA h),.int .i64 now] w fun e w'=>e = .returned (.tuple #[.int .i64 x1,.int .i64 x2,.int .i64 x3])/\∃ vx,Below w.heap.size w vx/\X vx w':=by
 have za:=qv_ ho;go_enter Tryz.func48,Tryz.ntmps48;go_upto_region 1 with fail
 generalize hw0:World.alloc _ _=v0;have hB:Below w.heap.size w v0:=bl_ hw0;have hH:HdAt v0 w.heap.size h:=by rw[<-hw0];exact Has.new _ _
 clear hw0;obtain ⟨bH,hbH⟩:∃ x,x=w.heap.size:=⟨_,rfl⟩;rw[<-hbH] at hH |-;clear hbH;refine qj_ (by kernel_rfl) (fun _=>True) (fun i v' _=>TaR tp ap h now x1 x2 x3 i v') (fun l _ w'=>Ph 4 (fun w'=>Below w.heap.size w w'/\HdAt w' bH h) (fun w'=>∃ vx,Below w.heap.size w vx/\X vx w') l w') (fun _ _=>True) (fun _ _=>trivial) (fun _ _ _ _ _ _ h=>h) (by kernel_rfl) trivial ?_ ?_ ?_;exact fun l hl=>Ph.zero hl ⟨hB.trans (br_.drew.mono hB.size),Has.drew hH⟩
 ·intro i o lz a wx ho' hnl dq Z;have hC:=Z.c;have hI:=Z.i;have hi:i<12:=(Array.getElem?_eq_some_iff.1 ho').1;obtain rfl|rfl|rfl|rfl|rfl|rfl|rfl|rfl|rfl|rfl|rfl|rfl:i=0\/i=1\/i=2\/i=3\/i=4\/i=5\/i=6\/i=7\/i=8\/i=9\/i=10\/i=11:=by omega
  all_goals obtain rfl:=Option.some.inj ho'
  exact dv_ 0 Z (qa_ rfl) (NN.qr_ rfl) (Z.old' 0) (hI.keep (hz_ Z 0))
  ·have hsz:=hz_ Z 1;have hnK:=ah_ Z hnl 4;have hpre:=hI.pre hnK hsz (by decide);exact dC_ (S:=T2_) 1 Z (qa_ rfl) (f:=64) (args:=#[a.eval (.tmp 15)]) (by kernel_rfl) (by rw[show a.eval (.tmp 15)=_ from (gd_ Z dq 0 15)];  exact KH.out wx hpre.1) (fun w' hb=>⟨trivial,trivial,rfl,Ph.made hnK (⟨tb_ hpre.1 hb,hpre.2.on hb⟩)⟩)
  have hsz:=hz_ Z 2;have hnK:=ah_ Z hnl 4;have hpre:=hI.pre hnK hsz (by decide);exact dv_ 2 Z (qa_ rfl) (qcj_ rfl (Z.old' 4) hpre.2 za) rfl (hI.keep hsz);exact dv_ 3 Z (qa_ rfl) (NN.qr_ rfl) (Z.old' 2) (hI.keep (hz_ Z 3))
  ·have hsz:=hz_ Z 4;have hpre:=hI.1 hnl
   exact dA_ (S:=T2_) 4 Z (qa_ rfl) (f:=84) (args:=#[a.eval (.tmp 16),a.eval (.tmp 17),a.eval (.tmp 18)]) (by kernel_rfl) (by
    rw[show a.eval (.tmp 16)=_ from (gd_ Z dq 1 16),show a.eval (.tmp 17)=_ from (gd_ Z dq 2 17),show a.eval (.tmp 18)=_ from (gd_ Z dq 3 18)];refine (KAdd.out wx hpre.1).mono ?_;rintro r w' ⟨rfl,hX⟩;exact ⟨_,rfl,trivial,trivial,rfl,Ph.last hsz ⟨wx,hpre.1,hX⟩⟩)
  exact dv_ 5 Z (qa_ rfl) (NN.qr_ rfl) (gd_ Z dq 4 19) (hI.keep (hz_ Z 5));exact dv_ 6 Z (qa_ rfl) (NN.qz_ rfl (gd_ Z dq 5 14) rfl) rfl (hI.keep (hz_ Z 6));exact dv_ 7 Z (qa_ rfl) (NN.qz_ rfl (gd_ Z dq 5 14) rfl) rfl (hI.keep (hz_ Z 7));exact dv_ 8 Z (qa_ rfl) (NN.qz_ rfl (gd_ Z dq 5 14) rfl) rfl (hI.keep (hz_ Z 8));exact dv_ 9 Z (qa_ rfl) (NN.qan_ rfl) (gd_ Z dq 6 20) (hI.keep (hz_ Z 9));exact dv_ 10 Z (qa_ rfl) (NN.qan_ rfl) (gd_ Z dq 7 21) (hI.keep (hz_ Z 10));exact dv_ 11 Z (qa_ rfl) (NN.qan_ rfl) (gd_ Z dq 8 22) (hI.keep (hz_ Z 11))
 intro lz a' v1 hall Z;obtain ⟨vx,hBx,hX⟩:=Z.i.2 (hall 4 (by decide));have e9:a'.eval (.tmp 9) = .int .i64 x1:=Z.got 9 _ 9 rfl (hall 9 (by decide)) rfl;have e10:a'.eval (.tmp 10) = .int .i64 x2:=Z.got 10 _ 10 rfl (hall 10 (by decide)) rfl;have e11:a'.eval (.tmp 11) = .int .i64 x3:=Z.got 11 _ 11 rfl (hall 11 (by decide)) rfl;have e0:a'.eval (.tmp 0)=tp:=Z.old' 0;obtain ⟨u,hu⟩:∃ u:Nat->Value,∀ t,u t=a'.eval (.tmp t):=⟨_,fun _=>rfl⟩;rw[qbc_ a' 59 u Z.tsize Z.defers hu];rw[<-hu] at e0 e9 e10 e11;clear hu Z hall;simp only[List.range,List.range.loop,List.map_cons,List.map_nil];rw[e0,e9,e10,e11];clear e0 e9 e10 e11;clear hB hH KH KAdd;go_wp2_with fail
 go_ret3
 exact ⟨rfl,vx,hBx,hX⟩
theorem qaja_ (b:Nat) (ap:Value) (h:Hd) (ho:h.ok) (now x1 x2 x3:Int) (X:World->World->Prop) (w:World)
  (KH:Hid (HeldIs w (.pointer (some ⟨b,0,none⟩)) ap)) (KAdd:Hid (∀w',Below w.heap.size w w'->Calls Tryz.prog 84 #[ap,.agg (hdA h),.int .i64 now] w' fun e w''=>e = .returned (.tuple #[.int .i64 x1,.int .i64 x2,.int .i64 x3])/\X w' w'')) (n:Nat) (hx:(x3==0)=true) (hx2:(x1==(n:Int))=false) (HV:Hid (∀w' w'',Below w.heap.size w w'->X w' w''->∃ a c,w''.cell? ⟨b,1,none⟩=some (.slice a n c))) :
  Calls Tryz.prog 48 #[.pointer (some ⟨b,0,none⟩),.agg (hdA h),.int .i64 now] w fun e w'=>e = .returned (.tuple #[.int .i64 x1,.int .i64 x2,.int .i64 x3])/\∃ vx,Below w.heap.size w vx/\X vx w':=by
 have za:=qv_ ho;go_enter Tryz.func48,Tryz.ntmps48;go_upto_region 1 with fail
 generalize hw0:World.alloc _ _=v0;have hB:Below w.heap.size w v0:=bl_ hw0;have hH:HdAt v0 w.heap.size h:=by rw[<-hw0];exact Has.new _ _
 clear hw0;obtain ⟨bH,hbH⟩:∃ x,x=w.heap.size:=⟨_,rfl⟩;rw[<-hbH] at hH |-;clear hbH;refine qj_ (by kernel_rfl) (fun _=>True) (fun i v' _=>TaR (.pointer (some ⟨b,0,none⟩)) ap h now x1 x2 x3 i v') (fun l _ w'=>Ph 4 (fun w'=>Below w.heap.size w w'/\HdAt w' bH h) (fun w'=>∃ vx,Below w.heap.size w vx/\X vx w') l w') (fun _ _=>True) (fun _ _=>trivial) (fun _ _ _ _ _ _ h=>h) (by kernel_rfl) trivial ?_ ?_ ?_;exact fun l hl=>Ph.zero hl ⟨hB.trans (br_.drew.mono hB.size),Has.drew hH⟩
 ·intro i o lz a wx ho' hnl dq Z;have hC:=Z.c;have hI:=Z.i;have hi:i<12:=(Array.getElem?_eq_some_iff.1 ho').1;obtain rfl|rfl|rfl|rfl|rfl|rfl|rfl|rfl|rfl|rfl|rfl|rfl:i=0\/i=1\/i=2\/i=3\/i=4\/i=5\/i=6\/i=7\/i=8\/i=9\/i=10\/i=11:=by omega
  all_goals obtain rfl:=Option.some.inj ho'
  exact dv_ 0 Z (qa_ rfl) (NN.qr_ rfl) (Z.old' 0) (hI.keep (hz_ Z 0))
  ·have hsz:=hz_ Z 1;have hnK:=ah_ Z hnl 4;have hpre:=hI.pre hnK hsz (by decide);exact dC_ (S:=T2_) 1 Z (qa_ rfl) (f:=64) (args:=#[a.eval (.tmp 15)]) (by kernel_rfl) (by rw[show a.eval (.tmp 15)=_ from (gd_ Z dq 0 15)];  exact KH.out wx hpre.1) (fun w' hb=>⟨trivial,trivial,rfl,Ph.made hnK (⟨tb_ hpre.1 hb,hpre.2.on hb⟩)⟩)
  have hsz:=hz_ Z 2;have hnK:=ah_ Z hnl 4;have hpre:=hI.pre hnK hsz (by decide);exact dv_ 2 Z (qa_ rfl) (qcj_ rfl (Z.old' 4) hpre.2 za) rfl (hI.keep hsz);exact dv_ 3 Z (qa_ rfl) (NN.qr_ rfl) (Z.old' 2) (hI.keep (hz_ Z 3))
  ·have hsz:=hz_ Z 4;have hpre:=hI.1 hnl
   exact dA_ (S:=T2_) 4 Z (qa_ rfl) (f:=84) (args:=#[a.eval (.tmp 16),a.eval (.tmp 17),a.eval (.tmp 18)]) (by kernel_rfl) (by
    rw[show a.eval (.tmp 16)=_ from (gd_ Z dq 1 16),show a.eval (.tmp 17)=_ from (gd_ Z dq 2 17),show a.eval (.tmp 18)=_ from (gd_ Z dq 3 18)];refine (KAdd.out wx hpre.1).mono ?_;rintro r w' ⟨rfl,hX⟩;exact ⟨_,rfl,trivial,trivial,rfl,Ph.last hsz ⟨wx,hpre.1,hX⟩⟩)
  exact dv_ 5 Z (qa_ rfl) (NN.qr_ rfl) (gd_ Z dq 4 19) (hI.keep (hz_ Z 5));exact dv_ 6 Z (qa_ rfl) (NN.qz_ rfl (gd_ Z dq 5 14) rfl) rfl (hI.keep (hz_ Z 6));exact dv_ 7 Z (qa_ rfl) (NN.qz_ rfl (gd_ Z dq 5 14) rfl) rfl (hI.keep (hz_ Z 7));exact dv_ 8 Z (qa_ rfl) (NN.qz_ rfl (gd_ Z dq 5 14) rfl) rfl (hI.keep (hz_ Z 8));exact dv_ 9 Z (qa_ rfl) (NN.qan_ rfl) (gd_ Z dq 6 20) (hI.keep (hz_ Z 9));exact dv_ 10 Z (qa_ rfl) (NN.qan_ rfl) (gd_ Z dq 7 21) (hI.keep (hz_ Z 10));exact dv_ 11 Z (qa_ rfl) (NN.qan_ rfl) (gd_ Z dq 8 22) (hI.keep (hz_ Z 11))
 intro lz a' v1 hall Z;obtain ⟨vx,hBx,hX⟩:=Z.i.2 (hall 4 (by decide));have e9:a'.eval (.tmp 9) = .int .i64 x1:=Z.got 9 _ 9 rfl (hall 9 (by decide)) rfl;have e10:a'.eval (.tmp 10) = .int .i64 x2:=Z.got 10 _ 10 rfl (hall 10 (by decide)) rfl;have e11:a'.eval (.tmp 11) = .int .i64 x3:=Z.got 11 _ 11 rfl (hall 11 (by decide)) rfl;have e0:a'.eval (.tmp 0)=(.pointer (some ⟨b,0,none⟩)):=Z.old' 0;obtain ⟨u,hu⟩:∃ u:Nat->Value,∀ t,u t=a'.eval (.tmp t):=⟨_,fun _=>rfl⟩;rw[qbc_ a' 59 u Z.tsize Z.defers hu];rw[<-hu] at e0 e9 e10 e11;clear hu Z hall;simp only[List.range,List.range.loop,List.map_cons,List.map_nil];rw[e0,e9,e10,e11];clear e0 e9 e10 e11;clear hB hH KH KAdd;obtain ⟨al,cl,c1⟩:=HV.out vx v1 hBx hX;go_wp2_with fail
 go_ret3
 exact ⟨rfl,vx,hBx,hX⟩
theorem qajb_ (b ab g n c:Nat) (ap:Value) (h:Hd) (ho:h.ok) (now x2:Int) (X:World->World->Prop) (w:World)
  (KH:Hid (HeldIs w (.pointer (some ⟨b,0,none⟩)) ap)) (KAdd:Hid (∀w',Below w.heap.size w w'->Calls Tryz.prog 84 #[ap,.agg (hdA h),.int .i64 now] w' fun e w''=>e = .returned (.tuple #[.int .i64 (n:Int),.int .i64 x2,.int .i64 0])/\X w' w'')) (ls:List Int) (h9:n<=1000) (E:En) (hE:E.ok) (ua k q y:Int) (HU:Hid (E.up=ua)) (HT:Hid (E.ht=k)) (hne:b ≠ g)
  (HV:Hid (∀w' w'',Below w.heap.size w w'->X w' w''->Has w'' b (trA ab (.slice (some ⟨g,0,none⟩) n c)) 119/\w''.ownsRow 0 3 1 (.slice (some ⟨g,0,none⟩) n c) n (ls.map (Value.int .i64))))
  (KAt:Hid (∀w' w'',Below w.heap.size w w'->X w' w''->∀ w3,Below w''.heap.size w'' w3->Calls Tryz.prog 29 #[.pointer (some ⟨b,0,none⟩),.int .i64 (n:Int)] w3 fun x w4=>x = .returned (.tuple #[.agg (enA E),.bool true])/\Below w3.heap.size w3 w4))
  (KHt:HG_ 85 #[.int .i64 k] (.int .i64 q))
  (KAn0:Hid (∀w' w'',Below w.heap.size w w'->X w' w''->∀ w3,Below w''.heap.size w'' w3->Calls Tryz.prog 69 #[.pointer (some ⟨b,0,none⟩),.int .i64 ua,.int .i64 q] w3 fun x w4=>x = .returned (.int .i64 y)/\Below w3.heap.size w3 w4)) :
  Calls Tryz.prog 48 #[.pointer (some ⟨b,0,none⟩),.agg (hdA h),.int .i64 now] w fun e w'=>e = .returned (.tuple #[.int .i64 (n:Int),.int .i64 x2,.int .i64 0])/\∃ vx v1 v2 v',Below w.heap.size w vx/\X vx v1/\Below v1.heap.size v1 v2/\Kp (fun i=>i=b\/i=g) v2 w'/\Has w' b (trA ab v') 119/\w'.ownsRow 0 3 1 v' (n+1) ((ls ++ [y]).map (Value.int .i64))/\(v'.ownBlock=some g\/∃ g',v'.ownBlock=some g'/\v2.heap.size<=g'):=by
 have za:=qv_ ho;go_enter Tryz.func48,Tryz.ntmps48;go_upto_region 1 with fail
 generalize hw0:World.alloc _ _=v0;have hB:Below w.heap.size w v0:=bl_ hw0;have hH:HdAt v0 w.heap.size h:=by rw[<-hw0];exact Has.new _ _
 clear hw0;obtain ⟨bH,hbH⟩:∃ x,x=w.heap.size:=⟨_,rfl⟩;rw[<-hbH] at hH |-;clear hbH;refine qj_ (by kernel_rfl) (fun _=>True) (fun i v' _=>TaR (.pointer (some ⟨b,0,none⟩)) ap h now (n:Int) x2 0 i v') (fun l _ w'=>Ph 4 (fun w'=>Below w.heap.size w w'/\HdAt w' bH h) (fun w'=>∃ vx,Below w.heap.size w vx/\X vx w') l w') (fun _ _=>True) (fun _ _=>trivial) (fun _ _ _ _ _ _ h=>h) (by kernel_rfl) trivial ?_ ?_ ?_;exact fun l hl=>Ph.zero hl ⟨hB.trans (br_.drew.mono hB.size),Has.drew hH⟩
 ·intro i o lz a wx ho' hnl dq Z;have hC:=Z.c;have hI:=Z.i;have hi:i<12:=(Array.getElem?_eq_some_iff.1 ho').1;obtain rfl|rfl|rfl|rfl|rfl|rfl|rfl|rfl|rfl|rfl|rfl|rfl:i=0\/i=1\/i=2\/i=3\/i=4\/i=5\/i=6\/i=7\/i=8\/i=9\/i=10\/i=11:=by omega
  all_goals obtain rfl:=Option.some.inj ho'
  exact dv_ 0 Z (qa_ rfl) (NN.qr_ rfl) (Z.old' 0) (hI.keep (hz_ Z 0))
  ·have hsz:=hz_ Z 1;have hnK:=ah_ Z hnl 4;have hpre:=hI.pre hnK hsz (by decide);exact dC_ (S:=T2_) 1 Z (qa_ rfl) (f:=64) (args:=#[a.eval (.tmp 15)]) (by kernel_rfl) (by rw[show a.eval (.tmp 15)=_ from (gd_ Z dq 0 15)];  exact KH.out wx hpre.1) (fun w' hb=>⟨trivial,trivial,rfl,Ph.made hnK (⟨tb_ hpre.1 hb,hpre.2.on hb⟩)⟩)
  have hsz:=hz_ Z 2;have hnK:=ah_ Z hnl 4;have hpre:=hI.pre hnK hsz (by decide);exact dv_ 2 Z (qa_ rfl) (qcj_ rfl (Z.old' 4) hpre.2 za) rfl (hI.keep hsz);exact dv_ 3 Z (qa_ rfl) (NN.qr_ rfl) (Z.old' 2) (hI.keep (hz_ Z 3))
  ·have hsz:=hz_ Z 4;have hpre:=hI.1 hnl
   exact dA_ (S:=T2_) 4 Z (qa_ rfl) (f:=84) (args:=#[a.eval (.tmp 16),a.eval (.tmp 17),a.eval (.tmp 18)]) (by kernel_rfl) (by
    rw[show a.eval (.tmp 16)=_ from (gd_ Z dq 1 16),show a.eval (.tmp 17)=_ from (gd_ Z dq 2 17),show a.eval (.tmp 18)=_ from (gd_ Z dq 3 18)];refine (KAdd.out wx hpre.1).mono ?_;rintro r w' ⟨rfl,hX⟩;exact ⟨_,rfl,trivial,trivial,rfl,Ph.last hsz ⟨wx,hpre.1,hX⟩⟩)
  exact dv_ 5 Z (qa_ rfl) (NN.qr_ rfl) (gd_ Z dq 4 19) (hI.keep (hz_ Z 5));exact dv_ 6 Z (qa_ rfl) (NN.qz_ rfl (gd_ Z dq 5 14) rfl) rfl (hI.keep (hz_ Z 6));exact dv_ 7 Z (qa_ rfl) (NN.qz_ rfl (gd_ Z dq 5 14) rfl) rfl (hI.keep (hz_ Z 7));exact dv_ 8 Z (qa_ rfl) (NN.qz_ rfl (gd_ Z dq 5 14) rfl) rfl (hI.keep (hz_ Z 8));exact dv_ 9 Z (qa_ rfl) (NN.qan_ rfl) (gd_ Z dq 6 20) (hI.keep (hz_ Z 9));exact dv_ 10 Z (qa_ rfl) (NN.qan_ rfl) (gd_ Z dq 7 21) (hI.keep (hz_ Z 10));exact dv_ 11 Z (qa_ rfl) (NN.qan_ rfl) (gd_ Z dq 8 22) (hI.keep (hz_ Z 11))
 intro lz a' v1 hall Z;obtain ⟨vx,hBx,hX⟩:=Z.i.2 (hall 4 (by decide));have e9:a'.eval (.tmp 9) = .int .i64 (n:Int):=Z.got 9 _ 9 rfl (hall 9 (by decide)) rfl;have e10:a'.eval (.tmp 10) = .int .i64 x2:=Z.got 10 _ 10 rfl (hall 10 (by decide)) rfl;have e11:a'.eval (.tmp 11) = .int .i64 0:=Z.got 11 _ 11 rfl (hall 11 (by decide)) rfl;have e0:a'.eval (.tmp 0)=(.pointer (some ⟨b,0,none⟩)):=Z.old' 0;obtain ⟨u,hu⟩:∃ u:Nat->Value,∀ t,u t=a'.eval (.tmp t):=⟨_,fun _=>rfl⟩;rw[qbc_ a' 59 u Z.tsize Z.defers hu];rw[<-hu] at e0 e9 e10 e11;clear hu Z hall;simp only[List.range,List.range.loop,List.map_cons,List.map_nil];rw[e0,e9,e10,e11];clear e0 e9 e10 e11;clear hB hH KH KAdd;obtain ⟨hA0,rL0⟩:=HV.out vx v1 hBx hX;have KA1:=h_ (KAt.out vx v1 hBx hX);have KA2:=h_ (KAn0.out vx v1 hBx hX);have HQ:=h_ (And.intro hBx hX);clear HV KAt KAn0 hBx hX;have c1:=Has.cell hA0 1;have hB:=Below.refl v1.heap.size v1;have t3:((n:Int)==(n:Int))=true:=by simp
 have c1':v1.cell? ⟨b,1,none⟩=some (.slice (some ⟨g,0,none⟩) n c):=c1;clear c1;go_wp2_with fail
 refine (KA1.out _ hB).mono ?_;rintro x v1' ⟨rfl,hb⟩;replace hB:=tb_ hB hb;clear hb KA1 c1';have hnew:=qbm_ v1';have hE1:=qcs_ v1' E;have ze:=qm_ hE;have z0:=qm_ enZ_ok;have hb3:=qbp_ v1' 60 Tryz.zeroCells60 (enA E);go_upto_region 4 with (with_reducible refine qba_ rfl _ _ rfl _ _ E rfl rfl rfl ze hnew z0 ?_)
 generalize World.setRow _ _ _=v2 at *;obtain ⟨bE,hbE⟩:∃ x,x=v1'.heap.size:=⟨_,rfl⟩;rw[<-hbE] at hE1 |-;have hlt1:=Has.lt hA0;have hlt2:=(row_lt rL0 (i:=g) rfl).1;have hs1:=hB.size;have fE:¬(bE=b\/bE=g):=fun h=>by rcases h with h|h <;> omega
 replace hB:=tb_ hB hb3;have k0:=Kp.of (F:=fun _=>False) hB;have hA:=k0.has hA0 (fun h=>h);have rL:=kp_row rL0 k0 (fun _ _ h=>h);have KAn:Hid (∀w3,Below v2.heap.size v2 w3->Calls Tryz.prog 69 #[.pointer (some ⟨b,0,none⟩),.int .i64 ua,.int .i64 q] w3 fun x w4=>x = .returned (.int .i64 y)/\Below w3.heap.size w3 w4):=h_ fun w3 hb=>KA2.out w3 (tb_ hB hb)
 have HNE:Hid (g ≠ b):=h_ fun h=>hne h.symm
 clear hbE hlt1 hlt2 hs1 hb3 hnew k0 hA0 rL0 KA2 hne;refine qj_ (by kernel_rfl) (fun w'=>Kp (fun i=>i=b\/i=g) v2 w') (fun i v' _=>TgR b bE g n c ua k q y i v') (fun l a w'=>ApI 12 13 16 52 53 v2.heap.size 3 119 1 (fun cs=>cs=#[.int .i64 y]) (.slice (some ⟨g,0,none⟩) n c) n (ls.map (Value.int .i64)) b (fun u=>trA ab u) l a w'/\Ph 13 (fun w'=>Below v2.heap.size v2 w') (fun _=>True) l w') (fun _ _=>True) (fun _ _=>trivial) (fun _ _ _ _ _ _ h=>h) (by kernel_rfl) (Kp.of br_.drew) ?_ ?_ ?_;exact fun l hl=>⟨ApI.zero hl (kp_row rL (Kp.of (F:=fun _=>False) br_.drew) (fun _ _ h=>h)) (Has.drew hA),Ph.zero hl br_.drew⟩
 ·intro i o lz a wx ho' hnl dq Z;have hC:=Z.c;have hI:=Z.i;have hi:i<17:=(Array.getElem?_eq_some_iff.1 ho').1;have hEx:EnAt wx bE E:=hC.has hE1 fE;have hlx:v2.heap.size<=wx.heap.size:=hC.size;obtain rfl|rfl|rfl|rfl|rfl|rfl|rfl|rfl|rfl|rfl|rfl|rfl|rfl|rfl|rfl|rfl|rfl:i=0\/i=1\/i=2\/i=3\/i=4\/i=5\/i=6\/i=7\/i=8\/i=9\/i=10\/i=11\/i=12\/i=13\/i=14\/i=15\/i=16:=by omega
  all_goals obtain rfl:=Option.some.inj ho'
  have hsz:=hz_ Z 0;exact dv_ 0 Z (qa_ rfl) (NN.qr_ rfl) (Z.old' 0) ⟨hI.1.keep hsz,hI.2.keep hsz⟩;have hsz:=hz_ Z 1;exact dv_ 1 Z (qa_ rfl) (NN.qr_ rfl) (Z.old' 0) ⟨hI.1.keep hsz,hI.2.keep hsz⟩;have hsz:=hz_ Z 2;exact dv_ 2 Z (qa_ rfl) (ex_nil rfl (gd_ Z dq 1 41)) rfl ⟨hI.1.keep hsz,hI.2.keep hsz⟩;have hsz:=hz_ Z 3;exact dv_ 3 Z (qa_ rfl) (qah_ rfl (gd_ Z dq 2 42) (tfield1 wx b)) rfl ⟨hI.1.keep hsz,hI.2.keep hsz⟩;have hsz:=hz_ Z 4;have hks:=ah_ Z hnl 16;have hAx:=hI.1.ha (by rw[<-qo_ lz 4 16 hsz (by decide)];exact hks);exact dv_ 4 Z (qa_ rfl) (qe_ rfl (gd_ Z dq 3 43) (ld_ints (Has.cell hAx 1))) rfl ⟨hI.1.keep hsz,hI.2.keep hsz⟩;have hsz:=hz_ Z 5;exact dv_ 5 Z (qa_ rfl) (NN.qr_ rfl) (Z.old' 0) ⟨hI.1.keep hsz,hI.2.keep hsz⟩;have hsz:=hz_ Z 6;exact dv_ 6 Z (qa_ rfl) (qah_ rfl (Z.old' 12) (efield2 wx bE)) rfl ⟨hI.1.keep hsz,hI.2.keep hsz⟩;have hsz:=hz_ Z 7;exact dv_ 7 Z (qa_ rfl) (NN.qbj_ rfl (gd_ Z dq 6 46) (EnAt.up hEx hE HU)) rfl ⟨hI.1.keep hsz,hI.2.keep hsz⟩;have hsz:=hz_ Z 8;exact dv_ 8 Z (qa_ rfl) (qah_ rfl (Z.old' 12) (efield3 wx bE)) rfl ⟨hI.1.keep hsz,hI.2.keep hsz⟩;have hsz:=hz_ Z 9;exact dv_ 9 Z (qa_ rfl) (NN.qbj_ rfl (gd_ Z dq 8 48) (EnAt.ht hEx hE HT)) rfl ⟨hI.1.keep hsz,hI.2.keep hsz⟩
  ·have hsz:=hz_ Z 10;have hnK:=ah_ Z hnl 13;have hpre:=hI.2.pre hnK hsz (by decide);exact dC_ (S:=T2_) 10 Z (qa_ rfl) (f:=85) (args:=#[a.eval (.tmp 49)]) (by kernel_rfl) (by rw[show a.eval (.tmp 49)=_ from (gd_ Z dq 9 49)];  exact KHt.out wx) (fun w' hb=>⟨hC.trans (Kp.of (F:=fun i=>i=b\/i=g) hb) (fun i hi _=>hi),trivial,rfl,(hI.1.on hb).keep hsz,Ph.made hnK (tb_ hpre hb)⟩)
  ·have hsz:=hz_ Z 11;have hnK:=ah_ Z hnl 13;have hpre:=hI.2.pre hnK hsz (by decide);exact dC_ (S:=T2_) 11 Z (qa_ rfl) (f:=69) (args:=#[a.eval (.tmp 45),a.eval (.tmp 47),a.eval (.tmp 50)]) (by kernel_rfl) (by rw[show a.eval (.tmp 45)=_ from (gd_ Z dq 5 45)];rw[show a.eval (.tmp 47)=_ from (gd_ Z dq 7 47)];rw[show a.eval (.tmp 50)=_ from (gd_ Z dq 10 50)];  exact KAn.out wx hpre) (fun w' hb=>⟨hC.trans (Kp.of (F:=fun i=>i=b\/i=g) hb) (fun i hi _=>hi),trivial,rfl,(hI.1.on hb).keep hsz,Ph.made hnK (tb_ hpre hb)⟩)
  have hsz:=hz_ Z 12;have hka:=ah_ Z hnl 13;have hks:=ah_ Z hnl 16;have hnK:=ah_ Z hnl 13;have hpre:=hI.2.pre hnK hsz (by decide);have hb:Below wx.heap.size wx (wx.alloc _):=br_.alloc (Nat.le_refl _) (.cells #[.int .i64 y] 3);exact dm_ 12 Z (qa_ rfl) (NN.Rg2.qbu_ rfl (gd_ Z dq 11 51) (qdw_ wx y)) (hC.trans (Kp.of (F:=fun i=>i=b\/i=g) hb) (fun i hi _=>hi)) rfl ⟨hI.1.built hsz hka hks (by decide) (by decide) (by rw[Z.tsize];exact (show 52<59 by decide)) rfl,Ph.made hnK (tb_ hpre hb)⟩;have hsz:=hz_ Z 13;have hks:=ah_ Z hnl 16;have hkb:lz.getD 12 false=true:=dq ⟨12,.data⟩ (by simp) rfl;obtain ⟨gg,cs,rfl,hg,hgh⟩:=hI.1.bu hkb hnl;obtain ⟨v',w',hr,g1,g2,g3⟩:=qcm_ (ρ:=a.eval) (x:=.tmp 44) (y:=.tmp 52) (Ts:=49) Tryz.underlying49 qgp_ (by decide) (by decide) rfl (by intro u hu;simp at hu;subst hu;rfl) (gd_ Z dq 4 44) (hI.1.ro hnl) hg hgh h9;exact dm_ 13 Z (qa_ rfl) (hr _ rfl rfl) (hC.trans (Kp.gb (F:=fun i=>i=b\/i=g) g2 (fun k hk=>.inr (Option.some.inj hk).symm)) (fun i hi _=>hi)) rfl ⟨hI.1.appended hsz hks (by decide) (by rw[Z.tsize];exact (show 53<59 by decide)) rfl g1 g2 g3 hlx (fun e=>HNE.out (Option.some.inj e)),Ph.last hsz trivial⟩;have hsz:=hz_ Z 14;exact dv_ 14 Z (qa_ rfl) (ex_nil rfl (gd_ Z dq 0 40)) rfl ⟨hI.1.keep hsz,hI.2.keep hsz⟩;have hsz:=hz_ Z 15;exact dv_ 15 Z (qa_ rfl) (qah_ rfl (gd_ Z dq 14 54) (tfield1 wx b)) rfl ⟨hI.1.keep hsz,hI.2.keep hsz⟩
  ·have hsz:=hz_ Z 16;have hka:lz.getD 13 false=true:=dq ⟨13,.data⟩ (by simp) rfl;obtain ⟨v',cs,rfl,hv',hr',hl'⟩:=hI.1.ap hka hnl;obtain ⟨g',c',rfl⟩:=qbv_ hr' (Nat.succ_pos _);have hAx:=hI.1.ha hnl;have kb:Kp (fun i=>i=b) wx (wx.setCell ⟨b,1,none⟩ (.slice (some ⟨g',0,none⟩) (n+1) c')):=Kp.gb (qax_ wx b 1 _) (fun k hk=>(Option.some.inj hk).symm)
   exact ds_ 16 Z (qa_ rfl) (qbs_ rfl (gd_ Z dq 15 55) hv' (qgx_ (Has.free hAx 1) (Has.cell hAx 1))) (hC.trans kb (fun i hi _=>.inl hi)) rfl ⟨ApI.stored hsz (by decide) hka rfl (tr_set hAx _) (kp_row hr' kb (fun i hi e=>by
    obtain ⟨_,k⟩:=qbn_ hr' hi;exact qaf_ k hAx.out (by decide) e)) hl',⟨fun h=>(by rw[qo_ lz 16 13 hsz (by decide),hka] at h;cases h),fun _=>trivial⟩⟩
 intro lz a' v5 hall Z;have hC:=Z.c;obtain ⟨v',cs,rfl,hA',rL',hl'⟩:=Z.i.1.st (hall 16 (by decide));have e9:a'.eval (.tmp 9) = .int .i64 (n:Int):=Z.old' 9;have e10:a'.eval (.tmp 10) = .int .i64 x2:=Z.old' 10;have e11:a'.eval (.tmp 11) = .int .i64 0:=Z.old' 11;obtain ⟨u,hu⟩:∃ u:Nat->Value,∀ t,u t=a'.eval (.tmp t):=⟨_,fun _=>rfl⟩;rw[qbc_ a' 59 u Z.tsize Z.defers hu];rw[<-hu] at e9 e10 e11;clear hu Z hall;simp only[List.range,List.range.loop,List.map_cons,List.map_nil];rw[e9,e10,e11];clear e9 e10 e11;go_wp2_with fail
 go_ret3
 exact ⟨rfl,vx,HQ.out.1,v1,HQ.out.2,v2,hB,hC,v',hA',rL',hl'⟩
end Go.Proofs.YtkbjaadjnbgfbaaGreatDoor.An
namespace Go.Proofs.YtkbjaadjnbgfbaaGreatDoor.An
open Go.RowKit Mem Sc
open Ar (Ent Ru entZ Ok Lp hgt Up isP IsAn)
theorem qabd_ (r:Ru) (M:List Ent) (h:Hd) (now:Int) :
  (¬(Ar.add r M h now).1.2.2=0/\(Ar.add r M h now).2=M) \/
  ((Ar.add r M h now).1.2.2=0/\(∃i:Nat,(Ar.add r M h now).1.1=(i:Int)/\i<M.length)/\(Ar.add r M h now).2=M) \/
  ((Ar.add r M h now).1=(((M.length:Nat):Int),(0:Int),(0:Int))/\∃ (j:Nat) (d:Ent),M[j]?=some d/\(Ar.add r M h now).2=M ++ [⟨d.hs ++ [h],(j:Int)⟩]):=by
 unfold Ar.add;by_cases hP:h.P
 ·rw[if_neg (fun hh=>hh hP)];cases h1:Ar.fnd r.g M h.id with
  | some i=>
   obtain ⟨e,he,_⟩:=Ar.qgy_ h1;exact .inr (.inl ⟨rfl,⟨i,rfl,(List.getElem?_eq_some_iff.1 he).1⟩,rfl⟩)
  | none=>
   cases h2:Ar.fnd r.g M h.prev with
   | none=>exact .inl ⟨by simp,rfl⟩
   | some j=>
    simp only;obtain ⟨d,hd,_⟩:=Ar.qgy_ h2;by_cases h3:Ar.why r (M.getD j entZ) h now=0;rw[if_neg (fun hh=>hh h3)];by_cases h4:r.room<=M.length;rw[if_pos h4];exact .inl ⟨by simp,rfl⟩;rw[if_neg h4];refine .inr (.inr ⟨rfl,j,d,hd,?_⟩);rw[show M.getD j entZ=d by rw[List.getD_eq_getElem?_getD,hd];rfl];rw[if_pos h3];exact .inl ⟨by simp,rfl⟩
 rw[if_pos hP];exact .inl ⟨by simp,rfl⟩
variable {w:World} {F:Nat->Prop} {b k:Nat} {r:Ru} {ls L K:List Int}
theorem qjl_ {vx w':World} {Fa:Nat->Prop} {ab:Nat} {lv:Value} {M':List Ent} (hF:∀ i,F i->i<w.heap.size) (h1:Has w b (trA ab lv) 119) (h3:w.ownsRow 0 3 1 lv ls.length (ls.map (Value.int .i64))) (h4:Lp M' ls) (h5:F b) (h6:∀ i,Fa i->F i) (h7:∀ i,lv.ownBlock=some i->F i) (h8:¬Fa b) (h9:∀ i,lv.ownBlock=some i->¬Fa i)
  (hb:Bl w vx) (hA:ArS w' (Nxt Fa vx w') ab r M') (hK:Kp Fa vx w'):TrS w' (Nxt F w w') b r M' ls/\Kp F w w':=by
 have k0:Kp Fa w w':=(Kp.of hb).trans hK fun i hi _=>hi
 have hs:=hb.size;have hlt:=Has.lt h1;refine ⟨⟨nxt_lt hF k0.size,Nxt Fa vx w',ab,lv,k0.has h1 h8,hA,kp_row h3 k0 h9,h4,.inl h5,fun i hi=>?_,fun i hi=>.inl (h7 i hi),fun hn=>?_,fun i hi hn=>?_⟩,k0.mono fun i hi _=>h6 i hi⟩;exact hi.elim (fun h=>.inl (h6 i h)) (fun h=>.inr ⟨Nat.le_trans hs h.1,h.2⟩);exact hn.elim h8 (fun h=>by omega);have:=(row_lt h3 hi).1;exact hn.elim (h9 i hi) (fun h=>by omega)
variable {M:List Ent}
theorem tadd_at (hS:TrS w F b r M ls) (hM:Ok r M) (hl:M.length<=800) (hls:ls.length=M.length) (hgl:r.gs.length<=1000) (hcl:r.cs.length<=1000) (hT:Tab w) (h:Hd) (ho:h.ok) (now:Int) :
  Cl_ 48 #[pp_ b,.agg (hdA h),i_ now] w fun e w'=>e = .returned (.tuple #[i_ (Ar.add r M h now).1.1,i_ (Ar.add r M h now).1.2.1,i_ (Ar.add r M h now).1.2.2])/\(∃ls',ls'.length=(Ar.add r M h now).2.length/\TrS w' (Nxt F w w') b r (Ar.add r M h now).2 ls')/\Kp F w w':=by
 have hpos:=hM.pos;have hOk:=hM.add ho now;obtain ⟨gg,cc,hL⟩:=hS.leaps (by omega);have hS':=hS;obtain ⟨hF,Fa,ab,lv,h1,h2,h3,h4,h5,h6,h7,h8,h9⟩:=hS'
 have hlv:lv = .slice (sp_ gg) ls.length cc:=by
  have e1:=hL.1;have e2:w.cell? ⟨b,1,none⟩=some lv:=Has.cell h1 1;rw[e1] at e2;exact (Option.some.inj e2).symm
 have hbl:=Has.lt h1;have KH:Hid (HeldIs w (pp_ b) (pp_ ab)):=h_ fun w' hb=>held_w b ab w' ((hb.cell (p:=⟨b,0,none⟩) hbl).trans (Has.cell h1 0))
 have KA:=fun (w':World) (hb:Bl w w')=>add_at (h2.below hb) hM (by omega) hgl hcl (hT.below hb) h ho now
 rcases qabd_ r M h now with ⟨c1,c2⟩|⟨c1,⟨i,c2,c3⟩,c4⟩|⟨c1,j,d,c2,c3⟩
 obtain ⟨⟨x1,x2,x3⟩,hx⟩:∃ x,x=(Ar.add r M h now).1:=⟨_,rfl⟩;rw[<-hx] at c1 KA |-;rw[c2] at KA |-;refine (qaiz_ _ _ h ho now x1 x2 x3 (fun w' w''=>ArS w'' (Nxt Fa w' w'') ab r M/\Kp Fa w' w'') w KH (h_ KA) (by simpa using c1)).mono ?_;rintro e w' ⟨rfl,vx,q1,q2,q3⟩;obtain ⟨u1,u2⟩:=qjl_ hF h1 h3 h4 h5 h6 h7 h8 h9 q1 q2 q3;exact ⟨rfl,⟨ls,hls,u1⟩,u2⟩;obtain ⟨⟨x1,x2,x3⟩,hx⟩:∃ x,x=(Ar.add r M h now).1:=⟨_,rfl⟩;rw[<-hx] at c1 c2 KA |-;rw[c4] at KA |-;simp only at c1 c2;refine (qaja_ b _ h ho now x1 x2 x3 (fun w' w''=>ArS w'' (Nxt Fa w' w'') ab r M/\Kp Fa w' w'') w KH (h_ KA) ls.length (by simpa using c1) (by rw[c2,beq_eq_false_iff_ne];omega) (h_ fun w' w'' hb hX=>?_)).mono ?_;obtain ⟨_,k⟩:=hX;have h1':=k.has (qd_ hb h1 hbl) h8;exact ⟨_,_,(Has.cell h1' 1).trans (by rw[hlv];rfl)⟩;rintro e w' ⟨rfl,vx,q1,q2,q3⟩;obtain ⟨u1,u2⟩:=qjl_ hF h1 h3 h4 h5 h6 h7 h8 h9 q1 q2 q3;exact ⟨rfl,⟨ls,hls,u1⟩,u2⟩
 ·rw[c3] at hOk KA |-;rw[c1] at KA |-;simp only at KA |-;subst hlv;have hd:=c2;obtain ⟨e',he'⟩:∃ e':Ent,e'=⟨d.hs ++ [h],(j:Int)⟩:=⟨_,rfl⟩;rw[<-he'] at hOk KA |-;have hel:e'.hs.length=d.hs.length+1:=by rw[he',List.length_append];rfl
  have heu:e'.up=(j:Int):=by rw[he']
  have hnew:(M ++ [e'])[M.length]?=some e':=by rw[List.getElem?_append_right (Nat.le_refl _),Nat.sub_self];rfl
  have hjl:=(List.getElem?_eq_some_iff.1 hd).1;have hd':(M ++ [e'])[j]?=some d:=by rw[List.getElem?_append_left hjl];exact hd
  have hdc:=(hM.chain j d hd).1;obtain ⟨y,hy⟩:=Up.there hOk hd' (h:=hgt e'.hs.length) (by have:=Ar.hgt_lt (h:=e'.hs.length) (by omega);omega);have hLp':Lp (M ++ [e']) ls:=h4.more [e'];have hX:∀ (w' w'':World),Bl w w'->ArS w'' (Nxt Fa w' w'') ab r (M ++ [e'])/\Kp Fa w' w''->TrS w'' (Nxt F w w'') b r (M ++ [e']) ls/\Kp F w w'':=fun w' w'' hb hX=>qjl_ hF h1 h3 hLp' h5 h6 h7 h8 h9 hb hX.1 hX.2
  have hne:b ≠ gg:=fun e=>h9 gg rfl (by
   obtain ⟨_,k⟩:=qbn_ h3 (i:=gg) rfl;exact absurd e (qaf_ h1.out k (by decide)))
  have hE:(enOf r e').ok:=by
   have:=hOk.up M.length e' hpos hnew;obtain ⟨j2,d2,h2',now2,_,_,q3,q4,_,_⟩:=this;refine ⟨?_,qt_ _⟩;show (e'.h r.g).ok;rw[q3,Ar.h_app];exact q4
  have hKA:Hid (∀(w':World),Bl w w'->Cl_ 84 #[pp_ ab,.agg (hdA h),i_ now] w' fun e w''=>e = .returned (.tuple #[i_ ((ls.length:Nat):Int),i_ 0,i_ 0])/\ArS w'' (Nxt Fa w' w'') ab r (M ++ [e'])/\Kp Fa w' w''):=h_ (by rw[hls];exact KA);refine (qajb_ b ab gg ls.length cc _ h ho now 0 (fun w' w''=>ArS w'' (Nxt Fa w' w'') ab r (M ++ [e'])/\Kp Fa w' w'') w KH hKA ls (by omega) (enOf r e') hE e'.up (e'.hs.length:Nat) ((hgt e'.hs.length:Nat):Int) y (h_ rfl) (h_ rfl) hne (h_ fun w' w'' hb hx=>?_) (h_ fun w' w'' hb hx w3 hb3=>?_) (h_ fun w'=>?_) (h_ fun w' w'' hb hx w3 hb3=>?_)).mono ?_
  ·have k0:Kp Fa w w'':=(Kp.of hb).trans hx.2 fun i hi _=>hi
   exact ⟨k0.has h1 h8,kp_row h3 k0 h9⟩
  exact tat_at ((hX w' w'' hb hx).1.below hb3) hnew _ (by rw[hls]);have:=qpo_ (e'.hs.length:Nat) (by omega) (by omega) w';rwa [Int.toNat_natCast] at this
  refine qdy_ ((hX w' w'' hb hx).1.below hb3) hOk (by rw[List.length_append];have:[e'].length=1:=rfl;omega) e'.up _ y (fun _=>by rw[heu];omega) (.inl ⟨by rw[heu];exact Ar.isP_of hd',by omega,?_⟩);rw[heu,Int.toNat_natCast];exact hy
  ·rintro e w' ⟨rfl,vx,v1,v2,v',q1,q2,q3,q4,q5,q6,q7⟩;obtain ⟨u1,u2⟩:=hX vx v1 q1 q2;obtain ⟨q2a,q2k⟩:=q2;have k0:Kp Fa w v1:=(Kp.of q1).trans q2k fun i hi _=>hi
   have k1:Kp Fa w v2:=k0.trans (Kp.of (F:=fun _=>False) q3) fun _ hi _=>hi.elim
   have hs1:=q1.size;have hs2:=q2k.size;have hs3:=q3.size;have hs4:=q4.size;have hglt:=(row_lt h3 (i:=gg) rfl).1;have hA2:=q2a.below q3
   have hA3:ArS w' (Nxt Fa vx v1) ab r (M ++ [e']):=hA2.on q4 fun i hi hh=>by
    rcases hh with rfl|rfl
    exact hi.elim h8 (fun h=>by omega);exact hi.elim (h9 _ rfl) (fun h=>by omega)
   have kF:Kp F w w':=(k1.mono fun i hi _=>h6 i hi).trans q4 fun i hi _=>by
    rcases hi with rfl|rfl
    exact h5;exact h7 _ rfl
   refine ⟨by rw[hls],⟨ls ++ [y],by rw[List.length_append,List.length_append,hls];rfl,nxt_lt hF kF.size,Nxt Fa vx v1,ab,v',q5,hA3,?_,hLp'.put (by rw[hls,List.length_append];exact Nat.lt_succ_self _) fun e0 he0 h0=>?_,.inl h5,fun i hi=>?_,fun i hi=>?_,fun hn=>?_,fun i hi hn=>?_⟩,kF⟩;rw[List.length_append];exact q6;rw[hls] at he0 |-;rw[hnew] at he0;obtain rfl:=Option.some.inj he0;have hup:=(Up.ahead hOk hnew h0).1;rw[heu] at hup;exact hup.trans hy;exact hi.elim (fun h=>.inl (h6 i h)) (fun h=>.inr ⟨by omega,by omega⟩)
   ·rcases q7 with q7|⟨g',q7,q8⟩
    rw[q7] at hi;exact .inl (h7 i hi);rw[q7] at hi;have e1:g'=i:=Option.some.inj hi;have:=(row_lt q6 (i:=g') q7).1;exact .inr ⟨by omega,by omega⟩
   exact hn.elim h8 (fun h=>by omega)
   ·rcases q7 with q7|⟨g',q7,q8⟩
    rw[q7] at hi;have e1:gg=i:=Option.some.inj hi;exact hn.elim (h9 i hi) (fun h=>by omega)
    ·rw[q7] at hi;have e1:g'=i:=Option.some.inj hi;rcases hn with hn|hn
     have:=h2.1 i hn;omega;omega
open Ar (ComI Deep Row clr)
theorem meet_no (tp:Value) (x y:Int) (E D:En) (hE:E.ok) (hD:D.ok) (g1 g2:Bool) (hg:(g1 && g2)=false) (w:World) (KA:HK_ w 29 #[tp,i_ x] (.tuple #[.agg (enA E),.bool g1]))
  (KD:HK_ w 29 #[tp,i_ y] (.tuple #[.agg (enA D),.bool g2])) :
  Ca_ 68 #[tp,i_ x,i_ y] w (i_ (-1)):=by
 have ze:=qm_ hE;have zd:=qm_ hD;have z0:=qm_ enZ_ok;have hB:=Below.refl w.heap.size w;go_enter Tryz.func68,Tryz.ntmps68;go_wp2_with fail
 refine (KA.out _ hB).mono ?_;rintro x v1 ⟨rfl,hb⟩;replace hB:=tb_ hB hb;clear hb;have hnew:=qbm_ v1;have hb3:=qbp_ v1 60 Tryz.zeroCells60 (enA E);go_upto_region 2 with (with_reducible refine qba_ rfl _ _ rfl _ _ E rfl rfl rfl ze hnew z0 ?_)
 generalize World.setRow _ _ _=v2 at *;replace hB:=tb_ hB hb3;clear hb3 hnew;go_wp2_with fail
 refine (KD.out _ hB).mono ?_;rintro x v3 ⟨rfl,hb⟩;replace hB:=tb_ hB hb;clear hb;have hnew:=qbm_ v3;have hb3:=qbp_ v3 60 Tryz.zeroCells60 (enA D);go_upto_region 3 with (with_reducible refine qba_ rfl _ _ rfl _ _ D rfl rfl rfl zd hnew z0 ?_)
 generalize World.setRow _ _ _=v4 at *;replace hB:=tb_ hB hb3;clear hb3 hnew;cases g1 <;> cases g2
 case true.true=>cases hg
 all_goals
  clear hg;go_wp2_with fail
  go_ret;exact ⟨rfl,hB⟩
structure Two (M:List Ent) (i j:Int) (L K:List Int) (k:Nat) (x y:Int):Prop where
 one:Row M i L
 two:Row M j K
 x:L[k]?=some x
 y:K[k]?=some y
 deep:Deep L K k
variable {i j x y x' y':Int}
theorem Two.upx (h:Two M i j L K k x y):Up M i k x:=⟨L,h.one,h.x⟩
theorem Two.upy (h:Two M i j L K k x y):Up M j k y:=⟨K,h.two,h.y⟩
theorem Up.in_ (hL:Row M i L) {k:Nat} {x:Int} (h:Up M i k x):L[k]?=some x:=by
 obtain ⟨K,h1,h2⟩:=h;rw[h1.det hL] at h2;exact h2
theorem Two.pos (hM:Ok r M) {n m:Nat} {d e:Ent} (hn:M[n]?=some d) (hm:M[m]?=some e) {L K:List Int} {k:Nat} {x y:Int} (h:Two M (n:Int) (m:Int) L K k x y) (hne:x ≠ y):0<k:=by
 refine Nat.pos_of_ne_zero fun h0=>hne ?_
 subst h0;have h1:=h.x.symm.trans (h.one.first hM hn);have h2:=h.y.symm.trans (h.two.first hM hm);rw[Option.some.inj h1,Option.some.inj h2]
theorem Two.leap {h:Nat} (t:Two M i j L K k x y) (hx:Up M x h x') (hy:Up M y h y') (hne:x' ≠ y'):Two M i j L K h x' y':=by
 have h1:=Up.in_ t.one (t.upx.trans hx);have h2:=Up.in_ t.two (t.upy.trans hy);exact ⟨t.one,t.two,h1,h2,fun n s q1 q2=>Nat.le_of_lt (Deep.unlike t.one t.two h1 h2 hne n s q1 q2)⟩
theorem Two.step (t:Two M i j L K k x y) (hx:Up M x (k - 1) x') (hy:Up M y (k - 1) y') (hne:x ≠ y):Two M i j L K (k - 1) x' y':=by
 have h1:=Up.in_ t.one (t.upx.trans hx);have h2:=Up.in_ t.two (t.upy.trans hy);exact ⟨t.one,t.two,h1,h2,fun n s q1 q2=>by have:=Deep.unlike t.one t.two t.x t.y hne n s q1 q2;omega⟩
theorem qabe_ (b g nn c:Nat) (ls:List Int) (r:Ru) (M:List Ent) (hM:Ok r M) (hl:Lp M ls) (hln:ls.length=M.length) (hn:nn=ls.length) (i j:Nat) (d e:Ent) (hd:M[i]?=some d) (he:M[j]?=some e) (hdo:(enOf r d).ok) (heo:(enOf r e).ok) (w:World)
  (KA:∀ (n:Nat) (e:Ent),M[n]?=some e->Hid (∀w',Below w.heap.size w w'->Ca_ 29 #[pp_ b,i_ n] w' (.tuple #[.agg (enA (enOf r e)),.bool true])))
  (KC:∀ (i t z:Int),IsAn M i t z->Hid (∀w',Below w.heap.size w w'->Ca_ 69 #[pp_ b,i_ i,i_ t] w' (i_ z)))
  (KU:∀ (n:Nat) (e:Ent),M[n]?=some e->Hid (∀w',Below w.heap.size w w'->Ca_ 91 #[pp_ b,i_ n] w' (i_ e.up)))
  (KL:Hid (LeapsAt w b g nn c ls)) :
  Cl_ 68 #[pp_ b,i_ i,i_ j] w fun x w'=>∃ z,x = .returned (i_ z)/\Ar.All M [(i:Int),(j:Int)] z/\Below w.heap.size w w':=by
 obtain ⟨L,hL,hLl⟩:=hM.row hd;obtain ⟨K,hK,hKl⟩:=hM.row he;obtain ⟨t,ht⟩:∃ t:Nat,t=min d.hs.length e.hs.length:=⟨_,rfl⟩;obtain ⟨x0,hx0⟩:∃ x,L[t]?=some x:=⟨_,List.getElem?_eq_getElem (by omega)⟩;obtain ⟨y0,hy0⟩:∃ x,K[t]?=some x:=⟨_,List.getElem?_eq_getElem (by omega)⟩;have hT0:Hid (Two M (i:Int) (j:Int) L K t x0 y0):=h_ ⟨hL,hK,hx0,hy0,Deep.start L K (by omega)⟩;have KX:=KC (i:Int) (t:Int) x0 (.inl ⟨Ar.isP_of hd,by omega,hT0.out.upx⟩);have KY:=KC (j:Int) (t:Int) y0 (.inl ⟨Ar.isP_of he,by omega,hT0.out.upy⟩);have KAd:=KA i d hd;have KAe:=KA j e he;have HD:Hid ((enOf r d).ht=((d.hs.length:Nat):Int)):=h_ rfl;have HE:Hid ((enOf r e).ht=((e.hs.length:Nat):Int)):=h_ rfl;have hmin:=NN.min_is (P:=Tryz.prog) ((d.hs.length:Nat):Int) ((e.hs.length:Nat):Int) (t:Int) (by omega);have HDN:=h_ hd;have HEN:=h_ he;have HNN:Hid (nn=M.length):=h_ (hn.trans hln);have HLN:=h_ hln;clear ht hx0 hy0 hLl hKl hL hK hd he KC hn hln;generalize enOf r d=D at *;generalize enOf r e=E at *;generalize d.hs.length=dl at *;generalize e.hs.length=el at *;have zd:=qm_ hdo;have ze:=qm_ heo;have z0:=qm_ enZ_ok;have hB:=Below.refl w.heap.size w;go_enter Tryz.func68,Tryz.ntmps68;go_wp2_with fail
 refine (KAd.out _ hB).mono ?_;rintro x v1 ⟨rfl,hb⟩;replace hB:=tb_ hB hb;clear hb;have hnew:=qbm_ v1;have hD1:=qcs_ v1 D;have hb3:=qbp_ v1 60 Tryz.zeroCells60 (enA D);go_upto_region 2 with (with_reducible refine qba_ rfl _ _ rfl _ _ D rfl rfl rfl zd hnew z0 ?_)
 generalize World.setRow _ _ _=v2 at *;replace hB:=tb_ hB hb3;generalize v1.heap.size=bD at *;clear hb3 hnew KAd;go_wp2_with fail
 refine (KAe.out _ hB).mono ?_;rintro x v3 ⟨rfl,hb⟩;replace hD1:=EnAt.on hD1 hb;replace hB:=tb_ hB hb;clear hb;have hnew:=qbm_ v3;have hE1:=qcs_ v3 E;have hb3:=qbp_ v3 60 Tryz.zeroCells60 (enA E);go_upto_region 3 with (with_reducible refine qba_ rfl _ _ rfl _ _ E rfl rfl rfl ze hnew z0 ?_)
 generalize World.setRow _ _ _=v4 at *;replace hD1:=EnAt.on hD1 hb3;replace hB:=tb_ hB hb3;generalize v3.heap.size=bE at *;have c1:=EnAt.ht hD1 hdo HD;have c2:=EnAt.ht hE1 heo HE;clear hb3 hnew KAe;go_wp2_with fail
 clear c1 c2 hD1 hE1 hmin HD HE hdo heo zd ze;refine (KX.out _ hB).mono ?_;rintro x v5 ⟨rfl,hb⟩;replace hB:=tb_ hB hb;clear hb;go_wp2_with fail
 refine (KY.out _ hB).mono ?_;rintro x v6 ⟨rfl,hb⟩;replace hB:=tb_ hB hb;clear hb KX KY;go_wp2_with fail
 go_loopw [1,2] (fun v u wr=>∃ (x y:Int) (k:Nat),v = i_ x/\u = i_ y/\Hid (Two M (i:Int) (j:Int) L K k x y)/\Below w.heap.size w wr) (fun v _ _=>(intOf v).toNat)
 case atStart=>exact ⟨x0,y0,t,rfl,rfl,hT0,hB⟩
 case round=>
  clear hT0 hB;obtain ⟨x,y,k,rfl,rfl,HT,hB⟩:=hrel;by_cases hxy:x=y
  ·subst hxy;have hend:Hid (Ar.All M [(i:Int),(j:Int)] x):=h_ (Deep.ends hM HT.out.one HT.out.two HT.out.x HT.out.y HT.out.deep);have t1:(x != x)=false:=by simp
   clear HT;go_wp2_with fail
   go_ret;exact ⟨_,rfl,hend.out,hB⟩
  ·have hk:=HT.out.pos hM HDN.out HEN.out hxy;obtain ⟨n,e1,rfl,h1,hk1⟩:=HT.out.upx.place hM;obtain ⟨m,e2,rfl,h2,hk2⟩:=HT.out.upy.place hM;have hn1:=(List.getElem?_eq_some_iff.1 h1).1;have hm1:=(List.getElem?_eq_some_iff.1 h2).1;have hnn1:n<nn:=by rw[HNN.out];exact hn1
   have hnn2:m<nn:=by rw[HNN.out];exact hm1
   obtain ⟨lx,hlx⟩:∃ x,ls[n]?=some x:=⟨_,List.getElem?_eq_getElem (by rw[HLN.out];exact hn1)⟩;obtain ⟨ly,hly⟩:∃ x,ls[m]?=some x:=⟨_,List.getElem?_eq_getElem (by rw[HLN.out];exact hm1)⟩;have ux:=hl.to_ n e1 lx h1 hlx (by omega);have uy:=hl.to_ m e2 ly h2 hly (by omega);rw[hk1] at ux;rw[hk2] at uy;have vx:=(Up.ahead hM h1 (by omega)).1;have vy:=(Up.ahead hM h2 (by omega)).1;rw[hk1] at vx;rw[hk2] at vy;have hlt:=Ar.hgt_lt hk;have p1:=up_lt hM h1 ux (by omega);have p2:=up_lt hM h1 vx (by omega);have HQ:Hid ((lx ≠ ly->Two M (i:Int) (j:Int) L K (hgt k) lx ly)/\Two M (i:Int) (j:Int) L K (k - 1) e1.up e2.up):=h_ ⟨fun hne=>HT.out.leap ux uy hne,HT.out.step vx vy hxy⟩;have KU1:=KU n e1 h1;have KU2:=KU m e2 h2;have hL1:=KL.out.below hB;obtain ⟨l1,l2⟩:=hL1;have l3:=l2 n _ hlx;have l4:=l2 m _ hly;have t1:(((n:Nat):Int) != ((m:Nat):Int))=true:=by simp only[bne_iff_ne,ne_eq];exact hxy
   have HP:Hid (lx<n/\e1.up<n/\0<n):=h_ ⟨p1.2,p2.2,by omega⟩;clear HT hxy h1 hk1 h2 hk2 hn1 hm1 hlx hly ux uy vx vy hlt p1 p2 l2 hk;generalize e1.up=u1 at *;generalize e2.up=u2 at *;cases t2:(lx != ly)
   ·(go_wp2_with fail);go_quiet (fail)
    replace hB:=below_drewN hB nq;generalize wr.drewN nq=w7 at *;clear l1 l3 l4;(go_wp2_with fail);refine (KU1.out _ hB).mono ?_;rintro x v7 ⟨rfl,hb⟩;replace hB:=tb_ hB hb;clear hb;(go_wp2_with fail);refine (KU2.out _ hB).mono ?_;rintro x v8 ⟨rfl,hb⟩;replace hB:=tb_ hB hb;clear hb;(go_wp2_with fail);go_roundw
    case rel=>exact ⟨u1,u2,k - 1,rfl,rfl,h_ HQ.out.2,hB⟩
    case measure=>have q1:=HP.out;simp[intOf];omega
   ·have hne:lx ≠ ly:=(by simpa using t2);have HQ1:=h_ (HQ.out.1 hne);clear hne HQ;(go_wp2_with fail);go_quiet (fail)
    replace hB:=below_drewN hB nq;have m1:(wr.drewN nq).cell? ⟨b,1,none⟩=some (.slice (sp_ g) nn c):=l1;have m3:(wr.drewN nq).cell? ⟨g,n,none⟩=some (i_ lx):=l3;have m4:(wr.drewN nq).cell? ⟨g,m,none⟩=some (i_ ly):=l4;generalize wr.drewN nq=w7 at *;clear l1 l3 l4;(go_wp2_with fail);go_quiet (fail)
    replace hB:=below_drewN hB nq;(go_wp2_with fail);go_roundw
    case rel=>exact ⟨lx,ly,hgt k,rfl,rfl,HQ1,hB⟩
    case measure=>have q1:=HP.out;simp[intOf];omega
theorem meet_at (h:TrS w F b r M ls) (hM:Ok r M) (hl9:M.length<=900) (hl:ls.length=M.length) (x y z:Int) (hz:ComI M [x,y] z) :
  Ca_ 68 #[pp_ b,i_ x,i_ y] w (i_ z):=by
 have hok:∀ (n:Nat) (e:Ent),M[n]?=some e->(enOf r e).ok:=fun n e he=>by
  obtain ⟨Fa,ab,_,k2⟩:=h.parts;exact qcz_ k2 he
 have hat:∀ k,∃ (E:En) (g:Bool),E.ok/\(g=true ↔ isP M k)/\∀ w',Bl w w'->Ca_ 29 #[pp_ b,i_ k] w' (.tuple #[.agg (enA E),.bool g]):=fun k=>by
  by_cases hk:isP M k;obtain ⟨n,e,rfl,he⟩:=hk.is;exact ⟨enOf r e,true,hok n e he,⟨fun _=>hk,fun _=>rfl⟩,fun w' hb=>tat_at (h.below hb) he _ rfl⟩;exact ⟨enN,false,enN_ok,⟨fun h=>(by cases h),fun h=>absurd h hk⟩,fun w' hb=>qlh_ (h.below hb) k hk⟩
 by_cases hxy:isP M x/\isP M y
 ·obtain ⟨hx,hy⟩:=hxy;obtain ⟨i,d,rfl,hd⟩:=hx.is;obtain ⟨j,e,rfl,he⟩:=hy.is;have hi:=(List.getElem?_eq_some_iff.1 hd).1;obtain ⟨g,c,hL⟩:=h.leaps (by omega);refine (qabe_ b g ls.length c ls r M hM h.lp hl rfl i j d e hd he (hok i d hd) (hok j e he) w (fun n e he=>h_ fun w' hb=>tat_at (h.below hb) he _ rfl) (fun i t z hz=>h_ fun w' hb=>qdy_ (h.below hb) hM hl9 i t z (fun hq=>by rw[hl];exact hq.2) hz) (fun n e he=>h_ fun w' hb=>qwn_ (h.below hb) he) (h_ hL)).mono ?_;rintro r' w' ⟨z',rfl,hA,hb⟩
  have:=ComI.det (.inl ⟨by simp,fun p hp=>(by
   rcases List.mem_cons.1 hp with rfl|hp
   exact hx;obtain rfl:p=(j:Int):=(by simpa using hp);exact hy),hA⟩) hz
  rw[this];exact ⟨rfl,hb⟩
 ·have ez:z = -1:=by
   rcases hz with ⟨_,h2,_⟩|⟨_,h⟩
   exact absurd ⟨h2 x (by simp),h2 y (by simp)⟩ hxy;exact h
  subst ez;obtain ⟨E,g1,hE,q1,k1⟩:=hat x;obtain ⟨D,g2,hD,q2,k2⟩:=hat y;refine meet_no _ x y E D hE hD g1 g2 ?_ w (h_ k1) (h_ k2);cases g1 <;> cases g2 <;> first|rfl|exact absurd ⟨q1.1 rfl,q2.1 rfl⟩ hxy
theorem qajc_ (tp:Value) (P:List Int->Int->Prop) (p:Option Addr) (n c:Nat) (l:List Int) (hn:n=l.length) (hl:n<=4611686018427387904) {lo hi:Nat} (w:World) (hhi:hi<=w.heap.size) (hL:MM.Lie w lo hi p l) (h0:P [] (-1))
  (KM:∀ (k:Nat) (o x:Int),l[k]?=some x->(k=0->o=x)->(0<k->P (l.take k) o)->∃ z,P (l.take (k+1)) z/\HK_ w 68 #[tp,i_ o,i_ x] (i_ z)) :
  Cl_ 32 #[tp,.slice p n c] w fun e w'=>∃ z,e = .returned (i_ z)/\P l z/\Bl w w':=by
 have HN:=h_ hn;have HL:=h_ fun (w':World) (hb:Bl w w')=>hL.below hb hhi
 have hB:=Below.refl w.heap.size w;clear hL;by_cases hz:n=0
 ·have H0:Hid (P l (-1)):=h_ (by rw[List.eq_nil_of_length_eq_zero (hn.symm.trans hz)];exact h0);subst hz;clear hn h0 KM;go_enter Tryz.func32,Tryz.ntmps32;go_wp2_with fail
  go_ret;exact ⟨_,rfl,H0.out,hB⟩
 ·obtain ⟨pb,po,rfl,_,hpb,hc⟩:=HL.out w hB (by omega);have x0c:=hc 0 (by omega);rw[Nat.add_zero] at x0c;obtain ⟨x0,hx0⟩:∃ x,x=l.getD 0 0:=⟨_,rfl⟩;rw[<-hx0] at x0c;have HX0:Hid (l[0]?=some x0):=h_ (by rw[hx0,List.getD_eq_getElem?_getD,List.getElem?_eq_getElem (by omega:0<l.length)];rfl);have t0:((n:Int)==0)=false:=by simp;omega
  have hn0:0<n:=by omega
  have HCell:Hid (∀w',Bl w w'->∀ k x,l[k]?=some x->w'.cell? ⟨pb,po+k,none⟩=some (i_ x)):=h_ fun w' hb k x hk=>by
   have h1:=(List.getElem?_eq_some_iff.1 hk).1;rw[(hb.cell (p:=⟨pb,po+k,none⟩) (by show pb<_;omega)),hc k h1,List.getD_eq_getElem?_getD,hk];rfl
  clear hx0 hc HL hz hn h0;go_enter Tryz.func32,Tryz.ntmps32;go_wp2_with fail
  clear x0c;go_loopw [5,16] (fun v i wr=>∃ (k:Nat) (o:Int),k<=n/\v = i_ o/\i = i_ k/\Hid ((k=0->o=x0)/\(0<k->P (l.take k) o))/\Bl w wr) (fun _ i _=>n - (intOf i).toNat)
  case atStart=>exact ⟨0,x0,by omega,rfl,rfl,h_ ⟨fun _=>rfl,fun h=>absurd h (by omega)⟩,hB⟩
  case round=>
   clear hB;obtain ⟨k,o,hk,rfl,rfl,HO,hB⟩:=hrel;by_cases hlt:k<n
   ·obtain ⟨x,hx⟩:∃ x,l[k]?=some x:=⟨_,List.getElem?_eq_getElem (by rw[<-HN.out];exact hlt)⟩
    obtain ⟨z,hz,KM1⟩:=KM k o x hx (fun h=>by
     subst h;have:=HX0.out;rw[hx] at this;rw[HO.out.1 rfl,Option.some.inj this]) HO.out.2
    have xc:=HCell.out _ hB k x hx;have HZ:Hid ((k+1=0->z=x0)/\(0<k+1->P (l.take (k+1)) z)):=h_ ⟨fun h=>absurd h (by omega),fun _=>hz⟩;clear hz hx HO;(go_wp2_with fail);refine (KM1.out _ hB).mono ?_;rintro e v1 ⟨rfl,hb⟩;replace hB:=tb_ hB hb;clear hb xc KM1;(go_wp2_with fail);go_roundw
    case rel=>exact ⟨k+1,z,by omega,rfl,by go_num,HZ,hB⟩
    case measure=>simp[intOf];omega
   ·obtain rfl:k=n:=(by omega);have hP:Hid (P l o):=h_ (by have:=HO.out.2 hn0;rwa [HN.out,List.take_length] at this);clear HO;(go_wp2_with fail);go_ret;exact ⟨_,rfl,hP.out,hB⟩
theorem qabf_ {l:List Int} (h:l[k]?=some x):l.take (k+1)=l.take k ++ [x]:=by
 rw[List.take_add_one,h];rfl
theorem qabg_ (h:TrS w F b r M ls) (hM:Ok r M) (hl9:M.length<=900) (hl:ls.length=M.length) (p:Option Addr) (n c:Nat) (l:List Int) (hn:n=l.length) (hln:n<=4611686018427387904) {lo hi:Nat} (hhi:hi<=w.heap.size) (hL:MM.Lie w lo hi p l) (z:Int) (hz:ComI M l z) :
  Ca_ 32 #[pp_ b,.slice p n c] w (i_ z):=by
 refine (qajc_ _ (ComI M) p n c l hn hln w hhi hL (.inr ⟨fun h=>h.1 rfl,rfl⟩) fun k o x hx h0 h1=>?_).mono ?_;obtain ⟨y,hy⟩:=ComI.ex hM o x;refine ⟨y,?_,h_ fun w' hb=>meet_at (h.below hb) hM hl9 hl o x y hy⟩;rw[qabf_ hx];by_cases hk:k=0;subst hk;rw[h0 rfl] at hy;exact ComI.self hy;refine (h1 (by omega)).snoc hM (fun he=>?_) hy;have h2:=congrArg List.length he;have h3:=(List.getElem?_eq_some_iff.1 hx).1;rw[List.length_take,List.length_nil] at h2;omega;rintro e w' ⟨z',rfl,h1,hb⟩;rw[h1.det hz];exact ⟨rfl,hb⟩
end Go.Proofs.YtkbjaadjnbgfbaaGreatDoor.An
namespace Go.Proofs.YtkbjaadjnbgfbaaGreatDoor.An
open Go.RowKit Mem Sc
open Ar (Ent Ru entZ Ok isP IsAn)
theorem qaec_ (p:NN.Pr) (hp:p.ok) (h1:p.one) (t:Tl) (tt:p.tl=t.C) (ht:t.ok) (gs:List Gt) (cs:List Ck) (hgn:t.gn=gs.length) (hcn:t.cn=cs.length) (hgl:t.gn<=1000) (hcl:t.cn<=1000) (room:Int) (hgood:ruleP p t.g gs cs=true) (w:World) (hT:Tab w) (hG:GatesAt w t.ga gs) (hC:ChecksAt w t.ca cs) :
  Cl_ 70 #[.agg (NN.prA p),i_ room] w fun r w'=>∃ b F,r = .returned (.tuple #[pp_ b,i_ 0])/\TrS w' F b ⟨p,t.g,gs,cs,clampR room⟩ [entZ] [-1]/\(∀i,F i->w.heap.size<=i)/\Bl w w' :=
 tnew_w p hp room _ w (h_ fun w' hb=>new_at p hp h1 t tt ht gs cs hgn hcn hgl hcl room hgood w' (hT.below hb) (hG.below hb) (hC.below hb))
end Go.Proofs.YtkbjaadjnbgfbaaGreatDoor.An
namespace Go.Proofs.YtkbjaadjnbgfbaaGreatDoor.An
open Go.RowKit Mem Sc
open Ar (Ent Ru entZ Ok)
def grtA (t:Tl) (cs:List Ac):Bool:=cs.any (fun c=>decide (c.now<0)) || decide (20<t.gn) || decide (20<t.cn) || decide (50<cs.length)
theorem qabh_ (p:NN.Pr) (t:Tl) (tt:p.tl=t.C) (cs:List Ac) (n:Nat) (a:Option Addr) (c:Nat) (hn:n=cs.length) (hl:n<=4611686018427387904) (gn cn:Nat) (eg:t.gn=gn) (ec:t.cn=cn) (g1 g2 g3 gr g:Bool) (h1:decide ((20:Int)<(gn:Int))=g1) (h2:decide ((20:Int)<(cn:Int))=g2) (h3:decide ((50:Int)<(n:Int))=g3) (hg:(negA cs || g1 || g2 || g3 || !gr)=g) (w:World) (KR:Hid (g1=false->g2=false->g3=false->∀ w',Bl w w'->Ca_ 37 #[.agg (NN.prA p)] w' (.bool gr))) (hp:p.ok) (hA:ActsAt w a cs) :
  Ca_ 10 #[.agg (NN.prA p),.slice a n c] w (.bool g):=by
 have HN:=h_ hn;have HA:=h_ hA;have HG:=h_ hg;clear hn hA hg;go_enter Tryz.func10,Tryz.ntmps10;go_upto_region 1 with fail
 generalize hw0:World.alloc _ _=v0;have hB:Bl w v0:=bl_ hw0;have hP:NN.PrAt v0 w.heap.size p:=by rw[<-hw0];exact NN.Has.new _ _
 clear hw0;obtain ⟨bP,hbP⟩:∃ x,x=w.heap.size:=⟨_,rfl⟩;rw[<-hbP] at hP |-;clear hbP;have H1:=h_ h1;have H2:=h_ h2;have H3:=h_ h3;clear h1 h2 h3;go_wp2_with fail
 go_loopw [9] (fun i wr=>∃ k:Nat,k<=n/\i = i_ k/\Hid (negA cs=negA (cs.drop k))/\NN.PrAt wr bP p/\Bl w wr) (fun i _=>n - (intOf i).toNat)
 case atStart=>exact ⟨0,by omega,rfl,h_ rfl,hP,hB⟩
 case round=>
  clear hP hB;obtain ⟨k,hk,rfl,HZ,hP,hB⟩:=hrel;by_cases hlt:k<n
  ·obtain ⟨ab,ao,hae,habl,hc⟩:=(HA.out.below hB) (by rw[<-HN.out];omega);subst hae;have hk2:k<cs.length:=by rw[<-HN.out];exact hlt
   have hd:cs.drop k=cs[k] :: cs.drop (k+1):=List.drop_eq_getElem_cons hk2;obtain ⟨q0,q1⟩:=hc k hk2;have hx:=HZ.out;rw[hd] at hx;clear hd HZ hc;generalize cs[k]=y at *;have HX:=h_ hx;clear hx hk2;have z1:=qhe_ q0;have z2:=qck_ q0;have z0:=qck_ (c:=acZ) hdZ_ok;have hb2:Bl wr ((wr.alloc (.cells Tryz.zeroCells39 39)).setRow wr.heap.size (acA y)):=below_setRow ba_ (Nat.le_refl _) _;have hB2:=tb_ hB hb2;have hP2:=NN.PrAt.on hP hb2;have c0:=(qaeb_ wr y).now q0;have hnew:=qwq_ wr;clear hB hb2 hP;cases t1:decide (y.now<0)
   ·have HZ2:Hid (negA cs=negA (cs.drop (k+1))):=h_ (by
     have e:negA (y :: cs.drop (k+1))=(decide (y.now<0) || negA (cs.drop (k+1))):=rfl;rw[HX.out,e,t1,Bool.false_or])
    clear HX;obtain ⟨yn,hyn⟩:∃ yn,yn=y.now:=⟨_,rfl⟩;rw[<-hyn] at c0 t1;clear hyn;(go_wp2_with (with_reducible first|refine qey_ rfl _ rfl ab (ao+k*72) rfl y q1 z1 ?_|refine qnm_ rfl _ _ rfl _ _ y rfl rfl rfl z2 hnew z0 ?_));go_roundw
    case rel=>exact ⟨k+1,by omega,by go_num,HZ2,hP2,hB2⟩
    case measure=>simp[intOf];omega
   ·have hgt:g=true:=by
     have e:negA (y :: cs.drop (k+1))=(decide (y.now<0) || negA (cs.drop (k+1))):=rfl;rw[<-HG.out,HX.out,e,t1];simp
    subst hgt;clear HX HG;obtain ⟨yn,hyn⟩:∃ yn,yn=y.now:=⟨_,rfl⟩;rw[<-hyn] at c0 t1;clear hyn;(go_wp2_with (with_reducible first|refine qey_ rfl _ rfl ab (ao+k*72) rfl y q1 z1 ?_|refine qnm_ rfl _ _ rfl _ _ y rfl rfl rfl z2 hnew z0 ?_));go_ret;exact ⟨rfl,hB2⟩
  ·obtain rfl:k=n:=by omega
   have hg:(g1 || g2 || g3 || !gr)=g:=by
    have:=HG.out;rw[HZ.out,HN.out,List.drop_length] at this;exact this
   have h1:=H1.out;have h2:=H2.out;have h3:=H3.out;clear HG HZ;have c5:=qef_ hP tt;have c6:=qcw_ hP tt;rw[eg] at c5;rw[ec] at c6;have hz:=NN.qav_ hp;generalize t.ga=ga at *;generalize t.gc=gc at *;generalize t.ca=ca at *;generalize t.cc=cc at *;have HGG:=h_ hg;clear eg ec hg H1 H2 H3;cases g1
   ·cases g2
    ·cases g3
     ·(go_wp2_with (with_reducible first|refine NN.qq_ rfl _ rfl _ rfl hP hz ?_|refine NN.ql_ (by with_unfolding_all rfl) _ rfl _ rfl hP hz ?_));refine (KR.out (by simp) (by simp) (by simp) _ hB).mono ?_;rintro e v9 ⟨rfl,hb⟩;replace hB:=tb_ hB hb;clear hb;cases gr
      all_goals
       (go_wp2_with fail);go_ret;exact ⟨by rw[<-HGG.out];rfl,hB⟩
     ·(go_wp2_with fail);go_ret;exact ⟨by rw[<-HGG.out];rfl,hB⟩
    ·(go_wp2_with fail);go_ret;exact ⟨by rw[<-HGG.out];rfl,hB⟩
   ·(go_wp2_with fail);go_ret;exact ⟨by rw[<-HGG.out];rfl,hB⟩
def grt16 (p:NN.Pr) (t:Tl) (gs:List Gt) (ks:List Ck) (cs:List Ac):Bool:=grtA t cs || !ruleP p t.g gs ks
theorem qajd_ (p:NN.Pr) (hp:p.ok) (t:Tl) (tt:p.tl=t.C) (ht:t.ok) (gs:List Gt) (ks:List Ck) (hgn:t.gn=gs.length) (hcn:t.cn=ks.length) (cs:List Ac) (n:Nat) (a:Option Addr) (c:Nat) (hn:n=cs.length) (hl:n<=4611686018427387904) (g:Bool) (hg:grt16 p t gs ks cs=g) (w:World) (hA:ActsAt w a cs) (hG:GatesAt w t.ga gs) (hC:ChecksAt w t.ca ks) :
  Ca_ 10 #[.agg (NN.prA p),.slice a n c] w (.bool g):=by
 refine qabh_ p t tt cs n a c hn hl t.gn t.cn rfl rfl _ _ _ (ruleP p t.g gs ks) g rfl rfl rfl ?_ w (h_ fun h1 h2 _ w' hb=>?_) hp hA
 ·rw[<-hg,hn];unfold grt16 grtA negA;congr 1;congr 1
  ·congr 1
   ·congr 1;exact decide_eq_decide.2 (by omega)
   exact decide_eq_decide.2 (by omega)
  exact decide_eq_decide.2 (by omega)
 have:=of_decide_eq_false h1;have:=of_decide_eq_false h2;exact qwa_ p hp t tt ht gs ks hgn hcn (by omega) (by omega) w' (hG.below hb) (hC.below hb)
end Go.Proofs.YtkbjaadjnbgfbaaGreatDoor.An
