import Derived.Test.YtkbjaadjnbgfbaaGreatDoorHBunQ33
set_option maxRecDepth 100000
set_option maxHeartbeats 4000000
namespace Go.Proofs.YtkbjaadjnbgfbaaGreatDoor
open Go.RowKit
namespace An
open Mem Sc Go.Maps
theorem nZ:Keyed Tryz.prog 3:=int_keyed Tryz.underlying3
def fJ(s:Nat)(o:Bool):Array Value:=#[.int .i64 (s:Int),.bool o]
def nV(s:Nat)(o:Bool):Value:=.agg (fJ s o)
def jT(s:Nat)(o:Bool):DataW Unit:=.agg [.lit (.int .i64 (s:Int)),.lit (.bool o)]
def fe(v:Value):Option (DataW Unit×List MemPlace):=
 match v with
 | .agg cs=>match cs.toList with
  | [.int .i64 a,.bool o]=>if 0<=a then some (jT a.toNat o,[])else none
  | _=>none
 | _=>none
theorem NT(s:Nat)(o:Bool):fe (nV s o)=some (jT s o,[]):=by simp[fe,nV,fJ]
theorem Tz{v:Value}{z:DataW Unit×List MemPlace}(h:fe v=some z):∃s o,v=nV s o/\z=(jT s o,[]):=by
 unfold fe at h;split at h
 ·rename_i cs;split at h
  ·rename_i a o he;split at h
   ·rename_i h0;obtain⟨s,rfl⟩:=eG h0;rw[bU]at h;refine⟨s,o,?_,(Option.some.inj h).symm⟩;unfold nV fJ;rw[<-he]
   cases h
  cases h
 cases h
theorem Ie{s t:Nat}{o p:Bool}(h:jT s o=jT t p):s=t/\o=p:=by
 unfold jT at h;injection h with h
 injection h with h1 h2
 injection h2 with h2 _
 injection h1 with h1
 injection h1 with _ h1
 injection h2 with h2
 injection h2 with h2
 exact⟨by omega,h2⟩
variable{k:Nat}
theorem E_(hk:k<1000):(Lit.int .i64 (k:Int)).wf=true:=WalkArith.wf_i64 (by omega)
theorem yO(hk:k<1000):keyOf Tryz.prog 3 (.int .i64 (k:Int))=some (.int .i64 (k:Int)):=keyOf_int_mk Tryz.underlying3 (E_ hk)
theorem vy{m:Nat}(h:k≠m):(Lit.int .i64 (k:Int))≠Lit.int .i64 (m:Int):=fun e=>h (by injection e with _ e;omega)
def cF(w:World)(b:Nat)(S:Mk.St):Prop:=
 ∃(D:DataW Unit)(n:Nat),w.ownsMap Tryz.prog 3 fe b n D/\(∀kl,Maps.has D kl=true->∃k:Nat,k<1000/\kl=.int .i64 (k:Int))/\
  ∀k:Nat,k<1000->D.atKey (.int .i64 (k:Int)) (jT 0 false)=jT (S.said k) (S.out k)
theorem vj(w:World):(zeroValue 121).run Tryz.prog w=.ok (nV 0 false) w:=by kernel_rfl
theorem Aw{w:World}{b n:Nat}{D:DataW Unit}(h:w.ownsMap Tryz.prog 3 fe b n D)(hk:∀kl,Maps.has D kl=true->∃k:Nat,k<1000/\kl=.int .i64 (k:Int)):w.ownsMap Tryz.prog 3 fe b 1000 D:=by
 obtain⟨es',e,hp,hl⟩:=h.entries nZ;obtain⟨es,clock,hb,F,hs,hD⟩:=h;refine⟨es,clock,hb,F,?_,hD⟩
 have h1:(es.toList.map (WideElems.rg Tryz.prog 3 fe)).foldr DataW.insert []=es':=by
  rw[hD]at e;injection e
 have h2:=length_sorted (es.toList.map (WideElems.rg Tryz.prog 3 fe));rw[h1]at h2;simp only[dS,g_]at h2;rw[<-h2];subst e;have h3:(es'.map Prod.fst).Nodup:=List.pairwise_map.2 hp
 have h4:(es'.map Prod.fst).length<=((List.range 1000).map fun(k:Nat)=>Lit.int .i64 (k:Int)).length:=List.Nodup.length_le_of_subset h3 fun x hx=>by
  obtain⟨p,hp,rfl⟩:=jQ.1 hx;obtain⟨k,h5,h6⟩:=hk p.1 (by rw[has_eq,kM];exact⟨p,hp,WideAt.sameKey_self (hl p hp)⟩);rw[h6];exact jQ.2 ⟨k,List.mem_range.2 h5,rfl⟩
 simpa using h4
section
variable{w w':World}{b:Nat}{S:Mk.St}
theorem cF.lt(h:cF w b S):b<w.heap.size:=by obtain⟨D,n,h,_⟩:=h;exact h.lt
theorem cF.on(h:cF w b S)(hb:w'.heap[b]?=w.heap[b]?):cF w' b S:=by obtain⟨D,n,⟨es,clock,h1,h2⟩,h3⟩:=h;exact⟨D,n,⟨es,clock,hb.trans h1,h2⟩,h3⟩
theorem cF.VA(h:cF w b S){cs:Array Value}{t:TypeId}{fr:Nat×Nat}{k:Nat}(hk:w.heap[k]?=some (.cells cs t fr)):k≠b:=by rintro rfl;obtain⟨D,n,⟨es,clock,h1,_⟩,_⟩:=h;rw[h1]at hk;cases hk
theorem cF.same{S':Mk.St}(h:cF w b S)(e:∀k,k<1000->S'.said k=S.said k/\S'.out k=S.out k):cF w b S':=by obtain⟨D,n,h1,h2,h3⟩:=h;exact⟨D,n,h1,h2,fun k hk=>by rw[h3 k hk,(e k hk).1,(e k hk).2]⟩
theorem cF.made(w:World):cF (w.alloc (.map #[] 0)) w.heap.size ⟨fun _=>0,fun _=>false⟩:=⟨.map [],0,World.ownsMap_made w _ _ _,fun kl h=>by simp[has_eq]at h,fun _ _=>rfl⟩
theorem cF.look(h:cF w b S){k:Nat}(hk:k<1000)(w':World)(hb:w'.heap[b]?=w.heap[b]?):(Instr.lookup 122 (.map (some b)) (.int .i64 (k:Int)) false).run Tryz.prog w'=.ok (nV (S.said k) (S.out k)) w':=by obtain⟨D,n,hown,_,hD⟩:=h.on hb;obtain⟨v,ps,hrun,hv⟩:=hown.lookup nZ Tryz.underlying122 (vj w') (NT 0 false) (yO hk);obtain⟨s,o,rfl,hc⟩:=Tz hv;have h1:=aJ Prod.fst hc;rw[hD k hk]at h1;obtain⟨h2,h3⟩:=Ie h1;rw[h2,h3];exact hrun
def gz(S:Mk.St)(k s:Nat)(o:Bool):Mk.St:=⟨Mk.dk S.said k s,Mk.dk S.out k o⟩
theorem cF.put(h:cF w b S){k:Nat}(hk:k<1000)(s:Nat)(o:Bool):∃w',(Instr.mapUpdate 122 (.map (some b)) (.int .i64 (k:Int)) (nV s o)).run Tryz.prog w=.ok () w'/\cF w' b (gz S k s o)/\w.grownBy w' (some b):=by
 obtain⟨D,n,hown,hh,hD⟩:=h;replace hown:=Aw hown hh;have hM:=hown.isMap;obtain⟨w',hrun,h1,h2⟩:=hown.update nZ Tryz.underlying122 (by decide) (yO hk) (NT s o);refine⟨w',hrun,⟨_,_,h1,fun kl hkl=>?_,fun m hm=>?_⟩,h2⟩
 ·by_cases e:kl=.int .i64 (k:Int);exact⟨k,hk,e⟩;rw[has_put_other e]at hkl;exact hh kl hkl
 ·by_cases e:m=k;subst e;rw[atKey_put_same hM (nZ.key (yO hm))];show jT s o=jT (Mk.dk S.said m s m) (Mk.dk S.out m o m);rw[Mk.qN,Mk.qN];rw[atKey_put_other (vy e),hD m hm];show _=jT (Mk.dk S.said k s m) (Mk.dk S.out k o m);rw[Mk.oN _ _ e,Mk.oN _ _ e]
theorem cF.drop(h:cF w b S){k:Nat}(hk:k<1000)(h0:S.said k=0)(h1:S.out k=false)(ty:TypeId):∃w',(Builtin.delete_ #[122,3] ty #[.map (some b),.int .i64 (k:Int)]).run Tryz.prog w=.ok (.tuple #[]) w'/\cF w' b S/\w.grownBy w' (some b):=by
 obtain⟨D,n,hown,hh,hD⟩:=h;obtain⟨w',hrun,q1,q2⟩:=hown.drop nZ Tryz.underlying122 (yO hk) ty;refine⟨w',hrun,⟨_,_,q1,fun kl hkl=>?_,fun m hm=>?_⟩,q2.grown⟩
 ·by_cases e:kl=.int .i64 (k:Int);exact⟨k,hk,e⟩;rw[has_del_other e]at hkl;exact hh kl hkl
 ·by_cases e:m=k;subst e;rw[atKey_del_same,h0,h1];rw[atKey_del_other (vy e),hD m hm]
end
end An
namespace An
open Mem Sc
def Ot(S:Mk.St):List Value:=(List.range 600).map (fun i=>Value.int .i64 (S.said i:Int))++(List.range 600).map (fun i=>Value.bool (S.out i))
def tc(S:Mk.St):Array Value:=(Ot S).toArray
theorem Sn(S:Mk.St):(Ot S).length=1200:=by simp[Ot]
theorem wH(S:Mk.St):(tc S).size=1200:=by unfold tc;rw[iR];exact Sn S
theorem yW(S:Mk.St){i:Nat}(hi:i<600):(tc S)[i]?=some (.int .i64 (S.said i:Int)):=by unfold tc Ot;rw[dg,dm (by simpa using hi),eK,List.getElem?_range hi];rfl
theorem xO(S:Mk.St){i:Nat}(hi:i<600):(tc S)[600+i]?=some (.bool (S.out i)):=by unfold tc Ot;rw[dg,dE (by simp),eK,dS,List.length_range,lK,List.getElem?_range hi];rfl
theorem BQ{a:Array Value}{S:Mk.St}(hs:a.size=1200)(h1:∀i,i<600->a[i]?=some (.int .i64 (S.said i:Int)))(h2:∀i,i<600->a[600+i]?=some (.bool (S.out i))):a=tc S:=by
 apply j8;intro i;by_cases hi:i<600;rw[h1 i hi,yW S hi]
 ·by_cases hj:i<1200;obtain⟨k,rfl⟩:∃k,i=600+k:=⟨i-600,by omega⟩;rw[h2 k (by omega),xO S (by omega)];rw[mZ (by omega),mZ (by rw[wH];omega)]
theorem TI(S:Mk.St){k:Nat}(hk:k<600)(s:Nat):(tc S).setIfInBounds k (.int .i64 (s:Int))=tc ⟨Mk.dk S.said k s,S.out⟩:=by
 refine BQ (by rw[oy,wH]) (fun i hi=>?_) fun i hi=>?_
 rw[ia,wH];by_cases e:k=i;subst e;rw[aj rfl,aj (by omega)];exact aJ some (by dsimp only;rw[Mk.qN]);rw[ah e,yW S hi];exact aJ some (by dsimp only;rw[Mk.oN _ _ (Ne.symm e)]);rw[ia,ah (by omega),xO S hi]
theorem Su(S:Mk.St){k:Nat}(hk:k<600)(o:Bool):(tc S).setIfInBounds (600+k) (.bool o)=tc ⟨S.said,Mk.dk S.out k o⟩:=by
 refine BQ (by rw[oy,wH]) (fun i hi=>?_) fun i hi=>?_
 rw[ia,ah (by omega),yW S hi];rw[ia,wH];by_cases e:k=i;subst e;rw[aj rfl,aj (by omega)];exact aJ some (by dsimp only;rw[Mk.qN]);rw[ah (by omega),xO S hi];exact aJ some (by dsimp only;rw[Mk.oN _ _ (Ne.symm e)])
def gO(w:World)(b:Nat)(S:Mk.St):Prop:=Has w b (tc S) 101
section
variable{w w':World}{b k:Nat}{S:Mk.St}
theorem gO.said(h:gO w b S)(hk:k<600):w.cell? ⟨b,k,none⟩=some (.int .i64 (S.said k:Int)):=by rw[Has.cell h k,yW S hk]
theorem gO.out(h:gO w b S)(hk:k<600):w.cell? ⟨b,600+k,none⟩=some (.bool (S.out k)):=by rw[Has.cell h (600+k),xO S hk]
theorem gO.below(h:gO w b S)(hb:Bl w w'):gO w' b S:=dz hb h (Has.lt h)
theorem gO.say(h:gO w b S)(hk:k<600)(s:Nat):gO (w.setCell ⟨b,k,none⟩ (.int .i64 (s:Int))) b ⟨Mk.dk S.said k s,S.out⟩:=by unfold gO;rw[<-TI S hk s];exact Has.set (i:=k) h _
theorem gO.rule(h:gO w b S)(hk:k<600)(o:Bool):gO (w.setCell ⟨b,600+k,none⟩ (.bool o)) b ⟨S.said,Mk.dk S.out k o⟩:=by unfold gO;rw[<-Su S hk o];exact Has.set (i:=600+k) h _
theorem gO.free(h:gO w b S)(i:Nat):w.frozen? ⟨b,i,none⟩=false:=Has.free h i
end
