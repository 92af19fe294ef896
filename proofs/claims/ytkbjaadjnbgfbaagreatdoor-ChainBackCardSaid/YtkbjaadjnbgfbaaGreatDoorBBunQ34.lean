import Derived.Test.YtkbjaadjnbgfbaaGreatDoorBBunQ33
set_option maxRecDepth 100000
set_option maxHeartbeats 4000000
namespace Go.Proofs.YtkbjaadjnbgfbaaGreatDoor
open Go.RowKit
namespace An
open Mem Sc Go.Maps
theorem jT:Keyed Tryz.prog 3:=int_keyed Tryz.underlying3
def dJ(s:Nat)(o:Bool):Array Value:=#[.int .i64 (s:Int),.bool o]
def jY(s:Nat)(o:Bool):Value:=.agg (dJ s o)
def gx(s:Nat)(o:Bool):DataW Unit:=.agg [.lit (.int .i64 (s:Int)),.lit (.bool o)]
def dk(v:Value):Option (DataW Unit×List MemPlace):=
 match v with
 | .agg cs=>match cs.toList with
  | [.int .i64 a,.bool o]=>if 0<=a then some (gx a.toNat o,[])else none
  | _=>none
 | _=>none
theorem JE(s:Nat)(o:Bool):dk (jY s o)=some (gx s o,[]):=by simp[dk,jY,dJ]
theorem Ot{v:Value}{z:DataW Unit×List MemPlace}(h:dk v=some z):∃s o,v=jY s o/\z=(gx s o,[]):=by
 unfold dk at h;split at h
 ·rename_i cs;split at h
  ·rename_i a o he;split at h
   ·rename_i h0;obtain⟨s,rfl⟩:=Int.eq_ofNat_of_zero_le h0;rw[Int.toNat_natCast]at h;refine⟨s,o,?_,(Option.some.inj h).symm⟩;unfold jY dJ;rw[<-he]
   cases h
  cases h
 cases h
theorem GQ{s t:Nat}{o p:Bool}(h:gx s o=gx t p):s=t/\o=p:=by
 unfold gx at h;injection h with h
 injection h with h1 h2
 injection h2 with h2 _
 injection h1 with h1
 injection h1 with _ h1
 injection h2 with h2
 injection h2 with h2
 exact⟨by omega,h2⟩
variable{k:Nat}
theorem CS(hk:k<1000):(Lit.int .i64 (k:Int)).wf=true:=WalkArith.wf_i64 (by omega)
theorem wj(hk:k<1000):keyOf Tryz.prog 3 (.int .i64 (k:Int))=some (.int .i64 (k:Int)):=keyOf_int_mk Tryz.underlying3 (CS hk)
theorem pO{m:Nat}(h:k≠m):(Lit.int .i64 (k:Int))≠Lit.int .i64 (m:Int):=fun e=>h (by injection e with _ e;omega)
def bo(w:World)(b:Nat)(S:Mk.St):Prop:=
 ∃(D:DataW Unit)(n:Nat),w.ownsMap Tryz.prog 3 dk b n D/\(∀kl,Maps.has D kl=true->∃k:Nat,k<1000/\kl=.int .i64 (k:Int))/\
  ∀k:Nat,k<1000->D.atKey (.int .i64 (k:Int)) (gx 0 false)=gx (S.said k) (S.out k)
theorem q_(w:World):(zeroValue 121).run Tryz.prog w=.ok (jY 0 false) w:=by kernel_rfl
theorem vk{w:World}{b n:Nat}{D:DataW Unit}(h:w.ownsMap Tryz.prog 3 dk b n D)(hk:∀kl,Maps.has D kl=true->∃k:Nat,k<1000/\kl=.int .i64 (k:Int)):w.ownsMap Tryz.prog 3 dk b 1000 D:=by
 obtain⟨es',e,hp,hl⟩:=h.entries jT;obtain⟨es,clock,hb,F,hs,hD⟩:=h;refine⟨es,clock,hb,F,?_,hD⟩
 have h1:(es.toList.map (WideElems.rg Tryz.prog 3 dk)).foldr DataW.insert []=es':=by
  rw[hD]at e;injection e
 have h2:=length_sorted (es.toList.map (WideElems.rg Tryz.prog 3 dk));rw[h1]at h2;simp only[List.length_map,Array.length_toList]at h2;rw[<-h2];subst e;have h3:(es'.map Prod.fst).Nodup:=List.pairwise_map.2 hp
 have h4:(es'.map Prod.fst).length<=((List.range 1000).map fun(k:Nat)=>Lit.int .i64 (k:Int)).length:=List.Nodup.length_le_of_subset h3 fun x hx=>by
  obtain⟨p,hp,rfl⟩:=List.mem_map.1 hx;obtain⟨k,h5,h6⟩:=hk p.1 (by rw[has_eq,List.any_eq_true];exact⟨p,hp,WideAt.sameKey_self (hl p hp)⟩);rw[h6];exact List.mem_map.2 ⟨k,List.mem_range.2 h5,rfl⟩
 simpa using h4
section
variable{w w':World}{b:Nat}{S:Mk.St}
theorem bo.lt(h:bo w b S):b<w.heap.size:=by obtain⟨D,n,h,_⟩:=h;exact h.lt
theorem bo.on(h:bo w b S)(hb:w'.heap[b]?=w.heap[b]?):bo w' b S:=by obtain⟨D,n,⟨es,clock,h1,h2⟩,h3⟩:=h;exact⟨D,n,⟨es,clock,hb.trans h1,h2⟩,h3⟩
theorem bo.Sd(h:bo w b S){cs:Array Value}{t:TypeId}{fr:Nat×Nat}{k:Nat}(hk:w.heap[k]?=some (.cells cs t fr)):k≠b:=by rintro rfl;obtain⟨D,n,⟨es,clock,h1,_⟩,_⟩:=h;rw[h1]at hk;cases hk
theorem bo.same{S':Mk.St}(h:bo w b S)(e:∀k,k<1000->S'.said k=S.said k/\S'.out k=S.out k):bo w b S':=by obtain⟨D,n,h1,h2,h3⟩:=h;exact⟨D,n,h1,h2,fun k hk=>by rw[h3 k hk,(e k hk).1,(e k hk).2]⟩
theorem bo.made(w:World):bo (w.alloc (.map #[] 0)) w.heap.size ⟨fun _=>0,fun _=>false⟩:=⟨.map [],0,World.ownsMap_made w _ _ _,fun kl h=>by simp[has_eq]at h,fun _ _=>rfl⟩
theorem bo.look(h:bo w b S){k:Nat}(hk:k<1000)(w':World)(hb:w'.heap[b]?=w.heap[b]?):(Instr.lookup 122 (.map (some b)) (.int .i64 (k:Int)) false).run Tryz.prog w'=.ok (jY (S.said k) (S.out k)) w':=by obtain⟨D,n,hown,_,hD⟩:=h.on hb;obtain⟨v,ps,hrun,hv⟩:=hown.lookup jT Tryz.underlying122 (q_ w') (JE 0 false) (wj hk);obtain⟨s,o,rfl,hc⟩:=Ot hv;have h1:=congrArg Prod.fst hc;rw[hD k hk]at h1;obtain⟨h2,h3⟩:=GQ h1;rw[h2,h3];exact hrun
def dY(S:Mk.St)(k s:Nat)(o:Bool):Mk.St:=⟨Mk.bY S.said k s,Mk.bY S.out k o⟩
theorem bo.put(h:bo w b S){k:Nat}(hk:k<1000)(s:Nat)(o:Bool):∃w',(Instr.mapUpdate 122 (.map (some b)) (.int .i64 (k:Int)) (jY s o)).run Tryz.prog w=.ok () w'/\bo w' b (dY S k s o)/\w.grownBy w' (some b):=by
 obtain⟨D,n,hown,hh,hD⟩:=h;replace hown:=vk hown hh;have hM:=hown.isMap;obtain⟨w',hrun,h1,h2⟩:=hown.update jT Tryz.underlying122 (by decide) (wj hk) (JE s o);refine⟨w',hrun,⟨_,_,h1,fun kl hkl=>?_,fun m hm=>?_⟩,h2⟩
 ·by_cases e:kl=.int .i64 (k:Int);exact⟨k,hk,e⟩;rw[has_put_other e]at hkl;exact hh kl hkl
 ·by_cases e:m=k;subst e;rw[atKey_put_same hM (jT.key (wj hm))];show gx s o=gx (Mk.bY S.said m s m) (Mk.bY S.out m o m);rw[Mk.mM,Mk.mM];rw[atKey_put_other (pO e),hD m hm];show _=gx (Mk.bY S.said k s m) (Mk.bY S.out k o m);rw[Mk.j0 _ _ e,Mk.j0 _ _ e]
theorem bo.drop(h:bo w b S){k:Nat}(hk:k<1000)(h0:S.said k=0)(h1:S.out k=false)(ty:TypeId):∃w',(Builtin.delete_ #[122,3] ty #[.map (some b),.int .i64 (k:Int)]).run Tryz.prog w=.ok (.tuple #[]) w'/\bo w' b S/\w.grownBy w' (some b):=by
 obtain⟨D,n,hown,hh,hD⟩:=h;obtain⟨w',hrun,q1,q2⟩:=hown.drop jT Tryz.underlying122 (wj hk) ty;refine⟨w',hrun,⟨_,_,q1,fun kl hkl=>?_,fun m hm=>?_⟩,q2.grown⟩
 ·by_cases e:kl=.int .i64 (k:Int);exact⟨k,hk,e⟩;rw[has_del_other e]at hkl;exact hh kl hkl
 ·by_cases e:m=k;subst e;rw[atKey_del_same,h0,h1];rw[atKey_del_other (pO e),hD m hm]
end
end An
namespace An
open Mem Sc
def J3(S:Mk.St):List Value:=(List.range 600).map (fun i=>Value.int .i64 (S.said i:Int))++(List.range 600).map (fun i=>Value.bool (S.out i))
def oa(S:Mk.St):Array Value:=(J3 S).toArray
theorem NI(S:Mk.St):(J3 S).length=1200:=by simp[J3]
theorem qF(S:Mk.St):(oa S).size=1200:=by unfold oa;rw[List.size_toArray];exact NI S
theorem vT(S:Mk.St){i:Nat}(hi:i<600):(oa S)[i]?=some (.int .i64 (S.said i:Int)):=by unfold oa J3;rw[List.getElem?_toArray,List.getElem?_append_left (by simpa using hi),List.getElem?_map,List.getElem?_range hi];rfl
theorem xz(S:Mk.St){i:Nat}(hi:i<600):(oa S)[600+i]?=some (.bool (S.out i)):=by unfold oa J3;rw[List.getElem?_toArray,List.getElem?_append_right (by simp),List.getElem?_map,List.length_map,List.length_range,Nat.add_sub_cancel_left,List.getElem?_range hi];rfl
theorem yd{a:Array Value}{S:Mk.St}(hs:a.size=1200)(h1:∀i,i<600->a[i]?=some (.int .i64 (S.said i:Int)))(h2:∀i,i<600->a[600+i]?=some (.bool (S.out i))):a=oa S:=by
 apply Array.ext_getElem?;intro i;by_cases hi:i<600;rw[h1 i hi,vT S hi]
 ·by_cases hj:i<1200;obtain⟨k,rfl⟩:∃k,i=600+k:=⟨i-600,by omega⟩;rw[h2 k (by omega),xz S (by omega)];rw[Array.getElem?_eq_none (by omega),Array.getElem?_eq_none (by rw[qF];omega)]
theorem NW(S:Mk.St){k:Nat}(hk:k<600)(s:Nat):(oa S).setIfInBounds k (.int .i64 (s:Int))=oa ⟨Mk.bY S.said k s,S.out⟩:=by
 refine yd (by rw[Array.size_setIfInBounds,qF]) (fun i hi=>?_) fun i hi=>?_
 rw[Array.getElem?_setIfInBounds,qF];by_cases e:k=i;subst e;rw[if_pos rfl,if_pos (by omega)];exact congrArg some (by dsimp only;rw[Mk.mM]);rw[if_neg e,vT S hi];exact congrArg some (by dsimp only;rw[Mk.j0 _ _ (Ne.symm e)]);rw[Array.getElem?_setIfInBounds,if_neg (by omega),xz S hi]
theorem Pj(S:Mk.St){k:Nat}(hk:k<600)(o:Bool):(oa S).setIfInBounds (600+k) (.bool o)=oa ⟨S.said,Mk.bY S.out k o⟩:=by
 refine yd (by rw[Array.size_setIfInBounds,qF]) (fun i hi=>?_) fun i hi=>?_
 rw[Array.getElem?_setIfInBounds,if_neg (by omega),vT S hi];rw[Array.getElem?_setIfInBounds,qF];by_cases e:k=i;subst e;rw[if_pos rfl,if_pos (by omega)];exact congrArg some (by dsimp only;rw[Mk.mM]);rw[if_neg (by omega),xz S hi];exact congrArg some (by dsimp only;rw[Mk.j0 _ _ (Ne.symm e)])
def dW(w:World)(b:Nat)(S:Mk.St):Prop:=Has w b (oa S) 101
section
variable{w w':World}{b k:Nat}{S:Mk.St}
theorem dW.said(h:dW w b S)(hk:k<600):w.cell? ⟨b,k,none⟩=some (.int .i64 (S.said k:Int)):=by rw[Has.cell h k,vT S hk]
theorem dW.out(h:dW w b S)(hk:k<600):w.cell? ⟨b,600+k,none⟩=some (.bool (S.out k)):=by rw[Has.cell h (600+k),xz S hk]
theorem dW.below(h:dW w b S)(hb:Bl w w'):dW w' b S:=cg hb h (Has.lt h)
theorem dW.say(h:dW w b S)(hk:k<600)(s:Nat):dW (w.setCell ⟨b,k,none⟩ (.int .i64 (s:Int))) b ⟨Mk.bY S.said k s,S.out⟩:=by unfold dW;rw[<-NW S hk s];exact Has.set (i:=k) h _
theorem dW.rule(h:dW w b S)(hk:k<600)(o:Bool):dW (w.setCell ⟨b,600+k,none⟩ (.bool o)) b ⟨S.said,Mk.bY S.out k o⟩:=by unfold dW;rw[<-Pj S hk o];exact Has.set (i:=600+k) h _
theorem dW.free(h:dW w b S)(i:Nat):w.frozen? ⟨b,i,none⟩=false:=Has.free h i
end
