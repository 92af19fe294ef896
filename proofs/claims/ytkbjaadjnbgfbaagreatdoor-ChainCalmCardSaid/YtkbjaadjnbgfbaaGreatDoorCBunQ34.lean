import Derived.Test.YtkbjaadjnbgfbaaGreatDoorCBunQ33
set_option maxRecDepth 100000
set_option maxHeartbeats 4000000
namespace Go.Proofs.YtkbjaadjnbgfbaaGreatDoor
open Go.RowKit
namespace An
open Mem Sc Go.Maps
theorem jR:Keyed Tryz.prog 3:=int_keyed Tryz.underlying3
def dz(s:Nat)(o:Bool):Array Value:=#[.int .i64 (s:Int),.bool o]
def jK(s:Nat)(o:Bool):Value:=.agg (dz s o)
def fU(s:Nat)(o:Bool):DataW Unit:=.agg [.lit (.int .i64 (s:Int)),.lit (.bool o)]
def dd(v:Value):Option (DataW Unit×List MemPlace):=
 match v with
 | .agg cs=>match cs.toList with
  | [.int .i64 a,.bool o]=>if 0<=a then some (fU a.toNat o,[])else none
  | _=>none
 | _=>none
theorem LR(s:Nat)(o:Bool):dd (jK s o)=some (fU s o,[]):=by simp[dd,jK,dz]
theorem Ox{v:Value}{z:DataW Unit×List MemPlace}(h:dd v=some z):∃s o,v=jK s o/\z=(fU s o,[]):=by
 unfold dd at h;split at h
 ·rename_i cs;split at h
  ·rename_i a o he;split at h
   ·rename_i h0;obtain⟨s,rfl⟩:=Int.eq_ofNat_of_zero_le h0;rw[Int.toNat_natCast]at h;refine⟨s,o,?_,(Option.some.inj h).symm⟩;unfold jK dz;rw[<-he]
   cases h
  cases h
 cases h
theorem Lc{s t:Nat}{o p:Bool}(h:fU s o=fU t p):s=t/\o=p:=by
 unfold fU at h;injection h with h
 injection h with h1 h2
 injection h2 with h2 _
 injection h1 with h1
 injection h1 with _ h1
 injection h2 with h2
 injection h2 with h2
 exact⟨by omega,h2⟩
variable{k:Nat}
theorem zS(hk:k<1000):(Lit.int .i64 (k:Int)).wf=true:=WalkArith.wf_i64 (by omega)
theorem tT(hk:k<1000):keyOf Tryz.prog 3 (.int .i64 (k:Int))=some (.int .i64 (k:Int)):=keyOf_int_mk Tryz.underlying3 (zS hk)
theorem pC{m:Nat}(h:k≠m):(Lit.int .i64 (k:Int))≠Lit.int .i64 (m:Int):=fun e=>h (by injection e with _ e;omega)
def bg(w:World)(b:Nat)(S:Mk.St):Prop:=
 ∃(D:DataW Unit)(n:Nat),w.ownsMap Tryz.prog 3 dd b n D/\(∀kl,Maps.has D kl=true->∃k:Nat,k<1000/\kl=.int .i64 (k:Int))/\
  ∀k:Nat,k<1000->D.atKey (.int .i64 (k:Int)) (fU 0 false)=fU (S.said k) (S.out k)
theorem rZ(w:World):(zeroValue 121).run Tryz.prog w=.ok (jK 0 false) w:=by kernel_rfl
theorem vf{w:World}{b n:Nat}{D:DataW Unit}(h:w.ownsMap Tryz.prog 3 dd b n D)(hk:∀kl,Maps.has D kl=true->∃k:Nat,k<1000/\kl=.int .i64 (k:Int)):w.ownsMap Tryz.prog 3 dd b 1000 D:=by
 obtain⟨es',e,hp,hl⟩:=h.entries jR;obtain⟨es,clock,hb,F,hs,hD⟩:=h;refine⟨es,clock,hb,F,?_,hD⟩
 have h1:(es.toList.map (WideElems.rg Tryz.prog 3 dd)).foldr DataW.insert []=es':=by
  rw[hD]at e;injection e
 have h2:=length_sorted (es.toList.map (WideElems.rg Tryz.prog 3 dd));rw[h1]at h2;simp only[List.length_map,Array.length_toList]at h2;rw[<-h2];subst e;have h3:(es'.map Prod.fst).Nodup:=List.pairwise_map.2 hp
 have h4:(es'.map Prod.fst).length<=((List.range 1000).map fun(k:Nat)=>Lit.int .i64 (k:Int)).length:=List.Nodup.length_le_of_subset h3 fun x hx=>by
  obtain⟨p,hp,rfl⟩:=List.mem_map.1 hx;obtain⟨k,h5,h6⟩:=hk p.1 (by rw[has_eq,List.any_eq_true];exact⟨p,hp,WideAt.sameKey_self (hl p hp)⟩);rw[h6];exact List.mem_map.2 ⟨k,List.mem_range.2 h5,rfl⟩
 simpa using h4
section
variable{w w':World}{b:Nat}{S:Mk.St}
theorem bg.lt(h:bg w b S):b<w.heap.size:=by obtain⟨D,n,h,_⟩:=h;exact h.lt
theorem bg.on(h:bg w b S)(hb:w'.heap[b]?=w.heap[b]?):bg w' b S:=by obtain⟨D,n,⟨es,clock,h1,h2⟩,h3⟩:=h;exact⟨D,n,⟨es,clock,hb.trans h1,h2⟩,h3⟩
theorem bg.Rq(h:bg w b S){cs:Array Value}{t:TypeId}{fr:Nat×Nat}{k:Nat}(hk:w.heap[k]?=some (.cells cs t fr)):k≠b:=by rintro rfl;obtain⟨D,n,⟨es,clock,h1,_⟩,_⟩:=h;rw[h1]at hk;cases hk
theorem bg.same{S':Mk.St}(h:bg w b S)(e:∀k,k<1000->S'.said k=S.said k/\S'.out k=S.out k):bg w b S':=by obtain⟨D,n,h1,h2,h3⟩:=h;exact⟨D,n,h1,h2,fun k hk=>by rw[h3 k hk,(e k hk).1,(e k hk).2]⟩
theorem bg.made(w:World):bg (w.alloc (.map #[] 0)) w.heap.size ⟨fun _=>0,fun _=>false⟩:=⟨.map [],0,World.ownsMap_made w _ _ _,fun kl h=>by simp[has_eq]at h,fun _ _=>rfl⟩
theorem bg.look(h:bg w b S){k:Nat}(hk:k<1000)(w':World)(hb:w'.heap[b]?=w.heap[b]?):(Instr.lookup 122 (.map (some b)) (.int .i64 (k:Int)) false).run Tryz.prog w'=.ok (jK (S.said k) (S.out k)) w':=by obtain⟨D,n,hown,_,hD⟩:=h.on hb;obtain⟨v,ps,hrun,hv⟩:=hown.lookup jR Tryz.underlying122 (rZ w') (LR 0 false) (tT hk);obtain⟨s,o,rfl,hc⟩:=Ox hv;have h1:=congrArg Prod.fst hc;rw[hD k hk]at h1;obtain⟨h2,h3⟩:=Lc h1;rw[h2,h3];exact hrun
def ee(S:Mk.St)(k s:Nat)(o:Bool):Mk.St:=⟨Mk.b_ S.said k s,Mk.b_ S.out k o⟩
theorem bg.put(h:bg w b S){k:Nat}(hk:k<1000)(s:Nat)(o:Bool):∃w',(Instr.mapUpdate 122 (.map (some b)) (.int .i64 (k:Int)) (jK s o)).run Tryz.prog w=.ok () w'/\bg w' b (ee S k s o)/\w.grownBy w' (some b):=by
 obtain⟨D,n,hown,hh,hD⟩:=h;replace hown:=vf hown hh;have hM:=hown.isMap;obtain⟨w',hrun,h1,h2⟩:=hown.update jR Tryz.underlying122 (by decide) (tT hk) (LR s o);refine⟨w',hrun,⟨_,_,h1,fun kl hkl=>?_,fun m hm=>?_⟩,h2⟩
 ·by_cases e:kl=.int .i64 (k:Int);exact⟨k,hk,e⟩;rw[has_put_other e]at hkl;exact hh kl hkl
 ·by_cases e:m=k;subst e;rw[atKey_put_same hM (jR.key (tT hm))];show fU s o=fU (Mk.b_ S.said m s m) (Mk.b_ S.out m o m);rw[Mk.mM,Mk.mM];rw[atKey_put_other (pC e),hD m hm];show _=fU (Mk.b_ S.said k s m) (Mk.b_ S.out k o m);rw[Mk.kZ _ _ e,Mk.kZ _ _ e]
theorem bg.drop(h:bg w b S){k:Nat}(hk:k<1000)(h0:S.said k=0)(h1:S.out k=false)(ty:TypeId):∃w',(Builtin.delete_ #[122,3] ty #[.map (some b),.int .i64 (k:Int)]).run Tryz.prog w=.ok (.tuple #[]) w'/\bg w' b S/\w.grownBy w' (some b):=by
 obtain⟨D,n,hown,hh,hD⟩:=h;obtain⟨w',hrun,q1,q2⟩:=hown.drop jR Tryz.underlying122 (tT hk) ty;refine⟨w',hrun,⟨_,_,q1,fun kl hkl=>?_,fun m hm=>?_⟩,q2.grown⟩
 ·by_cases e:kl=.int .i64 (k:Int);exact⟨k,hk,e⟩;rw[has_del_other e]at hkl;exact hh kl hkl
 ·by_cases e:m=k;subst e;rw[atKey_del_same,h0,h1];rw[atKey_del_other (pC e),hD m hm]
end
end An
namespace An
open Mem Sc
def DT(S:Mk.St):List Value:=(List.range 600).map (fun i=>Value.int .i64 (S.said i:Int))++(List.range 600).map (fun i=>Value.bool (S.out i))
def o6(S:Mk.St):Array Value:=(DT S).toArray
theorem Ms(S:Mk.St):(DT S).length=1200:=by simp[DT]
theorem zV(S:Mk.St):(o6 S).size=1200:=by unfold o6;rw[List.size_toArray];exact Ms S
theorem B0(S:Mk.St){i:Nat}(hi:i<600):(o6 S)[i]?=some (.int .i64 (S.said i:Int)):=by unfold o6 DT;rw[List.getElem?_toArray,List.getElem?_append_left (by simpa using hi),List.getElem?_map,List.getElem?_range hi];rfl
theorem AJ(S:Mk.St){i:Nat}(hi:i<600):(o6 S)[600+i]?=some (.bool (S.out i)):=by unfold o6 DT;rw[List.getElem?_toArray,List.getElem?_append_right (by simp),List.getElem?_map,List.length_map,List.length_range,Nat.add_sub_cancel_left,List.getElem?_range hi];rfl
theorem uF{a:Array Value}{S:Mk.St}(hs:a.size=1200)(h1:∀i,i<600->a[i]?=some (.int .i64 (S.said i:Int)))(h2:∀i,i<600->a[600+i]?=some (.bool (S.out i))):a=o6 S:=by
 apply Array.ext_getElem?;intro i;by_cases hi:i<600;rw[h1 i hi,B0 S hi]
 ·by_cases hj:i<1200;obtain⟨k,rfl⟩:∃k,i=600+k:=⟨i-600,by omega⟩;rw[h2 k (by omega),AJ S (by omega)];rw[Array.getElem?_eq_none (by omega),Array.getElem?_eq_none (by rw[zV];omega)]
theorem Nt(S:Mk.St){k:Nat}(hk:k<600)(s:Nat):(o6 S).setIfInBounds k (.int .i64 (s:Int))=o6 ⟨Mk.b_ S.said k s,S.out⟩:=by
 refine uF (by rw[Array.size_setIfInBounds,zV]) (fun i hi=>?_) fun i hi=>?_
 rw[Array.getElem?_setIfInBounds,zV];by_cases e:k=i;subst e;rw[if_pos rfl,if_pos (by omega)];exact congrArg some (by dsimp only;rw[Mk.mM]);rw[if_neg e,B0 S hi];exact congrArg some (by dsimp only;rw[Mk.kZ _ _ (Ne.symm e)]);rw[Array.getElem?_setIfInBounds,if_neg (by omega),AJ S hi]
def jN(w:World)(b:Nat)(S:Mk.St):Prop:=Has w b (o6 S) 101
section
variable{w w':World}{b k:Nat}{S:Mk.St}
theorem jN.said(h:jN w b S)(hk:k<600):w.cell? ⟨b,k,none⟩=some (.int .i64 (S.said k:Int)):=by rw[Has.cell h k,B0 S hk]
theorem jN.out(h:jN w b S)(hk:k<600):w.cell? ⟨b,600+k,none⟩=some (.bool (S.out k)):=by rw[Has.cell h (600+k),AJ S hk]
theorem jN.below(h:jN w b S)(hb:Bl w w'):jN w' b S:=bY hb h (Has.lt h)
theorem jN.say(h:jN w b S)(hk:k<600)(s:Nat):jN (w.setCell ⟨b,k,none⟩ (.int .i64 (s:Int))) b ⟨Mk.b_ S.said k s,S.out⟩:=by unfold jN;rw[<-Nt S hk s];exact Has.set (i:=k) h _
theorem jN.free(h:jN w b S)(i:Nat):w.frozen? ⟨b,i,none⟩=false:=Has.free h i
end
