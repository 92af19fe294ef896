import Derived.Test.YtkbjaadjnbgfbaaGreatDoorWBunQ33
set_option maxRecDepth 100000
set_option maxHeartbeats 4000000
namespace Go.Proofs.YtkbjaadjnbgfbaaGreatDoor.An
open Go.RowKit Mem Sc Go.Maps
theorem intLaw:Keyed Tryz.prog 3:=int_keyed Tryz.underlying3
def noteA (s:Nat) (o:Bool):Array Value:=#[.int .i64 (s:Int),.bool o]
def noteV (s:Nat) (o:Bool):Value:=.agg (noteA s o)
def noteD (s:Nat) (o:Bool):DataW Unit:=.agg [.lit (.int .i64 (s:Int)),.lit (.bool o)]
def noteElem (v:Value):Option (DataW Unit × List MemPlace) :=
 match v with
 | .agg cs=>match cs.toList with
  | [.int .i64 a,.bool o]=>if 0<=a then some (noteD a.toNat o,[]) else none
  | _=>none
 | _=>none
theorem qic_ (s:Nat) (o:Bool):noteElem (noteV s o)=some (noteD s o,[]):=by
 simp[noteElem,noteV,noteA]
theorem qmu_ {v:Value} {z:DataW Unit × List MemPlace} (h:noteElem v=some z):∃ s o,v=noteV s o/\z=(noteD s o,[]):=by
 unfold noteElem at h;split at h
 ·rename_i cs;split at h
  ·rename_i a o he;split at h
   ·rename_i h0;obtain ⟨s,rfl⟩:=Int.eq_ofNat_of_zero_le h0;rw[Int.toNat_natCast] at h;refine ⟨s,o,?_,(Option.some.inj h).symm⟩;unfold noteV noteA;rw[<-he]
   cases h
  cases h
 cases h
theorem qzx_ {s t:Nat} {o p:Bool} (h:noteD s o=noteD t p):s=t/\o=p:=by
 unfold noteD at h;injection h with h
 injection h with h1 h2
 injection h2 with h2 _
 injection h1 with h1
 injection h1 with _ h1
 injection h2 with h2
 injection h2 with h2
 exact ⟨by omega,h2⟩
variable {k:Nat}
theorem wf_nat (hk:k<1000):(Lit.int .i64 (k:Int)).wf=true:=WalkArith.wf_i64 (by omega)
theorem qpd_ (hk:k<1000):keyOf Tryz.prog 3 (.int .i64 (k:Int))=some (.int .i64 (k:Int)):=keyOf_int_mk Tryz.underlying3 (wf_nat hk)
theorem lit_ne {m:Nat} (h:k ≠ m):(Lit.int .i64 (k:Int)) ≠ Lit.int .i64 (m:Int):=fun e=>h (by injection e with _ e;omega)
def MapN (w:World) (b:Nat) (S:Mk.St):Prop :=
 ∃ (D:DataW Unit) (n:Nat),w.ownsMap Tryz.prog 3 noteElem b n D/\(∀kl,Maps.has D kl=true->∃ k:Nat,k<1000/\kl = .int .i64 (k:Int))/\
  ∀ k:Nat,k<1000->D.atKey (.int .i64 (k:Int)) (noteD 0 false)=noteD (S.said k) (S.out k)
theorem zeroNote (w:World):(zeroValue 121).run Tryz.prog w = .ok (noteV 0 false) w:=by kernel_rfl
theorem own_few {w:World} {b n:Nat} {D:DataW Unit} (h:w.ownsMap Tryz.prog 3 noteElem b n D) (hk:∀ kl,Maps.has D kl=true->∃ k:Nat,k<1000/\kl = .int .i64 (k:Int)):w.ownsMap Tryz.prog 3 noteElem b 1000 D:=by
 obtain ⟨es',e,hp,hl⟩:=h.entries intLaw;obtain ⟨es,clock,hb,F,hs,hD⟩:=h;refine ⟨es,clock,hb,F,?_,hD⟩
 have h1:(es.toList.map (WideElems.rg Tryz.prog 3 noteElem)).foldr DataW.insert []=es':=by
  rw[hD] at e;injection e
 have h2:=length_sorted (es.toList.map (WideElems.rg Tryz.prog 3 noteElem));rw[h1] at h2;simp only[List.length_map,Array.length_toList] at h2;rw[<-h2];subst e;have h3:(es'.map Prod.fst).Nodup:=List.pairwise_map.2 hp
 have h4:(es'.map Prod.fst).length<=((List.range 1000).map fun (k:Nat)=>Lit.int .i64 (k:Int)).length:=List.Nodup.length_le_of_subset h3 fun x hx=>by
  obtain ⟨p,hp,rfl⟩:=List.mem_map.1 hx;obtain ⟨k,h5,h6⟩:=hk p.1 (by rw[has_eq,List.any_eq_true];exact ⟨p,hp,WideAt.sameKey_self (hl p hp)⟩);rw[h6];exact List.mem_map.2 ⟨k,List.mem_range.2 h5,rfl⟩
 simpa using h4
section
variable {w w':World} {b:Nat} {S:Mk.St}
theorem MapN.lt (h:MapN w b S):b<w.heap.size:=by obtain ⟨D,n,h,_⟩:=h;exact h.lt
theorem MapN.on (h:MapN w b S) (hb:w'.heap[b]?=w.heap[b]?):MapN w' b S:=by
 obtain ⟨D,n,⟨es,clock,h1,h2⟩,h3⟩:=h;exact ⟨D,n,⟨es,clock,hb.trans h1,h2⟩,h3⟩
theorem MapN.not_cells (h:MapN w b S) {cs:Array Value} {t:TypeId} {fr:Nat × Nat} {k:Nat} (hk:w.heap[k]?=some (.cells cs t fr)):k ≠ b:=by
 rintro rfl;obtain ⟨D,n,⟨es,clock,h1,_⟩,_⟩:=h;rw[h1] at hk;cases hk
theorem MapN.same {S':Mk.St} (h:MapN w b S) (e:∀ k,k<1000->S'.said k=S.said k/\S'.out k=S.out k):MapN w b S':=by
 obtain ⟨D,n,h1,h2,h3⟩:=h;exact ⟨D,n,h1,h2,fun k hk=>by rw[h3 k hk,(e k hk).1,(e k hk).2]⟩
theorem MapN.made (w:World):MapN (w.alloc (.map #[] 0)) w.heap.size ⟨fun _=>0,fun _=>false⟩ :=
 ⟨.map [],0,World.ownsMap_made w _ _ _,fun kl h=>by simp[has_eq] at h,fun _ _=>rfl⟩
theorem MapN.look (h:MapN w b S) {k:Nat} (hk:k<1000) (w':World) (hb:w'.heap[b]?=w.heap[b]?):(Instr.lookup 122 (.map (some b)) (.int .i64 (k:Int)) false).run Tryz.prog w' = .ok (noteV (S.said k) (S.out k)) w':=by
 obtain ⟨D,n,hown,_,hD⟩:=h.on hb;obtain ⟨v,ps,hrun,hv⟩:=hown.lookup intLaw Tryz.underlying122 (zeroNote w') (qic_ 0 false) (qpd_ hk);obtain ⟨s,o,rfl,hc⟩:=qmu_ hv;have h1:=congrArg Prod.fst hc;rw[hD k hk] at h1;obtain ⟨h2,h3⟩:=qzx_ h1;rw[h2,h3];exact hrun
def putS (S:Mk.St) (k s:Nat) (o:Bool):Mk.St:=⟨Mk.upd S.said k s,Mk.upd S.out k o⟩
theorem MapN.put (h:MapN w b S) {k:Nat} (hk:k<1000) (s:Nat) (o:Bool):∃ w',(Instr.mapUpdate 122 (.map (some b)) (.int .i64 (k:Int)) (noteV s o)).run Tryz.prog w = .ok () w'/\MapN w' b (putS S k s o)/\w.grownBy w' (some b):=by
 obtain ⟨D,n,hown,hh,hD⟩:=h;replace hown:=own_few hown hh;have hM:=hown.isMap;obtain ⟨w',hrun,h1,h2⟩:=hown.update intLaw Tryz.underlying122 (by decide) (qpd_ hk) (qic_ s o);refine ⟨w',hrun,⟨_,_,h1,fun kl hkl=>?_,fun m hm=>?_⟩,h2⟩
 ·by_cases e:kl = .int .i64 (k:Int);exact ⟨k,hk,e⟩;rw[has_put_other e] at hkl;exact hh kl hkl
 ·by_cases e:m=k;subst e;rw[atKey_put_same hM (intLaw.key (qpd_ hm))];show noteD s o=noteD (Mk.upd S.said m s m) (Mk.upd S.out m o m);rw[Mk.qdp_,Mk.qdp_];rw[atKey_put_other (lit_ne e),hD m hm];show _=noteD (Mk.upd S.said k s m) (Mk.upd S.out k o m);rw[Mk.qbz_ _ _ e,Mk.qbz_ _ _ e]
theorem MapN.drop (h:MapN w b S) {k:Nat} (hk:k<1000) (h0:S.said k=0) (h1:S.out k=false) (ty:TypeId):∃ w',(Builtin.delete_ #[122,3] ty #[.map (some b),.int .i64 (k:Int)]).run Tryz.prog w = .ok (.tuple #[]) w'/\MapN w' b S/\w.grownBy w' (some b):=by
 obtain ⟨D,n,hown,hh,hD⟩:=h;obtain ⟨w',hrun,q1,q2⟩:=hown.drop intLaw Tryz.underlying122 (qpd_ hk) ty;refine ⟨w',hrun,⟨_,_,q1,fun kl hkl=>?_,fun m hm=>?_⟩,q2.grown⟩
 ·by_cases e:kl = .int .i64 (k:Int);exact ⟨k,hk,e⟩;rw[has_del_other e] at hkl;exact hh kl hkl
 ·by_cases e:m=k;subst e;rw[atKey_del_same,h0,h1];rw[atKey_del_other (lit_ne e),hD m hm]
end
end Go.Proofs.YtkbjaadjnbgfbaaGreatDoor.An
namespace Go.Proofs.YtkbjaadjnbgfbaaGreatDoor.An
open Go.RowKit Mem Sc
def mkL (S:Mk.St):List Value:=(List.range 600).map (fun i=>Value.int .i64 (S.said i:Int)) ++ (List.range 600).map (fun i=>Value.bool (S.out i))
def mkM (S:Mk.St):Array Value:=(mkL S).toArray
theorem qvi_ (S:Mk.St):(mkL S).length=1200:=by simp[mkL]
theorem qha_ (S:Mk.St):(mkM S).size=1200:=by unfold mkM;rw[List.size_toArray];exact qvi_ S
theorem qjg_ (S:Mk.St) {i:Nat} (hi:i<600):(mkM S)[i]?=some (.int .i64 (S.said i:Int)):=by
 unfold mkM mkL;rw[List.getElem?_toArray,List.getElem?_append_left (by simpa using hi),List.getElem?_map,List.getElem?_range hi];rfl
theorem qpe_ (S:Mk.St) {i:Nat} (hi:i<600):(mkM S)[600+i]?=some (.bool (S.out i)):=by
 unfold mkM mkL;rw[List.getElem?_toArray,List.getElem?_append_right (by simp),List.getElem?_map,List.length_map,List.length_range,Nat.add_sub_cancel_left,List.getElem?_range hi];rfl
theorem qadr_ {a:Array Value} {S:Mk.St} (hs:a.size=1200) (h1:∀ i,i<600->a[i]?=some (.int .i64 (S.said i:Int))) (h2:∀ i,i<600->a[600+i]?=some (.bool (S.out i))):a=mkM S:=by
 apply Array.ext_getElem?;intro i;by_cases hi:i<600;rw[h1 i hi,qjg_ S hi]
 ·by_cases hj:i<1200;obtain ⟨k,rfl⟩:∃ k,i=600+k:=⟨i - 600,by omega⟩;rw[h2 k (by omega),qpe_ S (by omega)];rw[Array.getElem?_eq_none (by omega),Array.getElem?_eq_none (by rw[qha_];omega)]
theorem qmv_ (S:Mk.St) {k:Nat} (hk:k<600) (s:Nat):(mkM S).setIfInBounds k (.int .i64 (s:Int))=mkM ⟨Mk.upd S.said k s,S.out⟩:=by
 refine qadr_ (by rw[Array.size_setIfInBounds,qha_]) (fun i hi=>?_) fun i hi=>?_
 rw[Array.getElem?_setIfInBounds,qha_];by_cases e:k=i;subst e;rw[if_pos rfl,if_pos (by omega)];exact congrArg some (by dsimp only;rw[Mk.qdp_]);rw[if_neg e,qjg_ S hi];exact congrArg some (by dsimp only;rw[Mk.qbz_ _ _ (Ne.symm e)]);rw[Array.getElem?_setIfInBounds,if_neg (by omega),qpe_ S hi]
theorem qqz_ (S:Mk.St) {k:Nat} (hk:k<600) (o:Bool):(mkM S).setIfInBounds (600+k) (.bool o)=mkM ⟨S.said,Mk.upd S.out k o⟩:=by
 refine qadr_ (by rw[Array.size_setIfInBounds,qha_]) (fun i hi=>?_) fun i hi=>?_
 rw[Array.getElem?_setIfInBounds,if_neg (by omega),qjg_ S hi];rw[Array.getElem?_setIfInBounds,qha_];by_cases e:k=i;subst e;rw[if_pos rfl,if_pos (by omega)];exact congrArg some (by dsimp only;rw[Mk.qdp_]);rw[if_neg (by omega),qpe_ S hi];exact congrArg some (by dsimp only;rw[Mk.qbz_ _ _ (Ne.symm e)])
def RkS (w:World) (b:Nat) (S:Mk.St):Prop:=Has w b (mkM S) 101
section
variable {w w':World} {b k:Nat} {S:Mk.St}
theorem RkS.said (h:RkS w b S) (hk:k<600):w.cell? ⟨b,k,none⟩=some (.int .i64 (S.said k:Int)):=by rw[Has.cell h k,qjg_ S hk]
theorem RkS.out (h:RkS w b S) (hk:k<600):w.cell? ⟨b,600+k,none⟩=some (.bool (S.out k)):=by rw[Has.cell h (600+k),qpe_ S hk]
theorem RkS.below (h:RkS w b S) (hb:Bl w w'):RkS w' b S:=qd_ hb h (Has.lt h)
theorem RkS.say (h:RkS w b S) (hk:k<600) (s:Nat):RkS (w.setCell ⟨b,k,none⟩ (.int .i64 (s:Int))) b ⟨Mk.upd S.said k s,S.out⟩:=by
 unfold RkS;rw[<-qmv_ S hk s];exact Has.set (i:=k) h _
theorem RkS.rule (h:RkS w b S) (hk:k<600) (o:Bool):RkS (w.setCell ⟨b,600+k,none⟩ (.bool o)) b ⟨S.said,Mk.upd S.out k o⟩:=by
 unfold RkS;rw[<-qqz_ S hk o];exact Has.set (i:=600+k) h _
theorem RkS.free (h:RkS w b S) (i:Nat):w.frozen? ⟨b,i,none⟩=false:=Has.free h i
end
end Go.Proofs.YtkbjaadjnbgfbaaGreatDoor.An
