import Derived.Test.YtkbjaadjnbgfbaaGreatDoorHIda
import Derived.WalkKit
set_option maxRecDepth 100000
set_option maxHeartbeats 4000000
namespace Go.Proofs.YtkbjaadjnbgfbaaGreatDoor
namespace Md
def jA(l:List Int):List Int:=l.mergeSort fun x y=>decide (x<=y)
theorem JK(l:List Int):(jA l).Perm l:=List.mergeSort_perm _ _
theorem LP(l:List Int):(jA l).length=l.length:=List.length_mergeSort l
theorem S0(l:List Int):(jA l).Pairwise (fun x y=>x<=y):=by have h:=List.pairwise_mergeSort (le:=fun x y:Int=>decide (x<=y)) (by intro a b c;simp;omega) (by intro a b;simp;omega) l;exact h.imp (by intro a b h;simpa using h)
def oK(l:List Int):Int:=(jA (l.take 11)).getD ((l.take 11).length/2) 0
theorem CS:oK []=0:=by simp[oK,jA]
def less(x:Int)(l:List Int):Nat:=l.countP fun y=>decide (y<x)
def same(x:Int)(l:List Int):Nat:=l.countP fun y=>decide (y=x)
def lE(x:Int)(l:List Int):Prop:=less x l<=l.length/2/\l.length/2<less x l+same x l
instance (x:Int)(l:List Int):Decidable (lE x l):=by unfold lE;infer_instance
variable{l m:List Int}
theorem Qd(h:l.Perm m)(x:Int):less x l=less x m:=h.countP_eq _
theorem O'(h:l.Perm m)(x:Int):same x l=same x m:=h.countP_eq _
theorem JV(x:Int)(l:List Int):less x l+same x l=l.countP fun y=>decide (y<=x):=by
 unfold less same;induction l with
 | nil=>rfl
 | cons a l ih=>
  simp only[List.countP_cons];by_cases h1:a<x;simp[h1,show a≠x by omega,show a<=x by omega];omega
  ·by_cases h2:a=x;simp[h2];omega;simp[h1,h2,show¬a<=x by omega];omega
theorem Mq{x y:Int}(hx:lE x l)(hy:lE y l):x=y:=by
 have key:∀a b:Int,a<b->l.countP (fun y=>decide (y<=a))<=l.countP (fun y=>decide (y<b)):=fun a b hab=>
  List.countP_mono_left fun z _ hz=>by simp at hz|-;omega
 obtain⟨h1,h2⟩:=hx;obtain⟨h3,h4⟩:=hy;rw[JV]at h2 h4;unfold less at h1 h3;rcases Int.lt_trichotomy x y with h|h|h
 have:=key x y h;omega;exact h;have:=key y x h;omega
theorem RG(l:List Int)(hs:l.Pairwise (fun x y=>x<=y))(h:0<l.length):lE (l.getD (l.length/2) 0) l:=by
 have hk:l.length/2<l.length:=by omega
 generalize hK:l.length/2=k at hk;have hg:l.getD k 0=l[k]:=by simp[hk]
 have hle:∀i j (hi:i<l.length) (hj:j<l.length),i<=j->l[i]<=l[j]:=by
  intro i j hi hj hij;rcases Nat.lt_or_eq_of_le hij with h'|rfl
  exact mw.1 hs i j hi hj h';exact Int.le_refl _
 unfold lE;rw[JV,hK,hg];constructor
 ·unfold less;have e:l=l.take k++l.drop k:=(iN k l).symm;rw[show List.countP (fun y=>decide (y<l[k])) l=List.countP (fun y=>decide (y<l[k])) (l.take k++l.drop k) by rw[iN],List.countP_append];have h1:List.countP (fun y=>decide (y<l[k])) (l.take k)<=k:=ax List.countP_le_length (by simp;omega)
  have h2:List.countP (fun y=>decide (y<l[k])) (l.drop k)=0:=by
   rw[List.countP_eq_zero];intro a ha;obtain⟨i,hi,rfl⟩:=mF ha;simp at hi;have:=hle k (k+i) hk (by omega) (by omega);simp;omega
  omega
 ·rw[show List.countP (fun y=>decide (y<=l[k])) l=List.countP (fun y=>decide (y<=l[k])) (l.take (k+1)++l.drop (k+1)) by rw[iN],List.countP_append]
  have h1:List.countP (fun y=>decide (y<=l[k])) (l.take (k+1))=(l.take (k+1)).length:=by
   rw[List.countP_eq_length];intro a ha;obtain⟨i,hi,rfl⟩:=mF ha;simp at hi;have:=hle i k (by omega) hk (by omega);simpa using this
  rw[h1];simp;omega
theorem JN(h:l.Perm m){x:Int}(hx:lE x l):lE x m:=by unfold lE at*;rw[<-Qd h,<-O' h,<-h.length_eq];exact hx
theorem ID(l:List Int)(h:0<l.length):lE (oK l) (l.take 11):=by
 have hl:=LP (l.take 11);have h2:0<(l.take 11).length:=by simp;omega
 have:=RG (jA (l.take 11)) (S0 _) (by omega);rw[hl]at this;exact JN (JK _) this
theorem Ba(l:List Int)(h:0<l.length):oK l∈l.take 11:=by
 have hk:(l.take 11).length/2<(jA (l.take 11)).length:=by rw[LP];simp;omega
 unfold oK;rw[dC,aQ hk,jV];exact(JK _).mem_iff.1 (ij hk)
def last(l:List Int):List Int:=l.reverse.take 11
theorem Ju(l:List Int):(last l).length=min l.length 11:=by simp[last];omega
end Md
namespace Tp
structure nJ (H:Nat->Nat->Bool):Prop where
 Zi:∀x,H x x=false
 trans:∀x y z,H x y=true->H y z=true->H x z=true
 tri:∀x y,x≠y->H x y=true\/H y x=true
variable{H:Nat->Nat->Bool}
theorem nJ.asym(t:nJ H){x y:Nat}(h:H x y=true):H y x=false:=by
 cases e:H y x with
 | false=>rfl
 | true=>have:=t.trans _ _ _ h e;rw[t.Zi]at this;cases this
def kK(H:Nat->Nat->Bool)(l:List Nat):Prop:=l.Pairwise fun a b=>H a b=true
theorem kK.nil(H:Nat->Nat->Bool):kK H []:=List.Pairwise.nil
theorem kK.nodup(t:nJ H){l:List Nat}(h:kK H l):l.Nodup:=
 h.imp fun hab e=>by subst e;rw[t.Zi]at hab;cases hab
variable{l:List Nat}
theorem kK.sub{l':List Nat}(h:kK H l)(s:l'.Sublist l):kK H l':=List.Pairwise.sublist s h
theorem kK.eq(t:nJ H):∀{l l':List Nat},kK H l->kK H l'->(∀x,x∈l↔x∈l')->l=l'
 | [],[],_,_,_=>rfl
 | [],b::_,_,_,h=>absurd ((h b).2 (by simp)) (by simp)
 | a::_,[],_,_,h=>absurd ((h a).1 (by simp)) (by simp)
 | a::l,b::l',hs,hs',h=>by
  have ha:=mn.1 hs;have hb:=mn.1 hs'
  have e:a=b:=by
   rcases cJ.1 ((h a).1 (by simp))with e|e
   exact e
   ·rcases cJ.1 ((h b).2 (by simp))with e'|e'
    exact e'.symm;have h1:=ha.1 b e';have h2:=hb.1 a e;rw[t.asym h1]at h2;cases h2
  subst e
  have:=kK.eq t ha.2 hb.2 (fun x=>by
   have hx:=h x;simp only[cJ]at hx;constructor
   ·intro hm;rcases hx.1 (.inr hm)with e|e
    subst e;have:=ha.1 _ hm;rw[t.Zi]at this;cases this;exact e
   ·intro hm;rcases hx.2 (.inr hm)with e|e
    subst e;have:=hb.1 _ hm;rw[t.Zi]at this;cases this;exact e)
  rw[this]
def spot(H:Nat->Nat->Bool)(l:List Nat)(x:Nat):Nat:=(l.takeWhile fun y=>H y x).length
theorem Ap(H:Nat->Nat->Bool)(l:List Nat)(x:Nat):spot H l x<=l.length:=(List.takeWhile_sublist _).length_le
theorem BV{H:Nat->Nat->Bool}{x:Nat}:∀{l:List Nat}{k:Nat},k<=l.length->(∀i (h:i<l.length),i<k->H l[i] x=true)->(∀h:k<l.length,H l[k] x=false)->spot H l x=k
 | [],k,hk,_,_=>by simp at hk;subst hk;rfl
 | a::l,0,_,_,h2=>by
  have:=h2 (by simp);simp at this;simp[spot,this]
 | a::l,k+1,hk,h1,h2=>by
  have h0:=h1 0 (by simp) (by omega);have:=BV (H:=H) (x:=x) (l:=l) (k:=k) (by simpa using hk) (fun i h hi=>h1 (i+1) (Nat.succ_lt_succ h) (by omega)) (fun h=>h2 (Nat.succ_lt_succ h));simp at h0;simp[spot,h0]at this|-;exact this
theorem AH{H:Nat->Nat->Bool}{x:Nat}:∀{l:List Nat}{i:Nat}(h:i<l.length),i<spot H l x->H l[i] x=true
 | [],i,h,_=>by simp at h
 | a::l,i,h,hi=>by
  cases e:H a x with
  | false=>simp[spot,e]at hi
  | true=>
   cases i with
   | zero=>simpa using e
   | succ i=>
    simp[spot,e]at hi;simpa using AH (H:=H) (x:=x) (l:=l) (i:=i) (by simpa using h) hi
theorem yt{H:Nat->Nat->Bool}{x:Nat}:∀{l:List Nat}(h:spot H l x<l.length),H (l[spot H l x]) x=false
 | [],h=>by simp at h
 | a::l,h=>by
  cases e:H a x with
  | false=>simp[spot,e]
  | true=>
   have:=yt (H:=H) (x:=x) (l:=l) (by simpa[spot,e]using h);simpa[spot,e]using this
theorem Qi(t:nJ H){x:Nat}{l:List Nat}(hs:kK H l){i:Nat}(h:i<l.length)(hi:spot H l x<=i):H l[i] x=false:=by
 rcases fQ (spot H l x) i with h1|h1
 ·cases e:H l[i] x with
  | false=>rfl
  | true=>
   have h2:=(mw.1 hs) (spot H l x) i (by omega) h h1;have h3:=yt (H:=H) (x:=x) (l:=l) (by omega);rw[t.trans _ _ _ h2 e]at h3;cases h3
 ·have:i=spot H l x:=by omega
  subst this;exact yt h
theorem Uc(t:nJ H){x:Nat}{l:List Nat}(hs:kK H l)(hx:x∈l):∃h:spot H l x<l.length,l[spot H l x]=x:=by obtain⟨i,hi,rfl⟩:=mF hx;have e:spot H l l[i]=i:=BV (by omega) (fun j hj hji=>(mw.1 hs) j i hj hi hji) (fun _=>t.Zi _);exact⟨by omega,by simp[e]⟩
theorem JQ(t:nJ H){x:Nat}{l:List Nat}(hs:kK H l):x∈l↔∃h:spot H l x<l.length,l[spot H l x]=x:=⟨Uc t hs,fun⟨h,e⟩=>by rw[<-e];exact ij _⟩
def ins(H:Nat->Nat->Bool)(l:List Nat)(x:Nat):List Nat:=l.take (spot H l x)++x::l.drop (spot H l x)
variable{x:Nat}
theorem wS{y:Nat}:y∈ins H l x↔y=x\/y∈l:=by
 have:y∈l↔y∈l.take (spot H l x)\/y∈l.drop (spot H l x):=by rw[<-List.mem_append,iN]
 simp only[ins,dL,cJ];rw[this];constructor;rintro(h|h|h);exact .inr (.inl h);exact .inl h;exact .inr (.inr h);rintro(h|h|h);exact .inr (.inl h);exact .inl h;exact .inr (.inr h)
theorem R8(H:Nat->Nat->Bool)(l:List Nat)(x:Nat):(ins H l x).length=l.length+1:=by have:=Ap H l x;simp[ins];omega
theorem kK.ins(t:nJ H){l:List Nat}(hs:kK H l){x:Nat}(hx:x∉l):kK H (ins H l x):=by
 have h0:∀y∈l.take (spot H l x),H y x=true:=by
  intro y hy;obtain⟨i,hi,rfl⟩:=mF hy;rw[eM]at hi;rw[List.getElem_take];exact AH (by omega) (by omega)
 have h1:∀y∈l.drop (spot H l x),H x y=true:=by
  intro y hy;obtain⟨i,hi,rfl⟩:=mF hy;rw[gD]at hi;rw[List.getElem_drop];have h2:=Qi t hs (x:=x) (i:=spot H l x+i) (by omega) (by omega);rcases t.tri x (l[spot H l x+i]'(by omega)) (fun e=>hx (e▸ij _))with h3|h3
  exact h3;rw[h2]at h3;cases h3
 unfold Tp.ins kK;rw[List.pairwise_append];refine⟨hs.sub (List.take_sublist _ _),?_,?_⟩;rw[mn];exact⟨h1,hs.sub (List.drop_sublist _ _)⟩
 ·intro a ha b hb;rcases cJ.1 hb with e|e
  subst e;exact h0 _ ha;exact t.trans _ _ _ (h0 _ ha) (h1 _ e)
def jA(H:Nat->Nat->Bool)(ms:List Nat):List Nat:=ms.foldl (Tp.ins H) []
theorem se(t:nJ H):∀(ms out:List Nat),kK H out->ms.Nodup->(∀x∈ms,x∉out)->kK H (ms.foldl (Tp.ins H) out)/\∀x,x∈ms.foldl (Tp.ins H) out↔x∈ms\/x∈out
 | [],out,h,_,_=>⟨h,fun x=>by simp⟩
 | m::ms,out,h,hn,hd=>by
  have hn':=List.nodup_cons.1 hn
  have:=se t ms (Tp.ins H out m) (h.ins t (hd m (by simp))) hn'.2 (fun x hx hc=>by
   rcases wS.1 hc with e|e
   subst e;exact hn'.1 hx;exact hd x (by simp[hx]) e)
  refine⟨this.1,fun x=>?_⟩;rw[jZ,this.2,wS,cJ];constructor;rintro(h|h|h);exact .inl (.inr h);exact .inl (.inl h);exact .inr h;rintro((h|h)|h);exact .inr (.inl h);exact .inl h;exact .inr (.inr h)
theorem xG(t:nJ H){ms:List Nat}(hn:ms.Nodup):kK H (jA H ms):=(se t ms [] (kK.nil H) hn (by simp)).1
theorem Au(t:nJ H){ms:List Nat}(hn:ms.Nodup){x:Nat}:x∈jA H ms↔x∈ms:=by have:=(se t ms [] (kK.nil H) hn (by simp)).2 x;simpa[jA]using this
theorem Gm(t:nJ H){ms l:List Nat}(hn:ms.Nodup)(hs:kK H l)(hm:∀x,x∈l↔x∈ms):jA H ms=l:=
 kK.eq t (xG t hn) hs fun x=>(Au t hn).trans (hm x).symm
def ig(H:Nat->Nat->Bool)(l:List Nat)(x:Nat):Nat:=(l.takeWhile fun y=>!H x y).length
theorem MI(t:nJ H){x:Nat}:∀{l:List Nat},kK H l->l.filter (fun y=>!H x y)=l.take (ig H l x)
 | [],_=>rfl
 | a::l,hs=>by
  have hc:=mn.1 hs;cases e:H x a with
  | false=>
   have:=MI t (x:=x) hc.2;simp[ig,e]at this|-;exact this
  | true=>
   have:l.filter (fun y=>!H x y)=[]:=by
    rw[qj];intro y hy;simp[t.trans _ _ _ e (hc.1 y hy)]
   simp[ig,e,this]
def CO(wt:Nat->Nat)(x y:Nat):Bool:=decide (wt y<wt x)||(wt x==wt y&&decide (x<y))
theorem zK(wt:Nat->Nat):nJ (CO wt) where
 Zi x:=by simp[CO]
 trans x y z:=by simp[CO];omega
 tri x y:=by simp[CO];omega
def marked(n:Nat)(V0:Nat->Bool):List Nat:=(List.range n).filter V0
theorem Te(n:Nat)(V0:Nat->Bool):(marked n V0).Nodup:=List.nodup_range.filter _
theorem OA{n:Nat}{V0:Nat->Bool}:x∈marked n V0↔x<n/\V0 x=true:=by simp[marked]
theorem J3(H:Nat->Nat->Bool)(ms:List Nat)(m:Nat):jA H (ms++[m])=Tp.ins H (jA H ms) m:=by simp[jA,List.foldl_append]
theorem NY(n:Nat)(V0:Nat->Bool):marked (n+1) V0=marked n V0++(if V0 n=true then[n] else[]):=by simp only[marked,List.range_succ,List.filter_append,List.filter_cons,List.filter_nil]
