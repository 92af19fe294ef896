import Derived.WalkKit
set_option maxRecDepth 100000
set_option maxHeartbeats 4000000
namespace Go.Proofs.YtkbjaadjnbgfbaaGreatDoor
namespace Md
def kp(l:List Int):List Int:=l.mergeSort fun x y=>decide (x<=y)
theorem EF(l:List Int):(kp l).Perm l:=List.mergeSort_perm _ _
theorem Io(l:List Int):(kp l).length=l.length:=List.length_mergeSort l
theorem NJ(l:List Int):(kp l).Pairwise (fun x y=>x<=y):=by have h:=List.pairwise_mergeSort (le:=fun x y:Int=>decide (x<=y)) (by intro a b c;simp;omega) (by intro a b;simp;omega) l;exact h.imp (by intro a b h;simpa using h)
def km(l:List Int):Int:=(kp (l.take 11)).getD ((l.take 11).length/2) 0
theorem ye:km []=0:=by simp[km,kp]
def less(x:Int)(l:List Int):Nat:=l.countP fun y=>decide (y<x)
def same(x:Int)(l:List Int):Nat:=l.countP fun y=>decide (y=x)
def ig(x:Int)(l:List Int):Prop:=less x l<=l.length/2/\l.length/2<less x l+same x l
instance (x:Int)(l:List Int):Decidable (ig x l):=by unfold ig;infer_instance
variable{l m:List Int}
theorem Li(h:l.Perm m)(x:Int):less x l=less x m:=h.countP_eq _
theorem JZ(h:l.Perm m)(x:Int):same x l=same x m:=h.countP_eq _
theorem LQ(x:Int)(l:List Int):less x l+same x l=l.countP fun y=>decide (y<=x):=by
 unfold less same;induction l with
 | nil=>rfl
 | cons a l ih=>
  simp only[List.countP_cons];by_cases h1:a<x;simp[h1,show a≠x by omega,show a<=x by omega];omega
  ·by_cases h2:a=x;simp[h2];omega;simp[h1,h2,show¬a<=x by omega];omega
theorem MF{x y:Int}(hx:ig x l)(hy:ig y l):x=y:=by
 have key:∀a b:Int,a<b->l.countP (fun y=>decide (y<=a))<=l.countP (fun y=>decide (y<b)):=fun a b hab=>
  List.countP_mono_left fun z _ hz=>by simp at hz|-;omega
 obtain⟨h1,h2⟩:=hx;obtain⟨h3,h4⟩:=hy;rw[LQ]at h2 h4;unfold less at h1 h3;rcases Int.lt_trichotomy x y with h|h|h
 have:=key x y h;omega;exact h;have:=key y x h;omega
theorem QT(l:List Int)(hs:l.Pairwise (fun x y=>x<=y))(h:0<l.length):ig (l.getD (l.length/2) 0) l:=by
 have hk:l.length/2<l.length:=by omega
 generalize hK:l.length/2=k at hk;have hg:l.getD k 0=l[k]:=by simp[hk]
 have hle:∀i j (hi:i<l.length) (hj:j<l.length),i<=j->l[i]<=l[j]:=by
  intro i j hi hj hij;rcases Nat.lt_or_eq_of_le hij with h'|rfl
  exact List.pairwise_iff_getElem.1 hs i j hi hj h';exact Int.le_refl _
 unfold ig;rw[LQ,hK,hg];constructor
 ·unfold less;have e:l=l.take k++l.drop k:=(List.take_append_drop k l).symm;rw[show List.countP (fun y=>decide (y<l[k])) l=List.countP (fun y=>decide (y<l[k])) (l.take k++l.drop k) by rw[List.take_append_drop],List.countP_append];have h1:List.countP (fun y=>decide (y<l[k])) (l.take k)<=k:=Nat.le_trans List.countP_le_length (by simp;omega)
  have h2:List.countP (fun y=>decide (y<l[k])) (l.drop k)=0:=by
   rw[List.countP_eq_zero];intro a ha;obtain⟨i,hi,rfl⟩:=List.getElem_of_mem ha;simp at hi;have:=hle k (k+i) hk (by omega) (by omega);simp;omega
  omega
 ·rw[show List.countP (fun y=>decide (y<=l[k])) l=List.countP (fun y=>decide (y<=l[k])) (l.take (k+1)++l.drop (k+1)) by rw[List.take_append_drop],List.countP_append]
  have h1:List.countP (fun y=>decide (y<=l[k])) (l.take (k+1))=(l.take (k+1)).length:=by
   rw[List.countP_eq_length];intro a ha;obtain⟨i,hi,rfl⟩:=List.getElem_of_mem ha;simp at hi;have:=hle i k (by omega) hk (by omega);simpa using this
  rw[h1];simp;omega
theorem Kl(h:l.Perm m){x:Int}(hx:ig x l):ig x m:=by unfold ig at*;rw[<-Li h,<-JZ h,<-h.length_eq];exact hx
theorem Kv(l:List Int)(h:0<l.length):ig (km l) (l.take 11):=by
 have hl:=Io (l.take 11);have h2:0<(l.take 11).length:=by simp;omega
 have:=QT (kp (l.take 11)) (NJ _) (by omega);rw[hl]at this;exact Kl (EF _) this
theorem ui(l:List Int)(h:0<l.length):km l∈l.take 11:=by
 have hk:(l.take 11).length/2<(kp (l.take 11)).length:=by rw[Io];simp;omega
 unfold km;rw[List.getD_eq_getElem?_getD,List.getElem?_eq_getElem hk,Option.getD_some];exact(EF _).mem_iff.1 (List.getElem_mem hk)
def last(l:List Int):List Int:=l.reverse.take 11
theorem LZ(l:List Int):(last l).length=min l.length 11:=by simp[last];omega
end Md
namespace Tp
structure mh (H:Nat->Nat->Bool):Prop where
 Xi:∀x,H x x=false
 trans:∀x y z,H x y=true->H y z=true->H x z=true
 Yt:∀x y,x≠y->H x y=true\/H y x=true
def ki(H:Nat->Nat->Bool)(l:List Nat):Prop:=l.Pairwise fun a b=>H a b=true
theorem ki.nil(H:Nat->Nat->Bool):ki H []:=List.Pairwise.nil
variable{H:Nat->Nat->Bool}
theorem ki.nodup(t:mh H){l:List Nat}(h:ki H l):l.Nodup:=
 h.imp fun hab e=>by subst e;rw[t.Xi]at hab;cases hab
variable{l:List Nat}
theorem ki.sub{l':List Nat}(h:ki H l)(s:l'.Sublist l):ki H l':=List.Pairwise.sublist s h
def spot(H:Nat->Nat->Bool)(l:List Nat)(x:Nat):Nat:=(l.takeWhile fun y=>H y x).length
theorem yZ(H:Nat->Nat->Bool)(l:List Nat)(x:Nat):spot H l x<=l.length:=(List.takeWhile_sublist _).length_le
variable{x:Nat}
theorem zi:∀{l:List Nat}{k:Nat},k<=l.length->(∀i (h:i<l.length),i<k->H l[i] x=true)->(∀h:k<l.length,H l[k] x=false)->spot H l x=k
 | [],k,hk,_,_=>by simp at hk;subst hk;rfl
 | a::l,0,_,_,h2=>by
  have:=h2 (by simp);simp at this;simp[spot,this]
 | a::l,k+1,hk,h1,h2=>by
  have h0:=h1 0 (by simp) (by omega);have:=zi (l:=l) (k:=k) (by simpa using hk) (fun i h hi=>h1 (i+1) (Nat.succ_lt_succ h) (by omega)) (fun h=>h2 (Nat.succ_lt_succ h));simp at h0;simp[spot,h0]at this|-;exact this
theorem z8:∀{l:List Nat}{i:Nat}(h:i<l.length),i<spot H l x->H l[i] x=true
 | [],i,h,_=>by simp at h
 | a::l,i,h,hi=>by
  cases e:H a x with
  | false=>simp[spot,e]at hi
  | true=>
   cases i with
   | zero=>simpa using e
   | succ i=>
    simp[spot,e]at hi;simpa using z8 (l:=l) (i:=i) (by simpa using h) hi
theorem Af:∀{l:List Nat}(h:spot H l x<l.length),H (l[spot H l x]) x=false
 | [],h=>by simp at h
 | a::l,h=>by
  cases e:H a x with
  | false=>simp[spot,e]
  | true=>
   have:=Af (l:=l) (by simpa[spot,e]using h);simpa[spot,e]using this
theorem LM(t:mh H){x:Nat}{l:List Nat}(hs:ki H l){i:Nat}(h:i<l.length)(hi:spot H l x<=i):H l[i] x=false:=by
 rcases Nat.lt_or_ge (spot H l x) i with h1|h1
 ·cases e:H l[i] x with
  | false=>rfl
  | true=>
   have h2:=(List.pairwise_iff_getElem.1 hs) (spot H l x) i (by omega) h h1;have h3:=Af (H:=H) (x:=x) (l:=l) (by omega);rw[t.trans _ _ _ h2 e]at h3;cases h3
 ·have:i=spot H l x:=by omega
  subst this;exact Af h
theorem P_(t:mh H){x:Nat}{l:List Nat}(hs:ki H l)(hx:x∈l):∃h:spot H l x<l.length,l[spot H l x]=x:=by obtain⟨i,hi,rfl⟩:=List.getElem_of_mem hx;have e:spot H l l[i]=i:=zi (by omega) (fun j hj hji=>(List.pairwise_iff_getElem.1 hs) j i hj hi hji) (fun _=>t.Xi _);exact⟨by omega,by simp[e]⟩
theorem Im(t:mh H){x:Nat}{l:List Nat}(hs:ki H l):x∈l↔∃h:spot H l x<l.length,l[spot H l x]=x:=⟨P_ t hs,fun⟨h,e⟩=>by rw[<-e];exact List.getElem_mem _⟩
def ins(H:Nat->Nat->Bool)(l:List Nat)(x:Nat):List Nat:=l.take (spot H l x)++x::l.drop (spot H l x)
theorem xZ{y:Nat}:y∈ins H l x↔y=x\/y∈l:=by
 have:y∈l↔y∈l.take (spot H l x)\/y∈l.drop (spot H l x):=by rw[<-List.mem_append,List.take_append_drop]
 simp only[ins,List.mem_append,List.mem_cons];rw[this];constructor;rintro(h|h|h);exact .inr (.inl h);exact .inl h;exact .inr (.inr h);rintro(h|h|h);exact .inr (.inl h);exact .inl h;exact .inr (.inr h)
theorem ki.ins(t:mh H){l:List Nat}(hs:ki H l){x:Nat}(hx:x∉l):ki H (ins H l x):=by
 have h0:∀y∈l.take (spot H l x),H y x=true:=by
  intro y hy;obtain⟨i,hi,rfl⟩:=List.getElem_of_mem hy;rw[List.length_take]at hi;rw[List.getElem_take];exact z8 (by omega) (by omega)
 have h1:∀y∈l.drop (spot H l x),H x y=true:=by
  intro y hy;obtain⟨i,hi,rfl⟩:=List.getElem_of_mem hy;rw[List.length_drop]at hi;rw[List.getElem_drop];have h2:=LM t hs (x:=x) (i:=spot H l x+i) (by omega) (by omega);rcases t.Yt x (l[spot H l x+i]'(by omega)) (fun e=>hx (e▸List.getElem_mem _))with h3|h3
  exact h3;rw[h2]at h3;cases h3
 unfold Tp.ins ki;rw[List.pairwise_append];refine⟨hs.sub (List.take_sublist _ _),?_,?_⟩;rw[List.pairwise_cons];exact⟨h1,hs.sub (List.drop_sublist _ _)⟩
 ·intro a ha b hb;rcases List.mem_cons.1 hb with e|e
  subst e;exact h0 _ ha;exact t.trans _ _ _ (h0 _ ha) (h1 _ e)
def eM(H:Nat->Nat->Bool)(l:List Nat)(x:Nat):Nat:=(l.takeWhile fun y=>!H x y).length
theorem GS(t:mh H){x:Nat}:∀{l:List Nat},ki H l->l.filter (fun y=>!H x y)=l.take (eM H l x)
 | [],_=>rfl
 | a::l,hs=>by
  have hc:=List.pairwise_cons.1 hs;cases e:H x a with
  | false=>
   have:=GS t (x:=x) hc.2;simp[eM,e]at this|-;exact this
  | true=>
   have:l.filter (fun y=>!H x y)=[]:=by
    rw[List.filter_eq_nil_iff];intro y hy;simp[t.trans _ _ _ e (hc.1 y hy)]
   simp[eM,e,this]
def xS(wt:Nat->Nat)(x y:Nat):Bool:=decide (wt y<wt x)||(wt x==wt y&&decide (x<y))
theorem xm(wt:Nat->Nat):mh (xS wt) where
 Xi x:=by simp[xS]
 trans x y z:=by simp[xS];omega
 Yt x y:=by simp[xS];omega
