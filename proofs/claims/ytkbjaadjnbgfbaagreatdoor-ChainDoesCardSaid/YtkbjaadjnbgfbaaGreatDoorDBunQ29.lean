import Derived.WalkKit
set_option maxRecDepth 100000
set_option maxHeartbeats 4000000
namespace Go.Proofs.YtkbjaadjnbgfbaaGreatDoor
namespace Md
def rU(l:List Int):List Int:=l.mergeSort fun x y=>decide (x<=y)
theorem I3(l:List Int):(rU l).Perm l:=List.mergeSort_perm _ _
theorem KQ(l:List Int):(rU l).length=l.length:=List.length_mergeSort l
theorem OS(l:List Int):(rU l).Pairwise (fun x y=>x<=y):=by have h:=List.pairwise_mergeSort (le:=fun x y:Int=>decide (x<=y)) (by intro a b c;simp;omega) (by intro a b;simp;omega) l;exact h.imp (by intro a b h;simpa using h)
def jZ(l:List Int):Int:=(rU (l.take 11)).getD ((l.take 11).length/2) 0
theorem yo:jZ []=0:=by simp[jZ,rU]
def less(x:Int)(l:List Int):Nat:=l.countP fun y=>decide (y<x)
def same(x:Int)(l:List Int):Nat:=l.countP fun y=>decide (y=x)
def gR(x:Int)(l:List Int):Prop:=less x l<=l.length/2/\l.length/2<less x l+same x l
instance (x:Int)(l:List Int):Decidable (gR x l):=by unfold gR;infer_instance
variable{l m:List Int}
theorem DE(h:l.Perm m)(x:Int):less x l=less x m:=h.countP_eq _
theorem Ex(h:l.Perm m)(x:Int):same x l=same x m:=h.countP_eq _
theorem Fq(x:Int)(l:List Int):less x l+same x l=l.countP fun y=>decide (y<=x):=by
 unfold less same;induction l with
 | nil=>rfl
 | cons a l ih=>
  simp only[List.countP_cons];by_cases h1:a<x;simp[h1,show a≠x by omega,show a<=x by omega];omega
  ·by_cases h2:a=x;simp[h2];omega;simp[h1,h2,show¬a<=x by omega];omega
theorem FP{x y:Int}(hx:gR x l)(hy:gR y l):x=y:=by
 have key:∀a b:Int,a<b->l.countP (fun y=>decide (y<=a))<=l.countP (fun y=>decide (y<b)):=fun a b hab=>
  List.countP_mono_left fun z _ hz=>by simp at hz|-;omega
 obtain⟨h1,h2⟩:=hx;obtain⟨h3,h4⟩:=hy;rw[Fq]at h2 h4;unfold less at h1 h3;rcases Int.lt_trichotomy x y with h|h|h
 have:=key x y h;omega;exact h;have:=key y x h;omega
theorem Qm(l:List Int)(hs:l.Pairwise (fun x y=>x<=y))(h:0<l.length):gR (l.getD (l.length/2) 0) l:=by
 have hk:l.length/2<l.length:=by omega
 generalize hK:l.length/2=k at hk;have hg:l.getD k 0=l[k]:=by simp[hk]
 have hle:∀i j (hi:i<l.length) (hj:j<l.length),i<=j->l[i]<=l[j]:=by
  intro i j hi hj hij;rcases Nat.lt_or_eq_of_le hij with h'|rfl
  exact List.pairwise_iff_getElem.1 hs i j hi hj h';exact Int.le_refl _
 unfold gR;rw[Fq,hK,hg];constructor
 ·unfold less;have e:l=l.take k++l.drop k:=(List.take_append_drop k l).symm;rw[show List.countP (fun y=>decide (y<l[k])) l=List.countP (fun y=>decide (y<l[k])) (l.take k++l.drop k) by rw[List.take_append_drop],List.countP_append];have h1:List.countP (fun y=>decide (y<l[k])) (l.take k)<=k:=Nat.le_trans List.countP_le_length (by simp;omega)
  have h2:List.countP (fun y=>decide (y<l[k])) (l.drop k)=0:=by
   rw[List.countP_eq_zero];intro a ha;obtain⟨i,hi,rfl⟩:=List.getElem_of_mem ha;simp at hi;have:=hle k (k+i) hk (by omega) (by omega);simp;omega
  omega
 ·rw[show List.countP (fun y=>decide (y<=l[k])) l=List.countP (fun y=>decide (y<=l[k])) (l.take (k+1)++l.drop (k+1)) by rw[List.take_append_drop],List.countP_append]
  have h1:List.countP (fun y=>decide (y<=l[k])) (l.take (k+1))=(l.take (k+1)).length:=by
   rw[List.countP_eq_length];intro a ha;obtain⟨i,hi,rfl⟩:=List.getElem_of_mem ha;simp at hi;have:=hle i k (by omega) hk (by omega);simpa using this
  rw[h1];simp;omega
theorem Jm(h:l.Perm m){x:Int}(hx:gR x l):gR x m:=by unfold gR at*;rw[<-DE h,<-Ex h,<-h.length_eq];exact hx
theorem Je(l:List Int)(h:0<l.length):gR (jZ l) (l.take 11):=by
 have hl:=KQ (l.take 11);have h2:0<(l.take 11).length:=by simp;omega
 have:=Qm (rU (l.take 11)) (OS _) (by omega);rw[hl]at this;exact Jm (I3 _) this
theorem vU(l:List Int)(h:0<l.length):jZ l∈l.take 11:=by
 have hk:(l.take 11).length/2<(rU (l.take 11)).length:=by rw[KQ];simp;omega
 unfold jZ;rw[List.getD_eq_getElem?_getD,List.getElem?_eq_getElem hk,Option.getD_some];exact(I3 _).mem_iff.1 (List.getElem_mem hk)
def last(l:List Int):List Int:=l.reverse.take 11
theorem Da(l:List Int):(last l).length=min l.length 11:=by simp[last];omega
end Md
namespace Tp
structure rR (H:Nat->Nat->Bool):Prop where
 Zw:∀x,H x x=false
 trans:∀x y z,H x y=true->H y z=true->H x z=true
 XS:∀x y,x≠y->H x y=true\/H y x=true
def LF(H:Nat->Nat->Bool)(l:List Nat):Prop:=l.Pairwise fun a b=>H a b=true
theorem LF.nil(H:Nat->Nat->Bool):LF H []:=List.Pairwise.nil
def spot(H:Nat->Nat->Bool)(l:List Nat)(x:Nat):Nat:=(l.takeWhile fun y=>H y x).length
def ins(H:Nat->Nat->Bool)(l:List Nat)(x:Nat):List Nat:=l.take (spot H l x)++x::l.drop (spot H l x)
def xd(wt:Nat->Nat)(x y:Nat):Bool:=decide (wt y<wt x)||(wt x==wt y&&decide (x<y))
theorem wN(wt:Nat->Nat):rR (xd wt) where
 Zw x:=by simp[xd]
 trans x y z:=by simp[xd];omega
 XS x y:=by simp[xd];omega
