import Derived.WalkKit
set_option maxRecDepth 100000
set_option maxHeartbeats 4000000
namespace Go.Proofs.YtcppnfkjklhhdaaGreatDoor.Md
def srt (l:List Int):List Int:=l.mergeSort fun x y=>decide (x<=y)
theorem qtf_ (l:List Int):(srt l).Perm l:=List.mergeSort_perm _ _
theorem qkc_ (l:List Int):(srt l).length=l.length:=List.length_mergeSort l
theorem qtg_ (l:List Int):(srt l).Pairwise (fun x y=>x<=y):=by
 have h:=List.pairwise_mergeSort (le:=fun x y:Int=>decide (x<=y)) (by intro a b c;simp;omega) (by intro a b;simp;omega) l
 exact h.imp (by intro a b h;simpa using h)
def mid (l:List Int):Int:=(srt (l.take 11)).getD ((l.take 11).length / 2) 0
theorem qaag_:mid []=0:=by simp[mid,srt]
def less (x:Int) (l:List Int):Nat:=l.countP fun y=>decide (y<x)
def same (x:Int) (l:List Int):Nat:=l.countP fun y=>decide (y=x)
def rank (x:Int) (l:List Int):Prop:=less x l<=l.length / 2/\l.length / 2<less x l+same x l
instance (x:Int) (l:List Int):Decidable (rank x l):=by unfold rank;infer_instance
theorem qxf_ {l m:List Int} (h:l.Perm m) (x:Int):less x l=less x m:=h.countP_eq _
theorem qxg_ {l m:List Int} (h:l.Perm m) (x:Int):same x l=same x m:=h.countP_eq _
theorem qof_ (x:Int) (l:List Int):less x l+same x l=l.countP fun y=>decide (y<=x):=by
 unfold less same
 induction l with
 | nil=>rfl
 | cons a l ih=>
  simp only[List.countP_cons]
  by_cases h1:a<x
  ·simp[h1,show a ≠ x by omega,show a<=x by omega];omega
  ·by_cases h2:a=x
   ·simp[h2];omega
   ·simp[h1,h2,show ¬a<=x by omega];omega
theorem qadf_ {x y:Int} {l:List Int} (hx:rank x l) (hy:rank y l):x=y:=by
 have key:∀ a b:Int,a<b->l.countP (fun y=>decide (y<=a))<=l.countP (fun y=>decide (y<b)):=fun a b hab=>
  List.countP_mono_left fun z _ hz=>by simp at hz |-;omega
 obtain ⟨h1,h2⟩:=hx
 obtain ⟨h3,h4⟩:=hy
 rw[qof_] at h2 h4
 unfold less at h1 h3
 rcases Int.lt_trichotomy x y with h|h|h
 ·have:=key x y h;omega
 ·exact h
 ·have:=key y x h;omega
theorem qpw_ (l:List Int) (hs:l.Pairwise (fun x y=>x<=y)) (h:0<l.length):rank (l.getD (l.length / 2) 0) l:=by
 have hk:l.length / 2<l.length:=by omega
 generalize hK:l.length / 2=k at hk
 have hg:l.getD k 0=l[k]:=by simp[hk]
 have hle:∀ i j (hi:i<l.length) (hj:j<l.length),i<=j->l[i]<=l[j]:=by
  intro i j hi hj hij
  rcases Nat.lt_or_eq_of_le hij with h'|rfl
  ·exact List.pairwise_iff_getElem.1 hs i j hi hj h'
  ·exact Int.le_refl _
 unfold rank
 rw[qof_,hK,hg]
 constructor
 ·unfold less
  have e:l=l.take k ++ l.drop k:=(List.take_append_drop k l).symm
  rw[show List.countP (fun y=>decide (y<l[k])) l=List.countP (fun y=>decide (y<l[k])) (l.take k ++ l.drop k) by rw[List.take_append_drop],List.countP_append]
  have h1:List.countP (fun y=>decide (y<l[k])) (l.take k)<=k:=Nat.le_trans List.countP_le_length (by simp;omega)
  have h2:List.countP (fun y=>decide (y<l[k])) (l.drop k)=0:=by
   rw[List.countP_eq_zero]
   intro a ha
   obtain ⟨i,hi,rfl⟩:=List.getElem_of_mem ha
   simp at hi
   have:=hle k (k+i) hk (by omega) (by omega)
   simp;omega
  omega
 ·rw[show List.countP (fun y=>decide (y<=l[k])) l=List.countP (fun y=>decide (y<=l[k])) (l.take (k+1) ++ l.drop (k+1)) by rw[List.take_append_drop],List.countP_append]
  have h1:List.countP (fun y=>decide (y<=l[k])) (l.take (k+1))=(l.take (k+1)).length:=by
   rw[List.countP_eq_length]
   intro a ha
   obtain ⟨i,hi,rfl⟩:=List.getElem_of_mem ha
   simp at hi
   have:=hle i k (by omega) hk (by omega)
   simpa using this
  rw[h1]
  simp;omega
theorem qxh_ {l m:List Int} (h:l.Perm m) {x:Int} (hx:rank x l):rank x m:=by
 unfold rank at *
 rw[<-qxf_ h,<-qxg_ h,<-h.length_eq];exact hx
theorem qadg_ (l:List Int) (h:0<l.length):rank (mid l) (l.take 11):=by
 have hl:=qkc_ (l.take 11)
 have h2:0<(l.take 11).length:=by simp;omega
 have:=qpw_ (srt (l.take 11)) (qtg_ _) (by omega)
 rw[hl] at this
 exact qxh_ (qtf_ _) this
theorem mid_mem (l:List Int) (h:0<l.length):mid l ∈ l.take 11:=by
 have hk:(l.take 11).length / 2<(srt (l.take 11)).length:=by rw[qkc_];simp;omega
 unfold mid
 rw[List.getD_eq_getElem?_getD,List.getElem?_eq_getElem hk,Option.getD_some]
 exact (qtf_ _).mem_iff.1 (List.getElem_mem hk)
def last (l:List Int):List Int:=l.reverse.take 11
theorem qid_ (l:List Int):(last l).length=min l.length 11:=by simp[last];omega
end Go.Proofs.YtcppnfkjklhhdaaGreatDoor.Md
namespace Go.Proofs.YtcppnfkjklhhdaaGreatDoor.Ht
def hgo:Nat->Nat->Nat->List Nat
 | 0,_,_=>[0]
 | f+1,n,h=>if h=0 then [0] else h :: hgo f (n+1) (h - 2 ^ (n+1 - 10))
def hts (n h:Nat):List Nat:=hgo h n h
theorem qez_ (n:Nat):0<2 ^ (n+1 - 10):=Nat.pow_pos (by decide)
theorem qth_:∀ (f f' n h:Nat),h<=f->h<=f'->hgo f n h=hgo f' n h:=by
 intro f
 induction f with
 | zero=>
  intro f' n h h1 h2
  obtain rfl:h=0:=by omega
  cases f' with
  | zero=>rfl
  | succ f'=>unfold hgo;rw[if_pos rfl]
 | succ f ih=>
  intro f' n h h1 h2
  cases f' with
  | zero=>
   obtain rfl:h=0:=by omega
   unfold hgo
   rw[if_pos rfl]
  | succ f'=>
   unfold hgo
   by_cases h0:h=0
   ·rw[if_pos h0,if_pos h0]
   ·rw[if_neg h0,if_neg h0]
    have:=qez_ n
    rw[ih f' (n+1) (h - 2 ^ (n+1 - 10)) (by omega) (by omega)]
theorem qti_ (n h:Nat) (h0:0<h):hts n h=h :: hts (n+1) (h - 2 ^ (n+1 - 10)):=by
 have:=qez_ n
 unfold hts
 rw[qth_ h ((h - 1)+1) n h (Nat.le_refl _) (by omega)]
 show (if h=0 then [0] else h :: hgo (h - 1) (n+1) (h - 2 ^ (n+1 - 10)))=_
 rw[if_neg (by omega),qth_ (h - 1) (h - 2 ^ (n+1 - 10)) (n+1) _ (by omega) (Nat.le_refl _)]
theorem qkd_ (P:Nat->Nat->List Nat->Prop) (h0:∀ n,P n 0 [0]) (h1:∀ n h l,0<h->P (n+1) (h - 2 ^ (n+1 - 10)) l->P n h (h :: l)):∀ (f n h:Nat),h<=f->P n h (hts n h):=by
 intro f
 induction f with
 | zero=>
  intro n h hf
  obtain rfl:h=0:=by omega
  exact h0 n
 | succ f ih=>
  intro n h hf
  by_cases hz:0<h
  ·rw[qti_ n h hz]
   have:=qez_ n
   exact h1 n h _ hz (ih (n+1) _ (by omega))
  ·obtain rfl:h=0:=by omega
   exact h0 n
theorem hts_pos (n h:Nat):0<(hts n h).length:=qkd_ (fun _ _ l=>0<l.length) (fun _=>by decide) (fun _ _ _ _ _=>Nat.succ_pos _) h n h (Nat.le_refl _)
theorem hts_le (n h:Nat):∀ x ∈ hts n h,x<=h:=qkd_ (fun _ h l=>∀ x ∈ l,x<=h) (fun _ x hx=>by simp at hx;omega) (fun _ _ _ _ h1 x hx=>by
 rcases List.mem_cons.1 hx with rfl|hx
 ·exact Nat.le_refl _
 ·exact Nat.le_trans (h1 x hx) (Nat.sub_le _ _)) h n h (Nat.le_refl _)
theorem qadh_ (n h:Nat):(hts n h)[(hts n h).length - 1]?=some 0:=(qkd_ (fun _ _ l=>0<l.length/\l[l.length - 1]?=some 0) (fun _=>⟨by decide,rfl⟩) (fun _ _ l _ h1=>⟨Nat.succ_pos _,by
 rw[List.length_cons,Nat.add_sub_cancel]
 obtain ⟨k,hk⟩:∃ k,l.length=k+1:=⟨l.length - 1,by omega⟩
 have h2:=h1.2
 rw[hk,Nat.add_sub_cancel] at h2
 rw[hk,List.getElem?_cons_succ]
 exact h2⟩) h n h (Nat.le_refl _)).2
theorem qxi_ (n h:Nat):(hts n h).Pairwise (· > ·):=(qkd_ (fun _ h l=>l.Pairwise (· > ·)/\∀ x ∈ l,x<=h) (fun _=>⟨List.pairwise_singleton _ _,fun x hx=>by simp at hx;omega⟩) (fun n h l h0 h1=>by
 have:=qez_ n
 refine ⟨List.pairwise_cons.2 ⟨fun x hx=>?_,h1.1⟩,fun x hx=>?_⟩
 ·have:=h1.2 x hx;show x<h;omega
 ·rcases List.mem_cons.1 hx with rfl|hx
  ·omega
  ·have:=h1.2 x hx;omega) h n h (Nat.le_refl _)).1
theorem hts_len (n h:Nat):(hts n h).length<=h+1:=qkd_ (fun _ h l=>l.length<=h+1) (fun _=>Nat.le_refl _) (fun n h l h0 h1=>by
 have:=qez_ n
 rw[List.length_cons]
 omega) h n h (Nat.le_refl _)
structure Lo (from_:Nat) (P:List Nat) (n:Nat) (hh:Int) (s:Nat):Prop where
 len:P.length=n
 all:P ++ hts n hh.toNat=hts 0 from_
 step:s=2 ^ (n - 10)
 room:(s:Int)+hh<=(from_:Int)+1
 low:hh<=(from_:Int)
theorem Lo.start (f:Nat):Lo f [] 0 (f:Int) 1:=⟨rfl,by rw[Int.toNat_natCast];rfl,rfl,by omega,Int.le_refl _⟩
theorem Lo.small {f:Nat} {P:List Nat} {n:Nat} {hh:Int} {s:Nat} (h:Lo f P n hh s) (h0:0<hh) (hf:f<=1099511627776):n<=50/\s<=1099511627776:=by
 have h1:=h.room
 refine ⟨Nat.le_of_not_lt fun hn=>?_,by omega⟩
 have h2:2 ^ 41<=2 ^ (n - 10):=Nat.pow_le_pow_right (by decide) (by omega)
 have h3:(2:Nat) ^ 41=2199023255552:=by decide
 have:=h.step
 omega
theorem two_pow (n:Nat) (h:11<=n+1):2 ^ (n+1 - 10)=2 ^ (n - 10)*2:=by
 rw[show n+1 - 10=(n - 10)+1 by omega,Nat.pow_succ]
theorem Lo.next {f:Nat} {P:List Nat} {n:Nat} {hh:Int} {s t:Nat} (h:Lo f P n hh s) (h0:0<hh) (ht:t=if 11<=n+1 then s*2 else s):Lo f (P ++ [hh.toNat]) (n+1) (hh - (t:Int)) t:=by
 have hs:=h.step
 have et:t=2 ^ (n+1 - 10):=by
  by_cases hn:11<=n+1
  ·rw[ht,if_pos hn,hs,two_pow n hn]
  ·rw[ht,if_neg hn,hs,show n - 10=0 by omega,show n+1 - 10=0 by omega]
 have hp:=qez_ n
 have h1:=h.room
 have h2:=h.low
 refine ⟨by rw[List.length_append,h.len];rfl,?_,et,by omega,by omega⟩
 rw[List.append_assoc,<-h.all,qti_ n hh.toNat (by omega),<-et,show (hh - (t:Int)).toNat=hh.toNat - t by omega]
 rfl
theorem Lo.done {f:Nat} {P:List Nat} {n:Nat} {hh:Int} {s:Nat} (h:Lo f P n hh s) (h0:hh<=0):P ++ [0]=hts 0 f:=by
 have:=h.all
 rw[show hh.toNat=0 by omega] at this
 exact this
theorem Lo.zero {f:Nat} {P:List Nat} {n:Nat} {s:Nat} (h:Lo f P n 0 s):P ++ [0]=hts 0 f:=h.done (Int.le_refl _)
end Go.Proofs.YtcppnfkjklhhdaaGreatDoor.Ht
