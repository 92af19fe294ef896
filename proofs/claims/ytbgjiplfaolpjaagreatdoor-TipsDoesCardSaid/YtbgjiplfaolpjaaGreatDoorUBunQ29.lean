import Derived.WalkKit
set_option maxRecDepth 100000
set_option maxHeartbeats 4000000
namespace Go.Proofs.YtbgjiplfaolpjaaGreatDoor.Md
def srt (l:List Int):List Int:=l.mergeSort fun x y=>decide (x<=y)
theorem qsw_ (l:List Int):(srt l).Perm l:=List.mergeSort_perm _ _
theorem qkc_ (l:List Int):(srt l).length=l.length:=List.length_mergeSort l
theorem qsx_ (l:List Int):(srt l).Pairwise (fun x y=>x<=y):=by
 have h:=List.pairwise_mergeSort (le:=fun x y:Int=>decide (x<=y)) (by intro a b c;simp;omega) (by intro a b;simp;omega) l
 exact h.imp (by intro a b h;simpa using h)
def mid (l:List Int):Int:=(srt (l.take 11)).getD ((l.take 11).length / 2) 0
theorem qaal_:mid []=0:=by simp[mid,srt]
def less (x:Int) (l:List Int):Nat:=l.countP fun y=>decide (y<x)
def same (x:Int) (l:List Int):Nat:=l.countP fun y=>decide (y=x)
def rank (x:Int) (l:List Int):Prop:=less x l<=l.length / 2/\l.length / 2<less x l+same x l
instance (x:Int) (l:List Int):Decidable (rank x l):=by unfold rank;infer_instance
theorem qxc_ {l m:List Int} (h:l.Perm m) (x:Int):less x l=less x m:=h.countP_eq _
theorem qxd_ {l m:List Int} (h:l.Perm m) (x:Int):same x l=same x m:=h.countP_eq _
theorem qnq_ (x:Int) (l:List Int):less x l+same x l=l.countP fun y=>decide (y<=x):=by
 unfold less same
 induction l with
 | nil=>rfl
 | cons a l ih=>
  simp only[List.countP_cons]
  by_cases h1:a<x
  ·simp[h1,show a ≠ x by omega,show a<=x by omega];omega
  ·by_cases h2:a=x
   ·simp[h2];omega
   ·simp[h1,h2,show ¬a<=x by omega];omega
theorem qadl_ {x y:Int} {l:List Int} (hx:rank x l) (hy:rank y l):x=y:=by
 have key:∀ a b:Int,a<b->l.countP (fun y=>decide (y<=a))<=l.countP (fun y=>decide (y<b)):=fun a b hab=>
  List.countP_mono_left fun z _ hz=>by simp at hz |-;omega
 obtain ⟨h1,h2⟩:=hx
 obtain ⟨h3,h4⟩:=hy
 rw[qnq_] at h2 h4
 unfold less at h1 h3
 rcases Int.lt_trichotomy x y with h|h|h
 ·have:=key x y h;omega
 ·exact h
 ·have:=key y x h;omega
theorem qpl_ (l:List Int) (hs:l.Pairwise (fun x y=>x<=y)) (h:0<l.length):rank (l.getD (l.length / 2) 0) l:=by
 have hk:l.length / 2<l.length:=by omega
 generalize hK:l.length / 2=k at hk
 have hg:l.getD k 0=l[k]:=by simp[hk]
 have hle:∀ i j (hi:i<l.length) (hj:j<l.length),i<=j->l[i]<=l[j]:=by
  intro i j hi hj hij
  rcases Nat.lt_or_eq_of_le hij with h'|rfl
  ·exact List.pairwise_iff_getElem.1 hs i j hi hj h'
  ·exact Int.le_refl _
 unfold rank
 rw[qnq_,hK,hg]
 constructor
 ·unfold less
  have e:l=l.take k ++ l.drop k:=(List.take_append_drop k l).symm
  rw[show List.countP (fun y=>decide (y<l[k])) l=List.countP (fun y=>decide (y<l[k])) (l.take k ++ l.drop k) by rw[List.take_append_drop],List.countP_append]
  have h1:List.countP (fun y=>decide (y<l[k])) (l.take k)<=k:=Nat.le_trans List.countP_le_length (by simp;omega)
  have h2:List.countP (fun y=>decide (y<l[k])) (l.drop k)=0:=by
   rw[List.countP_eq_zero]
   intro a ha
   obtain ⟨i,hi,rfl⟩:=List.getElem_of_mem ha
   simp at hi
   have:=hle k (k+i) hk (by omega) (by omega)
   simp;omega
  omega
 ·rw[show List.countP (fun y=>decide (y<=l[k])) l=List.countP (fun y=>decide (y<=l[k])) (l.take (k+1) ++ l.drop (k+1)) by rw[List.take_append_drop],List.countP_append]
  have h1:List.countP (fun y=>decide (y<=l[k])) (l.take (k+1))=(l.take (k+1)).length:=by
   rw[List.countP_eq_length]
   intro a ha
   obtain ⟨i,hi,rfl⟩:=List.getElem_of_mem ha
   simp at hi
   have:=hle i k (by omega) hk (by omega)
   simpa using this
  rw[h1]
  simp;omega
theorem qxe_ {l m:List Int} (h:l.Perm m) {x:Int} (hx:rank x l):rank x m:=by
 unfold rank at *
 rw[<-qxc_ h,<-qxd_ h,<-h.length_eq];exact hx
theorem qadm_ (l:List Int) (h:0<l.length):rank (mid l) (l.take 11):=by
 have hl:=qkc_ (l.take 11)
 have h2:0<(l.take 11).length:=by simp;omega
 have:=qpl_ (srt (l.take 11)) (qsx_ _) (by omega)
 rw[hl] at this
 exact qxe_ (qsw_ _) this
theorem mid_mem (l:List Int) (h:0<l.length):mid l ∈ l.take 11:=by
 have hk:(l.take 11).length / 2<(srt (l.take 11)).length:=by rw[qkc_];simp;omega
 unfold mid
 rw[List.getD_eq_getElem?_getD,List.getElem?_eq_getElem hk,Option.getD_some]
 exact (qsw_ _).mem_iff.1 (List.getElem_mem hk)
def last (l:List Int):List Int:=l.reverse.take 11
theorem qhv_ (l:List Int):(last l).length=min l.length 11:=by simp[last];omega
end Go.Proofs.YtbgjiplfaolpjaaGreatDoor.Md
namespace Go.Proofs.YtbgjiplfaolpjaaGreatDoor.Tp
structure Tot (H:Nat->Nat->Bool):Prop where
 irr:∀ x,H x x=false
 trans:∀ x y z,H x y=true->H y z=true->H x z=true
 tri:∀ x y,x ≠ y->H x y=true\/H y x=true
theorem Tot.asym {H:Nat->Nat->Bool} (t:Tot H) {x y:Nat} (h:H x y=true):H y x=false:=by
 cases e:H y x with
 | false=>rfl
 | true=>have:=t.trans _ _ _ h e;rw[t.irr] at this;cases this
def Srt (H:Nat->Nat->Bool) (l:List Nat):Prop:=l.Pairwise fun a b=>H a b=true
theorem Srt.nil (H:Nat->Nat->Bool):Srt H []:=List.Pairwise.nil
theorem Srt.nodup {H:Nat->Nat->Bool} (t:Tot H) {l:List Nat} (h:Srt H l):l.Nodup :=
 h.imp fun hab e=>by subst e;rw[t.irr] at hab;cases hab
theorem Srt.sub {H:Nat->Nat->Bool} {l l':List Nat} (h:Srt H l) (s:l'.Sublist l):Srt H l':=List.Pairwise.sublist s h
theorem Srt.eq {H:Nat->Nat->Bool} (t:Tot H):∀ {l l':List Nat},Srt H l->Srt H l'->(∀x,x ∈ l ↔ x ∈ l')->l=l'
 | [],[],_,_,_=>rfl
 | [],b :: _,_,_,h=>absurd ((h b).2 (by simp)) (by simp)
 | a :: _,[],_,_,h=>absurd ((h a).1 (by simp)) (by simp)
 | a :: l,b :: l',hs,hs',h=>by
  have ha:=List.pairwise_cons.1 hs
  have hb:=List.pairwise_cons.1 hs'
  have e:a=b:=by
   rcases List.mem_cons.1 ((h a).1 (by simp)) with e|e
   ·exact e
   ·rcases List.mem_cons.1 ((h b).2 (by simp)) with e'|e'
    ·exact e'.symm
    ·have h1:=ha.1 b e'
     have h2:=hb.1 a e
     rw[t.asym h1] at h2;cases h2
  subst e
  have:=Srt.eq t ha.2 hb.2 (fun x=>by
   have hx:=h x
   simp only[List.mem_cons] at hx
   constructor
   ·intro hm
    rcases hx.1 (.inr hm) with e|e
    ·subst e;have:=ha.1 _ hm;rw[t.irr] at this;cases this
    ·exact e
   ·intro hm
    rcases hx.2 (.inr hm) with e|e
    ·subst e;have:=hb.1 _ hm;rw[t.irr] at this;cases this
    ·exact e)
  rw[this]
def spot (H:Nat->Nat->Bool) (l:List Nat) (x:Nat):Nat:=(l.takeWhile fun y=>H y x).length
theorem qkd_ (H:Nat->Nat->Bool) (l:List Nat) (x:Nat):spot H l x<=l.length:=(List.takeWhile_sublist _).length_le
theorem qaam_ {H:Nat->Nat->Bool} {x:Nat}:∀ {l:List Nat} {k:Nat},k<=l.length->(∀i (h:i<l.length),i<k->H l[i] x=true)->(∀h:k<l.length,H l[k] x=false)->spot H l x=k
 | [],k,hk,_,_=>by simp at hk;subst hk;rfl
 | a :: l,0,_,_,h2=>by
  have:=h2 (by simp)
  simp at this
  simp[spot,this]
 | a :: l,k+1,hk,h1,h2=>by
  have h0:=h1 0 (by simp) (by omega)
  have:=qaam_ (H:=H) (x:=x) (l:=l) (k:=k) (by simpa using hk) (fun i h hi=>h1 (i+1) (Nat.succ_lt_succ h) (by omega)) (fun h=>h2 (Nat.succ_lt_succ h))
  simp at h0
  simp[spot,h0] at this |-
  exact this
theorem qen_ {H:Nat->Nat->Bool} {x:Nat}:∀ {l:List Nat} {i:Nat} (h:i<l.length),i<spot H l x->H l[i] x=true
 | [],i,h,_=>by simp at h
 | a :: l,i,h,hi=>by
  cases e:H a x with
  | false=>simp[spot,e] at hi
  | true=>
   cases i with
   | zero=>simpa using e
   | succ i=>
    simp[spot,e] at hi
    simpa using qen_ (H:=H) (x:=x) (l:=l) (i:=i) (by simpa using h) hi
theorem qnr_ {H:Nat->Nat->Bool} {x:Nat}:∀ {l:List Nat} (h:spot H l x<l.length),H (l[spot H l x]) x=false
 | [],h=>by simp at h
 | a :: l,h=>by
  cases e:H a x with
  | false=>simp[spot,e]
  | true=>
   have:=qnr_ (H:=H) (x:=x) (l:=l) (by simpa [spot,e] using h)
   simpa [spot,e] using this
theorem qhw_ {H:Nat->Nat->Bool} (t:Tot H) {x:Nat} {l:List Nat} (hs:Srt H l) {i:Nat} (h:i<l.length) (hi:spot H l x<=i):H l[i] x=false:=by
 rcases Nat.lt_or_ge (spot H l x) i with h1|h1
 ·cases e:H l[i] x with
  | false=>rfl
  | true=>
   have h2:=(List.pairwise_iff_getElem.1 hs) (spot H l x) i (by omega) h h1
   have h3:=qnr_ (H:=H) (x:=x) (l:=l) (by omega)
   rw[t.trans _ _ _ h2 e] at h3;cases h3
 ·have:i=spot H l x:=by omega
  subst this;exact qnr_ h
theorem qke_ {H:Nat->Nat->Bool} (t:Tot H) {x:Nat} {l:List Nat} (hs:Srt H l) (hx:x ∈ l):∃ h:spot H l x<l.length,l[spot H l x]=x:=by
 obtain ⟨i,hi,rfl⟩:=List.getElem_of_mem hx
 have e:spot H l l[i]=i:=qaam_ (by omega) (fun j hj hji=>(List.pairwise_iff_getElem.1 hs) j i hj hi hji) (fun _=>t.irr _)
 exact ⟨by omega,by simp[e]⟩
theorem qsy_ {H:Nat->Nat->Bool} (t:Tot H) {x:Nat} {l:List Nat} (hs:Srt H l):x ∈ l ↔ ∃h:spot H l x<l.length,l[spot H l x]=x :=
 ⟨qke_ t hs,fun ⟨h,e⟩=>by rw[<-e];exact List.getElem_mem _⟩
def ins (H:Nat->Nat->Bool) (l:List Nat) (x:Nat):List Nat:=l.take (spot H l x) ++ x :: l.drop (spot H l x)
theorem qkf_ {H:Nat->Nat->Bool} {l:List Nat} {x y:Nat}:y ∈ ins H l x ↔ y=x\/y ∈ l:=by
 have:y ∈ l ↔ y ∈ l.take (spot H l x)\/y ∈ l.drop (spot H l x):=by rw[<-List.mem_append,List.take_append_drop]
 simp only[ins,List.mem_append,List.mem_cons]
 rw[this]
 constructor
 ·rintro (h|h|h)
  ·exact .inr (.inl h)
  ·exact .inl h
  ·exact .inr (.inr h)
 ·rintro (h|h|h)
  ·exact .inr (.inl h)
  ·exact .inl h
  ·exact .inr (.inr h)
theorem qkg_ (H:Nat->Nat->Bool) (l:List Nat) (x:Nat):(ins H l x).length=l.length+1:=by
 have:=qkd_ H l x
 simp[ins];omega
theorem Srt.ins {H:Nat->Nat->Bool} (t:Tot H) {l:List Nat} (hs:Srt H l) {x:Nat} (hx:x ∉ l):Srt H (ins H l x):=by
 have h0:∀ y ∈ l.take (spot H l x),H y x=true:=by
  intro y hy
  obtain ⟨i,hi,rfl⟩:=List.getElem_of_mem hy
  rw[List.length_take] at hi
  rw[List.getElem_take]
  exact qen_ (by omega) (by omega)
 have h1:∀ y ∈ l.drop (spot H l x),H x y=true:=by
  intro y hy
  obtain ⟨i,hi,rfl⟩:=List.getElem_of_mem hy
  rw[List.length_drop] at hi
  rw[List.getElem_drop]
  have h2:=qhw_ t hs (x:=x) (i:=spot H l x+i) (by omega) (by omega)
  rcases t.tri x (l[spot H l x+i]'(by omega)) (fun e=>hx (e ▸ List.getElem_mem _)) with h3|h3
  ·exact h3
  ·rw[h2] at h3;cases h3
 unfold Tp.ins Srt
 rw[List.pairwise_append]
 refine ⟨hs.sub (List.take_sublist _ _),?_,?_⟩
 ·rw[List.pairwise_cons];exact ⟨h1,hs.sub (List.drop_sublist _ _)⟩
 ·intro a ha b hb
  rcases List.mem_cons.1 hb with e|e
  ·subst e;exact h0 _ ha
  ·exact t.trans _ _ _ (h0 _ ha) (h1 _ e)
def srt (H:Nat->Nat->Bool) (ms:List Nat):List Nat:=ms.foldl (Tp.ins H) []
theorem srt_on {H:Nat->Nat->Bool} (t:Tot H):∀ (ms out:List Nat),Srt H out->ms.Nodup->(∀x ∈ ms,x ∉ out)->Srt H (ms.foldl (Tp.ins H) out)/\∀ x,x ∈ ms.foldl (Tp.ins H) out ↔ x ∈ ms\/x ∈ out
 | [],out,h,_,_=>⟨h,fun x=>by simp⟩
 | m :: ms,out,h,hn,hd=>by
  have hn':=List.nodup_cons.1 hn
  have:=srt_on t ms (Tp.ins H out m) (h.ins t (hd m (by simp))) hn'.2 (fun x hx hc=>by
   rcases qkf_.1 hc with e|e
   ·subst e;exact hn'.1 hx
   ·exact hd x (by simp[hx]) e)
  refine ⟨this.1,fun x=>?_⟩
  rw[List.foldl_cons,this.2,qkf_,List.mem_cons]
  constructor
  ·rintro (h|h|h)
   ·exact .inl (.inr h)
   ·exact .inl (.inl h)
   ·exact .inr h
  ·rintro ((h|h)|h)
   ·exact .inr (.inl h)
   ·exact .inl h
   ·exact .inr (.inr h)
theorem srt_srt {H:Nat->Nat->Bool} (t:Tot H) {ms:List Nat} (hn:ms.Nodup):Srt H (srt H ms):=(srt_on t ms [] (Srt.nil H) hn (by simp)).1
theorem mem_srt {H:Nat->Nat->Bool} (t:Tot H) {ms:List Nat} (hn:ms.Nodup) {x:Nat}:x ∈ srt H ms ↔ x ∈ ms:=by
 have:=(srt_on t ms [] (Srt.nil H) hn (by simp)).2 x
 simpa [srt] using this
theorem srt_is {H:Nat->Nat->Bool} (t:Tot H) {ms l:List Nat} (hn:ms.Nodup) (hs:Srt H l) (hm:∀ x,x ∈ l ↔ x ∈ ms):srt H ms=l :=
 Srt.eq t (srt_srt t hn) hs fun x=>(mem_srt t hn).trans (hm x).symm
theorem Srt.without {H:Nat->Nat->Bool} (t:Tot H) {l:List Nat} (hs:Srt H l) {k:Nat} (hk:k<l.length):Srt H (l.eraseIdx k)/\∀ y,y ∈ l.eraseIdx k ↔ y ∈ l/\y ≠ l[k]:=by
 refine ⟨hs.sub (List.eraseIdx_sublist _ _),fun y=>?_⟩
 have hnd:=hs.nodup t
 constructor
 ·intro hy
  obtain ⟨i,hi,h⟩:=List.mem_eraseIdx_iff_getElem.1 hy
  refine ⟨h.2 ▸ List.getElem_mem _,fun e=>?_⟩
  obtain ⟨h1,h2⟩:=h
  exact h1 ((List.getElem_inj hnd).1 (h2.trans e))
 ·rintro ⟨hy,hne⟩
  obtain ⟨i,hi,rfl⟩:=List.getElem_of_mem hy
  exact List.mem_eraseIdx_iff_getElem.2 ⟨i,hi,fun e=>hne (by simp[e]),rfl⟩
def keepN (H:Nat->Nat->Bool) (l:List Nat) (x:Nat):Nat:=(l.takeWhile fun y=>!H x y).length
theorem qiq_ {H:Nat->Nat->Bool} (t:Tot H) {x:Nat}:∀ {l:List Nat},Srt H l->l.filter (fun y=>!H x y)=l.take (keepN H l x)
 | [],_=>rfl
 | a :: l,hs=>by
  have hc:=List.pairwise_cons.1 hs
  cases e:H x a with
  | false=>
   have:=qiq_ t (x:=x) hc.2
   simp[keepN,e] at this |-
   exact this
  | true=>
   have:l.filter (fun y=>!H x y)=[]:=by
    rw[List.filter_eq_nil_iff];intro y hy
    simp[t.trans _ _ _ e (hc.1 y hy)]
   simp[keepN,e,this]
def byW (wt:Nat->Nat) (x y:Nat):Bool:=decide (wt y<wt x) || (wt x==wt y && decide (x<y))
theorem byW_tot (wt:Nat->Nat):Tot (byW wt) where
 irr x:=by simp[byW]
 trans x y z:=by simp[byW];omega
 tri x y:=by simp[byW];omega
theorem Srt.congr {H K:Nat->Nat->Bool} {l:List Nat} (hs:Srt H l) (h:∀ x ∈ l,∀ y ∈ l,H x y=true->K x y=true):Srt K l :=
 List.Pairwise.imp_of_mem (fun hx hy e=>h _ hx _ hy e) hs
def marked (n:Nat) (inn:Nat->Bool):List Nat:=(List.range n).filter inn
theorem qlw_ (n:Nat) (inn:Nat->Bool):(marked n inn).Nodup:=List.nodup_range.filter _
theorem qkh_ {n:Nat} {inn:Nat->Bool} {x:Nat}:x ∈ marked n inn ↔ x<n/\inn x=true:=by simp[marked]
theorem qadn_ (H:Nat->Nat->Bool) (ms:List Nat) (m:Nat):srt H (ms ++ [m])=Tp.ins H (srt H ms) m:=by simp[srt,List.foldl_append]
theorem qhx_ (n:Nat) (inn:Nat->Bool):marked (n+1) inn=marked n inn ++ (if inn n=true then [n] else []):=by
 simp only[marked,List.range_succ,List.filter_append,List.filter_cons,List.filter_nil]
theorem qsz_ {H:Nat->Nat->Bool} {l:List Nat} {x:Nat} (t:Tot H) (hs:Srt H l):(l.filter fun y=>H x y).length=l.length - keepN H l x:=by
 have h1:=qiq_ t (x:=x) hs
 have h2:(l.filter fun y=>H x y).length+(l.filter fun y=>!H x y).length=l.length:=by
  clear h1 hs
  induction l with
  | nil=>rfl
  | cons a l ih=>cases e:H x a <;> simp[e] <;> omega
 have h3:keepN H l x<=l.length:=(List.takeWhile_sublist _).length_le
 rw[h1,List.length_take] at h2
 omega
end Go.Proofs.YtbgjiplfaolpjaaGreatDoor.Tp
