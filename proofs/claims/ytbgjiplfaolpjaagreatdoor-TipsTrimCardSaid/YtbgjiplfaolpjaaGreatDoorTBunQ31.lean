import Derived.WalkKit
set_option maxRecDepth 100000
set_option maxHeartbeats 4000000
namespace Go.Proofs.YtbgjiplfaolpjaaGreatDoor.Md
def srt (l:List Int):List Int:=l.mergeSort fun x y=>decide (x<=y)
def mid (l:List Int):Int:=(srt (l.take 11)).getD ((l.take 11).length / 2) 0
theorem mid_nil:mid []=0:=by simp[mid,srt]
def less (x:Int) (l:List Int):Nat:=l.countP fun y=>decide (y<x)
def same (x:Int) (l:List Int):Nat:=l.countP fun y=>decide (y=x)
def rank (x:Int) (l:List Int):Prop:=less x l<=l.length / 2/\l.length / 2<less x l+same x l
instance (x:Int) (l:List Int):Decidable (rank x l):=by unfold rank;infer_instance
end Go.Proofs.YtbgjiplfaolpjaaGreatDoor.Md
namespace Go.Proofs.YtbgjiplfaolpjaaGreatDoor.Tp
structure Tot (H:Nat->Nat->Bool):Prop where
 irr:∀ x,H x x=false
 trans:∀ x y z,H x y=true->H y z=true->H x z=true
 tri:∀ x y,x ≠ y->H x y=true\/H y x=true
theorem Tot.asym {H:Nat->Nat->Bool} (t:Tot H) {x y:Nat} (h:H x y=true):H y x=false:=by
 cases e:H y x with
 | false=>rfl
 | true=>have:=t.trans _ _ _ h e;rw[t.irr] at this;cases this
def Srt (H:Nat->Nat->Bool) (l:List Nat):Prop:=l.Pairwise fun a b=>H a b=true
theorem Srt.nil (H:Nat->Nat->Bool):Srt H []:=List.Pairwise.nil
theorem Srt.nodup {H:Nat->Nat->Bool} (t:Tot H) {l:List Nat} (h:Srt H l):l.Nodup :=
 h.imp fun hab e=>by subst e;rw[t.irr] at hab;cases hab
theorem Srt.sub {H:Nat->Nat->Bool} {l l':List Nat} (h:Srt H l) (s:l'.Sublist l):Srt H l':=List.Pairwise.sublist s h
theorem Srt.eq {H:Nat->Nat->Bool} (t:Tot H):∀ {l l':List Nat},Srt H l->Srt H l'->(∀x,x ∈ l ↔ x ∈ l')->l=l'
 | [],[],_,_,_=>rfl
 | [],b :: _,_,_,h=>absurd ((h b).2 (by simp)) (by simp)
 | a :: _,[],_,_,h=>absurd ((h a).1 (by simp)) (by simp)
 | a :: l,b :: l',hs,hs',h=>by
  have ha:=List.pairwise_cons.1 hs
  have hb:=List.pairwise_cons.1 hs'
  have e:a=b:=by
   rcases List.mem_cons.1 ((h a).1 (by simp)) with e|e
   ·exact e
   ·rcases List.mem_cons.1 ((h b).2 (by simp)) with e'|e'
    ·exact e'.symm
    ·have h1:=ha.1 b e'
     have h2:=hb.1 a e
     rw[t.asym h1] at h2;cases h2
  subst e
  have:=Srt.eq t ha.2 hb.2 (fun x=>by
   have hx:=h x
   simp only[List.mem_cons] at hx
   constructor
   ·intro hm
    rcases hx.1 (.inr hm) with e|e
    ·subst e;have:=ha.1 _ hm;rw[t.irr] at this;cases this
    ·exact e
   ·intro hm
    rcases hx.2 (.inr hm) with e|e
    ·subst e;have:=hb.1 _ hm;rw[t.irr] at this;cases this
    ·exact e)
  rw[this]
def spot (H:Nat->Nat->Bool) (l:List Nat) (x:Nat):Nat:=(l.takeWhile fun y=>H y x).length
theorem qol_ (H:Nat->Nat->Bool) (l:List Nat) (x:Nat):spot H l x<=l.length:=(List.takeWhile_sublist _).length_le
theorem quo_ {H:Nat->Nat->Bool} {x:Nat}:∀ {l:List Nat} {k:Nat},k<=l.length->(∀i (h:i<l.length),i<k->H l[i] x=true)->(∀h:k<l.length,H l[k] x=false)->spot H l x=k
 | [],k,hk,_,_=>by simp at hk;subst hk;rfl
 | a :: l,0,_,_,h2=>by
  have:=h2 (by simp)
  simp at this
  simp[spot,this]
 | a :: l,k+1,hk,h1,h2=>by
  have h0:=h1 0 (by simp) (by omega)
  have:=quo_ (H:=H) (x:=x) (l:=l) (k:=k) (by simpa using hk) (fun i h hi=>h1 (i+1) (Nat.succ_lt_succ h) (by omega)) (fun h=>h2 (Nat.succ_lt_succ h))
  simp at h0
  simp[spot,h0] at this |-
  exact this
theorem qeo_ {H:Nat->Nat->Bool} {x:Nat}:∀ {l:List Nat} {i:Nat} (h:i<l.length),i<spot H l x->H l[i] x=true
 | [],i,h,_=>by simp at h
 | a :: l,i,h,hi=>by
  cases e:H a x with
  | false=>simp[spot,e] at hi
  | true=>
   cases i with
   | zero=>simpa using e
   | succ i=>
    simp[spot,e] at hi
    simpa using qeo_ (H:=H) (x:=x) (l:=l) (i:=i) (by simpa using h) hi
theorem qom_ {H:Nat->Nat->Bool} {x:Nat}:∀ {l:List Nat} (h:spot H l x<l.length),H (l[spot H l x]) x=false
 | [],h=>by simp at h
 | a :: l,h=>by
  cases e:H a x with
  | false=>simp[spot,e]
  | true=>
   have:=qom_ (H:=H) (x:=x) (l:=l) (by simpa [spot,e] using h)
   simpa [spot,e] using this
theorem qfn_ {H:Nat->Nat->Bool} (t:Tot H) {x:Nat} {l:List Nat} (hs:Srt H l) {i:Nat} (h:i<l.length) (hi:spot H l x<=i):H l[i] x=false:=by
 rcases Nat.lt_or_ge (spot H l x) i with h1|h1
 ·cases e:H l[i] x with
  | false=>rfl
  | true=>
   have h2:=(List.pairwise_iff_getElem.1 hs) (spot H l x) i (by omega) h h1
   have h3:=qom_ (H:=H) (x:=x) (l:=l) (by omega)
   rw[t.trans _ _ _ h2 e] at h3;cases h3
 ·have:i=spot H l x:=by omega
  subst this;exact qom_ h
theorem qdc_ {H:Nat->Nat->Bool} (t:Tot H) {x:Nat} {l:List Nat} (hs:Srt H l) (hx:x ∈ l):∃ h:spot H l x<l.length,l[spot H l x]=x:=by
 obtain ⟨i,hi,rfl⟩:=List.getElem_of_mem hx
 have e:spot H l l[i]=i:=quo_ (by omega) (fun j hj hji=>(List.pairwise_iff_getElem.1 hs) j i hj hi hji) (fun _=>t.irr _)
 exact ⟨by omega,by simp[e]⟩
theorem qon_ {H:Nat->Nat->Bool} (t:Tot H) {x:Nat} {l:List Nat} (hs:Srt H l):x ∈ l ↔ ∃h:spot H l x<l.length,l[spot H l x]=x :=
 ⟨qdc_ t hs,fun ⟨h,e⟩=>by rw[<-e];exact List.getElem_mem _⟩
def ins (H:Nat->Nat->Bool) (l:List Nat) (x:Nat):List Nat:=l.take (spot H l x) ++ x :: l.drop (spot H l x)
theorem qup_ {H:Nat->Nat->Bool} {l:List Nat} {x y:Nat}:y ∈ ins H l x ↔ y=x\/y ∈ l:=by
 have:y ∈ l ↔ y ∈ l.take (spot H l x)\/y ∈ l.drop (spot H l x):=by rw[<-List.mem_append,List.take_append_drop]
 simp only[ins,List.mem_append,List.mem_cons]
 rw[this]
 constructor
 ·rintro (h|h|h)
  ·exact .inr (.inl h)
  ·exact .inl h
  ·exact .inr (.inr h)
 ·rintro (h|h|h)
  ·exact .inr (.inl h)
  ·exact .inl h
  ·exact .inr (.inr h)
theorem Srt.ins {H:Nat->Nat->Bool} (t:Tot H) {l:List Nat} (hs:Srt H l) {x:Nat} (hx:x ∉ l):Srt H (ins H l x):=by
 have h0:∀ y ∈ l.take (spot H l x),H y x=true:=by
  intro y hy
  obtain ⟨i,hi,rfl⟩:=List.getElem_of_mem hy
  rw[List.length_take] at hi
  rw[List.getElem_take]
  exact qeo_ (by omega) (by omega)
 have h1:∀ y ∈ l.drop (spot H l x),H x y=true:=by
  intro y hy
  obtain ⟨i,hi,rfl⟩:=List.getElem_of_mem hy
  rw[List.length_drop] at hi
  rw[List.getElem_drop]
  have h2:=qfn_ t hs (x:=x) (i:=spot H l x+i) (by omega) (by omega)
  rcases t.tri x (l[spot H l x+i]'(by omega)) (fun e=>hx (e ▸ List.getElem_mem _)) with h3|h3
  ·exact h3
  ·rw[h2] at h3;cases h3
 unfold Tp.ins Srt
 rw[List.pairwise_append]
 refine ⟨hs.sub (List.take_sublist _ _),?_,?_⟩
 ·rw[List.pairwise_cons];exact ⟨h1,hs.sub (List.drop_sublist _ _)⟩
 ·intro a ha b hb
  rcases List.mem_cons.1 hb with e|e
  ·subst e;exact h0 _ ha
  ·exact t.trans _ _ _ (h0 _ ha) (h1 _ e)
theorem Srt.without {H:Nat->Nat->Bool} (t:Tot H) {l:List Nat} (hs:Srt H l) {k:Nat} (hk:k<l.length):Srt H (l.eraseIdx k)/\∀ y,y ∈ l.eraseIdx k ↔ y ∈ l/\y ≠ l[k]:=by
 refine ⟨hs.sub (List.eraseIdx_sublist _ _),fun y=>?_⟩
 have hnd:=hs.nodup t
 constructor
 ·intro hy
  obtain ⟨i,hi,h⟩:=List.mem_eraseIdx_iff_getElem.1 hy
  refine ⟨h.2 ▸ List.getElem_mem _,fun e=>?_⟩
  obtain ⟨h1,h2⟩:=h
  exact h1 ((List.getElem_inj hnd).1 (h2.trans e))
 ·rintro ⟨hy,hne⟩
  obtain ⟨i,hi,rfl⟩:=List.getElem_of_mem hy
  exact List.mem_eraseIdx_iff_getElem.2 ⟨i,hi,fun e=>hne (by simp[e]),rfl⟩
def keepN (H:Nat->Nat->Bool) (l:List Nat) (x:Nat):Nat:=(l.takeWhile fun y=>!H x y).length
theorem qlo_ {H:Nat->Nat->Bool} (t:Tot H) {x:Nat} {l:List Nat} (hs:Srt H l) (hx:x ∈ l):keepN H l x=spot H l x+1:=by
 obtain ⟨h,e⟩:=qdc_ t hs hx
 generalize spot H l x=k at h e
 induction l generalizing k with
 | nil=>simp at h
 | cons a l ih=>
  have hc:=List.pairwise_cons.1 hs
  cases k with
  | zero=>
   simp at e;subst e
   cases l with
   | nil=>simp[keepN,t.irr]
   | cons b l=>simp[keepN,t.irr,hc.1 b (by simp)]
  | succ k=>
   have hl:l[k]'(by simpa using h)=x:=by simpa using e
   have hm:x ∈ l:=hl ▸ List.getElem_mem _
   have h1:H x a=false:=t.asym (hc.1 x hm)
   have:=ih hc.2 hm k (by simpa using h) hl
   simp[keepN,h1] at this |-
   exact this
def byW (wt:Nat->Nat) (x y:Nat):Bool:=decide (wt y<wt x) || (wt x==wt y && decide (x<y))
theorem byW_tot (wt:Nat->Nat):Tot (byW wt) where
 irr x:=by simp[byW]
 trans x y z:=by simp[byW];omega
 tri x y:=by simp[byW];omega
end Go.Proofs.YtbgjiplfaolpjaaGreatDoor.Tp
