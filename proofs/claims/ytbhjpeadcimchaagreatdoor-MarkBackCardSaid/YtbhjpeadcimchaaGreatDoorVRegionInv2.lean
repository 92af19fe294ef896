import Derived.WalkKit
set_option maxRecDepth 100000
set_option maxHeartbeats 4000000
namespace Go.Proofs.YtbhjpeadcimchaaGreatDoor.NN.Rg2
open Go.RowKit
structure RInv (md:Region.Mode) (ops:Array Oper) (a0:Act) (C:World->Prop) (R:Nat->Value->World->Prop) (I:Array Bool->Act->World->Prop) (lz:Array Bool) (a:Act) (w:World):Prop where
 size:lz.size=ops.size
 tsize:a.tmps.size=a0.tmps.size
 defers:a.defers=a0.defers
 c:C w
 i:I lz a w
 old:∀ t,(∀(i:Nat) (o:Oper),ops[i]?=some o->lz.getD i false=true->o.dst ≠ some t)->a.eval (.tmp t)=a0.eval (.tmp t)
 got:∀ (i:Nat) (o:Oper) (d:Tmp),ops[i]?=some o->lz.getD i false=true->o.dst=some d->R i (a.eval (.tmp d)) w
 closed:∀ (j:Nat) (o:Oper),ops[j]?=some o->lz.getD j false=true->∀ e ∈ o.after,Region.binds md e=true->lz.getD e.on false=true
theorem qcp_ (a:Act) (d:Tmp) (v:Value) (h:d<a.tmps.size):(a.put (some d) v).eval (.tmp d)=v:=by
 simp[Act.eval,Act.put,h]
theorem qz_ (lz:Array Bool) (i j:Nat) (hi:i<lz.size):(lz.setIfInBounds i true).getD j false=if i=j then true else lz.getD j false:=by
 simp only[Array.getD_eq_getD_getElem?,Array.getElem?_setIfInBounds];by_cases h:i=j;subst h;simp[hi];simp[h]
theorem RInv.put {md:Region.Mode} {ops:Array Oper} {a0:Act} {C:World->Prop} {R:Nat->Value->World->Prop} {I:Array Bool->Act->World->Prop} {S:World->World->Prop} {lz:Array Bool} {a:Act} {w:World}
  (h:RInv md ops a0 C R I lz a w) (hR:∀ i v w w',C w->S w w'->R i v w->R i v w')
  (hd:∀ (i j:Nat) (oi oj:Oper) (d:Tmp),ops[i]?=some oi->ops[j]?=some oj->oi.dst=some d->oj.dst=some d->i=j)
  (ht:∀ (i:Nat) (o:Oper) (d:Tmp),ops[i]?=some o->o.dst=some d->d<a0.tmps.size)
  {i:Nat} {o:Oper} (hi:ops[i]?=some o) (hdeps:∀ e ∈ o.after,Region.binds md e=true->lz.getD e.on false=true) {v:Value} {w':World} (hc:C w') (hs:S w w') (hv:R i v w') (hI:I (lz.setIfInBounds i true) (a.put o.dst v) w') :
  RInv md ops a0 C R I (lz.setIfInBounds i true) (a.put o.dst v) w':=by
 have hil:i<lz.size:=by rw[h.size];exact (Array.getElem?_eq_some_iff.1 hi).1
 have mono:∀ j,lz.getD j false=true->(lz.setIfInBounds i true).getD j false=true:=fun j hj=>by
  rw[qz_ _ _ _ hil];split;rfl;exact hj
 refine ⟨by simp[h.size],?_,?_,hc,hI,fun t hnt=>?_,fun j oj d hj hlj hdj=>?_,fun j oj hj hlj e he hb=>?_⟩
 ·cases hdd:o.dst <;> simp[Act.put,h.tsize]
 ·cases hdd:o.dst <;> simp[Act.put,h.defers]
 have hne:o.dst ≠ some t:=hnt i o hi (by rw[qz_ _ _ _ hil,if_pos rfl]);rw[Act.eval_put (fun d hdd e=>hne (by rw[hdd];cases e;rfl))];exact h.old t fun j oj hj hlj=>hnt j oj hj (mono j hlj)
 ·by_cases e:i=j;subst e;obtain rfl:o=oj:=Option.some.inj (hi.symm.trans hj);rw[hdj,qcp_ _ _ _ (by rw[h.tsize];exact ht i o d hi hdj)];exact hv;rw[qz_ _ _ _ hil,if_neg e] at hlj;rw[Act.eval_put (fun d' hdd he=>by cases he;exact e (hd i j o oj d hi hj hdd hdj))];exact hR j _ w w' h.c hs (h.got j oj d hj hlj hdj)
 ·by_cases e':i=j;subst e';obtain rfl:o=oj:=Option.some.inj (hi.symm.trans hj);exact mono _ (hdeps e he hb);rw[qz_ _ _ _ hil,if_neg e'] at hlj;exact mono _ (h.closed j oj hj hlj e he hb)
theorem qgy_:∀ (l:List Bool) (i:Nat),i<l.length->l[i]?.getD false=false->∀ fuel,(l.filter (!·)).length<=fuel+1->((l.set i true).filter (!·)).length<=fuel
 | [],_,h,_,_,_=>by simp at h
 | b :: l,0,_,hn,fuel,h=>by
  simp at hn;subst hn;simpa using h
 | true :: l,i+1,hi,hn,fuel,h=>by
  have:=qgy_ l i (by simpa using hi) (by simpa using hn) fuel (by simpa using h);simpa using this
 | false :: l,i+1,hi,hn,0,h=>by
  exfalso;have hi':i<l.length:=by simpa using hi
  have hn':l[i]?.getD false=false:=by simpa using hn
  rw[List.getElem?_eq_getElem hi',Option.getD_some] at hn';have hm:false ∈ l:=by rw[<-hn'];exact List.getElem_mem hi'
  have:0<(l.filter (!·)).length:=List.length_pos_of_mem (List.mem_filter.2 ⟨hm,rfl⟩);simp at h;have h0:(l.filter (!·))=[]:=by rw[List.filter_eq_nil_iff];simpa using h
  rw[h0] at this;exact absurd this (by simp)
 | false :: l,i+1,hi,hn,fuel+1,h=>by
  have:=qgy_ l i (by simpa using hi) (by simpa using hn) fuel (by simpa using h);simpa using this
theorem qyn_ (lz:Array Bool) (i:Nat) (hi:i<lz.size) (hn:lz.getD i false=false) (fuel:Nat) (h:(lz.toList.filter (!·)).length<=fuel+1):((lz.setIfInBounds i true).toList.filter (!·)).length<=fuel:=by
 rw[Array.toList_setIfInBounds];exact qgy_ _ i (by simpa using hi) (by simpa [Array.getD_eq_getD_getElem?] using hn) fuel h
theorem qyo_ (lz:Array Bool) (h:(lz.toList.filter (!·)).length<=0) (i:Nat) (hi:i<lz.size):lz.getD i false=true:=by
 have h0:lz.toList.filter (!·)=[]:=List.eq_nil_of_length_eq_zero (by omega);rw[List.filter_eq_nil_iff] at h0;have:=h0 lz[i] (by simp);simpa [Array.getD_eq_getD_getElem?,hi] using this
theorem qyp_ {md:Region.Mode} {ops:Array Oper} {lz:Array Bool} {i:Nat} (h:i ∈ Region.ready md ops lz):lz.getD i true=false/\∃ o,ops[i]?=some o/\∀ e ∈ o.after,Region.binds md e=true->lz.getD e.on false=true:=by
 unfold Region.ready at h;rw[List.mem_filter] at h;obtain ⟨h1,h2⟩:=h;simp only[Bool.and_eq_true,Bool.not_eq_true'] at h2;obtain ⟨h2,h3⟩:=h2;refine ⟨h2,?_⟩;have hi:i<ops.size:=by simpa using h1
 refine ⟨ops[i],by simp[hi],fun e he hb=>?_⟩;simp[hi] at h3;obtain ⟨k,hk,rfl⟩:=Array.getElem_of_mem he;rcases h3 k hk with h|h
 rw[hb] at h;cases h;simpa [Array.getD_eq_getD_getElem?] using h
def tidy (ops:Array Oper) (n:Nat):Bool :=
 ops.toList.all (fun o=>(o.dst.map (fun d=>decide (d<n))).getD true) &&
 (List.range ops.size).all (fun i=>(List.range i).all (fun j=>match (ops[i]?).bind (·.dst),(ops[j]?).bind (·.dst) with|some d,some d'=>d != d'|_,_=>true)) &&
 (List.range ops.size).all (fun i=>((ops[i]?).map (fun o=>o.after.all (fun e=>!Region.binds .any e || decide (e.on<i)))).getD true)
theorem tidy_lt {ops:Array Oper} {n:Nat} (h:tidy ops n=true) (i:Nat) (o:Oper) (d:Tmp) (hi:ops[i]?=some o) (hd:o.dst=some d):d<n:=by
 simp only[tidy,Bool.and_eq_true] at h;have:=List.all_eq_true.1 h.1.1 o (by simpa using Array.mem_of_getElem? hi);simpa [hd] using this
theorem tidy_apart' {ops:Array Oper} {n:Nat} (h:tidy ops n=true) (i j:Nat) (oi oj:Oper) (d:Tmp) (hi:ops[i]?=some oi) (hj:ops[j]?=some oj) (hdi:oi.dst=some d) (hdj:oj.dst=some d) (hlt:j<i):False:=by
 simp only[tidy,Bool.and_eq_true] at h;have h1:=List.all_eq_true.1 h.1.2 i (by have:=(Array.getElem?_eq_some_iff.1 hi).1;simpa using this);have h2:=List.all_eq_true.1 h1 j (by simpa using hlt);simp[hi,hj,hdi,hdj] at h2
theorem qtz_ {ops:Array Oper} {n:Nat} (h:tidy ops n=true) (i j:Nat) (oi oj:Oper) (d:Tmp) (hi:ops[i]?=some oi) (hj:ops[j]?=some oj) (hdi:oi.dst=some d) (hdj:oj.dst=some d):i=j:=by
 rcases Nat.lt_trichotomy i j with hlt|e|hlt
 exact (tidy_apart' h j i oj oi d hj hi hdj hdi hlt).elim;exact e;exact (tidy_apart' h i j oi oj d hi hj hdi hdj hlt).elim
theorem qyq_ {ops:Array Oper} {n:Nat} (h:tidy ops n=true) (i:Nat) (o:Oper) (hi:ops[i]?=some o) (e:Edge) (he:e ∈ o.after):Region.binds .any e=false\/e.on<i:=by
 simp only[tidy,Bool.and_eq_true] at h;have h1:=List.all_eq_true.1 h.2 i (by have:=(Array.getElem?_eq_some_iff.1 hi).1;simpa using this);simp only[hi,Option.map_some,Option.getD_some,Array.all_eq_true_iff_forall_mem,Bool.or_eq_true,Bool.not_eq_true',decide_eq_true_eq] at h1;exact h1 e he
theorem qua_ {ops:Array Oper} {n:Nat} (h:tidy ops n=true) {lz:Array Bool} (hs:lz.size=ops.size) (hr:Region.ready .any ops lz=[]):∀ i,i<ops.size->lz.getD i false=true:=by
 intro i;induction i using Nat.strongRecOn with
 | ind i ih=>
  intro hi;by_cases hc:lz.getD i false=true;exact hc
  ·exfalso
   have:i ∈ Region.ready .any ops lz:=by
    unfold Region.ready;rw[List.mem_filter];refine ⟨by simpa using hi,?_⟩
    have h1:lz.getD i true=false:=by
     simp only[Array.getD_eq_getD_getElem?,Array.getElem?_eq_getElem (show i<lz.size by omega),Option.getD_some] at hc |-;simpa using hc
    rw[h1];simp only[Bool.not_false,Bool.true_and,Array.getElem?_eq_getElem hi,Option.map_some,Option.getD_some,Array.all_eq_true_iff_forall_mem];intro e he;rcases qyq_ h i ops[i] (by simp[hi]) e he with hb|hlt
    rw[hb];simp;rw[ih e.on hlt (by omega)];simp
   rw[hr] at this;cases this
theorem any_inv {P:Program} {ops:Array Oper} {Q:Exit->Act->World->Prop} {a0:Act} {C:World->Prop} {R:Nat->Value->World->Prop} {I:Array Bool->Act->World->Prop} {S:World->World->Prop}
  (hS:∀ w,C w->S w w) (hR:∀ i v w w',C w->S w w'->R i v w->R i v w') (htd:tidy ops a0.tmps.size=true)
  (hstep:∀ (i:Nat) (o:Oper) (lz:Array Bool) (a:Act) (w:World),ops[i]?=some o->lz.getD i false=false->(∀e ∈ o.after,Region.binds .any e=true->lz.getD e.on false=true)->RInv .any ops a0 C R I lz a w->
   if Region.wanted o (yielded ops a.tmps)=true then o.wp P a w (fun a' w'=>C w'/\S w w'/\∃ v,a'=a.put o.dst v/\R i v w'/\I (lz.setIfInBounds i true) a' w') Q else R i undef w/\I (lz.setIfInBounds i true) (a.put o.dst undef) w)
  (hend:∀ (lz:Array Bool) (a:Act) (w:World),(∀i,i<ops.size->lz.getD i false=true)->RInv .any ops a0 C R I lz a w->Q .normal a w) :
  ∀ (fuel:Nat) (lz:Array Bool) (a:Act) (w:World),(lz.toList.filter (!·)).length<=fuel->RInv .any ops a0 C R I lz a w->wpAny P .any ops Q fuel lz a w:=by
 intro fuel;induction fuel with
 | zero=>
  intro lz a w hf h;have hall:∀ i,i<ops.size->lz.getD i false=true:=fun i hi=>qyo_ lz hf i (by rw[h.size];exact hi)
  refine ⟨?_,hend lz a w hall h⟩;unfold Region.ready;rw[List.filter_eq_nil_iff];intro i hi;have hi':i<ops.size:=by simpa using hi
  have:=hall i hi';simp only[Array.getD_eq_getD_getElem?,Array.getElem?_eq_getElem (show i<lz.size by rw[h.size];exact hi'),Option.getD_some] at this |-;simp[this]
 | succ fuel ih=>
  intro lz a w hf h;refine ⟨fun hr=>hend lz a w (qua_ htd h.size hr) h,fun i hi=>?_⟩;obtain ⟨hn,o,ho,hdeps⟩:=qyp_ hi;have hil:i<lz.size:=by rw[h.size];exact (Array.getElem?_eq_some_iff.1 ho).1
  have hn':lz.getD i false=false:=by
   simp only[Array.getD_eq_getD_getElem?,Array.getElem?_eq_getElem hil,Option.getD_some] at hn |-;exact hn
  have hs:=hstep i o lz a w ho hn' hdeps h
  have next:∀ (a':Act) (w':World),(C w'/\S w w'/\∃ v,a'=a.put o.dst v/\R i v w'/\I (lz.setIfInBounds i true) a' w')->wpAny P .any ops Q fuel (lz.setIfInBounds i true) a' w':=fun a' w' ⟨hc,hss,v,ha,hv,hI⟩=>by
   subst ha;exact ih _ _ _ (qyn_ lz i hil hn' fuel hf) (h.put hR (qtz_ htd) (tidy_lt htd) ho hdeps hc hss hv hI)
  unfold wpOp;simp only[ho];split
  ·rename_i hw;rw[if_pos hw] at hs;exact .inl (Oper.wp_mono next hs)
  ·rename_i hw;rw[if_neg hw] at hs;exact next _ _ ⟨h.c,hS w h.c,undef,rfl,hs.1,hs.2⟩
theorem qf_ {P:Program} {id:Nat} {ops:Array Oper} {Q:Exit->Act->World->Prop} {a0:Act} {w0:World} (hm:P.follows .mixedOrders=true) (C:World->Prop) (R:Nat->Value->World->Prop) (I:Array Bool->Act->World->Prop) (S:World->World->Prop)
  (hS:∀ w,C w->S w w) (hR:∀ i v w w',C w->S w w'->R i v w->R i v w') (htd:tidy ops a0.tmps.size=true) (h0:C w0.drew) (hI0:∀ lz:Array Bool,(∀i,lz.getD i false=false)->I lz a0 w0.drew)
  (hstep:∀ (i:Nat) (o:Oper) (lz:Array Bool) (a:Act) (w:World),ops[i]?=some o->lz.getD i false=false->(∀e ∈ o.after,Region.binds .any e=true->lz.getD e.on false=true)->RInv .any ops a0 C R I lz a w->
   if Region.wanted o (yielded ops a.tmps)=true then o.wp P a w (fun a' w'=>C w'/\S w w'/\∃ v,a'=a.put o.dst v/\R i v w'/\I (lz.setIfInBounds i true) a' w') Q else R i undef w/\I (lz.setIfInBounds i true) (a.put o.dst undef) w)
  (hend:∀ (lz:Array Bool) (a:Act) (w:World),(∀i,i<ops.size->lz.getD i false=true)->RInv .any ops a0 C R I lz a w->Q .normal a w) :
  (Code.region id ops true).wp P Q a0 w0:=by
 have hno:∀ i,(Array.replicate ops.size false).getD i false=false:=fun i=>by
  simp only[Array.getD_eq_getD_getElem?];by_cases h:i<ops.size;simp[h];simp[Array.getElem?_eq_none (show (Array.replicate ops.size false).size<=i by simp;omega)]
 refine wp_region_any hm (any_inv hS hR htd hstep hend _ _ _ _ ?_ ?_);simp;exact ⟨by simp,rfl,rfl,h0,hI0 _ hno,fun _ _=>rfl,(fun i o d hi hl=>by rw[hno] at hl;cases hl),(fun j o hj hl=>by rw[hno] at hl;cases hl)⟩
theorem qer_ {ops:Array Oper} {a:Act} {j:Nat} {o:Oper} {d:Tmp} {b:Bool} (hj:ops[j]?=some o) (hd:o.dst=some d) (h:a.eval (.tmp d) = .bool b):yielded ops a.tmps j=some b:=by
 unfold yielded
 have hs:a.tmps[d]?=some (.bool b):=by
  simp only[Act.eval,Array.getD_eq_getD_getElem?] at h;cases he:a.tmps[d]? with
  | none=>rw[he] at h;simp[undef] at h
  | some v=>rw[he] at h;simpa using h
 simp[hj,hd,hs]
theorem qov_ {ops:Array Oper} {a:Act} {o:Oper} {j:Nat} {b:Bool} (hg:o.guard=some (j,b)) (h:yielded ops a.tmps j=some b):Region.wanted o (yielded ops a.tmps)=true:=by
 unfold Region.wanted;rw[hg];simp[h]
theorem qa_ {ops:Array Oper} {a:Act} {o:Oper} (hg:o.guard=none):Region.wanted o (yielded ops a.tmps)=true:=by
 unfold Region.wanted;rw[hg]
def waits (ops:Array Oper) (k i:Nat):Bool:=((ops[k]?).map fun o=>o.after.any fun e=>Region.binds .any e && e.on==i).getD false
theorem RInv.after {ops:Array Oper} {a0:Act} {C:World->Prop} {R:Nat->Value->World->Prop} {I:Array Bool->Act->World->Prop} {lz:Array Bool} {a:Act} {w:World}
  (h:RInv .any ops a0 C R I lz a w) {k i:Nat} (hw:waits ops k i=true) (hk:lz.getD k false=true):lz.getD i false=true:=by
 unfold waits at hw;cases ho:ops[k]? with
 | none=>rw[ho] at hw;simp at hw
 | some o=>
  rw[ho] at hw;simp only[Option.map_some,Option.getD_some,Array.any_eq_true] at hw;obtain ⟨j,hj,he⟩:=hw;simp only[Bool.and_eq_true,beq_iff_eq] at he;have:=h.closed k o ho hk o.after[j] (by simp) he.1;rwa [he.2] at this
theorem RInv.ahead {ops:Array Oper} {a0:Act} {C:World->Prop} {R:Nat->Value->World->Prop} {I:Array Bool->Act->World->Prop} {lz:Array Bool} {a:Act} {w:World}
  (h:RInv .any ops a0 C R I lz a w) {k i:Nat} (hw:waits ops k i=true) (hn:lz.getD i false=false) (hil:i<ops.size) (hik:i ≠ k):(lz.setIfInBounds i true).getD k false=false:=by
 rw[qz_ _ _ _ (by rw[h.size];exact hil),if_neg hik];cases hk:lz.getD k false with
 | false=>rfl
 | true=>rw[h.after hw hk] at hn;cases hn
def reach (ops:Array Oper):Nat->Nat->Nat->Bool
 | 0,k,i=>waits ops k i
 | f+1,k,i=>waits ops k i || (List.range ops.size).any fun m=>waits ops k m && reach ops f m i
theorem RInv.afterT {ops:Array Oper} {a0:Act} {C:World->Prop} {R:Nat->Value->World->Prop} {I:Array Bool->Act->World->Prop} {lz:Array Bool} {a:Act} {w:World}
  (h:RInv .any ops a0 C R I lz a w):∀ (f:Nat) {k i:Nat},reach ops f k i=true->lz.getD k false=true->lz.getD i false=true
 | 0,_,_,hw,hk=>h.after hw hk
 | f+1,k,i,hw,hk=>by
  simp only[reach,Bool.or_eq_true,List.any_eq_true,Bool.and_eq_true] at hw;rcases hw with hw|⟨m,_,h1,h2⟩
  exact h.after hw hk;exact h.afterT f h2 (h.after h1 hk)
theorem RInv.aheadT {ops:Array Oper} {a0:Act} {C:World->Prop} {R:Nat->Value->World->Prop} {I:Array Bool->Act->World->Prop} {lz:Array Bool} {a:Act} {w:World}
  (h:RInv .any ops a0 C R I lz a w) (f:Nat) {k i:Nat} (hw:reach ops f k i=true) (hn:lz.getD i false=false) (hil:i<ops.size) (hik:i ≠ k):(lz.setIfInBounds i true).getD k false=false:=by
 rw[qz_ _ _ _ (by rw[h.size];exact hil),if_neg hik];cases hk:lz.getD k false with
 | false=>rfl
 | true=>rw[h.afterT f hw hk] at hn;cases hn
theorem RInv.old' {md:Region.Mode} {ops:Array Oper} {a0:Act} {C:World->Prop} {R:Nat->Value->World->Prop} {I:Array Bool->Act->World->Prop} {lz:Array Bool} {a:Act} {w:World}
  (h:RInv md ops a0 C R I lz a w) (t:Tmp) (hn:ops.toList.all (fun o=>o.dst != some t)=true:=by kernel_rfl):a.eval (.tmp t)=a0.eval (.tmp t) :=
 h.old t fun i o hi _ e=>by
  have:=List.all_eq_true.1 hn o (by simpa using Array.mem_of_getElem? hi);rw[e] at this;simp at this
section
variable {P:Program} {ops:Array Oper} {o:Oper} {a:Act} {w w':World} {Q:Exit->Act->World->Prop} {C:World->Prop} {S:World->World->Prop} {R:Value->World->Prop} {J:Act->World->Prop} {v:Value}
theorem qg_ (hS:∀ w,C w->S w w) (hc:C w) (hn:Region.wanted o (yielded ops a.tmps)=true) (h:(execOp a.eval o).run P w = .ok (.value v) w) (hr:R v w) (hJ:J (a.put o.dst v) w) :
  if Region.wanted o (yielded ops a.tmps)=true then o.wp P a w (fun a' w'=>C w'/\S w w'/\∃ v,a'=a.put o.dst v/\R v w'/\J a' w') Q else R undef w/\J (a.put o.dst undef) w:=by
 rw[if_pos hn];unfold Oper.wp;rw[h];exact ⟨hc,hS w hc,v,rfl,hr,hJ⟩
theorem qci_ (hn:Region.wanted o (yielded ops a.tmps)=true) (h:(execOp a.eval o).run P w = .ok (.value v) w') (hc:C w') (hs:S w w') (hr:R v w') (hJ:J (a.put o.dst v) w') :
  if Region.wanted o (yielded ops a.tmps)=true then o.wp P a w (fun a' w'=>C w'/\S w w'/\∃ v,a'=a.put o.dst v/\R v w'/\J a' w') Q else R undef w/\J (a.put o.dst undef) w:=by
 rw[if_pos hn];unfold Oper.wp;rw[h];exact ⟨hc,hs,v,rfl,hr,hJ⟩
theorem qbb_ (hn:Region.wanted o (yielded ops a.tmps)=true) (h:(execOp a.eval o).run P w = .ok .skip w') (hc:C w') (hs:S w w') (hr:R undef w') (hJ:J (a.put o.dst undef) w') :
  if Region.wanted o (yielded ops a.tmps)=true then o.wp P a w (fun a' w'=>C w'/\S w w'/\∃ v,a'=a.put o.dst v/\R v w'/\J a' w') Q else R undef w/\J (a.put o.dst undef) w:=by
 rw[if_pos hn];unfold Oper.wp;rw[h];exact ⟨hc,hs,undef,rfl,hr,hJ⟩
theorem qbg_ {f:FuncId} {args:Array Value} (hn:Region.wanted o (yielded ops a.tmps)=true) (h:(execOp a.eval o).run P w = .ok (.enter f args) w) (hcall:Calls P f args w fun e w'=>e = .returned v/\Below w.heap.size w w')
  (hr:∀ w',Below w.heap.size w w'->C w'/\S w w'/\R v w'/\J (a.put o.dst v) w') :
  if Region.wanted o (yielded ops a.tmps)=true then o.wp P a w (fun a' w'=>C w'/\S w w'/\∃ v,a'=a.put o.dst v/\R v w'/\J a' w') Q else R undef w/\J (a.put o.dst undef) w:=by
 rw[if_pos hn];unfold Oper.wp;rw[h];refine Calls.mono hcall fun e w' he=>?_
 obtain ⟨rfl,hb⟩:=he;obtain ⟨h1,h2,h3,h4⟩:=hr w' hb;exact ⟨h1,h2,v,rfl,h3,h4⟩
abbrev T2_:World->World->Prop:=fun _ _=>True
theorem dv_ {P:Program} {ops:Array Oper} {a0:Act} {C:World->Prop} {R:Nat->Value->World->Prop} {I:Array Bool->Act->World->Prop} {lz:Array Bool} {a:Act} {w:World} {Q:Exit->Act->World->Prop} {o:Oper} {v:Value} (i:Nat) (Z:RInv .any ops a0 C R I lz a w) (hn:Region.wanted o (yielded ops a.tmps)=true) (h:(execOp a.eval o).run P w = .ok (.value v) w) (hr:R i v w) (hJ:I (lz.setIfInBounds i true) (a.put o.dst v) w):if Region.wanted o (yielded ops a.tmps)=true then o.wp P a w (fun a' w'=>C w'/\True/\∃ v,a'=a.put o.dst v/\R i v w'/\I (lz.setIfInBounds i true) a' w') Q else R i undef w/\I (lz.setIfInBounds i true) (a.put o.dst undef) w :=
 qg_ (S:=(fun _ _=>True)) (C:=C) (R:=R i) (J:=fun a' w'=>I (lz.setIfInBounds i true) a' w') (fun _ _=>trivial) Z.c hn h hr hJ
theorem dV_ {P:Program} {ops:Array Oper} {a0:Act} {C:World->Prop} {R:Nat->Value->World->Prop} {I:Array Bool->Act->World->Prop} {lz:Array Bool} {a:Act} {w:World} {Q:Exit->Act->World->Prop} {o:Oper} {v:Value} {S:World->World->Prop} (hS:∀ w,C w->S w w) (i:Nat) (Z:RInv .any ops a0 C R I lz a w) (hn:Region.wanted o (yielded ops a.tmps)=true) (h:(execOp a.eval o).run P w = .ok (.value v) w) (hr:R i v w) (hJ:I (lz.setIfInBounds i true) (a.put o.dst v) w):if Region.wanted o (yielded ops a.tmps)=true then o.wp P a w (fun a' w'=>C w'/\S w w'/\∃ v,a'=a.put o.dst v/\R i v w'/\I (lz.setIfInBounds i true) a' w') Q else R i undef w/\I (lz.setIfInBounds i true) (a.put o.dst undef) w :=
 qg_ (S:=S) (C:=C) (R:=R i) (J:=fun a' w'=>I (lz.setIfInBounds i true) a' w') hS Z.c hn h hr hJ
theorem dm_ {P:Program} {ops:Array Oper} {a0:Act} {C:World->Prop} {R:Nat->Value->World->Prop} {I:Array Bool->Act->World->Prop} {lz:Array Bool} {a:Act} {w:World} {w':World} {Q:Exit->Act->World->Prop} {o:Oper} {v:Value} (i:Nat) (_hinv:RInv .any ops a0 C R I lz a w) (hn:Region.wanted o (yielded ops a.tmps)=true) (h:(execOp a.eval o).run P w = .ok (.value v) w') (hc:C w') (hr:R i v w') (hJ:I (lz.setIfInBounds i true) (a.put o.dst v) w'):if Region.wanted o (yielded ops a.tmps)=true then o.wp P a w (fun a' w'=>C w'/\True/\∃ v,a'=a.put o.dst v/\R i v w'/\I (lz.setIfInBounds i true) a' w') Q else R i undef w/\I (lz.setIfInBounds i true) (a.put o.dst undef) w :=
 qci_ (S:=(fun _ _=>True)) (C:=C) (R:=R i) (J:=fun a' w'=>I (lz.setIfInBounds i true) a' w') hn h hc trivial hr hJ
theorem dM_ {P:Program} {ops:Array Oper} {a0:Act} {C:World->Prop} {R:Nat->Value->World->Prop} {I:Array Bool->Act->World->Prop} {lz:Array Bool} {a:Act} {w:World} {w':World} {Q:Exit->Act->World->Prop} {o:Oper} {v:Value} {S:World->World->Prop} (i:Nat) (_hinv:RInv .any ops a0 C R I lz a w) (hn:Region.wanted o (yielded ops a.tmps)=true) (h:(execOp a.eval o).run P w = .ok (.value v) w') (hc:C w') (hs:S w w') (hr:R i v w') (hJ:I (lz.setIfInBounds i true) (a.put o.dst v) w'):if Region.wanted o (yielded ops a.tmps)=true then o.wp P a w (fun a' w'=>C w'/\S w w'/\∃ v,a'=a.put o.dst v/\R i v w'/\I (lz.setIfInBounds i true) a' w') Q else R i undef w/\I (lz.setIfInBounds i true) (a.put o.dst undef) w :=
 qci_ (S:=S) (C:=C) (R:=R i) (J:=fun a' w'=>I (lz.setIfInBounds i true) a' w') hn h hc hs hr hJ
theorem ds_ {P:Program} {ops:Array Oper} {a0:Act} {C:World->Prop} {R:Nat->Value->World->Prop} {I:Array Bool->Act->World->Prop} {lz:Array Bool} {a:Act} {w:World} {w':World} {Q:Exit->Act->World->Prop} {o:Oper} (i:Nat) (_hinv:RInv .any ops a0 C R I lz a w) (hn:Region.wanted o (yielded ops a.tmps)=true) (h:(execOp a.eval o).run P w = .ok .skip w') (hc:C w') (hr:R i undef w') (hJ:I (lz.setIfInBounds i true) (a.put o.dst undef) w'):if Region.wanted o (yielded ops a.tmps)=true then o.wp P a w (fun a' w'=>C w'/\True/\∃ v,a'=a.put o.dst v/\R i v w'/\I (lz.setIfInBounds i true) a' w') Q else R i undef w/\I (lz.setIfInBounds i true) (a.put o.dst undef) w :=
 qbb_ (S:=(fun _ _=>True)) (C:=C) (R:=R i) (J:=fun a' w'=>I (lz.setIfInBounds i true) a' w') hn h hc trivial hr hJ
theorem dS_ {P:Program} {ops:Array Oper} {a0:Act} {C:World->Prop} {R:Nat->Value->World->Prop} {I:Array Bool->Act->World->Prop} {lz:Array Bool} {a:Act} {w:World} {w':World} {Q:Exit->Act->World->Prop} {o:Oper} {S:World->World->Prop} (i:Nat) (_hinv:RInv .any ops a0 C R I lz a w) (hn:Region.wanted o (yielded ops a.tmps)=true) (h:(execOp a.eval o).run P w = .ok .skip w') (hc:C w') (hs:S w w') (hr:R i undef w') (hJ:I (lz.setIfInBounds i true) (a.put o.dst undef) w'):if Region.wanted o (yielded ops a.tmps)=true then o.wp P a w (fun a' w'=>C w'/\S w w'/\∃ v,a'=a.put o.dst v/\R i v w'/\I (lz.setIfInBounds i true) a' w') Q else R i undef w/\I (lz.setIfInBounds i true) (a.put o.dst undef) w :=
 qbb_ (S:=S) (C:=C) (R:=R i) (J:=fun a' w'=>I (lz.setIfInBounds i true) a' w') hn h hc hs hr hJ
theorem dC_ {P:Program} {ops:Array Oper} {a0:Act} {C:World->Prop} {R:Nat->Value->World->Prop} {I:Array Bool->Act->World->Prop} {lz:Array Bool} {a:Act} {w:World} {Q:Exit->Act->World->Prop} {o:Oper} {v:Value} {S:World->World->Prop} {f:FuncId} {args:Array Value} (i:Nat) (_hinv:RInv .any ops a0 C R I lz a w) (hn:Region.wanted o (yielded ops a.tmps)=true) (h:(execOp a.eval o).run P w = .ok (.enter f args) w) (hcall:Calls P f args w fun e w'=>e = .returned v/\Below w.heap.size w w') (hr:∀ w',Below w.heap.size w w'->C w'/\S w w'/\R i v w'/\I (lz.setIfInBounds i true) (a.put o.dst v) w'):if Region.wanted o (yielded ops a.tmps)=true then o.wp P a w (fun a' w'=>C w'/\S w w'/\∃ v,a'=a.put o.dst v/\R i v w'/\I (lz.setIfInBounds i true) a' w') Q else R i undef w/\I (lz.setIfInBounds i true) (a.put o.dst undef) w :=
 qbg_ (S:=S) (C:=C) (R:=R i) (J:=fun a' w'=>I (lz.setIfInBounds i true) a' w') hn h hcall hr
theorem gd_ {ops:Array Oper} {a0:Act} {C:World->Prop} {R:Nat->Value->World->Prop} {I:Array Bool->Act->World->Prop} {lz:Array Bool} {a:Act} {w:World} {o:Oper} (Z:RInv .any ops a0 C R I lz a w) (dq:∀ e ∈ o.after,Region.binds .any e=true->lz.getD e.on false=true) (i d:Nat) (h1:(ops[i]?).bind Oper.dst=some d:=by rfl) (h2:o.after.toList.any (fun e=>e.on==i && Region.binds .any e)=true:=by rfl):R i (a.eval (.tmp d)) w:=by
 obtain ⟨e,he,h⟩:=List.any_eq_true.1 h2;simp only[Bool.and_eq_true,beq_iff_eq] at h;cases ho:ops[i]? with
 | none=>rw[ho] at h1;cases h1
 | some oi=>exact Z.got i oi d ho (h.1 ▸ dq e (Array.mem_toList_iff.1 he) h.2) (by rw[ho] at h1;exact h1)
theorem gy_ {ops:Array Oper} {a0:Act} {C:World->Prop} {R:Nat->Value->World->Prop} {I:Array Bool->Act->World->Prop} {lz:Array Bool} {a:Act} {w:World} {o:Oper} (Z:RInv .any ops a0 C R I lz a w) (dq:∀ e ∈ o.after,Region.binds .any e=true->lz.getD e.on false=true) (i d:Nat) {b:Bool} (hg:o.guard=some (i,b)) (hR:R i (a.eval (.tmp d)) w->a.eval (.tmp d) = .bool b:=by intro h;exact h) (h1:(ops[i]?).bind Oper.dst=some d:=by rfl) (h2:o.after.toList.any (fun e=>e.on==i && Region.binds .any e)=true:=by rfl):Region.wanted o (yielded ops a.tmps)=true:=by
 have h3:=hR (gd_ Z dq i d h1 h2);cases ho:ops[i]? with
 | none=>rw[ho] at h1;cases h1
 | some oi=>exact qov_ hg (qer_ ho (by rw[ho] at h1;exact h1) h3)
theorem hz_ {ops:Array Oper} {a0:Act} {C:World->Prop} {R:Nat->Value->World->Prop} {I:Array Bool->Act->World->Prop} {lz:Array Bool} {a:Act} {w:World} (Z:RInv .any ops a0 C R I lz a w) (i:Nat) (h:i<ops.size:=by decide):i<lz.size:=by rw[Z.size];exact h
theorem ah_ {ops:Array Oper} {a0:Act} {C:World->Prop} {R:Nat->Value->World->Prop} {I:Array Bool->Act->World->Prop} {lz:Array Bool} {a:Act} {w:World} (Z:RInv .any ops a0 C R I lz a w) {i:Nat} (hn:lz.getD i false=false) (k:Nat) (h1:reach ops k k i=true:=by kernel_rfl) (h2:i<ops.size:=by decide) (h3:i ≠ k:=by decide):(lz.setIfInBounds i true).getD k false=false:=Z.aheadT k h1 hn h2 h3
theorem ai_ {ops:Array Oper} {a0:Act} {C:World->Prop} {R:Nat->Value->World->Prop} {I:Array Bool->Act->World->Prop} {lz:Array Bool} {a:Act} {w:World} (Z:RInv .any ops a0 C R I lz a w) {i k:Nat} (hn:lz.getD i false=false) (f:Nat) (h1:reach ops f k i=true:=by kernel_rfl) (h2:i<ops.size:=by decide) (h3:i ≠ k:=by decide):(lz.setIfInBounds i true).getD k false=false:=Z.aheadT f h1 hn h2 h3
end
section
variable {P:Program} {ρ:Operand->Value} {o:Oper} {w w':World}
theorem ex_bin {op:BinOp} {t u:TypeId} {x y:Operand} {v:Value} (hop:o.op = .binOp op t x y u) (hn1:op ≠ .eql) (hn2:op ≠ .neq)
  (h:(binOp op t (ρ x) (ρ y)).run P w = .ok v w'):(execOp ρ o).run P w = .ok (.value v) w':=by
 unfold execOp;rw[hop]
 have hg:(eqGuard op t x y (ρ x) (ρ y)).run P w = .ok () w:=by
  cases op <;> first|exact absurd rfl hn1|exact absurd rfl hn2|rfl
 simp only[Sem.run_bind,hg,h,Result.andThen_ok];rfl
theorem qkv_ {t:TypeId} {n:Nat} {parts:Array (Nat × Operand)} {v:Value} (hop:o.op = .buildSlice t n parts) (h:(Instr.buildSlice t n (parts.map fun (i,x)=>(i,ρ x))).run P w = .ok v w'):(execOp ρ o).run P w = .ok (.value v) w':=by
 unfold execOp;rw[hop];simp only[Sem.run_bind,h,Result.andThen_ok];rfl
theorem qbz_ {t:TypeId} {x:Operand} {u v:Value} (hop:o.op = .buildSlice t 1 #[(0,x)]) (hx:ρ x=u) (h:(Instr.buildSlice t 1 #[(0,u)]).run P w = .ok v w'):(execOp ρ o).run P w = .ok (.value v) w' :=
 qkv_ hop (by simpa [hx] using h)
theorem qil_ {c x y:Operand} {b:Bool} (hop:o.op = .pick c x y) (hc:ρ c = .bool b):(execOp ρ o).run P w = .ok (.value (if b then ρ x else ρ y)) w:=by
 unfold execOp;rw[hop];simp only[hc];rfl
end
end Go.Proofs.YtbhjpeadcimchaaGreatDoor.NN.Rg2
