import Derived.Test.YtkbjaadjnbgfbaaGreatDoorBIda
import Derived.WalkKit
set_option maxRecDepth 100000
set_option maxHeartbeats 4000000
namespace Go.Proofs.YtkbjaadjnbgfbaaGreatDoor
open Go.RowKit
namespace NN.Si
structure cY (md:Region.Mode) (ops:Array Oper) (a0:Act) (C:World->Prop) (R:Nat->Value->World->Prop) (I:Array Bool->Act->World->Prop) (lz:Array Bool) (a:Act) (w:World):Prop where
 size:lz.size=ops.size
 R4:a.tmps.size=a0.tmps.size
 defers:a.defers=a0.defers
 c:C w
 i:I lz a w
 old:∀t,(∀(i:Nat)(o:Oper),ops[i]?=some o->lz.getD i false=true->o.dst≠some t)->a.eval (.tmp t)=a0.eval (.tmp t)
 got:∀(i:Nat)(o:Oper)(d:Tmp),ops[i]?=some o->lz.getD i false=true->o.dst=some d->R i (a.eval (.tmp d)) w
 closed:∀(j:Nat)(o:Oper),ops[j]?=some o->lz.getD j false=true->∀e∈o.after,Region.binds md e=true->lz.getD e.on false=true
theorem jQ(a:Act)(d:Tmp)(v:Value)(h:d<a.tmps.size):(a.put (some d) v).eval (.tmp d)=v:=by simp[Act.eval,Act.put,h]
theorem gF(lz:Array Bool)(i j:Nat)(hi:i<lz.size):(lz.setIfInBounds i true).getD j false=if i=j then true else lz.getD j false:=by simp only[Array.getD_eq_getD_getElem?,Array.getElem?_setIfInBounds];by_cases h:i=j;subst h;simp[hi];simp[h]
variable{md:Region.Mode}{ops:Array Oper}{a0 a:Act}{C:World->Prop}{R:Nat->Value->World->Prop}{I:Array Bool->Act->World->Prop}{S:World->World->Prop}{lz:Array Bool}{w:World}
theorem cY.put(h:cY md ops a0 C R I lz a w)(hR:∀i v w w',C w->S w w'->R i v w->R i v w')(hd:∀(i j:Nat)(oi oj:Oper)(d:Tmp),ops[i]?=some oi->ops[j]?=some oj->oi.dst=some d->oj.dst=some d->i=j)(ht:∀(i:Nat)(o:Oper)(d:Tmp),ops[i]?=some o->o.dst=some d->d<a0.tmps.size){i:Nat}{o:Oper}(hi:ops[i]?=some o)(T3:∀e∈o.after,Region.binds md e=true->lz.getD e.on false=true){v:Value}{w':World}(hc:C w')(hs:S w w')(hv:R i v w')(hI:I (lz.setIfInBounds i true) (a.put o.dst v) w'):cY md ops a0 C R I (lz.setIfInBounds i true) (a.put o.dst v) w':=by
 have hil:i<lz.size:=by rw[h.size];exact(Array.getElem?_eq_some_iff.1 hi).1
 have mono:∀j,lz.getD j false=true->(lz.setIfInBounds i true).getD j false=true:=fun j hj=>by
  rw[gF _ _ _ hil];split;rfl;exact hj
 refine⟨by simp[h.size],?_,?_,hc,hI,fun t hnt=>?_,fun j oj d hj hlj hdj=>?_,fun j oj hj hlj e he hb=>?_⟩
 ·cases hdd:o.dst<;>simp[Act.put,h.R4]
 ·cases hdd:o.dst<;>simp[Act.put,h.defers]
 have hne:o.dst≠some t:=hnt i o hi (by rw[gF _ _ _ hil,if_pos rfl]);rw[Act.eval_put (fun d hdd e=>hne (by rw[hdd];cases e;rfl))];exact h.old t fun j oj hj hlj=>hnt j oj hj (mono j hlj)
 ·by_cases e:i=j;subst e;obtain rfl:o=oj:=Option.some.inj (hi.symm.trans hj);rw[hdj,jQ _ _ _ (by rw[h.R4];exact ht i o d hi hdj)];exact hv;rw[gF _ _ _ hil,if_neg e]at hlj;rw[Act.eval_put (fun d' hdd he=>by cases he;exact e (hd i j o oj d hi hj hdd hdj))];exact hR j _ w w' h.c hs (h.got j oj d hj hlj hdj)
 ·by_cases e':i=j;subst e';obtain rfl:o=oj:=Option.some.inj (hi.symm.trans hj);exact mono _ (T3 e he hb);rw[gF _ _ _ hil,if_neg e']at hlj;exact mono _ (h.closed j oj hj hlj e he hb)
theorem Bf:∀(l:List Bool)(i:Nat),i<l.length->l[i]?.getD false=false->∀fuel,(l.filter (!·)).length<=fuel+1->((l.set i true).filter (!·)).length<=fuel
 | [],_,h,_,_,_=>by simp at h
 | b::l,0,_,hn,fuel,h=>by
  simp at hn;subst hn;simpa using h
 | true::l,i+1,hi,hn,fuel,h=>by
  have:=Bf l i (by simpa using hi) (by simpa using hn) fuel (by simpa using h);simpa using this
 | false::l,i+1,hi,hn,0,h=>by
  exfalso;have hi':i<l.length:=by simpa using hi
  have hn':l[i]?.getD false=false:=by simpa using hn
  rw[List.getElem?_eq_getElem hi',Option.getD_some]at hn';have hm:false∈l:=by rw[<-hn'];exact List.getElem_mem hi'
  have:0<(l.filter (!·)).length:=List.length_pos_of_mem (List.mem_filter.2 ⟨hm,rfl⟩);simp at h;have h0:(l.filter (!·))=[]:=by rw[List.filter_eq_nil_iff];simpa using h
  rw[h0]at this;exact absurd this (by simp)
 | false::l,i+1,hi,hn,fuel+1,h=>by
  have:=Bf l i (by simpa using hi) (by simpa using hn) fuel (by simpa using h);simpa using this
theorem Ed(lz:Array Bool)(i:Nat)(hi:i<lz.size)(hn:lz.getD i false=false)(fuel:Nat)(h:(lz.toList.filter (!·)).length<=fuel+1):((lz.setIfInBounds i true).toList.filter (!·)).length<=fuel:=by rw[Array.toList_setIfInBounds];exact Bf _ i (by simpa using hi) (by simpa[Array.getD_eq_getD_getElem?]using hn) fuel h
theorem I9(lz:Array Bool)(h:(lz.toList.filter (!·)).length<=0)(i:Nat)(hi:i<lz.size):lz.getD i false=true:=by have h0:lz.toList.filter (!·)=[]:=List.eq_nil_of_length_eq_zero (by omega);rw[List.filter_eq_nil_iff]at h0;have:=h0 lz[i] (by simp);simpa[Array.getD_eq_getD_getElem?,hi]using this
theorem Fz{i:Nat}(h:i∈Region.ready md ops lz):lz.getD i true=false/\∃o,ops[i]?=some o/\∀e∈o.after,Region.binds md e=true->lz.getD e.on false=true:=by
 unfold Region.ready at h;rw[List.mem_filter]at h;obtain⟨h1,h2⟩:=h;simp only[Bool.and_eq_true,Bool.not_eq_true']at h2;obtain⟨h2,h3⟩:=h2;refine⟨h2,?_⟩;have hi:i<ops.size:=by simpa using h1
 refine⟨ops[i],by simp[hi],fun e he hb=>?_⟩;simp[hi]at h3;obtain⟨k,hk,rfl⟩:=Array.getElem_of_mem he;rcases h3 k hk with h|h
 rw[hb]at h;cases h;simpa[Array.getD_eq_getD_getElem?]using h
def tidy(ops:Array Oper)(n:Nat):Bool:=
 ops.toList.all (fun o=>(o.dst.map (fun d=>decide (d<n))).getD true) &&
 (List.range ops.size).all (fun i=>(List.range i).all (fun j=>match (ops[i]?).bind (·.dst),(ops[j]?).bind (·.dst)with|some d,some d'=>d != d'|_,_=>true)) &&
 (List.range ops.size).all (fun i=>((ops[i]?).map (fun o=>o.after.all (fun e=>!Region.binds .any e||decide (e.on<i)))).getD true)
variable{n j:Nat}
theorem yv(h:tidy ops n=true)(i:Nat)(o:Oper)(d:Tmp)(hi:ops[i]?=some o)(hd:o.dst=some d):d<n:=by simp only[tidy,Bool.and_eq_true]at h;have:=List.all_eq_true.1 h.1.1 o (by simpa using Array.mem_of_getElem? hi);simpa[hd]using this
theorem js(h:tidy ops n=true)(i j:Nat)(oi oj:Oper)(d:Tmp)(hi:ops[i]?=some oi)(hj:ops[j]?=some oj)(hdi:oi.dst=some d)(hdj:oj.dst=some d)(hlt:j<i):False:=by simp only[tidy,Bool.and_eq_true]at h;have h1:=List.all_eq_true.1 h.1.2 i (by have:=(Array.getElem?_eq_some_iff.1 hi).1;simpa using this);have h2:=List.all_eq_true.1 h1 j (by simpa using hlt);simp[hi,hj,hdi,hdj]at h2
theorem uC(h:tidy ops n=true)(i j:Nat)(oi oj:Oper)(d:Tmp)(hi:ops[i]?=some oi)(hj:ops[j]?=some oj)(hdi:oi.dst=some d)(hdj:oj.dst=some d):i=j:=by
 rcases Nat.lt_trichotomy i j with hlt|e|hlt
 exact(js h j i oj oi d hj hi hdj hdi hlt).elim;exact e;exact(js h i j oi oj d hi hj hdi hdj hlt).elim
theorem Gr(h:tidy ops n=true)(i:Nat)(o:Oper)(hi:ops[i]?=some o)(e:Edge)(he:e∈o.after):Region.binds .any e=false\/e.on<i:=by simp only[tidy,Bool.and_eq_true]at h;have h1:=List.all_eq_true.1 h.2 i (by have:=(Array.getElem?_eq_some_iff.1 hi).1;simpa using this);simp only[hi,Option.map_some,Option.getD_some,Array.all_eq_true_iff_forall_mem,Bool.or_eq_true,Bool.not_eq_true',decide_eq_true_eq]at h1;exact h1 e he
theorem PX(h:tidy ops n=true){lz:Array Bool}(hs:lz.size=ops.size)(hr:Region.ready .any ops lz=[]):∀i,i<ops.size->lz.getD i false=true:=by
 intro i;induction i using Nat.strongRecOn with
 | ind i ih=>
  intro hi;by_cases hc:lz.getD i false=true;exact hc
  ·exfalso
   have:i∈Region.ready .any ops lz:=by
    unfold Region.ready;rw[List.mem_filter];refine⟨by simpa using hi,?_⟩
    have h1:lz.getD i true=false:=by
     simp only[Array.getD_eq_getD_getElem?,Array.getElem?_eq_getElem (show i<lz.size by omega),Option.getD_some]at hc|-;simpa using hc
    rw[h1];simp only[Bool.not_false,Bool.true_and,Array.getElem?_eq_getElem hi,Option.map_some,Option.getD_some,Array.all_eq_true_iff_forall_mem];intro e he;rcases Gr h i ops[i] (by simp[hi]) e he with hb|hlt
    rw[hb];simp;rw[ih e.on hlt (by omega)];simp
   rw[hr]at this;cases this
variable{P:Program}{Q:Exit->Act->World->Prop}
theorem wo(hS:∀w,C w->S w w)(hR:∀i v w w',C w->S w w'->R i v w->R i v w')(htd:tidy ops a0.tmps.size=true)(kK:∀(i:Nat)(o:Oper)(lz:Array Bool)(a:Act)(w:World),ops[i]?=some o->lz.getD i false=false->(∀e∈o.after,Region.binds .any e=true->lz.getD e.on false=true)->cY .any ops a0 C R I lz a w-> if Region.wanted o (yielded ops a.tmps)=true then o.wp P a w (fun a' w'=>C w'/\S w w'/\∃v,a'=a.put o.dst v/\R i v w'/\I (lz.setIfInBounds i true) a' w') Q else R i undef w/\I (lz.setIfInBounds i true) (a.put o.dst undef) w)(hend:∀(lz:Array Bool)(a:Act)(w:World),(∀i,i<ops.size->lz.getD i false=true)->cY .any ops a0 C R I lz a w->Q .normal a w):∀(fuel:Nat)(lz:Array Bool)(a:Act)(w:World),(lz.toList.filter (!·)).length<=fuel->cY .any ops a0 C R I lz a w->wpAny P .any ops Q fuel lz a w:=by
 intro fuel;induction fuel with
 | zero=>
  intro lz a w hf h;have hall:∀i,i<ops.size->lz.getD i false=true:=fun i hi=>I9 lz hf i (by rw[h.size];exact hi)
  refine⟨?_,hend lz a w hall h⟩;unfold Region.ready;rw[List.filter_eq_nil_iff];intro i hi;have hi':i<ops.size:=by simpa using hi
  have:=hall i hi';simp only[Array.getD_eq_getD_getElem?,Array.getElem?_eq_getElem (show i<lz.size by rw[h.size];exact hi'),Option.getD_some]at this|-;simp[this]
 | succ fuel ih=>
  intro lz a w hf h;refine⟨fun hr=>hend lz a w (PX htd h.size hr) h,fun i hi=>?_⟩;obtain⟨hn,o,ho,T3⟩:=Fz hi;have hil:i<lz.size:=by rw[h.size];exact(Array.getElem?_eq_some_iff.1 ho).1
  have hn':lz.getD i false=false:=by
   simp only[Array.getD_eq_getD_getElem?,Array.getElem?_eq_getElem hil,Option.getD_some]at hn|-;exact hn
  have hs:=kK i o lz a w ho hn' T3 h
  have next:∀(a':Act)(w':World),(C w'/\S w w'/\∃v,a'=a.put o.dst v/\R i v w'/\I (lz.setIfInBounds i true) a' w')->wpAny P .any ops Q fuel (lz.setIfInBounds i true) a' w':=fun a' w' ⟨hc,hss,v,ha,hv,hI⟩=>by
   subst ha;exact ih _ _ _ (Ed lz i hil hn' fuel hf) (h.put hR (uC htd) (yv htd) ho T3 hc hss hv hI)
  unfold wpOp;simp only[ho];split
  ·rename_i hw;rw[if_pos hw]at hs;exact .inl (Oper.wp_mono next hs)
  ·rename_i hw;rw[if_neg hw]at hs;exact next _ _ ⟨h.c,hS w h.c,undef,rfl,hs.1,hs.2⟩
theorem ix{id:Nat}{w0:World}(hm:P.follows .mixedOrders=true)(C:World->Prop)(R:Nat->Value->World->Prop)(I:Array Bool->Act->World->Prop)(S:World->World->Prop)(hS:∀w,C w->S w w)(hR:∀i v w w',C w->S w w'->R i v w->R i v w')(htd:tidy ops a0.tmps.size=true)(h0:C w0.drew)(hI0:∀lz:Array Bool,(∀i,lz.getD i false=false)->I lz a0 w0.drew)(kK:∀(i:Nat)(o:Oper)(lz:Array Bool)(a:Act)(w:World),ops[i]?=some o->lz.getD i false=false->(∀e∈o.after,Region.binds .any e=true->lz.getD e.on false=true)->cY .any ops a0 C R I lz a w-> if Region.wanted o (yielded ops a.tmps)=true then o.wp P a w (fun a' w'=>C w'/\S w w'/\∃v,a'=a.put o.dst v/\R i v w'/\I (lz.setIfInBounds i true) a' w') Q else R i undef w/\I (lz.setIfInBounds i true) (a.put o.dst undef) w)(hend:∀(lz:Array Bool)(a:Act)(w:World),(∀i,i<ops.size->lz.getD i false=true)->cY .any ops a0 C R I lz a w->Q .normal a w):(Code.region id ops true).wp P Q a0 w0:=by
 have hno:∀i,(Array.replicate ops.size false).getD i false=false:=fun i=>by
  simp only[Array.getD_eq_getD_getElem?];by_cases h:i<ops.size;simp[h];simp[Array.getElem?_eq_none (show(Array.replicate ops.size false).size<=i by simp;omega)]
 refine wp_region_any hm (wo hS hR htd kK hend _ _ _ _ ?_ ?_);simp;exact⟨by simp,rfl,rfl,h0,hI0 _ hno,fun _ _=>rfl,(fun i o d hi hl=>by rw[hno]at hl;cases hl),(fun j o hj hl=>by rw[hno]at hl;cases hl)⟩
variable{o:Oper}{b:Bool}
theorem uf{d:Tmp}(hj:ops[j]?=some o)(hd:o.dst=some d)(h:a.eval (.tmp d)=.bool b):yielded ops a.tmps j=some b:=by
 unfold yielded
 have hs:a.tmps[d]?=some (.bool b):=by
  simp only[Act.eval,Array.getD_eq_getD_getElem?]at h;cases he:a.tmps[d]? with
  | none=>rw[he]at h;simp[undef]at h
  | some v=>rw[he]at h;simpa using h
 simp[hj,hd,hs]
theorem Jp(hg:o.guard=some (j,b))(h:yielded ops a.tmps j=some b):Region.wanted o (yielded ops a.tmps)=true:=by unfold Region.wanted;rw[hg];simp[h]
theorem an(hg:o.guard=none):Region.wanted o (yielded ops a.tmps)=true:=by unfold Region.wanted;rw[hg]
def waits(ops:Array Oper)(k i:Nat):Bool:=((ops[k]?).map fun o=>o.after.any fun e=>Region.binds .any e&&e.on==i).getD false
theorem cY.after(h:cY .any ops a0 C R I lz a w){k i:Nat}(hw:waits ops k i=true)(hk:lz.getD k false=true):lz.getD i false=true:=by
 unfold waits at hw;cases ho:ops[k]? with
 | none=>rw[ho]at hw;simp at hw
 | some o=>
  rw[ho]at hw;simp only[Option.map_some,Option.getD_some,Array.any_eq_true]at hw;obtain⟨j,hj,he⟩:=hw;simp only[Bool.and_eq_true,beq_iff_eq]at he;have:=h.closed k o ho hk o.after[j] (by simp) he.1;rwa[he.2]at this
theorem cY.ahead(h:cY .any ops a0 C R I lz a w){k i:Nat}(hw:waits ops k i=true)(hn:lz.getD i false=false)(hil:i<ops.size)(hik:i≠k):(lz.setIfInBounds i true).getD k false=false:=by
 rw[gF _ _ _ (by rw[h.size];exact hil),if_neg hik];cases hk:lz.getD k false with
 | false=>rfl
 | true=>rw[h.after hw hk]at hn;cases hn
def reach(ops:Array Oper):Nat->Nat->Nat->Bool
 | 0,k,i=>waits ops k i
 | f+1,k,i=>waits ops k i||(List.range ops.size).any fun m=>waits ops k m&&reach ops f m i
theorem cY.Uz(h:cY .any ops a0 C R I lz a w):∀(f:Nat){k i:Nat},reach ops f k i=true->lz.getD k false=true->lz.getD i false=true
 | 0,_,_,hw,hk=>h.after hw hk
 | f+1,k,i,hw,hk=>by
  simp only[reach,Bool.or_eq_true,List.any_eq_true,Bool.and_eq_true]at hw;rcases hw with hw|⟨m,_,h1,h2⟩
  exact h.after hw hk;exact h.Uz f h2 (h.after h1 hk)
theorem cY.UA(h:cY .any ops a0 C R I lz a w)(f:Nat){k i:Nat}(hw:reach ops f k i=true)(hn:lz.getD i false=false)(hil:i<ops.size)(hik:i≠k):(lz.setIfInBounds i true).getD k false=false:=by
 rw[gF _ _ _ (by rw[h.size];exact hil),if_neg hik];cases hk:lz.getD k false with
 | false=>rfl
 | true=>rw[h.Uz f hw hk]at hn;cases hn
theorem cY.old'(h:cY md ops a0 C R I lz a w)(t:Tmp)(hn:ops.toList.all (fun o=>o.dst != some t)=true:=by kernel_rfl):a.eval (.tmp t)=a0.eval (.tmp t):=
 h.old t fun i o hi _ e=>by
  have:=List.all_eq_true.1 hn o (by simpa using Array.mem_of_getElem? hi);rw[e]at this;simp at this
section
variable{P:Program}{ops:Array Oper}{o:Oper}{a:Act}{w w':World}{Q:Exit->Act->World->Prop}{C:World->Prop}{S:World->World->Prop}{R:Value->World->Prop}{J:Act->World->Prop}{v:Value}
theorem dX(hS:∀w,C w->S w w)(hc:C w)(hn:Region.wanted o (yielded ops a.tmps)=true)(h:(execOp a.eval o).run P w=.ok (.value v) w)(hr:R v w)(hJ:J (a.put o.dst v) w):if Region.wanted o (yielded ops a.tmps)=true then o.wp P a w (fun a' w'=>C w'/\S w w'/\∃v,a'=a.put o.dst v/\R v w'/\J a' w') Q else R undef w/\J (a.put o.dst undef) w:=by rw[if_pos hn];unfold Oper.wp;rw[h];exact⟨hc,hS w hc,v,rfl,hr,hJ⟩
theorem mL(hn:Region.wanted o (yielded ops a.tmps)=true)(h:(execOp a.eval o).run P w=.ok (.value v) w')(hc:C w')(hs:S w w')(hr:R v w')(hJ:J (a.put o.dst v) w'):if Region.wanted o (yielded ops a.tmps)=true then o.wp P a w (fun a' w'=>C w'/\S w w'/\∃v,a'=a.put o.dst v/\R v w'/\J a' w') Q else R undef w/\J (a.put o.dst undef) w:=by rw[if_pos hn];unfold Oper.wp;rw[h];exact⟨hc,hs,v,rfl,hr,hJ⟩
theorem jB(hn:Region.wanted o (yielded ops a.tmps)=true)(h:(execOp a.eval o).run P w=.ok .skip w')(hc:C w')(hs:S w w')(hr:R undef w')(hJ:J (a.put o.dst undef) w'):if Region.wanted o (yielded ops a.tmps)=true then o.wp P a w (fun a' w'=>C w'/\S w w'/\∃v,a'=a.put o.dst v/\R v w'/\J a' w') Q else R undef w/\J (a.put o.dst undef) w:=by rw[if_pos hn];unfold Oper.wp;rw[h];exact⟨hc,hs,undef,rfl,hr,hJ⟩
variable{f:FuncId}{args:Array Value}
theorem iS(hn:Region.wanted o (yielded ops a.tmps)=true)(h:(execOp a.eval o).run P w=.ok (.enter f args) w)(hcall:Calls P f args w fun e w'=>e=.returned v/\Bl w w')(hr:∀w',Bl w w'->C w'/\S w w'/\R v w'/\J (a.put o.dst v) w'):if Region.wanted o (yielded ops a.tmps)=true then o.wp P a w (fun a' w'=>C w'/\S w w'/\∃v,a'=a.put o.dst v/\R v w'/\J a' w') Q else R undef w/\J (a.put o.dst undef) w:=by
 rw[if_pos hn];unfold Oper.wp;rw[h];refine Calls.mono hcall fun e w' he=>?_
 obtain⟨rfl,hb⟩:=he;obtain⟨h1,h2,h3,h4⟩:=hr w' hb;exact⟨h1,h2,v,rfl,h3,h4⟩
abbrev mQ:World->World->Prop:=fun _ _=>True
variable{a0:Act}{I:Array Bool->Act->World->Prop}{lz:Array Bool}
theorem aP{P:Program}{ops:Array Oper}{C:World->Prop}{R:Nat->Value->World->Prop}{a:Act}{w:World}{Q:Exit->Act->World->Prop}{o:Oper}{v:Value}(i:Nat)(Z:cY .any ops a0 C R I lz a w)(hn:Region.wanted o (yielded ops a.tmps)=true)(h:(execOp a.eval o).run P w=.ok (.value v) w)(hr:R i v w)(hJ:I (lz.setIfInBounds i true) (a.put o.dst v) w):if Region.wanted o (yielded ops a.tmps)=true then o.wp P a w (fun a' w'=>C w'/\True/\∃v,a'=a.put o.dst v/\R i v w'/\I (lz.setIfInBounds i true) a' w') Q else R i undef w/\I (lz.setIfInBounds i true) (a.put o.dst undef) w:=
 dX (S:=(fun _ _=>True)) (C:=C) (R:=R i) (J:=fun a' w'=>I (lz.setIfInBounds i true) a' w') (fun _ _=>trivial) Z.c hn h hr hJ
theorem dA{P:Program}{ops:Array Oper}{C:World->Prop}{R:Nat->Value->World->Prop}{a:Act}{w:World}{Q:Exit->Act->World->Prop}{o:Oper}{v:Value}{S:World->World->Prop}(hS:∀w,C w->S w w)(i:Nat)(Z:cY .any ops a0 C R I lz a w)(hn:Region.wanted o (yielded ops a.tmps)=true)(h:(execOp a.eval o).run P w=.ok (.value v) w)(hr:R i v w)(hJ:I (lz.setIfInBounds i true) (a.put o.dst v) w):if Region.wanted o (yielded ops a.tmps)=true then o.wp P a w (fun a' w'=>C w'/\S w w'/\∃v,a'=a.put o.dst v/\R i v w'/\I (lz.setIfInBounds i true) a' w') Q else R i undef w/\I (lz.setIfInBounds i true) (a.put o.dst undef) w:=
 dX (S:=S) (C:=C) (R:=R i) (J:=fun a' w'=>I (lz.setIfInBounds i true) a' w') hS Z.c hn h hr hJ
theorem pw{P:Program}{ops:Array Oper}{C:World->Prop}{R:Nat->Value->World->Prop}{a:Act}{w:World}{w':World}{Q:Exit->Act->World->Prop}{o:Oper}{v:Value}(i:Nat)(_hinv:cY .any ops a0 C R I lz a w)(hn:Region.wanted o (yielded ops a.tmps)=true)(h:(execOp a.eval o).run P w=.ok (.value v) w')(hc:C w')(hr:R i v w')(hJ:I (lz.setIfInBounds i true) (a.put o.dst v) w'):if Region.wanted o (yielded ops a.tmps)=true then o.wp P a w (fun a' w'=>C w'/\True/\∃v,a'=a.put o.dst v/\R i v w'/\I (lz.setIfInBounds i true) a' w') Q else R i undef w/\I (lz.setIfInBounds i true) (a.put o.dst undef) w:=
 mL (S:=(fun _ _=>True)) (C:=C) (R:=R i) (J:=fun a' w'=>I (lz.setIfInBounds i true) a' w') hn h hc trivial hr hJ
theorem Ci{P:Program}{ops:Array Oper}{C:World->Prop}{R:Nat->Value->World->Prop}{a:Act}{w:World}{w':World}{Q:Exit->Act->World->Prop}{o:Oper}{v:Value}{S:World->World->Prop}(i:Nat)(_hinv:cY .any ops a0 C R I lz a w)(hn:Region.wanted o (yielded ops a.tmps)=true)(h:(execOp a.eval o).run P w=.ok (.value v) w')(hc:C w')(hs:S w w')(hr:R i v w')(hJ:I (lz.setIfInBounds i true) (a.put o.dst v) w'):if Region.wanted o (yielded ops a.tmps)=true then o.wp P a w (fun a' w'=>C w'/\S w w'/\∃v,a'=a.put o.dst v/\R i v w'/\I (lz.setIfInBounds i true) a' w') Q else R i undef w/\I (lz.setIfInBounds i true) (a.put o.dst undef) w:=
 mL (S:=S) (C:=C) (R:=R i) (J:=fun a' w'=>I (lz.setIfInBounds i true) a' w') hn h hc hs hr hJ
theorem pr{P:Program}{ops:Array Oper}{C:World->Prop}{R:Nat->Value->World->Prop}{a:Act}{w:World}{w':World}{Q:Exit->Act->World->Prop}{o:Oper}(i:Nat)(_hinv:cY .any ops a0 C R I lz a w)(hn:Region.wanted o (yielded ops a.tmps)=true)(h:(execOp a.eval o).run P w=.ok .skip w')(hc:C w')(hr:R i undef w')(hJ:I (lz.setIfInBounds i true) (a.put o.dst undef) w'):if Region.wanted o (yielded ops a.tmps)=true then o.wp P a w (fun a' w'=>C w'/\True/\∃v,a'=a.put o.dst v/\R i v w'/\I (lz.setIfInBounds i true) a' w') Q else R i undef w/\I (lz.setIfInBounds i true) (a.put o.dst undef) w:=
 jB (S:=(fun _ _=>True)) (C:=C) (R:=R i) (J:=fun a' w'=>I (lz.setIfInBounds i true) a' w') hn h hc trivial hr hJ
theorem RJ{P:Program}{ops:Array Oper}{C:World->Prop}{R:Nat->Value->World->Prop}{a:Act}{w:World}{w':World}{Q:Exit->Act->World->Prop}{o:Oper}{S:World->World->Prop}(i:Nat)(_hinv:cY .any ops a0 C R I lz a w)(hn:Region.wanted o (yielded ops a.tmps)=true)(h:(execOp a.eval o).run P w=.ok .skip w')(hc:C w')(hs:S w w')(hr:R i undef w')(hJ:I (lz.setIfInBounds i true) (a.put o.dst undef) w'):if Region.wanted o (yielded ops a.tmps)=true then o.wp P a w (fun a' w'=>C w'/\S w w'/\∃v,a'=a.put o.dst v/\R i v w'/\I (lz.setIfInBounds i true) a' w') Q else R i undef w/\I (lz.setIfInBounds i true) (a.put o.dst undef) w:=
 jB (S:=S) (C:=C) (R:=R i) (J:=fun a' w'=>I (lz.setIfInBounds i true) a' w') hn h hc hs hr hJ
theorem mf{P:Program}{ops:Array Oper}{C:World->Prop}{R:Nat->Value->World->Prop}{a:Act}{w:World}{Q:Exit->Act->World->Prop}{o:Oper}{v:Value}{S:World->World->Prop}(i:Nat)(_hinv:cY .any ops a0 C R I lz a w)(hn:Region.wanted o (yielded ops a.tmps)=true)(h:(execOp a.eval o).run P w=.ok (.enter f args) w)(hcall:Calls P f args w fun e w'=>e=.returned v/\Bl w w')(hr:∀w',Bl w w'->C w'/\S w w'/\R i v w'/\I (lz.setIfInBounds i true) (a.put o.dst v) w'):if Region.wanted o (yielded ops a.tmps)=true then o.wp P a w (fun a' w'=>C w'/\S w w'/\∃v,a'=a.put o.dst v/\R i v w'/\I (lz.setIfInBounds i true) a' w') Q else R i undef w/\I (lz.setIfInBounds i true) (a.put o.dst undef) w:=
 iS (S:=S) (C:=C) (R:=R i) (J:=fun a' w'=>I (lz.setIfInBounds i true) a' w') hn h hcall hr
theorem ar{ops:Array Oper}{C:World->Prop}{R:Nat->Value->World->Prop}{a:Act}{w:World}{o:Oper}(Z:cY .any ops a0 C R I lz a w)(dq:∀e∈o.after,Region.binds .any e=true->lz.getD e.on false=true)(i d:Nat)(h1:(ops[i]?).bind Oper.dst=some d:=by rfl)(h2:o.after.toList.any (fun e=>e.on==i&&Region.binds .any e)=true:=by rfl):R i (a.eval (.tmp d)) w:=by
 obtain⟨e,he,h⟩:=List.any_eq_true.1 h2;simp only[Bool.and_eq_true,beq_iff_eq]at h;cases ho:ops[i]? with
 | none=>rw[ho]at h1;cases h1
 | some oi=>exact Z.got i oi d ho (h.1▸dq e (Array.mem_toList_iff.1 he) h.2) (by rw[ho]at h1;exact h1)
theorem Dw{ops:Array Oper}{C:World->Prop}{R:Nat->Value->World->Prop}{a:Act}{w:World}{o:Oper}(Z:cY .any ops a0 C R I lz a w)(dq:∀e∈o.after,Region.binds .any e=true->lz.getD e.on false=true)(i d:Nat){b:Bool}(hg:o.guard=some (i,b))(hR:R i (a.eval (.tmp d)) w->a.eval (.tmp d)=.bool b:=by intro h;exact h)(h1:(ops[i]?).bind Oper.dst=some d:=by rfl)(h2:o.after.toList.any (fun e=>e.on==i&&Region.binds .any e)=true:=by rfl):Region.wanted o (yielded ops a.tmps)=true:=by
 have h3:=hR (ar Z dq i d h1 h2);cases ho:ops[i]? with
 | none=>rw[ho]at h1;cases h1
 | some oi=>exact Jp hg (uf ho (by rw[ho]at h1;exact h1) h3)
theorem av{ops:Array Oper}{C:World->Prop}{R:Nat->Value->World->Prop}{a:Act}{w:World}(Z:cY .any ops a0 C R I lz a w)(i:Nat)(h:i<ops.size:=by decide):i<lz.size:=by rw[Z.size];exact h
theorem dz{ops:Array Oper}{C:World->Prop}{R:Nat->Value->World->Prop}{a:Act}{w:World}(Z:cY .any ops a0 C R I lz a w){i:Nat}(hn:lz.getD i false=false)(k:Nat)(h1:reach ops k k i=true:=by kernel_rfl)(h2:i<ops.size:=by decide)(h3:i≠k:=by decide):(lz.setIfInBounds i true).getD k false=false:=Z.UA k h1 hn h2 h3
theorem cX{ops:Array Oper}{C:World->Prop}{R:Nat->Value->World->Prop}{a:Act}{w:World}(Z:cY .any ops a0 C R I lz a w){i k:Nat}(hn:lz.getD i false=false)(f:Nat)(h1:reach ops f k i=true:=by kernel_rfl)(h2:i<ops.size:=by decide)(h3:i≠k:=by decide):(lz.setIfInBounds i true).getD k false=false:=Z.UA f h1 hn h2 h3
end
section
variable{P:Program}{ρ:Operand->Value}{o:Oper}{w w':World}
variable{t:TypeId}{x y:Operand}{v:Value}
theorem pB{op:BinOp}{u:TypeId}(hop:o.op=.binOp op t x y u)(hn1:op ≠ .eql)(hn2:op ≠ .neq)(h:(binOp op t (ρ x) (ρ y)).run P w=.ok v w'):(execOp ρ o).run P w=.ok (.value v) w':=by
 unfold execOp;rw[hop]
 have hg:(eqGuard op t x y (ρ x) (ρ y)).run P w=.ok () w:=by
  cases op<;>first|exact absurd rfl hn1|exact absurd rfl hn2|rfl
 simp only[Sem.run_bind,hg,h,Result.andThen_ok];rfl
theorem L8{n:Nat}{parts:Array (Nat×Operand)}(hop:o.op=.buildSlice t n parts)(h:(Instr.buildSlice t n (parts.map fun(i,x)=>(i,ρ x))).run P w=.ok v w'):(execOp ρ o).run P w=.ok (.value v) w':=by unfold execOp;rw[hop];simp only[Sem.run_bind,h,Result.andThen_ok];rfl
theorem jO{u:Value}(hop:o.op=.buildSlice t 1 #[(0,x)])(hx:ρ x=u)(h:(Instr.buildSlice t 1 #[(0,u)]).run P w=.ok v w'):(execOp ρ o).run P w=.ok (.value v) w':=
 L8 hop (by simpa[hx]using h)
theorem yB{c:Operand}{b:Bool}(hop:o.op=.pick c x y)(hc:ρ c=.bool b):(execOp ρ o).run P w=.ok (.value (if b then ρ x else ρ y)) w:=by unfold execOp;rw[hop];simp only[hc];rfl
end
end NN.Si
namespace An
open NN.Si
def lD:List Oper->Nat->Tmp->Option Nat
 | [],_,_=>none
 | o::l,k,t=>if o.dst==some t then some k else lD l (k+1) t
theorem sS:∀{l:List Oper}{k:Nat}{t:Tmp}{j:Nat},lD l k t=some j->∃(i:Nat)(o:Oper),j=k+i/\l[i]?=some o/\o.dst=some t
 | [],_,_,_,h=>by cases h
 | o::l,k,t,j,h=>by
  unfold lD at h;split at h
  ·rename_i e;exact⟨0,o,by cases h;rfl,rfl,by simpa using e⟩
  obtain⟨i,o',rfl,h2,h3⟩:=sS h;exact⟨i+1,o',by omega,h2,h3⟩
theorem AB:∀{l:List Oper}{k:Nat}{t:Tmp},lD l k t=none->∀o∈l,o.dst≠some t
 | [],_,_,_,_,h=>by cases h
 | o::l,k,t,h,o',ho=>by
  unfold lD at h;split at h;cases h
  ·rename_i e;rcases List.mem_cons.1 ho with rfl|ho
   simpa using e;exact AB h o' ho
theorem nL:∀(l:List Oper)(k:Nat)(t:Tmp),lD l (k+1) t=(lD l k t).map (· + 1)
 | [],_,_=>rfl
 | o::l,k,t=>by
  unfold lD;split;rfl;exact nL l (k+1) t
def yV:Value->Option Bool
 | .bool b=>some b
 | _=>none
def yT(ops:Array Oper)(tb:List Value)(j:Nat):Option Bool:=((ops[j]?).bind (·.dst)).bind fun _=>yV (tb.getD j undef)
def Hs(o:Oper)(j:Nat):Bool:=o.after.toList.any fun e=>Region.binds .any e&&e.on==j
def td(ops:Array Oper)(a0:Act)(tb:List Value)(o:Oper):Operand->Value
 | .tmp t=>match lD ops.toList 0 t with
  | some j=>bif Hs o j then tb.getD j undef else a0.eval (.tmp t)
  | none=>a0.eval (.tmp t)
 | x=>a0.eval x
def LL:Op->Bool
 | .select _ _=>false
 | _=>true
def fO(ops:Array Oper):Nat->List Nat->List Nat
 | 0,s=>s
 | j+1,s=>fO ops j (bif s.any (fun m=>waits ops m j)then j::s else s)
def EC(ops:Array Oper)(i:Nat)(o:Oper):Operand->Bool
 | .tmp t=>match lD ops.toList 0 t with
  | some j=>Hs o j||(fO ops j [j]).contains i
  | none=>true
 | _=>true
def JJ(ops:Array Oper)(i:Nat)(o:Oper):Bool:=LL o.op&&o.op.operands.toList.all (EC ops i o)&&match o.guard with
 | some (j,_)=>Hs o j
 | none=>true
def wT(ops:Array Oper)(n:Nat)(tb:List Value)(hard ks:List Nat):Bool:=(tidy ops n&&(List.range ops.size).all (fun i=>JJ ops i (ops.getD i default))&&hard.all fun i=>Region.wanted (ops.getD i default) (yT ops tb))&&ks.all fun k=>hard.contains k||!decide (k<ops.size)
def rE(P:Program)(ev:Oper->Operand->Value)(y:Nat->Option Bool)(hard:List Nat)(w:World):List Oper->Nat->List (Option (Result Next))
 | [],_=>[]
 | o::l,i=>(bif hard.contains i then none else some (bif Region.wanted o y then(execOp (ev o) o).run P w else .ok (.value undef) w))::rE P ev y hard w l (i+1)
def vE(tb:List Value)(hard:List Nat)(w:World):List Oper->Nat->List (Option (Result Next))
 | [],_=>[]
 | _::l,i=>(bif hard.contains i then none else some (.ok (.value (tb.getD i undef)) w))::vE tb hard w l (i+1)
variable{w:World}
theorem yl{P:Program}{ev:Oper->Operand->Value}{y:Nat->Option Bool}{tb:List Value}{hard:List Nat}:∀{l:List Oper}{k:Nat},rE P ev y hard w l k=vE tb hard w l k->∀{i:Nat}{o:Oper},l[i]?=some o->hard.contains (k+i)=false->(Region.wanted o y=true->(execOp (ev o) o).run P w=.ok (.value (tb.getD (k+i) undef)) w)/\(Region.wanted o y=false->tb.getD (k+i) undef=undef)
 | [],_,_,_,_,hi,_=>by cases hi
 | o::l,k,h,0,o',hi,hh=>by
  obtain rfl:o=o':=by simpa using hi
  unfold rE vE at h;have h1:=(List.cons.inj h).1;rw[Nat.add_zero]at hh|-;rw[hh]at h1;constructor;intro hw;rw[hw]at h1;exact Option.some.inj h1
  ·intro hw;rw[hw]at h1;have h2:=Option.some.inj h1;simp only[cond_false]at h2;injection h2 with h3
   injection h3 with h4
   exact h4.symm
 | o::l,k,h,i+1,o',hi,hh=>by
  unfold rE vE at h;have:=yl (List.cons.inj h).2 (i:=i) (o:=o') (by simpa using hi) (by rw[<-hh];congr 1;omega);rw[show k+1+i=k+(i+1) by omega]at this;exact this
def jM(D:Nat->Oper->Prop)(ops:Array Oper):List Nat->Prop
 | []=>True
 | i::l=>D i (ops.getD i default)/\jM D ops l
variable{ops:Array Oper}
theorem JY{D:Nat->Oper->Prop}:∀{hard:List Nat},jM D ops hard->∀{i:Nat},i∈hard->D i (ops.getD i default)
 | [],_,_,hi=>by cases hi
 | k::l,h,i,hi=>by
  rcases List.mem_cons.1 hi with rfl|hi
  exact h.1;exact JY h.2 hi
def dg:List Oper->List Value->List Value->List Value
 | [],_,vs=>vs
 | o::l,tb,vs=>dg l tb.tail (match o.dst with
  | some d=>vs.set d (tb.headD undef)
  | none=>vs)
def Bu(l:List Oper):Prop:=∀(i j:Nat)(oi oj:Oper)(d:Tmp),l[i]?=some oi->l[j]?=some oj->oi.dst=some d->oj.dst=some d->i=j
theorem LK:∀(l:List Oper)(tb vs:List Value),(dg l tb vs).length=vs.length
 | [],_,_=>rfl
 | o::l,tb,vs=>by
  unfold dg;rw[LK];split<;>simp
theorem AX:∀{l:List Oper}(_:Bu l)(tb vs:List Value)(t:Tmp),t<vs.length->(dg l tb vs)[t]?=some ((lD l 0 t).elim (vs.getD t undef) fun j=>tb.getD j undef)
 | [],_,_,vs,t,ht=>by
  unfold dg lD;simp[ht]
 | o::l,hu,tb,vs,t,ht=>by
  have hu2:Bu l:=fun i j oi oj d h1 h2 h3 h4=>by
   have:=hu (i+1) (j+1) oi oj d (by simpa using h1) (by simpa using h2) h3 h4;omega
  have hg:∀j,tb.tail.getD j undef=tb.getD (j+1) undef:=fun j=>by cases tb<;>simp
  unfold dg lD;cases hd:o.dst with
  | none=>
   rw[if_neg (by simp),nL];refine(AX hu2 tb.tail vs t ht).trans ?_;cases lD l 0 t with
   | none=>rfl
   | some j=>simp only[Option.map_some,Option.elim_some,hg]
  | some d=>
   dsimp only;refine(AX hu2 tb.tail (vs.set d (tb.headD undef)) t (by simpa using ht)).trans ?_;by_cases e:d=t
   ·subst e;rw[if_pos (by simp)]
    have hn:lD l 0 d=none:=by
     cases hw:lD l 0 d with
     | none=>rfl
     | some j=>
      obtain⟨i,o',_,h2,h3⟩:=sS hw;have:=hu 0 (i+1) o o' d rfl (by simpa using h2) hd h3;omega
    rw[hn];cases tb<;>simp[ht]
   ·rw[if_neg (by simpa using e),nL];cases lD l 0 t with
    | none=>simp[e]
    | some j=>simp only[Option.map_some,Option.elim_some,hg]
theorem uJ{a0:Act}{C:World->Prop}{R:Nat->Value->World->Prop}{I:Array Bool->Act->World->Prop}{lz:Array Bool}{a:Act}(h:cY .any ops a0 C R I lz a w):∀(j:Nat)(s:List Nat),(∀m∈s,lz.getD m false=true)->∀m∈fO ops j s,lz.getD m false=true
 | 0,_,hs=>hs
 | j+1,s,hs=>by
  unfold fO;refine uJ h j _ fun m hm=>?_
  cases hj:s.any (fun m=>waits ops m j)with
  | false=>rw[hj]at hm;exact hs m hm
  | true=>
   rw[hj]at hm;rcases List.mem_cons.1 hm with rfl|hm
   obtain⟨k,hk,hw⟩:=List.any_eq_true.1 hj;exact h.after hw (hs k hk);exact hs m hm
def pC(o:Oper):List Nat:=(o.after.toList.filter (Region.binds .any)).map (·.on)
structure RD (ops:Array Oper) (ks:List Nat) (i:Nat) (fl:Nat->Bool):Prop where
 no:∀k,(fO ops k [k]).contains i=true->fl k=false
 yes:∀k,(ks.contains k&&(fO ops i (pC (ops.getD i default))).contains k)=true->fl k=true
def yb(ks:List Nat)(i:Nat)(fl:Nat->Bool):Nat->Bool:=bif ks.contains i then(fun k=>bif i==k then true else fl k)else fl
def mP(dp:List Nat)(tb:List Value):List Value:=dp.foldl (fun l j=>l.set j undef) tb
theorem yf:∀{dp:List Nat}{tb tb':List Value}{j:Nat},mP dp tb=mP dp tb'->¬j∈dp->tb[j]?=tb'[j]?
 | [],_,_,j,h,_=>congrArg (fun l=>l[j]?) h
 | k::dp,tb,tb',j,h,hj=>by
  have:=yf (dp:=dp) (tb:=tb.set k undef) (tb':=tb'.set k undef) (j:=j) h fun hm=>hj (List.mem_cons_of_mem _ hm)
  have hk:k≠j:=fun e=>hj (by rw[e];exact List.mem_cons_self)
  rwa[List.getElem?_set_ne hk,List.getElem?_set_ne hk]at this
variable{α:Type}
def Gh(ops:Array Oper)(tb:α->List Value)(i:Nat)(g g':α):Prop:=g'=g\/∃dp:List Nat,(dp.all fun j=>(fO ops j [j]).contains i)=true/\mP dp (tb g)=mP dp (tb g')
def o4(P:Program)(ops:Array Oper)(ev:Operand->Value)(o:Oper)(w:World)(i:Nat)(g:α)(tb:α->List Value)(K:α->World->Prop):Prop:=(∃w' g',Gh ops tb i g g'/\(execOp ev o).run P w=.ok (.value ((tb g').getD i undef)) w'/\K g' w')\/(∃f args,(execOp ev o).run P w=.ok (.enter f args) w/\Calls P f args w fun e w'=>∃g',Gh ops tb i g g'/\e=.returned ((tb g').getD i undef)/\K g' w')\/((tb g).getD i undef=undef/\∃w',(execOp ev o).run P w=.ok .skip w'/\K g w')
section
variable{α:Type}{P:Program}{ops:Array Oper}{ev:Operand->Value}{o:Oper}{w w':World}{i:Nat}{g:α}{tb:α->List Value}{v:Value}{K:α->World->Prop}{f:FuncId}{args:Array Value}
theorem o4.val(h:(execOp ev o).run P w=.ok (.value ((tb g).getD i undef)) w')(k:K g w'):o4 P ops ev o w i g tb K:=.inl ⟨w',g,.inl rfl,h,k⟩
theorem o4.call(hc:Calls P f args w fun e w'=>e=.returned ((tb g).getD i undef)/\K g w')(h:(execOp ev o).run P w=.ok (.enter f args) w:=by kernel_rfl):o4 P ops ev o w i g tb K:=.inr (.inl ⟨f,args,h,hc.mono fun _ _ h=>⟨g,.inl rfl,h⟩⟩)
theorem o4.store(hv:(tb g).getD i undef=undef)(h:(execOp ev o).run P w=.ok .skip w')(k:K g w'):o4 P ops ev o w i g tb K:=.inr (.inr ⟨hv,w',h,k⟩)
theorem o4.new(g':α)(dp:List Nat)(hof:mP dp (tb g)=mP dp (tb g'))(h:(execOp ev o).run P w=.ok (.value ((tb g').getD i undef)) w')(k:K g' w')(hdp:(dp.all fun j=>(fO ops j [j]).contains i)=true:=by kernel_rfl):o4 P ops ev o w i g tb K:=.inl ⟨w',g',.inr ⟨dp,hdp,hof⟩,h,k⟩
theorem o4.UB(dp:List Nat)(hc:Calls P f args w fun e w'=>∃g',mP dp (tb g)=mP dp (tb g')/\e=.returned ((tb g').getD i undef)/\K g' w')(hdp:(dp.all fun j=>(fO ops j [j]).contains i)=true:=by kernel_rfl)(h:(execOp ev o).run P w=.ok (.enter f args) w:=by kernel_rfl):o4 P ops ev o w i g tb K:=.inr (.inl ⟨f,args,h,hc.mono fun _ _ ⟨g',h1,h2⟩=>⟨g',.inr ⟨dp,hdp,h1⟩,h2⟩⟩)
end
variable{α:Type}{P:Program}{id:Nat}{ops:Array Oper}{Q:Exit->Act->World->Prop}{a0:Act}{w0:World}
theorem u7(CB:(Nat->Bool)->α->World->Prop)(ks hard:List Nat)(tb:α->List Value)(g0:α)(h0:CB (fun _=>false) g0 w0.drew)(hD:jM (fun i o=>∀(fl:Nat->Bool)(g:α)(w:World),RD ops ks i fl->CB fl g w->o4 P ops (td ops a0 (tb g) o) o w i g tb (CB (yb ks i fl))) ops hard)(hend:∀g w,CB (fun k=>ks.contains k&&decide (k<ops.size)) g w->Q .normal ⟨(dg ops.toList (tb g) a0.tmps.toList).toArray,a0.defers⟩ w)(hm:P.follows .mixedOrders=true:=by kernel_rfl)(hc:∀g,wT ops a0.tmps.size (tb g) hard ks=true:=by intro g;kernel_rfl)(hE:∀g w,rE P (td ops a0 (tb g)) (yT ops (tb g)) hard w ops.toList 0=vE (tb g) hard w ops.toList 0:=by intro g w;kernel_rfl):(Code.region id ops true).wp P Q a0 w0:=by
 have hc':=fun g=>by
  have:=hc g;unfold wT at this;simp only[Bool.and_eq_true]at this;exact this
 have htd:=(hc' g0).1.1.1;have YZ:=(hc' g0).1.1.2;refine ix hm (fun _=>True) (fun _ _ _=>True) (fun l a w=>∃g,(∀(j:Nat)(o:Oper)(d:Tmp),ops[j]?=some o->l.getD j false=true->o.dst=some d->a.eval (.tmp d)=(tb g).getD j undef)/\CB (fun k=>ks.contains k&&l.getD k false) g w) (fun _ _=>True) (fun _ _=>trivial) (fun _ _ _ _ _ _ h=>h) htd trivial (fun l hl=>?_) ?_ ?_;refine⟨g0,?_,?_⟩;intro j o d _ h;rw[hl]at h;cases h;rw[show(fun k=>ks.contains k&&l.getD k false)=fun _=>false from funext fun k=>by rw[hl,Bool.and_false]];exact h0
 ·intro i o lz a w ho hnl dq Z;obtain⟨g,UC,hI⟩:=Z.i;have Y0:=(Array.getElem?_eq_some_iff.1 ho).1;have hd:=List.all_eq_true.1 YZ i (List.mem_range.2 Y0);rw[show ops.getD i default=o by rw[Array.getD_eq_getD_getElem?,ho];rfl]at hd;unfold JJ at hd;simp only[Bool.and_eq_true]at hd;obtain⟨⟨hs,hop⟩,hgd⟩:=hd
  have haft:∀j,Hs o j=true->lz.getD j false=true:=fun j hj=>by
   obtain⟨e,he,h2⟩:=List.any_eq_true.1 hj;simp only[Bool.and_eq_true,beq_iff_eq]at h2;rw[<-h2.2];exact dq e (Array.mem_toList_iff.1 he) h2.1
  have hev:∀x∈o.op.operands,a.eval x=td ops a0 (tb g) o x:=fun x hx=>by
   have h1:=List.all_eq_true.1 hop x (Array.mem_toList_iff.2 hx);cases x with
   | tmp t=>
    unfold EC at h1;unfold td;dsimp only at h1|-;cases hw:lD ops.toList 0 t with
    | none=>exact Z.old t fun i' o' hi' _ hd'=>AB hw o' (Array.mem_toList_iff.2 (Array.mem_of_getElem? hi')) hd'
    | some j=>
     rw[hw]at h1;obtain⟨i',o',e,h2,h3⟩:=sS hw;obtain rfl:j=i':=(by omega);dsimp only at h1|-;cases hj:Hs o j with
     | true=>exact UC j o' t (by simpa using h2) (haft j hj) h3
     | false=>
      rw[hj,Bool.false_or]at h1;refine Z.old t fun i' oi hi' hl hd'=>?_
      have:=uC htd i' j oi o' t hi' (by simpa using h2) hd' h3;subst this;rw[uJ Z i' [i'] (fun m hm=>by rw[List.mem_singleton.1 hm];exact hl) i (by simpa using h1)]at hnl;cases hnl
   | _=>rfl
  have hex:execOp a.eval o=execOp (td ops a0 (tb g) o) o:=execOp_congr o (fun cs b e=>by rw[e]at hs;cases hs) hev
  have hw:Region.wanted o (yielded ops a.tmps)=Region.wanted o (yT ops (tb g)):=by
   unfold Region.wanted;cases hg:o.guard with
   | none=>rfl
   | some jb=>
    obtain⟨j,b⟩:=jb;rw[hg]at hgd;have hl:=haft j hgd;dsimp only;congr 1;unfold yielded yT;cases ho2:ops[j]? with
    | none=>rfl
    | some o2=>
     cases hd2:o2.dst with
     | none=>simp[hd2]
     | some d=>
      have h3:=UC j o2 d ho2 hl hd2;simp only[Option.bind_some,hd2];rw[<-h3];simp only[Act.eval,Array.getD_eq_getD_getElem?];cases a.tmps[d]? with
      | none=>rfl
      | some u=>cases u<;>rfl
  rw[hw]
  have flag:∀k,(lz.setIfInBounds i true).getD k false=(bif i==k then true else lz.getD k false):=fun k=>by
   rw[gF _ _ _ (by rw[Z.size];exact Y0)];by_cases e:i=k;subst e;simp;rw[if_neg e,show(i==k)=false by simpa using e];rfl
  have fup:(fun k=>ks.contains k&&(lz.setIfInBounds i true).getD k false)=yb ks i (fun k=>ks.contains k&&lz.getD k false):=by
   unfold yb;cases hk:ks.contains i with
   | true=>
    rw[cond_true];funext k;rw[flag k];by_cases e:i=k;subst e;rw[hk,show(i==i)=true by simp];rfl;rw[show(i==k)=false by simpa using e];rfl
   | false=>
    rw[cond_false];funext k;rw[flag k];by_cases e:i=k;subst e;rw[hk];rfl;rw[show(i==k)=false by simpa using e];rfl
  rw[fup];have nd:∀j,lz.getD j false=true->∀k,(fO ops j [j]).contains k=true->lz.getD k false=true:=fun j hj k hk=>uJ Z j [j] (fun m hm=>by rw[List.mem_singleton.1 hm];exact hj) k (by simpa using hk)
  have hfl:RD ops ks i (fun k=>ks.contains k&&lz.getD k false):=by
   constructor
   ·intro k hc;cases hk:lz.getD k false with
    | false=>rw[Bool.and_false]
    | true=>rw[nd k hk i hc]at hnl;cases hnl
   intro k hc;simp only[Bool.and_eq_true]at hc;obtain⟨hc0,hc⟩:=hc;rw[show ops.getD i default=o by rw[Array.getD_eq_getD_getElem?,ho];rfl]at hc;rw[hc0,Bool.true_and];refine uJ Z i (pC o) (fun m hm=>?_) k (by simpa using hc);obtain⟨e,he,rfl⟩:=List.mem_map.1 hm;obtain⟨h1,h2⟩:=List.mem_filter.1 he;exact dq e (Array.mem_toList_iff.1 h1) h2
  have put:∀(g':α)(v:Value),Gh ops tb i g g'->(o.dst≠none->v=(tb g').getD i undef)->∀(j:Nat)(oj:Oper)(d:Tmp),ops[j]?=some oj->(lz.setIfInBounds i true).getD j false=true->oj.dst=some d->(a.put o.dst v).eval (.tmp d)=(tb g').getD j undef:=fun g' v hg hv j oj d hj hl hd=>by
   by_cases e:i=j;subst e;obtain rfl:o=oj:=Option.some.inj (ho.symm.trans hj);rw[hd,jQ _ _ _ (by rw[Z.R4];exact yv htd i o d ho hd)];exact hv (by rw[hd];simp)
   ·rw[flag j,show(i==j)=false by simpa using e]at hl;rw[Act.eval_put (fun d' hdd he=>by cases he;exact e (uC htd i j o oj d ho hj hdd hd)),UC j oj d hj hl hd];rcases hg with rfl|⟨dp,hdp,hof⟩
    rfl
    ·by_cases hjd:j∈dp;have h:=List.all_eq_true.1 hdp j hjd;rw[nd j hl i h]at hnl;cases hnl;rw[List.getD_eq_getElem?_getD,List.getD_eq_getElem?_getD,yf hof hjd]
  by_cases hh:i∈hard
  ·have hD':=JY hD hh _ g w hfl hI;have hW:=List.all_eq_true.1 (hc' g).1.2 i hh;rw[show ops.getD i default=o by rw[Array.getD_eq_getD_getElem?,ho];rfl]at hD' hW;rw[if_pos hW];unfold Oper.wp;rw[hex];rcases hD' with⟨w',g',hg,h1,h2⟩|⟨f,args,h1,h2⟩|⟨hu,w',h1,h2⟩
   rw[h1];exact⟨trivial,trivial,_,rfl,trivial,g',put g' _ hg (fun _=>rfl),h2⟩
   ·rw[h1];refine Calls.mono h2 fun e w' he=>?_
    obtain⟨g',hg,rfl,h3⟩:=he;exact⟨trivial,trivial,_,rfl,trivial,g',put g' _ hg (fun _=>rfl),h3⟩
   rw[h1];exact⟨trivial,trivial,_,rfl,trivial,g,put g _ (.inl rfl) (fun _=>hu.symm),h2⟩
  ·have hE':=yl (hE g w) (i:=i) (o:=o) (by simpa using ho) (by simpa using hh);rw[Nat.zero_add]at hE'
   have hki:ks.contains i=false:=by
    cases hk:ks.contains i with
    | false=>rfl
    | true=>
     have:=List.all_eq_true.1 (hc' g).2 i (by simpa using hk);rw[show hard.contains i=false by simpa using hh,show decide (i<ops.size)=true from decide_eq_true Y0]at this;cases this
   have e:yb ks i (fun k=>ks.contains k&&lz.getD k false)=fun k=>ks.contains k&&lz.getD k false:=by unfold yb;rw[hki];rfl
   rw[e];by_cases hW:Region.wanted o (yT ops (tb g))=true;rw[if_pos hW];unfold Oper.wp;rw[hex,hE'.1 hW];exact⟨trivial,trivial,_,rfl,trivial,g,put g _ (.inl rfl) (fun _=>rfl),hI⟩;rw[if_neg hW];exact⟨trivial,g,put g _ (.inl rfl) (fun _=>(hE'.2 (by simpa using hW)).symm),hI⟩
 ·intro lz a w hall Z;obtain⟨g,UC,hI⟩:=Z.i
  rw[show(fun k=>ks.contains k&&lz.getD k false)=fun k=>ks.contains k&&decide (k<ops.size)from funext fun k=>by
   by_cases hk:k<ops.size;rw[hall k hk,decide_eq_true hk];rw[decide_eq_false hk,Array.getD_eq_getD_getElem?,Array.getElem?_eq_none (by rw[Z.size];omega)];rfl] at hI
  have hu:Bu ops.toList:=fun i j oi oj d h1 h2 h3 h4=>uC htd i j oi oj d (by simpa using h1) (by simpa using h2) h3 h4
  have ea:a=⟨(dg ops.toList (tb g) a0.tmps.toList).toArray,a0.defers⟩:=by
   have e1:a.tmps=(dg ops.toList (tb g) a0.tmps.toList).toArray:=by
    apply Array.toList_inj.1;rw[List.toList_toArray];apply List.ext_getElem?;intro t;by_cases ht:t<a0.tmps.size
    ·rw[AX hu (tb g) a0.tmps.toList t (by simpa using ht)];have hs:t<a.tmps.size:=(by rw[Z.R4];exact ht);rw[Array.getElem?_toList,Array.getElem?_eq_getElem hs];have h1:a.eval (.tmp t)=a.tmps[t]:=(by simp[Act.eval,hs]);rw[<-h1];cases hw:lD ops.toList 0 t with
     | none=>
      rw[Z.old t fun i' o' hi' _ hd'=>AB hw o' (Array.mem_toList_iff.2 (Array.mem_of_getElem? hi')) hd'];simp[Act.eval,ht]
     | some j=>
      obtain⟨i',o',e,h2,h3⟩:=sS hw;obtain rfl:j=i':=(by omega);exact congrArg some (UC j o' t (by simpa using h2) (hall j (by simpa using(List.getElem?_eq_some_iff.1 h2).1)) h3)
    rw[List.getElem?_eq_none (by simp[Z.R4];omega),List.getElem?_eq_none (by rw[LK];simp;omega)]
   obtain⟨tm,df⟩:=a;have e2:=Z.defers;dsimp only at e1 e2;rw[e1,e2]
  rw[ea];exact hend g w hI
theorem BK{D D':Nat->Oper->Prop}(h:∀i o,D i o->D' i o):∀{hard:List Nat},jM D ops hard->jM D' ops hard
 | [],_=>trivial
 | _::_,hh=>⟨h _ _ hh.1,BK h hh.2⟩
structure Fl (ops:Array Oper) (i k:Nat) (b:Bool):Prop where
 no:(fO ops k [k]).contains i=true->b=false
 yes:(fO ops i (pC (ops.getD i default))).contains k=true->b=true
theorem Jn(k1 k2 i:Nat)(fl:Nat->Bool):yb [k1,k2] i fl k1=(bif i==k1 then true else fl k1)/\yb [k1,k2] i fl k2=(bif i==k2 then true else fl k2):=by
 unfold yb;by_cases h1:i=k1;subst h1;simp
 ·by_cases h2:i=k2;subst h2;simp;simp[h1,h2]
theorem Dc(CB:Bool->Bool->α->World->Prop)(k1 k2:Nat)(hard:List Nat)(tb:α->List Value)(g0:α)(h0:CB false false g0 w0.drew)(hD:jM (fun i o=>∀(b1 b2:Bool)(g:α)(w:World),Fl ops i k1 b1->Fl ops i k2 b2->CB b1 b2 g w->o4 P ops (td ops a0 (tb g) o) o w i g tb fun g w=>CB (bif i==k1 then true else b1) (bif i==k2 then true else b2) g w) ops hard)(hend:∀g w,CB (decide (k1<ops.size)) (decide (k2<ops.size)) g w->Q .normal ⟨(dg ops.toList (tb g) a0.tmps.toList).toArray,a0.defers⟩ w)(hm:P.follows .mixedOrders=true:=by kernel_rfl)(hc:∀g,wT ops a0.tmps.size (tb g) hard [k1,k2]=true:=by intro g;kernel_rfl)(hE:∀g w,rE P (td ops a0 (tb g)) (yT ops (tb g)) hard w ops.toList 0=vE (tb g) hard w ops.toList 0:=by intro g w;kernel_rfl):(Code.region id ops true).wp P Q a0 w0:=
 u7 (fun fl g w=>CB (fl k1) (fl k2) g w) [k1,k2] hard tb g0 h0 (BK (fun i o h fl g w hf hC=>by
  have:=h (fl k1) (fl k2) g w ⟨hf.no k1,fun hh=>hf.yes k1 (by rw[hh];simp)⟩ ⟨hf.no k2,fun hh=>hf.yes k2 (by rw[hh];simp)⟩ hC;rw[<-(Jn k1 k2 i fl).1,<-(Jn k1 k2 i fl).2]at this;exact this) hD) (fun g w h=>hend g w (by
  have e1:[k1,k2].contains k1=true:=by simp
  have e2:[k1,k2].contains k2=true:=by simp
  simp only[e1,e2,Bool.true_and]at h;exact h)) hm hc hE
theorem de(CB:Bool->Bool->World->Prop)(k1 k2:Nat)(hard:List Nat)(tb:List Value)(h0:CB false false w0.drew)(hD:jM (fun i o=>∀(b1 b2:Bool)(w:World),Fl ops i k1 b1->Fl ops i k2 b2->CB b1 b2 w->o4 P ops (td ops a0 tb o) o w i () (fun _=>tb) fun _ w=>CB (bif i==k1 then true else b1) (bif i==k2 then true else b2) w) ops hard)(hend:∀w,CB (decide (k1<ops.size)) (decide (k2<ops.size)) w->Q .normal ⟨(dg ops.toList tb a0.tmps.toList).toArray,a0.defers⟩ w)(hm:P.follows .mixedOrders=true:=by kernel_rfl)(hc:wT ops a0.tmps.size tb hard [k1,k2]=true:=by kernel_rfl)(hE:∀w,rE P (td ops a0 tb) (yT ops tb) hard w ops.toList 0=vE tb hard w ops.toList 0:=by intro w;kernel_rfl):(Code.region id ops true).wp P Q a0 w0:=
 Dc (fun b1 b2 (_:Unit) w=>CB b1 b2 w) k1 k2 hard (fun _=>tb) () h0 (BK (fun _ _ h b1 b2 _ w=>h b1 b2 w) hD) (fun _=>hend) hm (fun _=>hc) (fun _=>hE)
