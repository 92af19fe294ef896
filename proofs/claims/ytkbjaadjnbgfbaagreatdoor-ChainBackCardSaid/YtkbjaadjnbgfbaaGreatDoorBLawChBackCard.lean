import Derived.Test.YtkbjaadjnbgfbaaGreatDoorCards
import Derived.Test.YtkbjaadjnbgfbaaGreatDoorTie
import Derived.Test.YtkbjaadjnbgfbaaGreatDoorBBunQ50
import Derived.Test.YtkbjaadjnbgfbaaGreatDoorBDigLaid
import Derived.ShutString
import Derived.Deep.Grids
import Derived.Test.YtkbjaadjnbgfbaaGreatDoorBRlOpen
set_option maxRecDepth 100000
set_option maxHeartbeats 4000000
namespace Go.Proofs.YtkbjaadjnbgfbaaGreatDoor
open Go.ChangeShapes Go.RowKit Go.WideShapes
namespace An
open Go.Deep Mem Sc
instance WO:Inhabited Cm:=⟨RN⟩
theorem oS:Tryz.prog.cellsOf 26=4:=by kernel_rfl
theorem oK:Tryz.prog.cellsOf 24=1:=by kernel_rfl
section
variable{H:Type}{enc:TypeId×Value->H}{W:World}{base:Nat}{sp:Nat->Bool}{held:Bool}{fuel:Nat}{cs:List Value}
theorem GW{x:DataW H×List MemPlace}(hf:DataW.trod enc Tryz.prog W base sp held fuel 26 cs=some x)(hcs:cs.length=4):∀v∈cs,v.oneCell'=true:=by
 obtain⟨xs,m,_,hx,_,hl,hel⟩:=DataW.trod_array Tryz.underlying26 hf;intro v hv;obtain⟨i,hi,rfl⟩:=List.mem_iff_getElem.1 hv;have hE:=hel i (by omega);rw[oK,Nat.mul_one,List.getElem?_eq_getElem (by omega)]at hE;obtain⟨z,e1,e2,e3⟩:=DataW.trod_int Tryz.underlying24 hE;have h0:((cs.drop i).take 1)[0]?=some (.int .u64 z):=by rw[e1];rfl
 have h1:cs[i]?=some (.int .u64 z):=by simpa using h0
 rw[List.getElem?_eq_getElem hi]at h1;rw[Option.some.inj h1];rfl
variable{d:DataW H}
theorem E7{p:List MemPlace}(hf:DataW.trod enc Tryz.prog W 0 (fun _=>true) true fuel 32 cs=some (d,p)):∀v∈(cs.drop 7).take 8,v.oneCell'=true:=by
 obtain⟨xs,m,_,_,hl,hxl,hel⟩:=DataW.trod_struct Tryz.underlying32 hf;rw[ma]at hl;have aa5:xs.length=10:=hxl;have f7:DataW.trod enc Tryz.prog W 0 (fun _=>true) true m 26 ((cs.drop 7).take (Tryz.prog.cellsOf 26))=xs[7]?:=hel 7 _ rfl;have f8:DataW.trod enc Tryz.prog W 0 (fun _=>true) true m 26 ((cs.drop 11).take (Tryz.prog.cellsOf 26))=xs[8]?:=hel 8 _ rfl;rw[oS,List.getElem?_eq_getElem (by omega)]at f7 f8;have g7:=GW f7 (by simp;omega);have g8:=GW f8 (by simp;omega);intro v hv
 have e:(cs.drop 7).take 8=(cs.drop 7).take 4++(cs.drop 11).take 4:=by
  rw[show cs.drop 11=(cs.drop 7).drop 4 by rw[List.drop_drop],show(8:Nat)=4+4 from rfl,List.take_add]
 rw[e]at hv;exact(List.mem_append.1 hv).elim (g7 v) (g8 v)
theorem Nr{r:Reach}{b0:Nat}{v:Value}{ps:List MemPlace}(hv:Value.okWide Tryz.prog W r b0 32 v)(hd:DataW.Trod enc Tryz.prog W 0 (fun _=>true) true 32 v d ps):∃(p:NN.Pr)(t:Tl)(gs:List Gt)(ks:List Ck),v=.agg (NN.aE p)/\p.ok/\p.tl=t.C/\t.ok/\t.gn=gs.length/\t.cn=ks.length/\aJ W t.ga gs/\az W t.ca ks/\p.one:=by
 obtain⟨p,t,gs,ks,rfl,h1,h2,h3,h4,h5,h6,h7⟩:=Pe hv hd;refine⟨p,t,gs,ks,rfl,h1,h2,h3,h4,h5,h6,h7,?_⟩;obtain⟨fuel,hf⟩:=hd;have hf':DataW.trod enc Tryz.prog W 0 (fun _=>true) true fuel 32 (NN.dR p)=some (d,ps):=hf;have ho:=E7 hf';intro v hv;rw[h2]at hv;unfold Tl.C at hv;simp only[List.mem_cons,List.mem_append]at hv;rcases hv with rfl|rfl|hv|hv
 rfl;rfl
 ·refine ho v ?_
  have e:(NN.dR p).drop 7=t.nn++bq t.g:=by
   have:NN.dR p=.int .i64 p.lim :: .int .i64 p.R8 :: .int .i64 p.Sg :: .int .i64 p.Sb :: .bool p.Se::t.C:=by unfold NN.dR;rw[h2]
   rw[this];rfl
  rw[e,List.take_append_of_le_length (by rw[h3.1];exact Nat.le_refl _),<-h3.1,List.take_length];exact hv
 exact oQ _ v hv
end
section
variable{H:Type}{enc:TypeId×Value->H}{W:World}
end
instance WQ:Inhabited Ac:=⟨Jc⟩
theorem oh:Tryz.prog.cellsOf 39=72:=by kernel_rfl
theorem tG:Tryz.prog.cellsOf 4=1:=by kernel_rfl
theorem uU:Tryz.prog.bytesOf 39=128:=by kernel_rfl
section
variable{H:Type}{enc:TypeId×Value->H}{W:World}{base:Nat}{sp:Nat->Bool}{held:Bool}{fuel:Nat}{cs:List Value}
theorem E8{x:DataW H×List MemPlace}(hf:DataW.trod enc Tryz.prog W base sp held fuel 39 cs=some x):∃c:Ac,c.h.ok/\(-9223372036854775808<=c.now/\c.now<=9223372036854775807)/\cs=o7 c:=by obtain⟨xs,m,_,rfl,hl,hxl,hel⟩:=DataW.trod_struct Tryz.underlying39 hf;rw[oh]at hl;have hx4:xs.length=5:=hxl;have f0:DataW.trod enc Tryz.prog W base sp held m 3 ((cs.drop 0).take (Tryz.prog.cellsOf 3))=xs[0]?:=hel 0 _ rfl;have f1:DataW.trod enc Tryz.prog W base sp held m 30 ((cs.drop 1).take (Tryz.prog.cellsOf 30))=xs[1]?:=hel 1 _ rfl;have f2:DataW.trod enc Tryz.prog W base sp held m 3 ((cs.drop 69).take (Tryz.prog.cellsOf 3))=xs[2]?:=hel 2 _ rfl;have f3:DataW.trod enc Tryz.prog W base sp held m 3 ((cs.drop 70).take (Tryz.prog.cellsOf 3))=xs[3]?:=hel 3 _ rfl;have f4:DataW.trod enc Tryz.prog W base sp held m 4 ((cs.drop 71).take (Tryz.prog.cellsOf 4))=xs[4]?:=hel 4 _ rfl;simp only[gl,kT,tG]at f0 f1 f2 f3 f4;rw[List.getElem?_eq_getElem (by omega)]at f0 f1 f2 f3 f4;obtain⟨k,e0,_,_⟩:=DataW.trod_int Tryz.underlying3 f0;obtain⟨h,hfit,e1⟩:=DL f1;obtain⟨v,e2,_,w2⟩:=DataW.trod_int Tryz.underlying3 f2;obtain⟨q,e3,_,_⟩:=DataW.trod_int Tryz.underlying3 f3;obtain⟨g,e4,_⟩:=DataW.trod_bool Tryz.underlying4 f4;have b2:=bounds_i64 w2;refine⟨⟨k,h,v,q,g⟩,hfit.1,⟨by simp only;omega,by simp only;omega⟩,?_⟩;have c0:=dU cs 0 1;have c1:=dU cs 1 68;have c2:=dU cs 69 1;have c3:=dU cs 70 1;have c4:=dU cs 71 1;have c5:cs.drop 72=[]:=List.drop_eq_nil_of_le (by omega);rw[e4,c5]at c4;rw[e3,c4]at c3;rw[e2,c3]at c2;rw[e1,c2]at c1;rw[e0,c1,List.drop_zero]at c0;rw[c0];rfl
end
section
variable{H:Type}{enc:TypeId×Value->H}{W:World}
theorem Eg{r:Reach}{b0:Nat}{v:Value}{d:DataW H}{p:List MemPlace}(hv:Value.okWide Tryz.prog W r b0 33 v)(hd:DataW.Trod enc Tryz.prog W 0 (fun _=>true) true 33 v d p)(hw:∀n∈d.weights Tryz.prog 33,n<=reachBytes):∃(a:Option Addr)(hs:List Ac)(n c:Nat),v=.slice a n c/\n=hs.length/\n<=4611686018427387904/\(∀x∈hs,-9223372036854775808<=x.now/\x.now<=9223372036854775807)/\gm W a hs:=by
 obtain⟨a0,len,cap,rfl⟩:=okWide_slice Tryz.underlying33 hv;obtain⟨fuel,hf⟩:=hd;have h47:=reachBytes_lt;rcases open_slice Tryz.underlying33 hf with⟨hcs,hx⟩|⟨a,len',cap',m,q,D,Pl,hcs,_,hl,_,hm,hx,hel⟩
 simp[Value.cells]at hcs;obtain⟨rfl,rfl,rfl⟩:=hcs;exact⟨none,[],0,0,rfl,rfl,by omega,fun s h=>by simp at h,fun h=>absurd h (by simp)⟩
 ·simp[Value.cells]at hcs;obtain⟨rfl,rfl,rfl⟩:=hcs;simp only[if_true]at hm;subst hm;simp only[Prod.mk.injEq]at hx;obtain⟨rfl,rfl⟩:=hx
  have h1:=hw _ (by
   simp only[DataW.weights,Tryz.underlying33,List.mem_cons];exact .inl rfl)
  rw[uU]at h1;simp only[List.length_map,List.length_range]at h1;rw[oh]at hel
  obtain⟨f,hfn⟩:=choose_lt (n:=len) (α:=Ac) (p:=fun i h=>h.h.ok/\(-9223372036854775808<=h.now/\h.now<=9223372036854775807)/\W.cells? 0 (a.add (i*72)) 72=some (o7 h)) (fun i hi=>by
   obtain⟨cs',h2,h3⟩:=hel i (by omega);obtain⟨h,hfit,hb,rfl⟩:=E8 h3;exact⟨h,hfit,hb,h2⟩)
  refine⟨some a,(List.range len).map f,len,_,rfl,by simp,by omega,fun y hy=>?_,fun h0=>?_⟩;obtain⟨i,hi,rfl⟩:=List.mem_map.1 hy;exact(hfn i (List.mem_range.1 hi)).2.1
  ·have hlen:0<len:=by simpa using h0
   obtain⟨b,off,spot⟩:=a;have hspot:spot=none:=by simpa[Addr.add]using Ai (hfn 0 hlen).2.2 (by decide)
   subst hspot;refine⟨b,off,rfl,block_lt_of_cell (oM (hfn 0 hlen).2.2 0 _ (List.getElem?_eq_getElem (zD _))),fun i hi=>?_⟩;have hi':i<len:=by simpa using hi
   rw[List.getElem_map,List.getElem_range];exact⟨(hfn i hi').1,oM (by have:=(hfn i hi').2.2;rw[add_plain]at this;exact this)⟩
end
end An
namespace An
open Mem Sc
end An
end Go.Proofs.YtkbjaadjnbgfbaaGreatDoor
namespace Go.Proofs.YtkbjaadjnbgfbaaGreatDoor
open Go.ChangeShapes Go.WideShapes Go.ChangeAt Go.RowKit
open Go.ChangeMaps (open_string shut_string)
theorem OT(os:Os)(started:os.Started)(H:Type)(enc:TypeId×Value->H):ReturnsInHanded {} Tryz.checked os 7 .any (fun w args=>(Rows.chainBackSpec.pre enc Tryz.prog Tryz.f7 [] false w args/\laidMetH Tryz.prog kG w)/\sizedMet enc Tryz.prog Tryz.f7 (OpenSpec.ofChange Rows.chainBackSpec) false w args) (Rows.chainBackSpec.post enc Tryz.prog Tryz.f7 false true false false):=by
 refine returnsInHanded_of_change_and (C:=Tryz.checked) (X:=fun w _=>laidMetH Tryz.prog kG w) (fun _ _ _ hh h=>h.of_heap hh) own started (by kernel_rfl) Tryz.func7
  (ChangeSpec.witness_shaped (enc:=enc) (C:=Tryz.checked) (os:=os) (X:=fun w _=>laidMetH Tryz.prog kG w) false (World.doorLaid Tryz.prog 2000 os) #[.agg #[.int .i64 0,.int .i64 0,.int .i64 0,.int .i64 0,.bool false,.slice none 0 0,.slice none 0 0,.int .u64 0,.int .u64 0,.int .u64 0,.int .u64 0,.int .u64 0,.int .u64 0,.int .u64 0,.int .u64 0,.int .i64 0,.int .u8 0,.int .u8 0,.int .u8 0,.int .u8 0,.int .u8 0,.int .u8 0,.int .u8 0,.int .u8 0,.int .u8 0,.int .u8 0,.int .u8 0,.int .u8 0,.int .u8 0,.int .u8 0,.int .u8 0,.int .u8 0,.int .u8 0,.int .u8 0,.int .u8 0,.int .u8 0,.int .u8 0,.int .u8 0,.int .u8 0,.int .u8 0,.int .u8 0,.int .u8 0,.int .u8 0,.int .u8 0,.int .u8 0,.int .u8 0,.int .u8 0,.int .u8 0,.int .u8 0,.int .u8 0,.int .u8 0,.int .u8 0,.int .u8 0,.int .u8 0,.int .u8 0,.int .u8 0,.int .u8 0,.int .u8 0,.int .u8 0,.int .u8 0,.int .u8 0,.int .u8 0,.int .u8 0,.int .u8 0,.int .u8 0,.int .u8 0,.int .u8 0,.int .u8 0,.int .u8 0,.int .u8 0,.int .u8 0,.int .u8 0,.int .u8 0,.int .u8 0,.int .u8 0,.int .u8 0,.int .u8 0,.int .u8 0,.int .u8 0,.int .u8 0,.int .i64 0,.int .i64 0,.int .i64 0],.slice none 0 0,.int .i64 0,.bool false] 8 rfl (World.shaped_of_RefB (by kernel_rfl) (by kernel_rfl)) (by kernel_rfl) (by kernel_rfl) (by kernel_rfl) (EJ os _)) ?_
 intro W base args ds gs before hval0 hW _ hsz0 hL _;have hsz:(DataW.weightsEach Tryz.prog (Tryz.f7.params.toList++Rows.chainBackSpec.plain.varTypes Tryz.prog) (ds++gs)).all (· <= reachBytes)=true:=hsz0;clear hsz0;have hval:∀(j:Nat) t v,Tryz.f7.params[j]?=some t->args[j]?=some v->Value.okWide Tryz.prog W .any base t v:=hval0;have hW':=hW;obtain⟨p,q,Sn,hV,rfl,hfz,hnd⟩:=hW;have Yj:DataW.TrodAll enc Tryz.prog W 0 (fun _=>true) true Tryz.f7.params.toList args.toList ds p:=Sn;rw[Tryz.params7]at Yj hval hsz;obtain⟨v0,vs0,d0,ds0,p0,q0,hargs,rfl,rfl,h0,r0⟩:=trodAll_cons Yj;obtain⟨v1,vs1,d1,ds1,p1,q1,rfl,rfl,rfl,h1,r1⟩:=trodAll_cons r0;obtain⟨v2,vs2,d2,ds2,p2,q2,rfl,rfl,rfl,h2,r2⟩:=trodAll_cons r1;obtain⟨v3,vs3,d3,ds3,p3,q3,rfl,rfl,rfl,h3,r3⟩:=trodAll_cons r2;obtain⟨rfl,rfl,rfl⟩:=trodAll_nil r3;obtain rfl:args=#[v0,v1,v2,v3]:=by cases args;simp_all
 obtain⟨rfl,rfl⟩:=trodVars_none hV
 have e1:∀n∈d1.weights Tryz.prog 33,n<=reachBytes:=fun n hn=>by
  simpa using List.all_eq_true.1 hsz n (DataW.weights_mem_each (j:=1) (t:=33) (d:=d1) rfl rfl n hn)
 have hlt:=hW'.lt;have k0:=h0;have k1:=h1;obtain⟨x0,t0,gs0,We,rfl,ua0,ub0,uc0,ud0,ue0,uf0,ug0,uh0⟩:=An.Nr (hval 0 32 v0 rfl rfl) h0;obtain⟨a1,l1,n1,c1,rfl,hn1,hl1,hf1,hM1⟩:=An.Eg (hval 1 33 v1 rfl rfl) h1 e1;obtain⟨z2,rfl,rfl,rfl,w2⟩:=open_int Tryz.underlying3 (hval 2 3 v2 rfl rfl) h2;have b2:=bounds_i64 w2;obtain⟨z3,rfl,rfl,rfl⟩:=open_bool Tryz.underlying4 (hval 3 4 v3 rfl rfl) h3;clear Sn hval0;have hT:=wW hL;refine(An.Oe x0 ua0 uh0 t0 ub0 uc0 gs0 We ud0 ue0 a1 l1 n1 c1 hn1 hl1 hf1 z2 z3 W hT hM1 uf0 ug0).mono fun e W' ⟨he,S9⟩=>?_
 subst he;have g0:=Below.trod laidOut (by kernel_rfl) (of_decide_eq_true (by kernel_rfl)) k0 S9 (fun x hx=>by simpa using hlt x (by simp[hx]));have g1:=Below.trod laidOut (by kernel_rfl) (of_decide_eq_true (by kernel_rfl)) k1 S9 (fun x hx=>by simpa using hlt x (by simp[hx]));exact⟨_,rfl,_,_,_,[],_,[],hW',trodAll_mk1 (shut_bool Tryz.underlying4 _),(trodAll_cons_mk g0 (trodAll_cons_mk g1 (trodAll_cons_mk (shut_int Tryz.underlying3 w2) (trodAll_cons_mk (shut_bool Tryz.underlying4 z3) trodAll_mk0)))),rfl,S9.frame _,fun h=>by cases h⟩
theorem Ow:Rows.ChainBackSaid:=
 OpenClaim.holds_of_wide 7 Tryz.f7 rfl rfl rfl rfl rfl rfl rfl ⟨rfl,rfl,rfl,rfl,rfl⟩ rfl rfl rfl rfl rfl (by kernel_rfl) Tryz.func7 (by kernel_rfl)
  (of_decide_eq_true (by kernel_rfl)) (by unfold Func.isWrapper;first|(rw[if_pos (by decide +kernel)];kernel_rfl)|(rw[if_neg (by decide +kernel)];exact⟨rfl,rfl⟩))
  (fun os started H enc _=>OT os started H enc)
theorem chainBack_holds:Rows.ChainBackCardSaid:=
 Claim7.holds_tied_plain_at .later [] [.data,.data] true Rows.chainBackCard.stood.harness false
  Ow (fun _ h=>by cases h) (by kernel_rfl) (fun _ h=>by cases h) chainBack_row_tie rfl ⟨rfl,rfl⟩ (by kernel_rfl) rfl
  (fun f fn hf hfn=>by
   obtain rfl : f = 7 := Option.some.inj ((show Tryz.prog.funcNamed "trailhead/trailheadlaw17.ChainBack" = some 7 by kernel_rfl).symm.trans hf) |>.symm;obtain rfl:fn=Tryz.f7:=(Option.some.inj (Tryz.func7.symm.trans hfn)).symm
   exact⟨by kernel_rfl,fun j t ht=>by
    rw[Tryz.params7]at ht;have hm:t∈[32,33,3,4]:=(by simpa using Array.mem_of_getElem? ht);have hall:([32,33,3,4].all fun u=>!Tryz.prog.wantsStandIn u)=true:=by kernel_rfl
    exact(show Tryz.prog.wantsStandIn t=false by simpa using List.all_eq_true.1 hall t hm)⟩)
  (by kernel_rfl)
#print axioms chainBack_holds
