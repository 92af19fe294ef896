import Derived.Test.YtkbjaadjnbgfbaaGreatDoorCards
import Derived.Test.YtkbjaadjnbgfbaaGreatDoorTie
import Derived.Test.YtkbjaadjnbgfbaaGreatDoorWBunQ45
import Derived.Test.YtkbjaadjnbgfbaaGreatDoorWBunQ51
import Derived.Test.YtkbjaadjnbgfbaaGreatDoorWDigLaid
import Derived.ShutString
import Derived.Deep.Grids
set_option maxRecDepth 100000
set_option maxHeartbeats 4000000
namespace Go.Proofs.YtkbjaadjnbgfbaaGreatDoor
open Go.ChangeShapes Go.WideShapes Go.ChangeAt Go.RowKit
open Go.ChangeMaps (open_string shut_string)
theorem qhp_ (os:Os) (started:os.Started) (H:Type) (enc:TypeId × Value->H) :
  ReturnsInHanded {} Tryz.checked os 6 .any (fun w args=>(Rows.chainWaySpec.pre enc Tryz.prog Tryz.f6 [] false w args/\laidMetH Tryz.prog laids w)/\sizedMet enc Tryz.prog Tryz.f6 (OpenSpec.ofChange Rows.chainWaySpec) false w args)
   (Rows.chainWaySpec.post enc Tryz.prog Tryz.f6 false true false false):=by
 refine returnsInHanded_of_change_and (C:=Tryz.checked) (X:=fun w _=>laidMetH Tryz.prog laids w) (fun _ _ _ hh h=>h.of_heap hh) own started (by kernel_rfl) Tryz.func6
  (ChangeSpec.witness_shaped (enc:=enc) (C:=Tryz.checked) (os:=os) (X:=fun w _=>laidMetH Tryz.prog laids w) false (World.doorLaid Tryz.prog 2000 os) #[.agg #[.int .i64 0,.int .i64 0,.int .i64 0,.int .i64 0,.bool false,.slice none 0 0,.slice none 0 0,.int .u64 0,.int .u64 0,.int .u64 0,.int .u64 0,.int .u64 0,.int .u64 0,.int .u64 0,.int .u64 0,.int .i64 0,.int .u8 0,.int .u8 0,.int .u8 0,.int .u8 0,.int .u8 0,.int .u8 0,.int .u8 0,.int .u8 0,.int .u8 0,.int .u8 0,.int .u8 0,.int .u8 0,.int .u8 0,.int .u8 0,.int .u8 0,.int .u8 0,.int .u8 0,.int .u8 0,.int .u8 0,.int .u8 0,.int .u8 0,.int .u8 0,.int .u8 0,.int .u8 0,.int .u8 0,.int .u8 0,.int .u8 0,.int .u8 0,.int .u8 0,.int .u8 0,.int .u8 0,.int .u8 0,.int .u8 0,.int .u8 0,.int .u8 0,.int .u8 0,.int .u8 0,.int .u8 0,.int .u8 0,.int .u8 0,.int .u8 0,.int .u8 0,.int .u8 0,.int .u8 0,.int .u8 0,.int .u8 0,.int .u8 0,.int .u8 0,.int .u8 0,.int .u8 0,.int .u8 0,.int .u8 0,.int .u8 0,.int .u8 0,.int .u8 0,.int .u8 0,.int .u8 0,.int .u8 0,.int .u8 0,.int .u8 0,.int .u8 0,.int .u8 0,.int .u8 0,.int .u8 0,.int .i64 0,.int .i64 0,.int .i64 0],.slice none 0 0] 8 rfl (World.shaped_of_RefB (by kernel_rfl) (by kernel_rfl)) (by kernel_rfl) (by kernel_rfl) (by kernel_rfl) (qajr_ os _)) ?_
 intro W base args ds gs before hval0 hW _ hsz0 hL _;have hsz:(DataW.weightsEach Tryz.prog (Tryz.f6.params.toList ++ Rows.chainWaySpec.plain.varTypes Tryz.prog) (ds ++ gs)).all (· <= reachBytes)=true:=hsz0;clear hsz0;have hval:∀ (j:Nat) t v,Tryz.f6.params[j]?=some t->args[j]?=some v->Value.okWide Tryz.prog W .any base t v:=hval0;have hW':=hW;obtain ⟨p,q,hA0,hV,rfl,hfz,hnd⟩:=hW;have hAll:DataW.TrodAll enc Tryz.prog W 0 (fun _=>true) true Tryz.f6.params.toList args.toList ds p:=hA0;rw[Tryz.params6] at hAll hval hsz;obtain ⟨v0,vs0,d0,ds0,p0,q0,hargs,rfl,rfl,h0,r0⟩:=trodAll_cons hAll;obtain ⟨v1,vs1,d1,ds1,p1,q1,rfl,rfl,rfl,h1,r1⟩:=trodAll_cons r0;obtain ⟨rfl,rfl,rfl⟩:=trodAll_nil r1;obtain rfl:args=#[v0,v1]:=by cases args;simp_all
 obtain ⟨rfl,rfl⟩:=trodVars_none hV
 have e1:∀ n ∈ d1.weights Tryz.prog 33,n<=reachBytes:=fun n hn=>by
  simpa using List.all_eq_true.1 hsz n (DataW.weights_mem_each (j:=1) (t:=33) (d:=d1) rfl rfl n hn)
 have hlt:=hW'.lt;have k0:=h0;have k1:=h1;obtain ⟨x0,t0,gs0,ks0,rfl,ua0,ub0,uc0,ud0,ue0,uf0,ug0,uh0⟩:=An.qsb_ (hval 0 32 v0 rfl rfl) h0;obtain ⟨a1,l1,n1,c1,rfl,hn1,hl1,hf1,hM1⟩:=An.qacl_ (hval 1 33 v1 rfl rfl) h1 e1;clear hA0 hval0;have hT:=of_laid hL;refine (An.qaci_ x0 ua0 uh0 t0 ub0 uc0 gs0 ks0 ud0 ue0 a1 l1 n1 c1 hn1 hl1 hf1 W hT hM1 uf0 ug0).mono fun e W' ⟨he,bel⟩=>?_
 subst he;have g0:=Below.trod laidOut (by kernel_rfl) (of_decide_eq_true (by kernel_rfl)) k0 bel (fun x hx=>by simpa using hlt x (by simp[hx]));have g1:=Below.trod laidOut (by kernel_rfl) (of_decide_eq_true (by kernel_rfl)) k1 bel (fun x hx=>by simpa using hlt x (by simp[hx]));exact ⟨_,rfl,_,_,_,[],_,[],hW',trodAll_mk1 (shut_bool Tryz.underlying4 _),(trodAll_cons_mk g0 (trodAll_cons_mk g1 trodAll_mk0)),rfl,bel.frame _,fun h=>by cases h⟩
theorem qnu_:Rows.ChainWaySaid :=
 OpenClaim.holds_of_wide 6 Tryz.f6 rfl rfl rfl rfl rfl rfl rfl ⟨rfl,rfl,rfl,rfl,rfl⟩ rfl rfl rfl rfl rfl (by kernel_rfl) Tryz.func6 (by kernel_rfl)
  (of_decide_eq_true (by kernel_rfl)) (by unfold Func.isWrapper;first|(rw[if_pos (by decide +kernel)];kernel_rfl)|(rw[if_neg (by decide +kernel)];exact ⟨rfl,rfl⟩))
  (fun os started H enc _=>qhp_ os started H enc)
theorem chainWay_holds:Rows.ChainWayCardSaid :=
 Claim7.holds_tied_plain_at .later [] [.data,.data] true Rows.chainWayCard.stood.harness false
  qnu_ (fun _ h=>by cases h) (by kernel_rfl) (fun _ h=>by cases h) chainWay_row_tie rfl ⟨rfl,rfl⟩ (by kernel_rfl) rfl
  (fun f fn hf hfn=>by
   obtain rfl : f = 6 := Option.some.inj ((show Tryz.prog.funcNamed "trailhead/trailheadlaw17.ChainWay" = some 6 by kernel_rfl).symm.trans hf) |>.symm;obtain rfl:fn=Tryz.f6:=(Option.some.inj (Tryz.func6.symm.trans hfn)).symm
   exact ⟨by kernel_rfl,fun j t ht=>by
    rw[Tryz.params6] at ht;have hm:t ∈ [32,33]:=(by simpa using Array.mem_of_getElem? ht);have hall:([32,33].all fun u=>!Tryz.prog.wantsStandIn u)=true:=by kernel_rfl
    exact (show Tryz.prog.wantsStandIn t=false by simpa using List.all_eq_true.1 hall t hm)⟩)
  (by kernel_rfl)
#print axioms chainWay_holds
end Go.Proofs.YtkbjaadjnbgfbaaGreatDoor
