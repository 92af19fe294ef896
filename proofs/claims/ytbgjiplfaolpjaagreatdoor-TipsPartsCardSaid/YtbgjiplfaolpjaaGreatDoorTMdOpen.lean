import Derived.Test.YtbgjiplfaolpjaaGreatDoorTBunQ32
import Derived.Test.YtbgjiplfaolpjaaGreatDoorRows
import Derived.ProofKit
import Derived.OpenShut
set_option maxRecDepth 100000
set_option maxHeartbeats 4000000
namespace Go.Proofs.YtbgjiplfaolpjaaGreatDoor.MM
open Go.RowKit Go.ChangeShapes Go.WideShapes Go.ChangeAt
theorem cellsInt:Tryz.prog.cellsOf 3=1:=by kernel_rfl
theorem qgo_ {H:Type} {enc:TypeId × Value->H} {W:World} {r:Reach} {b0:Nat} {v:Value} {d:DataW H} {ps:List MemPlace} (hv:Value.okWide Tryz.prog W r b0 49 v)
  (hd:DataW.Trod enc Tryz.prog W 0 (fun _=>true) true 49 v d ps) :
  ∃ (p:Option Addr) (l:List Int) (n cap:Nat),v = .slice p n cap/\l.length=n/\n<=cap/\n<9223372036854775808/\(∀x ∈ l,-9223372036854775808<=x/\x<9223372036854775808)/\Lie W 0 W.heap.size p l:=by
 obtain ⟨a0,len,cap,rfl⟩:=okWide_slice Tryz.underlying49 hv
 obtain ⟨fuel,hf⟩:=hd
 rcases open_ints Tryz.underlying49 Tryz.underlying3 cellsInt hf with ⟨hcs,hx⟩|⟨a,len',cap',zs,hcs,_,hl,hm,hz,hx,hcell,hwz⟩
 ·simp[Value.cells] at hcs
  obtain ⟨rfl,rfl,rfl⟩:=hcs
  exact ⟨none,[],0,0,rfl,rfl,by omega,by omega,fun x h=>(by simp at h),Lie.none⟩
 ·simp[Value.cells] at hcs
  obtain ⟨rfl,rfl,rfl⟩:=hcs
  simp only[if_true] at hz
  refine ⟨some a,zs.take len,len,cap,rfl,by simp;omega,hl,by unfold maxLen at hm;omega,fun x hx=>?_,fun h0=>?_⟩
  ·have:=bounds_i64 (hwz x (List.mem_of_mem_take hx))
   omega
  ·have h1:0<len:=by simp at h0;omega
   obtain ⟨b,off,spot⟩:=a
   have hspot:spot=none:=by simpa [Addr.add] using World.cell?_spot (hcell 0 (by omega))
   subst hspot
   have hcell':∀ j,j<zs.length->W.cell? ⟨b,off+j,none⟩=some (.int .i64 (zs.getD j 0)):=fun j hj=>by rw[<-add_at];exact hcell j hj
   refine ⟨b,off,rfl,Nat.zero_le _,World.block_lt_of_cell? _ _ (hcell' 0 (by omega)),fun j hj=>?_⟩
   simp at hj
   rw[hcell' j (by omega)]
   simp[List.getD_eq_getElem?_getD,show j<len by omega]
end Go.Proofs.YtbgjiplfaolpjaaGreatDoor.MM
