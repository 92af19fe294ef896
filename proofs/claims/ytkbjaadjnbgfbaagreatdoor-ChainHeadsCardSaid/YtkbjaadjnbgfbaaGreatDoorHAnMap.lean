import Derived.Test.YtkbjaadjnbgfbaaGreatDoorHBunQ31
import Derived.DeepKeys4
import Derived.WideKeyArr2
set_option maxRecDepth 100000
set_option maxHeartbeats 4000000
namespace Go.Proofs.YtkbjaadjnbgfbaaGreatDoor.An
open Go.RowKit Mem Sc Go.Maps
theorem uJ:laidOutB Tryz.prog=true:=by kernel_rfl
theorem te:(28:TypeId)<Tryz.prog.types.size:=dX (by kernel_rfl)
theorem vf:(match Tryz.prog.underlying 28 with|some (.array _ _)|some (.struct _)=>true|_=>false)=true:=by rw[Tryz.underlying28]
theorem nC:Keyed Tryz.prog 28:=Keyed.of_law (deep_law_laid uJ (m:=2) (by omega) te (by kernel_rfl) vf)
theorem o4:Tryz.prog.cellsOf 28=32:=by kernel_rfl
theorem ss:Tryz.prog.cellsOf 5=1:=by kernel_rfl
theorem zB:Tryz.prog.keyType 28=true:=by kernel_rfl
theorem LS{n k:Nat}(h:k<n):∃m,n=m+1:=⟨n-1,by omega⟩
theorem uV:∃m,Tryz.prog.types.size=m+1:=LS te
theorem Hu{P:Program}{e:TypeId}(he:P.underlying e=some (.int .u8)){D:Nat}(l:List UInt8):∀L:List Nat,(∀i∈L,i<l.length)-> L.mapM (fun i=>P.keyLits (D+1) e (((Lib.byteCells l).drop (i*1)).take 1))=some (L.map fun i=>[Lit.int .u8 ((l.getD i 0).toNat:Int)])
 | [],_=>rfl
 | i::L,h=>by
  have hi:=h i (by simp)
  have wa:(Lit.int .u8 (l[i].toNat:Int)).wf=true:=by
   have:=l[i].toNat_lt;simp only[Lit.wf,dv,fp];refine⟨show(0:Int)<=_ by omega,show _<=(255:Int) by omega⟩
  have hc:((Lib.byteCells l).drop (i*1)).take 1=[.int .u8 (l[i].toNat:Int)]:=by
   rw[fx,List.take_one,List.head?_drop];simp[Lib.byteCells,hi]
  rw[List.mapM_cons,Hu he l L (fun j hj=>h j (by simp[hj])),hc];have hg:l.getD i 0=l[i]:=by simp[List.getD_eq_getElem?_getD,hi]
  simp only[bZ,hg];simp[Program.keyLits,he,wa]
theorem vg(l:List UInt8)(h:l.length=32):∃kl,keyOf Tryz.prog 28 (.agg (ae l))=some kl:=by obtain⟨m0,hm0⟩:=uV;unfold keyOf;simp only[Tryz.underlying28];rw[aj (by simp[zB,Value.formed,Tryz.underlying28,o4,nF,h]),hm0];unfold Program.keyLits;simp only[Tryz.underlying28,Value.cells,lP,ss];rw[aj (by simp[Lib.byteCells_length,h];exact o4.symm),Hu Tryz.underlying5 l _ (fun i hi=>by simp at hi;omega)];exact⟨_,rfl⟩
variable{a b:List UInt8}
theorem R0(h:ae a=ae b):a=b:=by
 have h1:Lib.byteCells a=Lib.byteCells b:=by rw[<-lP,<-lP,h]
 unfold Lib.byteCells at h1;refine(List.map_inj_right (fun x y e=>?_)).1 h1;injection e with _ e2
 have:x.toNat=y.toNat:=by omega
 exact UInt8.toNat_inj.1 this
theorem Gp{ka kb:Lit}(ha:keyOf Tryz.prog 28 (.agg (ae a))=some ka)(hb:keyOf Tryz.prog 28 (.agg (ae b))=some kb)(h:a≠b):ka≠kb:=by rintro rfl;have:=nC.inj ha hb;exact h (R0 (by injection this))
theorem zD(w:World):(zeroValue 3).run Tryz.prog w=.ok (.int .i64 0) w:=by kernel_rfl
def e_(w:World)(b:Nat)(L:List (List UInt8)):Prop:=
 ∃D:DataW Unit,w.ownsMap Tryz.prog 28 (plainElem Tryz.prog 3) b L.length D/\IsMap D/\L.length<=1000/\
  ∀(id:List UInt8)(kl:Lit),keyOf Tryz.prog 28 (.agg (ae id))=some kl->Maps.has D kl=(L.findIdx? (· == id)).isSome/\∀i,L.findIdx? (· == id)=some i->D.atKey kl (.lit (.int .i64 0))=.lit (.int .i64 (i:Int))
section
variable{w w':World}{b:Nat}{L:List (List UInt8)}
theorem e_.lt(h:e_ w b L):b<w.heap.size:=by obtain⟨D,h,_⟩:=h;exact h.lt
theorem e_.on(h:e_ w b L)(hb:w'.heap[b]?=w.heap[b]?):e_ w' b L:=by obtain⟨D,⟨es,clock,h1,h2⟩,h3⟩:=h;exact⟨D,⟨es,clock,hb.trans h1,h2⟩,h3⟩
theorem e_.made(w:World):e_ (w.alloc (.map #[] 0)) w.heap.size []:=by refine⟨.map [],World.ownsMap_made w _ _ _,⟨[],rfl⟩,bB _,fun id _ _=>⟨rfl,fun i hi=>by cases hi⟩⟩
theorem e_.VA(h:e_ w b L){cs:Array Value}{t:TypeId}{fr:Nat×Nat}{k:Nat}(hk:w.heap[k]?=some (.cells cs t fr)):k≠b:=by rintro rfl;obtain⟨D,⟨es,clock,h1,_⟩,_⟩:=h;rw[h1]at hk;cases hk
theorem e_.look(h:e_ w b L){id:List UInt8}(hid:id.length=32):∃c,(∀w':World,w'.heap[b]?=w.heap[b]?->(Instr.lookup 145 (.map (some b)) (.agg (ae id)) true).run Tryz.prog w'=.ok (.tuple #[.int .i64 c,.bool (L.findIdx? (· == id)).isSome]) w')/\∀i,L.findIdx? (· == id)=some i->c=(i:Int):=by
 obtain⟨D,⟨es,clock,g1,g2⟩,_,_,hD⟩:=h;obtain⟨kl,hkl⟩:=vg id hid;obtain⟨h1,h2⟩:=hD id kl hkl
 have gen:∀w':World,w'.heap[b]?=w.heap[b]?->∃c,(Instr.lookup 145 (.map (some b)) (.agg (ae id)) true).run Tryz.prog w'=.ok (.tuple #[.int .i64 c,.bool (L.findIdx? (· == id)).isSome]) w'/\D.atKey kl (.lit (.int .i64 0))=.lit (.int .i64 c):=fun w' hb=>by
  have hown:w'.ownsMap Tryz.prog 28 (plainElem Tryz.prog 3) b L.length D:=⟨es,clock,hb.trans g1,g2⟩;obtain⟨v,ps,hrun,hv⟩:=hown.look_ok nC Tryz.underlying145 (zD w') (plainElem_int Tryz.underlying3 (by decide)) hkl;obtain⟨c,rfl,hc,_⟩:=plainElem_int_inv Tryz.underlying3 hv;exact⟨c,by rw[hrun,h1],aJ Prod.fst hc⟩
 obtain⟨c,_,hc⟩:=gen w rfl;refine⟨c,fun w' hb=>?_,fun i hi=>?_⟩;obtain⟨c',hr,hc'⟩:=gen w' hb;obtain rfl:c'=c:=(Lit.int.inj (DataW.lit.inj (hc'.symm.trans hc))).2;exact hr;rw[h2 i hi]at hc;exact((Lit.int.inj (DataW.lit.inj hc)).2).symm
theorem Iv{L:List (List UInt8)}{id x:List UInt8}(hn:L.findIdx? (· == x)=none):(L++[x]).findIdx? (· == id)=if id=x then some L.length else L.findIdx? (· == id):=by
 rw[List.findIdx?_append];by_cases e:id=x;subst e;rw[hn,aj rfl];simp
 ·rw[ah e];have:((x==id)=false):=by simpa using fun h=>e h.symm
  simp[this]
theorem e_.put(h:e_ w b L){id:List UInt8}(hid:id.length=32)(hn:L.findIdx? (· == id)=none)(hL:L.length<1000)(n:Nat)(hlen:n=L.length):∃w',(Instr.mapUpdate 145 (.map (some b)) (.agg (ae id)) (.int .i64 (n:Int))).run Tryz.prog w=.ok () w'/\e_ w' b (L++[id])/\w.grownBy w' (some b):=by subst hlen;obtain⟨D,hown,hM,_,hD⟩:=h;obtain⟨kl,hkl⟩:=vg id hid;have hwf:(Lit.int .i64 (L.length:Int)).wf=true:=WalkArith.wf_i64 (by omega);obtain⟨w',hrun,h1,h2⟩:=hown.update nC Tryz.underlying145 (by unfold maxLen;omega) hkl (plainElem_int Tryz.underlying3 hwf);refine⟨w',hrun,⟨_,by simpa using h1,hM.put _ _,by simp;omega,fun x kx hx=>?_⟩,h2⟩;rw[Iv hn];have hk:=nC.key hkl;by_cases e:x=id;subst e;obtain rfl:kl=kx:=Option.some.inj (hkl.symm.trans hx);rw[aj rfl];exact⟨has_put_same hM hk _,fun i hi=>by cases hi;exact atKey_put_same hM hk _ _⟩;rw[ah e];have hne:=Gp hx hkl e;rw[has_put_other hne,atKey_put_other hne];exact hD x kx hx
end
