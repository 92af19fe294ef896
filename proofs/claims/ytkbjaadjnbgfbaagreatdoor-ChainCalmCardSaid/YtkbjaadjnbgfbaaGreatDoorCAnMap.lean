import Derived.Test.YtkbjaadjnbgfbaaGreatDoorCBunQ31
import Derived.DeepKeys4
import Derived.WideKeyArr2
set_option maxRecDepth 100000
set_option maxHeartbeats 4000000
namespace Go.Proofs.YtkbjaadjnbgfbaaGreatDoor.An
open Go.RowKit Mem Sc Go.Maps
theorem sf:laidOutB Tryz.prog=true:=by kernel_rfl
theorem n0:(28:TypeId)<Tryz.prog.types.size:=of_decide_eq_true (by kernel_rfl)
theorem qm:(match Tryz.prog.underlying 28 with|some (.array _ _)|some (.struct _)=>true|_=>false)=true:=by rw[Tryz.underlying28]
theorem jA:Keyed Tryz.prog 28:=Keyed.of_law (deep_law_laid sf (m:=2) (by omega) n0 (by kernel_rfl) qm)
theorem kz:Tryz.prog.cellsOf 28=32:=by kernel_rfl
theorem nK:Tryz.prog.cellsOf 5=1:=by kernel_rfl
theorem ta:Tryz.prog.keyType 28=true:=by kernel_rfl
theorem DC{n k:Nat}(h:k<n):∃m,n=m+1:=⟨n-1,by omega⟩
theorem pV:∃m,Tryz.prog.types.size=m+1:=DC n0
theorem Df{P:Program}{e:TypeId}(he:P.underlying e=some (.int .u8)){D:Nat}(l:List UInt8):∀L:List Nat,(∀i∈L,i<l.length)-> L.mapM (fun i=>P.keyLits (D+1) e (((Lib.byteCells l).drop (i*1)).take 1))=some (L.map fun i=>[Lit.int .u8 ((l.getD i 0).toNat:Int)])
 | [],_=>rfl
 | i::L,h=>by
  have hi:=h i (by simp)
  have wa:(Lit.int .u8 (l[i].toNat:Int)).wf=true:=by
   have:=l[i].toNat_lt;simp only[Lit.wf,Bool.and_eq_true,decide_eq_true_eq];refine⟨show(0:Int)<=_ by omega,show _<=(255:Int) by omega⟩
  have hc:((Lib.byteCells l).drop (i*1)).take 1=[.int .u8 (l[i].toNat:Int)]:=by
   rw[Nat.mul_one,List.take_one,List.head?_drop];simp[Lib.byteCells,hi]
  rw[List.mapM_cons,Df he l L (fun j hj=>h j (by simp[hj])),hc];have hg:l.getD i 0=l[i]:=by simp[List.getD_eq_getElem?_getD,hi]
  simp only[List.map_cons,hg];simp[Program.keyLits,he,wa]
theorem qy(l:List UInt8)(h:l.length=32):∃kl,keyOf Tryz.prog 28 (.agg (ae l))=some kl:=by obtain⟨m0,hm0⟩:=pV;unfold keyOf;simp only[Tryz.underlying28];rw[if_pos (by simp[ta,Value.formed,Tryz.underlying28,kz,jz,h]),hm0];unfold Program.keyLits;simp only[Tryz.underlying28,Value.cells,il,nK];rw[if_pos (by simp[Lib.byteCells_length,h];exact kz.symm),Df Tryz.underlying5 l _ (fun i hi=>by simp at hi;omega)];exact⟨_,rfl⟩
variable{a b:List UInt8}
theorem OK(h:ae a=ae b):a=b:=by
 have h1:Lib.byteCells a=Lib.byteCells b:=by rw[<-il,<-il,h]
 unfold Lib.byteCells at h1;refine(List.map_inj_right (fun x y e=>?_)).1 h1;injection e with _ e2
 have:x.toNat=y.toNat:=by omega
 exact UInt8.toNat_inj.1 this
theorem AL{ka kb:Lit}(ha:keyOf Tryz.prog 28 (.agg (ae a))=some ka)(hb:keyOf Tryz.prog 28 (.agg (ae b))=some kb)(h:a≠b):ka≠kb:=by rintro rfl;have:=jA.inj ha hb;exact h (OK (by injection this))
theorem uN(w:World):(zeroValue 3).run Tryz.prog w=.ok (.int .i64 0) w:=by kernel_rfl
def dg(w:World)(b:Nat)(L:List (List UInt8)):Prop:=
 ∃D:DataW Unit,w.ownsMap Tryz.prog 28 (plainElem Tryz.prog 3) b L.length D/\IsMap D/\L.length<=1000/\
  ∀(id:List UInt8)(kl:Lit),keyOf Tryz.prog 28 (.agg (ae id))=some kl->Maps.has D kl=(L.findIdx? (· == id)).isSome/\∀i,L.findIdx? (· == id)=some i->D.atKey kl (.lit (.int .i64 0))=.lit (.int .i64 (i:Int))
section
variable{w w':World}{b:Nat}{L:List (List UInt8)}
theorem dg.lt(h:dg w b L):b<w.heap.size:=by obtain⟨D,h,_⟩:=h;exact h.lt
theorem dg.on(h:dg w b L)(hb:w'.heap[b]?=w.heap[b]?):dg w' b L:=by obtain⟨D,⟨es,clock,h1,h2⟩,h3⟩:=h;exact⟨D,⟨es,clock,hb.trans h1,h2⟩,h3⟩
theorem dg.made(w:World):dg (w.alloc (.map #[] 0)) w.heap.size []:=by refine⟨.map [],World.ownsMap_made w _ _ _,⟨[],rfl⟩,Nat.zero_le _,fun id _ _=>⟨rfl,fun i hi=>by cases hi⟩⟩
theorem dg.Rq(h:dg w b L){cs:Array Value}{t:TypeId}{fr:Nat×Nat}{k:Nat}(hk:w.heap[k]?=some (.cells cs t fr)):k≠b:=by rintro rfl;obtain⟨D,⟨es,clock,h1,_⟩,_⟩:=h;rw[h1]at hk;cases hk
theorem dg.look(h:dg w b L){id:List UInt8}(hid:id.length=32):∃c,(∀w':World,w'.heap[b]?=w.heap[b]?->(Instr.lookup 145 (.map (some b)) (.agg (ae id)) true).run Tryz.prog w'=.ok (.tuple #[.int .i64 c,.bool (L.findIdx? (· == id)).isSome]) w')/\∀i,L.findIdx? (· == id)=some i->c=(i:Int):=by
 obtain⟨D,⟨es,clock,g1,g2⟩,_,_,hD⟩:=h;obtain⟨kl,hkl⟩:=qy id hid;obtain⟨h1,h2⟩:=hD id kl hkl
 have gen:∀w':World,w'.heap[b]?=w.heap[b]?->∃c,(Instr.lookup 145 (.map (some b)) (.agg (ae id)) true).run Tryz.prog w'=.ok (.tuple #[.int .i64 c,.bool (L.findIdx? (· == id)).isSome]) w'/\D.atKey kl (.lit (.int .i64 0))=.lit (.int .i64 c):=fun w' hb=>by
  have hown:w'.ownsMap Tryz.prog 28 (plainElem Tryz.prog 3) b L.length D:=⟨es,clock,hb.trans g1,g2⟩;obtain⟨v,ps,hrun,hv⟩:=hown.look_ok jA Tryz.underlying145 (uN w') (plainElem_int Tryz.underlying3 (by decide)) hkl;obtain⟨c,rfl,hc,_⟩:=plainElem_int_inv Tryz.underlying3 hv;exact⟨c,by rw[hrun,h1],congrArg Prod.fst hc⟩
 obtain⟨c,_,hc⟩:=gen w rfl;refine⟨c,fun w' hb=>?_,fun i hi=>?_⟩;obtain⟨c',hr,hc'⟩:=gen w' hb;obtain rfl:c'=c:=(Lit.int.inj (DataW.lit.inj (hc'.symm.trans hc))).2;exact hr;rw[h2 i hi]at hc;exact((Lit.int.inj (DataW.lit.inj hc)).2).symm
theorem Jp{L:List (List UInt8)}{id x:List UInt8}(hn:L.findIdx? (· == x)=none):(L++[x]).findIdx? (· == id)=if id=x then some L.length else L.findIdx? (· == id):=by
 rw[List.findIdx?_append];by_cases e:id=x;subst e;rw[hn,if_pos rfl];simp
 ·rw[if_neg e];have:((x==id)=false):=by simpa using fun h=>e h.symm
  simp[this]
theorem dg.put(h:dg w b L){id:List UInt8}(hid:id.length=32)(hn:L.findIdx? (· == id)=none)(hL:L.length<1000)(n:Nat)(hlen:n=L.length):∃w',(Instr.mapUpdate 145 (.map (some b)) (.agg (ae id)) (.int .i64 (n:Int))).run Tryz.prog w=.ok () w'/\dg w' b (L++[id])/\w.grownBy w' (some b):=by subst hlen;obtain⟨D,hown,hM,_,hD⟩:=h;obtain⟨kl,hkl⟩:=qy id hid;have hwf:(Lit.int .i64 (L.length:Int)).wf=true:=WalkArith.wf_i64 (by omega);obtain⟨w',hrun,h1,h2⟩:=hown.update jA Tryz.underlying145 (by unfold maxLen;omega) hkl (plainElem_int Tryz.underlying3 hwf);refine⟨w',hrun,⟨_,by simpa using h1,hM.put _ _,by simp;omega,fun x kx hx=>?_⟩,h2⟩;rw[Jp hn];have hk:=jA.key hkl;by_cases e:x=id;subst e;obtain rfl:kl=kx:=Option.some.inj (hkl.symm.trans hx);rw[if_pos rfl];exact⟨has_put_same hM hk _,fun i hi=>by cases hi;exact atKey_put_same hM hk _ _⟩;rw[if_neg e];have hne:=AL hx hkl e;rw[has_put_other hne,atKey_put_other hne];exact hD x kx hx
end
