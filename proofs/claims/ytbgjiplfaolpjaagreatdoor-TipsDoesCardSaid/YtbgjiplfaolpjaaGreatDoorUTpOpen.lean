import Derived.Test.YtbgjiplfaolpjaaGreatDoorUBunQ50
import Derived.Test.YtbgjiplfaolpjaaGreatDoorUBunQ43
set_option maxRecDepth 100000
set_option maxHeartbeats 4000000
namespace Go.Proofs.YtbgjiplfaolpjaaGreatDoor.An
open Go.ChangeShapes Go.WideShapes Go.RowKit Go.Deep Mem Sc
instance instInhAc:Inhabited Ac:=⟨acZ⟩
theorem cellsAc:Tryz.prog.cellsOf 46=71:=by kernel_rfl
theorem bytesAc:Tryz.prog.bytesOf 46=120:=by kernel_rfl
section
variable {H:Type} {enc:TypeId × Value->H} {W:World} {base:Nat} {sp:Nat->Bool} {held:Bool} {fuel:Nat} {cs:List Value}
theorem qzr_ {x:DataW H × List MemPlace} (hf:DataW.trod enc Tryz.prog W base sp held fuel 46 cs=some x):∃ c:Ac,c.h.ok/\(-9223372036854775808<=c.now/\c.now<=9223372036854775807)/\cs=acC c:=by
 obtain ⟨xs,m,_,rfl,hl,hxl,hel⟩:=DataW.trod_struct Tryz.underlying46 hf
 rw[cellsAc] at hl
 have hx4:xs.length=4:=hxl
 have f0:DataW.trod enc Tryz.prog W base sp held m 3 ((cs.drop 0).take (Tryz.prog.cellsOf 3))=xs[0]?:=hel 0 _ rfl
 have f1:DataW.trod enc Tryz.prog W base sp held m 30 ((cs.drop 1).take (Tryz.prog.cellsOf 30))=xs[1]?:=hel 1 _ rfl
 have f2:DataW.trod enc Tryz.prog W base sp held m 3 ((cs.drop 69).take (Tryz.prog.cellsOf 3))=xs[2]?:=hel 2 _ rfl
 have f3:DataW.trod enc Tryz.prog W base sp held m 3 ((cs.drop 70).take (Tryz.prog.cellsOf 3))=xs[3]?:=hel 3 _ rfl
 simp only[cellsInt,cellsHd] at f0 f1 f2 f3
 rw[List.getElem?_eq_getElem (by omega)] at f0 f1 f2 f3
 obtain ⟨k,e0,_,_⟩:=DataW.trod_int Tryz.underlying3 f0
 obtain ⟨h,hfit,e1⟩:=qhe_ f1
 obtain ⟨v,e2,_,w2⟩:=DataW.trod_int Tryz.underlying3 f2
 obtain ⟨q,e3,_,_⟩:=DataW.trod_int Tryz.underlying3 f3
 have b2:=bounds_i64 w2
 refine ⟨⟨k,h,v,q⟩,hfit.1,⟨by simp only;omega,by simp only;omega⟩,?_⟩
 have c0:=qas_ cs 0 1
 have c1:=qas_ cs 1 68
 have c2:=qas_ cs 69 1
 have c3:=qas_ cs 70 1
 have c4:cs.drop 71=[]:=List.drop_eq_nil_of_le (by omega)
 rw[e3,c4] at c3
 rw[e2,c3] at c2
 rw[e1,c2] at c1
 rw[e0,c1,List.drop_zero] at c0
 rw[c0]
 rfl
end
section
variable {H:Type} {enc:TypeId × Value->H} {W:World}
theorem qzs_ {r:Reach} {b0:Nat} {v:Value} {d:DataW H} {p:List MemPlace} (hv:Value.okWide Tryz.prog W r b0 33 v) (hd:DataW.Trod enc Tryz.prog W 0 (fun _=>true) true 33 v d p)
  (hw:∀ n ∈ d.weights Tryz.prog 33,n<=reachBytes) :
  ∃ (a:Option Addr) (hs:List Ac) (n c:Nat),v = .slice a n c/\n=hs.length/\n<=4611686018427387904/\(∀x ∈ hs,-9223372036854775808<=x.now/\x.now<=9223372036854775807)/\ActsAt W a hs:=by
 obtain ⟨a0,len,cap,rfl⟩:=okWide_slice Tryz.underlying33 hv
 obtain ⟨fuel,hf⟩:=hd
 have h47:=reachBytes_lt
 rcases open_slice Tryz.underlying33 hf with ⟨hcs,hx⟩|⟨a,len',cap',m,q,D,Pl,hcs,_,hl,_,hm,hx,hel⟩
 ·simp[Value.cells] at hcs
  obtain ⟨rfl,rfl,rfl⟩:=hcs
  exact ⟨none,[],0,0,rfl,rfl,by omega,fun s h=>by simp at h,fun h=>absurd h (by simp)⟩
 ·simp[Value.cells] at hcs
  obtain ⟨rfl,rfl,rfl⟩:=hcs
  simp only[if_true] at hm
  subst hm
  simp only[Prod.mk.injEq] at hx
  obtain ⟨rfl,rfl⟩:=hx
  have h1:=hw _ (by
   simp only[DataW.weights,Tryz.underlying33,List.mem_cons]
   exact .inl rfl)
  rw[bytesAc] at h1
  simp only[List.length_map,List.length_range] at h1
  rw[cellsAc] at hel
  obtain ⟨f,hfn⟩:=choose_lt (n:=len) (α:=Ac) (p:=fun i h=>h.h.ok/\(-9223372036854775808<=h.now/\h.now<=9223372036854775807)/\W.cells? 0 (a.add (i*71)) 71=some (acC h)) (fun i hi=>by
   obtain ⟨cs',h2,h3⟩:=hel i (by omega)
   obtain ⟨h,hfit,hb,rfl⟩:=qzr_ h3
   exact ⟨h,hfit,hb,h2⟩)
  refine ⟨some a,(List.range len).map f,len,_,rfl,by simp,by omega,fun y hy=>?_,fun h0=>?_⟩
  ·obtain ⟨i,hi,rfl⟩:=List.mem_map.1 hy
   exact (hfn i (List.mem_range.1 hi)).2.1
  ·have hlen:0<len:=by simpa using h0
   obtain ⟨b,off,spot⟩:=a
   have hspot:spot=none:=by simpa [Addr.add] using qdp_ (hfn 0 hlen).2.2 (by decide)
   subst hspot
   refine ⟨b,off,rfl,block_lt_of_cell (qbi_ (hfn 0 hlen).2.2 0 _ (List.getElem?_eq_getElem (qabb_ _))),fun i hi=>?_⟩
   have hi':i<len:=by simpa using hi
   rw[List.getElem_map,List.getElem_range]
   exact ⟨(hfn i hi').1,qbi_ (by have:=(hfn i hi').2.2;rw[add_plain] at this;exact this)⟩
end
end Go.Proofs.YtbgjiplfaolpjaaGreatDoor.An
