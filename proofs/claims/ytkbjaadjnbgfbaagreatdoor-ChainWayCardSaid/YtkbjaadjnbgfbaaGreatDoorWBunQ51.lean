import Derived.Test.YtkbjaadjnbgfbaaGreatDoorWRlOpen
import Derived.Test.YtkbjaadjnbgfbaaGreatDoorWBunQ40
set_option maxRecDepth 100000
set_option maxHeartbeats 4000000
namespace Go.Proofs.YtkbjaadjnbgfbaaGreatDoor.An
open Go.ChangeShapes Go.WideShapes Go.RowKit Go.Deep Mem Sc
instance instInhCm:Inhabited Cm:=⟨cmZ⟩
theorem cellsNumA:Tryz.prog.cellsOf 26=4:=by kernel_rfl
theorem cellsU64A:Tryz.prog.cellsOf 24=1:=by kernel_rfl
section
variable {H:Type} {enc:TypeId × Value->H} {W:World} {base:Nat} {sp:Nat->Bool} {held:Bool} {fuel:Nat} {cs:List Value}
theorem qfk_ {x:DataW H × List MemPlace} (hf:DataW.trod enc Tryz.prog W base sp held fuel 26 cs=some x) (hcs:cs.length=4):∀ v ∈ cs,v.oneCell'=true:=by
 obtain ⟨xs,m,_,hx,_,hl,hel⟩:=DataW.trod_array Tryz.underlying26 hf;intro v hv;obtain ⟨i,hi,rfl⟩:=List.mem_iff_getElem.1 hv;have hE:=hel i (by omega);rw[cellsU64A,Nat.mul_one,List.getElem?_eq_getElem (by omega)] at hE;obtain ⟨z,e1,e2,e3⟩:=DataW.trod_int Tryz.underlying24 hE;have h0:((cs.drop i).take 1)[0]?=some (.int .u64 z):=by rw[e1];rfl
 have h1:cs[i]?=some (.int .u64 z):=by simpa using h0
 rw[List.getElem?_eq_getElem hi] at h1;rw[Option.some.inj h1];rfl
variable {d:DataW H}
theorem qacj_ {p:List MemPlace} (hf:DataW.trod enc Tryz.prog W 0 (fun _=>true) true fuel 32 cs=some (d,p)):∀ v ∈ (cs.drop 7).take 8,v.oneCell'=true:=by
 obtain ⟨xs,m,_,_,hl,hxl,hel⟩:=DataW.trod_struct Tryz.underlying32 hf;rw[cellsPrR] at hl;have hx10:xs.length=10:=hxl;have f7:DataW.trod enc Tryz.prog W 0 (fun _=>true) true m 26 ((cs.drop 7).take (Tryz.prog.cellsOf 26))=xs[7]?:=hel 7 _ rfl;have f8:DataW.trod enc Tryz.prog W 0 (fun _=>true) true m 26 ((cs.drop 11).take (Tryz.prog.cellsOf 26))=xs[8]?:=hel 8 _ rfl;rw[cellsNumA,List.getElem?_eq_getElem (by omega)] at f7 f8;have g7:=qfk_ f7 (by simp;omega);have g8:=qfk_ f8 (by simp;omega);intro v hv
 have e:(cs.drop 7).take 8=(cs.drop 7).take 4 ++ (cs.drop 11).take 4:=by
  rw[show cs.drop 11=(cs.drop 7).drop 4 by rw[List.drop_drop],show (8:Nat)=4+4 from rfl,List.take_add]
 rw[e] at hv;exact (List.mem_append.1 hv).elim (g7 v) (g8 v)
theorem qsb_ {r:Reach} {b0:Nat} {v:Value} {ps:List MemPlace} (hv:Value.okWide Tryz.prog W r b0 32 v) (hd:DataW.Trod enc Tryz.prog W 0 (fun _=>true) true 32 v d ps) :
  ∃ (p:NN.Pr) (t:Tl) (gs:List Gt) (ks:List Ck),v = .agg (NN.prA p)/\p.ok/\p.tl=t.C/\t.ok/\t.gn=gs.length/\t.cn=ks.length/\GatesAt W t.ga gs/\ChecksAt W t.ca ks/\p.one:=by
 obtain ⟨p,t,gs,ks,rfl,h1,h2,h3,h4,h5,h6,h7⟩:=qxm_ hv hd;refine ⟨p,t,gs,ks,rfl,h1,h2,h3,h4,h5,h6,h7,?_⟩;obtain ⟨fuel,hf⟩:=hd;have hf':DataW.trod enc Tryz.prog W 0 (fun _=>true) true fuel 32 (NN.prC p)=some (d,ps):=hf;have ho:=qacj_ hf';intro v hv;rw[h2] at hv;unfold Tl.C at hv;simp only[List.mem_cons,List.mem_append] at hv;rcases hv with rfl|rfl|hv|hv
 rfl;rfl
 ·refine ho v ?_
  have e:(NN.prC p).drop 7=t.nn ++ hdC t.g:=by
   have:NN.prC p = .int .i64 p.lim :: .int .i64 p.ivl :: .int .i64 p.spc :: .int .i64 p.fut :: .bool p.easy :: t.C:=by unfold NN.prC;rw[h2]
   rw[this];rfl
  rw[e,List.take_append_of_le_length (by rw[h3.1];exact Nat.le_refl _),<-h3.1,List.take_length];exact hv
 exact qhu_ _ v hv
end
section
variable {H:Type} {enc:TypeId × Value->H} {W:World}
end
instance instInhAc:Inhabited Ac:=⟨acZ⟩
theorem cellsAc:Tryz.prog.cellsOf 39=72:=by kernel_rfl
theorem cellsBl:Tryz.prog.cellsOf 4=1:=by kernel_rfl
theorem bytesAc:Tryz.prog.bytesOf 39=128:=by kernel_rfl
section
variable {H:Type} {enc:TypeId × Value->H} {W:World} {base:Nat} {sp:Nat->Bool} {held:Bool} {fuel:Nat} {cs:List Value}
theorem qack_ {x:DataW H × List MemPlace} (hf:DataW.trod enc Tryz.prog W base sp held fuel 39 cs=some x):∃ c:Ac,c.h.ok/\(-9223372036854775808<=c.now/\c.now<=9223372036854775807)/\cs=acC c:=by
 obtain ⟨xs,m,_,rfl,hl,hxl,hel⟩:=DataW.trod_struct Tryz.underlying39 hf;rw[cellsAc] at hl;have hx4:xs.length=5:=hxl;have f0:DataW.trod enc Tryz.prog W base sp held m 3 ((cs.drop 0).take (Tryz.prog.cellsOf 3))=xs[0]?:=hel 0 _ rfl;have f1:DataW.trod enc Tryz.prog W base sp held m 30 ((cs.drop 1).take (Tryz.prog.cellsOf 30))=xs[1]?:=hel 1 _ rfl;have f2:DataW.trod enc Tryz.prog W base sp held m 3 ((cs.drop 69).take (Tryz.prog.cellsOf 3))=xs[2]?:=hel 2 _ rfl;have f3:DataW.trod enc Tryz.prog W base sp held m 3 ((cs.drop 70).take (Tryz.prog.cellsOf 3))=xs[3]?:=hel 3 _ rfl;have f4:DataW.trod enc Tryz.prog W base sp held m 4 ((cs.drop 71).take (Tryz.prog.cellsOf 4))=xs[4]?:=hel 4 _ rfl;simp only[cellsInt,cellsHd,cellsBl] at f0 f1 f2 f3 f4;rw[List.getElem?_eq_getElem (by omega)] at f0 f1 f2 f3 f4;obtain ⟨k,e0,_,_⟩:=DataW.trod_int Tryz.underlying3 f0;obtain ⟨h,hfit,e1⟩:=qhi_ f1;obtain ⟨v,e2,_,w2⟩:=DataW.trod_int Tryz.underlying3 f2;obtain ⟨q,e3,_,_⟩:=DataW.trod_int Tryz.underlying3 f3;obtain ⟨g,e4,_⟩:=DataW.trod_bool Tryz.underlying4 f4;have b2:=bounds_i64 w2;refine ⟨⟨k,h,v,q,g⟩,hfit.1,⟨by simp only;omega,by simp only;omega⟩,?_⟩;have c0:=qaq_ cs 0 1;have c1:=qaq_ cs 1 68;have c2:=qaq_ cs 69 1;have c3:=qaq_ cs 70 1;have c4:=qaq_ cs 71 1;have c5:cs.drop 72=[]:=List.drop_eq_nil_of_le (by omega);rw[e4,c5] at c4;rw[e3,c4] at c3;rw[e2,c3] at c2;rw[e1,c2] at c1;rw[e0,c1,List.drop_zero] at c0;rw[c0];rfl
end
section
variable {H:Type} {enc:TypeId × Value->H} {W:World}
theorem qacl_ {r:Reach} {b0:Nat} {v:Value} {d:DataW H} {p:List MemPlace} (hv:Value.okWide Tryz.prog W r b0 33 v) (hd:DataW.Trod enc Tryz.prog W 0 (fun _=>true) true 33 v d p)
  (hw:∀ n ∈ d.weights Tryz.prog 33,n<=reachBytes) :
  ∃ (a:Option Addr) (hs:List Ac) (n c:Nat),v = .slice a n c/\n=hs.length/\n<=4611686018427387904/\(∀x ∈ hs,-9223372036854775808<=x.now/\x.now<=9223372036854775807)/\ActsAt W a hs:=by
 obtain ⟨a0,len,cap,rfl⟩:=okWide_slice Tryz.underlying33 hv;obtain ⟨fuel,hf⟩:=hd;have h47:=reachBytes_lt;rcases open_slice Tryz.underlying33 hf with ⟨hcs,hx⟩|⟨a,len',cap',m,q,D,Pl,hcs,_,hl,_,hm,hx,hel⟩
 simp[Value.cells] at hcs;obtain ⟨rfl,rfl,rfl⟩:=hcs;exact ⟨none,[],0,0,rfl,rfl,by omega,fun s h=>by simp at h,fun h=>absurd h (by simp)⟩
 ·simp[Value.cells] at hcs;obtain ⟨rfl,rfl,rfl⟩:=hcs;simp only[if_true] at hm;subst hm;simp only[Prod.mk.injEq] at hx;obtain ⟨rfl,rfl⟩:=hx
  have h1:=hw _ (by
   simp only[DataW.weights,Tryz.underlying33,List.mem_cons];exact .inl rfl)
  rw[bytesAc] at h1;simp only[List.length_map,List.length_range] at h1;rw[cellsAc] at hel
  obtain ⟨f,hfn⟩:=choose_lt (n:=len) (α:=Ac) (p:=fun i h=>h.h.ok/\(-9223372036854775808<=h.now/\h.now<=9223372036854775807)/\W.cells? 0 (a.add (i*72)) 72=some (acC h)) (fun i hi=>by
   obtain ⟨cs',h2,h3⟩:=hel i (by omega);obtain ⟨h,hfit,hb,rfl⟩:=qack_ h3;exact ⟨h,hfit,hb,h2⟩)
  refine ⟨some a,(List.range len).map f,len,_,rfl,by simp,by omega,fun y hy=>?_,fun h0=>?_⟩;obtain ⟨i,hi,rfl⟩:=List.mem_map.1 hy;exact (hfn i (List.mem_range.1 hi)).2.1
  ·have hlen:0<len:=by simpa using h0
   obtain ⟨b,off,spot⟩:=a;have hspot:spot=none:=by simpa [Addr.add] using qds_ (hfn 0 hlen).2.2 (by decide)
   subst hspot;refine ⟨b,off,rfl,block_lt_of_cell (qbl_ (hfn 0 hlen).2.2 0 _ (List.getElem?_eq_getElem (qaea_ _))),fun i hi=>?_⟩;have hi':i<len:=by simpa using hi
   rw[List.getElem_map,List.getElem_range];exact ⟨(hfn i hi').1,qbl_ (by have:=(hfn i hi').2.2;rw[add_plain] at this;exact this)⟩
end
end Go.Proofs.YtkbjaadjnbgfbaaGreatDoor.An
namespace Go.Proofs.YtkbjaadjnbgfbaaGreatDoor.An
open Go.ChangeShapes Go.WideShapes Go.RowKit Mem Sc
end Go.Proofs.YtkbjaadjnbgfbaaGreatDoor.An
