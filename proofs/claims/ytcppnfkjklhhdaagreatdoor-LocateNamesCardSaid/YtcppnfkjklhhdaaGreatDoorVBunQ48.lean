import Derived.Test.YtcppnfkjklhhdaaGreatDoorVBunQ45
import Derived.Test.YtcppnfkjklhhdaaGreatDoorVHdList
import Derived.Test.YtcppnfkjklhhdaaGreatDoorVBunQ31
import Derived.Test.YtcppnfkjklhhdaaGreatDoorVBunQ35
import Derived.Test.YtcppnfkjklhhdaaGreatDoorVBunQ38
import Derived.ProofKit
import Derived.OpenShut
set_option maxRecDepth 100000
set_option maxHeartbeats 4000000
namespace Go.Proofs.YtcppnfkjklhhdaaGreatDoor
open Go.ChangeShapes Go.WideShapes Go.RowKit Go.Deep Mem Sc
instance instInhGt:Inhabited Gt:=⟨gtZ⟩
instance instInhCk:Inhabited Ck:=⟨ckZ⟩
theorem cellsGt:Tryz.prog.cellsOf 86=2:=by kernel_rfl
theorem cellsCk:Tryz.prog.cellsOf 88=33:=by kernel_rfl
theorem cellsGts:Tryz.prog.cellsOf 22=1:=by kernel_rfl
theorem cellsCks:Tryz.prog.cellsOf 23=1:=by kernel_rfl
theorem cellsBoolR:Tryz.prog.cellsOf 4=1:=by kernel_rfl
theorem cellsPrR:Tryz.prog.cellsOf 32=83:=by kernel_rfl
section
variable {H:Type} {enc:TypeId × Value->H} {W:World} {fuel:Nat} {cs:List Value}
theorem qvj_ {base:Nat} {sp:Nat->Bool} {held:Bool} {x:DataW H × List MemPlace} (hf:DataW.trod enc Tryz.prog W base sp held fuel 86 cs=some x):∃ g:Gt,cs=gtC g:=by
 obtain ⟨xs,m,_,rfl,hl,hxl,hel⟩:=DataW.trod_struct Tryz.underlying86 hf
 rw[cellsGt] at hl
 have hx2:xs.length=2:=hxl
 have f0:DataW.trod enc Tryz.prog W base sp held m 3 ((cs.drop 0).take (Tryz.prog.cellsOf 3))=xs[0]?:=hel 0 _ rfl
 have f1:DataW.trod enc Tryz.prog W base sp held m 3 ((cs.drop 1).take (Tryz.prog.cellsOf 3))=xs[1]?:=hel 1 _ rfl
 simp only[cellsInt] at f0 f1
 rw[List.getElem?_eq_getElem (by omega)] at f0 f1
 obtain ⟨a,e0,_,_⟩:=DataW.trod_int Tryz.underlying3 f0
 obtain ⟨b,e1,_,_⟩:=DataW.trod_int Tryz.underlying3 f1
 refine ⟨⟨a,b⟩,?_⟩
 have c0:=qay_ cs 0 1
 have c1:=qay_ cs 1 1
 have c2:cs.drop 2=[]:=List.drop_eq_nil_of_le (by omega)
 rw[e1,c2] at c1
 rw[e0,c1,List.drop_zero] at c0
 exact c0
theorem qqx_ {base:Nat} {sp:Nat->Bool} {held:Bool} {x:DataW H × List MemPlace} (hf:DataW.trod enc Tryz.prog W base sp held fuel 88 cs=some x):∃ c:Ck,c.id.length=32/\cs=ckC c:=by
 obtain ⟨xs,m,_,rfl,hl,hxl,hel⟩:=DataW.trod_struct Tryz.underlying88 hf
 rw[cellsCk] at hl
 have hx2:xs.length=2:=hxl
 have f0:DataW.trod enc Tryz.prog W base sp held m 3 ((cs.drop 0).take (Tryz.prog.cellsOf 3))=xs[0]?:=hel 0 _ rfl
 have f1:DataW.trod enc Tryz.prog W base sp held m 28 ((cs.drop 1).take (Tryz.prog.cellsOf 28))=xs[1]?:=hel 1 _ rfl
 simp only[cellsInt,cellsHash] at f0 f1
 rw[List.getElem?_eq_getElem (by omega)] at f0 f1
 obtain ⟨a,e0,_,_⟩:=DataW.trod_int Tryz.underlying3 f0
 obtain ⟨l,hl32,e1⟩:=qdr_ f1 (by simp;omega)
 refine ⟨⟨a,l⟩,hl32,?_⟩
 have c0:=qay_ cs 0 1
 have c1:=qay_ cs 1 32
 have c2:cs.drop 33=[]:=List.drop_eq_nil_of_le (by omega)
 rw[e1,c2,List.append_nil] at c1
 rw[e0,c1,List.drop_zero] at c0
 exact c0
theorem qqy_ {d:DataW H} {p:List MemPlace} (hf:DataW.trod enc Tryz.prog W 0 (fun _=>true) true fuel 22 cs=some (d,p)) :
  ∃ (a:Option Addr) (ls:List Gt) (n c:Nat),cs=[.slice a n c]/\n=ls.length/\GatesAt W a ls:=by
 rcases open_slice Tryz.underlying22 hf with ⟨hcs,hx⟩|⟨a,len',cap',m,q,D,Pl,hcs,_,hl,_,hm,hx,hel⟩
 ·exact ⟨none,[],0,0,hcs,rfl,fun h=>absurd h (by simp)⟩
 ·simp only[if_true] at hm
  subst hm
  simp only[Prod.mk.injEq] at hx
  obtain ⟨rfl,rfl⟩:=hx
  rw[cellsGt] at hel
  obtain ⟨f,hfn⟩:=choose_lt (n:=len') (α:=Gt) (p:=fun i g=>W.cells? 0 (a.add (i*2)) 2=some (gtC g)) (fun i hi=>by
   obtain ⟨cs',h2,h3⟩:=hel i (by omega)
   obtain ⟨g,rfl⟩:=qvj_ h3
   exact ⟨g,h2⟩)
  refine ⟨some a,(List.range len').map f,len',_,hcs,by simp,fun h0=>?_⟩
  have hlen:0<len':=by simpa using h0
  obtain ⟨b,off,spot⟩:=a
  have hspot:spot=none:=by simpa [Addr.add] using qcn_ (hfn 0 hlen) (by decide)
  subst hspot
  refine ⟨b,off,rfl,block_lt_of_cell (qax_ (hfn 0 hlen) 0 _ (List.getElem?_eq_getElem (qaaj_ _))),fun i hi=>?_⟩
  have hi':i<len':=by simpa using hi
  rw[List.getElem_map,List.getElem_range]
  exact qax_ (by have:=(hfn i hi');rw[add_plain] at this;exact this)
theorem qmz_ {d:DataW H} {p:List MemPlace} (hf:DataW.trod enc Tryz.prog W 0 (fun _=>true) true fuel 23 cs=some (d,p)) :
  ∃ (a:Option Addr) (ls:List Ck) (n c:Nat),cs=[.slice a n c]/\n=ls.length/\ChecksAt W a ls:=by
 rcases open_slice Tryz.underlying23 hf with ⟨hcs,hx⟩|⟨a,len',cap',m,q,D,Pl,hcs,_,hl,_,hm,hx,hel⟩
 ·exact ⟨none,[],0,0,hcs,rfl,fun h=>absurd h (by simp)⟩
 ·simp only[if_true] at hm
  subst hm
  simp only[Prod.mk.injEq] at hx
  obtain ⟨rfl,rfl⟩:=hx
  rw[cellsCk] at hel
  obtain ⟨f,hfn⟩:=choose_lt (n:=len') (α:=Ck) (p:=fun i g=>g.id.length=32/\W.cells? 0 (a.add (i*33)) 33=some (ckC g)) (fun i hi=>by
   obtain ⟨cs',h2,h3⟩:=hel i (by omega)
   obtain ⟨g,hg,rfl⟩:=qqx_ h3
   exact ⟨g,⟨hg,h2⟩⟩)
  refine ⟨some a,(List.range len').map f,len',_,hcs,by simp,fun h0=>?_⟩
  have hlen:0<len':=by simpa using h0
  obtain ⟨b,off,spot⟩:=a
  have hspot:spot=none:=by simpa [Addr.add] using qcn_ (hfn 0 hlen).2 (by decide)
  subst hspot
  refine ⟨b,off,rfl,block_lt_of_cell (qax_ (hfn 0 hlen).2 0 _ (List.getElem?_eq_getElem (qaak_ _))),fun i hi=>?_⟩
  have hi':i<len':=by simpa using hi
  rw[List.getElem_map,List.getElem_range]
  exact ⟨(hfn i hi').1,qax_ (by have:=(hfn i hi').2;rw[add_plain] at this;exact this)⟩
theorem qqz_ {d:DataW H} {p:List MemPlace} (hf:DataW.trod enc Tryz.prog W 0 (fun _=>true) true fuel 32 cs=some (d,p)) :
  ∃ (p:NN.Pr) (t:Tl) (gs:List Gt) (ks:List Ck),cs=NN.prC p/\p.ok/\p.tl=t.C/\t.ok/\t.gn=gs.length/\t.cn=ks.length/\GatesAt W t.ga gs/\ChecksAt W t.ca ks:=by
 obtain ⟨xs,m,_,_,hl,hxl,hel⟩:=DataW.trod_struct Tryz.underlying32 hf
 rw[cellsPrR] at hl
 have hx10:xs.length=10:=hxl
 have f0:DataW.trod enc Tryz.prog W 0 (fun _=>true) true m 3 ((cs.drop 0).take (Tryz.prog.cellsOf 3))=xs[0]?:=hel 0 _ rfl
 have f1:DataW.trod enc Tryz.prog W 0 (fun _=>true) true m 3 ((cs.drop 1).take (Tryz.prog.cellsOf 3))=xs[1]?:=hel 1 _ rfl
 have f2:DataW.trod enc Tryz.prog W 0 (fun _=>true) true m 3 ((cs.drop 2).take (Tryz.prog.cellsOf 3))=xs[2]?:=hel 2 _ rfl
 have f3:DataW.trod enc Tryz.prog W 0 (fun _=>true) true m 3 ((cs.drop 3).take (Tryz.prog.cellsOf 3))=xs[3]?:=hel 3 _ rfl
 have f4:DataW.trod enc Tryz.prog W 0 (fun _=>true) true m 4 ((cs.drop 4).take (Tryz.prog.cellsOf 4))=xs[4]?:=hel 4 _ rfl
 have f5:DataW.trod enc Tryz.prog W 0 (fun _=>true) true m 22 ((cs.drop 5).take (Tryz.prog.cellsOf 22))=xs[5]?:=hel 5 _ rfl
 have f6:DataW.trod enc Tryz.prog W 0 (fun _=>true) true m 23 ((cs.drop 6).take (Tryz.prog.cellsOf 23))=xs[6]?:=hel 6 _ rfl
 have f9:DataW.trod enc Tryz.prog W 0 (fun _=>true) true m 30 ((cs.drop 15).take (Tryz.prog.cellsOf 30))=xs[9]?:=hel 9 _ rfl
 simp only[cellsInt,cellsBoolR,cellsGts,cellsCks,cellsHd] at f0 f1 f2 f3 f4 f5 f6 f9
 rw[List.getElem?_eq_getElem (by omega)] at f0 f1 f2 f3 f4 f5 f6 f9
 obtain ⟨a,e0,_,_⟩:=DataW.trod_int Tryz.underlying3 f0
 obtain ⟨b,e1,_,_⟩:=DataW.trod_int Tryz.underlying3 f1
 obtain ⟨c,e2,_,_⟩:=DataW.trod_int Tryz.underlying3 f2
 obtain ⟨e,e3,_,_⟩:=DataW.trod_int Tryz.underlying3 f3
 obtain ⟨g,e4,_⟩:=DataW.trod_bool Tryz.underlying4 f4
 obtain ⟨ga,gs,gn,gc,e5,hg1,hg2⟩:=qqy_ (d:=(xs[5]'(by omega)).1) (p:=(xs[5]'(by omega)).2) f5
 obtain ⟨ca,ks,cn,cc,e6,hk1,hk2⟩:=qmz_ (d:=(xs[6]'(by omega)).1) (p:=(xs[6]'(by omega)).2) f6
 obtain ⟨h,hfit,e9⟩:=qhn_ f9
 have hnn:((cs.drop 7).take 8).length=8:=by simp;omega
 have htl:cs.drop 5=Tl.C ⟨ga,gn,gc,ca,cn,cc,(cs.drop 7).take 8,h⟩:=by
  have c5:=qay_ cs 5 1
  have c6:=qay_ cs 6 1
  have c7:=qay_ cs 7 8
  have c9:=qay_ cs 15 68
  have c10:cs.drop 83=[]:=List.drop_eq_nil_of_le (by omega)
  rw[e9,c10,List.append_nil] at c9
  rw[c9] at c7
  rw[e6,c7] at c6
  rw[e5,c6] at c5
  exact c5
 refine ⟨⟨a,b,c,e,g,cs.drop 5⟩,⟨ga,gn,gc,ca,cn,cc,(cs.drop 7).take 8,h⟩,gs,ks,?_,by show (cs.drop 5).length=78;rw[List.length_drop];omega,htl,⟨hnn,hfit.1⟩,hg1,hk1,hg2,hk2⟩
 have c0:=qay_ cs 0 1
 have c1:=qay_ cs 1 1
 have c2:=qay_ cs 2 1
 have c3:=qay_ cs 3 1
 have c4:=qay_ cs 4 1
 rw[e4] at c4
 rw[e3,c4] at c3
 rw[e2,c3] at c2
 rw[e1,c2] at c1
 rw[e0,c1,List.drop_zero] at c0
 exact c0
theorem qvk_ {r:Reach} {b0:Nat} {v:Value} {d:DataW H} {ps:List MemPlace} (hv:Value.okWide Tryz.prog W r b0 32 v) (hd:DataW.Trod enc Tryz.prog W 0 (fun _=>true) true 32 v d ps) :
  ∃ (p:NN.Pr) (t:Tl) (gs:List Gt) (ks:List Ck),v = .agg (NN.prA p)/\p.ok/\p.tl=t.C/\t.ok/\t.gn=gs.length/\t.cn=ks.length/\GatesAt W t.ga gs/\ChecksAt W t.ca ks:=by
 obtain ⟨cs,rfl,_⟩:=okWide_struct Tryz.underlying32 hv
 obtain ⟨fuel,hf⟩:=hd
 obtain ⟨p,t,gs,ks,e,h⟩:=qqz_ hf
 refine ⟨p,t,gs,ks,?_,h⟩
 congr 1
 exact Array.toList_inj.1 e
end
end Go.Proofs.YtcppnfkjklhhdaaGreatDoor

namespace Go.Proofs.YtcppnfkjklhhdaaGreatDoor.An
open Go.ChangeShapes Go.WideShapes Go.RowKit Go.Deep Mem Sc
instance instInhCm:Inhabited Cm:=⟨cmZ⟩
theorem cellsCm:Tryz.prog.cellsOf 64=69:=by kernel_rfl
theorem bytesCm:Tryz.prog.bytesOf 64=104:=by kernel_rfl
theorem cellsNumA:Tryz.prog.cellsOf 26=4:=by kernel_rfl
theorem cellsU64A:Tryz.prog.cellsOf 24=1:=by kernel_rfl
section
variable {H:Type} {enc:TypeId × Value->H} {W:World} {base:Nat} {sp:Nat->Bool} {held:Bool} {fuel:Nat} {cs:List Value}
theorem qfs_ {x:DataW H × List MemPlace} (hf:DataW.trod enc Tryz.prog W base sp held fuel 26 cs=some x) (hcs:cs.length=4):∀ v ∈ cs,v.oneCell'=true:=by
 obtain ⟨xs,m,_,hx,_,hl,hel⟩:=DataW.trod_array Tryz.underlying26 hf
 intro v hv
 obtain ⟨i,hi,rfl⟩:=List.mem_iff_getElem.1 hv
 have hE:=hel i (by omega)
 rw[cellsU64A,Nat.mul_one,List.getElem?_eq_getElem (by omega)] at hE
 obtain ⟨z,e1,e2,e3⟩:=DataW.trod_int Tryz.underlying24 hE
 have h0:((cs.drop i).take 1)[0]?=some (.int .u64 z):=by rw[e1];rfl
 have h1:cs[i]?=some (.int .u64 z):=by simpa using h0
 rw[List.getElem?_eq_getElem hi] at h1
 rw[Option.some.inj h1]
 rfl
theorem qzl_ {d:DataW H} {p:List MemPlace} (hf:DataW.trod enc Tryz.prog W 0 (fun _=>true) true fuel 32 cs=some (d,p)):∀ v ∈ (cs.drop 7).take 8,v.oneCell'=true:=by
 obtain ⟨xs,m,_,_,hl,hxl,hel⟩:=DataW.trod_struct Tryz.underlying32 hf
 rw[cellsPrR] at hl
 have hx10:xs.length=10:=hxl
 have f7:DataW.trod enc Tryz.prog W 0 (fun _=>true) true m 26 ((cs.drop 7).take (Tryz.prog.cellsOf 26))=xs[7]?:=hel 7 _ rfl
 have f8:DataW.trod enc Tryz.prog W 0 (fun _=>true) true m 26 ((cs.drop 11).take (Tryz.prog.cellsOf 26))=xs[8]?:=hel 8 _ rfl
 rw[cellsNumA,List.getElem?_eq_getElem (by omega)] at f7 f8
 have g7:=qfs_ f7 (by simp;omega)
 have g8:=qfs_ f8 (by simp;omega)
 intro v hv
 have e:(cs.drop 7).take 8=(cs.drop 7).take 4 ++ (cs.drop 11).take 4:=by
  rw[show cs.drop 11=(cs.drop 7).drop 4 by rw[List.drop_drop],show (8:Nat)=4+4 from rfl,List.take_add]
 rw[e] at hv
 exact (List.mem_append.1 hv).elim (g7 v) (g8 v)
theorem qii_ {r:Reach} {b0:Nat} {v:Value} {d:DataW H} {ps:List MemPlace} (hv:Value.okWide Tryz.prog W r b0 32 v) (hd:DataW.Trod enc Tryz.prog W 0 (fun _=>true) true 32 v d ps) :
  ∃ (p:NN.Pr) (t:Tl) (gs:List Gt) (ks:List Ck),v = .agg (NN.prA p)/\p.ok/\p.tl=t.C/\t.ok/\t.gn=gs.length/\t.cn=ks.length/\GatesAt W t.ga gs/\ChecksAt W t.ca ks/\p.one:=by
 obtain ⟨p,t,gs,ks,rfl,h1,h2,h3,h4,h5,h6,h7⟩:=qvk_ hv hd
 refine ⟨p,t,gs,ks,rfl,h1,h2,h3,h4,h5,h6,h7,?_⟩
 obtain ⟨fuel,hf⟩:=hd
 have hf':DataW.trod enc Tryz.prog W 0 (fun _=>true) true fuel 32 (NN.prC p)=some (d,ps):=hf
 have ho:=qzl_ hf'
 intro v hv
 rw[h2] at hv
 unfold Tl.C at hv
 simp only[List.mem_cons,List.mem_append] at hv
 rcases hv with rfl|rfl|hv|hv
 ·rfl
 ·rfl
 ·refine ho v ?_
  have e:(NN.prC p).drop 7=t.nn ++ hdC t.g:=by
   have:NN.prC p = .int .i64 p.lim :: .int .i64 p.ivl :: .int .i64 p.spc :: .int .i64 p.fut :: .bool p.easy :: t.C:=by unfold NN.prC;rw[h2]
   rw[this]
   rfl
  rw[e,List.take_append_of_le_length (by rw[h3.1];exact Nat.le_refl _),<-h3.1,List.take_length]
  exact hv
 ·exact qgt_ _ v hv
theorem qvl_ {x:DataW H × List MemPlace} (hf:DataW.trod enc Tryz.prog W base sp held fuel 64 cs=some x):∃ c:Cm,c.h.ok/\(-9223372036854775808<=c.now/\c.now<=9223372036854775807)/\cs=cmC c:=by
 obtain ⟨xs,m,_,rfl,hl,hxl,hel⟩:=DataW.trod_struct Tryz.underlying64 hf
 rw[cellsCm] at hl
 have hx2:xs.length=2:=hxl
 have f0:DataW.trod enc Tryz.prog W base sp held m 30 ((cs.drop 0).take (Tryz.prog.cellsOf 30))=xs[0]?:=hel 0 _ rfl
 have f1:DataW.trod enc Tryz.prog W base sp held m 3 ((cs.drop 68).take (Tryz.prog.cellsOf 3))=xs[1]?:=hel 1 _ rfl
 simp only[cellsInt,cellsHd] at f0 f1
 rw[List.getElem?_eq_getElem (by omega)] at f0 f1
 obtain ⟨h,hfit,e0⟩:=qhn_ f0
 obtain ⟨v,e1,_,w1⟩:=DataW.trod_int Tryz.underlying3 f1
 have b1:=bounds_i64 w1
 refine ⟨⟨h,v⟩,hfit.1,⟨by simp only;omega,by simp only;omega⟩,?_⟩
 have c0:=qay_ cs 0 68
 have c1:=qay_ cs 68 1
 have c2:cs.drop 69=[]:=List.drop_eq_nil_of_le (by omega)
 rw[e1,c2] at c1
 rw[e0,c1,List.drop_zero] at c0
 rw[c0]
 rfl
end
section
variable {H:Type} {enc:TypeId × Value->H} {W:World}
theorem qld_ {r:Reach} {b0:Nat} {v:Value} {d:DataW H} {p:List MemPlace} (hv:Value.okWide Tryz.prog W r b0 33 v) (hd:DataW.Trod enc Tryz.prog W 0 (fun _=>true) true 33 v d p)
  (hw:∀ n ∈ d.weights Tryz.prog 33,n<=reachBytes) :
  ∃ (a:Option Addr) (hs:List Cm) (n c:Nat),v = .slice a n c/\n=hs.length/\n<=4611686018427387904/\(∀x ∈ hs,-9223372036854775808<=x.now/\x.now<=9223372036854775807)/\ComesAt W a hs:=by
 obtain ⟨a0,len,cap,rfl⟩:=okWide_slice Tryz.underlying33 hv
 obtain ⟨fuel,hf⟩:=hd
 have h47:=reachBytes_lt
 rcases open_slice Tryz.underlying33 hf with ⟨hcs,hx⟩|⟨a,len',cap',m,q,D,Pl,hcs,_,hl,_,hm,hx,hel⟩
 ·simp[Value.cells] at hcs
  obtain ⟨rfl,rfl,rfl⟩:=hcs
  exact ⟨none,[],0,0,rfl,rfl,by omega,fun s h=>by simp at h,fun h=>absurd h (by simp)⟩
 ·simp[Value.cells] at hcs
  obtain ⟨rfl,rfl,rfl⟩:=hcs
  simp only[if_true] at hm
  subst hm
  simp only[Prod.mk.injEq] at hx
  obtain ⟨rfl,rfl⟩:=hx
  have h1:=hw _ (by
   simp only[DataW.weights,Tryz.underlying33,List.mem_cons]
   exact .inl rfl)
  rw[bytesCm] at h1
  simp only[List.length_map,List.length_range] at h1
  rw[cellsCm] at hel
  obtain ⟨f,hfn⟩:=choose_lt (n:=len) (α:=Cm) (p:=fun i h=>h.h.ok/\(-9223372036854775808<=h.now/\h.now<=9223372036854775807)/\W.cells? 0 (a.add (i*69)) 69=some (cmC h)) (fun i hi=>by
   obtain ⟨cs',h2,h3⟩:=hel i (by omega)
   obtain ⟨h,hfit,hb,rfl⟩:=qvl_ h3
   exact ⟨h,hfit,hb,h2⟩)
  refine ⟨some a,(List.range len).map f,len,_,rfl,by simp,by omega,fun y hy=>?_,fun h0=>?_⟩
  ·obtain ⟨i,hi,rfl⟩:=List.mem_map.1 hy
   exact (hfn i (List.mem_range.1 hi)).2.1
  ·have hlen:0<len:=by simpa using h0
   obtain ⟨b,off,spot⟩:=a
   have hspot:spot=none:=by simpa [Addr.add] using qcn_ (hfn 0 hlen).2.2 (by decide)
   subst hspot
   refine ⟨b,off,rfl,block_lt_of_cell (qax_ (hfn 0 hlen).2.2 0 _ (List.getElem?_eq_getElem (qaas_ _))),fun i hi=>?_⟩
   have hi':i<len:=by simpa using hi
   rw[List.getElem_map,List.getElem_range]
   exact ⟨(hfn i hi').1,qax_ (by have:=(hfn i hi').2.2;rw[add_plain] at this;exact this)⟩
end
end Go.Proofs.YtcppnfkjklhhdaaGreatDoor.An
namespace Go.Proofs.YtcppnfkjklhhdaaGreatDoor.An
open Go.ChangeShapes Go.WideShapes Go.RowKit Mem Sc
theorem cellsHashA:Tryz.prog.cellsOf 28=32:=by kernel_rfl
theorem qzm_ {H:Type} {enc:TypeId × Value->H} {W:World} {base:Nat} {sp:Nat->Bool} {held:Bool} {r:Reach} {b0:Nat} {v:Value} {d:DataW H} {p:List MemPlace} (hv:Value.okWide Tryz.prog W r b0 28 v) (hd:DataW.Trod enc Tryz.prog W base sp held 28 v d p) :
  ∃ l:List UInt8,l.length=32/\v = .agg (bytesV l):=by
 simp only[Value.okWide,Tryz.underlying28] at hv
 obtain ⟨cs,rfl,hsz,_⟩:=hv
 obtain ⟨fuel,hf⟩:=hd
 have hl:cs.toList.length=32:=by rw[Array.length_toList,hsz,cellsHashA]
 obtain ⟨l,h1,h2⟩:=qdr_ hf hl
 refine ⟨l,h1,?_⟩
 congr 1
 exact Array.toList_inj.1 (h2.trans (qag_ l).symm)
end Go.Proofs.YtcppnfkjklhhdaaGreatDoor.An
