import Derived.Test.YtbgjiplfaolpjaaGreatDoorURlOpen
import Derived.Test.YtbgjiplfaolpjaaGreatDoorUBunQ39
set_option maxRecDepth 100000
set_option maxHeartbeats 4000000
namespace Go.Proofs.YtbgjiplfaolpjaaGreatDoor.An
open Go.ChangeShapes Go.WideShapes Go.RowKit Go.Deep Mem Sc
instance instInhCm:Inhabited Cm:=⟨cmZ⟩
theorem cellsNumA:Tryz.prog.cellsOf 26=4:=by kernel_rfl
theorem cellsU64A:Tryz.prog.cellsOf 24=1:=by kernel_rfl
section
variable {H:Type} {enc:TypeId × Value->H} {W:World} {base:Nat} {sp:Nat->Bool} {held:Bool} {fuel:Nat} {cs:List Value}
theorem qfl_ {x:DataW H × List MemPlace} (hf:DataW.trod enc Tryz.prog W base sp held fuel 26 cs=some x) (hcs:cs.length=4):∀ v ∈ cs,v.oneCell'=true:=by
 obtain ⟨xs,m,_,hx,_,hl,hel⟩:=DataW.trod_array Tryz.underlying26 hf
 intro v hv
 obtain ⟨i,hi,rfl⟩:=List.mem_iff_getElem.1 hv
 have hE:=hel i (by omega)
 rw[cellsU64A,Nat.mul_one,List.getElem?_eq_getElem (by omega)] at hE
 obtain ⟨z,e1,e2,e3⟩:=DataW.trod_int Tryz.underlying24 hE
 have h0:((cs.drop i).take 1)[0]?=some (.int .u64 z):=by rw[e1];rfl
 have h1:cs[i]?=some (.int .u64 z):=by simpa using h0
 rw[List.getElem?_eq_getElem hi] at h1
 rw[Option.some.inj h1]
 rfl
theorem qzq_ {d:DataW H} {p:List MemPlace} (hf:DataW.trod enc Tryz.prog W 0 (fun _=>true) true fuel 32 cs=some (d,p)):∀ v ∈ (cs.drop 7).take 8,v.oneCell'=true:=by
 obtain ⟨xs,m,_,_,hl,hxl,hel⟩:=DataW.trod_struct Tryz.underlying32 hf
 rw[cellsPrR] at hl
 have hx10:xs.length=10:=hxl
 have f7:DataW.trod enc Tryz.prog W 0 (fun _=>true) true m 26 ((cs.drop 7).take (Tryz.prog.cellsOf 26))=xs[7]?:=hel 7 _ rfl
 have f8:DataW.trod enc Tryz.prog W 0 (fun _=>true) true m 26 ((cs.drop 11).take (Tryz.prog.cellsOf 26))=xs[8]?:=hel 8 _ rfl
 rw[cellsNumA,List.getElem?_eq_getElem (by omega)] at f7 f8
 have g7:=qfl_ f7 (by simp;omega)
 have g8:=qfl_ f8 (by simp;omega)
 intro v hv
 have e:(cs.drop 7).take 8=(cs.drop 7).take 4 ++ (cs.drop 11).take 4:=by
  rw[show cs.drop 11=(cs.drop 7).drop 4 by rw[List.drop_drop],show (8:Nat)=4+4 from rfl,List.take_add]
 rw[e] at hv
 exact (List.mem_append.1 hv).elim (g7 v) (g8 v)
theorem qqo_ {r:Reach} {b0:Nat} {v:Value} {d:DataW H} {ps:List MemPlace} (hv:Value.okWide Tryz.prog W r b0 32 v) (hd:DataW.Trod enc Tryz.prog W 0 (fun _=>true) true 32 v d ps) :
  ∃ (p:NN.Pr) (t:Tl) (gs:List Gt) (ks:List Ck),v = .agg (NN.prA p)/\p.ok/\p.tl=t.C/\t.ok/\t.gn=gs.length/\t.cn=ks.length/\GatesAt W t.ga gs/\ChecksAt W t.ca ks/\p.one:=by
 obtain ⟨p,t,gs,ks,rfl,h1,h2,h3,h4,h5,h6,h7⟩:=qvn_ hv hd
 refine ⟨p,t,gs,ks,rfl,h1,h2,h3,h4,h5,h6,h7,?_⟩
 obtain ⟨fuel,hf⟩:=hd
 have hf':DataW.trod enc Tryz.prog W 0 (fun _=>true) true fuel 32 (NN.prC p)=some (d,ps):=hf
 have ho:=qzq_ hf'
 intro v hv
 rw[h2] at hv
 unfold Tl.C at hv
 simp only[List.mem_cons,List.mem_append] at hv
 rcases hv with rfl|rfl|hv|hv
 ·rfl
 ·rfl
 ·refine ho v ?_
  have e:(NN.prC p).drop 7=t.nn ++ hdC t.g:=by
   have:NN.prC p = .int .i64 p.lim :: .int .i64 p.ivl :: .int .i64 p.spc :: .int .i64 p.fut :: .bool p.easy :: t.C:=by unfold NN.prC;rw[h2]
   rw[this]
   rfl
  rw[e,List.take_append_of_le_length (by rw[h3.1];exact Nat.le_refl _),<-h3.1,List.take_length]
  exact hv
 ·exact qho_ _ v hv
end
section
variable {H:Type} {enc:TypeId × Value->H} {W:World}
end
end Go.Proofs.YtbgjiplfaolpjaaGreatDoor.An
namespace Go.Proofs.YtbgjiplfaolpjaaGreatDoor.An
open Go.ChangeShapes Go.WideShapes Go.RowKit Mem Sc
end Go.Proofs.YtbgjiplfaolpjaaGreatDoor.An
