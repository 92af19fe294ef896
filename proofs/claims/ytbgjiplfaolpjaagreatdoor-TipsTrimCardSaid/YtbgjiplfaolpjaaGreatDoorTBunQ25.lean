import Derived.Test.YtbgjiplfaolpjaaGreatDoorTRegionInv2
import Derived.Test.YtbgjiplfaolpjaaGreatDoorTBunQ22
set_option maxRecDepth 100000
set_option maxHeartbeats 4000000
namespace Go.Proofs.YtbgjiplfaolpjaaGreatDoor.NN
open Go.RowKit Rg2
def NumStep (B:Nat) (w w':World):Prop:=∀ b cs,B<=b->Has w b cs 26->cs.size=4->∃ cs',Has w' b cs' 26/\cs'.size=4
theorem NumStep.refl (B:Nat) (w:World):NumStep B w w:=fun _ cs _ h hs=>⟨cs,h,hs⟩
theorem NumStep.below {B:Nat} {w w':World} (h:Below w.heap.size w w'):NumStep B w w':=fun _ cs _ h' hs=>⟨cs,h'.on h,hs⟩
theorem NumStep.row {B g z:Nat} {cs:Array Value} {w:World} (hg:Has w g cs 26):NumStep B w (w.setRow g (numC z)):=fun b cs' _ h hs=>by
 by_cases e:b=g
 ·subst e;exact ⟨_,hg.row _,rfl⟩
 ·exact ⟨cs',h.otherRow _ _ e,hs⟩
inductive Slot where
 | val (v:Value)
 | ptr
 | any
def Slot.holds (B:Nat):Slot->Value->World->Prop
 | .val x,v,_=>v=x
 | .ptr,v,w=>∃ b cs,B<=b/\v = .pointer (some ⟨b,0,none⟩)/\Has w b cs 26/\cs.size=4
 | .any,_,_=>True
theorem Slot.stays {B:Nat} (sp:Slot) (v:Value) (w w':World) (hs:NumStep B w w') (h:sp.holds B v w):sp.holds B v w':=by
 cases sp with
 | val x=>exact h
 | ptr=>
  obtain ⟨b,cs,h1,h2,h3,h4⟩:=h
  obtain ⟨cs',h5,h6⟩:=hs b cs h1 h3 h4
  exact ⟨b,cs',h1,h2,h5,h6⟩
 | any=>trivial
def Done (k:Nat) (p:Tmp) (B z:Nat) (listed:Array Bool) (a:Act) (w:World):Prop:=listed.getD k false=true->∃ b,B<=b/\a.eval (.tmp p) = .pointer (some ⟨b,0,none⟩)/\Has w b (numC z) 26
theorem Done.keep {k i:Nat} {p:Tmp} {B z:Nat} {listed:Array Bool} {a:Act} {w w':World} {d:Option Tmp} {v:Value} (h:Done k p B z listed a w) (hi:i<listed.size) (hik:i ≠ k) (hd:d ≠ some p) (hw:∀ b,Has w b (numC z) 26->Has w' b (numC z) 26):Done k p B z (listed.setIfInBounds i true) (a.put d v) w':=fun hl=>by
 rw[qq_ _ _ _ hi,if_neg hik] at hl
 obtain ⟨b,hb,he,hh⟩:=h hl
 exact ⟨b,hb,by rw[Act.eval_put (fun d' hdd e=>hd (by rw[hdd];cases e;rfl))];exact he,hw b hh⟩
theorem Done.pre {k i:Nat} {p:Tmp} {B z:Nat} {listed:Array Bool} {a:Act} {w:World} (h:(listed.setIfInBounds i true).getD k false=false):Done k p B z (listed.setIfInBounds i true) a w:=fun hl=>by rw[h] at hl;cases hl
section
variable {ρ:Operand->Value} {o:Oper} {w:World}
theorem qas_ {x:Operand} {g z:Nat} (ho:o.op = .load 26 x) (hx:ρ x = .pointer (some ⟨g,0,none⟩)) (hg:Has w g (numC z) 26):(execOp ρ o).run Tryz.prog w = .ok (.value (.agg (numC z))) w:=by
 have hl:(loadVar 26 ⟨g,0,none⟩).run Tryz.prog w = .ok (.agg (numC z)) w:=run_loadVar_row w g 26 26 (numC z) (0,0) _ hg.out Tryz.underlying26 rfl infoNum
 unfold execOp
 simp only[ho,hx,Instr.loadAt,Instr.sureAddr,Sem.run_bind,Sem.run_pure,Result.andThen_ok,hl]
theorem qaq_ {x y:Operand} {g z:Nat} {cs:Array Value} (ho:o.op = .store 26 x y) (hx:ρ x = .pointer (some ⟨g,0,none⟩)) (hy:ρ y = .agg (numC z)) (hg:Has w g cs 26) (hs:cs.size=4):(execOp ρ o).run Tryz.prog w = .ok .skip (w.setRow g (numC z)):=by
 unfold execOp
 simp only[ho,hx,hy,Instr.storeAt,Instr.sureAddr,Sem.run_bind,Sem.run_pure,Result.andThen_ok,run_storeVar_row w g 26 26 cs (numC z) hg.out infoNum hs (qij_ z)]
theorem qbl_ (ho:o.op = .alloc 26):(execOp ρ o).run Tryz.prog w = .ok (.value (.pointer (some ⟨w.heap.size,0,none⟩))) (w.alloc (.cells (numC 0) 26)):=by
 unfold execOp
 simp only[ho]
 kernel_rfl
theorem qu_ {x:Operand} (ho:o.op = .move x):(execOp ρ o).run Tryz.prog w = .ok (.value (ρ x)) w:=by
 unfold execOp;simp only[ho];rfl
theorem qak_ {x:Operand} (ho:o.op = .assign x):(execOp ρ o).run Tryz.prog w = .ok (.value (ρ x)) w:=by
 unfold execOp;simp only[ho];rfl
theorem qt_ {x:Operand} {n:Nat} {vs:Array Value} {v:Value} (ho:o.op = .extract x n) (hx:ρ x = .tuple vs) (hv:vs[n]?=some v):(execOp ρ o).run Tryz.prog w = .ok (.value v) w:=by
 unfold execOp;simp only[ho,hx]
 simp[Instr.extract,hv]
end
end Go.Proofs.YtbgjiplfaolpjaaGreatDoor.NN
namespace Go.Proofs.YtbgjiplfaolpjaaGreatDoor.NN
open Go.RowKit Rg2
structure Qs (w wr:World) (A B R S O T a b out rest:Nat):Prop where
 below:Below w.heap.size w wr
 a:Has wr A (numC a) 26
 b:Has wr B (numC b) 26
 r:∃ cs,Has wr R cs 26/\cs.size=4
 s:∃ cs,Has wr S cs 26/\cs.size=4
 o:Has wr O (numC out) 26
 t:Has wr T (numC rest) 26
def Apart (w:World) (A B R S O T:Nat):Prop:=w.heap.size<=A/\A<B/\B<R/\R<S/\S<O/\O<T
section
variable {w wr w':World} {A B R S O T a b out rest:Nat}
theorem Qs.on (h:Qs w wr A B R S O T a b out rest) (hb:Below wr.heap.size wr w'):Qs w w' A B R S O T a b out rest :=
 ⟨tb_ h.below hb,h.a.on hb,h.b.on hb,let ⟨cs,h1,h2⟩:=h.r; ⟨cs,h1.on hb,h2⟩,let ⟨cs,h1,h2⟩:=h.s; ⟨cs,h1.on hb,h2⟩,h.o.on hb,h.t.on hb⟩
theorem Qs.row (h:Qs w wr A B R S O T a b out rest) (hw:w.heap.size<=A) {g:Nat} (hg:T<g) (cs:Array Value) (hd:Apart w A B R S O T):Qs w (wr.setRow g cs) A B R S O T a b out rest:=by
 obtain ⟨_,d2,d3,d4,d5,d6⟩:=hd
 exact ⟨below_setRow h.below (by omega) _,h.a.otherRow _ _ (by omega),h.b.otherRow _ _ (by omega),let ⟨cs,h1,h2⟩:=h.r; ⟨cs,h1.otherRow _ _ (by omega),h2⟩,let ⟨cs,h1,h2⟩:=h.s; ⟨cs,h1.otherRow _ _ (by omega),h2⟩,h.o.otherRow _ _ (by omega),h.t.otherRow _ _ (by omega)⟩
theorem Qs.putT (h:Qs w wr A B R S O T a b out rest) (hd:Apart w A B R S O T) (v:Nat):Qs w (wr.setRow T (numC v)) A B R S O T a b out v:=by
 obtain ⟨d1,d2,d3,d4,d5,d6⟩:=hd
 exact ⟨below_setRow h.below (by omega) _,h.a.otherRow _ _ (by omega),h.b.otherRow _ _ (by omega),let ⟨cs,h1,h2⟩:=h.r; ⟨cs,h1.otherRow _ _ (by omega),h2⟩,let ⟨cs,h1,h2⟩:=h.s; ⟨cs,h1.otherRow _ _ (by omega),h2⟩,h.o.otherRow _ _ (by omega),h.t.row _⟩
theorem Qs.setO (h:Qs w wr A B R S O T a b out rest) (hd:Apart w A B R S O T) (i:Nat) (v:Value) (out':Nat) (e:(numC out).setIfInBounds i v=numC out'):Qs w (wr.setCell ⟨O,i,none⟩ v).drew A B R S O T a b out' rest:=by
 obtain ⟨d1,d2,d3,d4,d5,d6⟩:=hd
 exact ⟨(h.below.setCell (by simp;omega) _).drew,(h.a.other _ _ (by simp;omega)).drew,(h.b.other _ _ (by simp;omega)).drew,let ⟨cs,h1,h2⟩:=h.r; ⟨cs,(h1.other _ _ (by simp;omega)).drew,h2⟩,let ⟨cs,h1,h2⟩:=h.s; ⟨cs,(h1.other _ _ (by simp;omega)).drew,h2⟩,by rw[<-e];exact (h.o.set _).drew,(h.t.other _ _ (by simp;omega)).drew⟩
theorem Qs.putR (h:Qs w wr A B R S O T a b out rest) (hd:Apart w A B R S O T) (v:Nat):Qs w (wr.setRow R (numC v)) A B R S O T a b out rest:=by
 obtain ⟨d1,d2,d3,d4,d5,d6⟩:=hd
 exact ⟨below_setRow h.below (by omega) _,h.a.otherRow _ _ (by omega),h.b.otherRow _ _ (by omega),let ⟨_,h1,_⟩:=h.r; ⟨_,h1.row _,rfl⟩,let ⟨cs,h1,h2⟩:=h.s; ⟨cs,h1.otherRow _ _ (by omega),h2⟩,h.o.otherRow _ _ (by omega),h.t.otherRow _ _ (by omega)⟩
theorem Qs.putS (h:Qs w wr A B R S O T a b out rest) (hd:Apart w A B R S O T) (v:Nat):Qs w (wr.setRow S (numC v)) A B R S O T a b out rest:=by
 obtain ⟨d1,d2,d3,d4,d5,d6⟩:=hd
 exact ⟨below_setRow h.below (by omega) _,h.a.otherRow _ _ (by omega),h.b.otherRow _ _ (by omega),let ⟨cs,h1,h2⟩:=h.r; ⟨cs,h1.otherRow _ _ (by omega),h2⟩,let ⟨_,h1,_⟩:=h.s; ⟨_,h1.row _,rfl⟩,h.o.otherRow _ _ (by omega),h.t.otherRow _ _ (by omega)⟩
end
theorem qgc_ {w:World} {fn:Func} {p q:Tmp} (h:fn.results=#[.cell p 26,.cell q 26]) (tmps:Array Value) (g k x y:Nat) (hp:tmps.getD p undef = .pointer (some ⟨g,0,none⟩)) (hq:tmps.getD q undef = .pointer (some ⟨k,0,none⟩)) (hg:Has w g (numC x) 26) (hk:Has w k (numC y) 26) :
  (results fn tmps).run Tryz.prog w = .ok (.tuple #[.agg (numC x),.agg (numC y)]) w:=by
 have h1:(loadVar 26 ⟨g,0,none⟩).run Tryz.prog w = .ok (.agg (numC x)) w:=run_loadVar_row w g 26 26 (numC x) (0,0) _ hg.out Tryz.underlying26 rfl infoNum
 have h2:(loadVar 26 ⟨k,0,none⟩).run Tryz.prog w = .ok (.agg (numC y)) w:=run_loadVar_row w k 26 26 (numC y) (0,0) _ hk.out Tryz.underlying26 rfl infoNum
 have hp':tmps[p]?.getD undef = .pointer (some ⟨g,0,none⟩):=by simpa using hp
 have hq':tmps[q]?.getD undef = .pointer (some ⟨k,0,none⟩):=by simpa using hq
 simp[results,h,hp',hq',asAddr,h1,h2]
def DoneAt (k R z:Nat) (listed:Array Bool) (w:World):Prop:=listed.getD k false=true->Has w R (numC z) 26
theorem DoneAt.pre {k i R z:Nat} {listed:Array Bool} {w:World} (h:(listed.setIfInBounds i true).getD k false=false):DoneAt k R z (listed.setIfInBounds i true) w:=fun hl=>by rw[h] at hl;cases hl
theorem DoneAt.keep {k i R z:Nat} {listed:Array Bool} {w w':World} (h:DoneAt k R z listed w) (hi:i<listed.size) (hik:i ≠ k) (hw:Has w R (numC z) 26->Has w' R (numC z) 26):DoneAt k R z (listed.setIfInBounds i true) w':=fun hl=>by
 rw[qq_ _ _ _ hi,if_neg hik] at hl
 exact hw (h hl)
theorem qkb_ (a:Act) (n:Nat) (u:Nat->Value) (hs:a.tmps.size=n) (hd:a.defers=[]) (hu:∀ t,u t=a.eval (.tmp t)):a=⟨((List.range n).map u).toArray,[]⟩:=by
 obtain ⟨tm,df⟩:=a
 obtain rfl:df=[]:=hd
 congr 1
 apply Array.ext
 ·simpa using hs
 ·intro i h1 h2
  simp only[List.getElem_toArray,List.getElem_map,List.getElem_range,hu]
  simp[Act.eval,Array.getD_eq_getD_getElem?,h1]
def endTab (out rest:Nat):Nat->Slot
 | 0=>.val (.agg (numC out))|1=>.val (.agg (numC rest))|_=>.any
end Go.Proofs.YtbgjiplfaolpjaaGreatDoor.NN
namespace Go.Proofs.YtbgjiplfaolpjaaGreatDoor.NN
open Go.RowKit Rg2
end Go.Proofs.YtbgjiplfaolpjaaGreatDoor.NN
