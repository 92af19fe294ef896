import Derived.Test.YtkbjaadjnbgfbaaGreatDoorDBunQ44
import Derived.Shelf.Spec.SlicesInsertGrow
set_option maxRecDepth 100000
set_option maxHeartbeats 4000000
namespace Go.Proofs.YtkbjaadjnbgfbaaGreatDoor.An
open Go.RowKit Mem Sc
def rr(w:World)(v:Value)(l:List Int):Prop:=w.ownsRow 0 3 1 v l.length (l.map (Value.int .i64))
variable{w:World}{v:Value}{l:List Int}
theorem E5(h:rr w v l):(v=.slice none 0 0/\l=[])\/∃g c S,v=.slice (aX g) l.length c/\Has w g (l.map (Value.int .i64)++S).toArray 3/\c=l.length+S.length/\c<=maxLen:=by obtain⟨_,⟨rfl,h0⟩|⟨g,c,cur,rfl,_,hg,h1,h2,h3,h4⟩⟩:=h;exact .inl ⟨rfl,List.eq_nil_of_length_eq_zero h0⟩;rw[Nat.mul_one]at h3 h4;refine .inr ⟨g,c,cur.toList.drop l.length,rfl,?_,?_,h2⟩;rw[<-h4,List.take_append_drop];exact hg;have h5:cur.toList.length=cur.size:=Array.length_toList;rw[List.length_drop];omega
theorem I0(hl:rr w v l)(hn:l.length<=1000):aK 100 #[v] w fun e w'=>∃v',e=.returned v'/\rr w' v' l/\(∀k,v'.ownBlock=some k->w.heap.size<=k)/\Bl w w':=by
 have weak:∀{w':World}{v':Value},w'.ownsRow w.heap.size 3 1 v' l.length (l.map (Value.int .i64))->rr w' v' l/\∀k,v'.ownBlock=some k->w.heap.size<=k:=fun h=>by
  refine⟨⟨h.1,h.2.imp id fun⟨g,c,cur,a1,_,a3⟩=>⟨g,c,cur,a1,Nat.zero_le _,a3⟩⟩,fun k hk=>(h.lt k hk).1⟩
 rcases E5 hl with⟨rfl,rfl⟩|⟨g,c,S,rfl,hg,hc,hm⟩
 refine(Tryz.slices_Clone_int_nil 0 0 w).mono ?_;rintro e w' ⟨rfl,rfl⟩;exact⟨_,rfl,World.ownsRow_nil _ _ _ _,fun k hk=>(by cases hk),bg⟩
 ·by_cases h0:l=[];subst h0;refine(Tryz.slices_Clone_int_zero ⟨g,0,none⟩ c w).mono ?_;rintro e w' ⟨v',rfl,h1,_,hb⟩;exact⟨v',rfl,(weak h1).1,(weak h1).2,hb⟩
  ·have hc':∀j,j<l.length->w.cell? ⟨g,0+j,none⟩=some (i_ (l.getD j 0)):=fun j hj=>by
    rw[Nat.zero_add,hg.cell j,List.getElem?_toArray,List.getElem?_append_left (by simpa using hj),List.getElem?_map,List.getElem?_eq_getElem hj];simp[List.getD,hj]
   refine(Tryz.slices_Clone_int g 0 l.length c l w (Nat.le_refl _) (by omega) hc').mono ?_;rintro e w' ⟨v',rfl,h1,_,hb⟩;rw[List.take_length]at h1;exact⟨v',rfl,(weak h1).1,(weak h1).2,hb⟩
end Go.Proofs.YtkbjaadjnbgfbaaGreatDoor.An
namespace Go.Proofs.YtkbjaadjnbgfbaaGreatDoor
open Go.RowKit
namespace An
open Mem Sc
def Bi(q:Option Addr)(lv:Value):Array Value:=#[.pointer q,lv]
variable{w:World}{s:Nat}{q:Option Addr}{lv:Value}
theorem jV(h:Has w s (Bi q lv) 129):w.cell? ⟨s,0,none⟩=some (.pointer q):=Has.cell h 0
theorem QE(h:Has w s (Bi q lv) 129):w.cell? ⟨s,1,none⟩=some lv:=Has.cell h 1
open NN.Q8
theorem Jo(s:Nat)(q:Option Addr)(v:Value)(hv:∃a n c,v=.slice a n c)(P:World->World->Value->Prop)(w:World)(hS:Has w s (Bi q v) 129)(KC:Hid (aK 100 #[v] w fun e w'=>∃v',e=.returned v'/\P w w' v')):aK 61 #[af s] w fun e w'=>∃v',e=.returned v'/\P w w' v':=by
 have c1:=QE hS;obtain⟨a,n,c,rfl⟩:=hv;clear hS;go_enter Tryz.func61,Tryz.ntmps61;go_wp2_with fail
 refine KC.out.mono ?_;rintro e v1 ⟨v',rfl,hp⟩;have HP:=h_ hp;clear hp c1;go_wp2_with fail
 go_ret;exact⟨v',rfl,HP.out⟩
theorem E_(q:Option Addr):Tryz.prog.built 129 [(0,.pointer q)]=some (Bi q (.slice none 0 0)):=by kernel_rfl
theorem Am(q:Option Addr)(w:World):aK 56 #[.pointer q] w fun e w'=>e=.returned (.pointer (some ⟨w.heap.size,0,none⟩))/\w'=w.alloc (.cells (Bi q (.slice none 0 0)) 129):=by
 have hbu:=E_ q;go_enter Tryz.func56,Tryz.ntmps56;go_wp2_with fail
 go_ret;exact⟨rfl,rfl⟩
end An
namespace An
open Mem Sc
open Ar (aq Ru aB Ok cg)
open Tp (rR LF spot ins)
section
variable{w w':World}{F G:Nat->Prop}{s:Nat}{q:Option Addr}{r:Ru}{M:List aq}{l:List Nat}
end
section
variable{w:World}{F G:Nat->Prop}{s:Nat}{q:Option Addr}{r:Ru}{M:List aq}{l:List Nat}
end
section
variable{r:Ru}{M:List aq}{l:List Nat}
end
section
variable{w:World}{F G:Nat->Prop}{s:Nat}{q:Option Addr}{r:Ru}{M:List aq}{l:List Nat}
end
end An
end Go.Proofs.YtkbjaadjnbgfbaaGreatDoor
namespace Go.Proofs.YtkbjaadjnbgfbaaGreatDoor
open Go.RowKit
namespace An
open Mem Sc NN.Q8
open Ar (aq Ru aB Ok cg Row cG Up dO eE)
open Mk (bZ cZ aY pb verdict bB bk eZ word a_)
theorem Ko(r:Ru)(w:World):ak 52 #[.pointer none] w (i_ (-1)):=by refine(gQ.nil w r Mk.jV).Sw.mono ?_;rintro e w' ⟨b,rfl,h1|⟨c,_,_,h3,_⟩,hb⟩;rw[h1.1];exact⟨rfl,hb⟩;exact absurd h3 (Nat.not_lt_zero _)
theorem kD(r:Ru)(w:World):ak 19 #[.pointer none] w (i_ (-1)):=AQ none none _ (h_ fun w' _=>mZ w') (h_ fun w' _=>Ko r w')
theorem IN(r:Ru)(w:World):ak 20 #[.pointer none] w (i_ (-1)):=xK none none _ (h_ fun w' _=>mZ w') (h_ fun w' _=>(gQ.nil w' r Mk.jV).TK)
theorem pF(w:World):ak 15 #[.pointer none,i_ 1,.bool true] w (i_ 2):=G3 none none (fun w'=>Bl w w') _ 1 true (h_ fun w' _=>mZ w') (h_ fun w' hb=>(Pg 1 true w').mono fun _ _ h=>⟨h.1,ah hb h.2⟩)
theorem Ad(w:World):ak 16 #[.pointer none,i_ 1] w (i_ 2):=Jg none none (fun w'=>Bl w w') _ 1 (h_ fun w' _=>mZ w') (h_ fun w' hb=>(PO 1 w').mono fun _ _ h=>⟨h.1,ah hb h.2⟩)
theorem zD(w:World):ak 17 #[.pointer none,i_ 1] w (i_ 2):=Eg none none (fun w'=>Bl w w') _ 1 (h_ fun w' _=>mZ w') (h_ fun w' hb=>(Nt 1 w').mono fun _ _ h=>⟨h.1,ah hb h.2⟩)
theorem Oe(w:World):ak 14 #[.pointer none,.agg (aD dr),i_ 1] w (.tuple #[i_ (-1),i_ 0,i_ 2]):=by refine o_ none none (fun w'=>Bl w w') (-1) 0 2 1 dr dB (h_ fun w' _=>zm w') (h_ fun w' hb=>?_);refine(FA _ (.pointer none) dr dB 1 (-1) 0 2 (fun w1 w2=>Bl w1 w2) w' (h_ (du.nil w')) (h_ fun w' _=>add_nil dr dB 1 w') rfl).mono ?_;rintro e w2 ⟨rfl,vx,h1,h2⟩;exact⟨rfl,hb.trans ((ah h1 h2).mono hb.size)⟩
theorem lE(w:World):ak 54 #[.pointer none,i_ (-1)] w (.bool false):=by
 have h0:((-1:Int)==(-1:Int))=true:=by simp
 have hB:=Below.refl w.heap.size w;go_enter Tryz.func54,Tryz.ntmps54;go_wp2_with fail
 refine ar (yM _) fun v1 hb=>?_;replace hB:=ah hB hb;clear hb;go_wp2_with fail
 go_ret;exact⟨rfl,hB⟩
theorem DL(r:Ru)(w:World):ak 21 #[.pointer none] w (.bool false):=xm none (-1) false (fun w'=>Bl w w') (h_ fun w' _=>kD r w') (h_ fun w' hb=>(lE w').mono fun _ _ h=>⟨h.1,ah hb h.2⟩)
theorem vS(r:Ru)(w:World):ak 22 #[.pointer none] w (i_ 0):=(BI none (-1) (h_ fun w' _=>kD r w') 0 (by decide) (fun w' n=>n=0/\Bl w w') (fun w' hb=>⟨rfl,hb⟩) (h_ fun w' n h=>(lE w').mono fun _ _ q=>⟨by rw[h.1];exact q.1,by omega,ah h.2 q.2⟩)).mono fun _ _ h=>⟨h.1,h.2.2⟩
theorem z_(r:Ru)(w:World):aK 24 #[.pointer none] w fun e w'=>∃p c,e=.returned (.slice p 0 c)/\Bl w w':=by
 have hB:=Below.refl w.heap.size w;go_enter Tryz.func24,Tryz.ntmps24;go_wp2_with fail
 refine ar (zm _) fun v0 hb=>?_;replace hB:=ah hB hb;clear hb;go_wp2_with fail
 refine ar (mZ _) fun v01 hb=>?_;replace hB:=ah hB hb;clear hb;go_wp2_with fail
 refine ar (yM _) fun v1 hb=>?_;replace hB:=ah hB hb;clear hb;go_wp2_with fail
 refine ar (Am none v1) fun v2 hv2=>?_;have hS:Has v2 v1.heap.size (Bi none (.slice none 0 0)) 129:=by rw[hv2];exact Has.new _ _
 have hb:Bl v1 v2:=by rw[hv2];exact aZ
 replace hB:=ah hB hb;obtain⟨s,hs⟩:∃s,s=v1.heap.size:=⟨_,rfl⟩;rw[<-hs]at hS|-;clear hb hv2 hs;go_wp2_with fail
 refine ar (AD _) fun v3 hb=>?_;replace hB:=ah hB hb;replace hS:=(my hb).has hS fun h=>h
 clear hb;go_wp2_with fail
 go_loopw [18] (fun u wr=>u=i_ 0/\Bl w wr/\Has wr s (Bi none (.slice none 0 0)) 129) (fun _ _=>0)
 case atStart=>exact⟨rfl,hB,hS⟩
 case round=>
  clear hB hS;obtain⟨rfl,hB,hS⟩:=hrel;rename World=>wq
  have hV:ak 58 #[.pointer none,i_ (-1)] wq (.bool false):=by
   have:=(gQ.nil wq r Mk.jV).valid (-1);rwa[Mk.r8 (jz _)]at this
  have HV:=h_ hV;clear hV;go_wp2_with fail
  refine HV.out.mono ?_;rintro e v4 ⟨rfl,hb⟩;replace hB:=ah hB hb;replace hS:=(my hb).has hS fun h=>h
  have HA:=h_ (Jo s none (.slice none 0 0) ⟨_,_,_,rfl⟩ (fun w w' v'=>rr w' v' []/\(∀k,v'.ownBlock=some k->w.heap.size<=k)/\Bl w w') v4 hS (h_ (I0 (World.ownsRow_nil _ _ _ _) (by decide))));clear hb HV hS;go_wp2_with fail
  refine HA.out.mono ?_;rintro e v5 ⟨v,rfl,hv,_,hb⟩;replace hB:=ah hB hb;obtain⟨p,c,rfl,_⟩:=iz.of hv rfl;clear hb HA hv;go_wp2_with fail
  go_ret;exact⟨p,c,rfl,hB⟩
open Tp (LF rR ins spot)
section
variable{w wr w':World}{q:Option Addr}{r:Ru}{M:List aq}{s:Nat}{l:List Nat}
end
theorem iz.made{w:World}{g c:Nat}{l:List Int}{T:List Value}(h:Has w g (l.map (Value.int .i64)++T).toArray 3):iz w (.slice (aX g) l.length c) l:=by refine⟨_,c,rfl,fun _=>⟨g,rfl,fun w' hb k z hk=>(hb.cell (p:=⟨g,k,none⟩) h.lt).trans ?_⟩⟩;rw[Has.cell h k,List.getElem?_toArray,List.getElem?_append_left (by rw[List.length_map];exact(List.getElem?_eq_some_iff.1 hk).1),List.getElem?_map,hk];rfl
end An
namespace An
open Mem Sc NN.Q8
open Ar (aq Ru aB Ok cg)
section
variable{ρ:Operand->Value}{o:Oper}{w:World}
end
open Ar (cG eE dO Row Up)
open Mk (eZ cZ bZ bB a_ pb bk aY verdict word)
