import Derived.Test.YtcppnfkjklhhdaaGreatDoorVBunQ39
import Derived.Laws.OwnMore
set_option maxRecDepth 100000
set_option maxHeartbeats 4000000
namespace Go.Proofs.YtcppnfkjklhhdaaGreatDoor.An
open Go.RowKit Mem Sc
open Ar (Ent Ru entZ Ok Up isP Row)
set_option maxRecDepth 100000
theorem qzf_:(Tryz.prog.info? 3).map (fun i=>(i.zero,i.size,i.bytes))=some (some (.int .i64 0),1,8):=by kernel_rfl
theorem qzg_ (n:Nat) (hn:n<=1000) (w:World):(Instr.makeSlice 42 (.int .i64 (n:Int)) (.int .i64 (n:Int))).run Tryz.prog w = .ok (.slice (some ⟨w.heap.size,0,none⟩) n n) (w.alloc (.cells (madeCells #[.int .i64 0] n) 3)) :=
 run_make_row' 42 3 (.int .i64 0) 8 Tryz.underlying42 qzf_ rfl .i64 .i64 n (by omega) (by omega) w
def pathC (L:List Int) (n i:Nat):List Value:=List.replicate (n - i) (.int .i64 0) ++ (L.drop (n+1 - i)).map (Value.int .i64)
theorem qqu_ {L:List Int} {n:Nat} (h:L.length=n+1):(madeCells #[.int .i64 0] n)=(pathC L n 0).toArray:=by
 rw[<-Array.toArray_toList (xs:=madeCells #[.int .i64 0] n),toList_madeCells_one]
 unfold pathC
 rw[Nat.sub_zero,Nat.sub_zero,List.drop_eq_nil_of_le (by omega)]
 simp
theorem qvb_ {L:List Int} {n i:Nat} {x:Int} (hi:i<n) (hx:L[n - i]?=some x):(pathC L n i).toArray.setIfInBounds (n - 1 - i) (.int .i64 x)=(pathC L n (i+1)).toArray:=by
 unfold pathC
 obtain ⟨m,hm⟩:∃ m,n - 1 - i=m:=⟨_,rfl⟩
 have e1:n - i=m+1:=by omega
 have e2:n - (i+1)=m:=by omega
 have e3:n+1 - (i+1)=m+1:=by omega
 have e4:n+1 - i=m+1+1:=by omega
 rw[hm,e1,e2,e3,e4]
 rw[e1] at hx
 obtain ⟨h1,h2⟩:=List.getElem?_eq_some_iff.1 hx
 rw[List.drop_eq_getElem_cons h1,h2,List.replicate_succ',List.setIfInBounds_toArray,List.append_assoc,List.set_append_right _ _ (by simp)]
 simp
theorem qzh_ (L:List Int) (n:Nat):pathC L n n=(L.drop 1).map (Value.int .i64):=by
 unfold pathC
 rw[Nat.sub_self,show n+1 - n=1 by omega]
 rfl
theorem qvc_ (L:List Int) (n i:Nat) (h:L.length=n+1) (hi:i<=n):(pathC L n i).length=n:=by
 unfold pathC
 simp
 omega
theorem qabb_ (tp:Value) (k:Int) (E:En) (hE:E.ok) (w:World) (KA:Hid (∀w',Below w.heap.size w w'->Calls Tryz.prog 29 #[tp,.int .i64 k] w' fun x w''=>x = .returned (.tuple #[.agg (enA E),.bool false])/\Below w'.heap.size w' w'')) :
  Calls Tryz.prog 37 #[tp,.int .i64 k] w fun x w'=>x = .returned (.slice none 0 0)/\Below w.heap.size w w':=by
 have ze:=qv_ hE
 have z0:=qv_ enZ_ok
 have hB:=Below.refl w.heap.size w
 go_enter Tryz.func37,Tryz.ntmps37
 go_wp2_with fail
 refine (KA.out _ hB).mono ?_
 rintro x v1 ⟨rfl,hb⟩
 replace hB:=tb_ hB hb
 clear hb
 have hnew:=qbq_ v1
 have hb3:=qcb_ v1 76 Tryz.zeroCells76 (enA E)
 go_upto_region 2 with (with_reducible refine qbc_ rfl _ _ rfl _ _ E rfl rfl rfl ze hnew z0 ?_)
 generalize World.setRow _ _ _=v2 at *
 replace hB:=tb_ hB hb3
 clear hb3 hnew
 go_wp2_with fail
 go_ret
 exact ⟨rfl,hB⟩
theorem qzi_ (tp:Value) (r:Ru) (M:List Ent) (hM:Ok r M) (j:Nat) (e:Ent) (he:M[j]?=some e) (n:Nat) (hn:n=e.hs.length) (h9:n<=1000) (hE:(enOf r e).ok) (L:List Int) (hL:Row M (j:Int) L) (w:World)
  (KA:Hid (∀w',Below w.heap.size w w'->Calls Tryz.prog 29 #[tp,.int .i64 (j:Int)] w' fun x w''=>x = .returned (.tuple #[.agg (enA (enOf r e)),.bool true])/\Below w'.heap.size w' w''))
  (KU:∀ (n:Nat) (e:Ent),M[n]?=some e->Hid (∀w',Below w.heap.size w w'->Calls Tryz.prog 54 #[tp,.int .i64 (n:Int)] w' fun x w''=>x = .returned (.int .i64 e.up)/\Below w'.heap.size w' w'')) :
  Calls Tryz.prog 37 #[tp,.int .i64 (j:Int)] w fun x w'=>∃ g,x = .returned (.slice (some ⟨g,0,none⟩) n n)/\w.heap.size<=g/\Has w' g ((L.drop 1).map (Value.int .i64)).toArray 3/\Below w.heap.size w w':=by
 have hLn:L.length=n+1:=by rw[hn];exact hL.len hM he
 have HLN:=h_ hLn
 have HL0:Hid (L[n]?=some (j:Int)):=h_ (by have:=hL.last.2;rwa [hLn,Nat.add_sub_cancel] at this)
 have HE:Hid ((enOf r e).ht=(n:Int)):=h_ (by rw[hn];rfl)
 have HLR:=h_ hL
 clear hLn hL hn he
 generalize enOf r e=E at *
 clear e
 have ze:=qv_ hE
 have z0:=qv_ enZ_ok
 have hB:=Below.refl w.heap.size w
 obtain ⟨e1,he1⟩:∃ e1:Int,e1=(n:Int) - 1:=⟨_,rfl⟩
 have hw1:IntKind.i64.wrap ((n:Int) - 1)=e1:=by rw[IntKind.wrap_i64];omega
 have HE1:=h_ he1
 clear he1
 go_enter Tryz.func37,Tryz.ntmps37
 go_wp2_with fail
 refine (KA.out _ hB).mono ?_
 rintro x v1 ⟨rfl,hb⟩
 replace hB:=tb_ hB hb
 clear hb
 have hnew:=qbq_ v1
 have hX:=qdz_ v1 E
 have hb3:=qcb_ v1 76 Tryz.zeroCells76 (enA E)
 go_upto_region 2 with (with_reducible refine qbc_ rfl _ _ rfl _ _ E rfl rfl rfl ze hnew z0 ?_)
 generalize World.setRow _ _ _=v2 at *
 replace hB:=tb_ hB hb3
 have c1:=EnAt.ht hX hE HE
 clear hb3 hnew KA
 have hmk:=fun w=>qzg_ n h9 w
 go_upto_region 5 with fail
 generalize hw3:World.alloc _ _=v3
 have hB3:Below w.heap.size w v3:=by rw[<-hw3];exact hB.alloc hB.size _
 have hG:Has v3 v2.heap.size (pathC L n 0).toArray 3:=by rw[<-hw3,qqu_ HLN.out];exact Has.new _ _
 obtain ⟨g,hg⟩:∃ g,g=v2.heap.size:=⟨_,rfl⟩
 rw[<-hg] at hG |-
 have HG:Hid (w.heap.size<=g):=h_ (by rw[hg];exact hB.size)
 clear hw3 hg hB c1 hmk hX
 go_wp2_with fail
 go_loopw [1,22] (fun v u wr=>∃ (i:Nat) (x:Int),i<=n/\v = .int .i64 x/\u = .int .i64 (i:Int)/\Hid (L[n - i]?=some x)/\Has wr g (pathC L n i).toArray 3/\Below w.heap.size w wr) (fun _ u _=>n - (intOf u).toNat)
 case atStart=>exact ⟨0,(j:Int),by omega,rfl,rfl,HL0,hG,hB3⟩
 case round=>
  clear hG hB3
  obtain ⟨i,x,hi,rfl,rfl,HX,hG,hB⟩:=hrel
  by_cases hlt:i<n
  ·obtain ⟨q,hq⟩:∃ q,q=n - 1 - i:=⟨_,rfl⟩
   have hw2:IntKind.i64.wrap (e1 - (i:Int))=(q:Int):=by have:=HE1.out;rw[IntKind.wrap_i64];omega
   have hqn:q<n:=by omega
   have HQ:=h_ hq
   have hup:Up M (j:Int) (n - i) x:=⟨L,HLR.out,HX.out⟩
   obtain ⟨m,d,rfl,hd,hdl⟩:=hup.place hM
   have HU:Hid (L[n - (i+1)]?=some d.up):=h_ (by
    obtain ⟨K,k1,k2⟩:=hup.trans (Up.ahead hM hd (by omega)).1
    rw[k1.det HLR.out,hdl] at k2
    rw[show n - (i+1)=n - i - 1 by omega]
    exact k2)
   have KU1:=KU m d hd
   have hf:wr.frozen? ⟨g,q,none⟩=false:=Has.free hG q
   have hc:∃ u,wr.cell? ⟨g,q,none⟩=some u:=⟨_,(Has.cell hG q).trans (Array.getElem?_eq_getElem (by rw[List.size_toArray,qvc_ L n i HLN.out hi];exact hqn))⟩
   obtain ⟨u,hc⟩:=hc
   have hG2:Has (wr.setCell ⟨g,q,none⟩ (.int .i64 (m:Int))) g (pathC L n (i+1)).toArray 3:=by
    have:=Has.set (i:=q) hG (.int .i64 (m:Int))
    rw[HQ.out,qvb_ hlt HX.out,<-HQ.out] at this
    exact this
   have hB2:Below w.heap.size w (wr.setCell ⟨g,q,none⟩ (.int .i64 (m:Int))):=hB.setCell HG.out _
   clear hq hup hd hdl HX hG hB
   generalize d.up=z at *
   go_wp2_with (with_reducible refine qyx_ rfl _ _ rfl ⟨g,q,none⟩ (m:Int) _ rfl rfl hf hc ?_)
   generalize World.setCell _ _ _=v4 at *
   clear hf hc
   refine (KU1.out _ hB2).mono ?_
   rintro e v5 ⟨rfl,hb⟩
   have hG3:=qd_ hb hG2 (Has.lt hG2)
   replace hB2:=tb_ hB2 hb
   clear hb hG2
   go_wp2_with fail
   go_roundw
   case rel=>exact ⟨i+1,z,by omega,rfl,by go_num,HU,hG3,hB2⟩
   case measure=>simp[intOf];omega
  ·obtain rfl:i=n:=by omega
   rw[qzh_] at hG
   go_wp2_with fail
   go_ret
   exact ⟨g,rfl,HG.out,hG,hB⟩
theorem path_at {w:World} {F:Nat->Prop} {b:Nat} {r:Ru} {M:List Ent} {ls:List Int} (h:TrS w F b r M ls) (hM:Ok r M) (hl9:M.length<=900) (j:Nat) (e:Ent) (he:M[j]?=some e) (L:List Int) (hL:Row M (j:Int) L) :
  Calls Tryz.prog 37 #[.pointer (some ⟨b,0,none⟩),.int .i64 (j:Int)] w fun x w'=>∃ g,x = .returned (.slice (some ⟨g,0,none⟩) e.hs.length e.hs.length)/\w.heap.size<=g/\Has w' g ((L.drop 1).map (Value.int .i64)).toArray 3/\Below w.heap.size w w':=by
 obtain ⟨Fa,ab,_,k2⟩:=h.parts
 have h1:=(hM.chain j e he).1
 have h2:=(List.getElem?_eq_some_iff.1 he).1
 exact qzi_ _ r M hM j e he _ rfl (by omega) (qfr_ k2 he) L hL w (h_ fun w' hb=>tat_at (h.below hb) he _ rfl) (fun n e he=>h_ fun w' hb=>qafs_ (h.below hb) he)
theorem qage_ (k:Int) (w:World):Calls Tryz.prog 37 #[.pointer none,.int .i64 k] w fun x w'=>x = .returned (.slice none 0 0)/\Below w.heap.size w w' :=
 qabb_ _ k enN enN_ok w (h_ fun w' _=>qot_ k w')
end Go.Proofs.YtcppnfkjklhhdaaGreatDoor.An
