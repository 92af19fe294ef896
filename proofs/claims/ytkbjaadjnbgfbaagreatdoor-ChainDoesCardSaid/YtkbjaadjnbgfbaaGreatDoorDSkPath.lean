import Derived.Test.YtkbjaadjnbgfbaaGreatDoorDBunQ40
set_option maxRecDepth 100000
set_option maxHeartbeats 4000000
namespace Go.Proofs.YtkbjaadjnbgfbaaGreatDoor.An
open Go.RowKit Mem Sc
open Ar (aq Ru aB Ok Up cg Row)
theorem CU:(Tryz.prog.info? 3).map (fun i=>(i.zero,i.size,i.bytes))=some (some (i_ 0),1,8):=by kernel_rfl
theorem Hm(n:Nat)(hn:n<=1000)(w:World):(Instr.makeSlice 49 (i_ n) (i_ n)).run Tryz.prog w=.ok (.slice (some ⟨w.heap.size,0,none⟩) n n) (w.alloc (.cells (madeCells #[i_ 0] n) 3)):=
 run_make_row' 49 3 (i_ 0) 8 Tryz.underlying49 CU rfl .i64 .i64 n (by omega) (by omega) w
def fF(L:List Int)(n i:Nat):List Value:=List.replicate (n-i) (i_ 0)++(L.drop (n+1-i)).map (Value.int .i64)
variable{L:List Int}{n:Nat}
theorem NA(h:L.length=n+1):(madeCells #[i_ 0] n)=(fF L n 0).toArray:=by rw[<-Array.toArray_toList (xs:=madeCells #[i_ 0] n),toList_madeCells_one];unfold fF;rw[Nat.sub_zero,Nat.sub_zero,List.drop_eq_nil_of_le (by omega)];simp
theorem NH{i:Nat}{x:Int}(hi:i<n)(hx:L[n-i]?=some x):(fF L n i).toArray.setIfInBounds (n-1-i) (i_ x)=(fF L n (i+1)).toArray:=by
 unfold fF;obtain⟨m,hm⟩:∃m,n-1-i=m:=⟨_,rfl⟩;have e1:n-i=m+1:=by omega
 have e2:n-(i+1)=m:=by omega
 have e3:n+1-(i+1)=m+1:=by omega
 have e4:n+1-i=m+1+1:=by omega
 rw[hm,e1,e2,e3,e4];rw[e1]at hx;obtain⟨h1,h2⟩:=List.getElem?_eq_some_iff.1 hx;rw[List.drop_eq_getElem_cons h1,h2,List.replicate_succ',List.setIfInBounds_toArray,List.append_assoc,List.set_append_right _ _ (by simp)];simp
theorem Dg(L:List Int)(n:Nat):fF L n n=(L.drop 1).map (Value.int .i64):=by unfold fF;rw[Nat.sub_self,show n+1-n=1 by omega];rfl
theorem Qj(L:List Int)(n i:Nat)(h:L.length=n+1)(hi:i<=n):(fF L n i).length=n:=by unfold fF;simp;omega
theorem F5(tp:Value)(r:Ru)(M:List aq)(hM:Ok r M)(j:Nat)(e:aq)(he:M[j]?=some e)(n:Nat)(hn:n=e.hs.length)(h9:n<=1000)(hE:(bs r e).ok)(L:List Int)(hL:Row M (j:Int) L)(w:World)(KA:aO w 29 #[tp,i_ j] (.tuple #[.agg (bU (bs r e)),.bool true]))(KU:∀(n:Nat)(e:aq),M[n]?=some e->aO w 91 #[tp,i_ n] (i_ e.up)):aK 55 #[tp,i_ j] w fun x w'=>∃g,x=.returned (.slice (aX g) n n)/\w.heap.size<=g/\Has w' g ((L.drop 1).map (Value.int .i64)).toArray 3/\Bl w w':=by
 have hLn:L.length=n+1:=by rw[hn];exact hL.len hM he
 have Xa:=h_ hLn;have HL0:Hid (L[n]?=some (j:Int)):=h_ (by have:=hL.last.2;rwa[hLn,Nat.add_sub_cancel]at this);have HE:Hid ((bs r e).ht=(n:Int)):=h_ (by rw[hn];rfl);have HLR:=h_ hL;clear hLn hL hn he;generalize bs r e=E at*;clear e;have ze:=dc hE;have z0:=dc di;have hB:=Below.refl w.heap.size w;obtain⟨e1,he1⟩:∃e1:Int,e1=(n:Int)-1:=⟨_,rfl⟩;have hw1:IntKind.i64.wrap ((n:Int)-1)=e1:=by rw[IntKind.wrap_i64];omega
 have R8:=h_ he1;clear he1;go_enter Tryz.func55,Tryz.ntmps55;go_wp2_with fail
 refine(KA.out _ hB).mono ?_;rintro x v1 ⟨rfl,hb⟩;replace hB:=ah hB hb;clear hb;have hnew:=gS v1;have hX:=mm v1 E;have hb3:=lQ v1 60 Tryz.zeroCells60 (bU E);go_upto_region 2 with(with_reducible refine iB rfl _ _ rfl _ _ E rfl rfl rfl ze hnew z0 ?_)
 generalize World.setRow _ _ _=v2 at*;replace hB:=ah hB hb3;have c1:=br.ht hX hE HE;clear hb3 hnew KA;have hmk:=fun w=>Hm n h9 w
 go_upto_region 5 with fail
 generalize hw3:World.alloc _ _=v3;have hB3:Bl w v3:=by rw[<-hw3];exact hB.alloc hB.size _
 have hG:Has v3 v2.heap.size (fF L n 0).toArray 3:=by rw[<-hw3,NA Xa.out];exact Has.new _ _
 obtain⟨g,hg⟩:∃g,g=v2.heap.size:=⟨_,rfl⟩;rw[<-hg]at hG|-;have HG:Hid (w.heap.size<=g):=h_ (by rw[hg];exact hB.size);clear hw3 hg hB c1 hmk hX;go_wp2_with fail
 go_loopw [1,22] (fun v u wr=>∃(i:Nat)(x:Int),i<=n/\v=i_ x/\u=i_ i/\Hid (L[n-i]?=some x)/\Has wr g (fF L n i).toArray 3/\Bl w wr) (fun _ u _=>n-(intOf u).toNat)
 case atStart=>exact⟨0,(j:Int),by omega,rfl,rfl,HL0,hG,hB3⟩
 case round=>
  clear hG hB3;obtain⟨i,x,hi,rfl,rfl,HX,hG,hB⟩:=hrel;by_cases hlt:i<n
  ·obtain⟨q,hq⟩:∃q,q=n-1-i:=⟨_,rfl⟩;have hw2:IntKind.i64.wrap (e1-(i:Int))=(q:Int):=by have:=R8.out;rw[IntKind.wrap_i64];omega
   have Zz:q<n:=by omega
   have HQ:=h_ hq;have hup:Up M (j:Int) (n-i) x:=⟨L,HLR.out,HX.out⟩;obtain⟨m,d,rfl,hd,hdl⟩:=hup.place hM
   have HU:Hid (L[n-(i+1)]?=some d.up):=h_ (by
    obtain⟨K,k1,k2⟩:=hup.trans (Up.ahead hM hd (by omega)).1;rw[k1.RG HLR.out,hdl]at k2;rw[show n-(i+1)=n-i-1 by omega];exact k2)
   have WJ:=KU m d hd;have hf:wr.frozen? ⟨g,q,none⟩=false:=Has.free hG q;have hc:∃u,wr.cell? ⟨g,q,none⟩=some u:=⟨_,(Has.cell hG q).trans (Array.getElem?_eq_getElem (by rw[List.size_toArray,Qj L n i Xa.out hi];exact Zz))⟩;obtain⟨u,hc⟩:=hc
   have hG2:Has (wr.setCell ⟨g,q,none⟩ (i_ m)) g (fF L n (i+1)).toArray 3:=by
    have:=Has.set (i:=q) hG (i_ m);rw[HQ.out,NH hlt HX.out,<-HQ.out]at this;exact this
   have hB2:Bl w (wr.setCell ⟨g,q,none⟩ (i_ m)):=hB.setCell HG.out _;clear hq hup hd hdl HX hG hB;generalize d.up=z at*;go_wp2_with (with_reducible refine IJ rfl _ _ rfl ⟨g,q,none⟩ (m:Int) _ rfl rfl hf hc ?_)
   generalize World.setCell _ _ _=v4 at*;clear hf hc;refine ar (WJ.out _ hB2) fun v5 hb=>?_;have hG3:=cu hb hG2 (Has.lt hG2);replace hB2:=ah hB2 hb;clear hb hG2;go_wp2_with fail
   go_roundw
   case rel=>exact⟨i+1,z,by omega,rfl,by go_num,HU,hG3,hB2⟩
   case measure=>simp[intOf];omega
  ·obtain rfl:i=n:=by omega
   rw[Dg]at hG;go_wp2_with fail
   go_ret;exact⟨g,rfl,HG.out,hG,hB⟩
theorem xX{w:World}{F:Nat->Prop}{b:Nat}{r:Ru}{M:List aq}{ls:List Int}(h:gz w F b r M ls)(hM:Ok r M)(WE:M.length<=900)(j:Nat)(e:aq)(he:M[j]?=some e)(L:List Int)(hL:Row M (j:Int) L):aK 55 #[af b,i_ j] w fun x w'=>∃g,x=.returned (.slice (aX g) e.hs.length e.hs.length)/\w.heap.size<=g/\Has w' g ((L.drop 1).map (Value.int .i64)).toArray 3/\Bl w w':=by obtain⟨Fa,ab,_,k2⟩:=h.parts;have h1:=(hM.chain j e he).1;have h2:=(List.getElem?_eq_some_iff.1 he).1;exact F5 _ r M hM j e he _ rfl (by omega) (jS k2 he) L hL w (h_ fun w' hb=>fy (h.below hb) he _ rfl) (fun n e he=>h_ fun w' hb=>DQ (h.below hb) he)
