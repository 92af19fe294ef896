import Derived.Test.YtkbjaadjnbgfbaaGreatDoorWBunQ20
import Derived.Shelf.Spec.BitsCarry
set_option maxRecDepth 100000
set_option maxHeartbeats 4000000
namespace Go.Proofs.YtkbjaadjnbgfbaaGreatDoor.NN
open Go.RowKit
theorem add64 (x y c:Nat) (hc:c<=1) (w:World) :
  (callFunc 205 #[iu_ (x:Int),iu_ (y:Int),iu_ (c:Int)]).run Tryz.prog w =
   .ok (.value (.tuple #[iu_ (((x+y+c) % 18446744073709551616:Nat):Int),iu_ (((x+y+c) / 18446744073709551616:Nat):Int)])) w:=by
 rw[run_callFunc_extern Tryz.func205 (by kernel_rfl) (by kernel_rfl) (by kernel_rfl) (e:=add64Entry) (by kernel_rfl),run_add64 x y c (by omega) (by omega) (by omega) (by omega)];simp only[Result.andThen];congr 5 <;> omega
theorem add (x y:Nat) (hx:x<Nm.big) (hy:y<Nm.big) (w:World) :
  Ca_ 184 #[.agg (numC x),.agg (numC y)] w (.tuple #[.agg (numC ((x+y) % Nm.big)),.bool (decide (Nm.big<=x+y))]):=by
 go_enter Tryz.func184,Tryz.ntmps184;go_wp2_with fail
 generalize hw1:World.alloc _ _=w1
 have h0:Acc w w1 w.heap.size (w.heap.size+1) (w.heap.size+1+1) (w.heap.size+1+1+1) x y (cells4 fun _=>0):=by
  rw[<-hw1];exact Acc.start w x y (cells4 fun _=>0)
 clear hw1;generalize hA:w.heap.size+1+1+1=O at *;generalize hB:w.heap.size+1+1=R at *;generalize hC:w.heap.size+1=B at *;generalize hD:w.heap.size=A at *;have h1:A<B:=by omega
 have h2:B<R:=by omega
 have h3:R<O:=by omega
 have hAO:A ≠ O:=by omega
 have hBO:B ≠ O:=by omega
 have hRO:R ≠ O:=by omega
 have hO:w.heap.size<=O:=by omega
 have HO:=h_ hO;have hR:w.heap.size<=R:=by omega
 have HR:=h_ hR;have H1:=h_ hAO;have H2:=h_ hBO;have H3:=h_ hRO;clear hA hB hC hO hD hR h1 h2 h3 hAO hBO hRO;go_loopw [7,9] (fun c i wr=>∃ (k:Nat) (g:Nat->Nat),k<=4/\i = i_ k/\c = iu_ (Nm.carry x y k:Nat)/\Acc w wr A B R O x y (cells4 g)/\Hid (∀j,j<k->g j=Nm.wd (x+y) j)) (fun _ i _=>4 - (intOf i).toNat)
 case atStart=>exact ⟨0,fun _=>0,by omega,rfl,by rw[Nm.qta_];rfl,h0,h_ fun j hj=>by omega⟩
 case round=>
  obtain ⟨k,g,hk,rfl,rfl,hs,HG⟩:=hrel;by_cases hlt:k<4
  ·have hcr:=Nm.qaey_ x y k;have hadd:=add64 (Nm.wd x k) (Nm.wd y k) (Nm.carry x y k) hcr;simp only[<-Nm.wd_add,<-Nm.qtb_] at hadd;have ca:=hs.a.num hlt;have cb:=hs.b.num hlt;have co:=hs.o.word hlt;have fo:=hs.o.free k;go_wp2_with fail
   go_region
   go_wp2_with fail
   go_roundw
   case rel=>exact ⟨k+1,_,by omega,by go_num,rfl,(hs.setWord k (Nm.wd (x+y) k) hlt H1.out H2.out H3.out HO.out).drew,qit_ HG⟩
   case measure=>simp[intOf];omega
  ·obtain rfl:k=4:=by omega
   have e:=qbf_ HG;rw[e] at hs;clear e
   go_wp2_with (first
    | (with_reducible refine qb_ rfl _ rfl _ rfl _ hs.o rfl ?_)
    | (with_reducible refine qc_ rfl _ _ rfl _ _ rfl rfl _ hs.r rfl ?_))
   refine bodyPost_ret (v:=.tuple #[.agg (numC (x+y)),.bool (!decide ((Nm.carry x y 4:Int)=0))]) (qag_ Tryz.results184 _ _ _ _ rfl rfl (hs.r.row _)) rfl ⟨?_,below_setRow hs.below HR.out _⟩;rw[Nm.qtc_ hx hy,qmc_];exact congrArg (fun b=>Ending.returned (.tuple #[.agg (numC (x+y)),.bool b])) (by rw[<-decide_not];exact decide_eq_decide.2 (by unfold Nm.big at *;omega))
theorem sub64 (x y k:Nat) (hx:x<Nm.big) (hy:y<Nm.big) (hk:k<4) (w:World) :
  (callFunc 219 #[iu_ (Nm.wd x k:Nat),iu_ (Nm.wd y k:Nat),iu_ (Nm.borrow x y k:Nat)]).run Tryz.prog w =
   .ok (.value (.tuple #[iu_ (Nm.wd (x+Nm.big - y) k:Nat),iu_ (Nm.borrow x y (k+1):Nat)])) w:=by
 rw[Nm.wd_sub x y hx hy hk,Nm.qqj_,run_callFunc_extern Tryz.func219 (by kernel_rfl) (by kernel_rfl) (by kernel_rfl) (e:=sub64Entry) (by kernel_rfl),run_sub64 _ _ _ (Nm.qoc_ x y k)];rfl
theorem sub (x y:Nat) (hx:x<Nm.big) (hy:y<Nm.big) (w:World) :
  Ca_ 209 #[.agg (numC x),.agg (numC y)] w (.tuple #[.agg (numC ((x+Nm.big - y) % Nm.big)),.bool (decide (x<y))]):=by
 go_enter Tryz.func209,Tryz.ntmps209;go_wp2_with fail
 generalize hw1:World.alloc _ _=w1
 have h0:Acc w w1 w.heap.size (w.heap.size+1) (w.heap.size+1+1) (w.heap.size+1+1+1) x y (cells4 fun _=>0):=by
  rw[<-hw1];exact Acc.start w x y (cells4 fun _=>0)
 clear hw1;generalize hA:w.heap.size+1+1+1=O at *;generalize hB:w.heap.size+1+1=R at *;generalize hC:w.heap.size+1=B at *;generalize hD:w.heap.size=A at *;have h1:A<B:=by omega
 have h2:B<R:=by omega
 have h3:R<O:=by omega
 have hAO:A ≠ O:=by omega
 have hBO:B ≠ O:=by omega
 have hRO:R ≠ O:=by omega
 have hO:w.heap.size<=O:=by omega
 have HO:=h_ hO;have hR:w.heap.size<=R:=by omega
 have HR:=h_ hR;have H1:=h_ hAO;have H2:=h_ hBO;have H3:=h_ hRO;clear hA hB hC hO hD hR h1 h2 h3 hAO hBO hRO;go_loopw [7,9] (fun c i wr=>∃ (k:Nat) (g:Nat->Nat),k<=4/\i = i_ k/\c = iu_ (Nm.borrow x y k:Nat)/\Acc w wr A B R O x y (cells4 g)/\Hid (∀j,j<k->g j=Nm.wd (x+Nm.big - y) j)) (fun _ i _=>4 - (intOf i).toNat)
 case atStart=>exact ⟨0,fun _=>0,by omega,rfl,by rw[Nm.qqi_];rfl,h0,h_ fun j hj=>by omega⟩
 case round=>
  obtain ⟨k,g,hk,rfl,rfl,hs,HG⟩:=hrel;by_cases hlt:k<4
  ·have hcr:=Nm.qoc_ x y k;have hsub:=sub64 x y k hx hy hlt;have ca:=hs.a.num hlt;have cb:=hs.b.num hlt;have co:=hs.o.word hlt;have fo:=hs.o.free k;go_wp2_with fail
   go_region
   go_wp2_with fail
   go_roundw
   case rel=>exact ⟨k+1,_,by omega,by go_num,rfl,(hs.setWord k (Nm.wd (x+Nm.big - y) k) hlt H1.out H2.out H3.out HO.out).drew,qit_ HG⟩
   case measure=>simp[intOf];omega
  ·obtain rfl:k=4:=by omega
   have e:=qbf_ HG;rw[e] at hs;clear e
   go_wp2_with (first
    | (with_reducible refine qb_ rfl _ rfl _ rfl _ hs.o rfl ?_)
    | (with_reducible refine qc_ rfl _ _ rfl _ _ rfl rfl _ hs.r rfl ?_))
   refine bodyPost_ret (v:=.tuple #[.agg (numC (x+Nm.big - y)),.bool (!decide ((Nm.borrow x y 4:Int)=0))]) (qag_ Tryz.results209 _ _ _ _ rfl rfl (hs.r.row _)) rfl ⟨?_,below_setRow hs.below HR.out _⟩;rw[Nm.qqk_ hx hy,qmc_];exact congrArg (fun b=>Ending.returned (.tuple #[.agg (numC (x+Nm.big - y)),.bool b])) (by rw[<-decide_not];exact decide_eq_decide.2 (by split <;> omega))
def numRow (xs:List Nat):Array Value:=(xs.flatMap fun x=>(numC x).toList).toArray
def item (xs:List Nat) (k:Nat):Nat:=xs[k]?.getD 0
def sumTo (xs:List Nat):Nat->Nat
 | 0=>0
 | k+1=>(sumTo xs k+item xs k) % Nm.big
def overTo (xs:List Nat):Nat->Bool
 | 0=>false
 | k+1=>overTo xs k || decide (Nm.big<=sumTo xs k+item xs k)
theorem qkm_:∀ (xs:List Nat) (k j:Nat),k<xs.length->j<4->(numRow xs)[4*k+j]?=some (iu_ (Nm.wd (item xs k) j:Nat))
 | [],_,_,h,_=>by simp at h
 | x :: xs,0,j,_,hj=>by
  have:(numRow (x :: xs))[j]?=(numC x).toList[j]?:=by
   simp only[numRow,List.flatMap_cons,List.getElem?_toArray];rw[List.getElem?_append_left (by simpa [qau_] using hj)]
  rw[show 4*0+j=j by omega,this];have:=qmb_ x hj;simpa [item] using this
 | x :: xs,k+1,j,h,hj=>by
  have ih:=qkm_ xs k j (by simpa using h) hj
  have:(numRow (x :: xs))[4*(k+1)+j]?=(numRow xs)[4*k+j]?:=by
   simp only[numRow,List.flatMap_cons,List.getElem?_toArray];rw[List.getElem?_append_right (by simp[qau_];omega)];congr 1;simp[qau_];omega
  rw[this,ih];simp[item]
variable {w wr:World} {b R O s:Nat} {xs:List Nat}
theorem qml_ {t:TypeId} (h:Has w b (numRow xs) t) {k:Nat} (hk:k<xs.length):w.rangeAt b (4*k) (numC (item xs k)).toList:=fun j v hv=>by
 have hj:j<4:=by
  by_cases hj:j<4;exact hj;rw[List.getElem?_eq_none (by simpa [qau_] using hj)] at hv;cases hv
 rw[h.cell,qkm_ xs k j hk hj,<-hv];simpa using (qmb_ (item xs k) hj).symm
theorem qyw_ {ops:Array Oper} {rest:List Oper} {o:Oper} {a:Act} {Q:Exit->Act->World->Prop} (hgd:o.guard=none) (x:Operand) (ho:o.op = .load 26 x) (b k:Nat) (xs:List Nat) (hk:k<xs.length) (hx:a.eval x = .pointer (some ⟨b,k*4,none⟩)) (hg:Has w b (numRow xs) 26)
  (h:wpList Tryz.prog ops Q rest (a.put o.dst (.agg (numC (item xs k)))) w):wpList Tryz.prog ops Q (o :: rest) a w :=
 wpList_load_mid hgd 26 x ho b (k*4) hx (numC (item xs k)).toList _ (by rw[Nat.mul_comm];exact qml_ hg hk) Tryz.underlying26 rfl infoNum (by rw[Array.toArray_toList];exact h)
structure Sm (w wr:World) (b R O:Nat) (xs:List Nat) (s:Nat):Prop where
 below:Bl w wr
 l:Has wr b (numRow xs) 26
 r:Has wr R (numC 0) 26
 o:Has wr O (numC s) 26
theorem Sm.on {w':World} (h:Sm w wr b R O xs s) (hb:Bl wr w'):Sm w w' b R O xs s :=
 ⟨tb_ h.below hb,h.l.on hb,h.r.on hb,h.o.on hb⟩
theorem Sm.new (h:Sm w wr b R O xs s) (o:Obj) (cs:Array Value):Sm w ((wr.alloc o).setRow wr.heap.size cs) b R O xs s :=
 let h':=h.on (br_.alloc (Nat.le_refl _) o)
 ⟨below_setRow h'.below (h.below.size) _,h'.l.otherRow _ _ (Nat.ne_of_lt h.l.lt),h'.r.otherRow _ _ (Nat.ne_of_lt h.r.lt),h'.o.otherRow _ _ (Nat.ne_of_lt h.o.lt)⟩
theorem Sm.put (h:Sm w wr b R O xs s) (s':Nat) (hb:b ≠ O) (hR:R ≠ O) (hO:w.heap.size<=O):Sm w (wr.setRow O (numC s')) b R O xs s' :=
 ⟨below_setRow h.below hO _,h.l.otherRow _ _ hb,h.r.otherRow _ _ hR,h.o.row _⟩
theorem item_lt (h:∀ x ∈ xs,x<Nm.big) (k:Nat):item xs k<Nm.big:=by
 unfold item;by_cases hk:k<xs.length;rw[List.getElem?_eq_getElem hk];exact h _ (List.getElem_mem hk);rw[List.getElem?_eq_none (by omega)];decide
theorem qaga_ (xs:List Nat):∀ k,sumTo xs k<Nm.big
 | 0=>show 0<Nm.big by decide
 | k+1=>Nat.mod_lt _ (show 0<Nm.big by decide)
theorem sum (b:Nat) (xs:List Nat) (hx:∀ x ∈ xs,x<Nm.big) (n:Nat) (hn:n=xs.length) (hmax:n<=1000) (w:World) (hL:Has w b (numRow xs) 26) :
  Ca_ 160 #[.slice (sp_ b) n n] w (.tuple #[.agg (numC (sumTo xs n)),.bool (overTo xs n)]):=by
 have HN:=h_ hn;clear hn;go_enter Tryz.func160,Tryz.ntmps160;go_wp2_with fail
 generalize hw1:World.alloc _ _=w1
 have h0:Sm w w1 b w.heap.size (w.heap.size+1) xs 0:=by
  rw[<-hw1];exact ⟨ba_.alloc (by simp) _,(hL.alloc _).alloc _,(Has.new _ _).alloc _,Has.new1 _ _ _⟩
 have hbl:=hL.lt;clear hw1 hL;generalize hB:w.heap.size+1=O at *;generalize hC:w.heap.size=R at *;have HO:Hid (w.heap.size<=O):=h_ (by omega);have HR:Hid (w.heap.size<=R):=h_ (by omega);have H1:Hid (b ≠ O):=h_ (by omega);have H3:Hid (R ≠ O):=h_ (by omega);have HX:=h_ hx;clear hB hC hbl hx;go_loopw [5,12] (fun ab i wr=>∃ k:Nat,k<=n/\i = i_ k/\ab = .bool (overTo xs k)/\Sm w wr b R O xs (sumTo xs k)) (fun _ i _=>n - (intOf i).toNat)
 case atStart=>exact ⟨0,by omega,rfl,rfl,h0⟩
 case round=>
  obtain ⟨k,hk,rfl,rfl,hs⟩:=hrel;by_cases hlt:k<n
  ·have hkx:k<xs.length:=by rw[<-HN.out];exact hlt
   have HK:=h_ hkx;clear hkx
   go_wp2_with (first
    | (with_reducible refine qyw_ rfl _ rfl b k xs HK.out rfl hs.l ?_)
    | (with_reducible refine qc_ rfl _ _ rfl _ _ rfl rfl _ (Has.newz _) rfl ?_)
    | (with_reducible refine qb_ rfl _ rfl _ rfl _ (hs.new _ _).o rfl ?_)
    | (with_reducible refine qb_ rfl _ rfl _ rfl _ ((Has.newz _).row _) rfl ?_))
   refine (add _ _ (qaga_ _ _) (item_lt HX.out _) _).mono ?_;rintro e w3 ⟨rfl,hb3⟩;have hs3:=(hs.new _ _).on hb3;clear hb3 hs;obtain ⟨c,hc⟩:∃ c,c=overTo xs k:=⟨_,rfl⟩;obtain ⟨s,hsd⟩:∃ s,s=(sumTo xs k+item xs k) % Nm.big:=⟨_,rfl⟩;obtain ⟨d,hd⟩:∃ d,d=decide (Nm.big<=sumTo xs k+item xs k):=⟨_,rfl⟩;have e1:sumTo xs (k+1)=s:=by rw[hsd];rfl
   have e2:overTo xs (k+1)=(c || d):=by rw[hc,hd];rfl
   rw[<-hc,<-hsd,<-hd];have E1:=h_ e1;have E2:=h_ e2;clear hc hsd hd e1 e2;rcases c with _|_
   all_goals
    go_wp2_with (first
     | (with_reducible refine qc_ rfl _ _ rfl _ _ rfl rfl _ (Has.newz _) rfl ?_)
     | (with_reducible refine qb_ rfl _ rfl _ rfl _ ((Has.newz _).row _) rfl ?_)
     | (with_reducible refine qc_ rfl _ _ rfl _ _ rfl rfl _ (hs3.new _ _).o rfl ?_))
    go_roundw
    case rel=>exact ⟨k+1,by omega,by go_num,by rw[E2.out];simp,by rw[E1.out];exact (hs3.new _ _).put _ H1.out H3.out HO.out⟩
    case measure=>simp[intOf];omega
  ·obtain rfl:k=n:=by omega
   go_wp2_with (first
    | (with_reducible refine qb_ rfl _ rfl _ rfl _ hs.o rfl ?_)
    | (with_reducible refine qc_ rfl _ _ rfl _ _ rfl rfl _ hs.r rfl ?_))
   exact bodyPost_ret (v:=.tuple #[.agg (numC (sumTo xs k)),.bool (overTo xs k)]) (qag_ Tryz.results160 _ _ _ _ rfl rfl (hs.r.row _)) rfl ⟨rfl,below_setRow hs.below HR.out _⟩
end Go.Proofs.YtkbjaadjnbgfbaaGreatDoor.NN
