import Derived.Test.YtkbjaadjnbgfbaaGreatDoorCBunQ20
import Derived.Shelf.Spec.BitsCarry
set_option maxRecDepth 100000
set_option maxHeartbeats 4000000
namespace Go.Proofs.YtkbjaadjnbgfbaaGreatDoor.NN
open Go.RowKit
theorem xY(x y c:Nat)(hc:c<=1)(w:World):(callFunc 205 #[ay (x:Int),ay (y:Int),ay (c:Int)]).run Tryz.prog w=.ok (.value (.tuple #[ay (((x+y+c)%18446744073709551616:Nat):Int),ay (((x+y+c)/18446744073709551616:Nat):Int)])) w:=by rw[run_callFunc_extern Tryz.func205 (by kernel_rfl) (by kernel_rfl) (by kernel_rfl) (e:=add64Entry) (by kernel_rfl),run_add64 x y c (by omega) (by omega) (by omega) (by omega)];simp only[Result.andThen];congr 5<;>omega
theorem add(x y:Nat)(hx:x<Nm.ai)(hy:y<Nm.ai)(w:World):an 184 #[.agg (aa x),.agg (aa y)] w (.tuple #[.agg (aa ((x+y)%Nm.ai)),.bool (decide (Nm.ai<=x+y))]):=by
 go_enter Tryz.func184,Tryz.ntmps184;go_wp2_with fail
 generalize hw1:World.alloc _ _=w1
 have h0:Acc w w1 w.heap.size (w.heap.size+1) (w.heap.size+1+1) (w.heap.size+1+1+1) x y (aw fun _=>0):=by
  rw[<-hw1];exact Acc.start w x y (aw fun _=>0)
 clear hw1;generalize hA:w.heap.size+1+1+1=O at*;generalize hB:w.heap.size+1+1=R at*;generalize hC:w.heap.size+1=B at*;generalize hD:w.heap.size=A at*;have h1:A<B:=by omega
 have h2:B<R:=by omega
 have h3:R<O:=by omega
 have S4:A≠O:=by omega
 have Ux:B≠O:=by omega
 have Sy:R≠O:=by omega
 have hO:w.heap.size<=O:=by omega
 have HO:=h_ hO;have hR:w.heap.size<=R:=by omega
 have HR:=h_ hR;have H1:=h_ S4;have H2:=h_ Ux;have H3:=h_ Sy;clear hA hB hC hO hD hR h1 h2 h3 S4 Ux Sy;go_loopw [7,9] (fun c i wr=>∃(k:Nat)(g:Nat->Nat),k<=4/\i=i_ k/\c=ay (Nm.carry x y k:Nat)/\Acc w wr A B R O x y (aw g)/\Hid (∀j,j<k->g j=Nm.wd (x+y) j)) (fun _ i _=>4-(intOf i).toNat)
 case atStart=>exact⟨0,fun _=>0,by omega,rfl,by rw[Nm.Qk];rfl,h0,h_ fun j hj=>by omega⟩
 case round=>
  obtain⟨k,g,hk,rfl,rfl,hs,HG⟩:=hrel;by_cases hlt:k<4
  ·have hcr:=Nm.Ig x y k;have hadd:=xY (Nm.wd x k) (Nm.wd y k) (Nm.carry x y k) hcr;simp only[<-Nm.AF,<-Nm.OA]at hadd;have ca:=hs.a.num hlt;have cb:=hs.b.num hlt;have co:=hs.o.word hlt;have fo:=hs.o.free k;go_wp2_with fail
   go_region
   go_wp2_with fail
   go_roundw
   case rel=>exact⟨k+1,_,by omega,by go_num,rfl,(hs.Rk k (Nm.wd (x+y) k) hlt H1.out H2.out H3.out HO.out).drew,wg HG⟩
   case measure=>simp[intOf];omega
  ·obtain rfl:k=4:=by omega
   have e:=kh HG;rw[e]at hs;clear e
   go_wp2_with (first
    | (with_reducible refine aJ rfl _ rfl _ rfl _ hs.o rfl ?_)
    | (with_reducible refine aZ rfl _ _ rfl _ _ rfl rfl _ hs.r rfl ?_))
   refine bodyPost_ret (v:=.tuple #[.agg (aa (x+y)),.bool (!decide ((Nm.carry x y 4:Int)=0))]) (iN Tryz.results184 _ _ _ _ rfl rfl (hs.r.row _)) rfl ⟨?_,below_setRow hs.below HR.out _⟩;rw[Nm.PT hx hy,Cn];exact congrArg (fun b=>Ending.returned (.tuple #[.agg (aa (x+y)),.bool b])) (by rw[<-decide_not];exact decide_eq_decide.2 (by unfold Nm.ai at*;omega))
theorem L9(x y k:Nat)(hx:x<Nm.ai)(hy:y<Nm.ai)(hk:k<4)(w:World):(callFunc 219 #[ay (Nm.wd x k:Nat),ay (Nm.wd y k:Nat),ay (Nm.borrow x y k:Nat)]).run Tryz.prog w=.ok (.value (.tuple #[ay (Nm.wd (x+Nm.ai-y) k:Nat),ay (Nm.borrow x y (k+1):Nat)])) w:=by rw[Nm.CH x y hx hy hk,Nm.Ni,run_callFunc_extern Tryz.func219 (by kernel_rfl) (by kernel_rfl) (by kernel_rfl) (e:=sub64Entry) (by kernel_rfl),run_sub64 _ _ _ (Nm.E' x y k)];rfl
theorem sub(x y:Nat)(hx:x<Nm.ai)(hy:y<Nm.ai)(w:World):an 209 #[.agg (aa x),.agg (aa y)] w (.tuple #[.agg (aa ((x+Nm.ai-y)%Nm.ai)),.bool (decide (x<y))]):=by
 go_enter Tryz.func209,Tryz.ntmps209;go_wp2_with fail
 generalize hw1:World.alloc _ _=w1
 have h0:Acc w w1 w.heap.size (w.heap.size+1) (w.heap.size+1+1) (w.heap.size+1+1+1) x y (aw fun _=>0):=by
  rw[<-hw1];exact Acc.start w x y (aw fun _=>0)
 clear hw1;generalize hA:w.heap.size+1+1+1=O at*;generalize hB:w.heap.size+1+1=R at*;generalize hC:w.heap.size+1=B at*;generalize hD:w.heap.size=A at*;have h1:A<B:=by omega
 have h2:B<R:=by omega
 have h3:R<O:=by omega
 have S4:A≠O:=by omega
 have Ux:B≠O:=by omega
 have Sy:R≠O:=by omega
 have hO:w.heap.size<=O:=by omega
 have HO:=h_ hO;have hR:w.heap.size<=R:=by omega
 have HR:=h_ hR;have H1:=h_ S4;have H2:=h_ Ux;have H3:=h_ Sy;clear hA hB hC hO hD hR h1 h2 h3 S4 Ux Sy;go_loopw [7,9] (fun c i wr=>∃(k:Nat)(g:Nat->Nat),k<=4/\i=i_ k/\c=ay (Nm.borrow x y k:Nat)/\Acc w wr A B R O x y (aw g)/\Hid (∀j,j<k->g j=Nm.wd (x+Nm.ai-y) j)) (fun _ i _=>4-(intOf i).toNat)
 case atStart=>exact⟨0,fun _=>0,by omega,rfl,by rw[Nm.Qc];rfl,h0,h_ fun j hj=>by omega⟩
 case round=>
  obtain⟨k,g,hk,rfl,rfl,hs,HG⟩:=hrel;by_cases hlt:k<4
  ·have hcr:=Nm.E' x y k;have hsub:=L9 x y k hx hy hlt;have ca:=hs.a.num hlt;have cb:=hs.b.num hlt;have co:=hs.o.word hlt;have fo:=hs.o.free k;go_wp2_with fail
   go_region
   go_wp2_with fail
   go_roundw
   case rel=>exact⟨k+1,_,by omega,by go_num,rfl,(hs.Rk k (Nm.wd (x+Nm.ai-y) k) hlt H1.out H2.out H3.out HO.out).drew,wg HG⟩
   case measure=>simp[intOf];omega
  ·obtain rfl:k=4:=by omega
   have e:=kh HG;rw[e]at hs;clear e
   go_wp2_with (first
    | (with_reducible refine aJ rfl _ rfl _ rfl _ hs.o rfl ?_)
    | (with_reducible refine aZ rfl _ _ rfl _ _ rfl rfl _ hs.r rfl ?_))
   refine bodyPost_ret (v:=.tuple #[.agg (aa (x+Nm.ai-y)),.bool (!decide ((Nm.borrow x y 4:Int)=0))]) (iN Tryz.results209 _ _ _ _ rfl rfl (hs.r.row _)) rfl ⟨?_,below_setRow hs.below HR.out _⟩;rw[Nm.ML hx hy,Cn];exact congrArg (fun b=>Ending.returned (.tuple #[.agg (aa (x+Nm.ai-y)),.bool b])) (by rw[<-decide_not];exact decide_eq_decide.2 (by split<;>omega))
def bk(xs:List Nat):Array Value:=(xs.flatMap fun x=>(aa x).toList).toArray
def item(xs:List Nat)(k:Nat):Nat:=xs[k]?.getD 0
def eZ(xs:List Nat):Nat->Nat
 | 0=>0
 | k+1=>(eZ xs k+item xs k)%Nm.ai
def eM(xs:List Nat):Nat->Bool
 | 0=>false
 | k+1=>eM xs k||decide (Nm.ai<=eZ xs k+item xs k)
theorem LL:∀(xs:List Nat)(k j:Nat),k<xs.length->j<4->(bk xs)[4*k+j]?=some (ay (Nm.wd (item xs k) j:Nat))
 | [],_,_,h,_=>by simp at h
 | x::xs,0,j,_,hj=>by
  have:(bk (x::xs))[j]?=(aa x).toList[j]?:=by
   simp only[bk,List.flatMap_cons,List.getElem?_toArray];rw[List.getElem?_append_left (by simpa[fJ]using hj)]
  rw[show 4*0+j=j by omega,this];have:=CJ x hj;simpa[item]using this
 | x::xs,k+1,j,h,hj=>by
  have ih:=LL xs k j (by simpa using h) hj
  have:(bk (x::xs))[4*(k+1)+j]?=(bk xs)[4*k+j]?:=by
   simp only[bk,List.flatMap_cons,List.getElem?_toArray];rw[List.getElem?_append_right (by simp[fJ];omega)];congr 1;simp[fJ];omega
  rw[this,ih];simp[item]
variable{w wr:World}{b R O s:Nat}{xs:List Nat}
theorem Pn{t:TypeId}(h:Has w b (bk xs) t){k:Nat}(hk:k<xs.length):w.rangeAt b (4*k) (aa (item xs k)).toList:=fun j v hv=>by
 have hj:j<4:=by
  by_cases hj:j<4;exact hj;rw[List.getElem?_eq_none (by simpa[fJ] using hj)]at hv;cases hv
 rw[h.cell,LL xs k j hk hj,<-hv];simpa using(CJ (item xs k) hj).symm
theorem Nh{ops:Array Oper}{rest:List Oper}{o:Oper}{a:Act}{Q:Exit->Act->World->Prop}(hgd:o.guard=none)(x:Operand)(ho:o.op=.load 26 x)(b k:Nat)(xs:List Nat)(hk:k<xs.length)(hx:a.eval x=.pointer (some ⟨b,k*4,none⟩))(hg:Has w b (bk xs) 26)(h:wpList Tryz.prog ops Q rest (a.put o.dst (.agg (aa (item xs k)))) w):wpList Tryz.prog ops Q (o::rest) a w:=
 wpList_load_mid hgd 26 x ho b (k*4) hx (aa (item xs k)).toList _ (by rw[Nat.mul_comm];exact Pn hg hk) Tryz.underlying26 rfl cg (by rw[Array.toArray_toList];exact h)
structure Sm (w wr:World) (b R O:Nat) (xs:List Nat) (s:Nat):Prop where
 below:Bl w wr
 l:Has wr b (bk xs) 26
 r:Has wr R (aa 0) 26
 o:Has wr O (aa s) 26
theorem Sm.on{w':World}(h:Sm w wr b R O xs s)(hb:Bl wr w'):Sm w w' b R O xs s:=⟨af h.below hb,h.l.on hb,h.r.on hb,h.o.on hb⟩
theorem Sm.new(h:Sm w wr b R O xs s)(o:Obj)(cs:Array Value):Sm w ((wr.alloc o).setRow wr.heap.size cs) b R O xs s:=
 let h':=h.on (a_.alloc (Nat.le_refl _) o)
 ⟨below_setRow h'.below (h.below.size) _,h'.l.Ra _ _ (Nat.ne_of_lt h.l.lt),h'.r.Ra _ _ (Nat.ne_of_lt h.r.lt),h'.o.Ra _ _ (Nat.ne_of_lt h.o.lt)⟩
theorem Sm.put(h:Sm w wr b R O xs s)(s':Nat)(hb:b≠O)(hR:R≠O)(hO:w.heap.size<=O):Sm w (wr.setRow O (aa s')) b R O xs s':=⟨below_setRow h.below hO _,h.l.Ra _ _ hb,h.r.Ra _ _ hR,h.o.row _⟩
theorem xd(h:∀x∈xs,x<Nm.ai)(k:Nat):item xs k<Nm.ai:=by unfold item;by_cases hk:k<xs.length;rw[List.getElem?_eq_getElem hk];exact h _ (List.getElem_mem hk);rw[List.getElem?_eq_none (by omega)];decide
theorem LS(xs:List Nat):∀k,eZ xs k<Nm.ai
 | 0=>show 0<Nm.ai by decide
 | k+1=>Nat.mod_lt _ (show 0<Nm.ai by decide)
theorem sum(b:Nat)(xs:List Nat)(hx:∀x∈xs,x<Nm.ai)(n:Nat)(hn:n=xs.length)(hmax:n<=1000)(w:World)(hL:Has w b (bk xs) 26):an 160 #[.slice (aW b) n n] w (.tuple #[.agg (aa (eZ xs n)),.bool (eM xs n)]):=by
 have HN:=h_ hn;clear hn;go_enter Tryz.func160,Tryz.ntmps160;go_wp2_with fail
 generalize hw1:World.alloc _ _=w1
 have h0:Sm w w1 b w.heap.size (w.heap.size+1) xs 0:=by
  rw[<-hw1];exact⟨aY.alloc (by simp) _,(hL.alloc _).alloc _,(Has.new _ _).alloc _,Has.Rg _ _ _⟩
 have hbl:=hL.lt;clear hw1 hL;generalize hB:w.heap.size+1=O at*;generalize hC:w.heap.size=R at*;have HO:Hid (w.heap.size<=O):=h_ (by omega);have HR:Hid (w.heap.size<=R):=h_ (by omega);have H1:Hid (b≠O):=h_ (by omega);have H3:Hid (R≠O):=h_ (by omega);have HX:=h_ hx;clear hB hC hbl hx;go_loopw [5,12] (fun ab i wr=>∃k:Nat,k<=n/\i=i_ k/\ab=.bool (eM xs k)/\Sm w wr b R O xs (eZ xs k)) (fun _ i _=>n-(intOf i).toNat)
 case atStart=>exact⟨0,by omega,rfl,rfl,h0⟩
 case round=>
  obtain⟨k,hk,rfl,rfl,hs⟩:=hrel;by_cases hlt:k<n
  ·have hkx:k<xs.length:=by rw[<-HN.out];exact hlt
   have HK:=h_ hkx;clear hkx
   go_wp2_with (first
    | (with_reducible refine Nh rfl _ rfl b k xs HK.out rfl hs.l ?_)
    | (with_reducible refine aZ rfl _ _ rfl _ _ rfl rfl _ (Has.Rb _) rfl ?_)
    | (with_reducible refine aJ rfl _ rfl _ rfl _ (hs.new _ _).o rfl ?_)
    | (with_reducible refine aJ rfl _ rfl _ rfl _ ((Has.Rb _).row _) rfl ?_))
   refine au (add _ _ (LS _ _) (xd HX.out _) _) fun w3 hb3=>?_;have hs3:=(hs.new _ _).on hb3;clear hb3 hs;obtain⟨c,hc⟩:∃c,c=eM xs k:=⟨_,rfl⟩;obtain⟨s,hsd⟩:∃s,s=(eZ xs k+item xs k)%Nm.ai:=⟨_,rfl⟩;obtain⟨d,hd⟩:∃d,d=decide (Nm.ai<=eZ xs k+item xs k):=⟨_,rfl⟩;have e1:eZ xs (k+1)=s:=by rw[hsd];rfl
   have e2:eM xs (k+1)=(c||d):=by rw[hc,hd];rfl
   rw[<-hc,<-hsd,<-hd];have E1:=h_ e1;have E2:=h_ e2;clear hc hsd hd e1 e2;rcases c with _|_
   all_goals
    go_wp2_with (first
     | (with_reducible refine aZ rfl _ _ rfl _ _ rfl rfl _ (Has.Rb _) rfl ?_)
     | (with_reducible refine aJ rfl _ rfl _ rfl _ ((Has.Rb _).row _) rfl ?_)
     | (with_reducible refine aZ rfl _ _ rfl _ _ rfl rfl _ (hs3.new _ _).o rfl ?_))
    go_roundw
    case rel=>exact⟨k+1,by omega,by go_num,by rw[E2.out];simp,by rw[E1.out];exact(hs3.new _ _).put _ H1.out H3.out HO.out⟩
    case measure=>simp[intOf];omega
  ·obtain rfl:k=n:=by omega
   go_wp2_with (first
    | (with_reducible refine aJ rfl _ rfl _ rfl _ hs.o rfl ?_)
    | (with_reducible refine aZ rfl _ _ rfl _ _ rfl rfl _ hs.r rfl ?_))
   exact bodyPost_ret (v:=.tuple #[.agg (aa (eZ xs k)),.bool (eM xs k)]) (iN Tryz.results160 _ _ _ _ rfl rfl (hs.r.row _)) rfl ⟨rfl,below_setRow hs.below HR.out _⟩
