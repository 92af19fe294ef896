import Derived.Test.YtkbjaadjnbgfbaaGreatDoorBBunQ20
import Derived.Shelf.Spec.BitsCarry
set_option maxRecDepth 100000
set_option maxHeartbeats 4000000
namespace Go.Proofs.YtkbjaadjnbgfbaaGreatDoor.NN
open Go.RowKit
theorem yD(x y c:Nat)(hc:c<=1)(w:World):(callFunc 205 #[ay (x:Int),ay (y:Int),ay (c:Int)]).run Tryz.prog w=.ok (.value (.tuple #[ay (((x+y+c)%18446744073709551616:Nat):Int),ay (((x+y+c)/18446744073709551616:Nat):Int)])) w:=by rw[run_callFunc_extern Tryz.func205 (by kernel_rfl) (by kernel_rfl) (by kernel_rfl) (e:=add64Entry) (by kernel_rfl),run_add64 x y c (by omega) (by omega) (by omega) (by omega)];simp only[Result.andThen];congr 5<;>omega
theorem add(x y:Nat)(hx:x<Nm.ai)(hy:y<Nm.ai)(w:World):ak 184 #[.agg (aa x),.agg (aa y)] w (.tuple #[.agg (aa ((x+y)%Nm.ai)),.bool (decide (Nm.ai<=x+y))]):=by
 go_enter Tryz.func184,Tryz.ntmps184;go_wp2_with fail
 generalize hw1:World.alloc _ _=w1
 have h0:Acc w w1 w.heap.size (w.heap.size+1) (w.heap.size+1+1) (w.heap.size+1+1+1) x y (aw fun _=>0):=by
  rw[<-hw1];exact Acc.start w x y (aw fun _=>0)
 clear hw1;generalize hA:w.heap.size+1+1+1=O at*;generalize hB:w.heap.size+1+1=R at*;generalize hC:w.heap.size+1=B at*;generalize hD:w.heap.size=A at*;have h1:A<B:=by omega
 have h2:B<R:=by omega
 have h3:R<O:=by omega
 have T2:A≠O:=by omega
 have Vn:B≠O:=by omega
 have Ty:R≠O:=by omega
 have hO:w.heap.size<=O:=by omega
 have HO:=h_ hO;have hR:w.heap.size<=R:=by omega
 have HR:=h_ hR;have H1:=h_ T2;have H2:=h_ Vn;have H3:=h_ Ty;clear hA hB hC hO hD hR h1 h2 h3 T2 Vn Ty;go_loopw [7,9] (fun c i wr=>∃(k:Nat)(g:Nat->Nat),k<=4/\i=i_ k/\c=ay (Nm.carry x y k:Nat)/\Acc w wr A B R O x y (aw g)/\Hid (∀j,j<k->g j=Nm.wd (x+y) j)) (fun _ i _=>4-(intOf i).toNat)
 case atStart=>exact⟨0,fun _=>0,by omega,rfl,by rw[Nm.Rm];rfl,h0,h_ fun j hj=>by omega⟩
 case round=>
  obtain⟨k,g,hk,rfl,rfl,hs,HG⟩:=hrel;by_cases hlt:k<4
  ·have hcr:=Nm.ES x y k;have hadd:=yD (Nm.wd x k) (Nm.wd y k) (Nm.carry x y k) hcr;simp only[<-Nm.Dk,<-Nm.O5]at hadd;have ca:=hs.a.num hlt;have cb:=hs.b.num hlt;have co:=hs.o.word hlt;have fo:=hs.o.free k;go_wp2_with fail
   go_region
   go_wp2_with fail
   go_roundw
   case rel=>exact⟨k+1,_,by omega,by go_num,rfl,(hs.R9 k (Nm.wd (x+y) k) hlt H1.out H2.out H3.out HO.out).drew,wP HG⟩
   case measure=>simp[intOf];omega
  ·obtain rfl:k=4:=by omega
   have e:=ko HG;rw[e]at hs;clear e
   go_wp2_with (first
    | (with_reducible refine aK rfl _ rfl _ rfl _ hs.o rfl ?_)
    | (with_reducible refine bg rfl _ _ rfl _ _ rfl rfl _ hs.r rfl ?_))
   refine bodyPost_ret (v:=.tuple #[.agg (aa (x+y)),.bool (!decide ((Nm.carry x y 4:Int)=0))]) (iT Tryz.results184 _ _ _ _ rfl rfl (hs.r.row _)) rfl ⟨?_,below_setRow hs.below HR.out _⟩;rw[Nm.O7 hx hy,BA];exact congrArg (fun b=>Ending.returned (.tuple #[.agg (aa (x+y)),.bool b])) (by rw[<-decide_not];exact decide_eq_decide.2 (by unfold Nm.ai at*;omega))
theorem Jq(x y k:Nat)(hx:x<Nm.ai)(hy:y<Nm.ai)(hk:k<4)(w:World):(callFunc 219 #[ay (Nm.wd x k:Nat),ay (Nm.wd y k:Nat),ay (Nm.borrow x y k:Nat)]).run Tryz.prog w=.ok (.value (.tuple #[ay (Nm.wd (x+Nm.ai-y) k:Nat),ay (Nm.borrow x y (k+1):Nat)])) w:=by rw[Nm.BV x y hx hy hk,Nm.OG,run_callFunc_extern Tryz.func219 (by kernel_rfl) (by kernel_rfl) (by kernel_rfl) (e:=sub64Entry) (by kernel_rfl),run_sub64 _ _ _ (Nm.DR x y k)];rfl
theorem sub(x y:Nat)(hx:x<Nm.ai)(hy:y<Nm.ai)(w:World):ak 209 #[.agg (aa x),.agg (aa y)] w (.tuple #[.agg (aa ((x+Nm.ai-y)%Nm.ai)),.bool (decide (x<y))]):=by
 go_enter Tryz.func209,Tryz.ntmps209;go_wp2_with fail
 generalize hw1:World.alloc _ _=w1
 have h0:Acc w w1 w.heap.size (w.heap.size+1) (w.heap.size+1+1) (w.heap.size+1+1+1) x y (aw fun _=>0):=by
  rw[<-hw1];exact Acc.start w x y (aw fun _=>0)
 clear hw1;generalize hA:w.heap.size+1+1+1=O at*;generalize hB:w.heap.size+1+1=R at*;generalize hC:w.heap.size+1=B at*;generalize hD:w.heap.size=A at*;have h1:A<B:=by omega
 have h2:B<R:=by omega
 have h3:R<O:=by omega
 have T2:A≠O:=by omega
 have Vn:B≠O:=by omega
 have Ty:R≠O:=by omega
 have hO:w.heap.size<=O:=by omega
 have HO:=h_ hO;have hR:w.heap.size<=R:=by omega
 have HR:=h_ hR;have H1:=h_ T2;have H2:=h_ Vn;have H3:=h_ Ty;clear hA hB hC hO hD hR h1 h2 h3 T2 Vn Ty;go_loopw [7,9] (fun c i wr=>∃(k:Nat)(g:Nat->Nat),k<=4/\i=i_ k/\c=ay (Nm.borrow x y k:Nat)/\Acc w wr A B R O x y (aw g)/\Hid (∀j,j<k->g j=Nm.wd (x+Nm.ai-y) j)) (fun _ i _=>4-(intOf i).toNat)
 case atStart=>exact⟨0,fun _=>0,by omega,rfl,by rw[Nm.QY];rfl,h0,h_ fun j hj=>by omega⟩
 case round=>
  obtain⟨k,g,hk,rfl,rfl,hs,HG⟩:=hrel;by_cases hlt:k<4
  ·have hcr:=Nm.DR x y k;have hsub:=Jq x y k hx hy hlt;have ca:=hs.a.num hlt;have cb:=hs.b.num hlt;have co:=hs.o.word hlt;have fo:=hs.o.free k;go_wp2_with fail
   go_region
   go_wp2_with fail
   go_roundw
   case rel=>exact⟨k+1,_,by omega,by go_num,rfl,(hs.R9 k (Nm.wd (x+Nm.ai-y) k) hlt H1.out H2.out H3.out HO.out).drew,wP HG⟩
   case measure=>simp[intOf];omega
  ·obtain rfl:k=4:=by omega
   have e:=ko HG;rw[e]at hs;clear e
   go_wp2_with (first
    | (with_reducible refine aK rfl _ rfl _ rfl _ hs.o rfl ?_)
    | (with_reducible refine bg rfl _ _ rfl _ _ rfl rfl _ hs.r rfl ?_))
   refine bodyPost_ret (v:=.tuple #[.agg (aa (x+Nm.ai-y)),.bool (!decide ((Nm.borrow x y 4:Int)=0))]) (iT Tryz.results209 _ _ _ _ rfl rfl (hs.r.row _)) rfl ⟨?_,below_setRow hs.below HR.out _⟩;rw[Nm.QJ hx hy,BA];exact congrArg (fun b=>Ending.returned (.tuple #[.agg (aa (x+Nm.ai-y)),.bool b])) (by rw[<-decide_not];exact decide_eq_decide.2 (by split<;>omega))
def bp(xs:List Nat):Array Value:=(xs.flatMap fun x=>(aa x).toList).toArray
def item(xs:List Nat)(k:Nat):Nat:=xs[k]?.getD 0
def fi(xs:List Nat):Nat->Nat
 | 0=>0
 | k+1=>(fi xs k+item xs k)%Nm.ai
def fa(xs:List Nat):Nat->Bool
 | 0=>false
 | k+1=>fa xs k||decide (Nm.ai<=fi xs k+item xs k)
theorem MK:∀(xs:List Nat)(k j:Nat),k<xs.length->j<4->(bp xs)[4*k+j]?=some (ay (Nm.wd (item xs k) j:Nat))
 | [],_,_,h,_=>by simp at h
 | x::xs,0,j,_,hj=>by
  have:(bp (x::xs))[j]?=(aa x).toList[j]?:=by
   simp only[bp,List.flatMap_cons,List.getElem?_toArray];rw[List.getElem?_append_left (by simpa[fU]using hj)]
  rw[show 4*0+j=j by omega,this];have:=BG x hj;simpa[item]using this
 | x::xs,k+1,j,h,hj=>by
  have ih:=MK xs k j (by simpa using h) hj
  have:(bp (x::xs))[4*(k+1)+j]?=(bp xs)[4*k+j]?:=by
   simp only[bp,List.flatMap_cons,List.getElem?_toArray];rw[List.getElem?_append_right (by simp[fU];omega)];congr 1;simp[fU];omega
  rw[this,ih];simp[item]
variable{w wr:World}{b R O s:Nat}{xs:List Nat}
theorem OP{t:TypeId}(h:Has w b (bp xs) t){k:Nat}(hk:k<xs.length):w.rangeAt b (4*k) (aa (item xs k)).toList:=fun j v hv=>by
 have hj:j<4:=by
  by_cases hj:j<4;exact hj;rw[List.getElem?_eq_none (by simpa[fU] using hj)]at hv;cases hv
 rw[h.cell,MK xs k j hk hj,<-hv];simpa using(BG (item xs k) hj).symm
theorem K7{ops:Array Oper}{rest:List Oper}{o:Oper}{a:Act}{Q:Exit->Act->World->Prop}(hgd:o.guard=none)(x:Operand)(ho:o.op=.load 26 x)(b k:Nat)(xs:List Nat)(hk:k<xs.length)(hx:a.eval x=.pointer (some ⟨b,k*4,none⟩))(hg:Has w b (bp xs) 26)(h:wpList Tryz.prog ops Q rest (a.put o.dst (.agg (aa (item xs k)))) w):wpList Tryz.prog ops Q (o::rest) a w:=
 wpList_load_mid hgd 26 x ho b (k*4) hx (aa (item xs k)).toList _ (by rw[Nat.mul_comm];exact OP hg hk) Tryz.underlying26 rfl cy (by rw[Array.toArray_toList];exact h)
structure Sm (w wr:World) (b R O:Nat) (xs:List Nat) (s:Nat):Prop where
 below:Bl w wr
 l:Has wr b (bp xs) 26
 r:Has wr R (aa 0) 26
 o:Has wr O (aa s) 26
theorem Sm.on{w':World}(h:Sm w wr b R O xs s)(hb:Bl wr w'):Sm w w' b R O xs s:=⟨ah h.below hb,h.l.on hb,h.r.on hb,h.o.on hb⟩
theorem Sm.new(h:Sm w wr b R O xs s)(o:Obj)(cs:Array Value):Sm w ((wr.alloc o).setRow wr.heap.size cs) b R O xs s:=
 let h':=h.on (bf.alloc (Nat.le_refl _) o)
 ⟨below_setRow h'.below (h.below.size) _,h'.l.R1 _ _ (Nat.ne_of_lt h.l.lt),h'.r.R1 _ _ (Nat.ne_of_lt h.r.lt),h'.o.R1 _ _ (Nat.ne_of_lt h.o.lt)⟩
theorem Sm.put(h:Sm w wr b R O xs s)(s':Nat)(hb:b≠O)(hR:R≠O)(hO:w.heap.size<=O):Sm w (wr.setRow O (aa s')) b R O xs s':=⟨below_setRow h.below hO _,h.l.R1 _ _ hb,h.r.R1 _ _ hR,h.o.row _⟩
theorem u0(h:∀x∈xs,x<Nm.ai)(k:Nat):item xs k<Nm.ai:=by unfold item;by_cases hk:k<xs.length;rw[List.getElem?_eq_getElem hk];exact h _ (List.getElem_mem hk);rw[List.getElem?_eq_none (by omega)];decide
theorem J8(xs:List Nat):∀k,fi xs k<Nm.ai
 | 0=>show 0<Nm.ai by decide
 | k+1=>Nat.mod_lt _ (show 0<Nm.ai by decide)
theorem sum(b:Nat)(xs:List Nat)(hx:∀x∈xs,x<Nm.ai)(n:Nat)(hn:n=xs.length)(hmax:n<=1000)(w:World)(hL:Has w b (bp xs) 26):ak 160 #[.slice (aT b) n n] w (.tuple #[.agg (aa (fi xs n)),.bool (fa xs n)]):=by
 have HN:=h_ hn;clear hn;go_enter Tryz.func160,Tryz.ntmps160;go_wp2_with fail
 generalize hw1:World.alloc _ _=w1
 have h0:Sm w w1 b w.heap.size (w.heap.size+1) xs 0:=by
  rw[<-hw1];exact⟨aY.alloc (by simp) _,(hL.alloc _).alloc _,(Has.new _ _).alloc _,Has.R6 _ _ _⟩
 have hbl:=hL.lt;clear hw1 hL;generalize hB:w.heap.size+1=O at*;generalize hC:w.heap.size=R at*;have HO:Hid (w.heap.size<=O):=h_ (by omega);have HR:Hid (w.heap.size<=R):=h_ (by omega);have H1:Hid (b≠O):=h_ (by omega);have H3:Hid (R≠O):=h_ (by omega);have HX:=h_ hx;clear hB hC hbl hx;go_loopw [5,12] (fun ab i wr=>∃k:Nat,k<=n/\i=i_ k/\ab=.bool (fa xs k)/\Sm w wr b R O xs (fi xs k)) (fun _ i _=>n-(intOf i).toNat)
 case atStart=>exact⟨0,by omega,rfl,rfl,h0⟩
 case round=>
  obtain⟨k,hk,rfl,rfl,hs⟩:=hrel;by_cases hlt:k<n
  ·have hkx:k<xs.length:=by rw[<-HN.out];exact hlt
   have HK:=h_ hkx;clear hkx
   go_wp2_with (first
    | (with_reducible refine K7 rfl _ rfl b k xs HK.out rfl hs.l ?_)
    | (with_reducible refine bg rfl _ _ rfl _ _ rfl rfl _ (Has.R2 _) rfl ?_)
    | (with_reducible refine aK rfl _ rfl _ rfl _ (hs.new _ _).o rfl ?_)
    | (with_reducible refine aK rfl _ rfl _ rfl _ ((Has.R2 _).row _) rfl ?_))
   refine au (add _ _ (J8 _ _) (u0 HX.out _) _) fun w3 hb3=>?_;have hs3:=(hs.new _ _).on hb3;clear hb3 hs;obtain⟨c,hc⟩:∃c,c=fa xs k:=⟨_,rfl⟩;obtain⟨s,hsd⟩:∃s,s=(fi xs k+item xs k)%Nm.ai:=⟨_,rfl⟩;obtain⟨d,hd⟩:∃d,d=decide (Nm.ai<=fi xs k+item xs k):=⟨_,rfl⟩;have e1:fi xs (k+1)=s:=by rw[hsd];rfl
   have e2:fa xs (k+1)=(c||d):=by rw[hc,hd];rfl
   rw[<-hc,<-hsd,<-hd];have E1:=h_ e1;have E2:=h_ e2;clear hc hsd hd e1 e2;rcases c with _|_
   all_goals
    go_wp2_with (first
     | (with_reducible refine bg rfl _ _ rfl _ _ rfl rfl _ (Has.R2 _) rfl ?_)
     | (with_reducible refine aK rfl _ rfl _ rfl _ ((Has.R2 _).row _) rfl ?_)
     | (with_reducible refine bg rfl _ _ rfl _ _ rfl rfl _ (hs3.new _ _).o rfl ?_))
    go_roundw
    case rel=>exact⟨k+1,by omega,by go_num,by rw[E2.out];simp,by rw[E1.out];exact(hs3.new _ _).put _ H1.out H3.out HO.out⟩
    case measure=>simp[intOf];omega
  ·obtain rfl:k=n:=by omega
   go_wp2_with (first
    | (with_reducible refine aK rfl _ rfl _ rfl _ hs.o rfl ?_)
    | (with_reducible refine bg rfl _ _ rfl _ _ rfl rfl _ hs.r rfl ?_))
   exact bodyPost_ret (v:=.tuple #[.agg (aa (fi xs k)),.bool (fa xs k)]) (iT Tryz.results160 _ _ _ _ rfl rfl (hs.r.row _)) rfl ⟨rfl,below_setRow hs.below HR.out _⟩
