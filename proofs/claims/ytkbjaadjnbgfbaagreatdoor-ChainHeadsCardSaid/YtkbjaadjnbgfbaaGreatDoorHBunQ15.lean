import Derived.Test.YtkbjaadjnbgfbaaGreatDoorHDigTake
import Derived.Test.YtkbjaadjnbgfbaaGreatDoorHBunQ14
import Derived.Deep.RegionHeld3
set_option maxRecDepth 100000
set_option maxHeartbeats 4000000
namespace Go.Proofs.YtkbjaadjnbgfbaaGreatDoor
open Go.RowKit Mem VH
theorem Dp(l:List UInt8)(i:Nat)(b:UInt8):(ae l).setIfInBounds i (.int .u8 (b.toNat:Int))=ae (l.set i b):=by
 apply j8;intro j;simp only[ae,ia,dg,eK,List.getElem?_set,iR,dS];by_cases h:i=j
 ·subst h;by_cases h2:i<l.length<;>simp[h2]
 simp[h]
theorem xJ(n i:Nat)(X:Int)(hX:X=((n:Int)*8)/2^(8*(7-i))):X%256=((UInt8.ofNat (n*8/2^(8*(7-i))%256)).toNat:Int):=by
 have e:X=((n*8/2^(8*(7-i)):Nat):Int):=by rw[hX];simp
 rw[e,mB];omega
def mY(n k:Nat):List UInt8:=(bY n).take k++List.replicate (8-k) 0
theorem pZ(n:Nat):(bY n).length=8:=by simp[bY]
theorem R5(n k:Nat)(hk:k<=8):(mY n k).length=8:=by simp[mY,pZ];omega
theorem Rv(n k:Nat)(hk:k<8):(mY n k).set k (UInt8.ofNat (n*8/2^(8*(7-k))%256))=mY n (k+1):=by
 have hl:((bY n).take k).length=k:=by simp[pZ];omega
 have hg:(bY n)[k]'(by rw[pZ];exact hk)=UInt8.ofNat (n*8/2^(8*(7-k))%256):=by simp[bY]
 unfold mY
 rw[jM _ _ (by omega),hl,iu,show 8-k=(8-(k+1))+1 by omega,List.replicate_succ,aZ,
  mX (by rw[pZ];exact hk),hg,iS]
 rfl
def zs(z:Nat):ByteArray:=⟨(List.replicate z 0).toArray⟩
def lb(n:Nat):ByteArray:=⟨(bY n).toArray⟩
theorem xx(z:Nat):(zs z).size=z:=by show(List.replicate z (0:UInt8)).toArray.size=z;simp
theorem BD(n:Nat):(lb n).size=8:=by show(bY n).toArray.size=8;simp[pZ]
theorem Ge(n z:Nat)(hz:z=(119-n%64)%64):(⟨#[128]⟩++zs z++lb n:ByteArray)=⟨(VH.ending n).toArray⟩:=by apply ByteArray.ext;rw[pR,pR];apply il.1;rw[Array.toList_append,Array.toList_append,zs,lb,VH.ending,<-hz];rfl
theorem Oe(z:Nat)(hz:z<64)(w:World):ar 221 #[.string ⟨#[0]⟩,.int .i64 (z:Int)] w (.string (zs z)):=by
 have h:=Tryz.strings_Repeat ⟨#[0]⟩ z w (by omega) (by show 1*z<=_;omega)
 have e:Lib.repeatL [0] z=List.replicate z 0:=by
  have:=Lib.repeatL_replicate 0 1 z;rw[fx]at this;exact this
 rw[show(⟨#[0]⟩:ByteArray).data.toList=[0] from rfl,e]at h;exact h
theorem ER(wx:World)(b:Nat)(l:List UInt8)(c:Nat)(h:Has wx b (ae l) 5):(Go.convert 174 9 (.slice (bs b) l.length c)).run Tryz.prog wx=.ok (.string ⟨l.toArray⟩) wx:=by
 have:=run_convert_bytes_arg (P:=Tryz.prog) wx 174 5 Tryz.underlying174 Tryz.underlying5 b 0 l.length c (l.map fun b=>(b.toNat:Int)) (by simp) (fun i hi=>by
  rw[cy,h.byte i hi];simp[hi]) 9 Tryz.underlying9
 rw[this];simp[strOfNums,Function.comp_def]
theorem ending(n:Nat)(hn:n<=1152921504606846976)(w:World):ar 212 #[.int .u64 n] w (.string ⟨(VH.ending n).toArray⟩):=by
 have hmk:∀w,(Instr.makeSlice 174 (.int .i64 8) (.int .i64 8)).run Tryz.prog w=.ok (.slice (some ⟨w.heap.size,0,none⟩) 8 8) (w.alloc (.cells (ae (List.replicate 8 0)) 5)):=fun _=>by kernel_rfl
 go_enter Tryz.func212,Tryz.ntmps212;go_wp2_with fail
 obtain⟨z,hz0⟩:∃z:Nat,z=(119-n%64)%64:=⟨_,rfl⟩;have hz:(119-(n:Int)%64)%64=(z:Int):=by omega
 rw[hz];have HZ0:=h_ hz0;have aa7:z<64:=by omega
 clear hz hz0;go_loopw [11] (fun i wr=>∃k:Nat,k<=8/\i=.int .i64 k/\Bl w wr/\Has wr w.heap.size (ae (mY n k)) 5) (fun i _=>8-(intOf i).toNat)
 case atStart=>exact⟨0,by omega,rfl,cu,Has.new _ _⟩
 case round=>
  obtain⟨k,hk,rfl,bj,hH⟩:=hrel;by_cases hlt:k<8
  ·have ck:=hH.byte k (by rw[R5 n k hk];exact hlt);have cf:=hH.free k;go_wp2_with fail
   rw[xJ n k _ rfl];refine⟨⟨k+1,by omega,by go_num,bj.setCell (au _) _,?_⟩,by simp[intOf];omega⟩;rw[<-Rv n k hlt,<-Dp];exact hH.set _
  ·obtain rfl:k=8:=by omega
   go_wp2_with fail
   have aa8:mY n 8=bY n:=by simp[mY,List.take_of_length_le,pZ]
   rw[aa8]at hH
   have ak6:∀wx,Has wx w.heap.size (ae (bY n)) 5->(Go.convert 174 9 (.slice (some ⟨w.heap.size,0,none⟩) 8 8)).run Tryz.prog wx=.ok (.string (lb n)) wx:=fun wx h=>by
    have:=ER wx w.heap.size (bY n) 8 h;rwa[pZ]at this
   have hwr:IntKind.i64.wrap (z:Int)=(z:Int):=IntWalk.i64_in _ (by omega);clear aa8;have hs1:=xx z;have hs2:=BD n;have hs3:(zs z).size<=64:=by omega
   have hs4:(lb n).size<=8:=by omega
   clear hs1 hs2;have hHd:Has wr.drew w.heap.size (ae (bY n)) 5:=hH;go_region_with ((go_at_call 221;(with_reducible refine(Oe z aa7 _).mono ?_);rintro e w1 ⟨rfl,hb1⟩;have h1:=dz hb1 hH hH.lt))
   all_goals
    (go_wp2_with fail);go_ret;refine⟨?_,bj.drew.trans (hb1.mono bj.size)⟩;rw[<-Ge n z HZ0.out];rfl
def fU(s:S8)(k:Nat):List UInt8:=(nameOf s).take k++List.replicate (32-k) 0
theorem ru(s:S8):(nameOf s).length=32:=by simp[nameOf]
theorem JS(s:S8)(k:Nat)(hk:k<=32):(fU s k).length=32:=by simp[fU,ru];omega
theorem LK(s:S8)(k:Nat)(hk:k<32):(fU s k).set k (UInt8.ofNat ((s.at (k/4)).toNat/2^(24-8*(k%4))%256))=fU s (k+1):=by
 have hl:((nameOf s).take k).length=k:=by simp[ru];omega
 have hg:(nameOf s)[k]'(by rw[ru];exact hk)=UInt8.ofNat ((s.at (k/4)).toNat/2^(24-8*(k%4))%256):=by simp[nameOf]
 unfold fU
 rw[jM _ _ (by omega),hl,iu,show 32-k=(32-(k+1))+1 by omega,List.replicate_succ,aZ,
  mX (by rw[ru];exact hk),hg,iS]
 rfl
theorem uN(x:BitVec 32)(m:Nat):Wd.n x/(2:Int)^m%256=((UInt8.ofNat (x.toNat/2^m%256)).toNat:Int):=by
 have e:Wd.n x/(2:Int)^m=((x.toNat/2^m:Nat):Int):=by unfold Wd.n;simp
 rw[e,mB];omega
theorem rY:(Tryz.prog.info? 198).map (·.size)=some 8:=by kernel_rfl
theorem cp:(Tryz.prog.info? 28).map (·.size)=some 32:=by kernel_rfl
theorem y3(f:Nat->ef)(k:Nat)(hk:k<8)(w:World):(Instr.index 198 (.agg #[.int .u32 (Wd.n (f 0)),.int .u32 (Wd.n (f 1)),.int .u32 (Wd.n (f 2)),.int .u32 (Wd.n (f 3)),.int .u32 (Wd.n (f 4)),.int .u32 (Wd.n (f 5)),.int .u32 (Wd.n (f 6)),.int .u32 (Wd.n (f 7))]) (.int .i64 (k:Int))).run Tryz.prog w=.ok (.int .u32 (Wd.n (f k))) w:=by
 obtain rfl|rfl|rfl|rfl|rfl|rfl|rfl|rfl:k=0\/k=1\/k=2\/k=3\/k=4\/k=5\/k=6\/k=7:=by omega
 all_goals rfl
theorem qX(f:Nat->ef)(k:Nat)(hk:k<8):(S8.of f).at k=f k:=by
 obtain rfl|rfl|rfl|rfl|rfl|rfl|rfl|rfl:k=0\/k=1\/k=2\/k=3\/k=4\/k=5\/k=6\/k=7:=by omega
 all_goals rfl
structure BR (w wr:World) (f:Nat->ef) (k:Nat):Prop where
 below:Bl w wr
 res:∃cs,cs.size=32/\Has wr w.heap.size cs 28
 out:Has wr (w.heap.size+1) (ae (fU (S8.of f) k)) 28
variable{w wr w1:World}{f g:Nat->ef}{k j b wb sb:Nat}
theorem BR.next(h:BR w wr f (4*k+j))(hk:k<8)(hj:j<4):BR w (wr.setCell ⟨w.heap.size+1,4*k+j,none⟩ (.int .u8 (Wd.n (f k)/(2:Int)^(24-8*j)%256))) f (4*k+(j+1)) where
 below:=h.below.setCell (by simp) _
 res:=by obtain⟨cs,h1,h2⟩:=h.res;exact⟨cs,h1,h2.other _ _ (by simp)⟩
 out:=by
  rw[uN,<-qX f k hk,show 4*k+(j+1)=4*k+j+1 by omega,<-LK _ _ (by omega),show(4*k+j)/4=k by omega,show(4*k+j)%4=j by omega,<-Dp];exact h.out.set _
def ky:Array Value:=#[.int .u8 0,.int .u8 0,.int .u8 0,.int .u8 0,.int .u8 0,.int .u8 0,.int .u8 0,.int .u8 0,.int .u8 0,.int .u8 0,.int .u8 0,.int .u8 0,.int .u8 0,.int .u8 0,.int .u8 0,.int .u8 0,.int .u8 0,.int .u8 0,.int .u8 0,.int .u8 0,.int .u8 0,.int .u8 0,.int .u8 0,.int .u8 0,.int .u8 0,.int .u8 0,.int .u8 0,.int .u8 0,.int .u8 0,.int .u8 0,.int .u8 0,.int .u8 0]
theorem yD:ky.size=32:=rfl
theorem CV(s:S8):ae (fU s 0)=ky:=rfl
theorem BR.start(w:World)(f:Nat->ef):BR w ((w.alloc (.cells ky 28)).alloc (.cells ky 28)) f (4*0+0) where
 below:=cu.alloc (by simp) _
 res:=⟨ky,rfl,(Has.new _ _).alloc _⟩
 out:=by
  rw[show 4*0+0=0 from rfl,CV];have:=Has.new (w:=w.alloc (.cells ky 28)) ky 28;rwa[eZ]at this
theorem name(b:Nat)(f:Nat->ef)(l:List UInt8)(t:Nat)(w:World)(hH:Has w b (aO f l t) 230):ar 213 #[af b] w (.agg (ae (nameOf (S8.of f)))):=by
 have hrange:∀w1,Bl w w1->w1.rangeAt b 0 ((List.range 8).map fun i=>Value.int .u32 (Wd.n (f i))):=fun w1 h1 j v hv=>by
  have hj:j<8:=by
   by_cases h:j<8;exact h;rw[kR (by simp;omega)]at hv;cases hv
  rw[cy,(dz h1 hH hH.lt).cell,oc f l t j hj];simpa[hj]using hv
 have hr2:∀o1 o2,((w.alloc o1).alloc o2).rangeAt b 0 ((List.range 8).map fun i=>Value.int .u32 (Wd.n (f i))):=fun o1 o2=>hrange _ ((cg.alloc (au _) o1).alloc (by simp) o2)
 have HR:=h_ hr2;clear hrange hr2;go_enter Tryz.func213,Tryz.ntmps213;go_wp2_with (with_reducible refine wpList_load_mid rfl 198 _ rfl b 0 rfl ((List.range 8).map fun i=>Value.int .u32 (Wd.n (f i))) _ (HR.out _ _) Tryz.underlying198 rfl (rY.trans (by simp)) ?_)
 go_loopw [11] (fun i wr=>∃k:Nat,k<=8/\i=.int .i64 k/\BR w wr f (4*k+0)) (fun i _=>8-(intOf i).toNat)
 case atStart=>exact⟨0,by omega,rfl,BR.start w f⟩
 case round=>
  obtain⟨k,hk,rfl,hs⟩:=hrel;by_cases hlt:k<8
  ·have hidx:=y3 f k hlt;go_wp2_with fail
   clear hidx;go_loopw [15] (fun i wr=>∃j:Nat,j<=4/\i=.int .i64 j/\BR w wr f (4*k+j)) (fun i _=>4-(intOf i).toNat)
   case atStart=>exact⟨0,by omega,rfl,hs⟩
   case round=>
    obtain⟨j,hj,rfl,ht⟩:=hrel;by_cases hjl:j<4
    ·have c1:=ht.out.byte (4*k+j) (by rw[JS _ _ (by omega)];omega);have c2:=ht.out.free (4*k+j);(go_wp2_with fail);go_roundw
     case rel=>exact⟨j+1,by omega,by go_num,ht.next hlt hjl⟩
     case measure=>simp[intOf];omega
    ·obtain rfl:j=4:=(by omega);(go_wp2_with fail);go_roundw
     case rel=>exact⟨k+1,by omega,by go_num,ht⟩
     case measure=>simp[intOf];omega
  ·obtain rfl:k=8:=by omega
   have hout:=hs.out;have bj:=hs.below;obtain⟨rs,hrs,hres⟩:=hs.res;have e:fU (S8.of f) (4*8+0)=nameOf (S8.of f):=by simp[fU,List.take_of_length_le,ru]
   rw[e]at hout;clear hs e;have HZ:=h_ (oD (nameOf (S8.of f)));have hsz:some (ae (nameOf (S8.of f))).size=some 32:=by rw[nF,ru]
   have HS:=h_ hsz;have HRS:=h_ hrs;clear hsz hrs;generalize hcs:ae (nameOf (S8.of f))=cs at*
   go_wp2_with (first
    | (with_reducible refine iQ rfl 28 _ rfl _ rfl 28 cs (0,0) _ hout.out Tryz.underlying28 rfl (cp.trans HS.out.symm) ?_)
    | (with_reducible refine eI rfl 28 _ _ rfl _ _ rfl rfl 28 _ hres.out (cp.trans HS.out.symm) (HRS.out.trans (Option.some.inj HS.out).symm) HZ.out ?_))
   exact ay (v:=.agg cs) (results_cell_row Tryz.results213 _ _ w.heap.size 28 cs (0,0) _ rfl (hres.row cs).out Tryz.underlying28 rfl (cp.trans HS.out.symm)) rfl ⟨by rw[hcs],below_setRow bj (by omega) _⟩
structure QP (w wr:World) (k:Nat):Prop where
 below:Bl w wr
 hsh:∃g,Has wr w.heap.size (aO g (List.replicate 64 0) 0) 230/\(∀j,j<k->g j=VH.start.at j)
theorem QP.next(h:QP w wr k)(hk:k<8){g:Nat->ef}(hg:Has wr w.heap.size (aO g (List.replicate 64 0) 0) 230)(h1:∀j,j<k->g j=VH.start.at j):QP w (wr.setCell ⟨w.heap.size,k,none⟩ (.int .u32 (Wd.n (VH.start.at k)))).drew (k+1) where
 below:=(h.below.setCell (by simp) _).drew
 hsh:=by
  refine⟨_,by have:=(hg.set (i:=k) (.int .u32 (Wd.n (VH.start.at k)))).drew;rw[Pc _ _ _ _ _ hk]at this;exact this,fun j hj=>?_⟩;unfold dk;by_cases e:j=k;rw[aj e,e];rw[ah e];exact h1 j (by omega)
def tO:Array Value:=aO (fun _=>0) (List.replicate 64 0) 0
theorem qK(w:World):(zeroValue 230).run Tryz.prog w=.ok (.agg tO) w:=by kernel_rfl
theorem new(w:World)(hT:gj w):aU 196 #[] w fun e w'=>e=.returned (.pointer (some ⟨w.heap.size,0,none⟩))/\Bl w w'/\mV w' w.heap.size []:=by
 have hzv:=qK;go_enter Tryz.func196,Tryz.ntmps196;go_wp2_with fail
 clear hzv;go_loopw [4] (fun i wr=>∃k:Nat,k<=8/\i=.int .i64 k/\QP w wr k) (fun i _=>8-(intOf i).toNat)
 case atStart=>exact⟨0,by omega,rfl,cu,_,Has.new _ _,fun j hj=>absurd hj (by omega)⟩
 case round=>
  obtain⟨k,hk,rfl,hs⟩:=hrel;obtain⟨g,hg,h1⟩:=hs.hsh;by_cases hlt:k<8
  ·have H1:=h_ h1;clear h1;have ck:=(hg.cell k).trans (oc g _ _ k hlt);have cf:=hg.free k;have cs:=(hT.below hs.below).s k hlt;go_wp2_with fail
   go_region
   go_wp2_with fail
   exact⟨⟨k+1,by omega,by go_num,hs.next hlt hg H1.out⟩,by simp[intOf];omega⟩
  ·obtain rfl:k=8:=by omega
   have bj:=hs.below
   have hI:mV wr w.heap.size []:=by
    refine⟨g,_,hg,by simp,?_,by simp⟩;show S8.of g=VH.start;unfold S8.of;rw[h1 0 (by omega),h1 1 (by omega),h1 2 (by omega),h1 3 (by omega),h1 4 (by omega),h1 5 (by omega),h1 6 (by omega),h1 7 (by omega)];rfl
   clear h1 hs;go_wp2_with fail
   go_ret;exact⟨rfl,bj,hI⟩
def flat(ps:List ByteArray):List UInt8:=ps.flatMap (·.data.toList)
theorem MJ(ps:List ByteArray)(k:Nat)(hk:k<ps.length):flat (ps.take (k+1))=flat (ps.take k)++ps[k].data.toList:=by unfold flat;rw[mX hk,n0];simp
theorem xm(ps:List ByteArray)(k:Nat):(flat (ps.take k)).length<=(flat ps).length:=by
 have e:flat ps=flat (ps.take k)++flat (ps.drop k):=by unfold flat;rw[<-List.flatMap_append,iN]
 rw[e,aT];omega
def Cu(w:World)(a:Option Addr)(b:Nat)(ps:List ByteArray):Prop:=
 0<ps.length->∃ab ao,a=some ⟨ab,ao,none⟩/\ab≠b/\∀i (hi:i<ps.length),w.cell? ⟨ab,ao+i,none⟩=some (.string ps[i])
theorem write(b:Nat)(m:List UInt8)(a:Option Addr)(ps:List ByteArray)(n c:Nat)(hn:n=ps.length)(w:World)(hT:gj w)(hb1:b≠1)(hb2:b≠0)(hm:m.length+(flat ps).length<=4611686018427387904)(hl:n<=4611686018427387904)(hP:Cu w a b ps)(hH:mV w b m):aU 197 #[af b,.slice a n c] w fun e w'=>e=.returned (.tuple #[])/\w.grownBy w' (some b)/\mV w' b (m++flat ps):=by
 have HN:=h_ hn;have HP:=h_ hP;clear hn hP;go_enter Tryz.func197,Tryz.ntmps197;go_wp2_with fail
 go_loopw [10] (fun i wr=>∃k:Nat,k<=n/\i=.int .i64 k/\w.grownBy wr (some b)/\mV wr b (m++flat (ps.take k))) (fun i _=>n-(intOf i).toNat)
 case atStart=>exact⟨0,by omega,rfl,Gl _ _,by simpa[flat]using hH⟩
 case round=>
  obtain⟨k,hk,rfl,hg,hI⟩:=hrel;by_cases hlt:k<n
  ·have hkl:k<ps.length:=by rw[<-HN.out];exact hlt
   obtain⟨ab,ao,rfl,hab,hc⟩:=HP.out (by omega);have ck:=World.grownBy.cell hg (hc k hkl) (by intro e;cases e;exact hab rfl);have Wu:=hT.grown hg (by intro e;cases e;exact hb1 rfl) (by intro e;cases e;exact hb2 rfl)
   have hsz:(m++flat (ps.take k)).length+ps[k].size<=4611686018427387904:=by
    have h1:=xm ps (k+1);rw[MJ ps k hkl,aT,<-Lib.size_eq]at h1;rw[aT];omega
   have hI2:∀w',mV w' b (m++flat (ps.take k)++ps[k].data.toList)->mV w' b (m++flat (ps.take (k+1))):=fun w' h=>by
    rw[MJ ps k hkl,<-List.append_assoc];exact h
   have HI2:=h_ hI2;have WH:=h_ hsz;clear hsz hc hI2;generalize ps[k]=s at*;go_wp2_with (go_at_call 211;(with_reducible refine(take b _ s _ Wu hb1 hb2 WH.out hI).mono ?_);rintro e w3 ⟨rfl,hg3,Za⟩)
   go_roundw
   case rel=>exact⟨k+1,by omega,by go_num,vG hg hg3,HI2.out _ Za⟩
   case measure=>simp[intOf];omega
  ·obtain rfl:k=n:=by omega
   rw[HN.out,iY]at hI;go_wp2_with fail
   go_end0
   exact⟨rfl,hg,hI⟩
theorem nX:(Tryz.prog.info? 230).map (·.size)=some 73:=by kernel_rfl
theorem TN(f l t):(aO f l t).all (·.oneCell')=true:=by
 rw[kE];intro v hv;simp only[aO,Array.mem_append]at hv;rcases hv with(hv|hv)|hv
 exact kE.1 (yl f 8) v hv;exact kE.1 (oD l) v hv;simp at hv;subst hv;rfl
theorem mV.below{w':World}{B:Nat}{m:List UInt8}(h:mV w b m)(hb:Below B w w')(hB:b<B):mV w' b m:=by obtain⟨f,l,h1,h2⟩:=h;exact⟨f,l,dz hb h1 hB,h2⟩
theorem RV:tO.size=73:=by unfold tO;rw[FV];rfl
theorem QV(n:Nat):(VH.ending n).length<=80:=by simp[VH.ending,bY];omega
theorem sum(b:Nat)(m:List UInt8)(w:World)(hT:gj w)(hm:m.length<=1152921504606846976)(hH:mV w b m):ar 198 #[af b] w (.agg (ae (gP m))):=by
 have hblt:=hH.lt;obtain⟨f,l,hHb,hl,hS,hR⟩:=hH;have HL:=h_ hl;have HSR:=h_ (dQ hS hR);clear hl hS hR;have hzv:=qK;have hHa:∀o,Has (w.alloc o) b (aO f l m.length) 230:=fun o=>hHb.alloc o
 have hsz:some (aO f l m.length).size=some 73:=by rw[FV,HL.out]
 have WH:=h_ hsz;have HO:=h_ (TN f l m.length);clear hsz;go_enter Tryz.func198,Tryz.ntmps198
 go_upto_region 4 with(first
  | (with_reducible refine iQ rfl 230 _ rfl b rfl 230 (aO f l m.length) (0,0) _ (hHa _).out Tryz.underlying230 rfl (nX.trans WH.out.symm) ?_)
  | (with_reducible refine eI rfl 230 _ _ rfl _ (aO f l m.length) rfl rfl 230 _ (heap_alloc2_new w _ _) (nX.trans WH.out.symm) (RV.trans (Option.some.inj (WH.out.symm))) HO.out ?_))
 generalize hw1:World.setRow _ _ _=w1;have hB1:Bl w w1:=by rw[<-hw1];exact below_setRow (cu.alloc (by simp) _) (by simp) _
 have hE1:Has w1 (w.heap.size+1) (aO f l m.length) 230:=by
  rw[<-hw1];exact Has.row (cs:=tO) (heap_alloc2_new w _ _) _
 have Zb:∃cs,cs.size=32/\Has w1 w.heap.size cs 28:=by
  refine⟨ky,rfl,?_⟩;rw[<-hw1];exact Has.Vo (heap_alloc2_old w _ _) _ _ (by omega)
 clear hw1 hzv hHa;have hI1:mV w1 (w.heap.size+1) m:=⟨f,l,hE1,HL.out,HSR.out.1,HSR.out.2⟩;have hH1:=dz hB1 hHb hblt;have c72:=(hH1.cell 72).trans (EY f l _ HL.out);have hT1:=hT.below hB1;clear hE1;have hne1:w.heap.size+1≠1:=by have:=hT.lt;omega
 have hne2:w.heap.size+1≠0:=by have:=hT.lt;omega
 have hel:=QV m.length
 have XT:∀f3,S8.of f3=bV ((m++(⟨(VH.ending m.length).toArray⟩:ByteArray).data.toList).length/64) VH.start (m++(⟨(VH.ending m.length).toArray⟩:ByteArray).data.toList)->nameOf (S8.of f3)=gP m:=fun f3 h=>by
  rw[h];rfl
 have XT:=h_ XT;obtain⟨es,hes⟩:∃es:ByteArray,es=⟨(VH.ending m.length).toArray⟩:=⟨_,rfl⟩;have al2:es.size<=80:=by rw[hes];show(VH.ending m.length).toArray.size<=80;simpa using hel
 rw[<-hes]at XT;have HES:=h_ hes;clear hes hel;go_wp2_with (go_at_call 212;(with_reducible refine(ending m.length hm _).mono ?_);rintro e w2 ⟨rfl,hb2⟩)
 rw[<-HES.out];have Wu:=hT1.below hb2;have hI2:=hI1.below hb2 hI1.lt;have hR2:∃cs,cs.size=32/\Has w2 w.heap.size cs 28:=by obtain⟨cs,h1,h2⟩:=Zb;exact⟨cs,h1,dz hb2 h2 h2.lt⟩
 have hB2:=ai hB1 hb2;clear Zb hI1 hT1 hb2 hB1 hH1 c72;go_wp2_with (go_at_call 211;(with_reducible refine(take (w.heap.size+1) m es _ Wu hne1 hne2 (by omega) hI2).mono ?_);rintro e w3 ⟨rfl,hg3,Za⟩)
 obtain⟨f3,l3,hH3,hl3,ZQ,hR3⟩:=Za;have HN3:=h_ (XT.out f3 ZQ);have hB3:=hB2.trans (vi hg3 (by omega) hB2.size);obtain⟨cs,hcs,hcs2⟩:=hR2;have VK:=iF hg3 hcs2 (by intro e;have:=Option.some.inj e;omega);have Yl:=h_ hcs;clear hl3 ZQ hR3 XT hcs hcs2 hI2 Wu hg3;refine az (name (w.heap.size+1) f3 l3 _ _ hH3) fun w4 hb4=>?_;rw[HN3.out];have V5:=dz hb4 VK VK.lt;have hB4:=ai hB3 hb4;have XG:=h_ (oD (gP m));have hsz2:some (ae (gP m)).size=some 32:=by rw[nF];exact aJ some (ru _)
 have HS2:=h_ hsz2;clear hsz2 VK hb4 hB3 hB2 hH3;generalize W7:ae (gP m)=rs at*;go_wp2_with (with_reducible refine eI rfl 28 _ _ rfl _ rs rfl rfl 28 _ V5.out (cp.trans HS2.out.symm) (Yl.out.trans (Option.some.inj HS2.out).symm) XG.out ?_)
 exact ay (v:=.agg rs) (results_cell_row Tryz.results198 _ _ w.heap.size 28 rs (0,0) _ rfl (V5.row rs).out Tryz.underlying28 rfl (cp.trans HS2.out.symm)) rfl ⟨by rw[W7],below_setRow hB4 (by omega) _⟩
def fy(w:World)(a:Option Addr)(ps:List ByteArray):Prop:=
 0<ps.length->∃ab ao,a=some ⟨ab,ao,none⟩/\∀i (hi:i<ps.length),w.cell? ⟨ab,ao+i,none⟩=some (.string ps[i])
variable{a:Option Addr}{ps:List ByteArray}
theorem fy.parts(h:fy w a ps)(hb:Bl w w1)(b:Nat)(hB:w.heap.size<=b):Cu w1 a b ps:=fun h0=>by
 obtain⟨ab,ao,ha,hc⟩:=h h0;have hlt:ab<w.heap.size:=block_lt_of_cell (hc 0 h0);exact⟨ab,ao,ha,by omega,fun i hi=>(hb.cell (p:=⟨ab,ao+i,none⟩) hlt).trans (hc i hi)⟩
theorem fy.below(h:fy w a ps)(hb:Bl w w1):fy w1 a ps:=fun h0=>by
 obtain⟨ab,ao,ha,hc⟩:=h h0;have hlt:ab<w.heap.size:=block_lt_of_cell (hc 0 h0);exact⟨ab,ao,ha,fun i hi=>(hb.cell (p:=⟨ab,ao+i,none⟩) hlt).trans (hc i hi)⟩
theorem fy.one{s:ByteArray}(h:w.cell? ⟨b,0,none⟩=some (.string s)):fy w (bs b) [s]:=fun _=>
 ⟨b,0,rfl,fun i hi=>by
  obtain rfl:i=0:=by simpa using hi
  exact h⟩
theorem qE(s:ByteArray):flat [s]=s.data.toList:=by simp[flat]
theorem of(a:Option Addr)(ps:List ByteArray)(n c:Nat)(hn:n=ps.length)(w:World)(hT:gj w)(hm:(flat ps).length<=1152921504606846976)(hl:n<=4611686018427387904)(hP:fy w a ps):ar 179 #[.slice a n c] w (.agg (ae (gP (flat ps)))):=by
 have HN:=h_ hn;have HP:=h_ hP;clear hn hP;go_enter Tryz.func179,Tryz.ntmps179;go_upto_region 1 with fail
 generalize hw1:World.alloc _ _=w1;have hres:Has w1 w.heap.size ky 28:=by rw[<-hw1];exact Has.new _ _
 have bj:Bl w w1:=eT hw1;have hT1:=hT.below bj;have h01:=hres.lt;clear hw1;go_wp2_with fail
 refine(new w1 hT1).mono ?_;rintro e w2 ⟨rfl,hb2,hI2⟩;have Wu:=hT1.below hb2;have hB2:=ai bj hb2;have hres2:=dz hb2 hres h01;have hP2:=HP.out.parts hB2 w1.heap.size bj.size;have hne1:w1.heap.size≠1:=by have:=hT1.lt;omega
 have hne2:w1.heap.size≠0:=by have:=hT1.lt;omega
 have HP2:=h_ hP2;clear hP2 hT1 hb2;go_wp2_with fail
 refine(write w1.heap.size [] a ps n c HN.out _ Wu hne1 hne2 (by simp;omega) hl HP2.out hI2).mono ?_;rintro e w3 ⟨rfl,hg3,Za⟩;have hT3:=Wu.grown hg3 (by intro e;exact hne1 (Option.some.inj e).symm) (by intro e;exact hne2 (Option.some.inj e).symm);have hB3:=hB2.trans (vi hg3 bj.size hB2.size);have VK:=iF hg3 hres2 (by intro e;have:=Option.some.inj e;omega);rw[j_]at Za;clear Wu hg3 hI2 hres2;go_wp2_with fail
 refine az (sum w1.heap.size (flat ps) _ hT3 hm Za) fun w4 hb4=>?_;have V5:=dz hb4 VK VK.lt;have hB4:=ai hB3 hb4;have XG:=h_ (oD (gP (flat ps)));have hsz2:some (ae (gP (flat ps))).size=some 32:=by rw[nF];exact aJ some (ru _)
 have HS2:=h_ hsz2;clear hsz2 VK hb4 hB3 hB2 Za hT3 hres;generalize W7:ae (gP (flat ps))=rs at*;go_wp2_with (with_reducible refine eI rfl 28 _ _ rfl _ rs rfl rfl 28 _ V5.out (cp.trans HS2.out.symm) (yD.trans (Option.some.inj HS2.out).symm) XG.out ?_)
 exact ay (v:=.agg rs) (results_cell_row Tryz.results179 _ _ w.heap.size 28 rs (0,0) _ rfl (V5.row rs).out Tryz.underlying28 rfl (cp.trans HS2.out.symm)) rfl ⟨by rw[W7],below_setRow hB4 (by omega) _⟩
theorem TL(wx:World)(b:Nat)(l:List UInt8)(hl:l.length=32)(h:Has wx b (ae l) 28):(Go.convert 174 9 (.slice (bs b) 32 32)).run Tryz.prog wx=.ok (.string ⟨l.toArray⟩) wx:=by
 have:=run_convert_bytes_arg (P:=Tryz.prog) wx 174 5 Tryz.underlying174 Tryz.underlying5 b 0 32 32 (l.map fun b=>(b.toNat:Int)) (by simp[hl]) (fun i hi=>by
  rw[cy,h.byte i (by omega)];simp[show i<l.length by omega]) 9 Tryz.underlying9
 rw[this];simp[strOfNums,Function.comp_def]
theorem double(a:Option Addr)(ps:List ByteArray)(n c:Nat)(hn:n=ps.length)(w:World)(hT:gj w)(hm:(flat ps).length<=1152921504606846976)(hl:n<=4611686018427387904)(hP:fy w a ps):ar 153 #[.slice a n c] w (.agg (ae (gP (gP (flat ps))))):=by
 have HN:=h_ hn;have HP:=h_ hP;clear hn hP;go_enter Tryz.func153,Tryz.ntmps153;go_upto_region 1 with fail
 generalize hw1:World.alloc _ _=w1;have hres:Has w1 w.heap.size ky 28:=by rw[<-hw1];exact Has.new _ _
 have bj:Bl w w1:=eT hw1;have hT1:=hT.below bj;have hP1:fy w1 a ps:=HP.out.below bj;have HP1:=h_ hP1;clear hw1 hP1;go_wp2_with fail
 refine az (of a ps n c HN.out w1 hT1 hm hl HP1.out) fun w2 hb2=>?_;have Wu:=hT1.below hb2;have hB2:=ai bj hb2;have hres2:=dz hb2 hres hres.lt;have HO:=h_ (oD (gP (flat ps)));have hsz:some (ae (gP (flat ps))).size=some 32:=by rw[nF];exact aJ some (ru _)
 have WH:=h_ hsz;clear hsz hres bj hT1 hb2;go_upto_region 2 with(with_reducible refine eI rfl 28 _ _ rfl _ (ae (gP (flat ps))) rfl rfl 28 _ (mH w2 _) (cp.trans WH.out.symm) (by simp[Option.some.inj WH.out]) HO.out ?_)
 generalize hw3:World.setRow _ _ _=w3;have hin:Has w3 w2.heap.size (ae (gP (flat ps))) 28:=by rw[<-hw3];exact(Has.new _ _).row _
 have hB3:Bl w w3:=by rw[<-hw3];exact below_setRow (hB2.alloc hB2.size _) hB2.size _
 have Zc:Bl w2 w3:=dZ hw3;have hT3:=Wu.below Zc;have VK:=dz Zc hres2 hres2.lt;obtain⟨hs,hhs⟩:∃hs:ByteArray,hs=⟨(gP (flat ps)).toArray⟩:=⟨_,rfl⟩;have hcv:=TL w3 w2.heap.size (gP (flat ps)) (ru _) hin;rw[<-hhs]at hcv;have HHS:Hid (hs.data.toList=gP (flat ps)):=by show _=_;rw[hhs]
 have aa9:(gP (flat ps)).length=32:=ru _;have HHZ:=h_ aa9;clear hw3 Zc Wu hres2 hB2 hhs hin aa9;go_wp2_with fail
 have hb4:Bl w3 (w3.alloc (.cells #[.string hs] 9)):=cu;refine az (of (some ⟨w3.heap.size,0,none⟩) [hs] 1 1 rfl _ (hT3.below hb4) (by rw[qE,HHS.out,HHZ.out];omega) (by omega) (fy.one (by simp))) fun w5 hb5=>?_;rw[qE,HHS.out];have V5:=dz hb5 (dz hb4 VK VK.lt) (Has.lt (dz hb4 VK VK.lt));have hB5:=(ai hB3 hb4).trans (hb5.mono (ax hB3.size hb4.size));have XG:=h_ (oD (gP (gP (flat ps))));have hsz2:some (ae (gP (gP (flat ps)))).size=some 32:=by rw[nF];exact aJ some (ru _)
 have HS2:=h_ hsz2;clear hsz2 VK hb4 hb5 hB3 hT3 hcv;generalize W7:ae (gP (gP (flat ps)))=rs at*;go_wp2_with (with_reducible refine eI rfl 28 _ _ rfl _ rs rfl rfl 28 _ V5.out (cp.trans HS2.out.symm) (yD.trans (Option.some.inj HS2.out).symm) XG.out ?_)
 exact ay (v:=.agg rs) (results_cell_row Tryz.results153 _ _ w.heap.size 28 rs (0,0) _ rfl (V5.row rs).out Tryz.underlying28 rfl (cp.trans HS2.out.symm)) rfl ⟨by rw[W7],below_setRow hB5 (by omega) _⟩
theorem G4(a:ByteArray)(b:UInt8):(a++(⟨#[b]⟩:ByteArray)).data.toList=a.data.toList++[b]:=by rw[pR];simp
theorem DT(a b:ByteArray):(a++b).data.toList=a.data.toList++b.data.toList:=by rw[pR];simp
theorem TS(s:ByteArray)(hs:s.size<=1048576)(w:World):aU 173 #[.string s] w fun e w'=>(∃p:ByteArray,e=.returned (.string p)/\p.data.toList=s.data.toList++VH.ending s.data.toList.length)/\Bl w w':=by
 have hn:s.data.toList.length=s.size:=(Lib.size_eq s).symm;obtain⟨z,hz⟩:∃z,z=(119-s.size%64)%64:=⟨_,rfl⟩;have aa7:z<64:=by omega
 have ab1:(s.size+1+z)%64=56:=by omega
 have HZ:=h_ hz;have ab2:=h_ ab1;have HN:=h_ hn;clear hz ab1 hn;go_enter Tryz.func173,Tryz.ntmps173;go_wp2_with fail
 go_loop [0] (fun x=>∃(j:Nat)(p:ByteArray),j<=z/\x=.string p/\p.size=s.size+1+j/\Hid (p.data.toList=s.data.toList++0x80::List.replicate j 0)) (fun x=>match x with | .string p=>s.size+1+z-p.size|_=>0)
 case atStart=>
  refine⟨0,s++⟨#[128]⟩,by omega,rfl,by simp;rfl,?_⟩;show _=_;rw[G4];simp
 case round=>
  obtain⟨j,p,hj,rfl,hps,HP⟩:=hrel;have HPS:=h_ hps;have af8:p.size<=1048576+1+64:=by omega
  by_cases hlt:j=z
  ·subst hlt;have ht:(((p.size:Int)%64) != 56)=false:=by rw[bne_eq_false_iff_eq];have:=ab2.out;omega
   clear hps;go_wp2_with fail
   go_loopw [3,4,5] (fun v3 v4 v5 wr=>∃(i:Nat)(t:ByteArray),i<=8/\v5=.int .i64 i/\v3=.int .i64 ((s.size*8/256^i:Nat):Int)/\v4=.string t/\t.size=i/\Hid (t.data.toList=(bY s.size).drop (8-i))/\Bl w wr)
    (fun _ _ v5 _=>8-(intOf v5).toNat)
   case atStart=>
    refine⟨0,⟨#[]⟩,by omega,rfl,?_,rfl,rfl,?_,cg⟩;simp;omega;show _=_;simp[bY]
   case round=>
    obtain⟨i,t,hi,rfl,rfl,rfl,hts,HTL,bj⟩:=hrel;have HTS:=h_ hts;have al3:t.size<=8:=(by omega);clear hts;obtain⟨m,hm⟩:∃m,m=s.size*8/256^i:=⟨_,rfl⟩;have al4:m<=8388608:=(by rw[hm];exact ax (f' _ _) (by omega));rw[<-hm];have HM:=h_ hm;clear hm;by_cases hi8:i<8
    ·obtain⟨bt,hbt⟩:∃bt:ByteArray,bt=⟨#[UInt8.ofNat (m%256)]⟩:=⟨_,rfl⟩
     have hcv:(Go.convert 174 9 (.slice (some ⟨wr.heap.size,0,none⟩) 1 1)).run Tryz.prog (wr.alloc (.cells #[.int .u8 ((m:Int)%(256:Int))] 5))=.ok (.string bt) (wr.alloc (.cells #[.int .u8 ((m:Int)%(256:Int))] 5)):=by
      have e0:((UInt8.ofNat (m%256)).toNat:Int)=(m:Int)%(256:Int):=by rw[mB];omega
      have e:(#[.int .u8 ((m:Int)%(256:Int))]:Array Value)=ae [UInt8.ofNat (m%256)]:=by
       simp only[ae,bZ,cx,e0]
      rw[e,hbt];exact ER _ wr.heap.size [UInt8.ofNat (m%256)] 1 (Has.new _ _)
     have hbs:bt.size=1:=(by rw[hbt];rfl);have Wl:bt.size<=1:=(by omega);have HBT:=h_ hbt;have HBS:=h_ hbs;clear hbt hbs;(go_wp2_with fail);clear hcv;refine⟨⟨i+1,bt++t,by omega,by go_num,?_,rfl,?_,?_,bj.alloc bj.size _⟩,by simp[intOf];omega⟩;rw[show(m:Int)/(256:Int)=((m/256:Nat):Int) by omega,HM.out,nM,<-Nat.pow_succ];rw[nK,HBS.out,HTS.out];omega
     ·show _=_;rw[DT,HBT.out,HTL.out]
      have hg:(bY s.size)[8-(i+1)]'(by rw[pZ];omega)=UInt8.ofNat (m%256):=by
       simp only[bY,jh,jo];rw[HM.out,show 8*(7-(8-(i+1)))=8*i by omega,show 256=2^8 from rfl,<-Nat.pow_mul]
      rw[mT (i:=8-(i+1)) (l:=bY s.size) (by rw[pZ];omega),hg,show 8-(i+1)+1=8-i by omega];rfl
    ·obtain rfl:i=8:=(by omega);(go_wp2_with fail);go_ret;refine⟨⟨_,rfl,?_⟩,bj⟩;rw[DT,HP.out,HTL.out,HN.out,VH.ending,HZ.out];simp
  ·have ht:(((p.size:Int)%64) != 56)=true:=by rw[bne_iff_ne];have:=ab2.out;omega
   clear hps;go_wp2_with fail
   refine⟨⟨j+1,_,by omega,rfl,?_,?_⟩,?_⟩;rw[nK];have:=HPS.out;show p.size+1=_;omega;show _=_;rw[G4,HP.out,List.replicate_succ'];simp;show s.size+1+z-(p++(⟨#[0]⟩:ByteArray)).size<s.size+1+z-p.size;rw[nK];have:=HPS.out;show _-(p.size+1)<_;omega
theorem CP(x:BitVec 32)(m:Int)(hm:0<=m):(Wd.n x).tdiv m%(4294967296:Int)=Wd.n x/m:=by have h1:=Wd.O8 x;have h2:=Wd.Sq x;rw[kP h1];have h3:0<=Wd.n x/m:=Int.ediv_nonneg h1 hm;have h4:Wd.n x/m<=Wd.n x:=Int.ediv_le_self _ h1;omega
theorem R4(x:BitVec 32):(Wd.n x).tdiv 8%(4294967296:Int)=Wd.n (x>>>3):=by rw[CP x 8 (by omega),Wd.rU]
theorem Bs(x:BitVec 32):(Wd.n x).tdiv 1024%(4294967296:Int)=Wd.n (x>>>10):=by rw[CP x 1024 (by omega),Wd.nS]
attribute [local go_sem] R4 Bs Wd.not Wd.not' Wd.qm Wd.add Wd.and Wd.or Wd.xor Wd.shl Wd.shr Wd.rU Wd.nS Jc E8 tY
structure Rw (w wr:World) (g:Nat->ef) (wb:Nat) (f:Nat->ef):Prop where
 below:Bl w wr
 out:Has wr w.heap.size ky 28
 h:Has wr (w.heap.size+1) (words g 8) 198
 V4:Has wr wb (words f 64) 200
 ge:w.heap.size+1<wb
structure Rr (w wr:World) (g:Nat->ef) (wb:Nat) (f:Nat->ef) (sb:Nat) (t:S8):Prop where
 rw:Rw w wr g wb f
 s:Has wr sb (words t.at 8) 198
 ge:wb<sb
structure Rh (w wr:World) (g:Nat->ef):Prop where
 below:Bl w wr
 out:Has wr w.heap.size ky 28
 h:Has wr (w.heap.size+1) (words g 8) 198
theorem Rw.set(h:Rw w wr g wb f)(i:Nat)(x:ef):Rw w (wr.setCell ⟨wb,i,none⟩ (.int .u32 (Wd.n x))) g wb (dk f i x):=
 have:=h.ge
 ⟨h.below.setCell (by simp;omega) _,h.out.other _ _ (by simp;omega),h.h.other _ _ (by simp;omega),h.V4.Vw _,h.ge⟩
theorem Rw.drew(h:Rw w wr g wb f):Rw w wr.drew g wb f:=⟨h.below.drew,h.out.drew,h.h.drew,h.V4.drew,h.ge⟩
theorem TK(x:BitVec 32)(b:UInt8):(Wd.n (x<<<8)+(b.toNat:Int))%(4294967296:Int)=Wd.n (x<<<8|||dO b):=by rw[<-E8,IntKind.wrap_u32']
variable{t:S8}
theorem Rr.drewN(h:Rr w wr g wb f sb t)(n:Nat):Rr w (wr.drewN n) g wb f sb t:=⟨⟨below_drewN h.rw.below n,h.rw.out.drewN n,h.rw.h.drewN n,h.rw.V4.drewN n,h.rw.ge⟩,h.s.drewN n,h.ge⟩
theorem Rr.drew(h:Rr w wr g wb f sb t):Rr w wr.drew g wb f sb t:=⟨⟨h.rw.below.drew,h.rw.out.drew,h.rw.h.drew,h.rw.V4.drew,h.rw.ge⟩,h.s.drew,h.ge⟩
theorem Rr.row(h:Rr w wr g wb f sb t)(t':S8):Rr w (wr.setRow sb (words t'.at 8)) g wb f sb t':=
 have h1:=h.ge;have h2:=h.rw.ge
 ⟨⟨below_setRow h.rw.below (by omega) _,h.rw.out.Vo _ _ (by omega),h.rw.h.Vo _ _ (by omega),h.rw.V4.Vo _ _ (by omega),h.rw.ge⟩,h.s.row _,h.ge⟩
theorem Rr.lit(h:Rr w wr g wb f sb t)(X Y:ef):Rr w (wr.setRow sb #[.int .u32 (Wd.n (X+Y)),.int .u32 (Wd.n (t.at 0)),.int .u32 (Wd.n (t.at 1)),.int .u32 (Wd.n (t.at 2)),.int .u32 (Wd.n (t.at 3+X)),.int .u32 (Wd.n (t.at 4)),.int .u32 (Wd.n (t.at 5)),.int .u32 (Wd.n (t.at 6))]) g wb f sb ⟨X+Y,t.at 0,t.at 1,t.at 2,t.at 3+X,t.at 4,t.at 5,t.at 6⟩:=
 h.row ⟨X+Y,t.at 0,t.at 1,t.at 2,t.at 3+X,t.at 4,t.at 5,t.at 6⟩
theorem Rr.af9(h:Rr w wr g wb f sb t)(i:Nat)(x:ef):Rr w (wr.setCell ⟨w.heap.size+1,i,none⟩ (.int .u32 (Wd.n x))) (dk g i x) wb f sb t:=
 have h1:=h.ge;have h2:=h.rw.ge
 ⟨⟨h.rw.below.setCell (by simp) _,h.rw.out.other _ _ (by simp),h.rw.h.Vw _,h.rw.V4.other _ _ (by simp;omega),h.rw.ge⟩,h.s.other _ _ (by simp;omega),h.ge⟩
structure Ro (w wr:World) (st:S8) (O k:Nat):Prop where
 below:Bl w wr
 res:Has wr w.heap.size ky 28
 h:Has wr (w.heap.size+1) (words st.at 8) 198
 out:Has wr O (ae (fU st k)) 28
 ge:w.heap.size+1<O
theorem uj(x:BitVec 32)(m:Nat):(Wd.n (x>>>m)).tmod 256%256=((UInt8.ofNat (x.toNat/2^m%256)).toNat:Int):=by
 have e:Wd.n (x>>>m)=((x.toNat/2^m:Nat):Int):=by unfold Wd.n;rw[BitVec.toNat_ushiftRight,jx]
 rw[e,mB,iV (Int.natCast_nonneg _)];generalize x.toNat/2^m=q;omega
theorem Ro.next{st:S8}{O:Nat}(h:Ro w wr st O k)(hk:k<32):Ro w (wr.setCell ⟨O,k,none⟩ (.int .u8 ((Wd.n (st.at (k/4)>>>(24-8*(k%4)))).tmod 256%256))) st O (k+1):=
 have h1:=h.ge
 ⟨h.below.setCell (by simp;omega) _,h.res.other _ _ (by simp;omega),h.h.other _ _ (by simp;omega),by
  rw[uj,<-LK _ _ hk,<-Dp];exact h.out.set _,h.ge⟩
theorem Tf(p:ByteArray)(i:Nat)(b:UInt8)(h:p.data.toList[i]?=some b)(w:World):(Instr.index 9 (.string p) (.int .i64 (i:Int))).run Tryz.prog w=.ok (.int .u8 (b.toNat:Int)) w:=by
 have hi:i<p.size:=by
  rw[Lib.size_eq];by_cases hh:i<p.data.toList.length;exact hh;rw[kR (by omega)]at h;cases h
 rw[run_index_string w 9 p .i64 _ Tryz.underlying9,dif_pos ⟨by omega,by omega⟩]
 have e:p[i]'hi=b:=by
  have:p.data.toList[i]'(by rw[<-Lib.size_eq];exact hi)=b:=by
   rw[aQ (by rw[<-Lib.size_eq];exact hi)]at h;exact Option.some.inj h
  rw[<-this];simp;rfl
 simp[e]
theorem Rw.drewN(h:Rw w wr g wb f)(n:Nat):Rw w (wr.drewN n) g wb f:=⟨below_drewN h.below n,h.out.drewN n,h.h.drewN n,h.V4.drewN n,h.ge⟩
structure Wf (bl:List UInt8) (f:Nat->ef) (k j:Nat):Prop where
 lo:∀i,i<k->f i=aW bl i
 here:f k=iA ((bl.drop (4*k)).take j)
 hi:∀i,k<i->f i=0
variable{bl:List UInt8}
theorem Wf.next(h:Wf bl f k j)(hl:4*k+j<bl.length):Wf bl (dk f k (f k<<<8|||dO bl[4*k+j])) k (j+1) where
 lo i hi:=by unfold dk;rw[ah (by omega)];exact h.lo i hi
 here:=by
  unfold dk;rw[aj rfl,h.here,mX (by simp;omega)];simp[iA,List.foldl_append]
 hi i hi:=by unfold dk;rw[ah (by omega)];exact h.hi i hi
theorem Wf.word(h:Wf bl f k 4):Wf bl f (k+1) 0 where
 lo i hi:=by
  by_cases e:i=k;subst e;exact h.here;exact h.lo i (by omega)
 here:=by rw[h.hi (k+1) (by omega)];simp[iA]
 hi i hi:=h.hi i (by omega)
theorem Jq(n:Nat):(VH.ending n).length=9+(119-n%64)%64:=by simp[VH.ending,VH.bY];omega
section
variable{w:World}{ops:Array Oper}{rest:List Oper}{o:Oper}{a:Act}{Q:Exit->Act->World->Prop}
theorem y_(hgd:o.guard=none)(x:Operand)(ho:o.op=.load 198 x)(g:Nat)(hx:a.eval x=af g)(cs:Array Value)(hg:Has w g cs 198)(hs:cs.size=8)(h:wpList Tryz.prog ops Q rest (a.put o.dst (.agg cs)) w):wpList Tryz.prog ops Q (o::rest) a w:=
 iQ hgd 198 x ho g hx 198 cs (0,0) _ hg.out Tryz.underlying198 rfl (rY.trans (by rw[hs])) h
theorem II(hgd:o.guard=none)(x y:Operand)(ho:o.op=.store 198 x y)(g:Nat)(cs':Array Value)(hx:a.eval x=af g)(hy:a.eval y=.agg cs')(hs':cs'.size=8)(h1:cs'.all (·.oneCell')=true)(cs:Array Value)(hg:Has w g cs 198)(hs:cs.size=8)(h:wpList Tryz.prog ops Q rest (a.put o.dst undef) (w.setRow g cs')):wpList Tryz.prog ops Q (o::rest) a w:=
 eI hgd 198 x y ho g cs' hx hy 198 cs hg.out (rY.trans (by rw[hs'])) (by rw[hs,hs']) h1 h
theorem SV(hgd:o.guard=none)(x y:Operand)(ho:o.op=.store 198 x y)(g:Nat)(a0 a1 a2 a3 a4 a5 a6 a7:Int)(hx:a.eval x=af g)(hy:a.eval y=.agg #[.int .u32 a0,.int .u32 a1,.int .u32 a2,.int .u32 a3,.int .u32 a4,.int .u32 a5,.int .u32 a6,.int .u32 a7])(cs:Array Value)(hg:Has w g cs 198)(hs:cs.size=8)(h:wpList Tryz.prog ops Q rest (a.put o.dst undef) (w.setRow g #[.int .u32 a0,.int .u32 a1,.int .u32 a2,.int .u32 a3,.int .u32 a4,.int .u32 a5,.int .u32 a6,.int .u32 a7])):wpList Tryz.prog ops Q (o::rest) a w:=
 II hgd x y ho g _ hx hy rfl (by simp[Value.oneCell']) cs hg hs h
end
def vK:Array Value:=#[.int .u32 0,.int .u32 0,.int .u32 0,.int .u32 0,.int .u32 0,.int .u32 0,.int .u32 0,.int .u32 0]
theorem pN(s:ByteArray)(hs:s.size<=1048576)(w:World):ar 142 #[.string s] w (.agg (ae (gP s.data.toList))):=by
 go_enter Tryz.func142,Tryz.ntmps142;go_upto_region 2 with fail
 generalize hw1:World.alloc _ _=w1
 have hR:Rh w w1 VH.start.at:=by
  rw[<-hw1];refine⟨cu.alloc (by simp) _,(Has.new _ _).alloc _,?_⟩;have:=Has.new (w:=w.alloc (.cells ky 28)) (words VH.start.at 8) 198;rw[eZ]at this;exact this
 clear hw1;generalize hag:(#[Value.int IntKind.u32 1779033703,Value.int IntKind.u32 3144134277,Value.int IntKind.u32 1013904242,Value.int IntKind.u32 2773480762,Value.int IntKind.u32 1359893119,Value.int IntKind.u32 2600822924,Value.int IntKind.u32 528734635,Value.int IntKind.u32 1541459225]:Array Value)=ag;clear hag;go_wp2_with fail
 refine(TS s hs w1).mono ?_;rintro e w2 ⟨⟨p,rfl,hp⟩,hb2⟩;have hR2:Rh w w2 VH.start.at:=⟨ai hR.below hb2,dz hb2 hR.out hR.out.lt,dz hb2 hR.h hR.h.lt⟩;obtain⟨l,hl⟩:∃l,l=s.data.toList++VH.ending s.data.toList.length:=⟨_,rfl⟩;have XU:gP s.data.toList=nameOf (bV (l.length/64) VH.start l):=by rw[hl];rfl
 rw[<-hl]at hp;have hpl:p.size=l.length:=by rw[Lib.size_eq,hp]
 obtain⟨n,hn⟩:∃n,l.length=64*n:=⟨l.length/64,by rw[hl,aT,Jq];omega⟩;have hps:p.size=64*n:=by omega
 have hnm:n<=16400:=by
  have:l.length<=s.size+73:=by rw[hl,aT,Jq,<-Lib.size_eq];omega
  omega
 have YN:gP s.data.toList=nameOf (bV n VH.start l):=by rw[XU,hn];congr 2;omega
 have HSH:=h_ YN;have HP:=h_ hp;have HN:=h_ hn;have HL:=h_ hpl;clear hl XU YN hp hn hpl hR hb2 hs;go_wp2_with fail
 go_loopw [5] (fun i wr=>∃m:Nat,m<=n/\i=.int .i64 ((64*m:Nat):Int)/\Rh w wr (bV m VH.start l).at) (fun i _=>64*n-(intOf i).toNat)
 case atStart=>exact⟨0,by omega,rfl,hR2⟩
 case round=>
  obtain⟨m,hm,rfl,hr⟩:=hrel;generalize hst:bV m VH.start l=st at hr;have HST:=h_ hst;clear hst hR2;by_cases hlt:m<n
  ·obtain⟨bl,hbl⟩:∃bl,bl=(l.drop (64*m)).take 64:=⟨_,rfl⟩;have al5:bl.length=64:=by rw[hbl,eM,gD,HN.out];omega
   have HB:=h_ hbl;clear hbl;go_upto_region 7 with fail
   generalize hw3:World.alloc _ _=w3
   have hrw:Rw w w3 st.at wr.heap.size (fun _=>0):=by
    rw[<-hw3];refine⟨hr.below.alloc hr.below.size _,hr.out.alloc _,hr.h.alloc _,Has.new _ _,hr.h.lt⟩
   clear hw3 hr;generalize wr.heap.size=wb at*;clear wr;go_wp2_with fail
   go_loopw [7] (fun i wr=>∃k:Nat,k<=16/\i=.int .i64 k/\∃f,Rw w wr st.at wb f/\Wf bl f k 0) (fun i _=>16-(intOf i).toNat)
   case atStart=>exact⟨0,by omega,rfl,_,hrw,⟨fun i hi=>absurd hi (by omega),by simp[iA],fun _ _=>rfl⟩⟩
   case round=>
    clear hrw;obtain⟨k,hk,rfl,f,hf,hw⟩:=hrel;by_cases hkl:k<16
    ·(go_wp2_with fail);go_loopw [8] (fun i wr=>∃j:Nat,j<=4/\i=.int .i64 j/\∃f,Rw w wr st.at wb f/\Wf bl f k j) (fun i _=>4-(intOf i).toNat)
     case atStart=>exact⟨0,by omega,rfl,f,hf,hw⟩
     case round=>
      clear hf hw;obtain⟨j,hj,rfl,f,hf,hw⟩:=hrel;by_cases hjl:j<4
      ·have c2:=hf.V4.word k (by omega);have c3:=hf.V4.free k;have hbb:4*k+j<bl.length:=by omega
       have hpi:p.data.toList[64*m+4*k+j]?=some bl[4*k+j]:=by
        rw[HP.out,<-List.getElem?_eq_getElem hbb,HB.out,mQ (by omega),List.getElem?_drop];congr 1;omega
       have hidx:∀w,(Instr.index 9 (.string p) (.int .i64 (64*(m:Int)+4*(k:Int)+(j:Int)))).run Tryz.prog w=.ok (.int .u8 (bl[4*k+j].toNat:Int)) w:=fun w=>by
        have:=Tf p (64*m+4*k+j) bl[4*k+j] hpi w;simpa using this
       have e1:IntKind.i64.wrap (4*(k:Int))=4*(k:Int):=IntWalk.i64_in _ (by omega);have e2:IntKind.i64.wrap (64*(m:Int)+4*(k:Int))=64*(m:Int)+4*(k:Int):=IntWalk.i64_in _ (by omega);have e3:IntKind.i64.wrap (64*(m:Int)+4*(k:Int)+(j:Int))=64*(m:Int)+4*(k:Int)+(j:Int):=IntWalk.i64_in _ (by omega);clear hpi;have hwn:=hw.next hbb;generalize bl[4*k+j]=bb at*;have HWN:=h_ hwn;clear hw hwn;(go_wp2_with fail);go_region
       (go_wp2_with fail);clear hidx;refine⟨⟨j+1,by omega,by go_num,_,?_,HWN.out⟩,by simp[intOf];omega⟩;rw[TK];exact(hf.set k _).drew
      ·obtain rfl:j=4:=(by omega);(go_wp2_with fail);exact⟨⟨k+1,by omega,by go_num,f,hf,hw.word⟩,by simp[intOf];omega⟩
    ·obtain rfl:k=16:=(by omega);have ht:∀i,i<16->f i=sched (aW bl) i:=fun i hi=>by rw[hw.lo i hi,G9 _ _ hi]
     have HT:=h_ ht;clear hw ht;(go_wp2_with fail);go_loopw [9] (fun i wr=>∃k:Nat,16<=k/\k<=64/\i=.int .i64 k/\∃f,Rw w wr st.at wb f/\Hid (∀i,i<k->f i=sched (aW bl) i)) (fun i _=>64-(intOf i).toNat)
     case atStart=>exact⟨16,by omega,by omega,rfl,f,hf,HT⟩
     case round=>
      clear hf HT;obtain⟨k,Y9,hk,rfl,f,hf,HF⟩:=hrel;by_cases hlt2:k<64
      ·have c1:=hf.V4.word (k-15) (by omega);have c2:=hf.V4.word (k-2) (by omega);have c3:=hf.V4.word (k-16) (by omega);have c4:=hf.V4.word (k-7) (by omega);have c5:=hf.V4.free k;have b1:IntKind.i64.wrap ((k:Int)-15)=(k:Int)-15:=IntWalk.i64_in _ (by omega);have b2:IntKind.i64.wrap ((k:Int)-2)=(k:Int)-2:=IntWalk.i64_in _ (by omega);have b3:IntKind.i64.wrap ((k:Int)-16)=(k:Int)-16:=IntWalk.i64_in _ (by omega);have b4:IntKind.i64.wrap ((k:Int)-7)=(k:Int)-7:=IntWalk.i64_in _ (by omega);have a1:(0:Int)<=(k:Int)-15:=(by omega);have a2:(0:Int)<=(k:Int)-2:=(by omega);have a3:(0:Int)<=(k:Int)-16:=(by omega);have a4:(0:Int)<=(k:Int)-7:=(by omega);have t1:((k:Int)-15).toNat=k-15:=(by omega);have t2:((k:Int)-2).toNat=k-2:=(by omega);have t3:((k:Int)-16).toNat=k-16:=(by omega);have t4:((k:Int)-7).toNat=k-7:=(by omega);have l1:(k:Int)-15<64:=(by omega);have l2:(k:Int)-2<64:=(by omega);have l3:(k:Int)-16<64:=(by omega);have l4:(k:Int)-7<64:=(by omega);(go_wp2_with fail);go_quiet ((go_at_call 174;exact oJ (xE _ _ (by omega) (by omega) _)))
       replace c2:=(hf.V4.drewN nq).word (k-2) (by omega);replace c3:=(hf.V4.drewN nq).word (k-16) (by omega);replace c4:=(hf.V4.drewN nq).word (k-7) (by omega);replace c5:=(hf.V4.drewN nq).free k;generalize hw1:wr.drewN nq=wq at c2 c3 c4 c5;have hfq:Rw w wq st.at wb f:=(by rw[<-hw1];exact hf.drewN nq);have c6:=hfq.V4.word k (by omega);clear c1 hf hw1;(go_wp2_with fail);go_quiet ((go_at_call 174;exact oJ (xE _ _ (by omega) (by omega) _)))
       (go_wp2_with fail);go_region
       (go_wp2_with fail);refine⟨⟨k+1,by omega,by omega,by go_num,_,(hfq.drewN _).set k _,?_⟩,by simp[intOf];omega⟩;intro i hi;unfold dk;by_cases e:i=k;rw[aj e,e,IF _ k Y9 hlt2,HF.out _ (by omega),HF.out _ (by omega),HF.out _ (by omega),HF.out _ (by omega)];rfl;rw[ah e];exact HF.out i (by omega)
      ·obtain rfl:k=64:=(by omega);have V8:Rw w wr st.at wb (sched (aW bl)):=⟨hf.below,hf.out,hf.h,by rw[<-Ad HF.out];exact hf.V4,hf.ge⟩;clear hf HF;have hZ:Has (wr.alloc (.cells #[.int .u32 0,.int .u32 0,.int .u32 0,.int .u32 0,.int .u32 0,.int .u32 0,.int .u32 0,.int .u32 0] 198)) wr.heap.size vK 198:=Has.new _ _;have hz8:vK.size=8:=rfl;have hH:=V8.h;have HS:(words st.at 8).size=8:=iP _ _;have HO:=yl st.at 8;have H1:=h_ HO
       have hrr:Rr w ((wr.alloc (.cells #[.int .u32 0,.int .u32 0,.int .u32 0,.int .u32 0,.int .u32 0,.int .u32 0,.int .u32 0,.int .u32 0] 198)).setRow wr.heap.size (words st.at 8)) st.at wb (sched (aW bl)) wr.heap.size st:=by
        have hz:=V8.V4.lt;exact⟨⟨below_setRow (V8.below.alloc V8.below.size _) V8.below.size _,(V8.out.alloc _).Vo _ _ (by have:=V8.out.lt;omega),(V8.h.alloc _).Vo _ _ (by have:=V8.h.lt;omega),(V8.V4.alloc _).Vo _ _ (by omega),V8.ge⟩,(Has.new _ _).row _,hz⟩
       clear HO V8;generalize words st.at 8=cs at hH HS H1 hrr|-
       go_upto_region 21 with(first
        | (with_reducible refine y_ rfl _ rfl _ rfl cs hH HS ?_)
        | (with_reducible refine II rfl _ _ rfl _ cs rfl rfl HS H1.out vK hZ hz8 ?_))
       generalize World.setRow _ _ _=w4 at hrr|-;clear hH HS H1 hZ hz8;generalize wr.heap.size=sb at*;(go_wp2_with fail);go_loopw [13] (fun i wr=>∃k:Nat,k<=64/\i=.int .i64 k/\∃t,Rr w wr st.at wb (sched (aW bl)) sb t/\Hid (t=rounds st (sched (aW bl)) k)) (fun i _=>64-(intOf i).toNat)
       case atStart=>exact⟨0,by omega,rfl,st,hrr,rfl⟩
       case round=>
        clear hrr;obtain⟨k,hk,rfl,t,ht,HR⟩:=hrel;by_cases hlt3:k<64
        ·have c0:=ht.s.word 0 (by omega);have c1:=ht.s.word 1 (by omega);have c2:=ht.s.word 2 (by omega);have c3:=ht.s.word 3 (by omega);have c4:=ht.s.word 4 (by omega);have c5:=ht.s.word 5 (by omega);have c6:=ht.s.word 6 (by omega);have c7:=ht.s.word 7 (by omega);have cw:=ht.rw.V4.word k hlt3;go_wp2_with fail
         go_quiet (first
          | (go_at_call 174;exact oJ (xE _ _ (by omega) (by omega) _))
          | (go_at_call 175;exact oJ (Hk _ hlt3 _)))
         generalize hX:t.at 7+(BitVec.rotateRight (t.at 4) 6^^^BitVec.rotateRight (t.at 4) 11^^^BitVec.rotateRight (t.at 4) 25)+(t.at 4&&&t.at 5|||~~~t.at 4&&&t.at 6)+xl k+sched (aW bl) k=X;have HX:=h_ hX;generalize Ym:wr.drewN nq=w5;have ht5:Rr w w5 st.at wb (sched (aW bl)) sb t:=(by rw[<-Ym];exact ht.drewN nq);clear c0 c1 c2 c3 c4 c5 c6 c7 cw Ym ht hX;have c0:=ht5.s.word 0 (by omega);have c1:=ht5.s.word 1 (by omega);have c2:=ht5.s.word 2 (by omega);(go_wp2_with fail);go_quiet ((go_at_call 174;exact oJ (xE _ _ (by omega) (by omega) _)))
         generalize hY:(BitVec.rotateRight (t.at 0) 2^^^BitVec.rotateRight (t.at 0) 13^^^BitVec.rotateRight (t.at 0) 22)+(t.at 0&&&t.at 1|||t.at 0&&&t.at 2|||t.at 1&&&t.at 2)=Y;have HY:=h_ hY;generalize ZR:w5.drewN nq=w6;have Ys:Rr w w6 st.at wb (sched (aW bl)) sb t:=(by rw[<-ZR];exact ht5.drewN nq);clear c0 c1 c2 ZR ht5 hY;have c0:=Ys.s.word 0 (by omega);have c1:=Ys.s.word 1 (by omega);have c2:=Ys.s.word 2 (by omega);have c3:=Ys.s.word 3 (by omega);have c4:=Ys.s.word 4 (by omega);have c5:=Ys.s.word 5 (by omega);have c6:=Ys.s.word 6 (by omega);have YO:(words t.at 8).size=8:=iP _ _;have hts:=Ys.s;(go_wp2_with (with_reducible refine SV rfl _ _ rfl _ _ _ _ _ _ _ _ _ rfl rfl _ hts YO ?_));go_roundw
         case rel=>exact⟨k+1,by omega,by go_num,⟨X+Y,t.at 0,t.at 1,t.at 2,t.at 3+X,t.at 4,t.at 5,t.at 6⟩,Ys.lit X Y,h_ (by rw[<-HX.out,<-HY.out,HR.out];rfl)⟩
         case measure=>simp[intOf];omega
        ·obtain rfl:k=64:=(by omega);(go_wp2_with fail);go_loopw [16] (fun i wr=>∃k:Nat,k<=8/\i=.int .i64 k/\∃g,Rr w wr g wb (sched (aW bl)) sb t/\Hid (∀j,g j=if j<k then st.at j+t.at j else st.at j)) (fun i _=>8-(intOf i).toNat)
         case atStart=>exact⟨0,by omega,rfl,st.at,ht,h_ fun j=>by rw[ah (by omega)]⟩
         case round=>
          clear ht;obtain⟨k,hk,rfl,g,hg,HG⟩:=hrel;by_cases Yr:k<8
          ·have c1:=hg.rw.h.word k Yr;have c2:=hg.s.word k Yr;have c3:=hg.rw.h.free k;have hkI:(k:Int)<8:=(by omega);have e:g k=st.at k:=(by rw[HG.out,ah (by omega)]);have E1:=h_ e;clear e;(go_wp2_with fail);go_region
           all_goals
            first|go_wp2_with fail|skip
            go_roundw
            case rel=>exact⟨k+1,by omega,by go_num,_,(hg.af9 k (g k+t.at k)).drew,h_ fun j=>by
             unfold dk;by_cases e:j=k;rw[aj e,e,aj (by omega),E1.out];rw[ah e,HG.out];by_cases h2:j<k;rw[aj h2,aj (by omega)];rw[ah h2,ah (by omega)]⟩
            case measure=>simp[intOf];omega
          ·obtain rfl:k=8:=by omega
           have e:words g 8=words (jC st bl).at 8:=Ad fun j hj=>by
            rw[HG.out,aj hj,jC,<-HR.out];match j,hj with
            | 0,_=>rfl
            | 1,_=>rfl
            | 2,_=>rfl
            | 3,_=>rfl
            | 4,_=>rfl
            | 5,_=>rfl
            | 6,_=>rfl
            | 7,_=>rfl
           have hnx:bV (m+1) VH.start l=jC st bl:=(by rw[Em,HST.out,<-HB.out]);have hrh:Rh w wr (bV (m+1) VH.start l).at:=⟨hg.rw.below,hg.rw.out,by rw[hnx,<-e];exact hg.rw.h⟩;clear e hnx hg HG;(go_wp2_with fail);go_roundw
           case rel=>exact⟨m+1,by omega,by go_num,hrh⟩
           case measure=>simp[intOf];omega
  ·obtain rfl:m=n:=by omega
   have XU:gP s.data.toList=nameOf st:=by rw[HSH.out,HST.out]
   have ab3:=h_ XU;clear XU HSH HST hlt;go_upto_region 32 with fail
   generalize hw3:World.alloc _ _=w3
   have hro:Ro w w3 st wr.heap.size 0:=by
    rw[<-hw3];exact⟨hr.below.alloc hr.below.size _,hr.out.alloc _,hr.h.alloc _,by rw[CV];exact Has.new _ _,hr.h.lt⟩
   clear hw3 hr;generalize wr.heap.size=O at*;go_wp2_with fail
   go_loopw [18] (fun i wr=>∃k:Nat,k<=32/\i=.int .i64 k/\Ro w wr st O k) (fun i _=>32-(intOf i).toNat)
   case atStart=>exact⟨0,by omega,rfl,hro⟩
   case round=>
    clear hro;obtain⟨k,hk,rfl,hs⟩:=hrel;by_cases hlt:k<32
    ·have c1:=hs.h.word (k/4) (by omega);have c2:=hs.out.byte k (by rw[JS _ _ (by omega)];omega);have c3:=hs.out.free k;(go_wp2_with fail);go_roundw
     case rel=>exact⟨k+1,by omega,by go_num,hs.next hlt⟩
     case measure=>simp[intOf];omega
    ·obtain rfl:k=32:=(by omega);have hout:=hs.out;have bj:=hs.below;have hres:=hs.res;have e:fU st 32=nameOf st:=(by simp[fU,List.take_of_length_le,ru]);rw[e,<-ab3.out]at hout;have Yt:(gP s.data.toList).length=32:=(by rw[ab3.out];exact ru _);clear hs e;have HZ:=h_ (oD (gP s.data.toList));have hsz:some (ae (gP s.data.toList)).size=some 32:=(by rw[nF,Yt]);have HS:=h_ hsz;have HRS:=h_ yD;clear hsz Yt;generalize hcs:ae (gP s.data.toList)=cs at*
     go_wp2_with (first
      | (with_reducible refine iQ rfl 28 _ rfl _ rfl 28 cs (0,0) _ hout.out Tryz.underlying28 rfl (cp.trans HS.out.symm) ?_)
      | (with_reducible refine eI rfl 28 _ _ rfl _ _ rfl rfl 28 _ hres.out (cp.trans HS.out.symm) (HRS.out.trans (Option.some.inj HS.out).symm) HZ.out ?_))
     exact ay (v:=.agg cs) (results_cell_row Tryz.results142 _ _ w.heap.size 28 cs (0,0) _ rfl (hres.row cs).out Tryz.underlying28 rfl (cp.trans HS.out.symm)) rfl ⟨by rw[hcs],below_setRow bj (by omega) _⟩
structure Rd (w wr:World) (D:Nat) (l:List UInt8):Prop where
 below:Bl w wr
 res:Has wr w.heap.size ky 28
 h:Has wr D (ae l) 28
variable{l:List UInt8}
theorem Rd.on{w wr w':World}{D:Nat}(h:Rd w wr D l)(hb:Bl wr w'):Rd w w' D l:=⟨ai h.below hb,dz hb h.res h.res.lt,dz hb h.h h.h.lt⟩
theorem Rf{i:Nat}(h:i<l.length):l.take (i+1)=l.take i++[l[i]]:=mX h
theorem SY(s:ByteArray)(hs:s.size<=1048576)(w:World):ar 107 #[.string s] w (.agg (ae (gP (gP s.data.toList)))):=by
 have cO:=pN s hs;have hl:(gP s.data.toList).length=32:=ru _;generalize gP s.data.toList=l at*;have HL:=h_ hl;have KO:=h_ cO;have HO:=h_ (oD l);have hsz:some (ae l).size=some 32:=by rw[nF,hl]
 have WH:=h_ hsz;clear hsz hl cO hs;go_enter Tryz.func107,Tryz.ntmps107;go_upto_region 1 with fail
 generalize hw1:World.alloc _ _=w1;have hR:Has w1 w.heap.size ky 28:=by rw[<-hw1];exact Has.new _ _
 have hB:Below w.heap.size w w1:=eT hw1;clear hw1;go_wp2_with fail
 refine az (KO.out _) fun w2 hb2=>?_;have hR2:=dz hb2 hR hR.lt;have hB2:=ai hB hb2;clear hR hB hb2;go_upto_region 2 with(with_reducible refine eI rfl 28 _ _ rfl _ (ae l) rfl rfl 28 _ (mH w2 _) (cp.trans WH.out.symm) (by simp[Option.some.inj WH.out]) HO.out ?_)
 generalize hw3:World.setRow _ _ _=w3
 have h3:Rd w w3 w2.heap.size l:=by
  rw[<-hw3];exact⟨below_setRow (hB2.alloc hB2.size _) hB2.size _,(hR2.alloc _).Vo _ _ (by have:=hR2.lt;omega),(Has.new _ _).row _⟩
 clear hw3 hR2 hB2;generalize w2.heap.size=D at*;go_wp2_with fail
 go_loopw [4,5] (fun v4 v5 wr=>∃(i:Nat)(p:ByteArray),i<=32/\v5=.int .i64 i/\v4=.string p/\p.size=i/\Hid (p.data.toList=l.take i)/\Rd w wr D l) (fun _ v5 _=>32-(intOf v5).toNat)
 case atStart=>exact⟨0,⟨#[]⟩,by omega,rfl,rfl,rfl,rfl,h3⟩
 case round=>
  clear h3;obtain⟨i,p,hi,rfl,rfl,hps,HP,hr⟩:=hrel;have HPS:=h_ hps;have af8:p.size<=32:=by omega
  clear hps;by_cases hlt:i<32
  ·have hil:i<l.length:=by rw[HL.out];exact hlt
   have c1:=hr.h.byte i hil;have hiI:(i:Int)<32:=by omega
   have hn:=Rf hil;generalize l[i]=x at*;have HN:=h_ hn;obtain⟨bt,hbt⟩:∃bt:ByteArray,bt=⟨#[x]⟩:=⟨_,rfl⟩
   have hcv:(Go.convert 174 9 (.slice (some ⟨wr.heap.size,0,none⟩) 1 1)).run Tryz.prog (wr.alloc (.cells #[.int .u8 (x.toNat:Int)] 5))=.ok (.string bt) (wr.alloc (.cells #[.int .u8 (x.toNat:Int)] 5)):=by
    rw[hbt];exact ER _ wr.heap.size [x] 1 (Has.new (ae [x]) _)
   have hbs:bt.size=1:=by rw[hbt];rfl
   have Wl:bt.size<=1:=by omega
   have HBT:=h_ hbt;have HBS:=h_ hbs;clear hbt hbs hn hil;go_wp2_with fail
   clear hcv;refine⟨⟨i+1,p++bt,by omega,by go_num,rfl,?_,?_,hr.on cu⟩,by simp[intOf];omega⟩;rw[nK,HBS.out,HPS.out];show _=_;rw[DT,HBT.out,HP.out,HN.out]
  ·obtain rfl:i=32:=by omega
   have e:p.data.toList=l:=by rw[HP.out,gB (by rw[HL.out];omega)]
   have cO2:=pN p (by omega);rw[e]at cO2;have KO2:=h_ cO2;have hl2:(gP l).length=32:=ru _;have XG:=h_ (oD (gP l));have hsz2:some (ae (gP l)).size=some 32:=by rw[nF,hl2]
   have HS2:=h_ hsz2;clear hsz2 hl2 e cO2 HP HO WH HL;generalize W7:ae (gP l)=rs at*;go_wp2_with fail
   refine az (KO2.out _) fun w5 hb5=>?_;have hr2:=hr.on hb5;have hres:=hr2.res;go_wp2_with (with_reducible refine eI rfl 28 _ _ rfl _ rs rfl rfl 28 _ hres.out (cp.trans HS2.out.symm) (yD.trans (Option.some.inj HS2.out).symm) XG.out ?_)
   exact ay (v:=.agg rs) (results_cell_row Tryz.results107 _ _ w.heap.size 28 rs (0,0) _ rfl (hres.row rs).out Tryz.underlying28 rfl (cp.trans HS2.out.symm)) rfl ⟨by rw[W7],below_setRow hr2.below (by omega) _⟩
