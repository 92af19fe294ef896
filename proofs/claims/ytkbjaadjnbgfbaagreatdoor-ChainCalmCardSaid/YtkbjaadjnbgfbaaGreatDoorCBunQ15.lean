import Derived.Test.YtkbjaadjnbgfbaaGreatDoorCDigTake
import Derived.Test.YtkbjaadjnbgfbaaGreatDoorCBunQ14
import Derived.Deep.RegionHeld3
set_option maxRecDepth 100000
set_option maxHeartbeats 4000000
namespace Go.Proofs.YtkbjaadjnbgfbaaGreatDoor
open Go.RowKit Mem Ry
theorem BL(l:List UInt8)(i:Nat)(b:UInt8):(ae l).setIfInBounds i (.int .u8 (b.toNat:Int))=ae (l.set i b):=by
 apply Array.ext_getElem?;intro j;simp only[ae,Array.getElem?_setIfInBounds,List.getElem?_toArray,List.getElem?_map,List.getElem?_set,List.size_toArray,List.length_map];by_cases h:i=j
 ·subst h;by_cases h2:i<l.length<;>simp[h2]
 simp[h]
theorem ue(n i:Nat)(X:Int)(hX:X=((n:Int)*8)/2^(8*(7-i))):X%256=((UInt8.ofNat (n*8/2^(8*(7-i))%256)).toNat:Int):=by
 have e:X=((n*8/2^(8*(7-i)):Nat):Int):=by rw[hX];simp
 rw[e,UInt8.toNat_ofNat'];omega
def jd(n k:Nat):List UInt8:=(aT n).take k++List.replicate (8-k) 0
theorem kS(n:Nat):(aT n).length=8:=by simp[aT]
theorem P9(n k:Nat)(hk:k<=8):(jd n k).length=8:=by simp[jd,kS];omega
theorem Pj(n k:Nat)(hk:k<8):(jd n k).set k (UInt8.ofNat (n*8/2^(8*(7-k))%256))=jd n (k+1):=by
 have hl:((aT n).take k).length=k:=by simp[kS];omega
 have hg:(aT n)[k]'(by rw[kS];exact hk)=UInt8.ofNat (n*8/2^(8*(7-k))%256):=by simp[aT]
 unfold jd
 rw[List.set_append_right _ _ (by omega),hl,Nat.sub_self,show 8-k=(8-(k+1))+1 by omega,List.replicate_succ,List.set_cons_zero,
  List.take_succ_eq_append_getElem (by rw[kS];exact hk),hg,List.append_assoc]
 rfl
def zs(z:Nat):ByteArray:=⟨(List.replicate z 0).toArray⟩
def lb(n:Nat):ByteArray:=⟨(aT n).toArray⟩
theorem vh(z:Nat):(zs z).size=z:=by show(List.replicate z (0:UInt8)).toArray.size=z;simp
theorem sZ(n:Nat):(lb n).size=8:=by show(aT n).toArray.size=8;simp[kS]
theorem Cd(n z:Nat)(hz:z=(119-n%64)%64):(⟨#[128]⟩++zs z++lb n:ByteArray)=⟨(Ry.ending n).toArray⟩:=by apply ByteArray.ext;rw[ByteArray.data_append,ByteArray.data_append];apply Array.toList_inj.1;rw[Array.toList_append,Array.toList_append,zs,lb,Ry.ending,<-hz];rfl
theorem LJ(z:Nat)(hz:z<64)(w:World):an 221 #[.string ⟨#[0]⟩,.int .i64 (z:Int)] w (.string (zs z)):=by
 have h:=Tryz.strings_Repeat ⟨#[0]⟩ z w (by omega) (by show 1*z<=_;omega)
 have e:Lib.repeatL [0] z=List.replicate z 0:=by
  have:=Lib.repeatL_replicate 0 1 z;rw[Nat.mul_one]at this;exact this
 rw[show(⟨#[0]⟩:ByteArray).data.toList=[0] from rfl,e]at h;exact h
theorem zT(wx:World)(b:Nat)(l:List UInt8)(c:Nat)(h:Has wx b (ae l) 5):(Go.convert 174 9 (.slice (aW b) l.length c)).run Tryz.prog wx=.ok (.string ⟨l.toArray⟩) wx:=by
 have:=run_convert_bytes_arg (P:=Tryz.prog) wx 174 5 Tryz.underlying174 Tryz.underlying5 b 0 l.length c (l.map fun b=>(b.toNat:Int)) (by simp) (fun i hi=>by
  rw[Nat.zero_add,h.byte i hi];simp[hi]) 9 Tryz.underlying9
 rw[this];simp[strOfNums,Function.comp_def]
theorem ending(n:Nat)(hn:n<=1152921504606846976)(w:World):an 212 #[.int .u64 n] w (.string ⟨(Ry.ending n).toArray⟩):=by
 have hmk:∀w,(Instr.makeSlice 174 (.int .i64 8) (.int .i64 8)).run Tryz.prog w=.ok (.slice (some ⟨w.heap.size,0,none⟩) 8 8) (w.alloc (.cells (ae (List.replicate 8 0)) 5)):=fun _=>by kernel_rfl
 go_enter Tryz.func212,Tryz.ntmps212;go_wp2_with fail
 obtain⟨z,hz0⟩:∃z:Nat,z=(119-n%64)%64:=⟨_,rfl⟩;have hz:(119-(n:Int)%64)%64=(z:Int):=by omega
 rw[hz];have HZ0:=h_ hz0;have V3:z<64:=by omega
 clear hz hz0;go_loopw [11] (fun i wr=>∃k:Nat,k<=8/\i=.int .i64 k/\Bl w wr/\Has wr w.heap.size (ae (jd n k)) 5) (fun i _=>8-(intOf i).toNat)
 case atStart=>exact⟨0,by omega,rfl,aY,Has.new _ _⟩
 case round=>
  obtain⟨k,hk,rfl,bj,hH⟩:=hrel;by_cases hlt:k<8
  ·have ck:=hH.byte k (by rw[P9 n k hk];exact hlt);have cf:=hH.free k;go_wp2_with fail
   rw[ue n k _ rfl];refine⟨⟨k+1,by omega,by go_num,bj.setCell (Nat.le_refl _) _,?_⟩,by simp[intOf];omega⟩;rw[<-Pj n k hlt,<-BL];exact hH.set _
  ·obtain rfl:k=8:=by omega
   go_wp2_with fail
   have V4:jd n 8=aT n:=by simp[jd,List.take_of_length_le,kS]
   rw[V4]at hH
   have Zq:∀wx,Has wx w.heap.size (ae (aT n)) 5->(Go.convert 174 9 (.slice (some ⟨w.heap.size,0,none⟩) 8 8)).run Tryz.prog wx=.ok (.string (lb n)) wx:=fun wx h=>by
    have:=zT wx w.heap.size (aT n) 8 h;rwa[kS]at this
   have hwr:IntKind.i64.wrap (z:Int)=(z:Int):=IntWalk.i64_in _ (by omega);clear V4;have hs1:=vh z;have hs2:=sZ n;have hs3:(zs z).size<=64:=by omega
   have hs4:(lb n).size<=8:=by omega
   clear hs1 hs2;have hHd:Has wr.drew w.heap.size (ae (aT n)) 5:=hH;go_region_with ((go_at_call 221;(with_reducible refine(LJ z V3 _).mono ?_);rintro e w1 ⟨rfl,hb1⟩;have h1:=bY hb1 hH hH.lt))
   all_goals
    (go_wp2_with fail);go_ret;refine⟨?_,bj.drew.trans (hb1.mono bj.size)⟩;rw[<-Cd n z HZ0.out];rfl
def dI(s:S8)(k:Nat):List UInt8:=(nameOf s).take k++List.replicate (32-k) 0
theorem mj(s:S8):(nameOf s).length=32:=by simp[nameOf]
theorem JJ(s:S8)(k:Nat)(hk:k<=32):(dI s k).length=32:=by simp[dI,mj];omega
theorem Eu(s:S8)(k:Nat)(hk:k<32):(dI s k).set k (UInt8.ofNat ((s.at (k/4)).toNat/2^(24-8*(k%4))%256))=dI s (k+1):=by
 have hl:((nameOf s).take k).length=k:=by simp[mj];omega
 have hg:(nameOf s)[k]'(by rw[mj];exact hk)=UInt8.ofNat ((s.at (k/4)).toNat/2^(24-8*(k%4))%256):=by simp[nameOf]
 unfold dI
 rw[List.set_append_right _ _ (by omega),hl,Nat.sub_self,show 32-k=(32-(k+1))+1 by omega,List.replicate_succ,List.set_cons_zero,
  List.take_succ_eq_append_getElem (by rw[mj];exact hk),hg,List.append_assoc]
 rfl
theorem qO(x:BitVec 32)(m:Nat):Wd.n x/(2:Int)^m%256=((UInt8.ofNat (x.toNat/2^m%256)).toNat:Int):=by
 have e:Wd.n x/(2:Int)^m=((x.toNat/2^m:Nat):Int):=by unfold Wd.n;simp
 rw[e,UInt8.toNat_ofNat'];omega
theorem nQ:(Tryz.prog.info? 198).map (·.size)=some 8:=by kernel_rfl
theorem aX:(Tryz.prog.info? 28).map (·.size)=some 32:=by kernel_rfl
theorem uR(f:Nat->cJ)(k:Nat)(hk:k<8)(w:World):(Instr.index 198 (.agg #[.int .u32 (Wd.n (f 0)),.int .u32 (Wd.n (f 1)),.int .u32 (Wd.n (f 2)),.int .u32 (Wd.n (f 3)),.int .u32 (Wd.n (f 4)),.int .u32 (Wd.n (f 5)),.int .u32 (Wd.n (f 6)),.int .u32 (Wd.n (f 7))]) (.int .i64 (k:Int))).run Tryz.prog w=.ok (.int .u32 (Wd.n (f k))) w:=by
 obtain rfl|rfl|rfl|rfl|rfl|rfl|rfl|rfl:k=0\/k=1\/k=2\/k=3\/k=4\/k=5\/k=6\/k=7:=by omega
 all_goals rfl
theorem lS(f:Nat->cJ)(k:Nat)(hk:k<8):(S8.of f).at k=f k:=by
 obtain rfl|rfl|rfl|rfl|rfl|rfl|rfl|rfl:k=0\/k=1\/k=2\/k=3\/k=4\/k=5\/k=6\/k=7:=by omega
 all_goals rfl
structure yb (w wr:World) (f:Nat->cJ) (k:Nat):Prop where
 below:Bl w wr
 res:∃cs,cs.size=32/\Has wr w.heap.size cs 28
 out:Has wr (w.heap.size+1) (ae (dI (S8.of f) k)) 28
variable{w wr w1:World}{f g:Nat->cJ}{k j b wb sb:Nat}
theorem yb.next(h:yb w wr f (4*k+j))(hk:k<8)(hj:j<4):yb w (wr.setCell ⟨w.heap.size+1,4*k+j,none⟩ (.int .u8 (Wd.n (f k)/(2:Int)^(24-8*j)%256))) f (4*k+(j+1)) where
 below:=h.below.setCell (by simp) _
 res:=by obtain⟨cs,h1,h2⟩:=h.res;exact⟨cs,h1,h2.other _ _ (by simp)⟩
 out:=by
  rw[qO,<-lS f k hk,show 4*k+(j+1)=4*k+j+1 by omega,<-Eu _ _ (by omega),show(4*k+j)/4=k by omega,show(4*k+j)%4=j by omega,<-BL];exact h.out.set _
def gw:Array Value:=#[.int .u8 0,.int .u8 0,.int .u8 0,.int .u8 0,.int .u8 0,.int .u8 0,.int .u8 0,.int .u8 0,.int .u8 0,.int .u8 0,.int .u8 0,.int .u8 0,.int .u8 0,.int .u8 0,.int .u8 0,.int .u8 0,.int .u8 0,.int .u8 0,.int .u8 0,.int .u8 0,.int .u8 0,.int .u8 0,.int .u8 0,.int .u8 0,.int .u8 0,.int .u8 0,.int .u8 0,.int .u8 0,.int .u8 0,.int .u8 0,.int .u8 0,.int .u8 0]
theorem tN:gw.size=32:=rfl
theorem xG(s:S8):ae (dI s 0)=gw:=rfl
theorem yb.start(w:World)(f:Nat->cJ):yb w ((w.alloc (.cells gw 28)).alloc (.cells gw 28)) f (4*0+0) where
 below:=aY.alloc (by simp) _
 res:=⟨gw,rfl,(Has.new _ _).alloc _⟩
 out:=by
  rw[show 4*0+0=0 from rfl,xG];have:=Has.new (w:=w.alloc (.cells gw 28)) gw 28;rwa[World.size_alloc]at this
theorem name(b:Nat)(f:Nat->cJ)(l:List UInt8)(t:Nat)(w:World)(hH:Has w b (aC f l t) 230):an 213 #[ah b] w (.agg (ae (nameOf (S8.of f)))):=by
 have hrange:∀w1,Bl w w1->w1.rangeAt b 0 ((List.range 8).map fun i=>Value.int .u32 (Wd.n (f i))):=fun w1 h1 j v hv=>by
  have hj:j<8:=by
   by_cases h:j<8;exact h;rw[List.getElem?_eq_none (by simp;omega)]at hv;cases hv
  rw[Nat.zero_add,(bY h1 hH hH.lt).cell,jJ f l t j hj];simpa[hj]using hv
 have hr2:∀o1 o2,((w.alloc o1).alloc o2).rangeAt b 0 ((List.range 8).map fun i=>Value.int .u32 (Wd.n (f i))):=fun o1 o2=>hrange _ ((a_.alloc (Nat.le_refl _) o1).alloc (by simp) o2)
 have HR:=h_ hr2;clear hrange hr2;go_enter Tryz.func213,Tryz.ntmps213;go_wp2_with (with_reducible refine wpList_load_mid rfl 198 _ rfl b 0 rfl ((List.range 8).map fun i=>Value.int .u32 (Wd.n (f i))) _ (HR.out _ _) Tryz.underlying198 rfl (nQ.trans (by simp)) ?_)
 go_loopw [11] (fun i wr=>∃k:Nat,k<=8/\i=.int .i64 k/\yb w wr f (4*k+0)) (fun i _=>8-(intOf i).toNat)
 case atStart=>exact⟨0,by omega,rfl,yb.start w f⟩
 case round=>
  obtain⟨k,hk,rfl,hs⟩:=hrel;by_cases hlt:k<8
  ·have hidx:=uR f k hlt;go_wp2_with fail
   clear hidx;go_loopw [15] (fun i wr=>∃j:Nat,j<=4/\i=.int .i64 j/\yb w wr f (4*k+j)) (fun i _=>4-(intOf i).toNat)
   case atStart=>exact⟨0,by omega,rfl,hs⟩
   case round=>
    obtain⟨j,hj,rfl,ht⟩:=hrel;by_cases hjl:j<4
    ·have c1:=ht.out.byte (4*k+j) (by rw[JJ _ _ (by omega)];omega);have c2:=ht.out.free (4*k+j);(go_wp2_with fail);go_roundw
     case rel=>exact⟨j+1,by omega,by go_num,ht.next hlt hjl⟩
     case measure=>simp[intOf];omega
    ·obtain rfl:j=4:=(by omega);(go_wp2_with fail);go_roundw
     case rel=>exact⟨k+1,by omega,by go_num,ht⟩
     case measure=>simp[intOf];omega
  ·obtain rfl:k=8:=by omega
   have hout:=hs.out;have bj:=hs.below;obtain⟨rs,hrs,hres⟩:=hs.res;have e:dI (S8.of f) (4*8+0)=nameOf (S8.of f):=by simp[dI,List.take_of_length_le,mj]
   rw[e]at hout;clear hs e;have HZ:=h_ (jY (nameOf (S8.of f)));have hsz:some (ae (nameOf (S8.of f))).size=some 32:=by rw[jz,mj]
   have HS:=h_ hsz;have XO:=h_ hrs;clear hsz hrs;generalize hcs:ae (nameOf (S8.of f))=cs at*
   go_wp2_with (first
    | (with_reducible refine wpList_load_row rfl 28 _ rfl _ rfl 28 cs (0,0) _ hout.out Tryz.underlying28 rfl (aX.trans HS.out.symm) ?_)
    | (with_reducible refine wpList_store_row rfl 28 _ _ rfl _ _ rfl rfl 28 _ hres.out (aX.trans HS.out.symm) (XO.out.trans (Option.some.inj HS.out).symm) HZ.out ?_))
   exact bodyPost_ret (v:=.agg cs) (results_cell_row Tryz.results213 _ _ w.heap.size 28 cs (0,0) _ rfl (hres.row cs).out Tryz.underlying28 rfl (aX.trans HS.out.symm)) rfl ⟨by rw[hcs],below_setRow bj (by omega) _⟩
structure Mj (w wr:World) (k:Nat):Prop where
 below:Bl w wr
 hsh:∃g,Has wr w.heap.size (aC g (List.replicate 64 0) 0) 230/\(∀j,j<k->g j=Ry.start.at j)
theorem Mj.next(h:Mj w wr k)(hk:k<8){g:Nat->cJ}(hg:Has wr w.heap.size (aC g (List.replicate 64 0) 0) 230)(h1:∀j,j<k->g j=Ry.start.at j):Mj w (wr.setCell ⟨w.heap.size,k,none⟩ (.int .u32 (Wd.n (Ry.start.at k)))).drew (k+1) where
 below:=(h.below.setCell (by simp) _).drew
 hsh:=by
  refine⟨_,by have:=(hg.set (i:=k) (.int .u32 (Wd.n (Ry.start.at k)))).drew;rw[Ld _ _ _ _ _ hk]at this;exact this,fun j hj=>?_⟩;unfold b_;by_cases e:j=k;rw[if_pos e,e];rw[if_neg e];exact h1 j (by omega)
def ou:Array Value:=aC (fun _=>0) (List.replicate 64 0) 0
theorem l_(w:World):(zeroValue 230).run Tryz.prog w=.ok (.agg ou) w:=by kernel_rfl
theorem new(w:World)(hT:dM w):aN 196 #[] w fun e w'=>e=.returned (.pointer (some ⟨w.heap.size,0,none⟩))/\Bl w w'/\jj w' w.heap.size []:=by
 have hzv:=l_;go_enter Tryz.func196,Tryz.ntmps196;go_wp2_with fail
 clear hzv;go_loopw [4] (fun i wr=>∃k:Nat,k<=8/\i=.int .i64 k/\Mj w wr k) (fun i _=>8-(intOf i).toNat)
 case atStart=>exact⟨0,by omega,rfl,aY,_,Has.new _ _,fun j hj=>absurd hj (by omega)⟩
 case round=>
  obtain⟨k,hk,rfl,hs⟩:=hrel;obtain⟨g,hg,h1⟩:=hs.hsh;by_cases hlt:k<8
  ·have H1:=h_ h1;clear h1;have ck:=(hg.cell k).trans (jJ g _ _ k hlt);have cf:=hg.free k;have cs:=(hT.below hs.below).s k hlt;go_wp2_with fail
   go_region
   go_wp2_with fail
   exact⟨⟨k+1,by omega,by go_num,hs.next hlt hg H1.out⟩,by simp[intOf];omega⟩
  ·obtain rfl:k=8:=by omega
   have bj:=hs.below
   have hI:jj wr w.heap.size []:=by
    refine⟨g,_,hg,by simp,?_,by simp⟩;show S8.of g=Ry.start;unfold S8.of;rw[h1 0 (by omega),h1 1 (by omega),h1 2 (by omega),h1 3 (by omega),h1 4 (by omega),h1 5 (by omega),h1 6 (by omega),h1 7 (by omega)];rfl
   clear h1 hs;go_wp2_with fail
   go_ret;exact⟨rfl,bj,hI⟩
def flat(ps:List ByteArray):List UInt8:=ps.flatMap (·.data.toList)
theorem Fz(ps:List ByteArray)(k:Nat)(hk:k<ps.length):flat (ps.take (k+1))=flat (ps.take k)++ps[k].data.toList:=by unfold flat;rw[List.take_succ_eq_append_getElem hk,List.flatMap_append];simp
theorem sQ(ps:List ByteArray)(k:Nat):(flat (ps.take k)).length<=(flat ps).length:=by
 have e:flat ps=flat (ps.take k)++flat (ps.drop k):=by unfold flat;rw[<-List.flatMap_append,List.take_append_drop]
 rw[e,List.length_append];omega
def xy(w:World)(a:Option Addr)(b:Nat)(ps:List ByteArray):Prop:=
 0<ps.length->∃ab ao,a=some ⟨ab,ao,none⟩/\ab≠b/\∀i (hi:i<ps.length),w.cell? ⟨ab,ao+i,none⟩=some (.string ps[i])
theorem write(b:Nat)(m:List UInt8)(a:Option Addr)(ps:List ByteArray)(n c:Nat)(hn:n=ps.length)(w:World)(hT:dM w)(hb1:b≠1)(hb2:b≠0)(hm:m.length+(flat ps).length<=4611686018427387904)(hl:n<=4611686018427387904)(hP:xy w a b ps)(hH:jj w b m):aN 197 #[ah b,.slice a n c] w fun e w'=>e=.returned (.tuple #[])/\w.grownBy w' (some b)/\jj w' b (m++flat ps):=by
 have HN:=h_ hn;have HP:=h_ hP;clear hn hP;go_enter Tryz.func197,Tryz.ntmps197;go_wp2_with fail
 go_loopw [10] (fun i wr=>∃k:Nat,k<=n/\i=.int .i64 k/\w.grownBy wr (some b)/\jj wr b (m++flat (ps.take k))) (fun i _=>n-(intOf i).toNat)
 case atStart=>exact⟨0,by omega,rfl,BW _ _,by simpa[flat]using hH⟩
 case round=>
  obtain⟨k,hk,rfl,hg,hI⟩:=hrel;by_cases hlt:k<n
  ·have hkl:k<ps.length:=by rw[<-HN.out];exact hlt
   obtain⟨ab,ao,rfl,hab,hc⟩:=HP.out (by omega);have ck:=World.grownBy.cell hg (hc k hkl) (by intro e;cases e;exact hab rfl);have Sf:=hT.grown hg (by intro e;cases e;exact hb1 rfl) (by intro e;cases e;exact hb2 rfl)
   have hsz:(m++flat (ps.take k)).length+ps[k].size<=4611686018427387904:=by
    have h1:=sQ ps (k+1);rw[Fz ps k hkl,List.length_append,<-Lib.size_eq]at h1;rw[List.length_append];omega
   have hI2:∀w',jj w' b (m++flat (ps.take k)++ps[k].data.toList)->jj w' b (m++flat (ps.take (k+1))):=fun w' h=>by
    rw[Fz ps k hkl,<-List.append_assoc];exact h
   have HI2:=h_ hI2;have Su:=h_ hsz;clear hsz hc hI2;generalize ps[k]=s at*;go_wp2_with (go_at_call 211;(with_reducible refine(take b _ s _ Sf hb1 hb2 Su.out hI).mono ?_);rintro e w3 ⟨rfl,hg3,UZ⟩)
   go_roundw
   case rel=>exact⟨k+1,by omega,by go_num,pF hg hg3,HI2.out _ UZ⟩
   case measure=>simp[intOf];omega
  ·obtain rfl:k=n:=by omega
   rw[HN.out,List.take_length]at hI;go_wp2_with fail
   go_end0
   exact⟨rfl,hg,hI⟩
theorem jB:(Tryz.prog.info? 230).map (·.size)=some 73:=by kernel_rfl
theorem O6(f l t):(aC f l t).all (·.oneCell')=true:=by
 rw[Array.all_eq_true_iff_forall_mem];intro v hv;simp only[aC,Array.mem_append]at hv;rcases hv with(hv|hv)|hv
 exact Array.all_eq_true_iff_forall_mem.1 (wF f 8) v hv;exact Array.all_eq_true_iff_forall_mem.1 (jY l) v hv;simp at hv;subst hv;rfl
theorem jj.below{w':World}{B:Nat}{m:List UInt8}(h:jj w b m)(hb:Below B w w')(hB:b<B):jj w' b m:=by obtain⟨f,l,h1,h2⟩:=h;exact⟨f,l,bY hb h1 hB,h2⟩
theorem Oy:ou.size=73:=by unfold ou;rw[B6];rfl
theorem M7(n:Nat):(Ry.ending n).length<=80:=by simp[Ry.ending,aT];omega
theorem sum(b:Nat)(m:List UInt8)(w:World)(hT:dM w)(hm:m.length<=1152921504606846976)(hH:jj w b m):an 198 #[ah b] w (.agg (ae (dX m))):=by
 have hblt:=hH.lt;obtain⟨f,l,Zr,hl,hS,hR⟩:=hH;have HL:=h_ hl;have Zs:=h_ (And.intro hS hR);clear hl hS hR;have hzv:=l_;have Zt:∀o,Has (w.alloc o) b (aC f l m.length) 230:=fun o=>Zr.alloc o
 have hsz:some (aC f l m.length).size=some 73:=by rw[B6,HL.out]
 have Su:=h_ hsz;have HO:=h_ (O6 f l m.length);clear hsz;go_enter Tryz.func198,Tryz.ntmps198
 go_upto_region 4 with(first
  | (with_reducible refine wpList_load_row rfl 230 _ rfl b rfl 230 (aC f l m.length) (0,0) _ (Zt _).out Tryz.underlying230 rfl (jB.trans Su.out.symm) ?_)
  | (with_reducible refine wpList_store_row rfl 230 _ _ rfl _ (aC f l m.length) rfl rfl 230 _ (heap_alloc2_new w _ _) (jB.trans Su.out.symm) (Oy.trans (Option.some.inj (Su.out.symm))) HO.out ?_))
 generalize hw1:World.setRow _ _ _=w1;have hB1:Bl w w1:=by rw[<-hw1];exact below_setRow (aY.alloc (by simp) _) (by simp) _
 have hE1:Has w1 (w.heap.size+1) (aC f l m.length) 230:=by
  rw[<-hw1];exact Has.row (cs:=ou) (heap_alloc2_new w _ _) _
 have U0:∃cs,cs.size=32/\Has w1 w.heap.size cs 28:=by
  refine⟨gw,rfl,?_⟩;rw[<-hw1];exact Has.Ra (heap_alloc2_old w _ _) _ _ (by omega)
 clear hw1 hzv Zt;have hI1:jj w1 (w.heap.size+1) m:=⟨f,l,hE1,HL.out,Zs.out.1,Zs.out.2⟩;have hH1:=bY hB1 Zr hblt;have c72:=(hH1.cell 72).trans (Bj f l _ HL.out);have hT1:=hT.below hB1;clear hE1;have hne1:w.heap.size+1≠1:=by have:=hT.lt;omega
 have hne2:w.heap.size+1≠0:=by have:=hT.lt;omega
 have hel:=M7 m.length
 have TB:∀f3,S8.of f3=aU ((m++(⟨(Ry.ending m.length).toArray⟩:ByteArray).data.toList).length/64) Ry.start (m++(⟨(Ry.ending m.length).toArray⟩:ByteArray).data.toList)->nameOf (S8.of f3)=dX m:=fun f3 h=>by
  rw[h];rfl
 have TB:=h_ TB;obtain⟨es,hes⟩:∃es:ByteArray,es=⟨(Ry.ending m.length).toArray⟩:=⟨_,rfl⟩;have aa3:es.size<=80:=by rw[hes];show(Ry.ending m.length).toArray.size<=80;simpa using hel
 rw[<-hes]at TB;have HES:=h_ hes;clear hes hel;go_wp2_with (go_at_call 212;(with_reducible refine(ending m.length hm _).mono ?_);rintro e w2 ⟨rfl,hb2⟩)
 rw[<-HES.out];have Sf:=hT1.below hb2;have hI2:=hI1.below hb2 hI1.lt;have hR2:∃cs,cs.size=32/\Has w2 w.heap.size cs 28:=by obtain⟨cs,h1,h2⟩:=U0;exact⟨cs,h1,bY hb2 h2 h2.lt⟩
 have hB2:=af hB1 hb2;clear U0 hI1 hT1 hb2 hB1 hH1 c72;go_wp2_with (go_at_call 211;(with_reducible refine(take (w.heap.size+1) m es _ Sf hne1 hne2 (by omega) hI2).mono ?_);rintro e w3 ⟨rfl,hg3,UZ⟩)
 obtain⟨f3,l3,hH3,hl3,VA,hR3⟩:=UZ;have HN3:=h_ (TB.out f3 VA);have hB3:=hB2.trans (r8 hg3 (by omega) hB2.size);obtain⟨cs,hcs,hcs2⟩:=hR2;have RB:=eL hg3 hcs2 (by intro e;have:=Option.some.inj e;omega);have HCS:=h_ hcs;clear hl3 VA hR3 TB hcs hcs2 hI2 Sf hg3;refine au (name (w.heap.size+1) f3 l3 _ _ hH3) fun w4 hb4=>?_;rw[HN3.out];have RU:=bY hb4 RB RB.lt;have hB4:=af hB3 hb4;have Tr:=h_ (jY (dX m));have hsz2:some (ae (dX m)).size=some 32:=by rw[jz];exact congrArg some (mj _)
 have HS2:=h_ hsz2;clear hsz2 RB hb4 hB3 hB2 hH3;generalize SQ:ae (dX m)=rs at*;go_wp2_with (with_reducible refine wpList_store_row rfl 28 _ _ rfl _ rs rfl rfl 28 _ RU.out (aX.trans HS2.out.symm) (HCS.out.trans (Option.some.inj HS2.out).symm) Tr.out ?_)
 exact bodyPost_ret (v:=.agg rs) (results_cell_row Tryz.results198 _ _ w.heap.size 28 rs (0,0) _ rfl (RU.row rs).out Tryz.underlying28 rfl (aX.trans HS2.out.symm)) rfl ⟨by rw[SQ],below_setRow hB4 (by omega) _⟩
def dm(w:World)(a:Option Addr)(ps:List ByteArray):Prop:=
 0<ps.length->∃ab ao,a=some ⟨ab,ao,none⟩/\∀i (hi:i<ps.length),w.cell? ⟨ab,ao+i,none⟩=some (.string ps[i])
variable{a:Option Addr}{ps:List ByteArray}
theorem dm.parts(h:dm w a ps)(hb:Bl w w1)(b:Nat)(hB:w.heap.size<=b):xy w1 a b ps:=fun h0=>by
 obtain⟨ab,ao,ha,hc⟩:=h h0;have hlt:ab<w.heap.size:=block_lt_of_cell (hc 0 h0);exact⟨ab,ao,ha,by omega,fun i hi=>(hb.cell (p:=⟨ab,ao+i,none⟩) hlt).trans (hc i hi)⟩
theorem dm.below(h:dm w a ps)(hb:Bl w w1):dm w1 a ps:=fun h0=>by
 obtain⟨ab,ao,ha,hc⟩:=h h0;have hlt:ab<w.heap.size:=block_lt_of_cell (hc 0 h0);exact⟨ab,ao,ha,fun i hi=>(hb.cell (p:=⟨ab,ao+i,none⟩) hlt).trans (hc i hi)⟩
theorem dm.one{s:ByteArray}(h:w.cell? ⟨b,0,none⟩=some (.string s)):dm w (aW b) [s]:=fun _=>
 ⟨b,0,rfl,fun i hi=>by
  obtain rfl:i=0:=by simpa using hi
  exact h⟩
theorem mE(s:ByteArray):flat [s]=s.data.toList:=by simp[flat]
theorem of(a:Option Addr)(ps:List ByteArray)(n c:Nat)(hn:n=ps.length)(w:World)(hT:dM w)(hm:(flat ps).length<=1152921504606846976)(hl:n<=4611686018427387904)(hP:dm w a ps):an 179 #[.slice a n c] w (.agg (ae (dX (flat ps)))):=by
 have HN:=h_ hn;have HP:=h_ hP;clear hn hP;go_enter Tryz.func179,Tryz.ntmps179;go_upto_region 1 with fail
 generalize hw1:World.alloc _ _=w1;have hres:Has w1 w.heap.size gw 28:=by rw[<-hw1];exact Has.new _ _
 have bj:Bl w w1:=db hw1;have hT1:=hT.below bj;have h01:=hres.lt;clear hw1;go_wp2_with fail
 refine(new w1 hT1).mono ?_;rintro e w2 ⟨rfl,hb2,hI2⟩;have Sf:=hT1.below hb2;have hB2:=af bj hb2;have hres2:=bY hb2 hres h01;have hP2:=HP.out.parts hB2 w1.heap.size bj.size;have hne1:w1.heap.size≠1:=by have:=hT1.lt;omega
 have hne2:w1.heap.size≠0:=by have:=hT1.lt;omega
 have HP2:=h_ hP2;clear hP2 hT1 hb2;go_wp2_with fail
 refine(write w1.heap.size [] a ps n c HN.out _ Sf hne1 hne2 (by simp;omega) hl HP2.out hI2).mono ?_;rintro e w3 ⟨rfl,hg3,UZ⟩;have V5:=Sf.grown hg3 (by intro e;exact hne1 (Option.some.inj e).symm) (by intro e;exact hne2 (Option.some.inj e).symm);have hB3:=hB2.trans (r8 hg3 bj.size hB2.size);have RB:=eL hg3 hres2 (by intro e;have:=Option.some.inj e;omega);rw[List.nil_append]at UZ;clear Sf hg3 hI2 hres2;go_wp2_with fail
 refine au (sum w1.heap.size (flat ps) _ V5 hm UZ) fun w4 hb4=>?_;have RU:=bY hb4 RB RB.lt;have hB4:=af hB3 hb4;have Tr:=h_ (jY (dX (flat ps)));have hsz2:some (ae (dX (flat ps))).size=some 32:=by rw[jz];exact congrArg some (mj _)
 have HS2:=h_ hsz2;clear hsz2 RB hb4 hB3 hB2 UZ V5 hres;generalize SQ:ae (dX (flat ps))=rs at*;go_wp2_with (with_reducible refine wpList_store_row rfl 28 _ _ rfl _ rs rfl rfl 28 _ RU.out (aX.trans HS2.out.symm) (tN.trans (Option.some.inj HS2.out).symm) Tr.out ?_)
 exact bodyPost_ret (v:=.agg rs) (results_cell_row Tryz.results179 _ _ w.heap.size 28 rs (0,0) _ rfl (RU.row rs).out Tryz.underlying28 rfl (aX.trans HS2.out.symm)) rfl ⟨by rw[SQ],below_setRow hB4 (by omega) _⟩
theorem OL(wx:World)(b:Nat)(l:List UInt8)(hl:l.length=32)(h:Has wx b (ae l) 28):(Go.convert 174 9 (.slice (aW b) 32 32)).run Tryz.prog wx=.ok (.string ⟨l.toArray⟩) wx:=by
 have:=run_convert_bytes_arg (P:=Tryz.prog) wx 174 5 Tryz.underlying174 Tryz.underlying5 b 0 32 32 (l.map fun b=>(b.toNat:Int)) (by simp[hl]) (fun i hi=>by
  rw[Nat.zero_add,h.byte i (by omega)];simp[show i<l.length by omega]) 9 Tryz.underlying9
 rw[this];simp[strOfNums,Function.comp_def]
theorem double(a:Option Addr)(ps:List ByteArray)(n c:Nat)(hn:n=ps.length)(w:World)(hT:dM w)(hm:(flat ps).length<=1152921504606846976)(hl:n<=4611686018427387904)(hP:dm w a ps):an 153 #[.slice a n c] w (.agg (ae (dX (dX (flat ps))))):=by
 have HN:=h_ hn;have HP:=h_ hP;clear hn hP;go_enter Tryz.func153,Tryz.ntmps153;go_upto_region 1 with fail
 generalize hw1:World.alloc _ _=w1;have hres:Has w1 w.heap.size gw 28:=by rw[<-hw1];exact Has.new _ _
 have bj:Bl w w1:=db hw1;have hT1:=hT.below bj;have hP1:dm w1 a ps:=HP.out.below bj;have HP1:=h_ hP1;clear hw1 hP1;go_wp2_with fail
 refine au (of a ps n c HN.out w1 hT1 hm hl HP1.out) fun w2 hb2=>?_;have Sf:=hT1.below hb2;have hB2:=af bj hb2;have hres2:=bY hb2 hres hres.lt;have HO:=h_ (jY (dX (flat ps)));have hsz:some (ae (dX (flat ps))).size=some 32:=by rw[jz];exact congrArg some (mj _)
 have Su:=h_ hsz;clear hsz hres bj hT1 hb2;go_upto_region 2 with(with_reducible refine wpList_store_row rfl 28 _ _ rfl _ (ae (dX (flat ps))) rfl rfl 28 _ (heap_alloc_new w2 _) (aX.trans Su.out.symm) (by simp[Option.some.inj Su.out]) HO.out ?_)
 generalize hw3:World.setRow _ _ _=w3;have hin:Has w3 w2.heap.size (ae (dX (flat ps))) 28:=by rw[<-hw3];exact(Has.new _ _).row _
 have hB3:Bl w w3:=by rw[<-hw3];exact below_setRow (hB2.alloc hB2.size _) hB2.size _
 have U1:Bl w2 w3:=cG hw3;have V5:=Sf.below U1;have RB:=bY U1 hres2 hres2.lt;obtain⟨hs,XP⟩:∃hs:ByteArray,hs=⟨(dX (flat ps)).toArray⟩:=⟨_,rfl⟩;have hcv:=OL w3 w2.heap.size (dX (flat ps)) (mj _) hin;rw[<-XP]at hcv;have Zu:Hid (hs.data.toList=dX (flat ps)):=by show _=_;rw[XP]
 have V6:(dX (flat ps)).length=32:=mj _;have HHZ:=h_ V6;clear hw3 U1 Sf hres2 hB2 XP hin V6;go_wp2_with fail
 have hb4:Bl w3 (w3.alloc (.cells #[.string hs] 9)):=aY;refine au (of (some ⟨w3.heap.size,0,none⟩) [hs] 1 1 rfl _ (V5.below hb4) (by rw[mE,Zu.out,HHZ.out];omega) (by omega) (dm.one (by simp))) fun w5 hb5=>?_;rw[mE,Zu.out];have RU:=bY hb5 (bY hb4 RB RB.lt) (Has.lt (bY hb4 RB RB.lt));have hB5:=(af hB3 hb4).trans (hb5.mono (Nat.le_trans hB3.size hb4.size));have Tr:=h_ (jY (dX (dX (flat ps))));have hsz2:some (ae (dX (dX (flat ps)))).size=some 32:=by rw[jz];exact congrArg some (mj _)
 have HS2:=h_ hsz2;clear hsz2 RB hb4 hb5 hB3 V5 hcv;generalize SQ:ae (dX (dX (flat ps)))=rs at*;go_wp2_with (with_reducible refine wpList_store_row rfl 28 _ _ rfl _ rs rfl rfl 28 _ RU.out (aX.trans HS2.out.symm) (tN.trans (Option.some.inj HS2.out).symm) Tr.out ?_)
 exact bodyPost_ret (v:=.agg rs) (results_cell_row Tryz.results153 _ _ w.heap.size 28 rs (0,0) _ rfl (RU.row rs).out Tryz.underlying28 rfl (aX.trans HS2.out.symm)) rfl ⟨by rw[SQ],below_setRow hB5 (by omega) _⟩
theorem Ff(a:ByteArray)(b:UInt8):(a++(⟨#[b]⟩:ByteArray)).data.toList=a.data.toList++[b]:=by rw[ByteArray.data_append];simp
theorem zZ(a b:ByteArray):(a++b).data.toList=a.data.toList++b.data.toList:=by rw[ByteArray.data_append];simp
theorem OX(s:ByteArray)(hs:s.size<=1048576)(w:World):aN 173 #[.string s] w fun e w'=>(∃p:ByteArray,e=.returned (.string p)/\p.data.toList=s.data.toList++Ry.ending s.data.toList.length)/\Bl w w':=by
 have hn:s.data.toList.length=s.size:=(Lib.size_eq s).symm;obtain⟨z,hz⟩:∃z,z=(119-s.size%64)%64:=⟨_,rfl⟩;have V3:z<64:=by omega
 have V7:(s.size+1+z)%64=56:=by omega
 have HZ:=h_ hz;have V8:=h_ V7;have HN:=h_ hn;clear hz V7 hn;go_enter Tryz.func173,Tryz.ntmps173;go_wp2_with fail
 go_loop [0] (fun x=>∃(j:Nat)(p:ByteArray),j<=z/\x=.string p/\p.size=s.size+1+j/\Hid (p.data.toList=s.data.toList++0x80::List.replicate j 0)) (fun x=>match x with | .string p=>s.size+1+z-p.size|_=>0)
 case atStart=>
  refine⟨0,s++⟨#[128]⟩,by omega,rfl,by simp;rfl,?_⟩;show _=_;rw[Ff];simp
 case round=>
  obtain⟨j,p,hj,rfl,hps,HP⟩:=hrel;have Xj:=h_ hps;have XQ:p.size<=1048576+1+64:=by omega
  by_cases hlt:j=z
  ·subst hlt;have ht:(((p.size:Int)%64) != 56)=false:=by rw[bne_eq_false_iff_eq];have:=V8.out;omega
   clear hps;go_wp2_with fail
   go_loopw [3,4,5] (fun v3 v4 v5 wr=>∃(i:Nat)(t:ByteArray),i<=8/\v5=.int .i64 i/\v3=.int .i64 ((s.size*8/256^i:Nat):Int)/\v4=.string t/\t.size=i/\Hid (t.data.toList=(aT s.size).drop (8-i))/\Bl w wr)
    (fun _ _ v5 _=>8-(intOf v5).toNat)
   case atStart=>
    refine⟨0,⟨#[]⟩,by omega,rfl,?_,rfl,rfl,?_,a_⟩;simp;omega;show _=_;simp[aT]
   case round=>
    obtain⟨i,t,hi,rfl,rfl,rfl,hts,Zv,bj⟩:=hrel;have XR:=h_ hts;have aa4:t.size<=8:=(by omega);clear hts;obtain⟨m,hm⟩:∃m,m=s.size*8/256^i:=⟨_,rfl⟩;have aa5:m<=8388608:=(by rw[hm];exact Nat.le_trans (Nat.div_le_self _ _) (by omega));rw[<-hm];have HM:=h_ hm;clear hm;by_cases hi8:i<8
    ·obtain⟨bt,hbt⟩:∃bt:ByteArray,bt=⟨#[UInt8.ofNat (m%256)]⟩:=⟨_,rfl⟩
     have hcv:(Go.convert 174 9 (.slice (some ⟨wr.heap.size,0,none⟩) 1 1)).run Tryz.prog (wr.alloc (.cells #[.int .u8 ((m:Int)%(256:Int))] 5))=.ok (.string bt) (wr.alloc (.cells #[.int .u8 ((m:Int)%(256:Int))] 5)):=by
      have e0:((UInt8.ofNat (m%256)).toNat:Int)=(m:Int)%(256:Int):=by rw[UInt8.toNat_ofNat'];omega
      have e:(#[.int .u8 ((m:Int)%(256:Int))]:Array Value)=ae [UInt8.ofNat (m%256)]:=by
       simp only[ae,List.map_cons,List.map_nil,e0]
      rw[e,hbt];exact zT _ wr.heap.size [UInt8.ofNat (m%256)] 1 (Has.new _ _)
     have hbs:bt.size=1:=(by rw[hbt];rfl);have R9:bt.size<=1:=(by omega);have XS:=h_ hbt;have VB:=h_ hbs;clear hbt hbs;(go_wp2_with fail);clear hcv;refine⟨⟨i+1,bt++t,by omega,by go_num,?_,rfl,?_,?_,bj.alloc bj.size _⟩,by simp[intOf];omega⟩;rw[show(m:Int)/(256:Int)=((m/256:Nat):Int) by omega,HM.out,Nat.div_div_eq_div_mul,<-Nat.pow_succ];rw[ByteArray.size_append,VB.out,XR.out];omega
     ·show _=_;rw[zZ,XS.out,Zv.out]
      have hg:(aT s.size)[8-(i+1)]'(by rw[kS];omega)=UInt8.ofNat (m%256):=by
       simp only[aT,List.getElem_map,List.getElem_range];rw[HM.out,show 8*(7-(8-(i+1)))=8*i by omega,show 256=2^8 from rfl,<-Nat.pow_mul]
      rw[List.drop_eq_getElem_cons (i:=8-(i+1)) (l:=aT s.size) (by rw[kS];omega),hg,show 8-(i+1)+1=8-i by omega];rfl
    ·obtain rfl:i=8:=(by omega);(go_wp2_with fail);go_ret;refine⟨⟨_,rfl,?_⟩,bj⟩;rw[zZ,HP.out,Zv.out,HN.out,Ry.ending,HZ.out];simp
  ·have ht:(((p.size:Int)%64) != 56)=true:=by rw[bne_iff_ne];have:=V8.out;omega
   clear hps;go_wp2_with fail
   refine⟨⟨j+1,_,by omega,rfl,?_,?_⟩,?_⟩;rw[ByteArray.size_append];have:=Xj.out;show p.size+1=_;omega;show _=_;rw[Ff,HP.out,List.replicate_succ'];simp;show s.size+1+z-(p++(⟨#[0]⟩:ByteArray)).size<s.size+1+z-p.size;rw[ByteArray.size_append];have:=Xj.out;show _-(p.size+1)<_;omega
theorem y5(x:BitVec 32)(m:Int)(hm:0<=m):(Wd.n x).tdiv m%(4294967296:Int)=Wd.n x/m:=by have h1:=Wd.Gg x;have h2:=Wd.N_ x;rw[Int.tdiv_eq_ediv_of_nonneg h1];have h3:0<=Wd.n x/m:=Int.ediv_nonneg h1 hm;have h4:Wd.n x/m<=Wd.n x:=Int.ediv_le_self _ h1;omega
theorem MV(x:BitVec 32):(Wd.n x).tdiv 8%(4294967296:Int)=Wd.n (x>>>3):=by rw[y5 x 8 (by omega),Wd.nO]
theorem uI(x:BitVec 32):(Wd.n x).tdiv 1024%(4294967296:Int)=Wd.n (x>>>10):=by rw[y5 x 1024 (by omega),Wd.jD]
attribute [local go_sem] MV uI Wd.not Wd.not' Wd.ld Wd.add Wd.and Wd.or Wd.xor Wd.shl Wd.shr Wd.nO Wd.jD JO Ak oP
structure Rw (w wr:World) (g:Nat->cJ) (wb:Nat) (f:Nat->cJ):Prop where
 below:Bl w wr
 out:Has wr w.heap.size gw 28
 h:Has wr (w.heap.size+1) (words g 8) 198
 RT:Has wr wb (words f 64) 200
 ge:w.heap.size+1<wb
structure Rr (w wr:World) (g:Nat->cJ) (wb:Nat) (f:Nat->cJ) (sb:Nat) (t:S8):Prop where
 rw:Rw w wr g wb f
 s:Has wr sb (words t.at 8) 198
 ge:wb<sb
structure Rh (w wr:World) (g:Nat->cJ):Prop where
 below:Bl w wr
 out:Has wr w.heap.size gw 28
 h:Has wr (w.heap.size+1) (words g 8) 198
theorem Rw.set(h:Rw w wr g wb f)(i:Nat)(x:cJ):Rw w (wr.setCell ⟨wb,i,none⟩ (.int .u32 (Wd.n x))) g wb (b_ f i x):=
 have:=h.ge
 ⟨h.below.setCell (by simp;omega) _,h.out.other _ _ (by simp;omega),h.h.other _ _ (by simp;omega),h.RT.Rk _,h.ge⟩
theorem Rw.drew(h:Rw w wr g wb f):Rw w wr.drew g wb f:=⟨h.below.drew,h.out.drew,h.h.drew,h.RT.drew,h.ge⟩
theorem MW(x:BitVec 32)(b:UInt8):(Wd.n (x<<<8)+(b.toNat:Int))%(4294967296:Int)=Wd.n (x<<<8|||cy b):=by rw[<-Ak,IntKind.wrap_u32']
variable{t:S8}
theorem Rr.drewN(h:Rr w wr g wb f sb t)(n:Nat):Rr w (wr.drewN n) g wb f sb t:=⟨⟨below_drewN h.rw.below n,h.rw.out.drewN n,h.rw.h.drewN n,h.rw.RT.drewN n,h.rw.ge⟩,h.s.drewN n,h.ge⟩
theorem Rr.drew(h:Rr w wr g wb f sb t):Rr w wr.drew g wb f sb t:=⟨⟨h.rw.below.drew,h.rw.out.drew,h.rw.h.drew,h.rw.RT.drew,h.rw.ge⟩,h.s.drew,h.ge⟩
theorem Rr.row(h:Rr w wr g wb f sb t)(t':S8):Rr w (wr.setRow sb (words t'.at 8)) g wb f sb t':=
 have h1:=h.ge;have h2:=h.rw.ge
 ⟨⟨below_setRow h.rw.below (by omega) _,h.rw.out.Ra _ _ (by omega),h.rw.h.Ra _ _ (by omega),h.rw.RT.Ra _ _ (by omega),h.rw.ge⟩,h.s.row _,h.ge⟩
theorem Rr.lit(h:Rr w wr g wb f sb t)(X Y:cJ):Rr w (wr.setRow sb #[.int .u32 (Wd.n (X+Y)),.int .u32 (Wd.n (t.at 0)),.int .u32 (Wd.n (t.at 1)),.int .u32 (Wd.n (t.at 2)),.int .u32 (Wd.n (t.at 3+X)),.int .u32 (Wd.n (t.at 4)),.int .u32 (Wd.n (t.at 5)),.int .u32 (Wd.n (t.at 6))]) g wb f sb ⟨X+Y,t.at 0,t.at 1,t.at 2,t.at 3+X,t.at 4,t.at 5,t.at 6⟩:=
 h.row ⟨X+Y,t.at 0,t.at 1,t.at 2,t.at 3+X,t.at 4,t.at 5,t.at 6⟩
theorem Rr.XT(h:Rr w wr g wb f sb t)(i:Nat)(x:cJ):Rr w (wr.setCell ⟨w.heap.size+1,i,none⟩ (.int .u32 (Wd.n x))) (b_ g i x) wb f sb t:=
 have h1:=h.ge;have h2:=h.rw.ge
 ⟨⟨h.rw.below.setCell (by simp) _,h.rw.out.other _ _ (by simp),h.rw.h.Rk _,h.rw.RT.other _ _ (by simp;omega),h.rw.ge⟩,h.s.other _ _ (by simp;omega),h.ge⟩
structure Ro (w wr:World) (st:S8) (O k:Nat):Prop where
 below:Bl w wr
 res:Has wr w.heap.size gw 28
 h:Has wr (w.heap.size+1) (words st.at 8) 198
 out:Has wr O (ae (dI st k)) 28
 ge:w.heap.size+1<O
theorem oU(x:BitVec 32)(m:Nat):(Wd.n (x>>>m)).tmod 256%256=((UInt8.ofNat (x.toNat/2^m%256)).toNat:Int):=by
 have e:Wd.n (x>>>m)=((x.toNat/2^m:Nat):Int):=by unfold Wd.n;rw[BitVec.toNat_ushiftRight,Nat.shiftRight_eq_div_pow]
 rw[e,UInt8.toNat_ofNat',Int.tmod_eq_emod_of_nonneg (Int.natCast_nonneg _)];generalize x.toNat/2^m=q;omega
theorem Ro.next{st:S8}{O:Nat}(h:Ro w wr st O k)(hk:k<32):Ro w (wr.setCell ⟨O,k,none⟩ (.int .u8 ((Wd.n (st.at (k/4)>>>(24-8*(k%4)))).tmod 256%256))) st O (k+1):=
 have h1:=h.ge
 ⟨h.below.setCell (by simp;omega) _,h.res.other _ _ (by simp;omega),h.h.other _ _ (by simp;omega),by
  rw[oU,<-Eu _ _ hk,<-BL];exact h.out.set _,h.ge⟩
theorem Qr(p:ByteArray)(i:Nat)(b:UInt8)(h:p.data.toList[i]?=some b)(w:World):(Instr.index 9 (.string p) (.int .i64 (i:Int))).run Tryz.prog w=.ok (.int .u8 (b.toNat:Int)) w:=by
 have hi:i<p.size:=by
  rw[Lib.size_eq];by_cases hh:i<p.data.toList.length;exact hh;rw[List.getElem?_eq_none (by omega)]at h;cases h
 rw[run_index_string w 9 p .i64 _ Tryz.underlying9,dif_pos ⟨by omega,by omega⟩]
 have e:p[i]'hi=b:=by
  have:p.data.toList[i]'(by rw[<-Lib.size_eq];exact hi)=b:=by
   rw[List.getElem?_eq_getElem (by rw[<-Lib.size_eq];exact hi)]at h;exact Option.some.inj h
  rw[<-this];simp;rfl
 simp[e]
theorem Rw.drewN(h:Rw w wr g wb f)(n:Nat):Rw w (wr.drewN n) g wb f:=⟨below_drewN h.below n,h.out.drewN n,h.h.drewN n,h.RT.drewN n,h.ge⟩
structure Wf (bl:List UInt8) (f:Nat->cJ) (k j:Nat):Prop where
 lo:∀i,i<k->f i=aF bl i
 here:f k=eK ((bl.drop (4*k)).take j)
 hi:∀i,k<i->f i=0
variable{bl:List UInt8}
theorem Wf.next(h:Wf bl f k j)(hl:4*k+j<bl.length):Wf bl (b_ f k (f k<<<8|||cy bl[4*k+j])) k (j+1) where
 lo i hi:=by unfold b_;rw[if_neg (by omega)];exact h.lo i hi
 here:=by
  unfold b_;rw[if_pos rfl,h.here,List.take_succ_eq_append_getElem (by simp;omega)];simp[eK,List.foldl_append]
 hi i hi:=by unfold b_;rw[if_neg (by omega)];exact h.hi i hi
theorem Wf.word(h:Wf bl f k 4):Wf bl f (k+1) 0 where
 lo i hi:=by
  by_cases e:i=k;subst e;exact h.here;exact h.lo i (by omega)
 here:=by rw[h.hi (k+1) (by omega)];simp[eK]
 hi i hi:=h.hi i (by omega)
theorem Lh(n:Nat):(Ry.ending n).length=9+(119-n%64)%64:=by simp[Ry.ending,Ry.aT];omega
section
variable{w:World}{ops:Array Oper}{rest:List Oper}{o:Oper}{a:Act}{Q:Exit->Act->World->Prop}
theorem vr(hgd:o.guard=none)(x:Operand)(ho:o.op=.load 198 x)(g:Nat)(hx:a.eval x=ah g)(cs:Array Value)(hg:Has w g cs 198)(hs:cs.size=8)(h:wpList Tryz.prog ops Q rest (a.put o.dst (.agg cs)) w):wpList Tryz.prog ops Q (o::rest) a w:=
 wpList_load_row hgd 198 x ho g hx 198 cs (0,0) _ hg.out Tryz.underlying198 rfl (nQ.trans (by rw[hs])) h
theorem Ju(hgd:o.guard=none)(x y:Operand)(ho:o.op=.store 198 x y)(g:Nat)(cs':Array Value)(hx:a.eval x=ah g)(hy:a.eval y=.agg cs')(hs':cs'.size=8)(h1:cs'.all (·.oneCell')=true)(cs:Array Value)(hg:Has w g cs 198)(hs:cs.size=8)(h:wpList Tryz.prog ops Q rest (a.put o.dst undef) (w.setRow g cs')):wpList Tryz.prog ops Q (o::rest) a w:=
 wpList_store_row hgd 198 x y ho g cs' hx hy 198 cs hg.out (nQ.trans (by rw[hs'])) (by rw[hs,hs']) h1 h
theorem NI(hgd:o.guard=none)(x y:Operand)(ho:o.op=.store 198 x y)(g:Nat)(a0 a1 a2 a3 a4 a5 a6 a7:Int)(hx:a.eval x=ah g)(hy:a.eval y=.agg #[.int .u32 a0,.int .u32 a1,.int .u32 a2,.int .u32 a3,.int .u32 a4,.int .u32 a5,.int .u32 a6,.int .u32 a7])(cs:Array Value)(hg:Has w g cs 198)(hs:cs.size=8)(h:wpList Tryz.prog ops Q rest (a.put o.dst undef) (w.setRow g #[.int .u32 a0,.int .u32 a1,.int .u32 a2,.int .u32 a3,.int .u32 a4,.int .u32 a5,.int .u32 a6,.int .u32 a7])):wpList Tryz.prog ops Q (o::rest) a w:=
 Ju hgd x y ho g _ hx hy rfl (by simp[Value.oneCell']) cs hg hs h
end
def pv:Array Value:=#[.int .u32 0,.int .u32 0,.int .u32 0,.int .u32 0,.int .u32 0,.int .u32 0,.int .u32 0,.int .u32 0]
theorem kK(s:ByteArray)(hs:s.size<=1048576)(w:World):an 142 #[.string s] w (.agg (ae (dX s.data.toList))):=by
 go_enter Tryz.func142,Tryz.ntmps142;go_upto_region 2 with fail
 generalize hw1:World.alloc _ _=w1
 have hR:Rh w w1 Ry.start.at:=by
  rw[<-hw1];refine⟨aY.alloc (by simp) _,(Has.new _ _).alloc _,?_⟩;have:=Has.new (w:=w.alloc (.cells gw 28)) (words Ry.start.at 8) 198;rw[World.size_alloc]at this;exact this
 clear hw1;generalize hag:(#[Value.int IntKind.u32 1779033703,Value.int IntKind.u32 3144134277,Value.int IntKind.u32 1013904242,Value.int IntKind.u32 2773480762,Value.int IntKind.u32 1359893119,Value.int IntKind.u32 2600822924,Value.int IntKind.u32 528734635,Value.int IntKind.u32 1541459225]:Array Value)=ag;clear hag;go_wp2_with fail
 refine(OX s hs w1).mono ?_;rintro e w2 ⟨⟨p,rfl,hp⟩,hb2⟩;have hR2:Rh w w2 Ry.start.at:=⟨af hR.below hb2,bY hb2 hR.out hR.out.lt,bY hb2 hR.h hR.h.lt⟩;obtain⟨l,hl⟩:∃l,l=s.data.toList++Ry.ending s.data.toList.length:=⟨_,rfl⟩;have TC:dX s.data.toList=nameOf (aU (l.length/64) Ry.start l):=by rw[hl];rfl
 rw[<-hl]at hp;have hpl:p.size=l.length:=by rw[Lib.size_eq,hp]
 obtain⟨n,hn⟩:∃n,l.length=64*n:=⟨l.length/64,by rw[hl,List.length_append,Lh];omega⟩;have hps:p.size=64*n:=by omega
 have hnm:n<=16400:=by
  have:l.length<=s.size+73:=by rw[hl,List.length_append,Lh,<-Lib.size_eq];omega
  omega
 have Uv:dX s.data.toList=nameOf (aU n Ry.start l):=by rw[TC,hn];congr 2;omega
 have Zw:=h_ Uv;have HP:=h_ hp;have HN:=h_ hn;have HL:=h_ hpl;clear hl TC Uv hp hn hpl hR hb2 hs;go_wp2_with fail
 go_loopw [5] (fun i wr=>∃m:Nat,m<=n/\i=.int .i64 ((64*m:Nat):Int)/\Rh w wr (aU m Ry.start l).at) (fun i _=>64*n-(intOf i).toNat)
 case atStart=>exact⟨0,by omega,rfl,hR2⟩
 case round=>
  obtain⟨m,hm,rfl,hr⟩:=hrel;generalize hst:aU m Ry.start l=st at hr;have HST:=h_ hst;clear hst hR2;by_cases hlt:m<n
  ·obtain⟨bl,hbl⟩:∃bl,bl=(l.drop (64*m)).take 64:=⟨_,rfl⟩;have aa6:bl.length=64:=by rw[hbl,List.length_take,List.length_drop,HN.out];omega
   have HB:=h_ hbl;clear hbl;go_upto_region 7 with fail
   generalize hw3:World.alloc _ _=w3
   have hrw:Rw w w3 st.at wr.heap.size (fun _=>0):=by
    rw[<-hw3];refine⟨hr.below.alloc hr.below.size _,hr.out.alloc _,hr.h.alloc _,Has.new _ _,hr.h.lt⟩
   clear hw3 hr;generalize wr.heap.size=wb at*;clear wr;go_wp2_with fail
   go_loopw [7] (fun i wr=>∃k:Nat,k<=16/\i=.int .i64 k/\∃f,Rw w wr st.at wb f/\Wf bl f k 0) (fun i _=>16-(intOf i).toNat)
   case atStart=>exact⟨0,by omega,rfl,_,hrw,⟨fun i hi=>absurd hi (by omega),by simp[eK],fun _ _=>rfl⟩⟩
   case round=>
    clear hrw;obtain⟨k,hk,rfl,f,hf,hw⟩:=hrel;by_cases hkl:k<16
    ·(go_wp2_with fail);go_loopw [8] (fun i wr=>∃j:Nat,j<=4/\i=.int .i64 j/\∃f,Rw w wr st.at wb f/\Wf bl f k j) (fun i _=>4-(intOf i).toNat)
     case atStart=>exact⟨0,by omega,rfl,f,hf,hw⟩
     case round=>
      clear hf hw;obtain⟨j,hj,rfl,f,hf,hw⟩:=hrel;by_cases hjl:j<4
      ·have c2:=hf.RT.word k (by omega);have c3:=hf.RT.free k;have hbb:4*k+j<bl.length:=by omega
       have hpi:p.data.toList[64*m+4*k+j]?=some bl[4*k+j]:=by
        rw[HP.out,<-List.getElem?_eq_getElem hbb,HB.out,List.getElem?_take_of_lt (by omega),List.getElem?_drop];congr 1;omega
       have hidx:∀w,(Instr.index 9 (.string p) (.int .i64 (64*(m:Int)+4*(k:Int)+(j:Int)))).run Tryz.prog w=.ok (.int .u8 (bl[4*k+j].toNat:Int)) w:=fun w=>by
        have:=Qr p (64*m+4*k+j) bl[4*k+j] hpi w;simpa using this
       have e1:IntKind.i64.wrap (4*(k:Int))=4*(k:Int):=IntWalk.i64_in _ (by omega);have e2:IntKind.i64.wrap (64*(m:Int)+4*(k:Int))=64*(m:Int)+4*(k:Int):=IntWalk.i64_in _ (by omega);have e3:IntKind.i64.wrap (64*(m:Int)+4*(k:Int)+(j:Int))=64*(m:Int)+4*(k:Int)+(j:Int):=IntWalk.i64_in _ (by omega);clear hpi;have hwn:=hw.next hbb;generalize bl[4*k+j]=bb at*;have HWN:=h_ hwn;clear hw hwn;(go_wp2_with fail);go_region
       (go_wp2_with fail);clear hidx;refine⟨⟨j+1,by omega,by go_num,_,?_,HWN.out⟩,by simp[intOf];omega⟩;rw[MW];exact(hf.set k _).drew
      ·obtain rfl:j=4:=(by omega);(go_wp2_with fail);exact⟨⟨k+1,by omega,by go_num,f,hf,hw.word⟩,by simp[intOf];omega⟩
    ·obtain rfl:k=16:=(by omega);have ht:∀i,i<16->f i=sched (aF bl) i:=fun i hi=>by rw[hw.lo i hi,GI _ _ hi]
     have HT:=h_ ht;clear hw ht;(go_wp2_with fail);go_loopw [9] (fun i wr=>∃k:Nat,16<=k/\k<=64/\i=.int .i64 k/\∃f,Rw w wr st.at wb f/\Hid (∀i,i<k->f i=sched (aF bl) i)) (fun i _=>64-(intOf i).toNat)
     case atStart=>exact⟨16,by omega,by omega,rfl,f,hf,HT⟩
     case round=>
      clear hf HT;obtain⟨k,UW,hk,rfl,f,hf,HF⟩:=hrel;by_cases hlt2:k<64
      ·have c1:=hf.RT.word (k-15) (by omega);have c2:=hf.RT.word (k-2) (by omega);have c3:=hf.RT.word (k-16) (by omega);have c4:=hf.RT.word (k-7) (by omega);have c5:=hf.RT.free k;have b1:IntKind.i64.wrap ((k:Int)-15)=(k:Int)-15:=IntWalk.i64_in _ (by omega);have b2:IntKind.i64.wrap ((k:Int)-2)=(k:Int)-2:=IntWalk.i64_in _ (by omega);have b3:IntKind.i64.wrap ((k:Int)-16)=(k:Int)-16:=IntWalk.i64_in _ (by omega);have b4:IntKind.i64.wrap ((k:Int)-7)=(k:Int)-7:=IntWalk.i64_in _ (by omega);have a1:(0:Int)<=(k:Int)-15:=(by omega);have a2:(0:Int)<=(k:Int)-2:=(by omega);have a3:(0:Int)<=(k:Int)-16:=(by omega);have a4:(0:Int)<=(k:Int)-7:=(by omega);have t1:((k:Int)-15).toNat=k-15:=(by omega);have t2:((k:Int)-2).toNat=k-2:=(by omega);have t3:((k:Int)-16).toNat=k-16:=(by omega);have t4:((k:Int)-7).toNat=k-7:=(by omega);have l1:(k:Int)-15<64:=(by omega);have l2:(k:Int)-2<64:=(by omega);have l3:(k:Int)-16<64:=(by omega);have l4:(k:Int)-7<64:=(by omega);(go_wp2_with fail);go_quiet ((go_at_call 174;exact kf (tv _ _ (by omega) (by omega) _)))
       replace c2:=(hf.RT.drewN nq).word (k-2) (by omega);replace c3:=(hf.RT.drewN nq).word (k-16) (by omega);replace c4:=(hf.RT.drewN nq).word (k-7) (by omega);replace c5:=(hf.RT.drewN nq).free k;generalize hw1:wr.drewN nq=wq at c2 c3 c4 c5;have Zx:Rw w wq st.at wb f:=(by rw[<-hw1];exact hf.drewN nq);have c6:=Zx.RT.word k (by omega);clear c1 hf hw1;(go_wp2_with fail);go_quiet ((go_at_call 174;exact kf (tv _ _ (by omega) (by omega) _)))
       (go_wp2_with fail);go_region
       (go_wp2_with fail);refine⟨⟨k+1,by omega,by omega,by go_num,_,(Zx.drewN _).set k _,?_⟩,by simp[intOf];omega⟩;intro i hi;unfold b_;by_cases e:i=k;rw[if_pos e,e,EJ _ k UW hlt2,HF.out _ (by omega),HF.out _ (by omega),HF.out _ (by omega),HF.out _ (by omega)];rfl;rw[if_neg e];exact HF.out i (by omega)
      ·obtain rfl:k=64:=(by omega);have RW:Rw w wr st.at wb (sched (aF bl)):=⟨hf.below,hf.out,hf.h,by rw[<-vR HF.out];exact hf.RT,hf.ge⟩;clear hf HF;have hZ:Has (wr.alloc (.cells #[.int .u32 0,.int .u32 0,.int .u32 0,.int .u32 0,.int .u32 0,.int .u32 0,.int .u32 0,.int .u32 0] 198)) wr.heap.size pv 198:=Has.new _ _;have Zy:pv.size=8:=rfl;have hH:=RW.h;have HS:(words st.at 8).size=8:=eX _ _;have HO:=wF st.at 8;have H1:=h_ HO
       have hrr:Rr w ((wr.alloc (.cells #[.int .u32 0,.int .u32 0,.int .u32 0,.int .u32 0,.int .u32 0,.int .u32 0,.int .u32 0,.int .u32 0] 198)).setRow wr.heap.size (words st.at 8)) st.at wb (sched (aF bl)) wr.heap.size st:=by
        have hz:=RW.RT.lt;exact⟨⟨below_setRow (RW.below.alloc RW.below.size _) RW.below.size _,(RW.out.alloc _).Ra _ _ (by have:=RW.out.lt;omega),(RW.h.alloc _).Ra _ _ (by have:=RW.h.lt;omega),(RW.RT.alloc _).Ra _ _ (by omega),RW.ge⟩,(Has.new _ _).row _,hz⟩
       clear HO RW;generalize words st.at 8=cs at hH HS H1 hrr|-
       go_upto_region 21 with(first
        | (with_reducible refine vr rfl _ rfl _ rfl cs hH HS ?_)
        | (with_reducible refine Ju rfl _ _ rfl _ cs rfl rfl HS H1.out pv hZ Zy ?_))
       generalize World.setRow _ _ _=w4 at hrr|-;clear hH HS H1 hZ Zy;generalize wr.heap.size=sb at*;(go_wp2_with fail);go_loopw [13] (fun i wr=>∃k:Nat,k<=64/\i=.int .i64 k/\∃t,Rr w wr st.at wb (sched (aF bl)) sb t/\Hid (t=rounds st (sched (aF bl)) k)) (fun i _=>64-(intOf i).toNat)
       case atStart=>exact⟨0,by omega,rfl,st,hrr,rfl⟩
       case round=>
        clear hrr;obtain⟨k,hk,rfl,t,ht,HR⟩:=hrel;by_cases hlt3:k<64
        ·have c0:=ht.s.word 0 (by omega);have c1:=ht.s.word 1 (by omega);have c2:=ht.s.word 2 (by omega);have c3:=ht.s.word 3 (by omega);have c4:=ht.s.word 4 (by omega);have c5:=ht.s.word 5 (by omega);have c6:=ht.s.word 6 (by omega);have c7:=ht.s.word 7 (by omega);have cw:=ht.rw.RT.word k hlt3;go_wp2_with fail
         go_quiet (first
          | (go_at_call 174;exact kf (tv _ _ (by omega) (by omega) _))
          | (go_at_call 175;exact kf (FO _ hlt3 _)))
         generalize hX:t.at 7+(BitVec.rotateRight (t.at 4) 6^^^BitVec.rotateRight (t.at 4) 11^^^BitVec.rotateRight (t.at 4) 25)+(t.at 4&&&t.at 5|||~~~t.at 4&&&t.at 6)+ss k+sched (aF bl) k=X;have HX:=h_ hX;generalize T4:wr.drewN nq=w5;have V9:Rr w w5 st.at wb (sched (aF bl)) sb t:=(by rw[<-T4];exact ht.drewN nq);clear c0 c1 c2 c3 c4 c5 c6 c7 cw T4 ht hX;have c0:=V9.s.word 0 (by omega);have c1:=V9.s.word 1 (by omega);have c2:=V9.s.word 2 (by omega);(go_wp2_with fail);go_quiet ((go_at_call 174;exact kf (tv _ _ (by omega) (by omega) _)))
         generalize hY:(BitVec.rotateRight (t.at 0) 2^^^BitVec.rotateRight (t.at 0) 13^^^BitVec.rotateRight (t.at 0) 22)+(t.at 0&&&t.at 1|||t.at 0&&&t.at 2|||t.at 1&&&t.at 2)=Y;have HY:=h_ hY;generalize VC:w5.drewN nq=w6;have Ub:Rr w w6 st.at wb (sched (aF bl)) sb t:=(by rw[<-VC];exact V9.drewN nq);clear c0 c1 c2 VC V9 hY;have c0:=Ub.s.word 0 (by omega);have c1:=Ub.s.word 1 (by omega);have c2:=Ub.s.word 2 (by omega);have c3:=Ub.s.word 3 (by omega);have c4:=Ub.s.word 4 (by omega);have c5:=Ub.s.word 5 (by omega);have c6:=Ub.s.word 6 (by omega);have Uw:(words t.at 8).size=8:=eX _ _;have hts:=Ub.s;(go_wp2_with (with_reducible refine NI rfl _ _ rfl _ _ _ _ _ _ _ _ _ rfl rfl _ hts Uw ?_));go_roundw
         case rel=>exact⟨k+1,by omega,by go_num,⟨X+Y,t.at 0,t.at 1,t.at 2,t.at 3+X,t.at 4,t.at 5,t.at 6⟩,Ub.lit X Y,h_ (by rw[<-HX.out,<-HY.out,HR.out];rfl)⟩
         case measure=>simp[intOf];omega
        ·obtain rfl:k=64:=(by omega);(go_wp2_with fail);go_loopw [16] (fun i wr=>∃k:Nat,k<=8/\i=.int .i64 k/\∃g,Rr w wr g wb (sched (aF bl)) sb t/\Hid (∀j,g j=if j<k then st.at j+t.at j else st.at j)) (fun i _=>8-(intOf i).toNat)
         case atStart=>exact⟨0,by omega,rfl,st.at,ht,h_ fun j=>by rw[if_neg (by omega)]⟩
         case round=>
          clear ht;obtain⟨k,hk,rfl,g,hg,HG⟩:=hrel;by_cases Ua:k<8
          ·have c1:=hg.rw.h.word k Ua;have c2:=hg.s.word k Ua;have c3:=hg.rw.h.free k;have hkI:(k:Int)<8:=(by omega);have e:g k=st.at k:=(by rw[HG.out,if_neg (by omega)]);have E1:=h_ e;clear e;(go_wp2_with fail);go_region
           all_goals
            first|go_wp2_with fail|skip
            go_roundw
            case rel=>exact⟨k+1,by omega,by go_num,_,(hg.XT k (g k+t.at k)).drew,h_ fun j=>by
             unfold b_;by_cases e:j=k;rw[if_pos e,e,if_pos (by omega),E1.out];rw[if_neg e,HG.out];by_cases h2:j<k;rw[if_pos h2,if_pos (by omega)];rw[if_neg h2,if_neg (by omega)]⟩
            case measure=>simp[intOf];omega
          ·obtain rfl:k=8:=by omega
           have e:words g 8=words (fy st bl).at 8:=vR fun j hj=>by
            rw[HG.out,if_pos hj,fy,<-HR.out];match j,hj with
            | 0,_=>rfl
            | 1,_=>rfl
            | 2,_=>rfl
            | 3,_=>rfl
            | 4,_=>rfl
            | 5,_=>rfl
            | 6,_=>rfl
            | 7,_=>rfl
           have hnx:aU (m+1) Ry.start l=fy st bl:=(by rw[BB,HST.out,<-HB.out]);have hrh:Rh w wr (aU (m+1) Ry.start l).at:=⟨hg.rw.below,hg.rw.out,by rw[hnx,<-e];exact hg.rw.h⟩;clear e hnx hg HG;(go_wp2_with fail);go_roundw
           case rel=>exact⟨m+1,by omega,by go_num,hrh⟩
           case measure=>simp[intOf];omega
  ·obtain rfl:m=n:=by omega
   have TC:dX s.data.toList=nameOf st:=by rw[Zw.out,HST.out]
   have V_:=h_ TC;clear TC Zw HST hlt;go_upto_region 32 with fail
   generalize hw3:World.alloc _ _=w3
   have hro:Ro w w3 st wr.heap.size 0:=by
    rw[<-hw3];exact⟨hr.below.alloc hr.below.size _,hr.out.alloc _,hr.h.alloc _,by rw[xG];exact Has.new _ _,hr.h.lt⟩
   clear hw3 hr;generalize wr.heap.size=O at*;go_wp2_with fail
   go_loopw [18] (fun i wr=>∃k:Nat,k<=32/\i=.int .i64 k/\Ro w wr st O k) (fun i _=>32-(intOf i).toNat)
   case atStart=>exact⟨0,by omega,rfl,hro⟩
   case round=>
    clear hro;obtain⟨k,hk,rfl,hs⟩:=hrel;by_cases hlt:k<32
    ·have c1:=hs.h.word (k/4) (by omega);have c2:=hs.out.byte k (by rw[JJ _ _ (by omega)];omega);have c3:=hs.out.free k;(go_wp2_with fail);go_roundw
     case rel=>exact⟨k+1,by omega,by go_num,hs.next hlt⟩
     case measure=>simp[intOf];omega
    ·obtain rfl:k=32:=(by omega);have hout:=hs.out;have bj:=hs.below;have hres:=hs.res;have e:dI st 32=nameOf st:=(by simp[dI,List.take_of_length_le,mj]);rw[e,<-V_.out]at hout;have Uc:(dX s.data.toList).length=32:=(by rw[V_.out];exact mj _);clear hs e;have HZ:=h_ (jY (dX s.data.toList));have hsz:some (ae (dX s.data.toList)).size=some 32:=(by rw[jz,Uc]);have HS:=h_ hsz;have XO:=h_ tN;clear hsz Uc;generalize hcs:ae (dX s.data.toList)=cs at*
     go_wp2_with (first
      | (with_reducible refine wpList_load_row rfl 28 _ rfl _ rfl 28 cs (0,0) _ hout.out Tryz.underlying28 rfl (aX.trans HS.out.symm) ?_)
      | (with_reducible refine wpList_store_row rfl 28 _ _ rfl _ _ rfl rfl 28 _ hres.out (aX.trans HS.out.symm) (XO.out.trans (Option.some.inj HS.out).symm) HZ.out ?_))
     exact bodyPost_ret (v:=.agg cs) (results_cell_row Tryz.results142 _ _ w.heap.size 28 cs (0,0) _ rfl (hres.row cs).out Tryz.underlying28 rfl (aX.trans HS.out.symm)) rfl ⟨by rw[hcs],below_setRow bj (by omega) _⟩
structure Rd (w wr:World) (D:Nat) (l:List UInt8):Prop where
 below:Bl w wr
 res:Has wr w.heap.size gw 28
 h:Has wr D (ae l) 28
variable{l:List UInt8}
theorem Rd.on{w wr w':World}{D:Nat}(h:Rd w wr D l)(hb:Bl wr w'):Rd w w' D l:=⟨af h.below hb,bY hb h.res h.res.lt,bY hb h.h h.h.lt⟩
theorem Qb{i:Nat}(h:i<l.length):l.take (i+1)=l.take i++[l[i]]:=List.take_succ_eq_append_getElem h
theorem MD(s:ByteArray)(hs:s.size<=1048576)(w:World):an 107 #[.string s] w (.agg (ae (dX (dX s.data.toList)))):=by
 have cO:=kK s hs;have hl:(dX s.data.toList).length=32:=mj _;generalize dX s.data.toList=l at*;have HL:=h_ hl;have KO:=h_ cO;have HO:=h_ (jY l);have hsz:some (ae l).size=some 32:=by rw[jz,hl]
 have Su:=h_ hsz;clear hsz hl cO hs;go_enter Tryz.func107,Tryz.ntmps107;go_upto_region 1 with fail
 generalize hw1:World.alloc _ _=w1;have hR:Has w1 w.heap.size gw 28:=by rw[<-hw1];exact Has.new _ _
 have hB:Below w.heap.size w w1:=db hw1;clear hw1;go_wp2_with fail
 refine au (KO.out _) fun w2 hb2=>?_;have hR2:=bY hb2 hR hR.lt;have hB2:=af hB hb2;clear hR hB hb2;go_upto_region 2 with(with_reducible refine wpList_store_row rfl 28 _ _ rfl _ (ae l) rfl rfl 28 _ (heap_alloc_new w2 _) (aX.trans Su.out.symm) (by simp[Option.some.inj Su.out]) HO.out ?_)
 generalize hw3:World.setRow _ _ _=w3
 have h3:Rd w w3 w2.heap.size l:=by
  rw[<-hw3];exact⟨below_setRow (hB2.alloc hB2.size _) hB2.size _,(hR2.alloc _).Ra _ _ (by have:=hR2.lt;omega),(Has.new _ _).row _⟩
 clear hw3 hR2 hB2;generalize w2.heap.size=D at*;go_wp2_with fail
 go_loopw [4,5] (fun v4 v5 wr=>∃(i:Nat)(p:ByteArray),i<=32/\v5=.int .i64 i/\v4=.string p/\p.size=i/\Hid (p.data.toList=l.take i)/\Rd w wr D l) (fun _ v5 _=>32-(intOf v5).toNat)
 case atStart=>exact⟨0,⟨#[]⟩,by omega,rfl,rfl,rfl,rfl,h3⟩
 case round=>
  clear h3;obtain⟨i,p,hi,rfl,rfl,hps,HP,hr⟩:=hrel;have Xj:=h_ hps;have XQ:p.size<=32:=by omega
  clear hps;by_cases hlt:i<32
  ·have hil:i<l.length:=by rw[HL.out];exact hlt
   have c1:=hr.h.byte i hil;have hiI:(i:Int)<32:=by omega
   have hn:=Qb hil;generalize l[i]=x at*;have HN:=h_ hn;obtain⟨bt,hbt⟩:∃bt:ByteArray,bt=⟨#[x]⟩:=⟨_,rfl⟩
   have hcv:(Go.convert 174 9 (.slice (some ⟨wr.heap.size,0,none⟩) 1 1)).run Tryz.prog (wr.alloc (.cells #[.int .u8 (x.toNat:Int)] 5))=.ok (.string bt) (wr.alloc (.cells #[.int .u8 (x.toNat:Int)] 5)):=by
    rw[hbt];exact zT _ wr.heap.size [x] 1 (Has.new (ae [x]) _)
   have hbs:bt.size=1:=by rw[hbt];rfl
   have R9:bt.size<=1:=by omega
   have XS:=h_ hbt;have VB:=h_ hbs;clear hbt hbs hn hil;go_wp2_with fail
   clear hcv;refine⟨⟨i+1,p++bt,by omega,by go_num,rfl,?_,?_,hr.on aY⟩,by simp[intOf];omega⟩;rw[ByteArray.size_append,VB.out,Xj.out];show _=_;rw[zZ,XS.out,HP.out,HN.out]
  ·obtain rfl:i=32:=by omega
   have e:p.data.toList=l:=by rw[HP.out,List.take_of_length_le (by rw[HL.out];omega)]
   have XU:=kK p (by omega);rw[e]at XU;have KO2:=h_ XU;have hl2:(dX l).length=32:=mj _;have Tr:=h_ (jY (dX l));have hsz2:some (ae (dX l)).size=some 32:=by rw[jz,hl2]
   have HS2:=h_ hsz2;clear hsz2 hl2 e XU HP HO Su HL;generalize SQ:ae (dX l)=rs at*;go_wp2_with fail
   refine au (KO2.out _) fun w5 hb5=>?_;have hr2:=hr.on hb5;have hres:=hr2.res;go_wp2_with (with_reducible refine wpList_store_row rfl 28 _ _ rfl _ rs rfl rfl 28 _ hres.out (aX.trans HS2.out.symm) (tN.trans (Option.some.inj HS2.out).symm) Tr.out ?_)
   exact bodyPost_ret (v:=.agg rs) (results_cell_row Tryz.results107 _ _ w.heap.size 28 rs (0,0) _ rfl (hres.row rs).out Tryz.underlying28 rfl (aX.trans HS2.out.symm)) rfl ⟨by rw[SQ],below_setRow hr2.below (by omega) _⟩
