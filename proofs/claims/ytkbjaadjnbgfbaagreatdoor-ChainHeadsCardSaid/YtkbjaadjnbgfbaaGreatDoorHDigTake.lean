import Derived.Test.YtkbjaadjnbgfbaaGreatDoorHBunQ12
import Derived.Lib.IndexBytes
set_option maxRecDepth 100000
set_option maxHeartbeats 4000000
namespace Go.Proofs.YtkbjaadjnbgfbaaGreatDoor
open Go.RowKit Mem VH
attribute [local go_sem] Wd.not Wd.not' Wd.qm Wd.add Wd.and Wd.or Wd.xor Wd.shl Wd.shr Wd.rX Wd.rU Wd.nS Wd.byte Wd.pS
def mV(w:World)(b:Nat)(m:List UInt8):Prop:=
 ∃f l,Has w b (aO f l m.length) 230/\l.length=64/\S8.of f=bV (m.length/64) VH.start m/\l.take (m.length%64)=m.drop (64*(m.length/64))
variable{w:World}{b n r:Nat}{m x l:List UInt8}
theorem mV.drewN(h:mV w b m)(n:Nat):mV (w.drewN n) b m:=by obtain⟨f,l,h1,h2⟩:=h;exact⟨f,l,h1.drewN n,h2⟩
theorem mV.lt(h:mV w b m):b<w.heap.size:=by obtain⟨f,l,h1,h2⟩:=h;exact h1.lt
variable{f:Nat->ef}
theorem mV.more(hx:x.length=n)(hr:r=m.length%64)(hrn:r+n<64)(hl:l.length=64)(h:Has w b (aO f (l.take r++x++l.drop (r+n)) (m.length+n)) 230)(hS:S8.of f=bV (m.length/64) VH.start m)(hR:l.take (m.length%64)=m.drop (64*(m.length/64))):mV w b (m++x):=by
 have e1:(m++x).length=m.length+n:=by rw[aT,hx]
 have e2:(m.length+n)/64=m.length/64:=by omega
 have e3:(m.length+n)%64=r+n:=by omega
 have hq:64*(m.length/64)<=m.length:=by omega
 have ht:(l.take r++x).length=r+n:=by rw[aT,eM,hl,hx];omega
 have e5:(l.take r++x++l.drop (r+n)).take (r+n)=l.take r++x:=List.take_left' ht;have e6:(m++x).drop (64*(m.length/64))=l.take r++x:=by rw[pK hq,<-hR,<-hr]
 refine⟨f,_,by rw[e1];exact h,?_,?_,?_⟩;rw[aT,ht,gD,hl];omega;rw[e1,e2,hS,EI _ _ _ _ hq];rw[e1,e2,e3,e5,e6]
theorem mV.full{g:Nat->ef}(hx:x.length=n)(hr:r=m.length%64)(hrn:r+n=64)(hl:l.length=64)(h:Has w b (aO g (l.take r++x++l.drop (r+n)) (m.length+n)) 230)(hg:S8.of g=jC (S8.of f) (l.take r++x++l.drop (r+n)))(hS:S8.of f=bV (m.length/64) VH.start m)(hR:l.take (m.length%64)=m.drop (64*(m.length/64))):mV w b (m++x):=by
 have e1:(m++x).length=m.length+n:=by rw[aT,hx]
 have e2:(m.length+n)/64=m.length/64+1:=by omega
 have e3:(m.length+n)%64=0:=by omega
 have hq:64*(m.length/64)<=m.length:=by omega
 have ht:(l.take r++x).length=64:=by rw[aT,eM,hl,hx];omega
 have e7:l.drop (r+n)=[]:=kQ (by omega);have e6:(m++x).drop (64*(m.length/64))=l.take r++x:=by rw[pK hq,<-hR,<-hr]
 rw[e7,dW]at h hg;refine⟨g,_,by rw[e1];exact h,ht,?_,?_⟩;rw[e1,e2,hg,hS,Em,EI _ _ _ _ hq,e6,gB (l:=l.take r++x) (by omega)];rw[e1,e2,e3,List.take_zero,kQ (by rw[e1];omega)]
theorem infoByte:(Tryz.prog.info? 5).map (·.size)=some 1:=by kernel_rfl
theorem take(b:Nat)(m:List UInt8)(s:ByteArray)(w:World)(hT:gj w)(hb1:b≠1)(hb2:b≠0)(hm:m.length+s.size<=4611686018427387904)(hH:mV w b m):aU 211 #[af b,.string s] w fun e w'=>e=.returned (.tuple #[])/\w.grownBy w' (some b)/\mV w' b (m++s.data.toList):=by
 go_enter Tryz.func211,Tryz.ntmps211;go_wp2_with fail
 go_loopw [1] (fun x wr=>∃(m':List UInt8)(s':ByteArray),x=.string s'/\w.grownBy wr (some b)/\mV wr b m'/\Hid (m'++s'.data.toList=m++s.data.toList))
  (fun x _=>match x with | .string s'=>s'.size|_=>0)
 case atStart=>exact⟨m,s,rfl,Gl _ _,hH,rfl⟩
 case round=>
  obtain⟨m',s',rfl,hgr,hI,HE⟩:=hrel;by_cases h0:s'.size=0
  ·go_wp2_with fail
   go_end0
   have e:s'.data.toList=[]:=gE (by rw[<-Lib.size_eq];exact h0);refine⟨rfl,hgr,?_⟩;have:=HE.out;rw[e,dW]at this;rwa[<-this]
  ·obtain⟨f,l,hH1,hl,hS,hR⟩:=hI
   have hlen:m'.length+s'.size=m.length+s.size:=by
    have:=aJ List.length HE.out;simp only[aT]at this;rwa[<-Lib.size_eq,<-Lib.size_eq]at this
   have c72:=(hH1.cell 72).trans (EY f l _ hl);have f72:=hH1.free 72;obtain⟨r,hr⟩:∃r,r=m'.length%64:=⟨_,rfl⟩;have af7:r<64:=by omega
   have hmod:((m'.length:Int)%64)=(r:Int):=by omega
   have htm:((m'.length:Int).tmod 64)=(r:Int):=by rw[iV (by omega)];exact hmod
   obtain⟨n,hn⟩:∃n,n=Nat.min s'.size (64-r):=⟨_,rfl⟩;have hsl:=fun w=>Tg (P:=Tryz.prog) .u64 228 5 64 b r Tryz.underlying228 CZ af7 8 w
   go_wp2_with fail
   have HN:=h_ hn;have HR:=h_ hr;have HL:=h_ hlen;have Hl:=h_ hl;have HS:=h_ hS;have HRR:=h_ hR;have hn1:n<=s'.size:=by rw[hn];exact Nat.min_le_left _ _
   have hn0:0<n:=by rw[hn];exact Nat.lt_min.2 ⟨by omega,by omega⟩
   have hn2:n<=64-r:=by rw[hn];exact Nat.min_le_right _ _
   have hfit:8+r+n<=(aO f l m'.length).size:=by rw[FV,hl];clear hn;omega
   clear hn hr hlen hl hS hR;go_region_law (refine UN rfl (.tmp 16) (.tmp 17) 174 9 rfl 5 Tryz.underlying174 infoByte b (8+r) (64-r) (64-r) n (by simp[Act.eval,Act.put]) s' (by simp[Act.eval,Act.put]) (aO f l m'.length) 230 hH1.out HN.out hfit ?_)
   generalize hw2:World.setRow _ _ _=w2;have hx:(s'.data.toList.take n).length=n:=by rw[eM,<-Lib.size_eq];omega
   have hH2:Has w2 b (aO f (l.take r++s'.data.toList.take n++l.drop (r+n)) m'.length) 230:=by
    rw[<-hw2,<-QW f l _ m'.length r n hx (by rw[Hl.out];omega)];exact Has.row (w:=wr.drew) hH1 _
   have Y':w.grownBy w2 (some b):=by rw[<-hw2];exact Tw (Jl hgr 1) _
   clear hw2 hH1 hgr c72 f72;obtain⟨l2,hl2⟩:∃l2,l2=l.take r++s'.data.toList.take n++l.drop (r+n):=⟨_,rfl⟩;rw[<-hl2]at hH2;have XS:l2.length=64:=by rw[hl2];simp[Hl.out,hx];omega
   have HL2:=h_ hl2;clear hl2;have c72:=(hH2.cell 72).trans (EY f l2 _ XS);have f72:=hH2.free 72;have YM:=h_ XS;have HX:=h_ hx;clear XS hx;have HLm:m'.length<=4611686018427387904:=by have:=HL.out;omega
   have hst:=hH2.set (i:=72) (aH ((m'.length:Int)+(n:Int)));rw[show((m'.length:Int)+(n:Int))=((m'.length+n:Nat):Int) by omega,S6 f l2 _ _ YM.out]at hst;have Wu:=hT.grown (um Y' 72 (aH ((m'.length:Int)+(n:Int)))) (by intro e;cases e;exact hb1 rfl) (by intro e;cases e;exact hb2 rfl);have aa5:Hid ((s'.extract n s'.size).data.toList=s'.data.toList.drop n):=Lib.extract_to_end s' n;have aa6:Hid ((s'.extract n s'.size).size=s'.size-n):=by show _=_;rw[Lib.size_eq,aa5.out,gD,<-Lib.size_eq]
   have HE2:Hid (m'++s'.data.toList.take n++(s'.extract n s'.size).data.toList=m++s.data.toList):=by
    show _=_;rw[aa5.out,iS,iN];exact HE.out
   by_cases hfull:r+n=64
   ·have hz:(((m'.length:Int)+(n:Int))%64==0)=true:=(by rw[jq];omega);have HZ:=h_ hfull;clear hfull;go_wp2_with (go_at_call 220;refine(T' b f l2 (m'.length+n) YM.out _ Wu hst).mono ?_;rintro e w3 ⟨rfl,hg3,hH3⟩)
    refine⟨⟨_,_,rfl,vG (um Y' _ _) hg3,?_,HE2⟩,?_⟩;rw[HL2.out]at hH3;exact mV.full HX.out HR.out HZ.out Hl.out hH3 (S8.qX _) HS.out HRR.out;show(s'.extract n s'.size).size<s'.size;rw[aa6.out];omega
   ·have hz:(((m'.length:Int)+(n:Int))%64==0)=false:=(by rw[ld];omega);have HZ:=h_ hfull;clear hfull;(go_wp2_with fail);refine⟨⟨_,_,rfl,um Y' _ _,?_,HE2⟩,?_⟩;rw[HL2.out]at hst;exact mV.more HX.out HR.out (by have:=HZ.out;omega) Hl.out hst HS.out HRR.out;show(s'.extract n s'.size).size<s'.size;rw[aa6.out];omega
