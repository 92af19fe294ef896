import Derived.Lib.IndexBytes
set_option maxRecDepth 100000
set_option maxHeartbeats 4000000
namespace Go.Proofs.YtkbjaadjnbgfbaaGreatDoor.Sc
def d_(u i:Nat):UInt8:=UInt8.ofNat (u/256^i%256)
def le(k u:Nat):List UInt8:=(List.range k).map (d_ u)
def u64(n:Int):Nat:=(n%18446744073709551616).toNat
def fQ(size:Int)(gT:Nat):Nat:=(min (max size 1) (gT:Int)).toNat
def num(k:Nat)(n:Int):List UInt8:=le k (u64 n)
def val:List UInt8->Nat
 | []=>0
 | b::l=>b.toNat+256*val l
theorem Mq(u i:Nat):(d_ u i).toNat=u/256^i%256:=by rw[d_,UInt8.toNat_ofNat'];omega
theorem JF(k u:Nat):(le k u).length=k:=by simp[le]
theorem zO(k u:Nat):le (k+1) u=le k u++[d_ u k]:=by simp[le,List.range_succ]
theorem k7(k:Nat)(n:Int):(num k n).length=k:=JF _ _
theorem Iu(k:Nat)(n:Int):num (k+1) n=num k n++[d_ (u64 n) k]:=zO _ _
theorem MX(n:Int):num 0 n=[]:=rfl
theorem yL(size:Int)(gT:Nat)(h:1<=gT):1<=fQ size gT/\fQ size gT<=gT:=by unfold fQ;omega
theorem Cg(n:Int):u64 n<18446744073709551616:=by unfold u64;omega
theorem Ei(n:Int)(i:Nat)(hi:i<8):n/2^(8*i)%256=((d_ (u64 n) i).toNat:Int):=by
 rw[Mq];unfold u64;obtain rfl|rfl|rfl|rfl|rfl|rfl|rfl|rfl:i=0\/i=1\/i=2\/i=3\/i=4\/i=5\/i=6\/i=7:=by omega
 all_goals
  simp only[Nat.reduceMul,Nat.reducePow,Int.reducePow];omega
structure Ey where
 s:ByteArray
 bad:Bool
def E0:ByteArray:=⟨#[]⟩
def zZ:Ey:=⟨E0,true⟩
def Ey.ok(e:Ey):Prop:=e.bad=true->e.s=E0
def Ey.raw(e:Ey)(n:Int):ByteArray×Ey:=
 if e.bad=true then(E0,e)else if n<0\/(e.s.size:Int)<n then(E0,zZ)else(e.s.extract 0 n.toNat,⟨e.s.extract n.toNat e.s.size,false⟩)
def Ey.wide(e:Ey):Nat×Ey:=
 if 9223372036854775808<=val (e.raw 8).1.data.toList then(0,zZ)else(val (e.raw 8).1.data.toList,(e.raw 8).2)
def behind(s:ByteArray)(c:Nat×Nat):Nat×Ey:=if c.2=0 then(0,zZ)else(c.1,⟨s.extract c.2 s.size,false⟩)
def C6(l:List UInt8):List UInt8:=if l.length=32 then l else List.replicate 32 0
def Ey.name(e:Ey):List UInt8×Ey:=(C6 (e.raw 32).1.data.toList,(e.raw 32).2)
