import Derived.Test.YtkbjaadjnbgfbaaGreatDoorHIda
import Derived.Lib.IndexBytes
set_option maxRecDepth 100000
set_option maxHeartbeats 4000000
namespace Go.Proofs.YtkbjaadjnbgfbaaGreatDoor.Sc
def gF(u i:Nat):UInt8:=UInt8.ofNat (u/256^i%256)
def le(k u:Nat):List UInt8:=(List.range k).map (gF u)
def u64(n:Int):Nat:=(n%18446744073709551616).toNat
def jH(size:Int)(kS:Nat):Nat:=(min (max size 1) (kS:Int)).toNat
def num(k:Nat)(n:Int):List UInt8:=le k (u64 n)
def val:List UInt8->Nat
 | []=>0
 | b::l=>b.toNat+256*val l
theorem PJ(u i:Nat):(gF u i).toNat=u/256^i%256:=by rw[gF,mB];omega
theorem M4(k u:Nat):(le k u).length=k:=by simp[le]
theorem B8(k u:Nat):le (k+1) u=le k u++[gF u k]:=by simp[le,List.range_succ]
theorem pW(k:Nat)(n:Int):(num k n).length=k:=M4 _ _
theorem PL(k:Nat)(n:Int):num (k+1) n=num k n++[gF (u64 n) k]:=B8 _ _
theorem Ke(n:Int):num 0 n=[]:=rfl
theorem BL(size:Int)(kS:Nat)(h:1<=kS):1<=jH size kS/\jH size kS<=kS:=by unfold jH;omega
theorem D7(n:Int):u64 n<18446744073709551616:=by unfold u64;omega
theorem L3(n:Int)(i:Nat)(hi:i<8):n/2^(8*i)%256=((gF (u64 n) i).toNat:Int):=by
 rw[PJ];unfold u64;obtain rfl|rfl|rfl|rfl|rfl|rfl|rfl|rfl:i=0\/i=1\/i=2\/i=3\/i=4\/i=5\/i=6\/i=7:=by omega
 all_goals
  simp only[Nat.reduceMul,Nat.reducePow,Int.reducePow];omega
structure Ey where
 s:ByteArray
 bad:Bool
def E0:ByteArray:=⟨#[]⟩
def Es:Ey:=⟨E0,true⟩
def Ey.ok(e:Ey):Prop:=e.bad=true->e.s=E0
def Ey.raw(e:Ey)(n:Int):ByteArray×Ey:=
 if e.bad=true then(E0,e)else if n<0\/(e.s.size:Int)<n then(E0,Es)else(e.s.extract 0 n.toNat,⟨e.s.extract n.toNat e.s.size,false⟩)
def Ey.wide(e:Ey):Nat×Ey:=
 if 9223372036854775808<=val (e.raw 8).1.data.toList then(0,Es)else(val (e.raw 8).1.data.toList,(e.raw 8).2)
def behind(s:ByteArray)(c:Nat×Nat):Nat×Ey:=if c.2=0 then(0,Es)else(c.1,⟨s.extract c.2 s.size,false⟩)
def DU(l:List UInt8):List UInt8:=if l.length=32 then l else List.replicate 32 0
def Ey.name(e:Ey):List UInt8×Ey:=(DU (e.raw 32).1.data.toList,(e.raw 32).2)
