import Derived.Lib.IndexBytes
set_option maxRecDepth 100000
set_option maxHeartbeats 4000000
namespace Go.Proofs.YtkbjaadjnbgfbaaGreatDoor.Sc
def dU(u i:Nat):UInt8:=UInt8.ofNat (u/256^i%256)
def le(k u:Nat):List UInt8:=(List.range k).map (dU u)
def u64(n:Int):Nat:=(n%18446744073709551616).toNat
def fK(size:Int)(gP:Nat):Nat:=(min (max size 1) (gP:Int)).toNat
def num(k:Nat)(n:Int):List UInt8:=le k (u64 n)
def val:List UInt8->Nat
 | []=>0
 | b::l=>b.toNat+256*val l
theorem G8(u i:Nat):(dU u i).toNat=u/256^i%256:=by rw[dU,UInt8.toNat_ofNat'];omega
theorem EG(k u:Nat):(le k u).length=k:=by simp[le]
theorem yx(k u:Nat):le (k+1) u=le k u++[dU u k]:=by simp[le,List.range_succ]
theorem lk(k:Nat)(n:Int):(num k n).length=k:=EG _ _
theorem Fs(k:Nat)(n:Int):num (k+1) n=num k n++[dU (u64 n) k]:=yx _ _
theorem Gj(n:Int):num 0 n=[]:=rfl
theorem xL(size:Int)(gP:Nat)(h:1<=gP):1<=fK size gP/\fK size gP<=gP:=by unfold fK;omega
theorem zE(n:Int):u64 n<18446744073709551616:=by unfold u64;omega
theorem FJ(n:Int)(i:Nat)(hi:i<8):n/2^(8*i)%256=((dU (u64 n) i).toNat:Int):=by
 rw[G8];unfold u64;obtain rfl|rfl|rfl|rfl|rfl|rfl|rfl|rfl:i=0\/i=1\/i=2\/i=3\/i=4\/i=5\/i=6\/i=7:=by omega
 all_goals
  simp only[Nat.reduceMul,Nat.reducePow,Int.reducePow];omega
def E0:ByteArray:=⟨#[]⟩
