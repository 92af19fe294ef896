import Derived.Lib.IndexBytes
set_option maxRecDepth 100000
set_option maxHeartbeats 4000000
namespace Go.Proofs.YtbgjiplfaolpjaaGreatDoor.Sc
def byteU (u i:Nat):UInt8:=UInt8.ofNat (u / 256 ^ i % 256)
def le (k u:Nat):List UInt8:=(List.range k).map (byteU u)
def u64 (n:Int):Nat:=(n % 18446744073709551616).toNat
def near (size:Int) (most:Nat):Nat:=(min (max size 1) (most:Int)).toNat
def num (k:Nat) (n:Int):List UInt8:=le k (u64 n)
def val:List UInt8->Nat
 | []=>0
 | b :: l=>b.toNat+256*val l
theorem qhn_ (u i:Nat):(byteU u i).toNat=u / 256 ^ i % 256:=by rw[byteU,UInt8.toNat_ofNat'];omega
theorem qmu_ (k u:Nat):(le k u).length=k:=by simp[le]
theorem qzt_ (k u:Nat):le (k+1) u=le k u ++ [byteU u k]:=by simp[le,List.range_succ]
theorem qbn_ (k:Nat) (n:Int):(num k n).length=k:=qmu_ _ _
theorem qabo_ (k:Nat) (n:Int):num (k+1) n=num k n ++ [byteU (u64 n) k]:=qzt_ _ _
theorem qabp_ (n:Int):num 0 n=[]:=rfl
theorem qzu_ (size:Int) (most:Nat) (h:1<=most):1<=near size most/\near size most<=most:=by unfold near;omega
theorem u64_lt (n:Int):u64 n<18446744073709551616:=by unfold u64;omega
theorem qabq_ (n:Int) (i:Nat) (hi:i<8):n / 2 ^ (8*i) % 256=((byteU (u64 n) i).toNat:Int):=by
 rw[qhn_]
 unfold u64
 obtain rfl|rfl|rfl|rfl|rfl|rfl|rfl|rfl:i=0\/i=1\/i=2\/i=3\/i=4\/i=5\/i=6\/i=7:=by omega
 all_goals
  simp only[Nat.reduceMul,Nat.reducePow,Int.reducePow]
  omega
def E0:ByteArray:=⟨#[]⟩
end Go.Proofs.YtbgjiplfaolpjaaGreatDoor.Sc
