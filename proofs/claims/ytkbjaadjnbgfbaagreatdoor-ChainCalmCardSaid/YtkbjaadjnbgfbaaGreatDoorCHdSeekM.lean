import Derived.Test.YtkbjaadjnbgfbaaGreatDoorCBunQ10
import Derived.Test.YtkbjaadjnbgfbaaGreatDoorCBunQ19
set_option maxRecDepth 100000
set_option maxHeartbeats 4000000
namespace Go.Proofs.YtkbjaadjnbgfbaaGreatDoor
def Hd.nxt(h:Hd):Hd:={ h with Rf:=(h.Rf+1)%4294967296 }
def Hd.at(h:Hd):Nat->Hd
 | 0=>h
 | k+1=>(h.at k).nxt
def kr(l:List UInt8)(i:Nat):Nat:=(l.getD i 0).toNat
theorem B3(l:List UInt8)(i:Nat):kr l i<256:=UInt8.toNat_lt _
def numOf(l:List UInt8):Nat:=NN.Nm.bF (kr l) 32
theorem JR(l:List UInt8):numOf l<NN.Nm.ai:=NN.Nm.BT _ (B3 l) 32
def Hd.jX(h:Hd):Nat:=NN.Nm.j0 h.bits.toNat
def Hd.above(h:Hd)(k:Nat):Prop:=h.jX<numOf (h.at k).id
instance (h:Hd)(k:Nat):Decidable (h.above k):=Nat.decLt _ _
