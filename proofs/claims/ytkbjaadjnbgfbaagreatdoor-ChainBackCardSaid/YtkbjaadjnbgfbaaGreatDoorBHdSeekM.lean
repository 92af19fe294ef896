import Derived.Test.YtkbjaadjnbgfbaaGreatDoorBBunQ10
import Derived.Test.YtkbjaadjnbgfbaaGreatDoorBBunQ19
set_option maxRecDepth 100000
set_option maxHeartbeats 4000000
namespace Go.Proofs.YtkbjaadjnbgfbaaGreatDoor
def Hd.nxt(h:Hd):Hd:={ h with R5:=(h.R5+1)%4294967296 }
def Hd.at(h:Hd):Nat->Hd
 | 0=>h
 | k+1=>(h.at k).nxt
def kz(l:List UInt8)(i:Nat):Nat:=(l.getD i 0).toNat
theorem A3(l:List UInt8)(i:Nat):kz l i<256:=UInt8.toNat_lt _
def numOf(l:List UInt8):Nat:=NN.Nm.bK (kz l) 32
theorem Mp(l:List UInt8):numOf l<NN.Nm.ai:=NN.Nm.Az _ (A3 l) 32
def Hd.jV(h:Hd):Nat:=NN.Nm.j_ h.bits.toNat
def Hd.bad(h:Hd):Prop:=¬h.P\/NN.Nm.gi h.bits.toNat=true\/NN.Nm.eL h.bits.toNat=true
def Hd.above(h:Hd)(k:Nat):Prop:=h.jV<numOf (h.at k).id
instance (h:Hd)(k:Nat):Decidable (h.above k):=Nat.decLt _ _
