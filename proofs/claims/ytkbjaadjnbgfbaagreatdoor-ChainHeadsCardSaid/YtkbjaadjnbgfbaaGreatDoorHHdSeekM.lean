import Derived.Test.YtkbjaadjnbgfbaaGreatDoorHBunQ10
import Derived.Test.YtkbjaadjnbgfbaaGreatDoorHBunQ19
set_option maxRecDepth 100000
set_option maxHeartbeats 4000000
namespace Go.Proofs.YtkbjaadjnbgfbaaGreatDoor
def Hd.nxt(h:Hd):Hd:={ h with Vs:=(h.Vs+1)%4294967296 }
def Hd.at(h:Hd):Nat->Hd
 | 0=>h
 | k+1=>(h.at k).nxt
def pc(l:List UInt8)(i:Nat):Nat:=(l.getD i 0).toNat
theorem F5(l:List UInt8)(i:Nat):pc l i<256:=UInt8.toNat_lt _
def numOf(l:List UInt8):Nat:=NN.Nm.db (pc l) 32
theorem MA(l:List UInt8):numOf l<NN.Nm.ak:=NN.Nm.E3 _ (F5 l) 32
def Hd.oE(h:Hd):Nat:=NN.Nm.oG h.bits.toNat
def Hd.bad(h:Hd):Prop:=¬h.P\/NN.Nm.j5 h.bits.toNat=true\/NN.Nm.ib h.bits.toNat=true
def Hd.above(h:Hd)(k:Nat):Prop:=h.oE<numOf (h.at k).id
instance (h:Hd)(k:Nat):Decidable (h.above k):=Nat.decLt _ _
