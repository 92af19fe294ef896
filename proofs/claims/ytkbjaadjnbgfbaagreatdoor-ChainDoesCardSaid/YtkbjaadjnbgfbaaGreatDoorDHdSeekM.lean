import Derived.Test.YtkbjaadjnbgfbaaGreatDoorDBunQ10
import Derived.Test.YtkbjaadjnbgfbaaGreatDoorDBunQ19
set_option maxRecDepth 100000
set_option maxHeartbeats 4000000
namespace Go.Proofs.YtkbjaadjnbgfbaaGreatDoor
def Hd.nxt(h:Hd):Hd:={ h with QV:=(h.QV+1)%4294967296 }
def Hd.at(h:Hd):Nat->Hd
 | 0=>h
 | k+1=>(h.at k).nxt
def kv(l:List UInt8)(i:Nat):Nat:=(l.getD i 0).toNat
theorem zc(l:List UInt8)(i:Nat):kv l i<256:=UInt8.toNat_lt _
def numOf(l:List UInt8):Nat:=NN.Nm.bJ (kv l) 32
theorem Gw(l:List UInt8):numOf l<NN.Nm.ai:=NN.Nm.zW _ (zc l) 32
def Hd.jM(h:Hd):Nat:=NN.Nm.j5 h.bits.toNat
def Hd.bad(h:Hd):Prop:=¬h.P\/NN.Nm.gl h.bits.toNat=true\/NN.Nm.eI h.bits.toNat=true
def Hd.above(h:Hd)(k:Nat):Prop:=h.jM<numOf (h.at k).id
instance (h:Hd)(k:Nat):Decidable (h.above k):=Nat.decLt _ _
