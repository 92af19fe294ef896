import Derived.Test.YthcebnfdapcllaaGreatDoorRBunQ12
import Derived.Test.YthcebnfdapcllaaGreatDoorRBunQ26
namespace Go.Proofs.YthcebnfdapcllaaGreatDoor
def Hd.nxt (h : Hd) : Hd := { h with nonce := (h.nonce + 1) % 4294967296 }
def Hd.at (h : Hd) : Nat → Hd
  | 0 => h
  | k + 1 => (h.at k).nxt
def byteF (l : List UInt8) (i : Nat) : Nat := (l.getD i 0).toNat
theorem byteF_lt (l : List UInt8) (i : Nat) : byteF l i < 256 := UInt8.toNat_lt _
def numOf (l : List UInt8) : Nat := NN.Nm.unbytes (byteF l) 32
def Hd.tgt (h : Hd) : Nat := NN.Nm.decN h.bits.toNat
def Hd.above (h : Hd) (k : Nat) : Prop := h.tgt < numOf (h.at k).id
instance (h : Hd) (k : Nat) : Decidable (h.above k) := Nat.decLt _ _
end Go.Proofs.YthcebnfdapcllaaGreatDoor
