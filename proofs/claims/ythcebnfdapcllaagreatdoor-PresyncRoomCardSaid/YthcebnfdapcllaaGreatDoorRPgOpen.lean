import Derived.Test.YthcebnfdapcllaaGreatDoorRBunQ13
import Derived.Test.YthcebnfdapcllaaGreatDoorRBunQ16
namespace Go.Proofs.YthcebnfdapcllaaGreatDoor.An
open Go.ChangeShapes Go.WideShapes Go.RowKit Go.Deep Mem Sc
open Pg (Pl pbit gv Ws)
theorem cellsPlan : Tryz.prog.cellsOf 35 = 3 := by kernel_rfl
structure Cl where
  kind : Int
  ht : Int
  na : Option Addr
  nn : Nat
  nc : Nat
  ls : List (List UInt8)
instance : Inhabited Cl := ⟨⟨0, 0, none, 0, 0, []⟩⟩
section
variable {H : Type} {enc : TypeId × Value → H} {W : World} {fuel : Nat} {cs : List Value}
end
end Go.Proofs.YthcebnfdapcllaaGreatDoor.An
