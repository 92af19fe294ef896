import Derived.Test.YthcebnfdapcllaaGreatDoorRBunQ27
import Derived.ProofKit
import Derived.OpenShut
namespace Go.Proofs.YthcebnfdapcllaaGreatDoor.NN
open Go.ChangeShapes Go.WideShapes Go.RowKit
section
variable {H : Type} {enc : TypeId × Value → H} {P : Program} {k e : TypeId} {n : Nat} {q : IntKind} {W : World} {base : Nat} {sp : Nat → Bool} {held : Bool}
end
section
variable {H : Type} {enc : TypeId × Value → H} {W : World} {base : Nat} {sp : Nat → Bool} {held : Bool}
end
theorem own : ownKnob Tryz.prog.godebug = none := by kernel_rfl
end Go.Proofs.YthcebnfdapcllaaGreatDoor.NN
