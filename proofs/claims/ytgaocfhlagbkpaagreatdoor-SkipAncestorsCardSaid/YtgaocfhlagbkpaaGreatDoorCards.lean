/-
  DERIVED. GIVEN WITH THE SEED: THE CARDS: each row of YtgaocfhlagbkpaaGreatDoorRows.lean that lists a variable, with what it lists TIED to the program's text (the seventh form; the later family's looks); each row that meets fmt, with fmt's text TOLD by the authors' own Lean function (tested against real Go, not proved from fmt's source: count such statements apart). THE CARD IS WHAT COUNTS. Prove the row's statement (the work); the ties are given (YtgaocfhlagbkpaaGreatDoorTie.lean); close each card by the builder's one call (the guide's Derived/Test/ToyasCard.lean, 'card_holds'). Laid BY PROGRAM, IN A SANDBOX (cutbox-door.mjs). By AI agents, Wed Nov 11 2026. No macro, syntax, notation, axiom, sorry.
-/
import Derived.Test.YtgaocfhlagbkpaaGreatDoorRows
import GoSem.ClaimSeven
namespace Go.Proofs.YtgaocfhlagbkpaaGreatDoor
namespace Rows

/-- THE TIED CARD OF 'trailheadlaw13.SkipAncestors'. -/
def skipAncestorsCard : Claim7 := { stood := { row := skipAncestorsRow, standIns := [], harness := (true, "f729b7242348428b3a784c2d33b835957b933b3787432fea91f5884dd6776e91"), looks := false }, kinds := [], alts := [], laidByText := true, laidKinds := [.data, .data], laidTests := true, laidLooks := .later }
def SkipAncestorsCardSaid : Prop := Claim7.holds Tryz.pinned (.plain (OpenSpec.ofChange skipAncestorsSpec)) skipAncestorsCard

/-- THE TIED CARD OF 'trailheadlaw13.SkipCommon'. -/
def skipCommonCard : Claim7 := { stood := { row := skipCommonRow, standIns := [], harness := (true, "f729b7242348428b3a784c2d33b835957b933b3787432fea91f5884dd6776e91"), looks := false }, kinds := [], alts := [], laidByText := true, laidKinds := [.data, .data], laidTests := true, laidLooks := .later }
def SkipCommonCardSaid : Prop := Claim7.holds Tryz.pinned (.plain (OpenSpec.ofChange skipCommonSpec)) skipCommonCard

/-- THE TIED CARD OF 'trailheadlaw13.SkipStores'. -/
def skipStoresCard : Claim7 := { stood := { row := skipStoresRow, standIns := [], harness := (true, "f729b7242348428b3a784c2d33b835957b933b3787432fea91f5884dd6776e91"), looks := false }, kinds := [], alts := [], laidByText := true, laidKinds := [.data, .data], laidTests := true, laidLooks := .later }
def SkipStoresCardSaid : Prop := Claim7.holds Tryz.pinned (.plain (OpenSpec.ofChange skipStoresSpec)) skipStoresCard

/-- THE TIED CARD OF 'trailheadlaw13.SkipWithin'. -/
def skipWithinCard : Claim7 := { stood := { row := skipWithinRow, standIns := [], harness := (true, "f729b7242348428b3a784c2d33b835957b933b3787432fea91f5884dd6776e91"), looks := false }, kinds := [], alts := [], laidByText := true, laidKinds := [.data, .data], laidTests := true, laidLooks := .later }
def SkipWithinCardSaid : Prop := Claim7.holds Tryz.pinned (.plain (OpenSpec.ofChange skipWithinSpec)) skipWithinCard

/-- THE SECOND FORM's CARD OF 'trailheadlaw13.SkipAncestors'. -/
def skipAncestorsUptoCard : Claim7 := { stood := { row := skipAncestorsUptoRow, standIns := [], harness := (true, "f729b7242348428b3a784c2d33b835957b933b3787432fea91f5884dd6776e91"), looks := false }, kinds := [], alts := [], laidByText := true, laidKinds := [.data, .data], laidTests := true, laidLooks := .later }
def SkipAncestorsUptoCardSaid : Prop := Claim7.holds Tryz.pinned (.plain (OpenSpec.upto skipAncestorsSpec)) skipAncestorsUptoCard

/-- THE SECOND FORM's CARD OF 'trailheadlaw13.SkipCommon'. -/
def skipCommonUptoCard : Claim7 := { stood := { row := skipCommonUptoRow, standIns := [], harness := (true, "f729b7242348428b3a784c2d33b835957b933b3787432fea91f5884dd6776e91"), looks := false }, kinds := [], alts := [], laidByText := true, laidKinds := [.data, .data], laidTests := true, laidLooks := .later }
def SkipCommonUptoCardSaid : Prop := Claim7.holds Tryz.pinned (.plain (OpenSpec.upto skipCommonSpec)) skipCommonUptoCard

/-- THE SECOND FORM's CARD OF 'trailheadlaw13.SkipStores'. -/
def skipStoresUptoCard : Claim7 := { stood := { row := skipStoresUptoRow, standIns := [], harness := (true, "f729b7242348428b3a784c2d33b835957b933b3787432fea91f5884dd6776e91"), looks := false }, kinds := [], alts := [], laidByText := true, laidKinds := [.data, .data], laidTests := true, laidLooks := .later }
def SkipStoresUptoCardSaid : Prop := Claim7.holds Tryz.pinned (.plain (OpenSpec.upto skipStoresSpec)) skipStoresUptoCard

/-- THE SECOND FORM's CARD OF 'trailheadlaw13.SkipWithin'. -/
def skipWithinUptoCard : Claim7 := { stood := { row := skipWithinUptoRow, standIns := [], harness := (true, "f729b7242348428b3a784c2d33b835957b933b3787432fea91f5884dd6776e91"), looks := false }, kinds := [], alts := [], laidByText := true, laidKinds := [.data, .data], laidTests := true, laidLooks := .later }
def SkipWithinUptoCardSaid : Prop := Claim7.holds Tryz.pinned (.plain (OpenSpec.upto skipWithinSpec)) skipWithinUptoCard
end Rows
end Go.Proofs.YtgaocfhlagbkpaaGreatDoor
