/-
  DERIVED. GIVEN WITH THE SEED: THE CARDS: each row of YthcebnfdapcllaaGreatDoorRows.lean that lists a variable, with what it lists TIED to the program's text (the seventh form; the later family's looks); each row that meets fmt, with fmt's text TOLD by the authors' own Lean function (tested against real Go, not proved from fmt's source: count such statements apart). THE CARD IS WHAT COUNTS. Prove the row's statement (the work); the ties are given (YthcebnfdapcllaaGreatDoorTie.lean); close each card by the builder's one call (the guide's Derived/Test/ToyasCard.lean, 'card_holds'). Laid BY PROGRAM, IN A SANDBOX (cutbox-door.mjs). By AI agents, Wed Nov 11 2026. No macro, syntax, notation, axiom, sorry.
-/
import Derived.Test.YthcebnfdapcllaaGreatDoorRows
import GoSem.ClaimSeven
namespace Go.Proofs.YthcebnfdapcllaaGreatDoor
namespace Rows

/-- THE TIED CARD OF 'trailheadlaw19.PresyncRoom'. -/
def presyncRoomCard : Claim7 := { stood := { row := presyncRoomRow, standIns := [], harness := (true, "a436595bb17662300507b432a67788d32b9ca4f657a55300435dc6928b2f65cd"), looks := false }, kinds := [], alts := [], laidByText := true, laidKinds := [.data, .data], laidTests := true, laidLooks := .later }
def PresyncRoomCardSaid : Prop := Claim7.holds Tryz.pinned (.plain (OpenSpec.ofChange presyncRoomSpec)) presyncRoomCard

/-- THE TIED CARD OF 'trailheadlaw19.PresyncDown'. -/
def presyncDownCard : Claim7 := { stood := { row := presyncDownRow, standIns := [], harness := (true, "a436595bb17662300507b432a67788d32b9ca4f657a55300435dc6928b2f65cd"), looks := false }, kinds := [], alts := [], laidByText := true, laidKinds := [.data, .data], laidTests := true, laidLooks := .later }
def PresyncDownCardSaid : Prop := Claim7.holds Tryz.pinned (.plain (OpenSpec.ofChange presyncDownSpec)) presyncDownCard

/-- THE SECOND FORM's CARD OF 'trailheadlaw19.PresyncRoom'. -/
def presyncRoomUptoCard : Claim7 := { stood := { row := presyncRoomUptoRow, standIns := [], harness := (true, "a436595bb17662300507b432a67788d32b9ca4f657a55300435dc6928b2f65cd"), looks := false }, kinds := [], alts := [], laidByText := true, laidKinds := [.data, .data], laidTests := true, laidLooks := .later }
def PresyncRoomUptoCardSaid : Prop := Claim7.holds Tryz.pinned (.plain (OpenSpec.upto presyncRoomSpec)) presyncRoomUptoCard

/-- THE SECOND FORM's CARD OF 'trailheadlaw19.PresyncDown'. -/
def presyncDownUptoCard : Claim7 := { stood := { row := presyncDownUptoRow, standIns := [], harness := (true, "a436595bb17662300507b432a67788d32b9ca4f657a55300435dc6928b2f65cd"), looks := false }, kinds := [], alts := [], laidByText := true, laidKinds := [.data, .data], laidTests := true, laidLooks := .later }
def PresyncDownUptoCardSaid : Prop := Claim7.holds Tryz.pinned (.plain (OpenSpec.upto presyncDownSpec)) presyncDownUptoCard
end Rows
end Go.Proofs.YthcebnfdapcllaaGreatDoor
