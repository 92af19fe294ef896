/-
  DERIVED. GIVEN WITH THE SEED: THE CARDS: each row of YtkbjaadjnbgfbaaGreatDoorRows.lean that lists a variable, with what it lists TIED to the program's text (the seventh form; the later family's looks); each row that meets fmt, with fmt's text TOLD by the authors' own Lean function (tested against real Go, not proved from fmt's source: count such statements apart). THE CARD IS WHAT COUNTS. Prove the row's statement (the work); the ties are given (YtkbjaadjnbgfbaaGreatDoorTie.lean); close each card by the builder's one call (the guide's Derived/Test/ToyasCard.lean, 'card_holds'). Laid BY PROGRAM, IN A SANDBOX (cutbox-door.mjs). By AI agents, Wed Nov 11 2026. No macro, syntax, notation, axiom, sorry.
-/
import Derived.Test.YtkbjaadjnbgfbaaGreatDoorRows
import GoSem.ClaimSeven
namespace Go.Proofs.YtkbjaadjnbgfbaaGreatDoor
namespace Rows

/-- THE TIED CARD OF 'trailheadlaw17.ChainDoes'. -/
def chainDoesCard : Claim7 := { stood := { row := chainDoesRow, standIns := [], harness := (true, "17e680289c041568e1f244bff8448fb074291aa6a1b0fbcd7b0e96f3369d88cf"), looks := false }, kinds := [], alts := [], laidByText := true, laidKinds := [.data, .data], laidTests := true, laidLooks := .later }
def ChainDoesCardSaid : Prop := Claim7.holds Tryz.pinned (.plain (OpenSpec.ofChange chainDoesSpec)) chainDoesCard

/-- THE TIED CARD OF 'trailheadlaw17.ChainHeads'. -/
def chainHeadsCard : Claim7 := { stood := { row := chainHeadsRow, standIns := [], harness := (true, "17e680289c041568e1f244bff8448fb074291aa6a1b0fbcd7b0e96f3369d88cf"), looks := false }, kinds := [], alts := [], laidByText := true, laidKinds := [.data, .data], laidTests := true, laidLooks := .later }
def ChainHeadsCardSaid : Prop := Claim7.holds Tryz.pinned (.plain (OpenSpec.ofChange chainHeadsSpec)) chainHeadsCard

/-- THE TIED CARD OF 'trailheadlaw17.ChainSettles'. -/
def chainSettlesCard : Claim7 := { stood := { row := chainSettlesRow, standIns := [], harness := (true, "17e680289c041568e1f244bff8448fb074291aa6a1b0fbcd7b0e96f3369d88cf"), looks := false }, kinds := [], alts := [], laidByText := true, laidKinds := [.data, .data], laidTests := true, laidLooks := .later }
def ChainSettlesCardSaid : Prop := Claim7.holds Tryz.pinned (.plain (OpenSpec.ofChange chainSettlesSpec)) chainSettlesCard

/-- THE TIED CARD OF 'trailheadlaw17.ChainWay'. -/
def chainWayCard : Claim7 := { stood := { row := chainWayRow, standIns := [], harness := (true, "17e680289c041568e1f244bff8448fb074291aa6a1b0fbcd7b0e96f3369d88cf"), looks := false }, kinds := [], alts := [], laidByText := true, laidKinds := [.data, .data], laidTests := true, laidLooks := .later }
def ChainWayCardSaid : Prop := Claim7.holds Tryz.pinned (.plain (OpenSpec.ofChange chainWaySpec)) chainWayCard

/-- THE TIED CARD OF 'trailheadlaw17.ChainBack'. -/
def chainBackCard : Claim7 := { stood := { row := chainBackRow, standIns := [], harness := (true, "17e680289c041568e1f244bff8448fb074291aa6a1b0fbcd7b0e96f3369d88cf"), looks := false }, kinds := [], alts := [], laidByText := true, laidKinds := [.data, .data], laidTests := true, laidLooks := .later }
def ChainBackCardSaid : Prop := Claim7.holds Tryz.pinned (.plain (OpenSpec.ofChange chainBackSpec)) chainBackCard

/-- THE TIED CARD OF 'trailheadlaw17.ChainCalm'. -/
def chainCalmCard : Claim7 := { stood := { row := chainCalmRow, standIns := [], harness := (true, "17e680289c041568e1f244bff8448fb074291aa6a1b0fbcd7b0e96f3369d88cf"), looks := false }, kinds := [], alts := [], laidByText := true, laidKinds := [.data, .data], laidTests := true, laidLooks := .later }
def ChainCalmCardSaid : Prop := Claim7.holds Tryz.pinned (.plain (OpenSpec.ofChange chainCalmSpec)) chainCalmCard

/-- THE SECOND FORM's CARD OF 'trailheadlaw17.ChainDoes'. -/
def chainDoesUptoCard : Claim7 := { stood := { row := chainDoesUptoRow, standIns := [], harness := (true, "17e680289c041568e1f244bff8448fb074291aa6a1b0fbcd7b0e96f3369d88cf"), looks := false }, kinds := [], alts := [], laidByText := true, laidKinds := [.data, .data], laidTests := true, laidLooks := .later }
def ChainDoesUptoCardSaid : Prop := Claim7.holds Tryz.pinned (.plain (OpenSpec.upto chainDoesSpec)) chainDoesUptoCard

/-- THE SECOND FORM's CARD OF 'trailheadlaw17.ChainHeads'. -/
def chainHeadsUptoCard : Claim7 := { stood := { row := chainHeadsUptoRow, standIns := [], harness := (true, "17e680289c041568e1f244bff8448fb074291aa6a1b0fbcd7b0e96f3369d88cf"), looks := false }, kinds := [], alts := [], laidByText := true, laidKinds := [.data, .data], laidTests := true, laidLooks := .later }
def ChainHeadsUptoCardSaid : Prop := Claim7.holds Tryz.pinned (.plain (OpenSpec.upto chainHeadsSpec)) chainHeadsUptoCard

/-- THE SECOND FORM's CARD OF 'trailheadlaw17.ChainSettles'. -/
def chainSettlesUptoCard : Claim7 := { stood := { row := chainSettlesUptoRow, standIns := [], harness := (true, "17e680289c041568e1f244bff8448fb074291aa6a1b0fbcd7b0e96f3369d88cf"), looks := false }, kinds := [], alts := [], laidByText := true, laidKinds := [.data, .data], laidTests := true, laidLooks := .later }
def ChainSettlesUptoCardSaid : Prop := Claim7.holds Tryz.pinned (.plain (OpenSpec.upto chainSettlesSpec)) chainSettlesUptoCard

/-- THE SECOND FORM's CARD OF 'trailheadlaw17.ChainWay'. -/
def chainWayUptoCard : Claim7 := { stood := { row := chainWayUptoRow, standIns := [], harness := (true, "17e680289c041568e1f244bff8448fb074291aa6a1b0fbcd7b0e96f3369d88cf"), looks := false }, kinds := [], alts := [], laidByText := true, laidKinds := [.data, .data], laidTests := true, laidLooks := .later }
def ChainWayUptoCardSaid : Prop := Claim7.holds Tryz.pinned (.plain (OpenSpec.upto chainWaySpec)) chainWayUptoCard

/-- THE SECOND FORM's CARD OF 'trailheadlaw17.ChainBack'. -/
def chainBackUptoCard : Claim7 := { stood := { row := chainBackUptoRow, standIns := [], harness := (true, "17e680289c041568e1f244bff8448fb074291aa6a1b0fbcd7b0e96f3369d88cf"), looks := false }, kinds := [], alts := [], laidByText := true, laidKinds := [.data, .data], laidTests := true, laidLooks := .later }
def ChainBackUptoCardSaid : Prop := Claim7.holds Tryz.pinned (.plain (OpenSpec.upto chainBackSpec)) chainBackUptoCard

/-- THE SECOND FORM's CARD OF 'trailheadlaw17.ChainCalm'. -/
def chainCalmUptoCard : Claim7 := { stood := { row := chainCalmUptoRow, standIns := [], harness := (true, "17e680289c041568e1f244bff8448fb074291aa6a1b0fbcd7b0e96f3369d88cf"), looks := false }, kinds := [], alts := [], laidByText := true, laidKinds := [.data, .data], laidTests := true, laidLooks := .later }
def ChainCalmUptoCardSaid : Prop := Claim7.holds Tryz.pinned (.plain (OpenSpec.upto chainCalmSpec)) chainCalmUptoCard
end Rows
end Go.Proofs.YtkbjaadjnbgfbaaGreatDoor
