/-
  DERIVED. GIVEN WITH THE SEED: THE CARDS: each row of YtkclahiiijfllaaGreatDoorRows.lean that lists a variable, with what it lists TIED to the program's text (the seventh form; the later family's looks); each row that meets fmt, with fmt's text TOLD by the authors' own Lean function (tested against real Go, not proved from fmt's source: count such statements apart). THE CARD IS WHAT COUNTS. Prove the row's statement (the work); the ties are given (YtkclahiiijfllaaGreatDoorTie.lean); close each card by the builder's one call (the guide's Derived/Test/ToyasCard.lean, 'card_holds'). Laid BY PROGRAM, IN A SANDBOX (cutbox-door.mjs). By AI agents, Wed Nov 11 2026. No macro, syntax, notation, axiom, sorry.
-/
import Derived.Test.YtkclahiiijfllaaGreatDoorRows
import GoSem.ClaimSeven
namespace Go.Proofs.YtkclahiiijfllaaGreatDoor
namespace Rows

/-- THE TIED CARD OF 'trailheadlaw12.ArenaDoes'. -/
def arenaDoesCard : Claim7 := { stood := { row := arenaDoesRow, standIns := [], harness := (true, "6ad5303c96e4d57f30b6e2ee25b17a15ddaacf9f2057dd123cdf85fb2e76ab12"), looks := false }, kinds := [], alts := [], laidByText := true, laidKinds := [.data, .data], laidTests := true, laidLooks := .later }
def ArenaDoesCardSaid : Prop := Claim7.holds Tryz.pinned (.plain (OpenSpec.ofChange arenaDoesSpec)) arenaDoesCard

/-- THE TIED CARD OF 'trailheadlaw12.ArenaStands'. -/
def arenaStandsCard : Claim7 := { stood := { row := arenaStandsRow, standIns := [], harness := (true, "6ad5303c96e4d57f30b6e2ee25b17a15ddaacf9f2057dd123cdf85fb2e76ab12"), looks := false }, kinds := [], alts := [], laidByText := true, laidKinds := [.data, .data], laidTests := true, laidLooks := .later }
def ArenaStandsCardSaid : Prop := Claim7.holds Tryz.pinned (.plain (OpenSpec.ofChange arenaStandsSpec)) arenaStandsCard

/-- THE TIED CARD OF 'trailheadlaw12.ArenaSpots'. -/
def arenaSpotsCard : Claim7 := { stood := { row := arenaSpotsRow, standIns := [], harness := (true, "6ad5303c96e4d57f30b6e2ee25b17a15ddaacf9f2057dd123cdf85fb2e76ab12"), looks := false }, kinds := [], alts := [], laidByText := true, laidKinds := [.data, .data], laidTests := true, laidLooks := .later }
def ArenaSpotsCardSaid : Prop := Claim7.holds Tryz.pinned (.plain (OpenSpec.ofChange arenaSpotsSpec)) arenaSpotsCard

/-- THE TIED CARD OF 'trailheadlaw12.ArenaOnce'. -/
def arenaOnceCard : Claim7 := { stood := { row := arenaOnceRow, standIns := [], harness := (true, "6ad5303c96e4d57f30b6e2ee25b17a15ddaacf9f2057dd123cdf85fb2e76ab12"), looks := false }, kinds := [], alts := [], laidByText := true, laidKinds := [.data, .data], laidTests := true, laidLooks := .later }
def ArenaOnceCardSaid : Prop := Claim7.holds Tryz.pinned (.plain (OpenSpec.ofChange arenaOnceSpec)) arenaOnceCard

/-- THE TIED CARD OF 'trailheadlaw12.ArenaRoom'. -/
def arenaRoomCard : Claim7 := { stood := { row := arenaRoomRow, standIns := [], harness := (true, "6ad5303c96e4d57f30b6e2ee25b17a15ddaacf9f2057dd123cdf85fb2e76ab12"), looks := false }, kinds := [], alts := [], laidByText := true, laidKinds := [.data, .data], laidTests := true, laidLooks := .later }
def ArenaRoomCardSaid : Prop := Claim7.holds Tryz.pinned (.plain (OpenSpec.ofChange arenaRoomSpec)) arenaRoomCard

/-- THE SECOND FORM's CARD OF 'trailheadlaw12.ArenaDoes'. -/
def arenaDoesUptoCard : Claim7 := { stood := { row := arenaDoesUptoRow, standIns := [], harness := (true, "6ad5303c96e4d57f30b6e2ee25b17a15ddaacf9f2057dd123cdf85fb2e76ab12"), looks := false }, kinds := [], alts := [], laidByText := true, laidKinds := [.data, .data], laidTests := true, laidLooks := .later }
def ArenaDoesUptoCardSaid : Prop := Claim7.holds Tryz.pinned (.plain (OpenSpec.upto arenaDoesSpec)) arenaDoesUptoCard

/-- THE SECOND FORM's CARD OF 'trailheadlaw12.ArenaStands'. -/
def arenaStandsUptoCard : Claim7 := { stood := { row := arenaStandsUptoRow, standIns := [], harness := (true, "6ad5303c96e4d57f30b6e2ee25b17a15ddaacf9f2057dd123cdf85fb2e76ab12"), looks := false }, kinds := [], alts := [], laidByText := true, laidKinds := [.data, .data], laidTests := true, laidLooks := .later }
def ArenaStandsUptoCardSaid : Prop := Claim7.holds Tryz.pinned (.plain (OpenSpec.upto arenaStandsSpec)) arenaStandsUptoCard

/-- THE SECOND FORM's CARD OF 'trailheadlaw12.ArenaSpots'. -/
def arenaSpotsUptoCard : Claim7 := { stood := { row := arenaSpotsUptoRow, standIns := [], harness := (true, "6ad5303c96e4d57f30b6e2ee25b17a15ddaacf9f2057dd123cdf85fb2e76ab12"), looks := false }, kinds := [], alts := [], laidByText := true, laidKinds := [.data, .data], laidTests := true, laidLooks := .later }
def ArenaSpotsUptoCardSaid : Prop := Claim7.holds Tryz.pinned (.plain (OpenSpec.upto arenaSpotsSpec)) arenaSpotsUptoCard

/-- THE SECOND FORM's CARD OF 'trailheadlaw12.ArenaOnce'. -/
def arenaOnceUptoCard : Claim7 := { stood := { row := arenaOnceUptoRow, standIns := [], harness := (true, "6ad5303c96e4d57f30b6e2ee25b17a15ddaacf9f2057dd123cdf85fb2e76ab12"), looks := false }, kinds := [], alts := [], laidByText := true, laidKinds := [.data, .data], laidTests := true, laidLooks := .later }
def ArenaOnceUptoCardSaid : Prop := Claim7.holds Tryz.pinned (.plain (OpenSpec.upto arenaOnceSpec)) arenaOnceUptoCard

/-- THE SECOND FORM's CARD OF 'trailheadlaw12.ArenaRoom'. -/
def arenaRoomUptoCard : Claim7 := { stood := { row := arenaRoomUptoRow, standIns := [], harness := (true, "6ad5303c96e4d57f30b6e2ee25b17a15ddaacf9f2057dd123cdf85fb2e76ab12"), looks := false }, kinds := [], alts := [], laidByText := true, laidKinds := [.data, .data], laidTests := true, laidLooks := .later }
def ArenaRoomUptoCardSaid : Prop := Claim7.holds Tryz.pinned (.plain (OpenSpec.upto arenaRoomSpec)) arenaRoomUptoCard
end Rows
end Go.Proofs.YtkclahiiijfllaaGreatDoor
