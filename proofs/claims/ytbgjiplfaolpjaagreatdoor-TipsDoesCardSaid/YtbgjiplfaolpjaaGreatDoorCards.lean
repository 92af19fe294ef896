/-
  DERIVED. GIVEN WITH THE SEED: THE CARDS: each row of YtbgjiplfaolpjaaGreatDoorRows.lean that lists a variable, with what it lists TIED to the program's text (the seventh form; the later family's looks); each row that meets fmt, with fmt's text TOLD by the authors' own Lean function (tested against real Go, not proved from fmt's source: count such statements apart). THE CARD IS WHAT COUNTS. Prove the row's statement (the work); the ties are given (YtbgjiplfaolpjaaGreatDoorTie.lean); close each card by the builder's one call (the guide's Derived/Test/ToyasCard.lean, 'card_holds'). Laid BY PROGRAM, IN A SANDBOX (cutbox-door.mjs). By AI agents, Wed Nov 11 2026. No macro, syntax, notation, axiom, sorry.
-/
import Derived.Test.YtbgjiplfaolpjaaGreatDoorRows
import GoSem.ClaimSeven
namespace Go.Proofs.YtbgjiplfaolpjaaGreatDoor
namespace Rows

/-- THE TIED CARD OF 'trailheadlaw15.TipsDoes'. -/
def tipsDoesCard : Claim7 := { stood := { row := tipsDoesRow, standIns := [], harness := (true, "466e699d448898ddcf0fbb01a05238197f139bf17d5de7b5e2fe316d4f12cc26"), looks := false }, kinds := [], alts := [], laidByText := true, laidKinds := [.data, .data], laidTests := true, laidLooks := .later }
def TipsDoesCardSaid : Prop := Claim7.holds Tryz.pinned (.plain (OpenSpec.ofChange tipsDoesSpec)) tipsDoesCard

/-- THE TIED CARD OF 'trailheadlaw15.TipsTrim'. -/
def tipsTrimCard : Claim7 := { stood := { row := tipsTrimRow, standIns := [], harness := (true, "466e699d448898ddcf0fbb01a05238197f139bf17d5de7b5e2fe316d4f12cc26"), looks := false }, kinds := [], alts := [], laidByText := true, laidKinds := [.data, .data], laidTests := true, laidLooks := .later }
def TipsTrimCardSaid : Prop := Claim7.holds Tryz.pinned (.plain (OpenSpec.ofChange tipsTrimSpec)) tipsTrimCard

/-- THE TIED CARD OF 'trailheadlaw15.TipsParts'. -/
def tipsPartsCard : Claim7 := { stood := { row := tipsPartsRow, standIns := [], harness := (true, "466e699d448898ddcf0fbb01a05238197f139bf17d5de7b5e2fe316d4f12cc26"), looks := false }, kinds := [], alts := [], laidByText := true, laidKinds := [.data, .data], laidTests := true, laidLooks := .later }
def TipsPartsCardSaid : Prop := Claim7.holds Tryz.pinned (.plain (OpenSpec.ofChange tipsPartsSpec)) tipsPartsCard

/-- THE SECOND FORM's CARD OF 'trailheadlaw15.TipsDoes'. -/
def tipsDoesUptoCard : Claim7 := { stood := { row := tipsDoesUptoRow, standIns := [], harness := (true, "466e699d448898ddcf0fbb01a05238197f139bf17d5de7b5e2fe316d4f12cc26"), looks := false }, kinds := [], alts := [], laidByText := true, laidKinds := [.data, .data], laidTests := true, laidLooks := .later }
def TipsDoesUptoCardSaid : Prop := Claim7.holds Tryz.pinned (.plain (OpenSpec.upto tipsDoesSpec)) tipsDoesUptoCard

/-- THE SECOND FORM's CARD OF 'trailheadlaw15.TipsTrim'. -/
def tipsTrimUptoCard : Claim7 := { stood := { row := tipsTrimUptoRow, standIns := [], harness := (true, "466e699d448898ddcf0fbb01a05238197f139bf17d5de7b5e2fe316d4f12cc26"), looks := false }, kinds := [], alts := [], laidByText := true, laidKinds := [.data, .data], laidTests := true, laidLooks := .later }
def TipsTrimUptoCardSaid : Prop := Claim7.holds Tryz.pinned (.plain (OpenSpec.upto tipsTrimSpec)) tipsTrimUptoCard

/-- THE SECOND FORM's CARD OF 'trailheadlaw15.TipsParts'. -/
def tipsPartsUptoCard : Claim7 := { stood := { row := tipsPartsUptoRow, standIns := [], harness := (true, "466e699d448898ddcf0fbb01a05238197f139bf17d5de7b5e2fe316d4f12cc26"), looks := false }, kinds := [], alts := [], laidByText := true, laidKinds := [.data, .data], laidTests := true, laidLooks := .later }
def TipsPartsUptoCardSaid : Prop := Claim7.holds Tryz.pinned (.plain (OpenSpec.upto tipsPartsSpec)) tipsPartsUptoCard
end Rows
end Go.Proofs.YtbgjiplfaolpjaaGreatDoor
