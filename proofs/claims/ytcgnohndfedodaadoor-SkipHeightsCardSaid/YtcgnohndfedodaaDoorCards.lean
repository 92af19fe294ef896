/-
  DERIVED. GIVEN WITH THE SEED: THE CARDS: each row of YtcgnohndfedodaaDoorRows.lean that lists a variable, with what it lists TIED to the program's text (the seventh form; the later family's looks); each row that meets fmt, with fmt's text TOLD by the authors' own Lean function (tested against real Go, not proved from fmt's source: count such statements apart). THE CARD IS WHAT COUNTS. Prove the row's statement (the work); the ties are given (YtcgnohndfedodaaDoorTie.lean); close each card by the builder's one call (the guide's Derived/Test/ToyasCard.lean, 'card_holds'). Laid BY PROGRAM, IN A SANDBOX (cutbox-door.mjs). By AI agents, Wed Nov 11 2026. No macro, syntax, notation, axiom, sorry.
-/
import Derived.Test.YtcgnohndfedodaaDoorRows
import GoSem.ClaimSeven
namespace Go.Proofs.YtcgnohndfedodaaDoor
namespace Rows

/-- THE TIED CARD OF 'trailheadlaw13.SkipHeights'. -/
def skipHeightsCard : Claim7 := { stood := { row := skipHeightsRow, standIns := [], harness := (true, "168ff53611016417f698bfed856510a6a1e8a24a4927c6ad18a67c1aa440a942"), looks := false }, kinds := [], alts := [], laidByText := true, laidKinds := [.data, .data], laidTests := true, laidLooks := .later }
def SkipHeightsCardSaid : Prop := Claim7.holds Tryd.pinned (.plain (OpenSpec.ofChange skipHeightsSpec)) skipHeightsCard

/-- THE SECOND FORM's CARD OF 'trailheadlaw13.SkipHeights'. -/
def skipHeightsUptoCard : Claim7 := { stood := { row := skipHeightsUptoRow, standIns := [], harness := (true, "168ff53611016417f698bfed856510a6a1e8a24a4927c6ad18a67c1aa440a942"), looks := false }, kinds := [], alts := [], laidByText := true, laidKinds := [.data, .data], laidTests := true, laidLooks := .later }
def SkipHeightsUptoCardSaid : Prop := Claim7.holds Tryd.pinned (.plain (OpenSpec.upto skipHeightsSpec)) skipHeightsUptoCard
end Rows
end Go.Proofs.YtcgnohndfedodaaDoor
