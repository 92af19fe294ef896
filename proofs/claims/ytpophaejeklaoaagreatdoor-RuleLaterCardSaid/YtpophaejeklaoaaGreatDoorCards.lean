/-
  DERIVED. GIVEN WITH THE SEED: THE CARDS: each row of YtpophaejeklaoaaGreatDoorRows.lean that lists a variable, with what it lists TIED to the program's text (the seventh form; the later family's looks); each row that meets fmt, with fmt's text TOLD by the authors' own Lean function (tested against real Go, not proved from fmt's source: count such statements apart). THE CARD IS WHAT COUNTS. Prove the row's statement (the work); the ties are given (YtpophaejeklaoaaGreatDoorTie.lean); close each card by the builder's one call (the guide's Derived/Test/ToyasCard.lean, 'card_holds'). Laid BY PROGRAM, IN A SANDBOX (cutbox-door.mjs). By AI agents, Wed Nov 11 2026. No macro, syntax, notation, axiom, sorry.
-/
import Derived.Test.YtpophaejeklaoaaGreatDoorRows
import GoSem.ClaimSeven
namespace Go.Proofs.YtpophaejeklaoaaGreatDoor
namespace Rows

/-- THE TIED CARD OF 'trailheadlaw11.RuleChecks'. -/
def ruleChecksCard : Claim7 := { stood := { row := ruleChecksRow, standIns := [], harness := (true, "7d184ccc8eb025b1712879b0dc539ac871077905a51163b54ce36a24aa387fde"), looks := false }, kinds := [], alts := [], laidByText := true, laidKinds := [.data, .data], laidTests := true, laidLooks := .later }
def RuleChecksCardSaid : Prop := Claim7.holds Tryz.pinned (.plain (OpenSpec.ofChange ruleChecksSpec)) ruleChecksCard

/-- THE TIED CARD OF 'trailheadlaw11.RuleSpots'. -/
def ruleSpotsCard : Claim7 := { stood := { row := ruleSpotsRow, standIns := [], harness := (true, "7d184ccc8eb025b1712879b0dc539ac871077905a51163b54ce36a24aa387fde"), looks := false }, kinds := [], alts := [], laidByText := true, laidKinds := [.data, .data], laidTests := true, laidLooks := .later }
def RuleSpotsCardSaid : Prop := Claim7.holds Tryz.pinned (.plain (OpenSpec.ofChange ruleSpotsSpec)) ruleSpotsCard

/-- THE TIED CARD OF 'trailheadlaw11.RuleLater'. -/
def ruleLaterCard : Claim7 := { stood := { row := ruleLaterRow, standIns := [], harness := (true, "7d184ccc8eb025b1712879b0dc539ac871077905a51163b54ce36a24aa387fde"), looks := false }, kinds := [], alts := [], laidByText := true, laidKinds := [.data, .data], laidTests := true, laidLooks := .later }
def RuleLaterCardSaid : Prop := Claim7.holds Tryz.pinned (.plain (OpenSpec.ofChange ruleLaterSpec)) ruleLaterCard

/-- THE SECOND FORM's CARD OF 'trailheadlaw11.RuleChecks'. -/
def ruleChecksUptoCard : Claim7 := { stood := { row := ruleChecksUptoRow, standIns := [], harness := (true, "7d184ccc8eb025b1712879b0dc539ac871077905a51163b54ce36a24aa387fde"), looks := false }, kinds := [], alts := [], laidByText := true, laidKinds := [.data, .data], laidTests := true, laidLooks := .later }
def RuleChecksUptoCardSaid : Prop := Claim7.holds Tryz.pinned (.plain (OpenSpec.upto ruleChecksSpec)) ruleChecksUptoCard

/-- THE SECOND FORM's CARD OF 'trailheadlaw11.RuleSpots'. -/
def ruleSpotsUptoCard : Claim7 := { stood := { row := ruleSpotsUptoRow, standIns := [], harness := (true, "7d184ccc8eb025b1712879b0dc539ac871077905a51163b54ce36a24aa387fde"), looks := false }, kinds := [], alts := [], laidByText := true, laidKinds := [.data, .data], laidTests := true, laidLooks := .later }
def RuleSpotsUptoCardSaid : Prop := Claim7.holds Tryz.pinned (.plain (OpenSpec.upto ruleSpotsSpec)) ruleSpotsUptoCard

/-- THE SECOND FORM's CARD OF 'trailheadlaw11.RuleLater'. -/
def ruleLaterUptoCard : Claim7 := { stood := { row := ruleLaterUptoRow, standIns := [], harness := (true, "7d184ccc8eb025b1712879b0dc539ac871077905a51163b54ce36a24aa387fde"), looks := false }, kinds := [], alts := [], laidByText := true, laidKinds := [.data, .data], laidTests := true, laidLooks := .later }
def RuleLaterUptoCardSaid : Prop := Claim7.holds Tryz.pinned (.plain (OpenSpec.upto ruleLaterSpec)) ruleLaterUptoCard
end Rows
end Go.Proofs.YtpophaejeklaoaaGreatDoor
