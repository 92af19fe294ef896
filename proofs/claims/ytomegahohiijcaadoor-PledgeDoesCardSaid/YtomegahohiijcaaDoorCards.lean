/-
  DERIVED. GIVEN WITH THE SEED: THE CARDS: each row of YtomegahohiijcaaDoorRows.lean that lists a variable, with what it lists TIED to the program's text (the seventh form; the later family's looks); each row that meets fmt, with fmt's text TOLD by the authors' own Lean function (tested against real Go, not proved from fmt's source: count such statements apart). THE CARD IS WHAT COUNTS. Prove the row's statement (the work); the ties are given (YtomegahohiijcaaDoorTie.lean); close each card by the builder's one call (the guide's Derived/Test/ToyasCard.lean, 'card_holds'). Laid BY PROGRAM, IN A SANDBOX (cutbox-door.mjs). By AI agents, Wed Nov 11 2026. No macro, syntax, notation, axiom, sorry.
-/
import Derived.Test.YtomegahohiijcaaDoorRows
import GoSem.ClaimSeven
namespace Go.Proofs.YtomegahohiijcaaDoor
namespace Rows

/-- THE TIED CARD OF 'trailheadlaw18.PledgePlans'. -/
def pledgePlansCard : Claim7 := { stood := { row := pledgePlansRow, standIns := [], harness := (true, "1fe18b2d59e86e930fcf47bc79f8ec68659c601e710198e855b8eaa3e92f5ceb"), looks := false }, kinds := [], alts := [], laidByText := true, laidKinds := [.data, .data], laidTests := true, laidLooks := .later }
def PledgePlansCardSaid : Prop := Claim7.holds Tryd.pinned (.plain (OpenSpec.ofChange pledgePlansSpec)) pledgePlansCard

/-- THE TIED CARD OF 'trailheadlaw18.PledgeDoes'. -/
def pledgeDoesCard : Claim7 := { stood := { row := pledgeDoesRow, standIns := [], harness := (true, "1fe18b2d59e86e930fcf47bc79f8ec68659c601e710198e855b8eaa3e92f5ceb"), looks := false }, kinds := [], alts := [], laidByText := true, laidKinds := [.data, .data], laidTests := true, laidLooks := .later }
def PledgeDoesCardSaid : Prop := Claim7.holds Tryd.pinned (.plain (OpenSpec.ofChange pledgeDoesSpec)) pledgeDoesCard

/-- THE TIED CARD OF 'trailheadlaw18.PledgeMeets'. -/
def pledgeMeetsCard : Claim7 := { stood := { row := pledgeMeetsRow, standIns := [], harness := (true, "1fe18b2d59e86e930fcf47bc79f8ec68659c601e710198e855b8eaa3e92f5ceb"), looks := false }, kinds := [], alts := [], laidByText := true, laidKinds := [.data, .data], laidTests := true, laidLooks := .later }
def PledgeMeetsCardSaid : Prop := Claim7.holds Tryd.pinned (.plain (OpenSpec.ofChange pledgeMeetsSpec)) pledgeMeetsCard

/-- THE TIED CARD OF 'trailheadlaw18.PledgeSpan'. -/
def pledgeSpanCard : Claim7 := { stood := { row := pledgeSpanRow, standIns := [], harness := (true, "1fe18b2d59e86e930fcf47bc79f8ec68659c601e710198e855b8eaa3e92f5ceb"), looks := false }, kinds := [], alts := [], laidByText := true, laidKinds := [.data, .data], laidTests := true, laidLooks := .later }
def PledgeSpanCardSaid : Prop := Claim7.holds Tryd.pinned (.plain (OpenSpec.ofChange pledgeSpanSpec)) pledgeSpanCard

/-- THE SECOND FORM's CARD OF 'trailheadlaw18.PledgePlans'. -/
def pledgePlansUptoCard : Claim7 := { stood := { row := pledgePlansUptoRow, standIns := [], harness := (true, "1fe18b2d59e86e930fcf47bc79f8ec68659c601e710198e855b8eaa3e92f5ceb"), looks := false }, kinds := [], alts := [], laidByText := true, laidKinds := [.data, .data], laidTests := true, laidLooks := .later }
def PledgePlansUptoCardSaid : Prop := Claim7.holds Tryd.pinned (.plain (OpenSpec.upto pledgePlansSpec)) pledgePlansUptoCard

/-- THE SECOND FORM's CARD OF 'trailheadlaw18.PledgeDoes'. -/
def pledgeDoesUptoCard : Claim7 := { stood := { row := pledgeDoesUptoRow, standIns := [], harness := (true, "1fe18b2d59e86e930fcf47bc79f8ec68659c601e710198e855b8eaa3e92f5ceb"), looks := false }, kinds := [], alts := [], laidByText := true, laidKinds := [.data, .data], laidTests := true, laidLooks := .later }
def PledgeDoesUptoCardSaid : Prop := Claim7.holds Tryd.pinned (.plain (OpenSpec.upto pledgeDoesSpec)) pledgeDoesUptoCard

/-- THE SECOND FORM's CARD OF 'trailheadlaw18.PledgeMeets'. -/
def pledgeMeetsUptoCard : Claim7 := { stood := { row := pledgeMeetsUptoRow, standIns := [], harness := (true, "1fe18b2d59e86e930fcf47bc79f8ec68659c601e710198e855b8eaa3e92f5ceb"), looks := false }, kinds := [], alts := [], laidByText := true, laidKinds := [.data, .data], laidTests := true, laidLooks := .later }
def PledgeMeetsUptoCardSaid : Prop := Claim7.holds Tryd.pinned (.plain (OpenSpec.upto pledgeMeetsSpec)) pledgeMeetsUptoCard

/-- THE SECOND FORM's CARD OF 'trailheadlaw18.PledgeSpan'. -/
def pledgeSpanUptoCard : Claim7 := { stood := { row := pledgeSpanUptoRow, standIns := [], harness := (true, "1fe18b2d59e86e930fcf47bc79f8ec68659c601e710198e855b8eaa3e92f5ceb"), looks := false }, kinds := [], alts := [], laidByText := true, laidKinds := [.data, .data], laidTests := true, laidLooks := .later }
def PledgeSpanUptoCardSaid : Prop := Claim7.holds Tryd.pinned (.plain (OpenSpec.upto pledgeSpanSpec)) pledgeSpanUptoCard
end Rows
end Go.Proofs.YtomegahohiijcaaDoor
