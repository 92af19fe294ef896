/-
  DERIVED. GIVEN WITH THE SEED: THE CARDS: each row of YteachheacllblaaDoorRows.lean that lists a variable, with what it lists TIED to the program's text (the seventh form; the later family's looks); each row that meets fmt, with fmt's text TOLD by the authors' own Lean function (tested against real Go, not proved from fmt's source: count such statements apart). THE CARD IS WHAT COUNTS. Prove the row's statement (the work); the ties are given (YteachheacllblaaDoorTie.lean); close each card by the builder's one call (the guide's Derived/Test/ToyasCard.lean, 'card_holds'). Laid BY PROGRAM, IN A SANDBOX (cutbox-door.mjs). By AI agents, Wed Nov 11 2026. No macro, syntax, notation, axiom, sorry.
-/
import Derived.Test.YteachheacllblaaDoorRows
import GoSem.ClaimSeven
namespace Go.Proofs.YteachheacllblaaDoor
namespace Rows

/-- THE TIED CARD OF 'trailheadlaw01.DigestIs'. -/
def digestIsCard : Claim7 := { stood := { row := digestIsRow, standIns := [], harness := (true, "31a0d60349182293ac463f09b91567c79065e2bcd145f3521307b4c078ca40ae"), looks := false }, kinds := [], alts := [], laidByText := true, laidKinds := [.data, .data], laidTests := true, laidLooks := .later }
def DigestIsCardSaid : Prop := Claim7.holds Tryd.pinned (.plain (OpenSpec.ofChange digestIsSpec)) digestIsCard

/-- THE TIED CARD OF 'trailheadlaw01.DigestParts'. -/
def digestPartsCard : Claim7 := { stood := { row := digestPartsRow, standIns := [], harness := (true, "31a0d60349182293ac463f09b91567c79065e2bcd145f3521307b4c078ca40ae"), looks := false }, kinds := [], alts := [], laidByText := true, laidKinds := [.data, .data], laidTests := true, laidLooks := .later }
def DigestPartsCardSaid : Prop := Claim7.holds Tryd.pinned (.plain (OpenSpec.ofChange digestPartsSpec)) digestPartsCard

/-- THE TIED CARD OF 'trailheadlaw01.DigestShows'. -/
def digestShowsCard : Claim7 := { stood := { row := digestShowsRow, standIns := [], harness := (true, "31a0d60349182293ac463f09b91567c79065e2bcd145f3521307b4c078ca40ae"), looks := false }, kinds := [], alts := [], laidByText := true, laidKinds := [.data, .data], laidTests := true, laidLooks := .later }
def DigestShowsCardSaid : Prop := Claim7.holds Tryd.pinned (.plain (OpenSpec.ofChange digestShowsSpec)) digestShowsCard

/-- THE TIED CARD OF 'trailheadlaw01.DigestParses'. -/
def digestParsesCard : Claim7 := { stood := { row := digestParsesRow, standIns := [], harness := (true, "31a0d60349182293ac463f09b91567c79065e2bcd145f3521307b4c078ca40ae"), looks := false }, kinds := [], alts := [], laidByText := true, laidKinds := [.data, .data], laidTests := true, laidLooks := .later }
def DigestParsesCardSaid : Prop := Claim7.holds Tryd.pinned (.plain (OpenSpec.ofChange digestParsesSpec)) digestParsesCard

/-- THE TIED CARD OF 'trailheadlaw01.DigestTwice'. -/
def digestTwiceCard : Claim7 := { stood := { row := digestTwiceRow, standIns := [], harness := (true, "31a0d60349182293ac463f09b91567c79065e2bcd145f3521307b4c078ca40ae"), looks := false }, kinds := [], alts := [], laidByText := true, laidKinds := [.data, .data], laidTests := true, laidLooks := .later }
def DigestTwiceCardSaid : Prop := Claim7.holds Tryd.pinned (.plain (OpenSpec.ofChange digestTwiceSpec)) digestTwiceCard

/-- THE SECOND FORM's CARD OF 'trailheadlaw01.DigestIs'. -/
def digestIsUptoCard : Claim7 := { stood := { row := digestIsUptoRow, standIns := [], harness := (true, "31a0d60349182293ac463f09b91567c79065e2bcd145f3521307b4c078ca40ae"), looks := false }, kinds := [], alts := [], laidByText := true, laidKinds := [.data, .data], laidTests := true, laidLooks := .later }
def DigestIsUptoCardSaid : Prop := Claim7.holds Tryd.pinned (.plain (OpenSpec.upto digestIsSpec)) digestIsUptoCard

/-- THE SECOND FORM's CARD OF 'trailheadlaw01.DigestParts'. -/
def digestPartsUptoCard : Claim7 := { stood := { row := digestPartsUptoRow, standIns := [], harness := (true, "31a0d60349182293ac463f09b91567c79065e2bcd145f3521307b4c078ca40ae"), looks := false }, kinds := [], alts := [], laidByText := true, laidKinds := [.data, .data], laidTests := true, laidLooks := .later }
def DigestPartsUptoCardSaid : Prop := Claim7.holds Tryd.pinned (.plain (OpenSpec.upto digestPartsSpec)) digestPartsUptoCard

/-- THE SECOND FORM's CARD OF 'trailheadlaw01.DigestShows'. -/
def digestShowsUptoCard : Claim7 := { stood := { row := digestShowsUptoRow, standIns := [], harness := (true, "31a0d60349182293ac463f09b91567c79065e2bcd145f3521307b4c078ca40ae"), looks := false }, kinds := [], alts := [], laidByText := true, laidKinds := [.data, .data], laidTests := true, laidLooks := .later }
def DigestShowsUptoCardSaid : Prop := Claim7.holds Tryd.pinned (.plain (OpenSpec.upto digestShowsSpec)) digestShowsUptoCard

/-- THE SECOND FORM's CARD OF 'trailheadlaw01.DigestParses'. -/
def digestParsesUptoCard : Claim7 := { stood := { row := digestParsesUptoRow, standIns := [], harness := (true, "31a0d60349182293ac463f09b91567c79065e2bcd145f3521307b4c078ca40ae"), looks := false }, kinds := [], alts := [], laidByText := true, laidKinds := [.data, .data], laidTests := true, laidLooks := .later }
def DigestParsesUptoCardSaid : Prop := Claim7.holds Tryd.pinned (.plain (OpenSpec.upto digestParsesSpec)) digestParsesUptoCard

/-- THE SECOND FORM's CARD OF 'trailheadlaw01.DigestTwice'. -/
def digestTwiceUptoCard : Claim7 := { stood := { row := digestTwiceUptoRow, standIns := [], harness := (true, "31a0d60349182293ac463f09b91567c79065e2bcd145f3521307b4c078ca40ae"), looks := false }, kinds := [], alts := [], laidByText := true, laidKinds := [.data, .data], laidTests := true, laidLooks := .later }
def DigestTwiceUptoCardSaid : Prop := Claim7.holds Tryd.pinned (.plain (OpenSpec.upto digestTwiceSpec)) digestTwiceUptoCard
end Rows
end Go.Proofs.YteachheacllblaaDoor
