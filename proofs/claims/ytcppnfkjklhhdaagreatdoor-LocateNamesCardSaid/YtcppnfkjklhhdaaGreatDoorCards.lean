/-
  DERIVED. GIVEN WITH THE SEED: THE CARDS: each row of YtcppnfkjklhhdaaGreatDoorRows.lean that lists a variable, with what it lists TIED to the program's text (the seventh form; the later family's looks); each row that meets fmt, with fmt's text TOLD by the authors' own Lean function (tested against real Go, not proved from fmt's source: count such statements apart). THE CARD IS WHAT COUNTS. Prove the row's statement (the work); the ties are given (YtcppnfkjklhhdaaGreatDoorTie.lean); close each card by the builder's one call (the guide's Derived/Test/ToyasCard.lean, 'card_holds'). Laid BY PROGRAM, IN A SANDBOX (cutbox-door.mjs). By AI agents, Wed Nov 11 2026. No macro, syntax, notation, axiom, sorry.
-/
import Derived.Test.YtcppnfkjklhhdaaGreatDoorRows
import GoSem.ClaimSeven
namespace Go.Proofs.YtcppnfkjklhhdaaGreatDoor
namespace Rows

/-- THE TIED CARD OF 'trailheadlaw14.LocateNames'. -/
def locateNamesCard : Claim7 := { stood := { row := locateNamesRow, standIns := [], harness := (true, "be674d1a6241ec009134073f7f66a445e7a1cfacd9659526440f4771f1dffe21"), looks := false }, kinds := [], alts := [], laidByText := true, laidKinds := [.data, .data], laidTests := true, laidLooks := .later }
def LocateNamesCardSaid : Prop := Claim7.holds Tryz.pinned (.plain (OpenSpec.ofChange locateNamesSpec)) locateNamesCard

/-- THE TIED CARD OF 'trailheadlaw14.LocateAnswers'. -/
def locateAnswersCard : Claim7 := { stood := { row := locateAnswersRow, standIns := [], harness := (true, "be674d1a6241ec009134073f7f66a445e7a1cfacd9659526440f4771f1dffe21"), looks := false }, kinds := [], alts := [], laidByText := true, laidKinds := [.data, .data], laidTests := true, laidLooks := .later }
def LocateAnswersCardSaid : Prop := Claim7.holds Tryz.pinned (.plain (OpenSpec.ofChange locateAnswersSpec)) locateAnswersCard

/-- THE TIED CARD OF 'trailheadlaw14.LocateKnown'. -/
def locateKnownCard : Claim7 := { stood := { row := locateKnownRow, standIns := [], harness := (true, "be674d1a6241ec009134073f7f66a445e7a1cfacd9659526440f4771f1dffe21"), looks := false }, kinds := [], alts := [], laidByText := true, laidKinds := [.data, .data], laidTests := true, laidLooks := .later }
def LocateKnownCardSaid : Prop := Claim7.holds Tryz.pinned (.plain (OpenSpec.ofChange locateKnownSpec)) locateKnownCard

/-- THE TIED CARD OF 'trailheadlaw14.LocateRow'. -/
def locateRowCard : Claim7 := { stood := { row := locateRowRow, standIns := [], harness := (true, "be674d1a6241ec009134073f7f66a445e7a1cfacd9659526440f4771f1dffe21"), looks := false }, kinds := [], alts := [], laidByText := true, laidKinds := [.data, .data], laidTests := true, laidLooks := .later }
def LocateRowCardSaid : Prop := Claim7.holds Tryz.pinned (.plain (OpenSpec.ofChange locateRowSpec)) locateRowCard

/-- THE SECOND FORM's CARD OF 'trailheadlaw14.LocateNames'. -/
def locateNamesUptoCard : Claim7 := { stood := { row := locateNamesUptoRow, standIns := [], harness := (true, "be674d1a6241ec009134073f7f66a445e7a1cfacd9659526440f4771f1dffe21"), looks := false }, kinds := [], alts := [], laidByText := true, laidKinds := [.data, .data], laidTests := true, laidLooks := .later }
def LocateNamesUptoCardSaid : Prop := Claim7.holds Tryz.pinned (.plain (OpenSpec.upto locateNamesSpec)) locateNamesUptoCard

/-- THE SECOND FORM's CARD OF 'trailheadlaw14.LocateAnswers'. -/
def locateAnswersUptoCard : Claim7 := { stood := { row := locateAnswersUptoRow, standIns := [], harness := (true, "be674d1a6241ec009134073f7f66a445e7a1cfacd9659526440f4771f1dffe21"), looks := false }, kinds := [], alts := [], laidByText := true, laidKinds := [.data, .data], laidTests := true, laidLooks := .later }
def LocateAnswersUptoCardSaid : Prop := Claim7.holds Tryz.pinned (.plain (OpenSpec.upto locateAnswersSpec)) locateAnswersUptoCard

/-- THE SECOND FORM's CARD OF 'trailheadlaw14.LocateKnown'. -/
def locateKnownUptoCard : Claim7 := { stood := { row := locateKnownUptoRow, standIns := [], harness := (true, "be674d1a6241ec009134073f7f66a445e7a1cfacd9659526440f4771f1dffe21"), looks := false }, kinds := [], alts := [], laidByText := true, laidKinds := [.data, .data], laidTests := true, laidLooks := .later }
def LocateKnownUptoCardSaid : Prop := Claim7.holds Tryz.pinned (.plain (OpenSpec.upto locateKnownSpec)) locateKnownUptoCard

/-- THE SECOND FORM's CARD OF 'trailheadlaw14.LocateRow'. -/
def locateRowUptoCard : Claim7 := { stood := { row := locateRowUptoRow, standIns := [], harness := (true, "be674d1a6241ec009134073f7f66a445e7a1cfacd9659526440f4771f1dffe21"), looks := false }, kinds := [], alts := [], laidByText := true, laidKinds := [.data, .data], laidTests := true, laidLooks := .later }
def LocateRowUptoCardSaid : Prop := Claim7.holds Tryz.pinned (.plain (OpenSpec.upto locateRowSpec)) locateRowUptoCard
end Rows
end Go.Proofs.YtcppnfkjklhhdaaGreatDoor
