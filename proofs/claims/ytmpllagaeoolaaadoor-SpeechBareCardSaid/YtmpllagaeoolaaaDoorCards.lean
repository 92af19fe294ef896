/-
  DERIVED. GIVEN WITH THE SEED: THE CARDS: each row of YtmpllagaeoolaaaDoorRows.lean that lists a variable, with what it lists TIED to the program's text (the seventh form; the later family's looks); each row that meets fmt, with fmt's text TOLD by the authors' own Lean function (tested against real Go, not proved from fmt's source: count such statements apart). THE CARD IS WHAT COUNTS. Prove the row's statement (the work); the ties are given (YtmpllagaeoolaaaDoorTie.lean); close each card by the builder's one call (the guide's Derived/Test/ToyasCard.lean, 'card_holds'). Laid BY PROGRAM, IN A SANDBOX (cutbox-door.mjs). By AI agents, Wed Nov 11 2026. No macro, syntax, notation, axiom, sorry.
-/
import Derived.Test.YtmpllagaeoolaaaDoorRows
import GoSem.ClaimSeven
namespace Go.Proofs.YtmpllagaeoolaaaDoor
namespace Rows

/-- THE TIED CARD OF 'trailheadlaw08.SpeechBytes'. -/
def speechBytesCard : Claim7 := { stood := { row := speechBytesRow, standIns := [], harness := (true, "8ae259690a458d8ee2ed4b7e645582b2cf520113621d52a6dc5a85c7ec56230f"), looks := false }, kinds := [], alts := [], laidByText := true, laidKinds := [.data, .data, .data], laidTests := true, laidLooks := .later }
def SpeechBytesCardSaid : Prop := Claim7.holds Tryd.pinned (.plain (OpenSpec.ofChange speechBytesSpec)) speechBytesCard

/-- THE TIED CARD OF 'trailheadlaw08.SpeechReads'. -/
def speechReadsCard : Claim7 := { stood := { row := speechReadsRow, standIns := [], harness := (true, "8ae259690a458d8ee2ed4b7e645582b2cf520113621d52a6dc5a85c7ec56230f"), looks := false }, kinds := [], alts := [], laidByText := true, laidKinds := [.data, .data, .data], laidTests := true, laidLooks := .later }
def SpeechReadsCardSaid : Prop := Claim7.holds Tryd.pinned (.plain (OpenSpec.ofChange speechReadsSpec)) speechReadsCard

/-- THE TIED CARD OF 'trailheadlaw08.SpeechWords'. -/
def speechWordsCard : Claim7 := { stood := { row := speechWordsRow, standIns := [], harness := (true, "8ae259690a458d8ee2ed4b7e645582b2cf520113621d52a6dc5a85c7ec56230f"), looks := false }, kinds := [], alts := [], laidByText := true, laidKinds := [.data, .data, .data], laidTests := true, laidLooks := .later }
def SpeechWordsCardSaid : Prop := Claim7.holds Tryd.pinned (.plain (OpenSpec.ofChange speechWordsSpec)) speechWordsCard

/-- THE TIED CARD OF 'trailheadlaw08.SpeechSame'. -/
def speechSameCard : Claim7 := { stood := { row := speechSameRow, standIns := [], harness := (true, "8ae259690a458d8ee2ed4b7e645582b2cf520113621d52a6dc5a85c7ec56230f"), looks := false }, kinds := [], alts := [], laidByText := true, laidKinds := [.data, .data, .data], laidTests := true, laidLooks := .later }
def SpeechSameCardSaid : Prop := Claim7.holds Tryd.pinned (.plain (OpenSpec.ofChange speechSameSpec)) speechSameCard

/-- THE TIED CARD OF 'trailheadlaw08.SpeechCuts'. -/
def speechCutsCard : Claim7 := { stood := { row := speechCutsRow, standIns := [], harness := (true, "8ae259690a458d8ee2ed4b7e645582b2cf520113621d52a6dc5a85c7ec56230f"), looks := false }, kinds := [], alts := [], laidByText := true, laidKinds := [.data, .data, .data], laidTests := true, laidLooks := .later }
def SpeechCutsCardSaid : Prop := Claim7.holds Tryd.pinned (.plain (OpenSpec.ofChange speechCutsSpec)) speechCutsCard

/-- THE TIED CARD OF 'trailheadlaw08.SpeechBare'. -/
def speechBareCard : Claim7 := { stood := { row := speechBareRow, standIns := [], harness := (true, "8ae259690a458d8ee2ed4b7e645582b2cf520113621d52a6dc5a85c7ec56230f"), looks := false }, kinds := [], alts := [], laidByText := true, laidKinds := [.data, .data, .data], laidTests := true, laidLooks := .later }
def SpeechBareCardSaid : Prop := Claim7.holds Tryd.pinned (.plain (OpenSpec.ofChange speechBareSpec)) speechBareCard

/-- THE SECOND FORM's CARD OF 'trailheadlaw08.SpeechBytes'. -/
def speechBytesUptoCard : Claim7 := { stood := { row := speechBytesUptoRow, standIns := [], harness := (true, "8ae259690a458d8ee2ed4b7e645582b2cf520113621d52a6dc5a85c7ec56230f"), looks := false }, kinds := [], alts := [], laidByText := true, laidKinds := [.data, .data, .data], laidTests := true, laidLooks := .later }
def SpeechBytesUptoCardSaid : Prop := Claim7.holds Tryd.pinned (.plain (OpenSpec.upto speechBytesSpec)) speechBytesUptoCard

/-- THE SECOND FORM's CARD OF 'trailheadlaw08.SpeechReads'. -/
def speechReadsUptoCard : Claim7 := { stood := { row := speechReadsUptoRow, standIns := [], harness := (true, "8ae259690a458d8ee2ed4b7e645582b2cf520113621d52a6dc5a85c7ec56230f"), looks := false }, kinds := [], alts := [], laidByText := true, laidKinds := [.data, .data, .data], laidTests := true, laidLooks := .later }
def SpeechReadsUptoCardSaid : Prop := Claim7.holds Tryd.pinned (.plain (OpenSpec.upto speechReadsSpec)) speechReadsUptoCard

/-- THE SECOND FORM's CARD OF 'trailheadlaw08.SpeechWords'. -/
def speechWordsUptoCard : Claim7 := { stood := { row := speechWordsUptoRow, standIns := [], harness := (true, "8ae259690a458d8ee2ed4b7e645582b2cf520113621d52a6dc5a85c7ec56230f"), looks := false }, kinds := [], alts := [], laidByText := true, laidKinds := [.data, .data, .data], laidTests := true, laidLooks := .later }
def SpeechWordsUptoCardSaid : Prop := Claim7.holds Tryd.pinned (.plain (OpenSpec.upto speechWordsSpec)) speechWordsUptoCard

/-- THE SECOND FORM's CARD OF 'trailheadlaw08.SpeechSame'. -/
def speechSameUptoCard : Claim7 := { stood := { row := speechSameUptoRow, standIns := [], harness := (true, "8ae259690a458d8ee2ed4b7e645582b2cf520113621d52a6dc5a85c7ec56230f"), looks := false }, kinds := [], alts := [], laidByText := true, laidKinds := [.data, .data, .data], laidTests := true, laidLooks := .later }
def SpeechSameUptoCardSaid : Prop := Claim7.holds Tryd.pinned (.plain (OpenSpec.upto speechSameSpec)) speechSameUptoCard

/-- THE SECOND FORM's CARD OF 'trailheadlaw08.SpeechCuts'. -/
def speechCutsUptoCard : Claim7 := { stood := { row := speechCutsUptoRow, standIns := [], harness := (true, "8ae259690a458d8ee2ed4b7e645582b2cf520113621d52a6dc5a85c7ec56230f"), looks := false }, kinds := [], alts := [], laidByText := true, laidKinds := [.data, .data, .data], laidTests := true, laidLooks := .later }
def SpeechCutsUptoCardSaid : Prop := Claim7.holds Tryd.pinned (.plain (OpenSpec.upto speechCutsSpec)) speechCutsUptoCard

/-- THE SECOND FORM's CARD OF 'trailheadlaw08.SpeechBare'. -/
def speechBareUptoCard : Claim7 := { stood := { row := speechBareUptoRow, standIns := [], harness := (true, "8ae259690a458d8ee2ed4b7e645582b2cf520113621d52a6dc5a85c7ec56230f"), looks := false }, kinds := [], alts := [], laidByText := true, laidKinds := [.data, .data, .data], laidTests := true, laidLooks := .later }
def SpeechBareUptoCardSaid : Prop := Claim7.holds Tryd.pinned (.plain (OpenSpec.upto speechBareSpec)) speechBareUptoCard
end Rows
end Go.Proofs.YtmpllagaeoolaaaDoor
