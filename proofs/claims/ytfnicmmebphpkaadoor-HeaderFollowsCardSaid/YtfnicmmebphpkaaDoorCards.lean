/-
  DERIVED. GIVEN WITH THE SEED: THE CARDS: each row of YtfnicmmebphpkaaDoorRows.lean that lists a variable, with what it lists TIED to the program's text (the seventh form; the later family's looks); each row that meets fmt, with fmt's text TOLD by the authors' own Lean function (tested against real Go, not proved from fmt's source: count such statements apart). THE CARD IS WHAT COUNTS. Prove the row's statement (the work); the ties are given (YtfnicmmebphpkaaDoorTie.lean); close each card by the builder's one call (the guide's Derived/Test/ToyasCard.lean, 'card_holds'). Laid BY PROGRAM, IN A SANDBOX (cutbox-door.mjs). By AI agents, Wed Nov 11 2026. No macro, syntax, notation, axiom, sorry.
-/
import Derived.Test.YtfnicmmebphpkaaDoorRows
import GoSem.ClaimSeven
namespace Go.Proofs.YtfnicmmebphpkaaDoor
namespace Rows

/-- THE TIED CARD OF 'trailheadlaw06.HeaderBytes'. -/
def headerBytesCard : Claim7 := { stood := { row := headerBytesRow, standIns := [], harness := (true, "110706418b44616dcae35370299056c39c791ff16818ef3073ad213ee367f205"), looks := false }, kinds := [], alts := [], laidByText := true, laidKinds := [.data, .data], laidTests := true, laidLooks := .later }
def HeaderBytesCardSaid : Prop := Claim7.holds Tryd.pinned (.plain (OpenSpec.ofChange headerBytesSpec)) headerBytesCard

/-- THE TIED CARD OF 'trailheadlaw06.HeaderReads'. -/
def headerReadsCard : Claim7 := { stood := { row := headerReadsRow, standIns := [], harness := (true, "110706418b44616dcae35370299056c39c791ff16818ef3073ad213ee367f205"), looks := false }, kinds := [], alts := [], laidByText := true, laidKinds := [.data, .data], laidTests := true, laidLooks := .later }
def HeaderReadsCardSaid : Prop := Claim7.holds Tryd.pinned (.plain (OpenSpec.ofChange headerReadsSpec)) headerReadsCard

/-- THE TIED CARD OF 'trailheadlaw06.HeaderFollows'. -/
def headerFollowsCard : Claim7 := { stood := { row := headerFollowsRow, standIns := [], harness := (true, "110706418b44616dcae35370299056c39c791ff16818ef3073ad213ee367f205"), looks := false }, kinds := [], alts := [], laidByText := true, laidKinds := [.data, .data], laidTests := true, laidLooks := .later }
def HeaderFollowsCardSaid : Prop := Claim7.holds Tryd.pinned (.plain (OpenSpec.ofChange headerFollowsSpec)) headerFollowsCard

/-- THE TIED CARD OF 'trailheadlaw06.HeaderSeeks'. -/
def headerSeeksCard : Claim7 := { stood := { row := headerSeeksRow, standIns := [], harness := (true, "110706418b44616dcae35370299056c39c791ff16818ef3073ad213ee367f205"), looks := false }, kinds := [], alts := [], laidByText := true, laidKinds := [.data, .data], laidTests := true, laidLooks := .later }
def HeaderSeeksCardSaid : Prop := Claim7.holds Tryd.pinned (.plain (OpenSpec.ofChange headerSeeksSpec)) headerSeeksCard

/-- THE TIED CARD OF 'trailheadlaw06.HeaderUnlike'. -/
def headerUnlikeCard : Claim7 := { stood := { row := headerUnlikeRow, standIns := [], harness := (true, "110706418b44616dcae35370299056c39c791ff16818ef3073ad213ee367f205"), looks := false }, kinds := [], alts := [], laidByText := true, laidKinds := [.data, .data], laidTests := true, laidLooks := .later }
def HeaderUnlikeCardSaid : Prop := Claim7.holds Tryd.pinned (.plain (OpenSpec.ofChange headerUnlikeSpec)) headerUnlikeCard

/-- THE TIED CARD OF 'trailheadlaw06.HeaderMines'. -/
def headerMinesCard : Claim7 := { stood := { row := headerMinesRow, standIns := [], harness := (true, "110706418b44616dcae35370299056c39c791ff16818ef3073ad213ee367f205"), looks := false }, kinds := [], alts := [], laidByText := true, laidKinds := [.data, .data], laidTests := true, laidLooks := .later }
def HeaderMinesCardSaid : Prop := Claim7.holds Tryd.pinned (.plain (OpenSpec.ofChange headerMinesSpec)) headerMinesCard

/-- THE SECOND FORM's CARD OF 'trailheadlaw06.HeaderBytes'. -/
def headerBytesUptoCard : Claim7 := { stood := { row := headerBytesUptoRow, standIns := [], harness := (true, "110706418b44616dcae35370299056c39c791ff16818ef3073ad213ee367f205"), looks := false }, kinds := [], alts := [], laidByText := true, laidKinds := [.data, .data], laidTests := true, laidLooks := .later }
def HeaderBytesUptoCardSaid : Prop := Claim7.holds Tryd.pinned (.plain (OpenSpec.upto headerBytesSpec)) headerBytesUptoCard

/-- THE SECOND FORM's CARD OF 'trailheadlaw06.HeaderReads'. -/
def headerReadsUptoCard : Claim7 := { stood := { row := headerReadsUptoRow, standIns := [], harness := (true, "110706418b44616dcae35370299056c39c791ff16818ef3073ad213ee367f205"), looks := false }, kinds := [], alts := [], laidByText := true, laidKinds := [.data, .data], laidTests := true, laidLooks := .later }
def HeaderReadsUptoCardSaid : Prop := Claim7.holds Tryd.pinned (.plain (OpenSpec.upto headerReadsSpec)) headerReadsUptoCard

/-- THE SECOND FORM's CARD OF 'trailheadlaw06.HeaderFollows'. -/
def headerFollowsUptoCard : Claim7 := { stood := { row := headerFollowsUptoRow, standIns := [], harness := (true, "110706418b44616dcae35370299056c39c791ff16818ef3073ad213ee367f205"), looks := false }, kinds := [], alts := [], laidByText := true, laidKinds := [.data, .data], laidTests := true, laidLooks := .later }
def HeaderFollowsUptoCardSaid : Prop := Claim7.holds Tryd.pinned (.plain (OpenSpec.upto headerFollowsSpec)) headerFollowsUptoCard

/-- THE SECOND FORM's CARD OF 'trailheadlaw06.HeaderSeeks'. -/
def headerSeeksUptoCard : Claim7 := { stood := { row := headerSeeksUptoRow, standIns := [], harness := (true, "110706418b44616dcae35370299056c39c791ff16818ef3073ad213ee367f205"), looks := false }, kinds := [], alts := [], laidByText := true, laidKinds := [.data, .data], laidTests := true, laidLooks := .later }
def HeaderSeeksUptoCardSaid : Prop := Claim7.holds Tryd.pinned (.plain (OpenSpec.upto headerSeeksSpec)) headerSeeksUptoCard

/-- THE SECOND FORM's CARD OF 'trailheadlaw06.HeaderUnlike'. -/
def headerUnlikeUptoCard : Claim7 := { stood := { row := headerUnlikeUptoRow, standIns := [], harness := (true, "110706418b44616dcae35370299056c39c791ff16818ef3073ad213ee367f205"), looks := false }, kinds := [], alts := [], laidByText := true, laidKinds := [.data, .data], laidTests := true, laidLooks := .later }
def HeaderUnlikeUptoCardSaid : Prop := Claim7.holds Tryd.pinned (.plain (OpenSpec.upto headerUnlikeSpec)) headerUnlikeUptoCard

/-- THE SECOND FORM's CARD OF 'trailheadlaw06.HeaderMines'. -/
def headerMinesUptoCard : Claim7 := { stood := { row := headerMinesUptoRow, standIns := [], harness := (true, "110706418b44616dcae35370299056c39c791ff16818ef3073ad213ee367f205"), looks := false }, kinds := [], alts := [], laidByText := true, laidKinds := [.data, .data], laidTests := true, laidLooks := .later }
def HeaderMinesUptoCardSaid : Prop := Claim7.holds Tryd.pinned (.plain (OpenSpec.upto headerMinesSpec)) headerMinesUptoCard
end Rows
end Go.Proofs.YtfnicmmebphpkaaDoor
