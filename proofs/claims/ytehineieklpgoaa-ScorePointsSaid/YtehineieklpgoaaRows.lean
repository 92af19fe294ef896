/-
  No cell of these rows narrows 'for every input' (looked for: loops, veiled, ifaces, maps, wideKeys, modest, calm, conditions, laid).
  DERIVED. THE GIVEN ROWS OF THIS SEAT. 4 by the template 'for every input the law returns true; each argument reads behind the call as it read before'; 0 by the template 'total and deterministic' (their statements: YtehineieklpgoaaTotals.lean).
  GIVEN WITH THE SEED: the statements are not yours to turn. If you find one false, say at which input.
  Laid BY PROGRAM, IN A SANDBOX (cutbox-rows.mjs): the forced cells as the released guide's own fill.sh prints them over the translation 07db8f11e5685d8d… (all of the seat's roots in one cut). By AI agents, Wed Nov 11 2026. No macro, syntax, notation, axiom, sorry.
-/
import Derived.Test.YtehineieklpgoaaChecked
import GoSem.Claim
import GoSem.ClaimJoined
import GoSem.ClaimMapViews
import Derived.JoinedTies
import Derived.KernelRfl
namespace Go.Proofs.Ytehineieklpgoaa
/- THE CELL 'sum', in the pinned program and in every row, IS THE sha256 OF THE DUMP (.gsa) THAT YtehineieklpgoaaProg.lean LOADS. Nothing in Lean hashes anything: it is a label: what it is worth is what the hold of that sum in a sandbox is worth. -/
noncomputable def Try.pinned : Pinned := { name := "ytehineieklpgoaa", sum := "07db8f11e5685d8d41df240e14c0a7bf1d331f67bdd01f0ac00561cb98fcb932", checked := Try.checked }
namespace Rows
def none {H : Type} : Left H := { results := [], args := [] }

/-- 'trailheadlaw20.ScoreDoes': WHATEVER THE INPUT: true; the input reads as it did. -/
def scoreDoesSpec : ChangeSpec := { name := "scoreDoes", fn := fun _ => fun
  | [d1, d2] => { results := [.lit (.bool true)], args := [d1, d2] }
  | _ => none }
def scoreDoesRow : OpenClaim := { program := "ytehineieklpgoaa", sum := "07db8f11e5685d8d41df240e14c0a7bf1d331f67bdd01f0ac00561cb98fcb932", func := "trailhead/trailheadlaw20.ScoreDoes", spec := "scoreDoes", apart := false }
def ScoreDoesSaid : Prop := scoreDoesRow.holds Try.pinned (OpenSpec.ofChange scoreDoesSpec)

/-- ITS FALSE NEIGHBOUR: 'it returns false'. Refute it at one input. -/
def scoreDoesWrong : ChangeSpec := { name := "scoreDoes", fn := fun _ => fun
  | [d1, d2] => { results := [.lit (.bool false)], args := [d1, d2] }
  | _ => none }
def ScoreDoesWrongFalsely : Prop := scoreDoesRow.holds Try.pinned (OpenSpec.ofChange scoreDoesWrong)

/-- 'trailheadlaw20.ScoreApart': WHATEVER THE INPUT: true; the input reads as it did. -/
def scoreApartSpec : ChangeSpec := { name := "scoreApart", fn := fun _ => fun
  | [d1, d2] => { results := [.lit (.bool true)], args := [d1, d2] }
  | _ => none }
def scoreApartRow : OpenClaim := { program := "ytehineieklpgoaa", sum := "07db8f11e5685d8d41df240e14c0a7bf1d331f67bdd01f0ac00561cb98fcb932", func := "trailhead/trailheadlaw20.ScoreApart", spec := "scoreApart", apart := false }
def ScoreApartSaid : Prop := scoreApartRow.holds Try.pinned (OpenSpec.ofChange scoreApartSpec)

/-- ITS FALSE NEIGHBOUR: 'it returns false'. Refute it at one input. -/
def scoreApartWrong : ChangeSpec := { name := "scoreApart", fn := fun _ => fun
  | [d1, d2] => { results := [.lit (.bool false)], args := [d1, d2] }
  | _ => none }
def ScoreApartWrongFalsely : Prop := scoreApartRow.holds Try.pinned (OpenSpec.ofChange scoreApartWrong)

/-- 'trailheadlaw20.ScoreRow': WHATEVER THE INPUT: true; the input reads as it did. -/
def scoreRowSpec : ChangeSpec := { name := "scoreRow", fn := fun _ => fun
  | [d] => { results := [.lit (.bool true)], args := [d] }
  | _ => none }
def scoreRowRow : OpenClaim := { program := "ytehineieklpgoaa", sum := "07db8f11e5685d8d41df240e14c0a7bf1d331f67bdd01f0ac00561cb98fcb932", func := "trailhead/trailheadlaw20.ScoreRow", spec := "scoreRow", apart := false }
def ScoreRowSaid : Prop := scoreRowRow.holds Try.pinned (OpenSpec.ofChange scoreRowSpec)

/-- ITS FALSE NEIGHBOUR: 'it returns false'. Refute it at one input. -/
def scoreRowWrong : ChangeSpec := { name := "scoreRow", fn := fun _ => fun
  | [d] => { results := [.lit (.bool false)], args := [d] }
  | _ => none }
def ScoreRowWrongFalsely : Prop := scoreRowRow.holds Try.pinned (OpenSpec.ofChange scoreRowWrong)

/-- 'trailheadlaw20.ScorePoints': WHATEVER THE INPUT: true; the input reads as it did. -/
def scorePointsSpec : ChangeSpec := { name := "scorePoints", fn := fun _ => fun
  | [d1, d2] => { results := [.lit (.bool true)], args := [d1, d2] }
  | _ => none }
def scorePointsRow : OpenClaim := { program := "ytehineieklpgoaa", sum := "07db8f11e5685d8d41df240e14c0a7bf1d331f67bdd01f0ac00561cb98fcb932", func := "trailhead/trailheadlaw20.ScorePoints", spec := "scorePoints", apart := false }
def ScorePointsSaid : Prop := scorePointsRow.holds Try.pinned (OpenSpec.ofChange scorePointsSpec)

/-- ITS FALSE NEIGHBOUR: 'it returns false'. Refute it at one input. -/
def scorePointsWrong : ChangeSpec := { name := "scorePoints", fn := fun _ => fun
  | [d1, d2] => { results := [.lit (.bool false)], args := [d1, d2] }
  | _ => none }
def ScorePointsWrongFalsely : Prop := scorePointsRow.holds Try.pinned (OpenSpec.ofChange scorePointsWrong)

/- THE SECOND FORM. 'bulk': how many values and letters a reading holds, each counted each time it is reached (what is shared counts as often as it is met; a slice's spare places count too). A statement '..UptoSaid' is the law's where the arguments, and the package variables that the reading takes, are together of bulk at most 1048576: NARROWER than '..Said'. Prove '..Said' where nothing that the law and all that it calls make is longer than what came in: it says more and counts as full. Else prove '..UptoSaid'. A law counts once. -/
mutual
def uptoBulk {H : Type} : DataW H → Nat
  | .lit (.string bytes) => bytes.length + 1
  | .lit _ => 1
  | .nil => 1
  | .ptr d => uptoBulk d + 1
  | .slice elems spare => uptoBulkAll elems + uptoBulkAll spare + 1
  | .agg parts => uptoBulkAll parts + 1
  | .iface _ d => uptoBulk d + 1
  | .map entries => uptoBulkEntries entries + 1
  | .held _ => 1
def uptoBulkAll {H : Type} : List (DataW H) → Nat
  | [] => 0
  | d :: r => uptoBulk d + uptoBulkAll r
def uptoBulkEntries {H : Type} : List (Lit × DataW H) → Nat
  | [] => 0
  | x :: r => uptoBulkEntry x + uptoBulkEntries r
def uptoBulkEntry {H : Type} : Lit × DataW H → Nat
  | (.string bytes, d) => bytes.length + uptoBulk d + 1
  | (_, d) => uptoBulk d + 1
 end
def uptoSmall : (H : Type) → List (DataW H) → Bool := fun _ ds => decide (uptoBulkAll ds ≤ 1048576)
def OpenSpec.upto (s : _root_.Go.ChangeSpec) : _root_.Go.OpenSpec := { _root_.Go.OpenSpec.ofChange s with cond := some uptoSmall }

/-- 'trailheadlaw20.ScoreDoes', WHERE WHAT IT READS IS OF BULK AT MOST 1048576: true; the input reads as it did. -/
def scoreDoesUptoRow : OpenClaim := { program := "ytehineieklpgoaa", sum := "07db8f11e5685d8d41df240e14c0a7bf1d331f67bdd01f0ac00561cb98fcb932", func := "trailhead/trailheadlaw20.ScoreDoes", spec := "scoreDoes", apart := false, narrowed := true }
def ScoreDoesUptoSaid : Prop := scoreDoesUptoRow.holds Try.pinned (OpenSpec.upto scoreDoesSpec)

/-- 'trailheadlaw20.ScoreApart', WHERE WHAT IT READS IS OF BULK AT MOST 1048576: true; the input reads as it did. -/
def scoreApartUptoRow : OpenClaim := { program := "ytehineieklpgoaa", sum := "07db8f11e5685d8d41df240e14c0a7bf1d331f67bdd01f0ac00561cb98fcb932", func := "trailhead/trailheadlaw20.ScoreApart", spec := "scoreApart", apart := false, narrowed := true }
def ScoreApartUptoSaid : Prop := scoreApartUptoRow.holds Try.pinned (OpenSpec.upto scoreApartSpec)

/-- 'trailheadlaw20.ScoreRow', WHERE WHAT IT READS IS OF BULK AT MOST 1048576: true; the input reads as it did. -/
def scoreRowUptoRow : OpenClaim := { program := "ytehineieklpgoaa", sum := "07db8f11e5685d8d41df240e14c0a7bf1d331f67bdd01f0ac00561cb98fcb932", func := "trailhead/trailheadlaw20.ScoreRow", spec := "scoreRow", apart := false, narrowed := true }
def ScoreRowUptoSaid : Prop := scoreRowUptoRow.holds Try.pinned (OpenSpec.upto scoreRowSpec)

/-- 'trailheadlaw20.ScorePoints', WHERE WHAT IT READS IS OF BULK AT MOST 1048576: true; the input reads as it did. -/
def scorePointsUptoRow : OpenClaim := { program := "ytehineieklpgoaa", sum := "07db8f11e5685d8d41df240e14c0a7bf1d331f67bdd01f0ac00561cb98fcb932", func := "trailhead/trailheadlaw20.ScorePoints", spec := "scorePoints", apart := false, narrowed := true }
def ScorePointsUptoSaid : Prop := scorePointsUptoRow.holds Try.pinned (OpenSpec.upto scorePointsSpec)

end Rows
end Go.Proofs.Ytehineieklpgoaa
