/-
  No cell of these rows narrows 'for every input' (looked for: loops, veiled, ifaces, maps, wideKeys, modest, calm, conditions, laid).
  DERIVED. THE GIVEN ROWS OF THIS SEAT. 6 by the template 'for every input the law returns true; each argument reads behind the call as it read before'; 0 by the template 'total and deterministic' (their statements: YtmmpdalemifneaaTotals.lean).
  GIVEN WITH THE SEED: the statements are not yours to turn. If you find one false, say at which input.
  Laid BY PROGRAM, IN A SANDBOX (cutbox-rows.mjs): the forced cells as the released guide's own fill.sh prints them over the translation bd73ff3fe6124da0… (all of the seat's roots in one cut). By AI agents, Wed Nov 11 2026. No macro, syntax, notation, axiom, sorry.
-/
import Derived.Test.YtmmpdalemifneaaChecked
import GoSem.Claim
import GoSem.ClaimJoined
import GoSem.ClaimMapViews
import Derived.JoinedTies
import Derived.KernelRfl
namespace Go.Proofs.Ytmmpdalemifneaa
/- THE CELL 'sum', in the pinned program and in every row, IS THE sha256 OF THE DUMP (.gsa) THAT YtmmpdalemifneaaProg.lean LOADS. Nothing in Lean hashes anything: it is a label: what it is worth is what the hold of that sum in a sandbox is worth. -/
noncomputable def Try.pinned : Pinned := { name := "ytmmpdalemifneaa", sum := "bd73ff3fe6124da0b4c5ed3d3eebb6bea045aedb01274d1b7c2ad81664ce61cf", checked := Try.checked }
namespace Rows
def none {H : Type} : Left H := { results := [], args := [] }

/-- 'trailheadlaw09.MedianOf': WHATEVER THE INPUT: true; the input reads as it did. -/
def medianOfSpec : ChangeSpec := { name := "medianOf", fn := fun _ => fun
  | [d1, d2] => { results := [.lit (.bool true)], args := [d1, d2] }
  | _ => none }
def medianOfRow : OpenClaim := { program := "ytmmpdalemifneaa", sum := "bd73ff3fe6124da0b4c5ed3d3eebb6bea045aedb01274d1b7c2ad81664ce61cf", func := "trailhead/trailheadlaw09.MedianOf", spec := "medianOf", recurses := true, apart := false }
def MedianOfSaid : Prop := medianOfRow.holds Try.pinned (OpenSpec.ofChange medianOfSpec)

/-- ITS FALSE NEIGHBOUR: 'it returns false'. Refute it at one input. -/
def medianOfWrong : ChangeSpec := { name := "medianOf", fn := fun _ => fun
  | [d1, d2] => { results := [.lit (.bool false)], args := [d1, d2] }
  | _ => none }
def MedianOfWrongFalsely : Prop := medianOfRow.holds Try.pinned (OpenSpec.ofChange medianOfWrong)

/-- 'trailheadlaw09.MedianTurned': WHATEVER THE INPUT: true; the input reads as it did. -/
def medianTurnedSpec : ChangeSpec := { name := "medianTurned", fn := fun _ => fun
  | [d1, d2] => { results := [.lit (.bool true)], args := [d1, d2] }
  | _ => none }
def medianTurnedRow : OpenClaim := { program := "ytmmpdalemifneaa", sum := "bd73ff3fe6124da0b4c5ed3d3eebb6bea045aedb01274d1b7c2ad81664ce61cf", func := "trailhead/trailheadlaw09.MedianTurned", spec := "medianTurned", recurses := true, apart := false }
def MedianTurnedSaid : Prop := medianTurnedRow.holds Try.pinned (OpenSpec.ofChange medianTurnedSpec)

/-- ITS FALSE NEIGHBOUR: 'it returns false'. Refute it at one input. -/
def medianTurnedWrong : ChangeSpec := { name := "medianTurned", fn := fun _ => fun
  | [d1, d2] => { results := [.lit (.bool false)], args := [d1, d2] }
  | _ => none }
def MedianTurnedWrongFalsely : Prop := medianTurnedRow.holds Try.pinned (OpenSpec.ofChange medianTurnedWrong)

/-- 'trailheadlaw09.MedianWindow': WHATEVER THE INPUT: true; the input reads as it did. -/
def medianWindowSpec : ChangeSpec := { name := "medianWindow", fn := fun _ => fun
  | [d1, d2] => { results := [.lit (.bool true)], args := [d1, d2] }
  | _ => none }
def medianWindowRow : OpenClaim := { program := "ytmmpdalemifneaa", sum := "bd73ff3fe6124da0b4c5ed3d3eebb6bea045aedb01274d1b7c2ad81664ce61cf", func := "trailhead/trailheadlaw09.MedianWindow", spec := "medianWindow", recurses := true, apart := false }
def MedianWindowSaid : Prop := medianWindowRow.holds Try.pinned (OpenSpec.ofChange medianWindowSpec)

/-- ITS FALSE NEIGHBOUR: 'it returns false'. Refute it at one input. -/
def medianWindowWrong : ChangeSpec := { name := "medianWindow", fn := fun _ => fun
  | [d1, d2] => { results := [.lit (.bool false)], args := [d1, d2] }
  | _ => none }
def MedianWindowWrongFalsely : Prop := medianWindowRow.holds Try.pinned (OpenSpec.ofChange medianWindowWrong)

/-- 'trailheadlaw09.MedianNear': WHATEVER THE INPUT: true; the input reads as it did. -/
def medianNearSpec : ChangeSpec := { name := "medianNear", fn := fun _ => fun
  | [d1, d2, d3] => { results := [.lit (.bool true)], args := [d1, d2, d3] }
  | _ => none }
def medianNearRow : OpenClaim := { program := "ytmmpdalemifneaa", sum := "bd73ff3fe6124da0b4c5ed3d3eebb6bea045aedb01274d1b7c2ad81664ce61cf", func := "trailhead/trailheadlaw09.MedianNear", spec := "medianNear", recurses := true, apart := false }
def MedianNearSaid : Prop := medianNearRow.holds Try.pinned (OpenSpec.ofChange medianNearSpec)

/-- ITS FALSE NEIGHBOUR: 'it returns false'. Refute it at one input. -/
def medianNearWrong : ChangeSpec := { name := "medianNear", fn := fun _ => fun
  | [d1, d2, d3] => { results := [.lit (.bool false)], args := [d1, d2, d3] }
  | _ => none }
def MedianNearWrongFalsely : Prop := medianNearRow.holds Try.pinned (OpenSpec.ofChange medianNearWrong)

/-- 'trailheadlaw09.MedianAmong': WHATEVER THE INPUT: true; the input reads as it did. -/
def medianAmongSpec : ChangeSpec := { name := "medianAmong", fn := fun _ => fun
  | [d] => { results := [.lit (.bool true)], args := [d] }
  | _ => none }
def medianAmongRow : OpenClaim := { program := "ytmmpdalemifneaa", sum := "bd73ff3fe6124da0b4c5ed3d3eebb6bea045aedb01274d1b7c2ad81664ce61cf", func := "trailhead/trailheadlaw09.MedianAmong", spec := "medianAmong", recurses := true, apart := false }
def MedianAmongSaid : Prop := medianAmongRow.holds Try.pinned (OpenSpec.ofChange medianAmongSpec)

/-- ITS FALSE NEIGHBOUR: 'it returns false'. Refute it at one input. -/
def medianAmongWrong : ChangeSpec := { name := "medianAmong", fn := fun _ => fun
  | [d] => { results := [.lit (.bool false)], args := [d] }
  | _ => none }
def MedianAmongWrongFalsely : Prop := medianAmongRow.holds Try.pinned (OpenSpec.ofChange medianAmongWrong)

/-- 'trailheadlaw09.MedianOne': WHATEVER THE INPUT: true; the input reads as it did. -/
def medianOneSpec : ChangeSpec := { name := "medianOne", fn := fun _ => fun
  | [d1, d2] => { results := [.lit (.bool true)], args := [d1, d2] }
  | _ => none }
def medianOneRow : OpenClaim := { program := "ytmmpdalemifneaa", sum := "bd73ff3fe6124da0b4c5ed3d3eebb6bea045aedb01274d1b7c2ad81664ce61cf", func := "trailhead/trailheadlaw09.MedianOne", spec := "medianOne", recurses := true, apart := false }
def MedianOneSaid : Prop := medianOneRow.holds Try.pinned (OpenSpec.ofChange medianOneSpec)

/-- ITS FALSE NEIGHBOUR: 'it returns false'. Refute it at one input. -/
def medianOneWrong : ChangeSpec := { name := "medianOne", fn := fun _ => fun
  | [d1, d2] => { results := [.lit (.bool false)], args := [d1, d2] }
  | _ => none }
def MedianOneWrongFalsely : Prop := medianOneRow.holds Try.pinned (OpenSpec.ofChange medianOneWrong)

/- THE SECOND FORM. 'bulk': how many values and letters a reading holds, each counted each time it is reached (what is shared counts as often as it is met; a slice's spare places count too). A statement '..UptoSaid' is the law's where the arguments, and the package variables that the reading takes, are together of bulk at most 1048576: NARROWER than '..Said'. Prove '..Said' where nothing that the law and all that it calls make is longer than what came in: it says more and counts as full. Else prove '..UptoSaid'. A law counts once. -/
mutual
def uptoBulk {H : Type} : DataW H → Nat
  | .lit (.string bytes) => bytes.length + 1
  | .lit _ => 1
  | .nil => 1
  | .ptr d => uptoBulk d + 1
  | .slice elems spare => uptoBulkAll elems + uptoBulkAll spare + 1
  | .agg parts => uptoBulkAll parts + 1
  | .iface _ d => uptoBulk d + 1
  | .map entries => uptoBulkEntries entries + 1
  | .held _ => 1
def uptoBulkAll {H : Type} : List (DataW H) → Nat
  | [] => 0
  | d :: r => uptoBulk d + uptoBulkAll r
def uptoBulkEntries {H : Type} : List (Lit × DataW H) → Nat
  | [] => 0
  | x :: r => uptoBulkEntry x + uptoBulkEntries r
def uptoBulkEntry {H : Type} : Lit × DataW H → Nat
  | (.string bytes, d) => bytes.length + uptoBulk d + 1
  | (_, d) => uptoBulk d + 1
 end
def uptoSmall : (H : Type) → List (DataW H) → Bool := fun _ ds => decide (uptoBulkAll ds ≤ 1048576)
def OpenSpec.upto (s : _root_.Go.ChangeSpec) : _root_.Go.OpenSpec := { _root_.Go.OpenSpec.ofChange s with cond := some uptoSmall }

/-- 'trailheadlaw09.MedianOf', WHERE WHAT IT READS IS OF BULK AT MOST 1048576: true; the input reads as it did. -/
def medianOfUptoRow : OpenClaim := { program := "ytmmpdalemifneaa", sum := "bd73ff3fe6124da0b4c5ed3d3eebb6bea045aedb01274d1b7c2ad81664ce61cf", func := "trailhead/trailheadlaw09.MedianOf", spec := "medianOf", recurses := true, apart := false, narrowed := true }
def MedianOfUptoSaid : Prop := medianOfUptoRow.holds Try.pinned (OpenSpec.upto medianOfSpec)

/-- 'trailheadlaw09.MedianTurned', WHERE WHAT IT READS IS OF BULK AT MOST 1048576: true; the input reads as it did. -/
def medianTurnedUptoRow : OpenClaim := { program := "ytmmpdalemifneaa", sum := "bd73ff3fe6124da0b4c5ed3d3eebb6bea045aedb01274d1b7c2ad81664ce61cf", func := "trailhead/trailheadlaw09.MedianTurned", spec := "medianTurned", recurses := true, apart := false, narrowed := true }
def MedianTurnedUptoSaid : Prop := medianTurnedUptoRow.holds Try.pinned (OpenSpec.upto medianTurnedSpec)

/-- 'trailheadlaw09.MedianWindow', WHERE WHAT IT READS IS OF BULK AT MOST 1048576: true; the input reads as it did. -/
def medianWindowUptoRow : OpenClaim := { program := "ytmmpdalemifneaa", sum := "bd73ff3fe6124da0b4c5ed3d3eebb6bea045aedb01274d1b7c2ad81664ce61cf", func := "trailhead/trailheadlaw09.MedianWindow", spec := "medianWindow", recurses := true, apart := false, narrowed := true }
def MedianWindowUptoSaid : Prop := medianWindowUptoRow.holds Try.pinned (OpenSpec.upto medianWindowSpec)

/-- 'trailheadlaw09.MedianNear', WHERE WHAT IT READS IS OF BULK AT MOST 1048576: true; the input reads as it did. -/
def medianNearUptoRow : OpenClaim := { program := "ytmmpdalemifneaa", sum := "bd73ff3fe6124da0b4c5ed3d3eebb6bea045aedb01274d1b7c2ad81664ce61cf", func := "trailhead/trailheadlaw09.MedianNear", spec := "medianNear", recurses := true, apart := false, narrowed := true }
def MedianNearUptoSaid : Prop := medianNearUptoRow.holds Try.pinned (OpenSpec.upto medianNearSpec)

/-- 'trailheadlaw09.MedianAmong', WHERE WHAT IT READS IS OF BULK AT MOST 1048576: true; the input reads as it did. -/
def medianAmongUptoRow : OpenClaim := { program := "ytmmpdalemifneaa", sum := "bd73ff3fe6124da0b4c5ed3d3eebb6bea045aedb01274d1b7c2ad81664ce61cf", func := "trailhead/trailheadlaw09.MedianAmong", spec := "medianAmong", recurses := true, apart := false, narrowed := true }
def MedianAmongUptoSaid : Prop := medianAmongUptoRow.holds Try.pinned (OpenSpec.upto medianAmongSpec)

/-- 'trailheadlaw09.MedianOne', WHERE WHAT IT READS IS OF BULK AT MOST 1048576: true; the input reads as it did. -/
def medianOneUptoRow : OpenClaim := { program := "ytmmpdalemifneaa", sum := "bd73ff3fe6124da0b4c5ed3d3eebb6bea045aedb01274d1b7c2ad81664ce61cf", func := "trailhead/trailheadlaw09.MedianOne", spec := "medianOne", recurses := true, apart := false, narrowed := true }
def MedianOneUptoSaid : Prop := medianOneUptoRow.holds Try.pinned (OpenSpec.upto medianOneSpec)

end Rows
end Go.Proofs.Ytmmpdalemifneaa
