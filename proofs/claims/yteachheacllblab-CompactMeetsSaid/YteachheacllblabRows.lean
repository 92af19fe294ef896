/-
  No cell of these rows narrows 'for every input' (looked for: loops, veiled, ifaces, maps, wideKeys, modest, calm, conditions, laid).
  DERIVED. THE GIVEN ROWS OF THIS SEAT. 5 by the template 'for every input the law returns true; each argument reads behind the call as it read before'; 0 by the template 'total and deterministic' (their statements: YteachheacllblabTotals.lean).
  GIVEN WITH THE SEED: the statements are not yours to turn. If you find one false, say at which input.
  Laid BY PROGRAM, IN A SANDBOX (cutbox-rows.mjs): the forced cells as the released guide's own fill.sh prints them over the translation 9e62c619f5f361e3… (all of the seat's roots in one cut). By AI agents, Wed Nov 11 2026. No macro, syntax, notation, axiom, sorry.
-/
import Derived.Test.YteachheacllblabChecked
import GoSem.Claim
import GoSem.ClaimJoined
import GoSem.ClaimMapViews
import Derived.JoinedTies
import Derived.KernelRfl
namespace Go.Proofs.Yteachheacllblab
/- THE CELL 'sum', in the pinned program and in every row, IS THE sha256 OF THE DUMP (.gsa) THAT YteachheacllblabProg.lean LOADS. Nothing in Lean hashes anything: it is a label: what it is worth is what the hold of that sum in a sandbox is worth. -/
noncomputable def Try.pinned : Pinned := { name := "yteachheacllblab", sum := "9e62c619f5f361e3a4fc440d0f33b936f40fde5bf5c9c18b9599eeb690516fee", checked := Try.checked }
namespace Rows
def none {H : Type} : Left H := { results := [], args := [] }

/-- 'trailheadlaw03.CompactEncodes': WHATEVER THE INPUT: true; the input reads as it did. -/
def compactEncodesSpec : ChangeSpec := { name := "compactEncodes", fn := fun _ => fun
  | [d] => { results := [.lit (.bool true)], args := [d] }
  | _ => none }
def compactEncodesRow : OpenClaim := { program := "yteachheacllblab", sum := "9e62c619f5f361e3a4fc440d0f33b936f40fde5bf5c9c18b9599eeb690516fee", func := "trailhead/trailheadlaw03.CompactEncodes", spec := "compactEncodes", apart := false }
def CompactEncodesSaid : Prop := compactEncodesRow.holds Try.pinned (OpenSpec.ofChange compactEncodesSpec)

/-- ITS FALSE NEIGHBOUR: 'it returns false'. Refute it at one input. -/
def compactEncodesWrong : ChangeSpec := { name := "compactEncodes", fn := fun _ => fun
  | [d] => { results := [.lit (.bool false)], args := [d] }
  | _ => none }
def CompactEncodesWrongFalsely : Prop := compactEncodesRow.holds Try.pinned (OpenSpec.ofChange compactEncodesWrong)

/-- 'trailheadlaw03.CompactTargets': WHATEVER THE INPUT: true; the input reads as it did. -/
def compactTargetsSpec : ChangeSpec := { name := "compactTargets", fn := fun _ => fun
  | [d1, d2] => { results := [.lit (.bool true)], args := [d1, d2] }
  | _ => none }
def compactTargetsRow : OpenClaim := { program := "yteachheacllblab", sum := "9e62c619f5f361e3a4fc440d0f33b936f40fde5bf5c9c18b9599eeb690516fee", func := "trailhead/trailheadlaw03.CompactTargets", spec := "compactTargets", apart := false }
def CompactTargetsSaid : Prop := compactTargetsRow.holds Try.pinned (OpenSpec.ofChange compactTargetsSpec)

/-- ITS FALSE NEIGHBOUR: 'it returns false'. Refute it at one input. -/
def compactTargetsWrong : ChangeSpec := { name := "compactTargets", fn := fun _ => fun
  | [d1, d2] => { results := [.lit (.bool false)], args := [d1, d2] }
  | _ => none }
def CompactTargetsWrongFalsely : Prop := compactTargetsRow.holds Try.pinned (OpenSpec.ofChange compactTargetsWrong)

/-- 'trailheadlaw03.CompactMeets': WHATEVER THE INPUT: true; the input reads as it did. -/
def compactMeetsSpec : ChangeSpec := { name := "compactMeets", fn := fun _ => fun
  | [d1, d2, d3] => { results := [.lit (.bool true)], args := [d1, d2, d3] }
  | _ => none }
def compactMeetsRow : OpenClaim := { program := "yteachheacllblab", sum := "9e62c619f5f361e3a4fc440d0f33b936f40fde5bf5c9c18b9599eeb690516fee", func := "trailhead/trailheadlaw03.CompactMeets", spec := "compactMeets", apart := false }
def CompactMeetsSaid : Prop := compactMeetsRow.holds Try.pinned (OpenSpec.ofChange compactMeetsSpec)

/-- ITS FALSE NEIGHBOUR: 'it returns false'. Refute it at one input. -/
def compactMeetsWrong : ChangeSpec := { name := "compactMeets", fn := fun _ => fun
  | [d1, d2, d3] => { results := [.lit (.bool false)], args := [d1, d2, d3] }
  | _ => none }
def CompactMeetsWrongFalsely : Prop := compactMeetsRow.holds Try.pinned (OpenSpec.ofChange compactMeetsWrong)

/-- 'trailheadlaw03.CompactOrder': WHATEVER THE INPUT: true; the input reads as it did. -/
def compactOrderSpec : ChangeSpec := { name := "compactOrder", fn := fun _ => fun
  | [d1, d2] => { results := [.lit (.bool true)], args := [d1, d2] }
  | _ => none }
def compactOrderRow : OpenClaim := { program := "yteachheacllblab", sum := "9e62c619f5f361e3a4fc440d0f33b936f40fde5bf5c9c18b9599eeb690516fee", func := "trailhead/trailheadlaw03.CompactOrder", spec := "compactOrder", apart := false }
def CompactOrderSaid : Prop := compactOrderRow.holds Try.pinned (OpenSpec.ofChange compactOrderSpec)

/-- ITS FALSE NEIGHBOUR: 'it returns false'. Refute it at one input. -/
def compactOrderWrong : ChangeSpec := { name := "compactOrder", fn := fun _ => fun
  | [d1, d2] => { results := [.lit (.bool false)], args := [d1, d2] }
  | _ => none }
def CompactOrderWrongFalsely : Prop := compactOrderRow.holds Try.pinned (OpenSpec.ofChange compactOrderWrong)

/-- 'trailheadlaw03.CompactSmall': WHATEVER THE INPUT: true; the input reads as it did. -/
def compactSmallSpec : ChangeSpec := { name := "compactSmall", fn := fun _ => fun
  | [d1, d2] => { results := [.lit (.bool true)], args := [d1, d2] }
  | _ => none }
def compactSmallRow : OpenClaim := { program := "yteachheacllblab", sum := "9e62c619f5f361e3a4fc440d0f33b936f40fde5bf5c9c18b9599eeb690516fee", func := "trailhead/trailheadlaw03.CompactSmall", spec := "compactSmall", apart := false }
def CompactSmallSaid : Prop := compactSmallRow.holds Try.pinned (OpenSpec.ofChange compactSmallSpec)

/-- ITS FALSE NEIGHBOUR: 'it returns false'. Refute it at one input. -/
def compactSmallWrong : ChangeSpec := { name := "compactSmall", fn := fun _ => fun
  | [d1, d2] => { results := [.lit (.bool false)], args := [d1, d2] }
  | _ => none }
def CompactSmallWrongFalsely : Prop := compactSmallRow.holds Try.pinned (OpenSpec.ofChange compactSmallWrong)

/- THE SECOND FORM. 'bulk': how many values and letters a reading holds, each counted each time it is reached (what is shared counts as often as it is met; a slice's spare places count too). A statement '..UptoSaid' is the law's where the arguments, and the package variables that the reading takes, are together of bulk at most 1048576: NARROWER than '..Said'. Prove '..Said' where nothing that the law and all that it calls make is longer than what came in: it says more and counts as full. Else prove '..UptoSaid'. A law counts once. -/
mutual
def uptoBulk {H : Type} : DataW H → Nat
  | .lit (.string bytes) => bytes.length + 1
  | .lit _ => 1
  | .nil => 1
  | .ptr d => uptoBulk d + 1
  | .slice elems spare => uptoBulkAll elems + uptoBulkAll spare + 1
  | .agg parts => uptoBulkAll parts + 1
  | .iface _ d => uptoBulk d + 1
  | .map entries => uptoBulkEntries entries + 1
  | .held _ => 1
def uptoBulkAll {H : Type} : List (DataW H) → Nat
  | [] => 0
  | d :: r => uptoBulk d + uptoBulkAll r
def uptoBulkEntries {H : Type} : List (Lit × DataW H) → Nat
  | [] => 0
  | x :: r => uptoBulkEntry x + uptoBulkEntries r
def uptoBulkEntry {H : Type} : Lit × DataW H → Nat
  | (.string bytes, d) => bytes.length + uptoBulk d + 1
  | (_, d) => uptoBulk d + 1
 end
def uptoSmall : (H : Type) → List (DataW H) → Bool := fun _ ds => decide (uptoBulkAll ds ≤ 1048576)
def OpenSpec.upto (s : _root_.Go.ChangeSpec) : _root_.Go.OpenSpec := { _root_.Go.OpenSpec.ofChange s with cond := some uptoSmall }

/-- 'trailheadlaw03.CompactEncodes', WHERE WHAT IT READS IS OF BULK AT MOST 1048576: true; the input reads as it did. -/
def compactEncodesUptoRow : OpenClaim := { program := "yteachheacllblab", sum := "9e62c619f5f361e3a4fc440d0f33b936f40fde5bf5c9c18b9599eeb690516fee", func := "trailhead/trailheadlaw03.CompactEncodes", spec := "compactEncodes", apart := false, narrowed := true }
def CompactEncodesUptoSaid : Prop := compactEncodesUptoRow.holds Try.pinned (OpenSpec.upto compactEncodesSpec)

/-- 'trailheadlaw03.CompactTargets', WHERE WHAT IT READS IS OF BULK AT MOST 1048576: true; the input reads as it did. -/
def compactTargetsUptoRow : OpenClaim := { program := "yteachheacllblab", sum := "9e62c619f5f361e3a4fc440d0f33b936f40fde5bf5c9c18b9599eeb690516fee", func := "trailhead/trailheadlaw03.CompactTargets", spec := "compactTargets", apart := false, narrowed := true }
def CompactTargetsUptoSaid : Prop := compactTargetsUptoRow.holds Try.pinned (OpenSpec.upto compactTargetsSpec)

/-- 'trailheadlaw03.CompactMeets', WHERE WHAT IT READS IS OF BULK AT MOST 1048576: true; the input reads as it did. -/
def compactMeetsUptoRow : OpenClaim := { program := "yteachheacllblab", sum := "9e62c619f5f361e3a4fc440d0f33b936f40fde5bf5c9c18b9599eeb690516fee", func := "trailhead/trailheadlaw03.CompactMeets", spec := "compactMeets", apart := false, narrowed := true }
def CompactMeetsUptoSaid : Prop := compactMeetsUptoRow.holds Try.pinned (OpenSpec.upto compactMeetsSpec)

/-- 'trailheadlaw03.CompactOrder', WHERE WHAT IT READS IS OF BULK AT MOST 1048576: true; the input reads as it did. -/
def compactOrderUptoRow : OpenClaim := { program := "yteachheacllblab", sum := "9e62c619f5f361e3a4fc440d0f33b936f40fde5bf5c9c18b9599eeb690516fee", func := "trailhead/trailheadlaw03.CompactOrder", spec := "compactOrder", apart := false, narrowed := true }
def CompactOrderUptoSaid : Prop := compactOrderUptoRow.holds Try.pinned (OpenSpec.upto compactOrderSpec)

/-- 'trailheadlaw03.CompactSmall', WHERE WHAT IT READS IS OF BULK AT MOST 1048576: true; the input reads as it did. -/
def compactSmallUptoRow : OpenClaim := { program := "yteachheacllblab", sum := "9e62c619f5f361e3a4fc440d0f33b936f40fde5bf5c9c18b9599eeb690516fee", func := "trailhead/trailheadlaw03.CompactSmall", spec := "compactSmall", apart := false, narrowed := true }
def CompactSmallUptoSaid : Prop := compactSmallUptoRow.holds Try.pinned (OpenSpec.upto compactSmallSpec)

end Rows
end Go.Proofs.Yteachheacllblab
