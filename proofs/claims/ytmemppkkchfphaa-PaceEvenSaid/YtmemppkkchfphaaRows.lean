/-
  No cell of these rows narrows 'for every input' (looked for: loops, veiled, ifaces, maps, wideKeys, modest, calm, conditions, laid).
  DERIVED. THE GIVEN ROWS OF THIS SEAT. 5 by the template 'for every input the law returns true; each argument reads behind the call as it read before'; 0 by the template 'total and deterministic' (their statements: YtmemppkkchfphaaTotals.lean).
  GIVEN WITH THE SEED: the statements are not yours to turn. If you find one false, say at which input.
  Laid BY PROGRAM, IN A SANDBOX (cutbox-rows.mjs): the forced cells as the released guide's own fill.sh prints them over the translation 2b500e146c392c0a… (all of the seat's roots in one cut). By AI agents, Wed Nov 11 2026. No macro, syntax, notation, axiom, sorry.
-/
import Derived.Test.YtmemppkkchfphaaChecked
import GoSem.Claim
import GoSem.ClaimJoined
import GoSem.ClaimMapViews
import Derived.JoinedTies
import Derived.KernelRfl
namespace Go.Proofs.Ytmemppkkchfphaa
/- THE CELL 'sum', in the pinned program and in every row, IS THE sha256 OF THE DUMP (.gsa) THAT YtmemppkkchfphaaProg.lean LOADS. Nothing in Lean hashes anything: it is a label: what it is worth is what the hold of that sum in a sandbox is worth. -/
noncomputable def Try.pinned : Pinned := { name := "ytmemppkkchfphaa", sum := "2b500e146c392c0a6efe7c12044b96fbe2b655c5b3860683e3df658d143198c4", checked := Try.checked }
namespace Rows
def none {H : Type} : Left H := { results := [], args := [] }

/-- 'trailheadlaw10.PaceSlower': WHATEVER THE INPUT: true; the input reads as it did. -/
def paceSlowerSpec : ChangeSpec := { name := "paceSlower", fn := fun _ => fun
  | [d1, d2, d3, d4] => { results := [.lit (.bool true)], args := [d1, d2, d3, d4] }
  | _ => none }
def paceSlowerRow : OpenClaim := { program := "ytmemppkkchfphaa", sum := "2b500e146c392c0a6efe7c12044b96fbe2b655c5b3860683e3df658d143198c4", func := "trailhead/trailheadlaw10.PaceSlower", spec := "paceSlower", inPlace := ["math/bits.Add64"], named := ["math/bits.divideError", "math/bits.overflowError"], apart := false }
def PaceSlowerSaid : Prop := paceSlowerRow.holds Try.pinned (OpenSpec.ofChange paceSlowerSpec)

/-- ITS FALSE NEIGHBOUR: 'it returns false'. Refute it at one input. -/
def paceSlowerWrong : ChangeSpec := { name := "paceSlower", fn := fun _ => fun
  | [d1, d2, d3, d4] => { results := [.lit (.bool false)], args := [d1, d2, d3, d4] }
  | _ => none }
def PaceSlowerWrongFalsely : Prop := paceSlowerRow.holds Try.pinned (OpenSpec.ofChange paceSlowerWrong)

/-- 'trailheadlaw10.PaceEven': WHATEVER THE INPUT: true; the input reads as it did. -/
def paceEvenSpec : ChangeSpec := { name := "paceEven", fn := fun _ => fun
  | [d1, d2, d3, d4] => { results := [.lit (.bool true)], args := [d1, d2, d3, d4] }
  | _ => none }
def paceEvenRow : OpenClaim := { program := "ytmemppkkchfphaa", sum := "2b500e146c392c0a6efe7c12044b96fbe2b655c5b3860683e3df658d143198c4", func := "trailhead/trailheadlaw10.PaceEven", spec := "paceEven", inPlace := ["math/bits.Add64"], named := ["math/bits.divideError", "math/bits.overflowError"], apart := false }
def PaceEvenSaid : Prop := paceEvenRow.holds Try.pinned (OpenSpec.ofChange paceEvenSpec)

/-- ITS FALSE NEIGHBOUR: 'it returns false'. Refute it at one input. -/
def paceEvenWrong : ChangeSpec := { name := "paceEven", fn := fun _ => fun
  | [d1, d2, d3, d4] => { results := [.lit (.bool false)], args := [d1, d2, d3, d4] }
  | _ => none }
def PaceEvenWrongFalsely : Prop := paceEvenRow.holds Try.pinned (OpenSpec.ofChange paceEvenWrong)

/-- 'trailheadlaw10.PaceBounds': WHATEVER THE INPUT: true; the input reads as it did. -/
def paceBoundsSpec : ChangeSpec := { name := "paceBounds", fn := fun _ => fun
  | [d1, d2, d3, d4] => { results := [.lit (.bool true)], args := [d1, d2, d3, d4] }
  | _ => none }
def paceBoundsRow : OpenClaim := { program := "ytmemppkkchfphaa", sum := "2b500e146c392c0a6efe7c12044b96fbe2b655c5b3860683e3df658d143198c4", func := "trailhead/trailheadlaw10.PaceBounds", spec := "paceBounds", inPlace := ["math/bits.Add64"], named := ["math/bits.divideError", "math/bits.overflowError"], apart := false }
def PaceBoundsSaid : Prop := paceBoundsRow.holds Try.pinned (OpenSpec.ofChange paceBoundsSpec)

/-- ITS FALSE NEIGHBOUR: 'it returns false'. Refute it at one input. -/
def paceBoundsWrong : ChangeSpec := { name := "paceBounds", fn := fun _ => fun
  | [d1, d2, d3, d4] => { results := [.lit (.bool false)], args := [d1, d2, d3, d4] }
  | _ => none }
def PaceBoundsWrongFalsely : Prop := paceBoundsRow.holds Try.pinned (OpenSpec.ofChange paceBoundsWrong)

/-- 'trailheadlaw10.PaceStarts': WHATEVER THE INPUT: true; the input reads as it did. -/
def paceStartsSpec : ChangeSpec := { name := "paceStarts", fn := fun _ => fun
  | [d1, d2] => { results := [.lit (.bool true)], args := [d1, d2] }
  | _ => none }
def paceStartsRow : OpenClaim := { program := "ytmemppkkchfphaa", sum := "2b500e146c392c0a6efe7c12044b96fbe2b655c5b3860683e3df658d143198c4", func := "trailhead/trailheadlaw10.PaceStarts", spec := "paceStarts", inPlace := ["math/bits.Add64"], named := ["math/bits.divideError", "math/bits.overflowError"], apart := false }
def PaceStartsSaid : Prop := paceStartsRow.holds Try.pinned (OpenSpec.ofChange paceStartsSpec)

/-- ITS FALSE NEIGHBOUR: 'it returns false'. Refute it at one input. -/
def paceStartsWrong : ChangeSpec := { name := "paceStarts", fn := fun _ => fun
  | [d1, d2] => { results := [.lit (.bool false)], args := [d1, d2] }
  | _ => none }
def PaceStartsWrongFalsely : Prop := paceStartsRow.holds Try.pinned (OpenSpec.ofChange paceStartsWrong)

/-- 'trailheadlaw10.PaceSame': WHATEVER THE INPUT: true; the input reads as it did. -/
def paceSameSpec : ChangeSpec := { name := "paceSame", fn := fun _ => fun
  | [d1, d2, d3] => { results := [.lit (.bool true)], args := [d1, d2, d3] }
  | _ => none }
def paceSameRow : OpenClaim := { program := "ytmemppkkchfphaa", sum := "2b500e146c392c0a6efe7c12044b96fbe2b655c5b3860683e3df658d143198c4", func := "trailhead/trailheadlaw10.PaceSame", spec := "paceSame", inPlace := ["math/bits.Add64"], named := ["math/bits.divideError", "math/bits.overflowError"], apart := false }
def PaceSameSaid : Prop := paceSameRow.holds Try.pinned (OpenSpec.ofChange paceSameSpec)

/-- ITS FALSE NEIGHBOUR: 'it returns false'. Refute it at one input. -/
def paceSameWrong : ChangeSpec := { name := "paceSame", fn := fun _ => fun
  | [d1, d2, d3] => { results := [.lit (.bool false)], args := [d1, d2, d3] }
  | _ => none }
def PaceSameWrongFalsely : Prop := paceSameRow.holds Try.pinned (OpenSpec.ofChange paceSameWrong)

/- THE SECOND FORM. 'bulk': how many values and letters a reading holds, each counted each time it is reached (what is shared counts as often as it is met; a slice's spare places count too). A statement '..UptoSaid' is the law's where the arguments, and the package variables that the reading takes, are together of bulk at most 1048576: NARROWER than '..Said'. Prove '..Said' where nothing that the law and all that it calls make is longer than what came in: it says more and counts as full. Else prove '..UptoSaid'. A law counts once. -/
mutual
def uptoBulk {H : Type} : DataW H → Nat
  | .lit (.string bytes) => bytes.length + 1
  | .lit _ => 1
  | .nil => 1
  | .ptr d => uptoBulk d + 1
  | .slice elems spare => uptoBulkAll elems + uptoBulkAll spare + 1
  | .agg parts => uptoBulkAll parts + 1
  | .iface _ d => uptoBulk d + 1
  | .map entries => uptoBulkEntries entries + 1
  | .held _ => 1
def uptoBulkAll {H : Type} : List (DataW H) → Nat
  | [] => 0
  | d :: r => uptoBulk d + uptoBulkAll r
def uptoBulkEntries {H : Type} : List (Lit × DataW H) → Nat
  | [] => 0
  | x :: r => uptoBulkEntry x + uptoBulkEntries r
def uptoBulkEntry {H : Type} : Lit × DataW H → Nat
  | (.string bytes, d) => bytes.length + uptoBulk d + 1
  | (_, d) => uptoBulk d + 1
 end
def uptoSmall : (H : Type) → List (DataW H) → Bool := fun _ ds => decide (uptoBulkAll ds ≤ 1048576)
def OpenSpec.upto (s : _root_.Go.ChangeSpec) : _root_.Go.OpenSpec := { _root_.Go.OpenSpec.ofChange s with cond := some uptoSmall }

/-- 'trailheadlaw10.PaceSlower', WHERE WHAT IT READS IS OF BULK AT MOST 1048576: true; the input reads as it did. -/
def paceSlowerUptoRow : OpenClaim := { program := "ytmemppkkchfphaa", sum := "2b500e146c392c0a6efe7c12044b96fbe2b655c5b3860683e3df658d143198c4", func := "trailhead/trailheadlaw10.PaceSlower", spec := "paceSlower", inPlace := ["math/bits.Add64"], named := ["math/bits.divideError", "math/bits.overflowError"], apart := false, narrowed := true }
def PaceSlowerUptoSaid : Prop := paceSlowerUptoRow.holds Try.pinned (OpenSpec.upto paceSlowerSpec)

/-- 'trailheadlaw10.PaceEven', WHERE WHAT IT READS IS OF BULK AT MOST 1048576: true; the input reads as it did. -/
def paceEvenUptoRow : OpenClaim := { program := "ytmemppkkchfphaa", sum := "2b500e146c392c0a6efe7c12044b96fbe2b655c5b3860683e3df658d143198c4", func := "trailhead/trailheadlaw10.PaceEven", spec := "paceEven", inPlace := ["math/bits.Add64"], named := ["math/bits.divideError", "math/bits.overflowError"], apart := false, narrowed := true }
def PaceEvenUptoSaid : Prop := paceEvenUptoRow.holds Try.pinned (OpenSpec.upto paceEvenSpec)

/-- 'trailheadlaw10.PaceBounds', WHERE WHAT IT READS IS OF BULK AT MOST 1048576: true; the input reads as it did. -/
def paceBoundsUptoRow : OpenClaim := { program := "ytmemppkkchfphaa", sum := "2b500e146c392c0a6efe7c12044b96fbe2b655c5b3860683e3df658d143198c4", func := "trailhead/trailheadlaw10.PaceBounds", spec := "paceBounds", inPlace := ["math/bits.Add64"], named := ["math/bits.divideError", "math/bits.overflowError"], apart := false, narrowed := true }
def PaceBoundsUptoSaid : Prop := paceBoundsUptoRow.holds Try.pinned (OpenSpec.upto paceBoundsSpec)

/-- 'trailheadlaw10.PaceStarts', WHERE WHAT IT READS IS OF BULK AT MOST 1048576: true; the input reads as it did. -/
def paceStartsUptoRow : OpenClaim := { program := "ytmemppkkchfphaa", sum := "2b500e146c392c0a6efe7c12044b96fbe2b655c5b3860683e3df658d143198c4", func := "trailhead/trailheadlaw10.PaceStarts", spec := "paceStarts", inPlace := ["math/bits.Add64"], named := ["math/bits.divideError", "math/bits.overflowError"], apart := false, narrowed := true }
def PaceStartsUptoSaid : Prop := paceStartsUptoRow.holds Try.pinned (OpenSpec.upto paceStartsSpec)

/-- 'trailheadlaw10.PaceSame', WHERE WHAT IT READS IS OF BULK AT MOST 1048576: true; the input reads as it did. -/
def paceSameUptoRow : OpenClaim := { program := "ytmemppkkchfphaa", sum := "2b500e146c392c0a6efe7c12044b96fbe2b655c5b3860683e3df658d143198c4", func := "trailhead/trailheadlaw10.PaceSame", spec := "paceSame", inPlace := ["math/bits.Add64"], named := ["math/bits.divideError", "math/bits.overflowError"], apart := false, narrowed := true }
def PaceSameUptoSaid : Prop := paceSameUptoRow.holds Try.pinned (OpenSpec.upto paceSameSpec)

end Rows
end Go.Proofs.Ytmemppkkchfphaa
