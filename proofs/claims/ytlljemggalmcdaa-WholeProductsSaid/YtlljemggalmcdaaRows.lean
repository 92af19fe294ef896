/-
  No cell of these rows narrows 'for every input' (looked for: loops, veiled, ifaces, maps, wideKeys, modest, calm, conditions, laid).
  DERIVED. THE GIVEN ROWS OF THIS SEAT. 7 by the template 'for every input the law returns true; each argument reads behind the call as it read before'; 0 by the template 'total and deterministic' (their statements: YtlljemggalmcdaaTotals.lean).
  GIVEN WITH THE SEED: the statements are not yours to turn. If you find one false, say at which input.
  Laid BY PROGRAM, IN A SANDBOX (cutbox-rows.mjs): the forced cells as the released guide's own fill.sh prints them over the translation a03bc0ed8fef9261… (all of the seat's roots in one cut). By AI agents, Wed Nov 11 2026. No macro, syntax, notation, axiom, sorry.
-/
import Derived.Test.YtlljemggalmcdaaChecked
import GoSem.Claim
import GoSem.ClaimJoined
import GoSem.ClaimMapViews
import Derived.JoinedTies
import Derived.KernelRfl
namespace Go.Proofs.Ytlljemggalmcdaa
/- THE CELL 'sum', in the pinned program and in every row, IS THE sha256 OF THE DUMP (.gsa) THAT YtlljemggalmcdaaProg.lean LOADS. Nothing in Lean hashes anything: it is a label: what it is worth is what the hold of that sum in a sandbox is worth. -/
noncomputable def Try.pinned : Pinned := { name := "ytlljemggalmcdaa", sum := "a03bc0ed8fef92618ab9caf93b404349eeded894dda08ae2694d8235f8e49be7", checked := Try.checked }
namespace Rows
def none {H : Type} : Left H := { results := [], args := [] }

/-- 'trailheadlaw02.WholeSums': WHATEVER THE INPUT: true; the input reads as it did. -/
def wholeSumsSpec : ChangeSpec := { name := "wholeSums", fn := fun _ => fun
  | [d1, d2, d3] => { results := [.lit (.bool true)], args := [d1, d2, d3] }
  | _ => none }
def wholeSumsRow : OpenClaim := { program := "ytlljemggalmcdaa", sum := "a03bc0ed8fef92618ab9caf93b404349eeded894dda08ae2694d8235f8e49be7", func := "trailhead/trailheadlaw02.WholeSums", spec := "wholeSums", inPlace := ["math/bits.Add64", "math/bits.Sub64"], apart := false }
def WholeSumsSaid : Prop := wholeSumsRow.holds Try.pinned (OpenSpec.ofChange wholeSumsSpec)

/-- ITS FALSE NEIGHBOUR: 'it returns false'. Refute it at one input. -/
def wholeSumsWrong : ChangeSpec := { name := "wholeSums", fn := fun _ => fun
  | [d1, d2, d3] => { results := [.lit (.bool false)], args := [d1, d2, d3] }
  | _ => none }
def WholeSumsWrongFalsely : Prop := wholeSumsRow.holds Try.pinned (OpenSpec.ofChange wholeSumsWrong)

/-- 'trailheadlaw02.WholeOrder': WHATEVER THE INPUT: true; the input reads as it did. -/
def wholeOrderSpec : ChangeSpec := { name := "wholeOrder", fn := fun _ => fun
  | [d1, d2] => { results := [.lit (.bool true)], args := [d1, d2] }
  | _ => none }
def wholeOrderRow : OpenClaim := { program := "ytlljemggalmcdaa", sum := "a03bc0ed8fef92618ab9caf93b404349eeded894dda08ae2694d8235f8e49be7", func := "trailhead/trailheadlaw02.WholeOrder", spec := "wholeOrder", inPlace := ["math/bits.Add64"], apart := false }
def WholeOrderSaid : Prop := wholeOrderRow.holds Try.pinned (OpenSpec.ofChange wholeOrderSpec)

/-- ITS FALSE NEIGHBOUR: 'it returns false'. Refute it at one input. -/
def wholeOrderWrong : ChangeSpec := { name := "wholeOrder", fn := fun _ => fun
  | [d1, d2] => { results := [.lit (.bool false)], args := [d1, d2] }
  | _ => none }
def WholeOrderWrongFalsely : Prop := wholeOrderRow.holds Try.pinned (OpenSpec.ofChange wholeOrderWrong)

/-- 'trailheadlaw02.WholeMoves': WHATEVER THE INPUT: true; the input reads as it did. -/
def wholeMovesSpec : ChangeSpec := { name := "wholeMoves", fn := fun _ => fun
  | [d1, d2] => { results := [.lit (.bool true)], args := [d1, d2] }
  | _ => none }
def wholeMovesRow : OpenClaim := { program := "ytlljemggalmcdaa", sum := "a03bc0ed8fef92618ab9caf93b404349eeded894dda08ae2694d8235f8e49be7", func := "trailhead/trailheadlaw02.WholeMoves", spec := "wholeMoves", inPlace := ["math/bits.Add64"], apart := false }
def WholeMovesSaid : Prop := wholeMovesRow.holds Try.pinned (OpenSpec.ofChange wholeMovesSpec)

/-- ITS FALSE NEIGHBOUR: 'it returns false'. Refute it at one input. -/
def wholeMovesWrong : ChangeSpec := { name := "wholeMoves", fn := fun _ => fun
  | [d1, d2] => { results := [.lit (.bool false)], args := [d1, d2] }
  | _ => none }
def WholeMovesWrongFalsely : Prop := wholeMovesRow.holds Try.pinned (OpenSpec.ofChange wholeMovesWrong)

/-- 'trailheadlaw02.WholeProducts': WHATEVER THE INPUT: true; the input reads as it did. -/
def wholeProductsSpec : ChangeSpec := { name := "wholeProducts", fn := fun _ => fun
  | [d1, d2] => { results := [.lit (.bool true)], args := [d1, d2] }
  | _ => none }
def wholeProductsRow : OpenClaim := { program := "ytlljemggalmcdaa", sum := "a03bc0ed8fef92618ab9caf93b404349eeded894dda08ae2694d8235f8e49be7", func := "trailhead/trailheadlaw02.WholeProducts", spec := "wholeProducts", inPlace := ["math/bits.Add64"], named := ["math/bits.divideError", "math/bits.overflowError"], apart := false }
def WholeProductsSaid : Prop := wholeProductsRow.holds Try.pinned (OpenSpec.ofChange wholeProductsSpec)

/-- ITS FALSE NEIGHBOUR: 'it returns false'. Refute it at one input. -/
def wholeProductsWrong : ChangeSpec := { name := "wholeProducts", fn := fun _ => fun
  | [d1, d2] => { results := [.lit (.bool false)], args := [d1, d2] }
  | _ => none }
def WholeProductsWrongFalsely : Prop := wholeProductsRow.holds Try.pinned (OpenSpec.ofChange wholeProductsWrong)

/-- 'trailheadlaw02.WholeQuotients': WHATEVER THE INPUT: true; the input reads as it did. -/
def wholeQuotientsSpec : ChangeSpec := { name := "wholeQuotients", fn := fun _ => fun
  | [d1, d2] => { results := [.lit (.bool true)], args := [d1, d2] }
  | _ => none }
def wholeQuotientsRow : OpenClaim := { program := "ytlljemggalmcdaa", sum := "a03bc0ed8fef92618ab9caf93b404349eeded894dda08ae2694d8235f8e49be7", func := "trailhead/trailheadlaw02.WholeQuotients", spec := "wholeQuotients", inPlace := ["math/bits.Add64", "math/bits.Sub64"], apart := false }
def WholeQuotientsSaid : Prop := wholeQuotientsRow.holds Try.pinned (OpenSpec.ofChange wholeQuotientsSpec)

/-- ITS FALSE NEIGHBOUR: 'it returns false'. Refute it at one input. -/
def wholeQuotientsWrong : ChangeSpec := { name := "wholeQuotients", fn := fun _ => fun
  | [d1, d2] => { results := [.lit (.bool false)], args := [d1, d2] }
  | _ => none }
def WholeQuotientsWrongFalsely : Prop := wholeQuotientsRow.holds Try.pinned (OpenSpec.ofChange wholeQuotientsWrong)

/-- 'trailheadlaw02.WholeHashes': WHATEVER THE INPUT: true; the input reads as it did. -/
def wholeHashesSpec : ChangeSpec := { name := "wholeHashes", fn := fun _ => fun
  | [d1, d2] => { results := [.lit (.bool true)], args := [d1, d2] }
  | _ => none }
def wholeHashesRow : OpenClaim := { program := "ytlljemggalmcdaa", sum := "a03bc0ed8fef92618ab9caf93b404349eeded894dda08ae2694d8235f8e49be7", func := "trailhead/trailheadlaw02.WholeHashes", spec := "wholeHashes", inPlace := ["math/bits.Add64"], apart := false }
def WholeHashesSaid : Prop := wholeHashesRow.holds Try.pinned (OpenSpec.ofChange wholeHashesSpec)

/-- ITS FALSE NEIGHBOUR: 'it returns false'. Refute it at one input. -/
def wholeHashesWrong : ChangeSpec := { name := "wholeHashes", fn := fun _ => fun
  | [d1, d2] => { results := [.lit (.bool false)], args := [d1, d2] }
  | _ => none }
def WholeHashesWrongFalsely : Prop := wholeHashesRow.holds Try.pinned (OpenSpec.ofChange wholeHashesWrong)

/-- 'trailheadlaw02.WholeBack': WHATEVER THE INPUT: true; the input reads as it did. -/
def wholeBackSpec : ChangeSpec := { name := "wholeBack", fn := fun _ => fun
  | [d1, d2] => { results := [.lit (.bool true)], args := [d1, d2] }
  | _ => none }
def wholeBackRow : OpenClaim := { program := "ytlljemggalmcdaa", sum := "a03bc0ed8fef92618ab9caf93b404349eeded894dda08ae2694d8235f8e49be7", func := "trailhead/trailheadlaw02.WholeBack", spec := "wholeBack", inPlace := ["math/bits.Add64", "math/bits.Sub64"], apart := false }
def WholeBackSaid : Prop := wholeBackRow.holds Try.pinned (OpenSpec.ofChange wholeBackSpec)

/-- ITS FALSE NEIGHBOUR: 'it returns false'. Refute it at one input. -/
def wholeBackWrong : ChangeSpec := { name := "wholeBack", fn := fun _ => fun
  | [d1, d2] => { results := [.lit (.bool false)], args := [d1, d2] }
  | _ => none }
def WholeBackWrongFalsely : Prop := wholeBackRow.holds Try.pinned (OpenSpec.ofChange wholeBackWrong)

/- THE SECOND FORM. 'bulk': how many values and letters a reading holds, each counted each time it is reached (what is shared counts as often as it is met; a slice's spare places count too). A statement '..UptoSaid' is the law's where the arguments, and the package variables that the reading takes, are together of bulk at most 1048576: NARROWER than '..Said'. Prove '..Said' where nothing that the law and all that it calls make is longer than what came in: it says more and counts as full. Else prove '..UptoSaid'. A law counts once. -/
mutual
def uptoBulk {H : Type} : DataW H → Nat
  | .lit (.string bytes) => bytes.length + 1
  | .lit _ => 1
  | .nil => 1
  | .ptr d => uptoBulk d + 1
  | .slice elems spare => uptoBulkAll elems + uptoBulkAll spare + 1
  | .agg parts => uptoBulkAll parts + 1
  | .iface _ d => uptoBulk d + 1
  | .map entries => uptoBulkEntries entries + 1
  | .held _ => 1
def uptoBulkAll {H : Type} : List (DataW H) → Nat
  | [] => 0
  | d :: r => uptoBulk d + uptoBulkAll r
def uptoBulkEntries {H : Type} : List (Lit × DataW H) → Nat
  | [] => 0
  | x :: r => uptoBulkEntry x + uptoBulkEntries r
def uptoBulkEntry {H : Type} : Lit × DataW H → Nat
  | (.string bytes, d) => bytes.length + uptoBulk d + 1
  | (_, d) => uptoBulk d + 1
 end
def uptoSmall : (H : Type) → List (DataW H) → Bool := fun _ ds => decide (uptoBulkAll ds ≤ 1048576)
def OpenSpec.upto (s : _root_.Go.ChangeSpec) : _root_.Go.OpenSpec := { _root_.Go.OpenSpec.ofChange s with cond := some uptoSmall }

/-- 'trailheadlaw02.WholeSums', WHERE WHAT IT READS IS OF BULK AT MOST 1048576: true; the input reads as it did. -/
def wholeSumsUptoRow : OpenClaim := { program := "ytlljemggalmcdaa", sum := "a03bc0ed8fef92618ab9caf93b404349eeded894dda08ae2694d8235f8e49be7", func := "trailhead/trailheadlaw02.WholeSums", spec := "wholeSums", inPlace := ["math/bits.Add64", "math/bits.Sub64"], apart := false, narrowed := true }
def WholeSumsUptoSaid : Prop := wholeSumsUptoRow.holds Try.pinned (OpenSpec.upto wholeSumsSpec)

/-- 'trailheadlaw02.WholeOrder', WHERE WHAT IT READS IS OF BULK AT MOST 1048576: true; the input reads as it did. -/
def wholeOrderUptoRow : OpenClaim := { program := "ytlljemggalmcdaa", sum := "a03bc0ed8fef92618ab9caf93b404349eeded894dda08ae2694d8235f8e49be7", func := "trailhead/trailheadlaw02.WholeOrder", spec := "wholeOrder", inPlace := ["math/bits.Add64"], apart := false, narrowed := true }
def WholeOrderUptoSaid : Prop := wholeOrderUptoRow.holds Try.pinned (OpenSpec.upto wholeOrderSpec)

/-- 'trailheadlaw02.WholeMoves', WHERE WHAT IT READS IS OF BULK AT MOST 1048576: true; the input reads as it did. -/
def wholeMovesUptoRow : OpenClaim := { program := "ytlljemggalmcdaa", sum := "a03bc0ed8fef92618ab9caf93b404349eeded894dda08ae2694d8235f8e49be7", func := "trailhead/trailheadlaw02.WholeMoves", spec := "wholeMoves", inPlace := ["math/bits.Add64"], apart := false, narrowed := true }
def WholeMovesUptoSaid : Prop := wholeMovesUptoRow.holds Try.pinned (OpenSpec.upto wholeMovesSpec)

/-- 'trailheadlaw02.WholeProducts', WHERE WHAT IT READS IS OF BULK AT MOST 1048576: true; the input reads as it did. -/
def wholeProductsUptoRow : OpenClaim := { program := "ytlljemggalmcdaa", sum := "a03bc0ed8fef92618ab9caf93b404349eeded894dda08ae2694d8235f8e49be7", func := "trailhead/trailheadlaw02.WholeProducts", spec := "wholeProducts", inPlace := ["math/bits.Add64"], named := ["math/bits.divideError", "math/bits.overflowError"], apart := false, narrowed := true }
def WholeProductsUptoSaid : Prop := wholeProductsUptoRow.holds Try.pinned (OpenSpec.upto wholeProductsSpec)

/-- 'trailheadlaw02.WholeQuotients', WHERE WHAT IT READS IS OF BULK AT MOST 1048576: true; the input reads as it did. -/
def wholeQuotientsUptoRow : OpenClaim := { program := "ytlljemggalmcdaa", sum := "a03bc0ed8fef92618ab9caf93b404349eeded894dda08ae2694d8235f8e49be7", func := "trailhead/trailheadlaw02.WholeQuotients", spec := "wholeQuotients", inPlace := ["math/bits.Add64", "math/bits.Sub64"], apart := false, narrowed := true }
def WholeQuotientsUptoSaid : Prop := wholeQuotientsUptoRow.holds Try.pinned (OpenSpec.upto wholeQuotientsSpec)

/-- 'trailheadlaw02.WholeHashes', WHERE WHAT IT READS IS OF BULK AT MOST 1048576: true; the input reads as it did. -/
def wholeHashesUptoRow : OpenClaim := { program := "ytlljemggalmcdaa", sum := "a03bc0ed8fef92618ab9caf93b404349eeded894dda08ae2694d8235f8e49be7", func := "trailhead/trailheadlaw02.WholeHashes", spec := "wholeHashes", inPlace := ["math/bits.Add64"], apart := false, narrowed := true }
def WholeHashesUptoSaid : Prop := wholeHashesUptoRow.holds Try.pinned (OpenSpec.upto wholeHashesSpec)

/-- 'trailheadlaw02.WholeBack', WHERE WHAT IT READS IS OF BULK AT MOST 1048576: true; the input reads as it did. -/
def wholeBackUptoRow : OpenClaim := { program := "ytlljemggalmcdaa", sum := "a03bc0ed8fef92618ab9caf93b404349eeded894dda08ae2694d8235f8e49be7", func := "trailhead/trailheadlaw02.WholeBack", spec := "wholeBack", inPlace := ["math/bits.Add64", "math/bits.Sub64"], apart := false, narrowed := true }
def WholeBackUptoSaid : Prop := wholeBackUptoRow.holds Try.pinned (OpenSpec.upto wholeBackSpec)

end Rows
end Go.Proofs.Ytlljemggalmcdaa
