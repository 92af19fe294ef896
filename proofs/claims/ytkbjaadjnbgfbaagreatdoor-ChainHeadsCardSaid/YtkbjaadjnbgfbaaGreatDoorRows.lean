/-
  NARROWER THAN 'FOR EVERY INPUT', by the rows' own cells (each row's printed sentence says how): ChainDoes: laid · ChainHeads: laid · ChainSettles: laid · ChainWay: laid · ChainBack: laid · ChainCalm: laid.
  DERIVED. THE GIVEN ROWS OF THIS SEAT. 6 by the template 'for every input the law returns true; each argument reads behind the call as it read before'; 0 by the template 'total and deterministic' (their statements: YtkbjaadjnbgfbaaGreatDoorTotals.lean).
  GIVEN WITH THE SEED: the statements are not yours to turn. If you find one false, say at which input.
  Laid BY PROGRAM, IN A SANDBOX (cutbox-rows.mjs): the forced cells as the released guide's own fill.sh prints them over the translation b43ec7704ec38232… (all of the seat's roots in one cut). By AI agents, Wed Nov 11 2026. No macro, syntax, notation, axiom, sorry.
-/
import Derived.Test.YtkbjaadjnbgfbaaGreatDoorChecked
import GoSem.Claim
import GoSem.ClaimJoined
import GoSem.ClaimMapViews
import Derived.JoinedTies
import Derived.KernelRfl
namespace Go.Proofs.YtkbjaadjnbgfbaaGreatDoor
/- THE CELL 'sum', in the pinned program and in every row, IS THE sha256 OF THE DUMP (.gsa) THAT YtkbjaadjnbgfbaaGreatDoorProg.lean LOADS. Nothing in Lean hashes anything: it is a label: what it is worth is what the hold of that sum in a sandbox is worth. -/
noncomputable def Tryz.pinned : Pinned := { name := "ytkbjaadjnbgfbaagreatdoor", sum := "b43ec7704ec382329b6323128475150ec8ef1d36ce953c68a0ecf29cdadbe1ae", checked := Tryz.checked }
namespace Rows
def none {H : Type} : Left H := { results := [], args := [] }

/- WHAT THE LISTED PACKAGE-LEVEL VARIABLES READ AS WHEN THE CALL BEGINS. Each datum BY PROGRAM (the guide's laid-datum.mjs) off the statement by which the dump's own 'gosem.cut.vars' lays the variable. In a bare row this is a premise. The card (YtkbjaadjnbgfbaaGreatDoorCards.lean) ties it to the program's text. -/
def laid_trailhead_digest_start {H : Type} : DataW H := .agg [.lit (.int .u32 1779033703), .lit (.int .u32 3144134277), .lit (.int .u32 1013904242), .lit (.int .u32 2773480762), .lit (.int .u32 1359893119), .lit (.int .u32 2600822924), .lit (.int .u32 528734635), .lit (.int .u32 1541459225)]
def laid_trailhead_digest_rounds {H : Type} : DataW H := .agg [.lit (.int .u32 1116352408), .lit (.int .u32 1899447441), .lit (.int .u32 3049323471), .lit (.int .u32 3921009573), .lit (.int .u32 961987163), .lit (.int .u32 1508970993), .lit (.int .u32 2453635748), .lit (.int .u32 2870763221), .lit (.int .u32 3624381080), .lit (.int .u32 310598401), .lit (.int .u32 607225278), .lit (.int .u32 1426881987), .lit (.int .u32 1925078388), .lit (.int .u32 2162078206), .lit (.int .u32 2614888103), .lit (.int .u32 3248222580), .lit (.int .u32 3835390401), .lit (.int .u32 4022224774), .lit (.int .u32 264347078), .lit (.int .u32 604807628), .lit (.int .u32 770255983), .lit (.int .u32 1249150122), .lit (.int .u32 1555081692), .lit (.int .u32 1996064986), .lit (.int .u32 2554220882), .lit (.int .u32 2821834349), .lit (.int .u32 2952996808), .lit (.int .u32 3210313671), .lit (.int .u32 3336571891), .lit (.int .u32 3584528711), .lit (.int .u32 113926993), .lit (.int .u32 338241895), .lit (.int .u32 666307205), .lit (.int .u32 773529912), .lit (.int .u32 1294757372), .lit (.int .u32 1396182291), .lit (.int .u32 1695183700), .lit (.int .u32 1986661051), .lit (.int .u32 2177026350), .lit (.int .u32 2456956037), .lit (.int .u32 2730485921), .lit (.int .u32 2820302411), .lit (.int .u32 3259730800), .lit (.int .u32 3345764771), .lit (.int .u32 3516065817), .lit (.int .u32 3600352804), .lit (.int .u32 4094571909), .lit (.int .u32 275423344), .lit (.int .u32 430227734), .lit (.int .u32 506948616), .lit (.int .u32 659060556), .lit (.int .u32 883997877), .lit (.int .u32 958139571), .lit (.int .u32 1322822218), .lit (.int .u32 1537002063), .lit (.int .u32 1747873779), .lit (.int .u32 1955562222), .lit (.int .u32 2024104815), .lit (.int .u32 2227730452), .lit (.int .u32 2361852424), .lit (.int .u32 2428436474), .lit (.int .u32 2756734187), .lit (.int .u32 3204031479), .lit (.int .u32 3329325298)]

/-- 'trailheadlaw17.ChainDoes': WHATEVER THE INPUT: true; the input reads as it did. -/
def chainDoesSpec : ChangeSpec := { name := "chainDoes", fn := fun _ => fun
  | [d1, d2] => { results := [.lit (.bool true)], args := [d1, d2] }
  | _ => none }
def chainDoesRow : OpenClaim := { program := "ytkbjaadjnbgfbaagreatdoor", sum := "b43ec7704ec382329b6323128475150ec8ef1d36ce953c68a0ecf29cdadbe1ae", func := "trailhead/trailheadlaw17.ChainDoes", spec := "chainDoes", inPlace := ["internal/abi.NoEscape", "internal/bytealg.MakeNoZero", "math/bits.Add64", "math/bits.Sub64", "slices.overlaps[int]"], unfollowed := true, recurses := true, named := ["trailhead/digest.start", "trailhead/digest.rounds", "math/bits.divideError", "math/bits.overflowError"], plainKeys := false, apart := false, laid := [("trailhead/digest.start", laid_trailhead_digest_start), ("trailhead/digest.rounds", laid_trailhead_digest_rounds)] }
def ChainDoesSaid : Prop := chainDoesRow.holds Tryz.pinned (OpenSpec.ofChange chainDoesSpec)

/-- ITS FALSE NEIGHBOUR: 'it returns false'. Refute it at one input. -/
def chainDoesWrong : ChangeSpec := { name := "chainDoes", fn := fun _ => fun
  | [d1, d2] => { results := [.lit (.bool false)], args := [d1, d2] }
  | _ => none }
def ChainDoesWrongFalsely : Prop := chainDoesRow.holds Tryz.pinned (OpenSpec.ofChange chainDoesWrong)

/-- 'trailheadlaw17.ChainHeads': WHATEVER THE INPUT: true; the input reads as it did. -/
def chainHeadsSpec : ChangeSpec := { name := "chainHeads", fn := fun _ => fun
  | [d1, d2] => { results := [.lit (.bool true)], args := [d1, d2] }
  | _ => none }
def chainHeadsRow : OpenClaim := { program := "ytkbjaadjnbgfbaagreatdoor", sum := "b43ec7704ec382329b6323128475150ec8ef1d36ce953c68a0ecf29cdadbe1ae", func := "trailhead/trailheadlaw17.ChainHeads", spec := "chainHeads", inPlace := ["internal/abi.NoEscape", "internal/bytealg.MakeNoZero", "math/bits.Add64", "math/bits.Sub64", "slices.overlaps[int]"], unfollowed := true, recurses := true, named := ["trailhead/digest.start", "trailhead/digest.rounds", "math/bits.divideError", "math/bits.overflowError"], plainKeys := false, apart := false, laid := [("trailhead/digest.start", laid_trailhead_digest_start), ("trailhead/digest.rounds", laid_trailhead_digest_rounds)] }
def ChainHeadsSaid : Prop := chainHeadsRow.holds Tryz.pinned (OpenSpec.ofChange chainHeadsSpec)

/-- ITS FALSE NEIGHBOUR: 'it returns false'. Refute it at one input. -/
def chainHeadsWrong : ChangeSpec := { name := "chainHeads", fn := fun _ => fun
  | [d1, d2] => { results := [.lit (.bool false)], args := [d1, d2] }
  | _ => none }
def ChainHeadsWrongFalsely : Prop := chainHeadsRow.holds Tryz.pinned (OpenSpec.ofChange chainHeadsWrong)

/-- 'trailheadlaw17.ChainSettles': WHATEVER THE INPUT: true; the input reads as it did. -/
def chainSettlesSpec : ChangeSpec := { name := "chainSettles", fn := fun _ => fun
  | [d1, d2] => { results := [.lit (.bool true)], args := [d1, d2] }
  | _ => none }
def chainSettlesRow : OpenClaim := { program := "ytkbjaadjnbgfbaagreatdoor", sum := "b43ec7704ec382329b6323128475150ec8ef1d36ce953c68a0ecf29cdadbe1ae", func := "trailhead/trailheadlaw17.ChainSettles", spec := "chainSettles", inPlace := ["internal/abi.NoEscape", "internal/bytealg.MakeNoZero", "math/bits.Add64", "math/bits.Sub64"], unfollowed := true, recurses := true, named := ["trailhead/digest.start", "trailhead/digest.rounds", "math/bits.divideError", "math/bits.overflowError"], plainKeys := false, apart := false, laid := [("trailhead/digest.start", laid_trailhead_digest_start), ("trailhead/digest.rounds", laid_trailhead_digest_rounds)] }
def ChainSettlesSaid : Prop := chainSettlesRow.holds Tryz.pinned (OpenSpec.ofChange chainSettlesSpec)

/-- ITS FALSE NEIGHBOUR: 'it returns false'. Refute it at one input. -/
def chainSettlesWrong : ChangeSpec := { name := "chainSettles", fn := fun _ => fun
  | [d1, d2] => { results := [.lit (.bool false)], args := [d1, d2] }
  | _ => none }
def ChainSettlesWrongFalsely : Prop := chainSettlesRow.holds Tryz.pinned (OpenSpec.ofChange chainSettlesWrong)

/-- 'trailheadlaw17.ChainWay': WHATEVER THE INPUT: true; the input reads as it did. -/
def chainWaySpec : ChangeSpec := { name := "chainWay", fn := fun _ => fun
  | [d1, d2] => { results := [.lit (.bool true)], args := [d1, d2] }
  | _ => none }
def chainWayRow : OpenClaim := { program := "ytkbjaadjnbgfbaagreatdoor", sum := "b43ec7704ec382329b6323128475150ec8ef1d36ce953c68a0ecf29cdadbe1ae", func := "trailhead/trailheadlaw17.ChainWay", spec := "chainWay", inPlace := ["internal/abi.NoEscape", "internal/bytealg.MakeNoZero", "math/bits.Add64", "math/bits.Sub64"], unfollowed := true, recurses := true, named := ["trailhead/digest.start", "trailhead/digest.rounds", "math/bits.divideError", "math/bits.overflowError"], plainKeys := false, apart := false, laid := [("trailhead/digest.start", laid_trailhead_digest_start), ("trailhead/digest.rounds", laid_trailhead_digest_rounds)] }
def ChainWaySaid : Prop := chainWayRow.holds Tryz.pinned (OpenSpec.ofChange chainWaySpec)

/-- ITS FALSE NEIGHBOUR: 'it returns false'. Refute it at one input. -/
def chainWayWrong : ChangeSpec := { name := "chainWay", fn := fun _ => fun
  | [d1, d2] => { results := [.lit (.bool false)], args := [d1, d2] }
  | _ => none }
def ChainWayWrongFalsely : Prop := chainWayRow.holds Tryz.pinned (OpenSpec.ofChange chainWayWrong)

/-- 'trailheadlaw17.ChainBack': WHATEVER THE INPUT: true; the input reads as it did. -/
def chainBackSpec : ChangeSpec := { name := "chainBack", fn := fun _ => fun
  | [d1, d2, d3, d4] => { results := [.lit (.bool true)], args := [d1, d2, d3, d4] }
  | _ => none }
def chainBackRow : OpenClaim := { program := "ytkbjaadjnbgfbaagreatdoor", sum := "b43ec7704ec382329b6323128475150ec8ef1d36ce953c68a0ecf29cdadbe1ae", func := "trailhead/trailheadlaw17.ChainBack", spec := "chainBack", inPlace := ["internal/abi.NoEscape", "internal/bytealg.MakeNoZero", "math/bits.Add64", "math/bits.Sub64", "slices.overlaps[int]"], unfollowed := true, recurses := true, named := ["trailhead/digest.start", "trailhead/digest.rounds", "math/bits.divideError", "math/bits.overflowError"], plainKeys := false, apart := false, laid := [("trailhead/digest.start", laid_trailhead_digest_start), ("trailhead/digest.rounds", laid_trailhead_digest_rounds)] }
def ChainBackSaid : Prop := chainBackRow.holds Tryz.pinned (OpenSpec.ofChange chainBackSpec)

/-- ITS FALSE NEIGHBOUR: 'it returns false'. Refute it at one input. -/
def chainBackWrong : ChangeSpec := { name := "chainBack", fn := fun _ => fun
  | [d1, d2, d3, d4] => { results := [.lit (.bool false)], args := [d1, d2, d3, d4] }
  | _ => none }
def ChainBackWrongFalsely : Prop := chainBackRow.holds Tryz.pinned (OpenSpec.ofChange chainBackWrong)

/-- 'trailheadlaw17.ChainCalm': WHATEVER THE INPUT: true; the input reads as it did. -/
def chainCalmSpec : ChangeSpec := { name := "chainCalm", fn := fun _ => fun
  | [d1, d2] => { results := [.lit (.bool true)], args := [d1, d2] }
  | _ => none }
def chainCalmRow : OpenClaim := { program := "ytkbjaadjnbgfbaagreatdoor", sum := "b43ec7704ec382329b6323128475150ec8ef1d36ce953c68a0ecf29cdadbe1ae", func := "trailhead/trailheadlaw17.ChainCalm", spec := "chainCalm", inPlace := ["internal/abi.NoEscape", "internal/bytealg.MakeNoZero", "math/bits.Add64", "math/bits.Sub64", "slices.overlaps[int]"], unfollowed := true, recurses := true, named := ["trailhead/digest.start", "trailhead/digest.rounds", "math/bits.divideError", "math/bits.overflowError"], plainKeys := false, apart := false, laid := [("trailhead/digest.start", laid_trailhead_digest_start), ("trailhead/digest.rounds", laid_trailhead_digest_rounds)] }
def ChainCalmSaid : Prop := chainCalmRow.holds Tryz.pinned (OpenSpec.ofChange chainCalmSpec)

/-- ITS FALSE NEIGHBOUR: 'it returns false'. Refute it at one input. -/
def chainCalmWrong : ChangeSpec := { name := "chainCalm", fn := fun _ => fun
  | [d1, d2] => { results := [.lit (.bool false)], args := [d1, d2] }
  | _ => none }
def ChainCalmWrongFalsely : Prop := chainCalmRow.holds Tryz.pinned (OpenSpec.ofChange chainCalmWrong)

/- THE SECOND FORM. 'bulk': how many values and letters a reading holds, each counted each time it is reached (what is shared counts as often as it is met; a slice's spare places count too). A statement '..UptoSaid' is the law's where the arguments, and the package variables that the reading takes, are together of bulk at most 1048576: NARROWER than '..Said'. Prove '..Said' where nothing that the law and all that it calls make is longer than what came in: it says more and counts as full. Else prove '..UptoSaid'. A law counts once. -/
mutual
def uptoBulk {H : Type} : DataW H → Nat
  | .lit (.string bytes) => bytes.length + 1
  | .lit _ => 1
  | .nil => 1
  | .ptr d => uptoBulk d + 1
  | .slice elems spare => uptoBulkAll elems + uptoBulkAll spare + 1
  | .agg parts => uptoBulkAll parts + 1
  | .iface _ d => uptoBulk d + 1
  | .map entries => uptoBulkEntries entries + 1
  | .held _ => 1
def uptoBulkAll {H : Type} : List (DataW H) → Nat
  | [] => 0
  | d :: r => uptoBulk d + uptoBulkAll r
def uptoBulkEntries {H : Type} : List (Lit × DataW H) → Nat
  | [] => 0
  | x :: r => uptoBulkEntry x + uptoBulkEntries r
def uptoBulkEntry {H : Type} : Lit × DataW H → Nat
  | (.string bytes, d) => bytes.length + uptoBulk d + 1
  | (_, d) => uptoBulk d + 1
 end
def uptoSmall : (H : Type) → List (DataW H) → Bool := fun _ ds => decide (uptoBulkAll ds ≤ 1048576)
def OpenSpec.upto (s : _root_.Go.ChangeSpec) : _root_.Go.OpenSpec := { _root_.Go.OpenSpec.ofChange s with cond := some uptoSmall }

/-- 'trailheadlaw17.ChainDoes', WHERE WHAT IT READS IS OF BULK AT MOST 1048576: true; the input reads as it did. -/
def chainDoesUptoRow : OpenClaim := { program := "ytkbjaadjnbgfbaagreatdoor", sum := "b43ec7704ec382329b6323128475150ec8ef1d36ce953c68a0ecf29cdadbe1ae", func := "trailhead/trailheadlaw17.ChainDoes", spec := "chainDoes", inPlace := ["internal/abi.NoEscape", "internal/bytealg.MakeNoZero", "math/bits.Add64", "math/bits.Sub64", "slices.overlaps[int]"], unfollowed := true, recurses := true, named := ["trailhead/digest.start", "trailhead/digest.rounds", "math/bits.divideError", "math/bits.overflowError"], plainKeys := false, apart := false, laid := [("trailhead/digest.start", laid_trailhead_digest_start), ("trailhead/digest.rounds", laid_trailhead_digest_rounds)], narrowed := true }
def ChainDoesUptoSaid : Prop := chainDoesUptoRow.holds Tryz.pinned (OpenSpec.upto chainDoesSpec)

/-- 'trailheadlaw17.ChainHeads', WHERE WHAT IT READS IS OF BULK AT MOST 1048576: true; the input reads as it did. -/
def chainHeadsUptoRow : OpenClaim := { program := "ytkbjaadjnbgfbaagreatdoor", sum := "b43ec7704ec382329b6323128475150ec8ef1d36ce953c68a0ecf29cdadbe1ae", func := "trailhead/trailheadlaw17.ChainHeads", spec := "chainHeads", inPlace := ["internal/abi.NoEscape", "internal/bytealg.MakeNoZero", "math/bits.Add64", "math/bits.Sub64", "slices.overlaps[int]"], unfollowed := true, recurses := true, named := ["trailhead/digest.start", "trailhead/digest.rounds", "math/bits.divideError", "math/bits.overflowError"], plainKeys := false, apart := false, laid := [("trailhead/digest.start", laid_trailhead_digest_start), ("trailhead/digest.rounds", laid_trailhead_digest_rounds)], narrowed := true }
def ChainHeadsUptoSaid : Prop := chainHeadsUptoRow.holds Tryz.pinned (OpenSpec.upto chainHeadsSpec)

/-- 'trailheadlaw17.ChainSettles', WHERE WHAT IT READS IS OF BULK AT MOST 1048576: true; the input reads as it did. -/
def chainSettlesUptoRow : OpenClaim := { program := "ytkbjaadjnbgfbaagreatdoor", sum := "b43ec7704ec382329b6323128475150ec8ef1d36ce953c68a0ecf29cdadbe1ae", func := "trailhead/trailheadlaw17.ChainSettles", spec := "chainSettles", inPlace := ["internal/abi.NoEscape", "internal/bytealg.MakeNoZero", "math/bits.Add64", "math/bits.Sub64"], unfollowed := true, recurses := true, named := ["trailhead/digest.start", "trailhead/digest.rounds", "math/bits.divideError", "math/bits.overflowError"], plainKeys := false, apart := false, laid := [("trailhead/digest.start", laid_trailhead_digest_start), ("trailhead/digest.rounds", laid_trailhead_digest_rounds)], narrowed := true }
def ChainSettlesUptoSaid : Prop := chainSettlesUptoRow.holds Tryz.pinned (OpenSpec.upto chainSettlesSpec)

/-- 'trailheadlaw17.ChainWay', WHERE WHAT IT READS IS OF BULK AT MOST 1048576: true; the input reads as it did. -/
def chainWayUptoRow : OpenClaim := { program := "ytkbjaadjnbgfbaagreatdoor", sum := "b43ec7704ec382329b6323128475150ec8ef1d36ce953c68a0ecf29cdadbe1ae", func := "trailhead/trailheadlaw17.ChainWay", spec := "chainWay", inPlace := ["internal/abi.NoEscape", "internal/bytealg.MakeNoZero", "math/bits.Add64", "math/bits.Sub64"], unfollowed := true, recurses := true, named := ["trailhead/digest.start", "trailhead/digest.rounds", "math/bits.divideError", "math/bits.overflowError"], plainKeys := false, apart := false, laid := [("trailhead/digest.start", laid_trailhead_digest_start), ("trailhead/digest.rounds", laid_trailhead_digest_rounds)], narrowed := true }
def ChainWayUptoSaid : Prop := chainWayUptoRow.holds Tryz.pinned (OpenSpec.upto chainWaySpec)

/-- 'trailheadlaw17.ChainBack', WHERE WHAT IT READS IS OF BULK AT MOST 1048576: true; the input reads as it did. -/
def chainBackUptoRow : OpenClaim := { program := "ytkbjaadjnbgfbaagreatdoor", sum := "b43ec7704ec382329b6323128475150ec8ef1d36ce953c68a0ecf29cdadbe1ae", func := "trailhead/trailheadlaw17.ChainBack", spec := "chainBack", inPlace := ["internal/abi.NoEscape", "internal/bytealg.MakeNoZero", "math/bits.Add64", "math/bits.Sub64", "slices.overlaps[int]"], unfollowed := true, recurses := true, named := ["trailhead/digest.start", "trailhead/digest.rounds", "math/bits.divideError", "math/bits.overflowError"], plainKeys := false, apart := false, laid := [("trailhead/digest.start", laid_trailhead_digest_start), ("trailhead/digest.rounds", laid_trailhead_digest_rounds)], narrowed := true }
def ChainBackUptoSaid : Prop := chainBackUptoRow.holds Tryz.pinned (OpenSpec.upto chainBackSpec)

/-- 'trailheadlaw17.ChainCalm', WHERE WHAT IT READS IS OF BULK AT MOST 1048576: true; the input reads as it did. -/
def chainCalmUptoRow : OpenClaim := { program := "ytkbjaadjnbgfbaagreatdoor", sum := "b43ec7704ec382329b6323128475150ec8ef1d36ce953c68a0ecf29cdadbe1ae", func := "trailhead/trailheadlaw17.ChainCalm", spec := "chainCalm", inPlace := ["internal/abi.NoEscape", "internal/bytealg.MakeNoZero", "math/bits.Add64", "math/bits.Sub64", "slices.overlaps[int]"], unfollowed := true, recurses := true, named := ["trailhead/digest.start", "trailhead/digest.rounds", "math/bits.divideError", "math/bits.overflowError"], plainKeys := false, apart := false, laid := [("trailhead/digest.start", laid_trailhead_digest_start), ("trailhead/digest.rounds", laid_trailhead_digest_rounds)], narrowed := true }
def ChainCalmUptoSaid : Prop := chainCalmUptoRow.holds Tryz.pinned (OpenSpec.upto chainCalmSpec)

end Rows
end Go.Proofs.YtkbjaadjnbgfbaaGreatDoor
