/-
  NARROWER THAN 'FOR EVERY INPUT', by the rows' own cells (each row's printed sentence says how): HeaderBytes: laid · HeaderReads: laid · HeaderFollows: laid · HeaderSeeks: laid · HeaderUnlike: laid · HeaderMines: laid.
  DERIVED. THE GIVEN ROWS OF THIS SEAT. 6 by the template 'for every input the law returns true; each argument reads behind the call as it read before'; 0 by the template 'total and deterministic' (their statements: YtfnicmmebphpkaaDoorTotals.lean).
  GIVEN WITH THE SEED: the statements are not yours to turn. If you find one false, say at which input.
  Laid BY PROGRAM, IN A SANDBOX (cutbox-rows.mjs): the forced cells as the released guide's own fill.sh prints them over the translation ebe13889bb9c5dbf… (all of the seat's roots in one cut). By AI agents, Wed Nov 11 2026. No macro, syntax, notation, axiom, sorry.
-/
import Derived.Test.YtfnicmmebphpkaaDoorChecked
import GoSem.Claim
import GoSem.ClaimJoined
import GoSem.ClaimMapViews
import Derived.JoinedTies
import Derived.KernelRfl
namespace Go.Proofs.YtfnicmmebphpkaaDoor
/- THE CELL 'sum', in the pinned program and in every row, IS THE sha256 OF THE DUMP (.gsa) THAT YtfnicmmebphpkaaDoorProg.lean LOADS. Nothing in Lean hashes anything: it is a label: what it is worth is what the hold of that sum in a sandbox is worth. -/
noncomputable def Tryd.pinned : Pinned := { name := "ytfnicmmebphpkaadoor", sum := "ebe13889bb9c5dbf0f4f67272e5b4fc29e18cfef7e382a301001ff192ee702e7", checked := Tryd.checked }
namespace Rows
def none {H : Type} : Left H := { results := [], args := [] }

/- WHAT THE LISTED PACKAGE-LEVEL VARIABLES READ AS WHEN THE CALL BEGINS. Each datum BY PROGRAM (the guide's laid-datum.mjs) off the statement by which the dump's own 'gosem.cut.vars' lays the variable. In a bare row this is a premise. The card (YtfnicmmebphpkaaDoorCards.lean) ties it to the program's text. -/
def laid_trailhead_digest_start {H : Type} : DataW H := .agg [.lit (.int .u32 1779033703), .lit (.int .u32 3144134277), .lit (.int .u32 1013904242), .lit (.int .u32 2773480762), .lit (.int .u32 1359893119), .lit (.int .u32 2600822924), .lit (.int .u32 528734635), .lit (.int .u32 1541459225)]
def laid_trailhead_digest_rounds {H : Type} : DataW H := .agg [.lit (.int .u32 1116352408), .lit (.int .u32 1899447441), .lit (.int .u32 3049323471), .lit (.int .u32 3921009573), .lit (.int .u32 961987163), .lit (.int .u32 1508970993), .lit (.int .u32 2453635748), .lit (.int .u32 2870763221), .lit (.int .u32 3624381080), .lit (.int .u32 310598401), .lit (.int .u32 607225278), .lit (.int .u32 1426881987), .lit (.int .u32 1925078388), .lit (.int .u32 2162078206), .lit (.int .u32 2614888103), .lit (.int .u32 3248222580), .lit (.int .u32 3835390401), .lit (.int .u32 4022224774), .lit (.int .u32 264347078), .lit (.int .u32 604807628), .lit (.int .u32 770255983), .lit (.int .u32 1249150122), .lit (.int .u32 1555081692), .lit (.int .u32 1996064986), .lit (.int .u32 2554220882), .lit (.int .u32 2821834349), .lit (.int .u32 2952996808), .lit (.int .u32 3210313671), .lit (.int .u32 3336571891), .lit (.int .u32 3584528711), .lit (.int .u32 113926993), .lit (.int .u32 338241895), .lit (.int .u32 666307205), .lit (.int .u32 773529912), .lit (.int .u32 1294757372), .lit (.int .u32 1396182291), .lit (.int .u32 1695183700), .lit (.int .u32 1986661051), .lit (.int .u32 2177026350), .lit (.int .u32 2456956037), .lit (.int .u32 2730485921), .lit (.int .u32 2820302411), .lit (.int .u32 3259730800), .lit (.int .u32 3345764771), .lit (.int .u32 3516065817), .lit (.int .u32 3600352804), .lit (.int .u32 4094571909), .lit (.int .u32 275423344), .lit (.int .u32 430227734), .lit (.int .u32 506948616), .lit (.int .u32 659060556), .lit (.int .u32 883997877), .lit (.int .u32 958139571), .lit (.int .u32 1322822218), .lit (.int .u32 1537002063), .lit (.int .u32 1747873779), .lit (.int .u32 1955562222), .lit (.int .u32 2024104815), .lit (.int .u32 2227730452), .lit (.int .u32 2361852424), .lit (.int .u32 2428436474), .lit (.int .u32 2756734187), .lit (.int .u32 3204031479), .lit (.int .u32 3329325298)]

/-- 'trailheadlaw06.HeaderBytes': WHATEVER THE INPUT: true; the input reads as it did. -/
def headerBytesSpec : ChangeSpec := { name := "headerBytes", fn := fun _ => fun
  | [d1, d2] => { results := [.lit (.bool true)], args := [d1, d2] }
  | _ => none }
def headerBytesRow : OpenClaim := { program := "ytfnicmmebphpkaadoor", sum := "ebe13889bb9c5dbf0f4f67272e5b4fc29e18cfef7e382a301001ff192ee702e7", func := "trailhead/trailheadlaw06.HeaderBytes", spec := "headerBytes", inPlace := ["internal/abi.NoEscape", "internal/bytealg.MakeNoZero"], named := ["trailhead/digest.start", "trailhead/digest.rounds"], apart := false, laid := [("trailhead/digest.start", laid_trailhead_digest_start), ("trailhead/digest.rounds", laid_trailhead_digest_rounds)] }
def HeaderBytesSaid : Prop := headerBytesRow.holds Tryd.pinned (OpenSpec.ofChange headerBytesSpec)

/-- ITS FALSE NEIGHBOUR: 'it returns false'. Refute it at one input. -/
def headerBytesWrong : ChangeSpec := { name := "headerBytes", fn := fun _ => fun
  | [d1, d2] => { results := [.lit (.bool false)], args := [d1, d2] }
  | _ => none }
def HeaderBytesWrongFalsely : Prop := headerBytesRow.holds Tryd.pinned (OpenSpec.ofChange headerBytesWrong)

/-- 'trailheadlaw06.HeaderReads': WHATEVER THE INPUT: true; the input reads as it did. -/
def headerReadsSpec : ChangeSpec := { name := "headerReads", fn := fun _ => fun
  | [d] => { results := [.lit (.bool true)], args := [d] }
  | _ => none }
def headerReadsRow : OpenClaim := { program := "ytfnicmmebphpkaadoor", sum := "ebe13889bb9c5dbf0f4f67272e5b4fc29e18cfef7e382a301001ff192ee702e7", func := "trailhead/trailheadlaw06.HeaderReads", spec := "headerReads", inPlace := ["internal/abi.NoEscape", "internal/bytealg.MakeNoZero"], named := ["trailhead/digest.start", "trailhead/digest.rounds"], apart := false, laid := [("trailhead/digest.start", laid_trailhead_digest_start), ("trailhead/digest.rounds", laid_trailhead_digest_rounds)] }
def HeaderReadsSaid : Prop := headerReadsRow.holds Tryd.pinned (OpenSpec.ofChange headerReadsSpec)

/-- ITS FALSE NEIGHBOUR: 'it returns false'. Refute it at one input. -/
def headerReadsWrong : ChangeSpec := { name := "headerReads", fn := fun _ => fun
  | [d] => { results := [.lit (.bool false)], args := [d] }
  | _ => none }
def HeaderReadsWrongFalsely : Prop := headerReadsRow.holds Tryd.pinned (OpenSpec.ofChange headerReadsWrong)

/-- 'trailheadlaw06.HeaderFollows': WHATEVER THE INPUT: true; the input reads as it did. -/
def headerFollowsSpec : ChangeSpec := { name := "headerFollows", fn := fun _ => fun
  | [d] => { results := [.lit (.bool true)], args := [d] }
  | _ => none }
def headerFollowsRow : OpenClaim := { program := "ytfnicmmebphpkaadoor", sum := "ebe13889bb9c5dbf0f4f67272e5b4fc29e18cfef7e382a301001ff192ee702e7", func := "trailhead/trailheadlaw06.HeaderFollows", spec := "headerFollows", inPlace := ["internal/abi.NoEscape", "internal/bytealg.MakeNoZero"], named := ["trailhead/digest.start", "trailhead/digest.rounds"], apart := false, laid := [("trailhead/digest.start", laid_trailhead_digest_start), ("trailhead/digest.rounds", laid_trailhead_digest_rounds)] }
def HeaderFollowsSaid : Prop := headerFollowsRow.holds Tryd.pinned (OpenSpec.ofChange headerFollowsSpec)

/-- ITS FALSE NEIGHBOUR: 'it returns false'. Refute it at one input. -/
def headerFollowsWrong : ChangeSpec := { name := "headerFollows", fn := fun _ => fun
  | [d] => { results := [.lit (.bool false)], args := [d] }
  | _ => none }
def HeaderFollowsWrongFalsely : Prop := headerFollowsRow.holds Tryd.pinned (OpenSpec.ofChange headerFollowsWrong)

/-- 'trailheadlaw06.HeaderSeeks': WHATEVER THE INPUT: true; the input reads as it did. -/
def headerSeeksSpec : ChangeSpec := { name := "headerSeeks", fn := fun _ => fun
  | [d1, d2] => { results := [.lit (.bool true)], args := [d1, d2] }
  | _ => none }
def headerSeeksRow : OpenClaim := { program := "ytfnicmmebphpkaadoor", sum := "ebe13889bb9c5dbf0f4f67272e5b4fc29e18cfef7e382a301001ff192ee702e7", func := "trailhead/trailheadlaw06.HeaderSeeks", spec := "headerSeeks", inPlace := ["internal/abi.NoEscape", "internal/bytealg.MakeNoZero"], named := ["trailhead/digest.start", "trailhead/digest.rounds"], apart := false, laid := [("trailhead/digest.start", laid_trailhead_digest_start), ("trailhead/digest.rounds", laid_trailhead_digest_rounds)] }
def HeaderSeeksSaid : Prop := headerSeeksRow.holds Tryd.pinned (OpenSpec.ofChange headerSeeksSpec)

/-- ITS FALSE NEIGHBOUR: 'it returns false'. Refute it at one input. -/
def headerSeeksWrong : ChangeSpec := { name := "headerSeeks", fn := fun _ => fun
  | [d1, d2] => { results := [.lit (.bool false)], args := [d1, d2] }
  | _ => none }
def HeaderSeeksWrongFalsely : Prop := headerSeeksRow.holds Tryd.pinned (OpenSpec.ofChange headerSeeksWrong)

/-- 'trailheadlaw06.HeaderUnlike': WHATEVER THE INPUT: true; the input reads as it did. -/
def headerUnlikeSpec : ChangeSpec := { name := "headerUnlike", fn := fun _ => fun
  | [d1, d2] => { results := [.lit (.bool true)], args := [d1, d2] }
  | _ => none }
def headerUnlikeRow : OpenClaim := { program := "ytfnicmmebphpkaadoor", sum := "ebe13889bb9c5dbf0f4f67272e5b4fc29e18cfef7e382a301001ff192ee702e7", func := "trailhead/trailheadlaw06.HeaderUnlike", spec := "headerUnlike", inPlace := ["internal/abi.NoEscape", "internal/bytealg.MakeNoZero"], named := ["trailhead/digest.start", "trailhead/digest.rounds"], apart := false, laid := [("trailhead/digest.start", laid_trailhead_digest_start), ("trailhead/digest.rounds", laid_trailhead_digest_rounds)] }
def HeaderUnlikeSaid : Prop := headerUnlikeRow.holds Tryd.pinned (OpenSpec.ofChange headerUnlikeSpec)

/-- ITS FALSE NEIGHBOUR: 'it returns false'. Refute it at one input. -/
def headerUnlikeWrong : ChangeSpec := { name := "headerUnlike", fn := fun _ => fun
  | [d1, d2] => { results := [.lit (.bool false)], args := [d1, d2] }
  | _ => none }
def HeaderUnlikeWrongFalsely : Prop := headerUnlikeRow.holds Tryd.pinned (OpenSpec.ofChange headerUnlikeWrong)

/-- 'trailheadlaw06.HeaderMines': WHATEVER THE INPUT: true; the input reads as it did. -/
def headerMinesSpec : ChangeSpec := { name := "headerMines", fn := fun _ => fun
  | [d1, d2, d3] => { results := [.lit (.bool true)], args := [d1, d2, d3] }
  | _ => none }
def headerMinesRow : OpenClaim := { program := "ytfnicmmebphpkaadoor", sum := "ebe13889bb9c5dbf0f4f67272e5b4fc29e18cfef7e382a301001ff192ee702e7", func := "trailhead/trailheadlaw06.HeaderMines", spec := "headerMines", inPlace := ["internal/abi.NoEscape", "internal/bytealg.MakeNoZero"], named := ["trailhead/digest.start", "trailhead/digest.rounds"], apart := false, laid := [("trailhead/digest.start", laid_trailhead_digest_start), ("trailhead/digest.rounds", laid_trailhead_digest_rounds)] }
def HeaderMinesSaid : Prop := headerMinesRow.holds Tryd.pinned (OpenSpec.ofChange headerMinesSpec)

/-- ITS FALSE NEIGHBOUR: 'it returns false'. Refute it at one input. -/
def headerMinesWrong : ChangeSpec := { name := "headerMines", fn := fun _ => fun
  | [d1, d2, d3] => { results := [.lit (.bool false)], args := [d1, d2, d3] }
  | _ => none }
def HeaderMinesWrongFalsely : Prop := headerMinesRow.holds Tryd.pinned (OpenSpec.ofChange headerMinesWrong)

/- THE SECOND FORM. 'bulk': how many values and letters a reading holds, each counted each time it is reached (what is shared counts as often as it is met; a slice's spare places count too). A statement '..UptoSaid' is the law's where the arguments, and the package variables that the reading takes, are together of bulk at most 1048576: NARROWER than '..Said'. Prove '..Said' where nothing that the law and all that it calls make is longer than what came in: it says more and counts as full. Else prove '..UptoSaid'. A law counts once. -/
mutual
def uptoBulk {H : Type} : DataW H → Nat
  | .lit (.string bytes) => bytes.length + 1
  | .lit _ => 1
  | .nil => 1
  | .ptr d => uptoBulk d + 1
  | .slice elems spare => uptoBulkAll elems + uptoBulkAll spare + 1
  | .agg parts => uptoBulkAll parts + 1
  | .iface _ d => uptoBulk d + 1
  | .map entries => uptoBulkEntries entries + 1
  | .held _ => 1
def uptoBulkAll {H : Type} : List (DataW H) → Nat
  | [] => 0
  | d :: r => uptoBulk d + uptoBulkAll r
def uptoBulkEntries {H : Type} : List (Lit × DataW H) → Nat
  | [] => 0
  | x :: r => uptoBulkEntry x + uptoBulkEntries r
def uptoBulkEntry {H : Type} : Lit × DataW H → Nat
  | (.string bytes, d) => bytes.length + uptoBulk d + 1
  | (_, d) => uptoBulk d + 1
 end
def uptoSmall : (H : Type) → List (DataW H) → Bool := fun _ ds => decide (uptoBulkAll ds ≤ 1048576)
def OpenSpec.upto (s : _root_.Go.ChangeSpec) : _root_.Go.OpenSpec := { _root_.Go.OpenSpec.ofChange s with cond := some uptoSmall }

/-- 'trailheadlaw06.HeaderBytes', WHERE WHAT IT READS IS OF BULK AT MOST 1048576: true; the input reads as it did. -/
def headerBytesUptoRow : OpenClaim := { program := "ytfnicmmebphpkaadoor", sum := "ebe13889bb9c5dbf0f4f67272e5b4fc29e18cfef7e382a301001ff192ee702e7", func := "trailhead/trailheadlaw06.HeaderBytes", spec := "headerBytes", inPlace := ["internal/abi.NoEscape", "internal/bytealg.MakeNoZero"], named := ["trailhead/digest.start", "trailhead/digest.rounds"], apart := false, laid := [("trailhead/digest.start", laid_trailhead_digest_start), ("trailhead/digest.rounds", laid_trailhead_digest_rounds)], narrowed := true }
def HeaderBytesUptoSaid : Prop := headerBytesUptoRow.holds Tryd.pinned (OpenSpec.upto headerBytesSpec)

/-- 'trailheadlaw06.HeaderReads', WHERE WHAT IT READS IS OF BULK AT MOST 1048576: true; the input reads as it did. -/
def headerReadsUptoRow : OpenClaim := { program := "ytfnicmmebphpkaadoor", sum := "ebe13889bb9c5dbf0f4f67272e5b4fc29e18cfef7e382a301001ff192ee702e7", func := "trailhead/trailheadlaw06.HeaderReads", spec := "headerReads", inPlace := ["internal/abi.NoEscape", "internal/bytealg.MakeNoZero"], named := ["trailhead/digest.start", "trailhead/digest.rounds"], apart := false, laid := [("trailhead/digest.start", laid_trailhead_digest_start), ("trailhead/digest.rounds", laid_trailhead_digest_rounds)], narrowed := true }
def HeaderReadsUptoSaid : Prop := headerReadsUptoRow.holds Tryd.pinned (OpenSpec.upto headerReadsSpec)

/-- 'trailheadlaw06.HeaderFollows', WHERE WHAT IT READS IS OF BULK AT MOST 1048576: true; the input reads as it did. -/
def headerFollowsUptoRow : OpenClaim := { program := "ytfnicmmebphpkaadoor", sum := "ebe13889bb9c5dbf0f4f67272e5b4fc29e18cfef7e382a301001ff192ee702e7", func := "trailhead/trailheadlaw06.HeaderFollows", spec := "headerFollows", inPlace := ["internal/abi.NoEscape", "internal/bytealg.MakeNoZero"], named := ["trailhead/digest.start", "trailhead/digest.rounds"], apart := false, laid := [("trailhead/digest.start", laid_trailhead_digest_start), ("trailhead/digest.rounds", laid_trailhead_digest_rounds)], narrowed := true }
def HeaderFollowsUptoSaid : Prop := headerFollowsUptoRow.holds Tryd.pinned (OpenSpec.upto headerFollowsSpec)

/-- 'trailheadlaw06.HeaderSeeks', WHERE WHAT IT READS IS OF BULK AT MOST 1048576: true; the input reads as it did. -/
def headerSeeksUptoRow : OpenClaim := { program := "ytfnicmmebphpkaadoor", sum := "ebe13889bb9c5dbf0f4f67272e5b4fc29e18cfef7e382a301001ff192ee702e7", func := "trailhead/trailheadlaw06.HeaderSeeks", spec := "headerSeeks", inPlace := ["internal/abi.NoEscape", "internal/bytealg.MakeNoZero"], named := ["trailhead/digest.start", "trailhead/digest.rounds"], apart := false, laid := [("trailhead/digest.start", laid_trailhead_digest_start), ("trailhead/digest.rounds", laid_trailhead_digest_rounds)], narrowed := true }
def HeaderSeeksUptoSaid : Prop := headerSeeksUptoRow.holds Tryd.pinned (OpenSpec.upto headerSeeksSpec)

/-- 'trailheadlaw06.HeaderUnlike', WHERE WHAT IT READS IS OF BULK AT MOST 1048576: true; the input reads as it did. -/
def headerUnlikeUptoRow : OpenClaim := { program := "ytfnicmmebphpkaadoor", sum := "ebe13889bb9c5dbf0f4f67272e5b4fc29e18cfef7e382a301001ff192ee702e7", func := "trailhead/trailheadlaw06.HeaderUnlike", spec := "headerUnlike", inPlace := ["internal/abi.NoEscape", "internal/bytealg.MakeNoZero"], named := ["trailhead/digest.start", "trailhead/digest.rounds"], apart := false, laid := [("trailhead/digest.start", laid_trailhead_digest_start), ("trailhead/digest.rounds", laid_trailhead_digest_rounds)], narrowed := true }
def HeaderUnlikeUptoSaid : Prop := headerUnlikeUptoRow.holds Tryd.pinned (OpenSpec.upto headerUnlikeSpec)

/-- 'trailheadlaw06.HeaderMines', WHERE WHAT IT READS IS OF BULK AT MOST 1048576: true; the input reads as it did. -/
def headerMinesUptoRow : OpenClaim := { program := "ytfnicmmebphpkaadoor", sum := "ebe13889bb9c5dbf0f4f67272e5b4fc29e18cfef7e382a301001ff192ee702e7", func := "trailhead/trailheadlaw06.HeaderMines", spec := "headerMines", inPlace := ["internal/abi.NoEscape", "internal/bytealg.MakeNoZero"], named := ["trailhead/digest.start", "trailhead/digest.rounds"], apart := false, laid := [("trailhead/digest.start", laid_trailhead_digest_start), ("trailhead/digest.rounds", laid_trailhead_digest_rounds)], narrowed := true }
def HeaderMinesUptoSaid : Prop := headerMinesUptoRow.holds Tryd.pinned (OpenSpec.upto headerMinesSpec)

end Rows
end Go.Proofs.YtfnicmmebphpkaaDoor
