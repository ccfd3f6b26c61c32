/-
  NARROWER THAN 'FOR EVERY INPUT', by the rows' own cells (each row's printed sentence says how): MatchLeftmost: loops, laid · MatchGroups: laid · MatchPlain: laid · MatchRounds: laid · MatchAnchored: laid · MatchEither: laid · MatchRun: laid · ReplaceItself: laid · ReplaceBetween: laid · ReplaceLong: laid · ReplaceCounts: laid.
  DERIVED. THE GIVEN ROWS OF THIS SEAT. 11 by the template 'for every input the law returns true; each argument reads behind the call as it read before'; 0 by the template 'total and deterministic' (their statements: YtflkfleihlceeaaGreatDoorTotals.lean).
  GIVEN WITH THE SEED: the statements are not yours to turn. If you find one false, say at which input.
  Laid BY PROGRAM, IN A SANDBOX (cutbox-rows.mjs): the forced cells as the released guide's own fill.sh prints them over the translation 21916a29f79560d2… (all of the seat's roots in one cut). By AI agents, Wed Nov 11 2026. No macro, syntax, notation, axiom, sorry.
-/
import Derived.Test.YtflkfleihlceeaaGreatDoorChecked
import GoSem.Claim
import GoSem.ClaimJoined
import GoSem.ClaimMapViews
import Derived.JoinedTies
import Derived.KernelRfl
namespace Go.Proofs.YtflkfleihlceeaaGreatDoor
/- THE CELL 'sum', in the pinned program and in every row, IS THE sha256 OF THE DUMP (.gsa) THAT YtflkfleihlceeaaGreatDoorProg.lean LOADS. Nothing in Lean hashes anything: it is a label: what it is worth is what the hold of that sum in a sandbox is worth. -/
noncomputable def Tryz.pinned : Pinned := { name := "ytflkfleihlceeaagreatdoor", sum := "21916a29f79560d2e221a8f01e8bfe0ecf25586c60141182c5e5ce3cbc21c631", checked := Tryz.checked }
namespace Rows
def none {H : Type} : Left H := { results := [], args := [] }

/- WHAT THE LISTED PACKAGE-LEVEL VARIABLES READ AS WHEN THE CALL BEGINS. Each datum BY PROGRAM (the guide's laid-datum.mjs) off the statement by which the dump's own 'gosem.cut.vars' lays the variable. In a bare row this is a premise. The card (YtflkfleihlceeaaGreatDoorCards.lean) ties it to the program's text. -/
def laid_math_bits_deBruijn64tab {H : Type} : DataW H := .agg [.lit (.int .u8 0), .lit (.int .u8 1), .lit (.int .u8 56), .lit (.int .u8 2), .lit (.int .u8 57), .lit (.int .u8 49), .lit (.int .u8 28), .lit (.int .u8 3), .lit (.int .u8 61), .lit (.int .u8 58), .lit (.int .u8 42), .lit (.int .u8 50), .lit (.int .u8 38), .lit (.int .u8 29), .lit (.int .u8 17), .lit (.int .u8 4), .lit (.int .u8 62), .lit (.int .u8 47), .lit (.int .u8 59), .lit (.int .u8 36), .lit (.int .u8 45), .lit (.int .u8 43), .lit (.int .u8 51), .lit (.int .u8 22), .lit (.int .u8 53), .lit (.int .u8 39), .lit (.int .u8 33), .lit (.int .u8 30), .lit (.int .u8 24), .lit (.int .u8 18), .lit (.int .u8 12), .lit (.int .u8 5), .lit (.int .u8 63), .lit (.int .u8 55), .lit (.int .u8 48), .lit (.int .u8 27), .lit (.int .u8 60), .lit (.int .u8 41), .lit (.int .u8 37), .lit (.int .u8 16), .lit (.int .u8 46), .lit (.int .u8 35), .lit (.int .u8 44), .lit (.int .u8 21), .lit (.int .u8 52), .lit (.int .u8 32), .lit (.int .u8 23), .lit (.int .u8 11), .lit (.int .u8 54), .lit (.int .u8 26), .lit (.int .u8 40), .lit (.int .u8 15), .lit (.int .u8 34), .lit (.int .u8 20), .lit (.int .u8 31), .lit (.int .u8 10), .lit (.int .u8 25), .lit (.int .u8 14), .lit (.int .u8 19), .lit (.int .u8 9), .lit (.int .u8 13), .lit (.int .u8 8), .lit (.int .u8 7), .lit (.int .u8 6)]

/-- 'headgatelaw10.MatchLeftmost': WHATEVER THE INPUT: true; the input reads as it did. -/
def matchLeftmostSpec : ChangeSpec := { name := "matchLeftmost", fn := fun _ => fun
  | [d1, d2, d3] => { results := [.lit (.bool true)], args := [d1, d2, d3] }
  | _ => none }
def matchLeftmostRow : OpenClaim := { program := "ytflkfleihlceeaagreatdoor", sum := "21916a29f79560d2e221a8f01e8bfe0ecf25586c60141182c5e5ce3cbc21c631", func := "headgate/headgatelaw10.MatchLeftmost", spec := "matchLeftmost", inPlace := ["internal/bytealg.IndexByteString", "internal/bytealg.IndexString"], unfollowed := true, recurses := true, named := ["internal/bytealg.MaxLen", "math/bits.deBruijn64tab"], loops := true, plainKeys := false, apart := false, laid := [("math/bits.deBruijn64tab", laid_math_bits_deBruijn64tab)] }
def MatchLeftmostSaid : Prop := matchLeftmostRow.holds Tryz.pinned (OpenSpec.ofChange matchLeftmostSpec)

/-- ITS FALSE NEIGHBOUR: 'it returns false'. Refute it at one input. -/
def matchLeftmostWrong : ChangeSpec := { name := "matchLeftmost", fn := fun _ => fun
  | [d1, d2, d3] => { results := [.lit (.bool false)], args := [d1, d2, d3] }
  | _ => none }
def MatchLeftmostWrongFalsely : Prop := matchLeftmostRow.holds Tryz.pinned (OpenSpec.ofChange matchLeftmostWrong)

/-- 'headgatelaw10.MatchGroups': WHATEVER THE INPUT: true; the input reads as it did. -/
def matchGroupsSpec : ChangeSpec := { name := "matchGroups", fn := fun _ => fun
  | [d1, d2, d3] => { results := [.lit (.bool true)], args := [d1, d2, d3] }
  | _ => none }
def matchGroupsRow : OpenClaim := { program := "ytflkfleihlceeaagreatdoor", sum := "21916a29f79560d2e221a8f01e8bfe0ecf25586c60141182c5e5ce3cbc21c631", func := "headgate/headgatelaw10.MatchGroups", spec := "matchGroups", inPlace := ["internal/bytealg.IndexByteString", "internal/bytealg.IndexString"], unfollowed := true, recurses := true, named := ["internal/bytealg.MaxLen", "math/bits.deBruijn64tab"], plainKeys := false, apart := false, laid := [("math/bits.deBruijn64tab", laid_math_bits_deBruijn64tab)] }
def MatchGroupsSaid : Prop := matchGroupsRow.holds Tryz.pinned (OpenSpec.ofChange matchGroupsSpec)

/-- ITS FALSE NEIGHBOUR: 'it returns false'. Refute it at one input. -/
def matchGroupsWrong : ChangeSpec := { name := "matchGroups", fn := fun _ => fun
  | [d1, d2, d3] => { results := [.lit (.bool false)], args := [d1, d2, d3] }
  | _ => none }
def MatchGroupsWrongFalsely : Prop := matchGroupsRow.holds Tryz.pinned (OpenSpec.ofChange matchGroupsWrong)

/-- 'headgatelaw10.MatchPlain': WHATEVER THE INPUT: true; the input reads as it did. -/
def matchPlainSpec : ChangeSpec := { name := "matchPlain", fn := fun _ => fun
  | [d1, d2, d3] => { results := [.lit (.bool true)], args := [d1, d2, d3] }
  | _ => none }
def matchPlainRow : OpenClaim := { program := "ytflkfleihlceeaagreatdoor", sum := "21916a29f79560d2e221a8f01e8bfe0ecf25586c60141182c5e5ce3cbc21c631", func := "headgate/headgatelaw10.MatchPlain", spec := "matchPlain", inPlace := ["internal/bytealg.IndexByteString", "internal/bytealg.IndexString"], unfollowed := true, recurses := true, named := ["internal/bytealg.MaxLen", "math/bits.deBruijn64tab"], plainKeys := false, apart := false, laid := [("math/bits.deBruijn64tab", laid_math_bits_deBruijn64tab)] }
def MatchPlainSaid : Prop := matchPlainRow.holds Tryz.pinned (OpenSpec.ofChange matchPlainSpec)

/-- ITS FALSE NEIGHBOUR: 'it returns false'. Refute it at one input. -/
def matchPlainWrong : ChangeSpec := { name := "matchPlain", fn := fun _ => fun
  | [d1, d2, d3] => { results := [.lit (.bool false)], args := [d1, d2, d3] }
  | _ => none }
def MatchPlainWrongFalsely : Prop := matchPlainRow.holds Tryz.pinned (OpenSpec.ofChange matchPlainWrong)

/-- 'headgatelaw10.MatchRounds': WHATEVER THE INPUT: true; the input reads as it did. -/
def matchRoundsSpec : ChangeSpec := { name := "matchRounds", fn := fun _ => fun
  | [d1, d2, d3] => { results := [.lit (.bool true)], args := [d1, d2, d3] }
  | _ => none }
def matchRoundsRow : OpenClaim := { program := "ytflkfleihlceeaagreatdoor", sum := "21916a29f79560d2e221a8f01e8bfe0ecf25586c60141182c5e5ce3cbc21c631", func := "headgate/headgatelaw10.MatchRounds", spec := "matchRounds", inPlace := ["internal/bytealg.IndexByteString", "internal/bytealg.IndexString"], unfollowed := true, recurses := true, named := ["internal/bytealg.MaxLen", "math/bits.deBruijn64tab"], plainKeys := false, apart := false, laid := [("math/bits.deBruijn64tab", laid_math_bits_deBruijn64tab)] }
def MatchRoundsSaid : Prop := matchRoundsRow.holds Tryz.pinned (OpenSpec.ofChange matchRoundsSpec)

/-- ITS FALSE NEIGHBOUR: 'it returns false'. Refute it at one input. -/
def matchRoundsWrong : ChangeSpec := { name := "matchRounds", fn := fun _ => fun
  | [d1, d2, d3] => { results := [.lit (.bool false)], args := [d1, d2, d3] }
  | _ => none }
def MatchRoundsWrongFalsely : Prop := matchRoundsRow.holds Tryz.pinned (OpenSpec.ofChange matchRoundsWrong)

/-- 'headgatelaw10.MatchAnchored': WHATEVER THE INPUT: true; the input reads as it did. -/
def matchAnchoredSpec : ChangeSpec := { name := "matchAnchored", fn := fun _ => fun
  | [d1, d2, d3] => { results := [.lit (.bool true)], args := [d1, d2, d3] }
  | _ => none }
def matchAnchoredRow : OpenClaim := { program := "ytflkfleihlceeaagreatdoor", sum := "21916a29f79560d2e221a8f01e8bfe0ecf25586c60141182c5e5ce3cbc21c631", func := "headgate/headgatelaw10.MatchAnchored", spec := "matchAnchored", inPlace := ["internal/bytealg.IndexByteString", "internal/bytealg.IndexString"], unfollowed := true, recurses := true, named := ["internal/bytealg.MaxLen", "math/bits.deBruijn64tab"], plainKeys := false, apart := false, laid := [("math/bits.deBruijn64tab", laid_math_bits_deBruijn64tab)] }
def MatchAnchoredSaid : Prop := matchAnchoredRow.holds Tryz.pinned (OpenSpec.ofChange matchAnchoredSpec)

/-- ITS FALSE NEIGHBOUR: 'it returns false'. Refute it at one input. -/
def matchAnchoredWrong : ChangeSpec := { name := "matchAnchored", fn := fun _ => fun
  | [d1, d2, d3] => { results := [.lit (.bool false)], args := [d1, d2, d3] }
  | _ => none }
def MatchAnchoredWrongFalsely : Prop := matchAnchoredRow.holds Tryz.pinned (OpenSpec.ofChange matchAnchoredWrong)

/-- 'headgatelaw10.MatchEither': WHATEVER THE INPUT: true; the input reads as it did. -/
def matchEitherSpec : ChangeSpec := { name := "matchEither", fn := fun _ => fun
  | [d1, d2] => { results := [.lit (.bool true)], args := [d1, d2] }
  | _ => none }
def matchEitherRow : OpenClaim := { program := "ytflkfleihlceeaagreatdoor", sum := "21916a29f79560d2e221a8f01e8bfe0ecf25586c60141182c5e5ce3cbc21c631", func := "headgate/headgatelaw10.MatchEither", spec := "matchEither", inPlace := ["internal/bytealg.IndexByteString", "internal/bytealg.IndexString"], unfollowed := true, recurses := true, named := ["internal/bytealg.MaxLen", "math/bits.deBruijn64tab"], plainKeys := false, apart := false, laid := [("math/bits.deBruijn64tab", laid_math_bits_deBruijn64tab)] }
def MatchEitherSaid : Prop := matchEitherRow.holds Tryz.pinned (OpenSpec.ofChange matchEitherSpec)

/-- ITS FALSE NEIGHBOUR: 'it returns false'. Refute it at one input. -/
def matchEitherWrong : ChangeSpec := { name := "matchEither", fn := fun _ => fun
  | [d1, d2] => { results := [.lit (.bool false)], args := [d1, d2] }
  | _ => none }
def MatchEitherWrongFalsely : Prop := matchEitherRow.holds Tryz.pinned (OpenSpec.ofChange matchEitherWrong)

/-- 'headgatelaw10.MatchRun': WHATEVER THE INPUT: true; the input reads as it did. -/
def matchRunSpec : ChangeSpec := { name := "matchRun", fn := fun _ => fun
  | [d1, d2] => { results := [.lit (.bool true)], args := [d1, d2] }
  | _ => none }
def matchRunRow : OpenClaim := { program := "ytflkfleihlceeaagreatdoor", sum := "21916a29f79560d2e221a8f01e8bfe0ecf25586c60141182c5e5ce3cbc21c631", func := "headgate/headgatelaw10.MatchRun", spec := "matchRun", inPlace := ["internal/bytealg.IndexByteString", "internal/bytealg.IndexString"], unfollowed := true, recurses := true, named := ["internal/bytealg.MaxLen", "math/bits.deBruijn64tab"], plainKeys := false, apart := false, laid := [("math/bits.deBruijn64tab", laid_math_bits_deBruijn64tab)] }
def MatchRunSaid : Prop := matchRunRow.holds Tryz.pinned (OpenSpec.ofChange matchRunSpec)

/-- ITS FALSE NEIGHBOUR: 'it returns false'. Refute it at one input. -/
def matchRunWrong : ChangeSpec := { name := "matchRun", fn := fun _ => fun
  | [d1, d2] => { results := [.lit (.bool false)], args := [d1, d2] }
  | _ => none }
def MatchRunWrongFalsely : Prop := matchRunRow.holds Tryz.pinned (OpenSpec.ofChange matchRunWrong)

/-- 'headgatelaw11.ReplaceItself': WHATEVER THE INPUT: true; the input reads as it did. -/
def replaceItselfSpec : ChangeSpec := { name := "replaceItself", fn := fun _ => fun
  | [d1, d2, d3] => { results := [.lit (.bool true)], args := [d1, d2, d3] }
  | _ => none }
def replaceItselfRow : OpenClaim := { program := "ytflkfleihlceeaagreatdoor", sum := "21916a29f79560d2e221a8f01e8bfe0ecf25586c60141182c5e5ce3cbc21c631", func := "headgate/headgatelaw11.ReplaceItself", spec := "replaceItself", inPlace := ["internal/bytealg.IndexByteString", "internal/bytealg.IndexString"], unfollowed := true, recurses := true, named := ["internal/bytealg.MaxLen", "math/bits.deBruijn64tab"], plainKeys := false, apart := false, laid := [("math/bits.deBruijn64tab", laid_math_bits_deBruijn64tab)] }
def ReplaceItselfSaid : Prop := replaceItselfRow.holds Tryz.pinned (OpenSpec.ofChange replaceItselfSpec)

/-- ITS FALSE NEIGHBOUR: 'it returns false'. Refute it at one input. -/
def replaceItselfWrong : ChangeSpec := { name := "replaceItself", fn := fun _ => fun
  | [d1, d2, d3] => { results := [.lit (.bool false)], args := [d1, d2, d3] }
  | _ => none }
def ReplaceItselfWrongFalsely : Prop := replaceItselfRow.holds Tryz.pinned (OpenSpec.ofChange replaceItselfWrong)

/-- 'headgatelaw11.ReplaceBetween': WHATEVER THE INPUT: true; the input reads as it did. -/
def replaceBetweenSpec : ChangeSpec := { name := "replaceBetween", fn := fun _ => fun
  | [d1, d2, d3] => { results := [.lit (.bool true)], args := [d1, d2, d3] }
  | _ => none }
def replaceBetweenRow : OpenClaim := { program := "ytflkfleihlceeaagreatdoor", sum := "21916a29f79560d2e221a8f01e8bfe0ecf25586c60141182c5e5ce3cbc21c631", func := "headgate/headgatelaw11.ReplaceBetween", spec := "replaceBetween", inPlace := ["internal/bytealg.IndexByteString", "internal/bytealg.IndexString"], unfollowed := true, recurses := true, named := ["internal/bytealg.MaxLen", "math/bits.deBruijn64tab"], plainKeys := false, apart := false, laid := [("math/bits.deBruijn64tab", laid_math_bits_deBruijn64tab)] }
def ReplaceBetweenSaid : Prop := replaceBetweenRow.holds Tryz.pinned (OpenSpec.ofChange replaceBetweenSpec)

/-- ITS FALSE NEIGHBOUR: 'it returns false'. Refute it at one input. -/
def replaceBetweenWrong : ChangeSpec := { name := "replaceBetween", fn := fun _ => fun
  | [d1, d2, d3] => { results := [.lit (.bool false)], args := [d1, d2, d3] }
  | _ => none }
def ReplaceBetweenWrongFalsely : Prop := replaceBetweenRow.holds Tryz.pinned (OpenSpec.ofChange replaceBetweenWrong)

/-- 'headgatelaw11.ReplaceLong': WHATEVER THE INPUT: true; the input reads as it did. -/
def replaceLongSpec : ChangeSpec := { name := "replaceLong", fn := fun _ => fun
  | [d1, d2] => { results := [.lit (.bool true)], args := [d1, d2] }
  | _ => none }
def replaceLongRow : OpenClaim := { program := "ytflkfleihlceeaagreatdoor", sum := "21916a29f79560d2e221a8f01e8bfe0ecf25586c60141182c5e5ce3cbc21c631", func := "headgate/headgatelaw11.ReplaceLong", spec := "replaceLong", inPlace := ["internal/bytealg.IndexByteString", "internal/bytealg.IndexString"], unfollowed := true, recurses := true, named := ["internal/bytealg.MaxLen", "math/bits.deBruijn64tab"], plainKeys := false, apart := false, laid := [("math/bits.deBruijn64tab", laid_math_bits_deBruijn64tab)] }
def ReplaceLongSaid : Prop := replaceLongRow.holds Tryz.pinned (OpenSpec.ofChange replaceLongSpec)

/-- ITS FALSE NEIGHBOUR: 'it returns false'. Refute it at one input. -/
def replaceLongWrong : ChangeSpec := { name := "replaceLong", fn := fun _ => fun
  | [d1, d2] => { results := [.lit (.bool false)], args := [d1, d2] }
  | _ => none }
def ReplaceLongWrongFalsely : Prop := replaceLongRow.holds Tryz.pinned (OpenSpec.ofChange replaceLongWrong)

/-- 'headgatelaw11.ReplaceCounts': WHATEVER THE INPUT: true; the input reads as it did. -/
def replaceCountsSpec : ChangeSpec := { name := "replaceCounts", fn := fun _ => fun
  | [d1, d2, d3] => { results := [.lit (.bool true)], args := [d1, d2, d3] }
  | _ => none }
def replaceCountsRow : OpenClaim := { program := "ytflkfleihlceeaagreatdoor", sum := "21916a29f79560d2e221a8f01e8bfe0ecf25586c60141182c5e5ce3cbc21c631", func := "headgate/headgatelaw11.ReplaceCounts", spec := "replaceCounts", inPlace := ["internal/bytealg.IndexByteString", "internal/bytealg.IndexString"], unfollowed := true, recurses := true, named := ["internal/bytealg.MaxLen", "math/bits.deBruijn64tab"], plainKeys := false, apart := false, laid := [("math/bits.deBruijn64tab", laid_math_bits_deBruijn64tab)] }
def ReplaceCountsSaid : Prop := replaceCountsRow.holds Tryz.pinned (OpenSpec.ofChange replaceCountsSpec)

/-- ITS FALSE NEIGHBOUR: 'it returns false'. Refute it at one input. -/
def replaceCountsWrong : ChangeSpec := { name := "replaceCounts", fn := fun _ => fun
  | [d1, d2, d3] => { results := [.lit (.bool false)], args := [d1, d2, d3] }
  | _ => none }
def ReplaceCountsWrongFalsely : Prop := replaceCountsRow.holds Tryz.pinned (OpenSpec.ofChange replaceCountsWrong)

/- THE SECOND FORM. 'bulk': how many values and letters a reading holds, each counted each time it is reached (what is shared counts as often as it is met; a slice's spare places count too). A statement '..UptoSaid' is the law's where the arguments, and the package variables that the reading takes, are together of bulk at most 1048576: NARROWER than '..Said'. Prove '..Said' where nothing that the law and all that it calls make is longer than what came in: it says more and counts as full. Else prove '..UptoSaid'. A law counts once. -/
mutual
def uptoBulk {H : Type} : DataW H → Nat
  | .lit (.string bytes) => bytes.length + 1
  | .lit _ => 1
  | .nil => 1
  | .ptr d => uptoBulk d + 1
  | .slice elems spare => uptoBulkAll elems + uptoBulkAll spare + 1
  | .agg parts => uptoBulkAll parts + 1
  | .iface _ d => uptoBulk d + 1
  | .map entries => uptoBulkEntries entries + 1
  | .held _ => 1
def uptoBulkAll {H : Type} : List (DataW H) → Nat
  | [] => 0
  | d :: r => uptoBulk d + uptoBulkAll r
def uptoBulkEntries {H : Type} : List (Lit × DataW H) → Nat
  | [] => 0
  | x :: r => uptoBulkEntry x + uptoBulkEntries r
def uptoBulkEntry {H : Type} : Lit × DataW H → Nat
  | (.string bytes, d) => bytes.length + uptoBulk d + 1
  | (_, d) => uptoBulk d + 1
 end
def uptoSmall : (H : Type) → List (DataW H) → Bool := fun _ ds => decide (uptoBulkAll ds ≤ 1048576)
def OpenSpec.upto (s : _root_.Go.ChangeSpec) : _root_.Go.OpenSpec := { _root_.Go.OpenSpec.ofChange s with cond := some uptoSmall }

/-- 'headgatelaw10.MatchLeftmost', WHERE WHAT IT READS IS OF BULK AT MOST 1048576: true; the input reads as it did. -/
def matchLeftmostUptoRow : OpenClaim := { program := "ytflkfleihlceeaagreatdoor", sum := "21916a29f79560d2e221a8f01e8bfe0ecf25586c60141182c5e5ce3cbc21c631", func := "headgate/headgatelaw10.MatchLeftmost", spec := "matchLeftmost", inPlace := ["internal/bytealg.IndexByteString", "internal/bytealg.IndexString"], unfollowed := true, recurses := true, named := ["internal/bytealg.MaxLen", "math/bits.deBruijn64tab"], loops := true, plainKeys := false, apart := false, laid := [("math/bits.deBruijn64tab", laid_math_bits_deBruijn64tab)], narrowed := true }
def MatchLeftmostUptoSaid : Prop := matchLeftmostUptoRow.holds Tryz.pinned (OpenSpec.upto matchLeftmostSpec)

/-- 'headgatelaw10.MatchGroups', WHERE WHAT IT READS IS OF BULK AT MOST 1048576: true; the input reads as it did. -/
def matchGroupsUptoRow : OpenClaim := { program := "ytflkfleihlceeaagreatdoor", sum := "21916a29f79560d2e221a8f01e8bfe0ecf25586c60141182c5e5ce3cbc21c631", func := "headgate/headgatelaw10.MatchGroups", spec := "matchGroups", inPlace := ["internal/bytealg.IndexByteString", "internal/bytealg.IndexString"], unfollowed := true, recurses := true, named := ["internal/bytealg.MaxLen", "math/bits.deBruijn64tab"], plainKeys := false, apart := false, laid := [("math/bits.deBruijn64tab", laid_math_bits_deBruijn64tab)], narrowed := true }
def MatchGroupsUptoSaid : Prop := matchGroupsUptoRow.holds Tryz.pinned (OpenSpec.upto matchGroupsSpec)

/-- 'headgatelaw10.MatchPlain', WHERE WHAT IT READS IS OF BULK AT MOST 1048576: true; the input reads as it did. -/
def matchPlainUptoRow : OpenClaim := { program := "ytflkfleihlceeaagreatdoor", sum := "21916a29f79560d2e221a8f01e8bfe0ecf25586c60141182c5e5ce3cbc21c631", func := "headgate/headgatelaw10.MatchPlain", spec := "matchPlain", inPlace := ["internal/bytealg.IndexByteString", "internal/bytealg.IndexString"], unfollowed := true, recurses := true, named := ["internal/bytealg.MaxLen", "math/bits.deBruijn64tab"], plainKeys := false, apart := false, laid := [("math/bits.deBruijn64tab", laid_math_bits_deBruijn64tab)], narrowed := true }
def MatchPlainUptoSaid : Prop := matchPlainUptoRow.holds Tryz.pinned (OpenSpec.upto matchPlainSpec)

/-- 'headgatelaw10.MatchRounds', WHERE WHAT IT READS IS OF BULK AT MOST 1048576: true; the input reads as it did. -/
def matchRoundsUptoRow : OpenClaim := { program := "ytflkfleihlceeaagreatdoor", sum := "21916a29f79560d2e221a8f01e8bfe0ecf25586c60141182c5e5ce3cbc21c631", func := "headgate/headgatelaw10.MatchRounds", spec := "matchRounds", inPlace := ["internal/bytealg.IndexByteString", "internal/bytealg.IndexString"], unfollowed := true, recurses := true, named := ["internal/bytealg.MaxLen", "math/bits.deBruijn64tab"], plainKeys := false, apart := false, laid := [("math/bits.deBruijn64tab", laid_math_bits_deBruijn64tab)], narrowed := true }
def MatchRoundsUptoSaid : Prop := matchRoundsUptoRow.holds Tryz.pinned (OpenSpec.upto matchRoundsSpec)

/-- 'headgatelaw10.MatchAnchored', WHERE WHAT IT READS IS OF BULK AT MOST 1048576: true; the input reads as it did. -/
def matchAnchoredUptoRow : OpenClaim := { program := "ytflkfleihlceeaagreatdoor", sum := "21916a29f79560d2e221a8f01e8bfe0ecf25586c60141182c5e5ce3cbc21c631", func := "headgate/headgatelaw10.MatchAnchored", spec := "matchAnchored", inPlace := ["internal/bytealg.IndexByteString", "internal/bytealg.IndexString"], unfollowed := true, recurses := true, named := ["internal/bytealg.MaxLen", "math/bits.deBruijn64tab"], plainKeys := false, apart := false, laid := [("math/bits.deBruijn64tab", laid_math_bits_deBruijn64tab)], narrowed := true }
def MatchAnchoredUptoSaid : Prop := matchAnchoredUptoRow.holds Tryz.pinned (OpenSpec.upto matchAnchoredSpec)

/-- 'headgatelaw10.MatchEither', WHERE WHAT IT READS IS OF BULK AT MOST 1048576: true; the input reads as it did. -/
def matchEitherUptoRow : OpenClaim := { program := "ytflkfleihlceeaagreatdoor", sum := "21916a29f79560d2e221a8f01e8bfe0ecf25586c60141182c5e5ce3cbc21c631", func := "headgate/headgatelaw10.MatchEither", spec := "matchEither", inPlace := ["internal/bytealg.IndexByteString", "internal/bytealg.IndexString"], unfollowed := true, recurses := true, named := ["internal/bytealg.MaxLen", "math/bits.deBruijn64tab"], plainKeys := false, apart := false, laid := [("math/bits.deBruijn64tab", laid_math_bits_deBruijn64tab)], narrowed := true }
def MatchEitherUptoSaid : Prop := matchEitherUptoRow.holds Tryz.pinned (OpenSpec.upto matchEitherSpec)

/-- 'headgatelaw10.MatchRun', WHERE WHAT IT READS IS OF BULK AT MOST 1048576: true; the input reads as it did. -/
def matchRunUptoRow : OpenClaim := { program := "ytflkfleihlceeaagreatdoor", sum := "21916a29f79560d2e221a8f01e8bfe0ecf25586c60141182c5e5ce3cbc21c631", func := "headgate/headgatelaw10.MatchRun", spec := "matchRun", inPlace := ["internal/bytealg.IndexByteString", "internal/bytealg.IndexString"], unfollowed := true, recurses := true, named := ["internal/bytealg.MaxLen", "math/bits.deBruijn64tab"], plainKeys := false, apart := false, laid := [("math/bits.deBruijn64tab", laid_math_bits_deBruijn64tab)], narrowed := true }
def MatchRunUptoSaid : Prop := matchRunUptoRow.holds Tryz.pinned (OpenSpec.upto matchRunSpec)

/-- 'headgatelaw11.ReplaceItself', WHERE WHAT IT READS IS OF BULK AT MOST 1048576: true; the input reads as it did. -/
def replaceItselfUptoRow : OpenClaim := { program := "ytflkfleihlceeaagreatdoor", sum := "21916a29f79560d2e221a8f01e8bfe0ecf25586c60141182c5e5ce3cbc21c631", func := "headgate/headgatelaw11.ReplaceItself", spec := "replaceItself", inPlace := ["internal/bytealg.IndexByteString", "internal/bytealg.IndexString"], unfollowed := true, recurses := true, named := ["internal/bytealg.MaxLen", "math/bits.deBruijn64tab"], plainKeys := false, apart := false, laid := [("math/bits.deBruijn64tab", laid_math_bits_deBruijn64tab)], narrowed := true }
def ReplaceItselfUptoSaid : Prop := replaceItselfUptoRow.holds Tryz.pinned (OpenSpec.upto replaceItselfSpec)

/-- 'headgatelaw11.ReplaceBetween', WHERE WHAT IT READS IS OF BULK AT MOST 1048576: true; the input reads as it did. -/
def replaceBetweenUptoRow : OpenClaim := { program := "ytflkfleihlceeaagreatdoor", sum := "21916a29f79560d2e221a8f01e8bfe0ecf25586c60141182c5e5ce3cbc21c631", func := "headgate/headgatelaw11.ReplaceBetween", spec := "replaceBetween", inPlace := ["internal/bytealg.IndexByteString", "internal/bytealg.IndexString"], unfollowed := true, recurses := true, named := ["internal/bytealg.MaxLen", "math/bits.deBruijn64tab"], plainKeys := false, apart := false, laid := [("math/bits.deBruijn64tab", laid_math_bits_deBruijn64tab)], narrowed := true }
def ReplaceBetweenUptoSaid : Prop := replaceBetweenUptoRow.holds Tryz.pinned (OpenSpec.upto replaceBetweenSpec)

/-- 'headgatelaw11.ReplaceLong', WHERE WHAT IT READS IS OF BULK AT MOST 1048576: true; the input reads as it did. -/
def replaceLongUptoRow : OpenClaim := { program := "ytflkfleihlceeaagreatdoor", sum := "21916a29f79560d2e221a8f01e8bfe0ecf25586c60141182c5e5ce3cbc21c631", func := "headgate/headgatelaw11.ReplaceLong", spec := "replaceLong", inPlace := ["internal/bytealg.IndexByteString", "internal/bytealg.IndexString"], unfollowed := true, recurses := true, named := ["internal/bytealg.MaxLen", "math/bits.deBruijn64tab"], plainKeys := false, apart := false, laid := [("math/bits.deBruijn64tab", laid_math_bits_deBruijn64tab)], narrowed := true }
def ReplaceLongUptoSaid : Prop := replaceLongUptoRow.holds Tryz.pinned (OpenSpec.upto replaceLongSpec)

/-- 'headgatelaw11.ReplaceCounts', WHERE WHAT IT READS IS OF BULK AT MOST 1048576: true; the input reads as it did. -/
def replaceCountsUptoRow : OpenClaim := { program := "ytflkfleihlceeaagreatdoor", sum := "21916a29f79560d2e221a8f01e8bfe0ecf25586c60141182c5e5ce3cbc21c631", func := "headgate/headgatelaw11.ReplaceCounts", spec := "replaceCounts", inPlace := ["internal/bytealg.IndexByteString", "internal/bytealg.IndexString"], unfollowed := true, recurses := true, named := ["internal/bytealg.MaxLen", "math/bits.deBruijn64tab"], plainKeys := false, apart := false, laid := [("math/bits.deBruijn64tab", laid_math_bits_deBruijn64tab)], narrowed := true }
def ReplaceCountsUptoSaid : Prop := replaceCountsUptoRow.holds Tryz.pinned (OpenSpec.upto replaceCountsSpec)

end Rows
end Go.Proofs.YtflkfleihlceeaaGreatDoor
