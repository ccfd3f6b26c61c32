/-
  No cell of these rows narrows 'for every input' (looked for: loops, veiled, ifaces, maps, wideKeys, modest, calm, conditions, laid).
  DERIVED. THE GIVEN ROWS OF THIS SEAT. 5 by the template 'for every input the law returns true; each argument reads behind the call as it read before'; 0 by the template 'total and deterministic' (their statements: YtfibclaojdoonaaTotals.lean).
  GIVEN WITH THE SEED: the statements are not yours to turn. If you find one false, say at which input.
  Laid BY PROGRAM, IN A SANDBOX (cutbox-rows.mjs): the forced cells as the released guide's own fill.sh prints them over the translation 5a6d15971c4017d5… (all of the seat's roots in one cut). By AI agents, Wed Nov 11 2026. No macro, syntax, notation, axiom, sorry.
-/
import Derived.Test.YtfibclaojdoonaaChecked
import GoSem.Claim
import GoSem.ClaimJoined
import GoSem.ClaimMapViews
import Derived.JoinedTies
import Derived.KernelRfl
namespace Go.Proofs.Ytfibclaojdoonaa
/- THE CELL 'sum', in the pinned program and in every row, IS THE sha256 OF THE DUMP (.gsa) THAT YtfibclaojdoonaaProg.lean LOADS. Nothing in Lean hashes anything: it is a label: what it is worth is what the hold of that sum in a sandbox is worth. -/
noncomputable def Try.pinned : Pinned := { name := "ytfibclaojdoonaa", sum := "5a6d15971c4017d56f22fb774f64aa22b4eae2276c3c70dd696b2c8472a53b13", checked := Try.checked }
namespace Rows
def none {H : Type} : Left H := { results := [], args := [] }

/-- 'headgatelaw06.RopePlays': WHATEVER THE INPUT: true; the input reads as it did. -/
def ropePlaysSpec : ChangeSpec := { name := "ropePlays", fn := fun _ => fun
  | [d1, d2] => { results := [.lit (.bool true)], args := [d1, d2] }
  | _ => none }
def ropePlaysRow : OpenClaim := { program := "ytfibclaojdoonaa", sum := "5a6d15971c4017d56f22fb774f64aa22b4eae2276c3c70dd696b2c8472a53b13", func := "headgate/headgatelaw06.RopePlays", spec := "ropePlays", inPlace := ["internal/bytealg.CountString", "internal/bytealg.IndexByteString", "internal/bytealg.IndexString", "internal/abi.NoEscape", "internal/bytealg.MakeNoZero"], unfollowed := true, recurses := true, named := ["internal/bytealg.MaxLen"], apart := false }
def RopePlaysSaid : Prop := ropePlaysRow.holds Try.pinned (OpenSpec.ofChange ropePlaysSpec)

/-- ITS FALSE NEIGHBOUR: 'it returns false'. Refute it at one input. -/
def ropePlaysWrong : ChangeSpec := { name := "ropePlays", fn := fun _ => fun
  | [d1, d2] => { results := [.lit (.bool false)], args := [d1, d2] }
  | _ => none }
def RopePlaysWrongFalsely : Prop := ropePlaysRow.holds Try.pinned (OpenSpec.ofChange ropePlaysWrong)

/-- 'headgatelaw06.RopeLines': WHATEVER THE INPUT: true; the input reads as it did. -/
def ropeLinesSpec : ChangeSpec := { name := "ropeLines", fn := fun _ => fun
  | [d1, d2] => { results := [.lit (.bool true)], args := [d1, d2] }
  | _ => none }
def ropeLinesRow : OpenClaim := { program := "ytfibclaojdoonaa", sum := "5a6d15971c4017d56f22fb774f64aa22b4eae2276c3c70dd696b2c8472a53b13", func := "headgate/headgatelaw06.RopeLines", spec := "ropeLines", inPlace := ["internal/bytealg.CountString", "internal/bytealg.IndexByteString", "internal/bytealg.IndexString", "internal/abi.NoEscape", "internal/bytealg.MakeNoZero"], unfollowed := true, recurses := true, named := ["internal/bytealg.MaxLen"], apart := false }
def RopeLinesSaid : Prop := ropeLinesRow.holds Try.pinned (OpenSpec.ofChange ropeLinesSpec)

/-- ITS FALSE NEIGHBOUR: 'it returns false'. Refute it at one input. -/
def ropeLinesWrong : ChangeSpec := { name := "ropeLines", fn := fun _ => fun
  | [d1, d2] => { results := [.lit (.bool false)], args := [d1, d2] }
  | _ => none }
def RopeLinesWrongFalsely : Prop := ropeLinesRow.holds Try.pinned (OpenSpec.ofChange ropeLinesWrong)

/-- 'headgatelaw06.RopeCuts': WHATEVER THE INPUT: true; the input reads as it did. -/
def ropeCutsSpec : ChangeSpec := { name := "ropeCuts", fn := fun _ => fun
  | [d1, d2, d3] => { results := [.lit (.bool true)], args := [d1, d2, d3] }
  | _ => none }
def ropeCutsRow : OpenClaim := { program := "ytfibclaojdoonaa", sum := "5a6d15971c4017d56f22fb774f64aa22b4eae2276c3c70dd696b2c8472a53b13", func := "headgate/headgatelaw06.RopeCuts", spec := "ropeCuts", inPlace := ["internal/bytealg.CountString", "internal/bytealg.IndexByteString", "internal/bytealg.IndexString", "internal/abi.NoEscape", "internal/bytealg.MakeNoZero"], unfollowed := true, recurses := true, named := ["internal/bytealg.MaxLen"], apart := false }
def RopeCutsSaid : Prop := ropeCutsRow.holds Try.pinned (OpenSpec.ofChange ropeCutsSpec)

/-- ITS FALSE NEIGHBOUR: 'it returns false'. Refute it at one input. -/
def ropeCutsWrong : ChangeSpec := { name := "ropeCuts", fn := fun _ => fun
  | [d1, d2, d3] => { results := [.lit (.bool false)], args := [d1, d2, d3] }
  | _ => none }
def RopeCutsWrongFalsely : Prop := ropeCutsRow.holds Try.pinned (OpenSpec.ofChange ropeCutsWrong)

/-- 'headgatelaw06.RopeLarge': WHATEVER THE INPUT: true; the input reads as it did. -/
def ropeLargeSpec : ChangeSpec := { name := "ropeLarge", fn := fun _ => fun
  | [d1, d2] => { results := [.lit (.bool true)], args := [d1, d2] }
  | _ => none }
def ropeLargeRow : OpenClaim := { program := "ytfibclaojdoonaa", sum := "5a6d15971c4017d56f22fb774f64aa22b4eae2276c3c70dd696b2c8472a53b13", func := "headgate/headgatelaw06.RopeLarge", spec := "ropeLarge", inPlace := ["internal/bytealg.CountString", "internal/bytealg.IndexByteString", "internal/bytealg.IndexString", "internal/abi.NoEscape", "internal/bytealg.MakeNoZero"], unfollowed := true, recurses := true, named := ["internal/bytealg.MaxLen"], apart := false }
def RopeLargeSaid : Prop := ropeLargeRow.holds Try.pinned (OpenSpec.ofChange ropeLargeSpec)

/-- ITS FALSE NEIGHBOUR: 'it returns false'. Refute it at one input. -/
def ropeLargeWrong : ChangeSpec := { name := "ropeLarge", fn := fun _ => fun
  | [d1, d2] => { results := [.lit (.bool false)], args := [d1, d2] }
  | _ => none }
def RopeLargeWrongFalsely : Prop := ropeLargeRow.holds Try.pinned (OpenSpec.ofChange ropeLargeWrong)

/-- 'headgatelaw06.RopeAlike': WHATEVER THE INPUT: true; the input reads as it did. -/
def ropeAlikeSpec : ChangeSpec := { name := "ropeAlike", fn := fun _ => fun
  | [d1, d2] => { results := [.lit (.bool true)], args := [d1, d2] }
  | _ => none }
def ropeAlikeRow : OpenClaim := { program := "ytfibclaojdoonaa", sum := "5a6d15971c4017d56f22fb774f64aa22b4eae2276c3c70dd696b2c8472a53b13", func := "headgate/headgatelaw06.RopeAlike", spec := "ropeAlike", inPlace := ["internal/bytealg.CountString", "internal/bytealg.IndexByteString", "internal/bytealg.IndexString", "internal/abi.NoEscape", "internal/bytealg.MakeNoZero"], unfollowed := true, recurses := true, named := ["internal/bytealg.MaxLen"], apart := false }
def RopeAlikeSaid : Prop := ropeAlikeRow.holds Try.pinned (OpenSpec.ofChange ropeAlikeSpec)

/-- ITS FALSE NEIGHBOUR: 'it returns false'. Refute it at one input. -/
def ropeAlikeWrong : ChangeSpec := { name := "ropeAlike", fn := fun _ => fun
  | [d1, d2] => { results := [.lit (.bool false)], args := [d1, d2] }
  | _ => none }
def RopeAlikeWrongFalsely : Prop := ropeAlikeRow.holds Try.pinned (OpenSpec.ofChange ropeAlikeWrong)

/- THE SECOND FORM. 'bulk': how many values and letters a reading holds, each counted each time it is reached (what is shared counts as often as it is met; a slice's spare places count too). A statement '..UptoSaid' is the law's where the arguments, and the package variables that the reading takes, are together of bulk at most 1048576: NARROWER than '..Said'. Prove '..Said' where nothing that the law and all that it calls make is longer than what came in: it says more and counts as full. Else prove '..UptoSaid'. A law counts once. -/
mutual
def uptoBulk {H : Type} : DataW H → Nat
  | .lit (.string bytes) => bytes.length + 1
  | .lit _ => 1
  | .nil => 1
  | .ptr d => uptoBulk d + 1
  | .slice elems spare => uptoBulkAll elems + uptoBulkAll spare + 1
  | .agg parts => uptoBulkAll parts + 1
  | .iface _ d => uptoBulk d + 1
  | .map entries => uptoBulkEntries entries + 1
  | .held _ => 1
def uptoBulkAll {H : Type} : List (DataW H) → Nat
  | [] => 0
  | d :: r => uptoBulk d + uptoBulkAll r
def uptoBulkEntries {H : Type} : List (Lit × DataW H) → Nat
  | [] => 0
  | x :: r => uptoBulkEntry x + uptoBulkEntries r
def uptoBulkEntry {H : Type} : Lit × DataW H → Nat
  | (.string bytes, d) => bytes.length + uptoBulk d + 1
  | (_, d) => uptoBulk d + 1
 end
def uptoSmall : (H : Type) → List (DataW H) → Bool := fun _ ds => decide (uptoBulkAll ds ≤ 1048576)
def OpenSpec.upto (s : _root_.Go.ChangeSpec) : _root_.Go.OpenSpec := { _root_.Go.OpenSpec.ofChange s with cond := some uptoSmall }

/-- 'headgatelaw06.RopePlays', WHERE WHAT IT READS IS OF BULK AT MOST 1048576: true; the input reads as it did. -/
def ropePlaysUptoRow : OpenClaim := { program := "ytfibclaojdoonaa", sum := "5a6d15971c4017d56f22fb774f64aa22b4eae2276c3c70dd696b2c8472a53b13", func := "headgate/headgatelaw06.RopePlays", spec := "ropePlays", inPlace := ["internal/bytealg.CountString", "internal/bytealg.IndexByteString", "internal/bytealg.IndexString", "internal/abi.NoEscape", "internal/bytealg.MakeNoZero"], unfollowed := true, recurses := true, named := ["internal/bytealg.MaxLen"], apart := false, narrowed := true }
def RopePlaysUptoSaid : Prop := ropePlaysUptoRow.holds Try.pinned (OpenSpec.upto ropePlaysSpec)

/-- 'headgatelaw06.RopeLines', WHERE WHAT IT READS IS OF BULK AT MOST 1048576: true; the input reads as it did. -/
def ropeLinesUptoRow : OpenClaim := { program := "ytfibclaojdoonaa", sum := "5a6d15971c4017d56f22fb774f64aa22b4eae2276c3c70dd696b2c8472a53b13", func := "headgate/headgatelaw06.RopeLines", spec := "ropeLines", inPlace := ["internal/bytealg.CountString", "internal/bytealg.IndexByteString", "internal/bytealg.IndexString", "internal/abi.NoEscape", "internal/bytealg.MakeNoZero"], unfollowed := true, recurses := true, named := ["internal/bytealg.MaxLen"], apart := false, narrowed := true }
def RopeLinesUptoSaid : Prop := ropeLinesUptoRow.holds Try.pinned (OpenSpec.upto ropeLinesSpec)

/-- 'headgatelaw06.RopeCuts', WHERE WHAT IT READS IS OF BULK AT MOST 1048576: true; the input reads as it did. -/
def ropeCutsUptoRow : OpenClaim := { program := "ytfibclaojdoonaa", sum := "5a6d15971c4017d56f22fb774f64aa22b4eae2276c3c70dd696b2c8472a53b13", func := "headgate/headgatelaw06.RopeCuts", spec := "ropeCuts", inPlace := ["internal/bytealg.CountString", "internal/bytealg.IndexByteString", "internal/bytealg.IndexString", "internal/abi.NoEscape", "internal/bytealg.MakeNoZero"], unfollowed := true, recurses := true, named := ["internal/bytealg.MaxLen"], apart := false, narrowed := true }
def RopeCutsUptoSaid : Prop := ropeCutsUptoRow.holds Try.pinned (OpenSpec.upto ropeCutsSpec)

/-- 'headgatelaw06.RopeLarge', WHERE WHAT IT READS IS OF BULK AT MOST 1048576: true; the input reads as it did. -/
def ropeLargeUptoRow : OpenClaim := { program := "ytfibclaojdoonaa", sum := "5a6d15971c4017d56f22fb774f64aa22b4eae2276c3c70dd696b2c8472a53b13", func := "headgate/headgatelaw06.RopeLarge", spec := "ropeLarge", inPlace := ["internal/bytealg.CountString", "internal/bytealg.IndexByteString", "internal/bytealg.IndexString", "internal/abi.NoEscape", "internal/bytealg.MakeNoZero"], unfollowed := true, recurses := true, named := ["internal/bytealg.MaxLen"], apart := false, narrowed := true }
def RopeLargeUptoSaid : Prop := ropeLargeUptoRow.holds Try.pinned (OpenSpec.upto ropeLargeSpec)

/-- 'headgatelaw06.RopeAlike', WHERE WHAT IT READS IS OF BULK AT MOST 1048576: true; the input reads as it did. -/
def ropeAlikeUptoRow : OpenClaim := { program := "ytfibclaojdoonaa", sum := "5a6d15971c4017d56f22fb774f64aa22b4eae2276c3c70dd696b2c8472a53b13", func := "headgate/headgatelaw06.RopeAlike", spec := "ropeAlike", inPlace := ["internal/bytealg.CountString", "internal/bytealg.IndexByteString", "internal/bytealg.IndexString", "internal/abi.NoEscape", "internal/bytealg.MakeNoZero"], unfollowed := true, recurses := true, named := ["internal/bytealg.MaxLen"], apart := false, narrowed := true }
def RopeAlikeUptoSaid : Prop := ropeAlikeUptoRow.holds Try.pinned (OpenSpec.upto ropeAlikeSpec)

end Rows
end Go.Proofs.Ytfibclaojdoonaa
