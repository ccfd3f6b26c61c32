/-
  No cell of these rows narrows 'for every input' (looked for: loops, veiled, ifaces, maps, wideKeys, modest, calm, conditions, laid).
  DERIVED. THE GIVEN ROWS OF THIS SEAT. 4 by the template 'for every input the law returns true; each argument reads behind the call as it read before'; 0 by the template 'total and deterministic' (their statements: YtnlckhdfeefjlaaTotals.lean).
  GIVEN WITH THE SEED: the statements are not yours to turn. If you find one false, say at which input.
  Laid BY PROGRAM, IN A SANDBOX (cutbox-rows.mjs): the forced cells as the released guide's own fill.sh prints them over the translation ded98a4fa698398e… (all of the seat's roots in one cut). By AI agents, Wed Nov 11 2026. No macro, syntax, notation, axiom, sorry.
-/
import Derived.Test.YtnlckhdfeefjlaaChecked
import GoSem.Claim
import GoSem.ClaimJoined
import GoSem.ClaimMapViews
import Derived.JoinedTies
import Derived.KernelRfl
namespace Go.Proofs.Ytnlckhdfeefjlaa
/- THE CELL 'sum', in the pinned program and in every row, IS THE sha256 OF THE DUMP (.gsa) THAT YtnlckhdfeefjlaaProg.lean LOADS. Nothing in Lean hashes anything: it is a label: what it is worth is what the hold of that sum in a sandbox is worth. -/
noncomputable def Try.pinned : Pinned := { name := "ytnlckhdfeefjlaa", sum := "ded98a4fa698398e50279a2570fba3aaeecb46d258ef7a88b9b018e83f47f640", checked := Try.checked }
namespace Rows
def none {H : Type} : Left H := { results := [], args := [] }

/-- 'headgatelaw03.FletcherSums': WHATEVER THE INPUT: true; the input reads as it did. -/
def fletcherSumsSpec : ChangeSpec := { name := "fletcherSums", fn := fun _ => fun
  | [d1, d2] => { results := [.lit (.bool true)], args := [d1, d2] }
  | _ => none }
def fletcherSumsRow : OpenClaim := { program := "ytnlckhdfeefjlaa", sum := "ded98a4fa698398e50279a2570fba3aaeecb46d258ef7a88b9b018e83f47f640", func := "headgate/headgatelaw03.FletcherSums", spec := "fletcherSums", apart := false }
def FletcherSumsSaid : Prop := fletcherSumsRow.holds Try.pinned (OpenSpec.ofChange fletcherSumsSpec)

/-- ITS FALSE NEIGHBOUR: 'it returns false'. Refute it at one input. -/
def fletcherSumsWrong : ChangeSpec := { name := "fletcherSums", fn := fun _ => fun
  | [d1, d2] => { results := [.lit (.bool false)], args := [d1, d2] }
  | _ => none }
def FletcherSumsWrongFalsely : Prop := fletcherSumsRow.holds Try.pinned (OpenSpec.ofChange fletcherSumsWrong)

/-- 'headgatelaw03.FletcherPieces': WHATEVER THE INPUT: true; the input reads as it did. -/
def fletcherPiecesSpec : ChangeSpec := { name := "fletcherPieces", fn := fun _ => fun
  | [d1, d2, d3] => { results := [.lit (.bool true)], args := [d1, d2, d3] }
  | _ => none }
def fletcherPiecesRow : OpenClaim := { program := "ytnlckhdfeefjlaa", sum := "ded98a4fa698398e50279a2570fba3aaeecb46d258ef7a88b9b018e83f47f640", func := "headgate/headgatelaw03.FletcherPieces", spec := "fletcherPieces", apart := false }
def FletcherPiecesSaid : Prop := fletcherPiecesRow.holds Try.pinned (OpenSpec.ofChange fletcherPiecesSpec)

/-- ITS FALSE NEIGHBOUR: 'it returns false'. Refute it at one input. -/
def fletcherPiecesWrong : ChangeSpec := { name := "fletcherPieces", fn := fun _ => fun
  | [d1, d2, d3] => { results := [.lit (.bool false)], args := [d1, d2, d3] }
  | _ => none }
def FletcherPiecesWrongFalsely : Prop := fletcherPiecesRow.holds Try.pinned (OpenSpec.ofChange fletcherPiecesWrong)

/-- 'headgatelaw03.FletcherOne': WHATEVER THE INPUT: true; the input reads as it did. -/
def fletcherOneSpec : ChangeSpec := { name := "fletcherOne", fn := fun _ => fun
  | [d1, d2, d3] => { results := [.lit (.bool true)], args := [d1, d2, d3] }
  | _ => none }
def fletcherOneRow : OpenClaim := { program := "ytnlckhdfeefjlaa", sum := "ded98a4fa698398e50279a2570fba3aaeecb46d258ef7a88b9b018e83f47f640", func := "headgate/headgatelaw03.FletcherOne", spec := "fletcherOne", apart := false }
def FletcherOneSaid : Prop := fletcherOneRow.holds Try.pinned (OpenSpec.ofChange fletcherOneSpec)

/-- ITS FALSE NEIGHBOUR: 'it returns false'. Refute it at one input. -/
def fletcherOneWrong : ChangeSpec := { name := "fletcherOne", fn := fun _ => fun
  | [d1, d2, d3] => { results := [.lit (.bool false)], args := [d1, d2, d3] }
  | _ => none }
def FletcherOneWrongFalsely : Prop := fletcherOneRow.holds Try.pinned (OpenSpec.ofChange fletcherOneWrong)

/-- 'headgatelaw03.FletcherRuns': WHATEVER THE INPUT: true; the input reads as it did. -/
def fletcherRunsSpec : ChangeSpec := { name := "fletcherRuns", fn := fun _ => fun
  | [d1, d2] => { results := [.lit (.bool true)], args := [d1, d2] }
  | _ => none }
def fletcherRunsRow : OpenClaim := { program := "ytnlckhdfeefjlaa", sum := "ded98a4fa698398e50279a2570fba3aaeecb46d258ef7a88b9b018e83f47f640", func := "headgate/headgatelaw03.FletcherRuns", spec := "fletcherRuns", apart := false }
def FletcherRunsSaid : Prop := fletcherRunsRow.holds Try.pinned (OpenSpec.ofChange fletcherRunsSpec)

/-- ITS FALSE NEIGHBOUR: 'it returns false'. Refute it at one input. -/
def fletcherRunsWrong : ChangeSpec := { name := "fletcherRuns", fn := fun _ => fun
  | [d1, d2] => { results := [.lit (.bool false)], args := [d1, d2] }
  | _ => none }
def FletcherRunsWrongFalsely : Prop := fletcherRunsRow.holds Try.pinned (OpenSpec.ofChange fletcherRunsWrong)

/- THE SECOND FORM. 'bulk': how many values and letters a reading holds, each counted each time it is reached (what is shared counts as often as it is met; a slice's spare places count too). A statement '..UptoSaid' is the law's where the arguments, and the package variables that the reading takes, are together of bulk at most 1048576: NARROWER than '..Said'. Prove '..Said' where nothing that the law and all that it calls make is longer than what came in: it says more and counts as full. Else prove '..UptoSaid'. A law counts once. -/
mutual
def uptoBulk {H : Type} : DataW H → Nat
  | .lit (.string bytes) => bytes.length + 1
  | .lit _ => 1
  | .nil => 1
  | .ptr d => uptoBulk d + 1
  | .slice elems spare => uptoBulkAll elems + uptoBulkAll spare + 1
  | .agg parts => uptoBulkAll parts + 1
  | .iface _ d => uptoBulk d + 1
  | .map entries => uptoBulkEntries entries + 1
  | .held _ => 1
def uptoBulkAll {H : Type} : List (DataW H) → Nat
  | [] => 0
  | d :: r => uptoBulk d + uptoBulkAll r
def uptoBulkEntries {H : Type} : List (Lit × DataW H) → Nat
  | [] => 0
  | x :: r => uptoBulkEntry x + uptoBulkEntries r
def uptoBulkEntry {H : Type} : Lit × DataW H → Nat
  | (.string bytes, d) => bytes.length + uptoBulk d + 1
  | (_, d) => uptoBulk d + 1
 end
def uptoSmall : (H : Type) → List (DataW H) → Bool := fun _ ds => decide (uptoBulkAll ds ≤ 1048576)
def OpenSpec.upto (s : _root_.Go.ChangeSpec) : _root_.Go.OpenSpec := { _root_.Go.OpenSpec.ofChange s with cond := some uptoSmall }

/-- 'headgatelaw03.FletcherSums', WHERE WHAT IT READS IS OF BULK AT MOST 1048576: true; the input reads as it did. -/
def fletcherSumsUptoRow : OpenClaim := { program := "ytnlckhdfeefjlaa", sum := "ded98a4fa698398e50279a2570fba3aaeecb46d258ef7a88b9b018e83f47f640", func := "headgate/headgatelaw03.FletcherSums", spec := "fletcherSums", apart := false, narrowed := true }
def FletcherSumsUptoSaid : Prop := fletcherSumsUptoRow.holds Try.pinned (OpenSpec.upto fletcherSumsSpec)

/-- 'headgatelaw03.FletcherPieces', WHERE WHAT IT READS IS OF BULK AT MOST 1048576: true; the input reads as it did. -/
def fletcherPiecesUptoRow : OpenClaim := { program := "ytnlckhdfeefjlaa", sum := "ded98a4fa698398e50279a2570fba3aaeecb46d258ef7a88b9b018e83f47f640", func := "headgate/headgatelaw03.FletcherPieces", spec := "fletcherPieces", apart := false, narrowed := true }
def FletcherPiecesUptoSaid : Prop := fletcherPiecesUptoRow.holds Try.pinned (OpenSpec.upto fletcherPiecesSpec)

/-- 'headgatelaw03.FletcherOne', WHERE WHAT IT READS IS OF BULK AT MOST 1048576: true; the input reads as it did. -/
def fletcherOneUptoRow : OpenClaim := { program := "ytnlckhdfeefjlaa", sum := "ded98a4fa698398e50279a2570fba3aaeecb46d258ef7a88b9b018e83f47f640", func := "headgate/headgatelaw03.FletcherOne", spec := "fletcherOne", apart := false, narrowed := true }
def FletcherOneUptoSaid : Prop := fletcherOneUptoRow.holds Try.pinned (OpenSpec.upto fletcherOneSpec)

/-- 'headgatelaw03.FletcherRuns', WHERE WHAT IT READS IS OF BULK AT MOST 1048576: true; the input reads as it did. -/
def fletcherRunsUptoRow : OpenClaim := { program := "ytnlckhdfeefjlaa", sum := "ded98a4fa698398e50279a2570fba3aaeecb46d258ef7a88b9b018e83f47f640", func := "headgate/headgatelaw03.FletcherRuns", spec := "fletcherRuns", apart := false, narrowed := true }
def FletcherRunsUptoSaid : Prop := fletcherRunsUptoRow.holds Try.pinned (OpenSpec.upto fletcherRunsSpec)

end Rows
end Go.Proofs.Ytnlckhdfeefjlaa
