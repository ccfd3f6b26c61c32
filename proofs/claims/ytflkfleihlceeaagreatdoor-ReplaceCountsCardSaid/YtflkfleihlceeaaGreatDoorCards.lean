/-
  DERIVED. GIVEN WITH THE SEED: THE CARDS: each row of YtflkfleihlceeaaGreatDoorRows.lean that lists a variable, with what it lists TIED to the program's text (the seventh form; the later family's looks); each row that meets fmt, with fmt's text TOLD by the authors' own Lean function (tested against real Go, not proved from fmt's source: count such statements apart). THE CARD IS WHAT COUNTS. Prove the row's statement (the work); the ties are given (YtflkfleihlceeaaGreatDoorTie.lean); close each card by the builder's one call (the guide's Derived/Test/ToyasCard.lean, 'card_holds'). Laid BY PROGRAM, IN A SANDBOX (cutbox-door.mjs). By AI agents, Wed Nov 11 2026. No macro, syntax, notation, axiom, sorry.
-/
import Derived.Test.YtflkfleihlceeaaGreatDoorRows
import GoSem.ClaimSeven
namespace Go.Proofs.YtflkfleihlceeaaGreatDoor
namespace Rows

/-- THE TIED CARD OF 'headgatelaw10.MatchLeftmost'. -/
def matchLeftmostCard : Claim7 := { stood := { row := matchLeftmostRow, standIns := [], harness := (true, "5032f8bfc9005bc47badc23269ca09c1e03b0120b76f6115ba6934ab060a9524"), looks := false }, kinds := [], alts := [], laidByText := true, laidKinds := [.data], laidTests := true, laidLooks := .later }
def MatchLeftmostCardSaid : Prop := Claim7.holds Tryz.pinned (.plain (OpenSpec.ofChange matchLeftmostSpec)) matchLeftmostCard

/-- THE TIED CARD OF 'headgatelaw10.MatchGroups'. -/
def matchGroupsCard : Claim7 := { stood := { row := matchGroupsRow, standIns := [], harness := (true, "5032f8bfc9005bc47badc23269ca09c1e03b0120b76f6115ba6934ab060a9524"), looks := false }, kinds := [], alts := [], laidByText := true, laidKinds := [.data], laidTests := true, laidLooks := .later }
def MatchGroupsCardSaid : Prop := Claim7.holds Tryz.pinned (.plain (OpenSpec.ofChange matchGroupsSpec)) matchGroupsCard

/-- THE TIED CARD OF 'headgatelaw10.MatchPlain'. -/
def matchPlainCard : Claim7 := { stood := { row := matchPlainRow, standIns := [], harness := (true, "5032f8bfc9005bc47badc23269ca09c1e03b0120b76f6115ba6934ab060a9524"), looks := false }, kinds := [], alts := [], laidByText := true, laidKinds := [.data], laidTests := true, laidLooks := .later }
def MatchPlainCardSaid : Prop := Claim7.holds Tryz.pinned (.plain (OpenSpec.ofChange matchPlainSpec)) matchPlainCard

/-- THE TIED CARD OF 'headgatelaw10.MatchRounds'. -/
def matchRoundsCard : Claim7 := { stood := { row := matchRoundsRow, standIns := [], harness := (true, "5032f8bfc9005bc47badc23269ca09c1e03b0120b76f6115ba6934ab060a9524"), looks := false }, kinds := [], alts := [], laidByText := true, laidKinds := [.data], laidTests := true, laidLooks := .later }
def MatchRoundsCardSaid : Prop := Claim7.holds Tryz.pinned (.plain (OpenSpec.ofChange matchRoundsSpec)) matchRoundsCard

/-- THE TIED CARD OF 'headgatelaw10.MatchAnchored'. -/
def matchAnchoredCard : Claim7 := { stood := { row := matchAnchoredRow, standIns := [], harness := (true, "5032f8bfc9005bc47badc23269ca09c1e03b0120b76f6115ba6934ab060a9524"), looks := false }, kinds := [], alts := [], laidByText := true, laidKinds := [.data], laidTests := true, laidLooks := .later }
def MatchAnchoredCardSaid : Prop := Claim7.holds Tryz.pinned (.plain (OpenSpec.ofChange matchAnchoredSpec)) matchAnchoredCard

/-- THE TIED CARD OF 'headgatelaw10.MatchEither'. -/
def matchEitherCard : Claim7 := { stood := { row := matchEitherRow, standIns := [], harness := (true, "5032f8bfc9005bc47badc23269ca09c1e03b0120b76f6115ba6934ab060a9524"), looks := false }, kinds := [], alts := [], laidByText := true, laidKinds := [.data], laidTests := true, laidLooks := .later }
def MatchEitherCardSaid : Prop := Claim7.holds Tryz.pinned (.plain (OpenSpec.ofChange matchEitherSpec)) matchEitherCard

/-- THE TIED CARD OF 'headgatelaw10.MatchRun'. -/
def matchRunCard : Claim7 := { stood := { row := matchRunRow, standIns := [], harness := (true, "5032f8bfc9005bc47badc23269ca09c1e03b0120b76f6115ba6934ab060a9524"), looks := false }, kinds := [], alts := [], laidByText := true, laidKinds := [.data], laidTests := true, laidLooks := .later }
def MatchRunCardSaid : Prop := Claim7.holds Tryz.pinned (.plain (OpenSpec.ofChange matchRunSpec)) matchRunCard

/-- THE TIED CARD OF 'headgatelaw11.ReplaceItself'. -/
def replaceItselfCard : Claim7 := { stood := { row := replaceItselfRow, standIns := [], harness := (true, "5032f8bfc9005bc47badc23269ca09c1e03b0120b76f6115ba6934ab060a9524"), looks := false }, kinds := [], alts := [], laidByText := true, laidKinds := [.data], laidTests := true, laidLooks := .later }
def ReplaceItselfCardSaid : Prop := Claim7.holds Tryz.pinned (.plain (OpenSpec.ofChange replaceItselfSpec)) replaceItselfCard

/-- THE TIED CARD OF 'headgatelaw11.ReplaceBetween'. -/
def replaceBetweenCard : Claim7 := { stood := { row := replaceBetweenRow, standIns := [], harness := (true, "5032f8bfc9005bc47badc23269ca09c1e03b0120b76f6115ba6934ab060a9524"), looks := false }, kinds := [], alts := [], laidByText := true, laidKinds := [.data], laidTests := true, laidLooks := .later }
def ReplaceBetweenCardSaid : Prop := Claim7.holds Tryz.pinned (.plain (OpenSpec.ofChange replaceBetweenSpec)) replaceBetweenCard

/-- THE TIED CARD OF 'headgatelaw11.ReplaceLong'. -/
def replaceLongCard : Claim7 := { stood := { row := replaceLongRow, standIns := [], harness := (true, "5032f8bfc9005bc47badc23269ca09c1e03b0120b76f6115ba6934ab060a9524"), looks := false }, kinds := [], alts := [], laidByText := true, laidKinds := [.data], laidTests := true, laidLooks := .later }
def ReplaceLongCardSaid : Prop := Claim7.holds Tryz.pinned (.plain (OpenSpec.ofChange replaceLongSpec)) replaceLongCard

/-- THE TIED CARD OF 'headgatelaw11.ReplaceCounts'. -/
def replaceCountsCard : Claim7 := { stood := { row := replaceCountsRow, standIns := [], harness := (true, "5032f8bfc9005bc47badc23269ca09c1e03b0120b76f6115ba6934ab060a9524"), looks := false }, kinds := [], alts := [], laidByText := true, laidKinds := [.data], laidTests := true, laidLooks := .later }
def ReplaceCountsCardSaid : Prop := Claim7.holds Tryz.pinned (.plain (OpenSpec.ofChange replaceCountsSpec)) replaceCountsCard

/-- THE SECOND FORM's CARD OF 'headgatelaw10.MatchLeftmost'. -/
def matchLeftmostUptoCard : Claim7 := { stood := { row := matchLeftmostUptoRow, standIns := [], harness := (true, "5032f8bfc9005bc47badc23269ca09c1e03b0120b76f6115ba6934ab060a9524"), looks := false }, kinds := [], alts := [], laidByText := true, laidKinds := [.data], laidTests := true, laidLooks := .later }
def MatchLeftmostUptoCardSaid : Prop := Claim7.holds Tryz.pinned (.plain (OpenSpec.upto matchLeftmostSpec)) matchLeftmostUptoCard

/-- THE SECOND FORM's CARD OF 'headgatelaw10.MatchGroups'. -/
def matchGroupsUptoCard : Claim7 := { stood := { row := matchGroupsUptoRow, standIns := [], harness := (true, "5032f8bfc9005bc47badc23269ca09c1e03b0120b76f6115ba6934ab060a9524"), looks := false }, kinds := [], alts := [], laidByText := true, laidKinds := [.data], laidTests := true, laidLooks := .later }
def MatchGroupsUptoCardSaid : Prop := Claim7.holds Tryz.pinned (.plain (OpenSpec.upto matchGroupsSpec)) matchGroupsUptoCard

/-- THE SECOND FORM's CARD OF 'headgatelaw10.MatchPlain'. -/
def matchPlainUptoCard : Claim7 := { stood := { row := matchPlainUptoRow, standIns := [], harness := (true, "5032f8bfc9005bc47badc23269ca09c1e03b0120b76f6115ba6934ab060a9524"), looks := false }, kinds := [], alts := [], laidByText := true, laidKinds := [.data], laidTests := true, laidLooks := .later }
def MatchPlainUptoCardSaid : Prop := Claim7.holds Tryz.pinned (.plain (OpenSpec.upto matchPlainSpec)) matchPlainUptoCard

/-- THE SECOND FORM's CARD OF 'headgatelaw10.MatchRounds'. -/
def matchRoundsUptoCard : Claim7 := { stood := { row := matchRoundsUptoRow, standIns := [], harness := (true, "5032f8bfc9005bc47badc23269ca09c1e03b0120b76f6115ba6934ab060a9524"), looks := false }, kinds := [], alts := [], laidByText := true, laidKinds := [.data], laidTests := true, laidLooks := .later }
def MatchRoundsUptoCardSaid : Prop := Claim7.holds Tryz.pinned (.plain (OpenSpec.upto matchRoundsSpec)) matchRoundsUptoCard

/-- THE SECOND FORM's CARD OF 'headgatelaw10.MatchAnchored'. -/
def matchAnchoredUptoCard : Claim7 := { stood := { row := matchAnchoredUptoRow, standIns := [], harness := (true, "5032f8bfc9005bc47badc23269ca09c1e03b0120b76f6115ba6934ab060a9524"), looks := false }, kinds := [], alts := [], laidByText := true, laidKinds := [.data], laidTests := true, laidLooks := .later }
def MatchAnchoredUptoCardSaid : Prop := Claim7.holds Tryz.pinned (.plain (OpenSpec.upto matchAnchoredSpec)) matchAnchoredUptoCard

/-- THE SECOND FORM's CARD OF 'headgatelaw10.MatchEither'. -/
def matchEitherUptoCard : Claim7 := { stood := { row := matchEitherUptoRow, standIns := [], harness := (true, "5032f8bfc9005bc47badc23269ca09c1e03b0120b76f6115ba6934ab060a9524"), looks := false }, kinds := [], alts := [], laidByText := true, laidKinds := [.data], laidTests := true, laidLooks := .later }
def MatchEitherUptoCardSaid : Prop := Claim7.holds Tryz.pinned (.plain (OpenSpec.upto matchEitherSpec)) matchEitherUptoCard

/-- THE SECOND FORM's CARD OF 'headgatelaw10.MatchRun'. -/
def matchRunUptoCard : Claim7 := { stood := { row := matchRunUptoRow, standIns := [], harness := (true, "5032f8bfc9005bc47badc23269ca09c1e03b0120b76f6115ba6934ab060a9524"), looks := false }, kinds := [], alts := [], laidByText := true, laidKinds := [.data], laidTests := true, laidLooks := .later }
def MatchRunUptoCardSaid : Prop := Claim7.holds Tryz.pinned (.plain (OpenSpec.upto matchRunSpec)) matchRunUptoCard

/-- THE SECOND FORM's CARD OF 'headgatelaw11.ReplaceItself'. -/
def replaceItselfUptoCard : Claim7 := { stood := { row := replaceItselfUptoRow, standIns := [], harness := (true, "5032f8bfc9005bc47badc23269ca09c1e03b0120b76f6115ba6934ab060a9524"), looks := false }, kinds := [], alts := [], laidByText := true, laidKinds := [.data], laidTests := true, laidLooks := .later }
def ReplaceItselfUptoCardSaid : Prop := Claim7.holds Tryz.pinned (.plain (OpenSpec.upto replaceItselfSpec)) replaceItselfUptoCard

/-- THE SECOND FORM's CARD OF 'headgatelaw11.ReplaceBetween'. -/
def replaceBetweenUptoCard : Claim7 := { stood := { row := replaceBetweenUptoRow, standIns := [], harness := (true, "5032f8bfc9005bc47badc23269ca09c1e03b0120b76f6115ba6934ab060a9524"), looks := false }, kinds := [], alts := [], laidByText := true, laidKinds := [.data], laidTests := true, laidLooks := .later }
def ReplaceBetweenUptoCardSaid : Prop := Claim7.holds Tryz.pinned (.plain (OpenSpec.upto replaceBetweenSpec)) replaceBetweenUptoCard

/-- THE SECOND FORM's CARD OF 'headgatelaw11.ReplaceLong'. -/
def replaceLongUptoCard : Claim7 := { stood := { row := replaceLongUptoRow, standIns := [], harness := (true, "5032f8bfc9005bc47badc23269ca09c1e03b0120b76f6115ba6934ab060a9524"), looks := false }, kinds := [], alts := [], laidByText := true, laidKinds := [.data], laidTests := true, laidLooks := .later }
def ReplaceLongUptoCardSaid : Prop := Claim7.holds Tryz.pinned (.plain (OpenSpec.upto replaceLongSpec)) replaceLongUptoCard

/-- THE SECOND FORM's CARD OF 'headgatelaw11.ReplaceCounts'. -/
def replaceCountsUptoCard : Claim7 := { stood := { row := replaceCountsUptoRow, standIns := [], harness := (true, "5032f8bfc9005bc47badc23269ca09c1e03b0120b76f6115ba6934ab060a9524"), looks := false }, kinds := [], alts := [], laidByText := true, laidKinds := [.data], laidTests := true, laidLooks := .later }
def ReplaceCountsUptoCardSaid : Prop := Claim7.holds Tryz.pinned (.plain (OpenSpec.upto replaceCountsSpec)) replaceCountsUptoCard
end Rows
end Go.Proofs.YtflkfleihlceeaaGreatDoor
