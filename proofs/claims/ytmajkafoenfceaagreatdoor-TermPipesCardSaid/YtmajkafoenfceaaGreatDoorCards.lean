/-
  DERIVED. GIVEN WITH THE SEED: THE CARDS: each row of YtmajkafoenfceaaGreatDoorRows.lean that lists a variable, with what it lists TIED to the program's text (the seventh form; the later family's looks); each row that meets fmt, with fmt's text TOLD by the authors' own Lean function (tested against real Go, not proved from fmt's source: count such statements apart). THE CARD IS WHAT COUNTS. Prove the row's statement (the work); the ties are given (YtmajkafoenfceaaGreatDoorTie.lean); close each card by the builder's one call (the guide's Derived/Test/ToyasCard.lean, 'card_holds'). Laid BY PROGRAM, IN A SANDBOX (cutbox-door.mjs). By AI agents, Wed Nov 11 2026. No macro, syntax, notation, axiom, sorry.
-/
import Derived.Test.YtmajkafoenfceaaGreatDoorRows
import GoSem.ClaimSeven
namespace Go.Proofs.YtmajkafoenfceaaGreatDoor
namespace Rows

/-- THE TIED CARD OF 'loupelaw07.TermTells'. -/
def termTellsCard : Claim7 := { stood := { row := termTellsRow, standIns := [], harness := (true, "5efcf6d039b65bc62f38573bfc47ee393f81d836c6029a27fc78c4b85d3ca8b1"), looks := true }, kinds := [], alts := [], laidByText := true, laidKinds := [.data, .data, .data, .data, .sentinel, .sentinel, .data, .data, .pinned], laidTests := true, laidLooks := .later }
def TermTellsCardSaid : Prop := Claim7.holds Tryz.pinned (.plain (OpenSpec.ofChange termTellsSpec)) termTellsCard

/-- THE TIED CARD OF 'loupelaw07.TermPipes'. -/
def termPipesCard : Claim7 := { stood := { row := termPipesRow, standIns := [], harness := (true, "5efcf6d039b65bc62f38573bfc47ee393f81d836c6029a27fc78c4b85d3ca8b1"), looks := true }, kinds := [], alts := [], laidByText := true, laidKinds := [.data, .data, .data, .data, .sentinel, .sentinel, .data, .data, .pinned], laidTests := true, laidLooks := .later }
def TermPipesCardSaid : Prop := Claim7.holds Tryz.pinned (.plain (OpenSpec.ofChange termPipesSpec)) termPipesCard

/-- THE TIED CARD OF 'loupelaw07.TermPipe'. -/
def termPipeCard : Claim7 := { stood := { row := termPipeRow, standIns := [], harness := (true, "5efcf6d039b65bc62f38573bfc47ee393f81d836c6029a27fc78c4b85d3ca8b1"), looks := true }, kinds := [], alts := [], laidByText := true, laidKinds := [.data, .data, .data, .data, .sentinel, .sentinel, .data, .data, .pinned], laidTests := true, laidLooks := .later }
def TermPipeCardSaid : Prop := Claim7.holds Tryz.pinned (.plain (OpenSpec.ofChange termPipeSpec)) termPipeCard

/-- THE TIED CARD OF 'loupelaw07.TermParts'. -/
def termPartsCard : Claim7 := { stood := { row := termPartsRow, standIns := [], harness := (true, "5efcf6d039b65bc62f38573bfc47ee393f81d836c6029a27fc78c4b85d3ca8b1"), looks := true }, kinds := [], alts := [], laidByText := true, laidKinds := [.data, .data, .data, .data, .sentinel, .sentinel, .data, .data, .pinned], laidTests := true, laidLooks := .later }
def TermPartsCardSaid : Prop := Claim7.holds Tryz.pinned (.plain (OpenSpec.ofChange termPartsSpec)) termPartsCard

/-- THE TIED CARD OF 'loupelaw07.TermSpoilt'. -/
def termSpoiltCard : Claim7 := { stood := { row := termSpoiltRow, standIns := [], harness := (true, "5efcf6d039b65bc62f38573bfc47ee393f81d836c6029a27fc78c4b85d3ca8b1"), looks := true }, kinds := [], alts := [], laidByText := true, laidKinds := [.data, .data, .data, .data, .sentinel, .sentinel, .data, .data, .pinned], laidTests := true, laidLooks := .later }
def TermSpoiltCardSaid : Prop := Claim7.holds Tryz.pinned (.plain (OpenSpec.ofChange termSpoiltSpec)) termSpoiltCard

/-- THE TIED CARD OF 'loupelaw10.EvalTells'. -/
def evalTellsCard : Claim7 := { stood := { row := evalTellsRow, standIns := [], harness := (true, "5efcf6d039b65bc62f38573bfc47ee393f81d836c6029a27fc78c4b85d3ca8b1"), looks := true }, kinds := [], alts := [], laidByText := true, laidKinds := [.data, .data, .data, .data, .sentinel, .sentinel, .pinned], laidTests := true, laidLooks := .later }
def EvalTellsCardSaid : Prop := Claim7.holds Tryz.pinned (.plain (OpenSpec.ofChange evalTellsSpec)) evalTellsCard

/-- THE TIED CARD OF 'loupelaw10.EvalHolds'. -/
def evalHoldsCard : Claim7 := { stood := { row := evalHoldsRow, standIns := [], harness := (true, "5efcf6d039b65bc62f38573bfc47ee393f81d836c6029a27fc78c4b85d3ca8b1"), looks := true }, kinds := [], alts := [], laidByText := true, laidKinds := [.data, .data, .data, .data, .sentinel, .sentinel, .pinned], laidTests := true, laidLooks := .later }
def EvalHoldsCardSaid : Prop := Claim7.holds Tryz.pinned (.plain (OpenSpec.ofChange evalHoldsSpec)) evalHoldsCard

/-- THE TIED CARD OF 'loupelaw10.EvalRight'. -/
def evalRightCard : Claim7 := { stood := { row := evalRightRow, standIns := [], harness := (true, "5efcf6d039b65bc62f38573bfc47ee393f81d836c6029a27fc78c4b85d3ca8b1"), looks := true }, kinds := [], alts := [], laidByText := true, laidKinds := [.data, .data, .data, .data, .sentinel, .sentinel, .pinned], laidTests := true, laidLooks := .later }
def EvalRightCardSaid : Prop := Claim7.holds Tryz.pinned (.plain (OpenSpec.ofChange evalRightSpec)) evalRightCard

/-- THE TIED CARD OF 'loupelaw10.EvalPipe'. -/
def evalPipeCard : Claim7 := { stood := { row := evalPipeRow, standIns := [], harness := (true, "5efcf6d039b65bc62f38573bfc47ee393f81d836c6029a27fc78c4b85d3ca8b1"), looks := true }, kinds := [], alts := [], laidByText := true, laidKinds := [.data, .data, .data, .data, .sentinel, .sentinel, .pinned], laidTests := true, laidLooks := .later }
def EvalPipeCardSaid : Prop := Claim7.holds Tryz.pinned (.plain (OpenSpec.ofChange evalPipeSpec)) evalPipeCard

/-- THE TIED CARD OF 'loupelaw10.EvalTwice'. -/
def evalTwiceCard : Claim7 := { stood := { row := evalTwiceRow, standIns := [], harness := (true, "5efcf6d039b65bc62f38573bfc47ee393f81d836c6029a27fc78c4b85d3ca8b1"), looks := true }, kinds := [], alts := [], laidByText := true, laidKinds := [.data, .data, .data, .data, .sentinel, .sentinel, .pinned], laidTests := true, laidLooks := .later }
def EvalTwiceCardSaid : Prop := Claim7.holds Tryz.pinned (.plain (OpenSpec.ofChange evalTwiceSpec)) evalTwiceCard

/-- THE TIED CARD OF 'loupelaw10.EvalGroups'. -/
def evalGroupsCard : Claim7 := { stood := { row := evalGroupsRow, standIns := [], harness := (true, "5efcf6d039b65bc62f38573bfc47ee393f81d836c6029a27fc78c4b85d3ca8b1"), looks := true }, kinds := [], alts := [], laidByText := true, laidKinds := [.data, .data, .data, .data, .sentinel, .sentinel, .pinned], laidTests := true, laidLooks := .later }
def EvalGroupsCardSaid : Prop := Claim7.holds Tryz.pinned (.plain (OpenSpec.ofChange evalGroupsSpec)) evalGroupsCard

/-- THE TIED CARD OF 'loupelaw10.EvalDels'. -/
def evalDelsCard : Claim7 := { stood := { row := evalDelsRow, standIns := [], harness := (true, "5efcf6d039b65bc62f38573bfc47ee393f81d836c6029a27fc78c4b85d3ca8b1"), looks := true }, kinds := [], alts := [], laidByText := true, laidKinds := [.data, .data, .data, .data, .sentinel, .sentinel, .pinned], laidTests := true, laidLooks := .later }
def EvalDelsCardSaid : Prop := Claim7.holds Tryz.pinned (.plain (OpenSpec.ofChange evalDelsSpec)) evalDelsCard

/-- THE SECOND FORM's CARD OF 'loupelaw07.TermTells'. -/
def termTellsUptoCard : Claim7 := { stood := { row := termTellsUptoRow, standIns := [], harness := (true, "5efcf6d039b65bc62f38573bfc47ee393f81d836c6029a27fc78c4b85d3ca8b1"), looks := true }, kinds := [], alts := [], laidByText := true, laidKinds := [.data, .data, .data, .data, .sentinel, .sentinel, .data, .data, .pinned], laidTests := true, laidLooks := .later }
def TermTellsUptoCardSaid : Prop := Claim7.holds Tryz.pinned (.plain (OpenSpec.upto termTellsSpec)) termTellsUptoCard

/-- THE SECOND FORM's CARD OF 'loupelaw07.TermPipes'. -/
def termPipesUptoCard : Claim7 := { stood := { row := termPipesUptoRow, standIns := [], harness := (true, "5efcf6d039b65bc62f38573bfc47ee393f81d836c6029a27fc78c4b85d3ca8b1"), looks := true }, kinds := [], alts := [], laidByText := true, laidKinds := [.data, .data, .data, .data, .sentinel, .sentinel, .data, .data, .pinned], laidTests := true, laidLooks := .later }
def TermPipesUptoCardSaid : Prop := Claim7.holds Tryz.pinned (.plain (OpenSpec.upto termPipesSpec)) termPipesUptoCard

/-- THE SECOND FORM's CARD OF 'loupelaw07.TermPipe'. -/
def termPipeUptoCard : Claim7 := { stood := { row := termPipeUptoRow, standIns := [], harness := (true, "5efcf6d039b65bc62f38573bfc47ee393f81d836c6029a27fc78c4b85d3ca8b1"), looks := true }, kinds := [], alts := [], laidByText := true, laidKinds := [.data, .data, .data, .data, .sentinel, .sentinel, .data, .data, .pinned], laidTests := true, laidLooks := .later }
def TermPipeUptoCardSaid : Prop := Claim7.holds Tryz.pinned (.plain (OpenSpec.upto termPipeSpec)) termPipeUptoCard

/-- THE SECOND FORM's CARD OF 'loupelaw07.TermParts'. -/
def termPartsUptoCard : Claim7 := { stood := { row := termPartsUptoRow, standIns := [], harness := (true, "5efcf6d039b65bc62f38573bfc47ee393f81d836c6029a27fc78c4b85d3ca8b1"), looks := true }, kinds := [], alts := [], laidByText := true, laidKinds := [.data, .data, .data, .data, .sentinel, .sentinel, .data, .data, .pinned], laidTests := true, laidLooks := .later }
def TermPartsUptoCardSaid : Prop := Claim7.holds Tryz.pinned (.plain (OpenSpec.upto termPartsSpec)) termPartsUptoCard

/-- THE SECOND FORM's CARD OF 'loupelaw07.TermSpoilt'. -/
def termSpoiltUptoCard : Claim7 := { stood := { row := termSpoiltUptoRow, standIns := [], harness := (true, "5efcf6d039b65bc62f38573bfc47ee393f81d836c6029a27fc78c4b85d3ca8b1"), looks := true }, kinds := [], alts := [], laidByText := true, laidKinds := [.data, .data, .data, .data, .sentinel, .sentinel, .data, .data, .pinned], laidTests := true, laidLooks := .later }
def TermSpoiltUptoCardSaid : Prop := Claim7.holds Tryz.pinned (.plain (OpenSpec.upto termSpoiltSpec)) termSpoiltUptoCard

/-- THE SECOND FORM's CARD OF 'loupelaw10.EvalTells'. -/
def evalTellsUptoCard : Claim7 := { stood := { row := evalTellsUptoRow, standIns := [], harness := (true, "5efcf6d039b65bc62f38573bfc47ee393f81d836c6029a27fc78c4b85d3ca8b1"), looks := true }, kinds := [], alts := [], laidByText := true, laidKinds := [.data, .data, .data, .data, .sentinel, .sentinel, .pinned], laidTests := true, laidLooks := .later }
def EvalTellsUptoCardSaid : Prop := Claim7.holds Tryz.pinned (.plain (OpenSpec.upto evalTellsSpec)) evalTellsUptoCard

/-- THE SECOND FORM's CARD OF 'loupelaw10.EvalHolds'. -/
def evalHoldsUptoCard : Claim7 := { stood := { row := evalHoldsUptoRow, standIns := [], harness := (true, "5efcf6d039b65bc62f38573bfc47ee393f81d836c6029a27fc78c4b85d3ca8b1"), looks := true }, kinds := [], alts := [], laidByText := true, laidKinds := [.data, .data, .data, .data, .sentinel, .sentinel, .pinned], laidTests := true, laidLooks := .later }
def EvalHoldsUptoCardSaid : Prop := Claim7.holds Tryz.pinned (.plain (OpenSpec.upto evalHoldsSpec)) evalHoldsUptoCard

/-- THE SECOND FORM's CARD OF 'loupelaw10.EvalRight'. -/
def evalRightUptoCard : Claim7 := { stood := { row := evalRightUptoRow, standIns := [], harness := (true, "5efcf6d039b65bc62f38573bfc47ee393f81d836c6029a27fc78c4b85d3ca8b1"), looks := true }, kinds := [], alts := [], laidByText := true, laidKinds := [.data, .data, .data, .data, .sentinel, .sentinel, .pinned], laidTests := true, laidLooks := .later }
def EvalRightUptoCardSaid : Prop := Claim7.holds Tryz.pinned (.plain (OpenSpec.upto evalRightSpec)) evalRightUptoCard

/-- THE SECOND FORM's CARD OF 'loupelaw10.EvalPipe'. -/
def evalPipeUptoCard : Claim7 := { stood := { row := evalPipeUptoRow, standIns := [], harness := (true, "5efcf6d039b65bc62f38573bfc47ee393f81d836c6029a27fc78c4b85d3ca8b1"), looks := true }, kinds := [], alts := [], laidByText := true, laidKinds := [.data, .data, .data, .data, .sentinel, .sentinel, .pinned], laidTests := true, laidLooks := .later }
def EvalPipeUptoCardSaid : Prop := Claim7.holds Tryz.pinned (.plain (OpenSpec.upto evalPipeSpec)) evalPipeUptoCard

/-- THE SECOND FORM's CARD OF 'loupelaw10.EvalTwice'. -/
def evalTwiceUptoCard : Claim7 := { stood := { row := evalTwiceUptoRow, standIns := [], harness := (true, "5efcf6d039b65bc62f38573bfc47ee393f81d836c6029a27fc78c4b85d3ca8b1"), looks := true }, kinds := [], alts := [], laidByText := true, laidKinds := [.data, .data, .data, .data, .sentinel, .sentinel, .pinned], laidTests := true, laidLooks := .later }
def EvalTwiceUptoCardSaid : Prop := Claim7.holds Tryz.pinned (.plain (OpenSpec.upto evalTwiceSpec)) evalTwiceUptoCard

/-- THE SECOND FORM's CARD OF 'loupelaw10.EvalGroups'. -/
def evalGroupsUptoCard : Claim7 := { stood := { row := evalGroupsUptoRow, standIns := [], harness := (true, "5efcf6d039b65bc62f38573bfc47ee393f81d836c6029a27fc78c4b85d3ca8b1"), looks := true }, kinds := [], alts := [], laidByText := true, laidKinds := [.data, .data, .data, .data, .sentinel, .sentinel, .pinned], laidTests := true, laidLooks := .later }
def EvalGroupsUptoCardSaid : Prop := Claim7.holds Tryz.pinned (.plain (OpenSpec.upto evalGroupsSpec)) evalGroupsUptoCard

/-- THE SECOND FORM's CARD OF 'loupelaw10.EvalDels'. -/
def evalDelsUptoCard : Claim7 := { stood := { row := evalDelsUptoRow, standIns := [], harness := (true, "5efcf6d039b65bc62f38573bfc47ee393f81d836c6029a27fc78c4b85d3ca8b1"), looks := true }, kinds := [], alts := [], laidByText := true, laidKinds := [.data, .data, .data, .data, .sentinel, .sentinel, .pinned], laidTests := true, laidLooks := .later }
def EvalDelsUptoCardSaid : Prop := Claim7.holds Tryz.pinned (.plain (OpenSpec.upto evalDelsSpec)) evalDelsUptoCard
end Rows
end Go.Proofs.YtmajkafoenfceaaGreatDoor
