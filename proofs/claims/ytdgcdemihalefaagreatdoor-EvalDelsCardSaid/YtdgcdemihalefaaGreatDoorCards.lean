/-
  DERIVED. GIVEN WITH THE SEED: THE CARDS: each row of YtdgcdemihalefaaGreatDoorRows.lean that lists a variable, with what it lists TIED to the program's text (the seventh form; the later family's looks); each row that meets fmt, with fmt's text TOLD by the authors' own Lean function (tested against real Go, not proved from fmt's source: count such statements apart). THE CARD IS WHAT COUNTS. Prove the row's statement (the work); the ties are given (YtdgcdemihalefaaGreatDoorTie.lean); close each card by the builder's one call (the guide's Derived/Test/ToyasCard.lean, 'card_holds'). Laid BY PROGRAM, IN A SANDBOX (cutbox-door.mjs). By AI agents, Wed Nov 11 2026. No macro, syntax, notation, axiom, sorry.
-/
import Derived.Test.YtdgcdemihalefaaGreatDoorRows
import GoSem.ClaimSeven
namespace Go.Proofs.YtdgcdemihalefaaGreatDoor
namespace Rows

/-- THE TIED CARD OF 'loupelaw07.TermTells'. -/
def termTellsCard : Claim7 := { stood := { row := termTellsRow, standIns := [], harness := (true, "b55f245e81640be3273d9c8d76133b485e57ae04b54fb9f53684246bd57d7c11"), looks := true }, kinds := [], alts := [], laidByText := true, laidKinds := [.data, .data, .data, .data, .sentinel, .sentinel, .data, .data, .pinned], laidTests := true, laidLooks := .later }
def TermTellsCardSaid : Prop := Claim7.holds Tryz.pinned (.plain (OpenSpec.ofChange termTellsSpec)) termTellsCard

/-- THE TIED CARD OF 'loupelaw10.EvalDels'. -/
def evalDelsCard : Claim7 := { stood := { row := evalDelsRow, standIns := [], harness := (true, "b55f245e81640be3273d9c8d76133b485e57ae04b54fb9f53684246bd57d7c11"), looks := true }, kinds := [], alts := [], laidByText := true, laidKinds := [.data, .data, .data, .data, .sentinel, .sentinel, .pinned], laidTests := true, laidLooks := .later }
def EvalDelsCardSaid : Prop := Claim7.holds Tryz.pinned (.plain (OpenSpec.ofChange evalDelsSpec)) evalDelsCard

/-- THE SECOND FORM's CARD OF 'loupelaw07.TermTells'. -/
def termTellsUptoCard : Claim7 := { stood := { row := termTellsUptoRow, standIns := [], harness := (true, "b55f245e81640be3273d9c8d76133b485e57ae04b54fb9f53684246bd57d7c11"), looks := true }, kinds := [], alts := [], laidByText := true, laidKinds := [.data, .data, .data, .data, .sentinel, .sentinel, .data, .data, .pinned], laidTests := true, laidLooks := .later }
def TermTellsUptoCardSaid : Prop := Claim7.holds Tryz.pinned (.plain (OpenSpec.upto termTellsSpec)) termTellsUptoCard

/-- THE SECOND FORM's CARD OF 'loupelaw10.EvalDels'. -/
def evalDelsUptoCard : Claim7 := { stood := { row := evalDelsUptoRow, standIns := [], harness := (true, "b55f245e81640be3273d9c8d76133b485e57ae04b54fb9f53684246bd57d7c11"), looks := true }, kinds := [], alts := [], laidByText := true, laidKinds := [.data, .data, .data, .data, .sentinel, .sentinel, .pinned], laidTests := true, laidLooks := .later }
def EvalDelsUptoCardSaid : Prop := Claim7.holds Tryz.pinned (.plain (OpenSpec.upto evalDelsSpec)) evalDelsUptoCard
end Rows
end Go.Proofs.YtdgcdemihalefaaGreatDoor
