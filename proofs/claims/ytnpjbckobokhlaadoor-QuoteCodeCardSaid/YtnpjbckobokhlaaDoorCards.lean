/-
  DERIVED. GIVEN WITH THE SEED: THE CARDS: each row of YtnpjbckobokhlaaDoorRows.lean that lists a variable, with what it lists TIED to the program's text (the seventh form; the later family's looks); each row that meets fmt, with fmt's text TOLD by the authors' own Lean function (tested against real Go, not proved from fmt's source: count such statements apart). THE CARD IS WHAT COUNTS. Prove the row's statement (the work); the ties are given (YtnpjbckobokhlaaDoorTie.lean); close each card by the builder's one call (the guide's Derived/Test/ToyasCard.lean, 'card_holds'). Laid BY PROGRAM, IN A SANDBOX (cutbox-door.mjs). By AI agents, Wed Nov 11 2026. No macro, syntax, notation, axiom, sorry.
-/
import Derived.Test.YtnpjbckobokhlaaDoorRows
import GoSem.ClaimSeven
namespace Go.Proofs.YtnpjbckobokhlaaDoor
namespace Rows

/-- THE TIED CARD OF 'loupelaw03.QuoteTells'. -/
def quoteTellsCard : Claim7 := { stood := { row := quoteTellsRow, standIns := [], harness := (true, "18a39abc3c4d3aa5eaf12e722da213ccf6b81ca2cfbd01a416bf937944156b1a"), looks := true }, kinds := [], alts := [], laidByText := true, laidKinds := [.data, .data, .data, .sentinel, .sentinel], laidTests := true, laidLooks := .later }
def QuoteTellsCardSaid : Prop := Claim7.holds Tryd.pinned (.plain (OpenSpec.ofChange quoteTellsSpec)) quoteTellsCard

/-- THE TIED CARD OF 'loupelaw03.QuoteBack'. -/
def quoteBackCard : Claim7 := { stood := { row := quoteBackRow, standIns := [], harness := (true, "18a39abc3c4d3aa5eaf12e722da213ccf6b81ca2cfbd01a416bf937944156b1a"), looks := true }, kinds := [], alts := [], laidByText := true, laidKinds := [.data, .data, .data, .sentinel, .sentinel], laidTests := true, laidLooks := .later }
def QuoteBackCardSaid : Prop := Claim7.holds Tryd.pinned (.plain (OpenSpec.ofChange quoteBackSpec)) quoteBackCard

/-- THE TIED CARD OF 'loupelaw03.QuoteUtf'. -/
def quoteUtfCard : Claim7 := { stood := { row := quoteUtfRow, standIns := [], harness := (true, "18a39abc3c4d3aa5eaf12e722da213ccf6b81ca2cfbd01a416bf937944156b1a"), looks := true }, kinds := [], alts := [], laidByText := true, laidKinds := [.data, .data, .data, .sentinel, .sentinel], laidTests := true, laidLooks := .later }
def QuoteUtfCardSaid : Prop := Claim7.holds Tryd.pinned (.plain (OpenSpec.ofChange quoteUtfSpec)) quoteUtfCard

/-- THE TIED CARD OF 'loupelaw03.QuoteJoined'. -/
def quoteJoinedCard : Claim7 := { stood := { row := quoteJoinedRow, standIns := [], harness := (true, "18a39abc3c4d3aa5eaf12e722da213ccf6b81ca2cfbd01a416bf937944156b1a"), looks := true }, kinds := [], alts := [], laidByText := true, laidKinds := [.data, .data, .data, .sentinel, .sentinel], laidTests := true, laidLooks := .later }
def QuoteJoinedCardSaid : Prop := Claim7.holds Tryd.pinned (.plain (OpenSpec.ofChange quoteJoinedSpec)) quoteJoinedCard

/-- THE TIED CARD OF 'loupelaw03.QuoteCode'. -/
def quoteCodeCard : Claim7 := { stood := { row := quoteCodeRow, standIns := [], harness := (true, "18a39abc3c4d3aa5eaf12e722da213ccf6b81ca2cfbd01a416bf937944156b1a"), looks := true }, kinds := [], alts := [], laidByText := true, laidKinds := [.data, .data, .data, .sentinel, .sentinel], laidTests := true, laidLooks := .later }
def QuoteCodeCardSaid : Prop := Claim7.holds Tryd.pinned (.plain (OpenSpec.ofChange quoteCodeSpec)) quoteCodeCard

/-- THE SECOND FORM's CARD OF 'loupelaw03.QuoteTells'. -/
def quoteTellsUptoCard : Claim7 := { stood := { row := quoteTellsUptoRow, standIns := [], harness := (true, "18a39abc3c4d3aa5eaf12e722da213ccf6b81ca2cfbd01a416bf937944156b1a"), looks := true }, kinds := [], alts := [], laidByText := true, laidKinds := [.data, .data, .data, .sentinel, .sentinel], laidTests := true, laidLooks := .later }
def QuoteTellsUptoCardSaid : Prop := Claim7.holds Tryd.pinned (.plain (OpenSpec.upto quoteTellsSpec)) quoteTellsUptoCard

/-- THE SECOND FORM's CARD OF 'loupelaw03.QuoteBack'. -/
def quoteBackUptoCard : Claim7 := { stood := { row := quoteBackUptoRow, standIns := [], harness := (true, "18a39abc3c4d3aa5eaf12e722da213ccf6b81ca2cfbd01a416bf937944156b1a"), looks := true }, kinds := [], alts := [], laidByText := true, laidKinds := [.data, .data, .data, .sentinel, .sentinel], laidTests := true, laidLooks := .later }
def QuoteBackUptoCardSaid : Prop := Claim7.holds Tryd.pinned (.plain (OpenSpec.upto quoteBackSpec)) quoteBackUptoCard

/-- THE SECOND FORM's CARD OF 'loupelaw03.QuoteUtf'. -/
def quoteUtfUptoCard : Claim7 := { stood := { row := quoteUtfUptoRow, standIns := [], harness := (true, "18a39abc3c4d3aa5eaf12e722da213ccf6b81ca2cfbd01a416bf937944156b1a"), looks := true }, kinds := [], alts := [], laidByText := true, laidKinds := [.data, .data, .data, .sentinel, .sentinel], laidTests := true, laidLooks := .later }
def QuoteUtfUptoCardSaid : Prop := Claim7.holds Tryd.pinned (.plain (OpenSpec.upto quoteUtfSpec)) quoteUtfUptoCard

/-- THE SECOND FORM's CARD OF 'loupelaw03.QuoteJoined'. -/
def quoteJoinedUptoCard : Claim7 := { stood := { row := quoteJoinedUptoRow, standIns := [], harness := (true, "18a39abc3c4d3aa5eaf12e722da213ccf6b81ca2cfbd01a416bf937944156b1a"), looks := true }, kinds := [], alts := [], laidByText := true, laidKinds := [.data, .data, .data, .sentinel, .sentinel], laidTests := true, laidLooks := .later }
def QuoteJoinedUptoCardSaid : Prop := Claim7.holds Tryd.pinned (.plain (OpenSpec.upto quoteJoinedSpec)) quoteJoinedUptoCard

/-- THE SECOND FORM's CARD OF 'loupelaw03.QuoteCode'. -/
def quoteCodeUptoCard : Claim7 := { stood := { row := quoteCodeUptoRow, standIns := [], harness := (true, "18a39abc3c4d3aa5eaf12e722da213ccf6b81ca2cfbd01a416bf937944156b1a"), looks := true }, kinds := [], alts := [], laidByText := true, laidKinds := [.data, .data, .data, .sentinel, .sentinel], laidTests := true, laidLooks := .later }
def QuoteCodeUptoCardSaid : Prop := Claim7.holds Tryd.pinned (.plain (OpenSpec.upto quoteCodeSpec)) quoteCodeUptoCard
end Rows
end Go.Proofs.YtnpjbckobokhlaaDoor
