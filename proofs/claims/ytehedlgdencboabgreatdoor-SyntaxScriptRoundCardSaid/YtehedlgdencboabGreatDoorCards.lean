/-
  DERIVED. GIVEN WITH THE SEED: THE CARDS: each row of YtehedlgdencboabGreatDoorRows.lean that lists a variable, with what it lists TIED to the program's text (the seventh form; the later family's looks); each row that meets fmt, with fmt's text TOLD by the authors' own Lean function (tested against real Go, not proved from fmt's source: count such statements apart). THE CARD IS WHAT COUNTS. Prove the row's statement (the work); the ties are given (YtehedlgdencboabGreatDoorTie.lean); close each card by the builder's one call (the guide's Derived/Test/ToyasCard.lean, 'card_holds'). Laid BY PROGRAM, IN A SANDBOX (cutbox-door.mjs). By AI agents, Wed Nov 11 2026. No macro, syntax, notation, axiom, sorry.
-/
import Derived.Test.YtehedlgdencboabGreatDoorRows
import GoSem.ClaimSeven
namespace Go.Proofs.YtehedlgdencboabGreatDoor
namespace Rows

/-- THE TIED CARD OF 'quintetlaw10.SyntaxScriptBack'. -/
def syntaxScriptBackCard : Claim7 := { stood := { row := syntaxScriptBackRow, standIns := [], harness := (true, "5d43a455c8686ea7c9280688853b48480d5bb2fd5cd5428374f043ed58a02134"), looks := true }, kinds := [], alts := [], laidByText := true, laidKinds := [.data, .data, .data, .handle, .sentinel, .sentinel, .data, .data], laidTests := true, laidLooks := .later }
def SyntaxScriptBackCardSaid : Prop := Claim7.holds Tryz.pinned (.plain (OpenSpec.ofChange syntaxScriptBackSpec)) syntaxScriptBackCard

/-- THE TIED CARD OF 'quintetlaw10.SyntaxRound'. -/
def syntaxRoundCard : Claim7 := { stood := { row := syntaxRoundRow, standIns := [], harness := (true, "5d43a455c8686ea7c9280688853b48480d5bb2fd5cd5428374f043ed58a02134"), looks := true }, kinds := [], alts := [], laidByText := true, laidKinds := [.data, .data, .data, .handle, .sentinel, .sentinel, .data, .data], laidTests := true, laidLooks := .later }
def SyntaxRoundCardSaid : Prop := Claim7.holds Tryz.pinned (.plain (OpenSpec.ofChange syntaxRoundSpec)) syntaxRoundCard

/-- THE TIED CARD OF 'quintetlaw10.SyntaxScriptRound'. -/
def syntaxScriptRoundCard : Claim7 := { stood := { row := syntaxScriptRoundRow, standIns := [], harness := (true, "5d43a455c8686ea7c9280688853b48480d5bb2fd5cd5428374f043ed58a02134"), looks := true }, kinds := [], alts := [], laidByText := true, laidKinds := [.data, .data, .data, .handle, .sentinel, .sentinel, .data, .data], laidTests := true, laidLooks := .later }
def SyntaxScriptRoundCardSaid : Prop := Claim7.holds Tryz.pinned (.plain (OpenSpec.ofChange syntaxScriptRoundSpec)) syntaxScriptRoundCard

/-- THE TIED CARD OF 'quintetlaw10.SyntaxHeads'. -/
def syntaxHeadsCard : Claim7 := { stood := { row := syntaxHeadsRow, standIns := [], harness := (true, "5d43a455c8686ea7c9280688853b48480d5bb2fd5cd5428374f043ed58a02134"), looks := true }, kinds := [], alts := [], laidByText := true, laidKinds := [.data, .data, .data, .handle, .sentinel, .sentinel, .data, .data], laidTests := true, laidLooks := .later }
def SyntaxHeadsCardSaid : Prop := Claim7.holds Tryz.pinned (.plain (OpenSpec.ofChange syntaxHeadsSpec)) syntaxHeadsCard

/-- THE SECOND FORM's CARD OF 'quintetlaw10.SyntaxScriptBack'. -/
def syntaxScriptBackUptoCard : Claim7 := { stood := { row := syntaxScriptBackUptoRow, standIns := [], harness := (true, "5d43a455c8686ea7c9280688853b48480d5bb2fd5cd5428374f043ed58a02134"), looks := true }, kinds := [], alts := [], laidByText := true, laidKinds := [.data, .data, .data, .handle, .sentinel, .sentinel, .data, .data], laidTests := true, laidLooks := .later }
def SyntaxScriptBackUptoCardSaid : Prop := Claim7.holds Tryz.pinned (.plain (OpenSpec.upto syntaxScriptBackSpec)) syntaxScriptBackUptoCard

/-- THE SECOND FORM's CARD OF 'quintetlaw10.SyntaxRound'. -/
def syntaxRoundUptoCard : Claim7 := { stood := { row := syntaxRoundUptoRow, standIns := [], harness := (true, "5d43a455c8686ea7c9280688853b48480d5bb2fd5cd5428374f043ed58a02134"), looks := true }, kinds := [], alts := [], laidByText := true, laidKinds := [.data, .data, .data, .handle, .sentinel, .sentinel, .data, .data], laidTests := true, laidLooks := .later }
def SyntaxRoundUptoCardSaid : Prop := Claim7.holds Tryz.pinned (.plain (OpenSpec.upto syntaxRoundSpec)) syntaxRoundUptoCard

/-- THE SECOND FORM's CARD OF 'quintetlaw10.SyntaxScriptRound'. -/
def syntaxScriptRoundUptoCard : Claim7 := { stood := { row := syntaxScriptRoundUptoRow, standIns := [], harness := (true, "5d43a455c8686ea7c9280688853b48480d5bb2fd5cd5428374f043ed58a02134"), looks := true }, kinds := [], alts := [], laidByText := true, laidKinds := [.data, .data, .data, .handle, .sentinel, .sentinel, .data, .data], laidTests := true, laidLooks := .later }
def SyntaxScriptRoundUptoCardSaid : Prop := Claim7.holds Tryz.pinned (.plain (OpenSpec.upto syntaxScriptRoundSpec)) syntaxScriptRoundUptoCard

/-- THE SECOND FORM's CARD OF 'quintetlaw10.SyntaxHeads'. -/
def syntaxHeadsUptoCard : Claim7 := { stood := { row := syntaxHeadsUptoRow, standIns := [], harness := (true, "5d43a455c8686ea7c9280688853b48480d5bb2fd5cd5428374f043ed58a02134"), looks := true }, kinds := [], alts := [], laidByText := true, laidKinds := [.data, .data, .data, .handle, .sentinel, .sentinel, .data, .data], laidTests := true, laidLooks := .later }
def SyntaxHeadsUptoCardSaid : Prop := Claim7.holds Tryz.pinned (.plain (OpenSpec.upto syntaxHeadsSpec)) syntaxHeadsUptoCard
end Rows
end Go.Proofs.YtehedlgdencboabGreatDoor
