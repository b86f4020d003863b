/-
  DERIVED. GIVEN WITH THE SEED: THE CARDS: each row of YtehedlgdencboaaGreatDoorRows.lean that lists a variable, with what it lists TIED to the program's text (the seventh form; the later family's looks); each row that meets fmt, with fmt's text TOLD by the authors' own Lean function (tested against real Go, not proved from fmt's source: count such statements apart). THE CARD IS WHAT COUNTS. Prove the row's statement (the work); the ties are given (YtehedlgdencboaaGreatDoorTie.lean); close each card by the builder's one call (the guide's Derived/Test/ToyasCard.lean, 'card_holds'). Laid BY PROGRAM, IN A SANDBOX (cutbox-door.mjs). By AI agents, Wed Nov 11 2026. No macro, syntax, notation, axiom, sorry.
-/
import Derived.Test.YtehedlgdencboaaGreatDoorRows
import GoSem.ClaimSeven
namespace Go.Proofs.YtehedlgdencboaaGreatDoor
namespace Rows

/-- THE TIED CARD OF 'quintetlaw10.SyntaxRules'. -/
def syntaxRulesCard : Claim7 := { stood := { row := syntaxRulesRow, standIns := [], harness := (true, "49257b9442efd3d904aacea1bc8f960690601b523245e550765603735e9f2d03"), looks := true }, kinds := [], alts := [], laidByText := true, laidKinds := [.data, .data, .data, .handle, .sentinel, .sentinel, .data, .data], laidTests := true, laidLooks := .later }
def SyntaxRulesCardSaid : Prop := Claim7.holds Tryz.pinned (.plain (OpenSpec.ofChange syntaxRulesSpec)) syntaxRulesCard

/-- THE TIED CARD OF 'quintetlaw10.SyntaxScripts'. -/
def syntaxScriptsCard : Claim7 := { stood := { row := syntaxScriptsRow, standIns := [], harness := (true, "49257b9442efd3d904aacea1bc8f960690601b523245e550765603735e9f2d03"), looks := true }, kinds := [], alts := [], laidByText := true, laidKinds := [.data, .data, .data, .handle, .sentinel, .sentinel, .data, .data], laidTests := true, laidLooks := .later }
def SyntaxScriptsCardSaid : Prop := Claim7.holds Tryz.pinned (.plain (OpenSpec.ofChange syntaxScriptsSpec)) syntaxScriptsCard

/-- THE TIED CARD OF 'quintetlaw10.SyntaxPrints'. -/
def syntaxPrintsCard : Claim7 := { stood := { row := syntaxPrintsRow, standIns := [], harness := (true, "49257b9442efd3d904aacea1bc8f960690601b523245e550765603735e9f2d03"), looks := true }, kinds := [], alts := [], laidByText := true, laidKinds := [.data, .data, .data, .handle, .sentinel, .sentinel, .data, .data], laidTests := true, laidLooks := .later }
def SyntaxPrintsCardSaid : Prop := Claim7.holds Tryz.pinned (.plain (OpenSpec.ofChange syntaxPrintsSpec)) syntaxPrintsCard

/-- THE TIED CARD OF 'quintetlaw10.SyntaxLists'. -/
def syntaxListsCard : Claim7 := { stood := { row := syntaxListsRow, standIns := [], harness := (true, "49257b9442efd3d904aacea1bc8f960690601b523245e550765603735e9f2d03"), looks := true }, kinds := [], alts := [], laidByText := true, laidKinds := [.data, .data, .data, .handle, .sentinel, .sentinel, .data, .data], laidTests := true, laidLooks := .later }
def SyntaxListsCardSaid : Prop := Claim7.holds Tryz.pinned (.plain (OpenSpec.ofChange syntaxListsSpec)) syntaxListsCard

/-- THE TIED CARD OF 'quintetlaw10.SyntaxCommands'. -/
def syntaxCommandsCard : Claim7 := { stood := { row := syntaxCommandsRow, standIns := [], harness := (true, "49257b9442efd3d904aacea1bc8f960690601b523245e550765603735e9f2d03"), looks := true }, kinds := [], alts := [], laidByText := true, laidKinds := [.data, .data, .data, .handle, .sentinel, .sentinel, .data, .data], laidTests := true, laidLooks := .later }
def SyntaxCommandsCardSaid : Prop := Claim7.holds Tryz.pinned (.plain (OpenSpec.ofChange syntaxCommandsSpec)) syntaxCommandsCard

/-- THE TIED CARD OF 'quintetlaw10.SyntaxBack'. -/
def syntaxBackCard : Claim7 := { stood := { row := syntaxBackRow, standIns := [], harness := (true, "49257b9442efd3d904aacea1bc8f960690601b523245e550765603735e9f2d03"), looks := true }, kinds := [], alts := [], laidByText := true, laidKinds := [.data, .data, .data, .handle, .sentinel, .sentinel, .data, .data], laidTests := true, laidLooks := .later }
def SyntaxBackCardSaid : Prop := Claim7.holds Tryz.pinned (.plain (OpenSpec.ofChange syntaxBackSpec)) syntaxBackCard

/-- THE SECOND FORM's CARD OF 'quintetlaw10.SyntaxRules'. -/
def syntaxRulesUptoCard : Claim7 := { stood := { row := syntaxRulesUptoRow, standIns := [], harness := (true, "49257b9442efd3d904aacea1bc8f960690601b523245e550765603735e9f2d03"), looks := true }, kinds := [], alts := [], laidByText := true, laidKinds := [.data, .data, .data, .handle, .sentinel, .sentinel, .data, .data], laidTests := true, laidLooks := .later }
def SyntaxRulesUptoCardSaid : Prop := Claim7.holds Tryz.pinned (.plain (OpenSpec.upto syntaxRulesSpec)) syntaxRulesUptoCard

/-- THE SECOND FORM's CARD OF 'quintetlaw10.SyntaxScripts'. -/
def syntaxScriptsUptoCard : Claim7 := { stood := { row := syntaxScriptsUptoRow, standIns := [], harness := (true, "49257b9442efd3d904aacea1bc8f960690601b523245e550765603735e9f2d03"), looks := true }, kinds := [], alts := [], laidByText := true, laidKinds := [.data, .data, .data, .handle, .sentinel, .sentinel, .data, .data], laidTests := true, laidLooks := .later }
def SyntaxScriptsUptoCardSaid : Prop := Claim7.holds Tryz.pinned (.plain (OpenSpec.upto syntaxScriptsSpec)) syntaxScriptsUptoCard

/-- THE SECOND FORM's CARD OF 'quintetlaw10.SyntaxPrints'. -/
def syntaxPrintsUptoCard : Claim7 := { stood := { row := syntaxPrintsUptoRow, standIns := [], harness := (true, "49257b9442efd3d904aacea1bc8f960690601b523245e550765603735e9f2d03"), looks := true }, kinds := [], alts := [], laidByText := true, laidKinds := [.data, .data, .data, .handle, .sentinel, .sentinel, .data, .data], laidTests := true, laidLooks := .later }
def SyntaxPrintsUptoCardSaid : Prop := Claim7.holds Tryz.pinned (.plain (OpenSpec.upto syntaxPrintsSpec)) syntaxPrintsUptoCard

/-- THE SECOND FORM's CARD OF 'quintetlaw10.SyntaxLists'. -/
def syntaxListsUptoCard : Claim7 := { stood := { row := syntaxListsUptoRow, standIns := [], harness := (true, "49257b9442efd3d904aacea1bc8f960690601b523245e550765603735e9f2d03"), looks := true }, kinds := [], alts := [], laidByText := true, laidKinds := [.data, .data, .data, .handle, .sentinel, .sentinel, .data, .data], laidTests := true, laidLooks := .later }
def SyntaxListsUptoCardSaid : Prop := Claim7.holds Tryz.pinned (.plain (OpenSpec.upto syntaxListsSpec)) syntaxListsUptoCard

/-- THE SECOND FORM's CARD OF 'quintetlaw10.SyntaxCommands'. -/
def syntaxCommandsUptoCard : Claim7 := { stood := { row := syntaxCommandsUptoRow, standIns := [], harness := (true, "49257b9442efd3d904aacea1bc8f960690601b523245e550765603735e9f2d03"), looks := true }, kinds := [], alts := [], laidByText := true, laidKinds := [.data, .data, .data, .handle, .sentinel, .sentinel, .data, .data], laidTests := true, laidLooks := .later }
def SyntaxCommandsUptoCardSaid : Prop := Claim7.holds Tryz.pinned (.plain (OpenSpec.upto syntaxCommandsSpec)) syntaxCommandsUptoCard

/-- THE SECOND FORM's CARD OF 'quintetlaw10.SyntaxBack'. -/
def syntaxBackUptoCard : Claim7 := { stood := { row := syntaxBackUptoRow, standIns := [], harness := (true, "49257b9442efd3d904aacea1bc8f960690601b523245e550765603735e9f2d03"), looks := true }, kinds := [], alts := [], laidByText := true, laidKinds := [.data, .data, .data, .handle, .sentinel, .sentinel, .data, .data], laidTests := true, laidLooks := .later }
def SyntaxBackUptoCardSaid : Prop := Claim7.holds Tryz.pinned (.plain (OpenSpec.upto syntaxBackSpec)) syntaxBackUptoCard
end Rows
end Go.Proofs.YtehedlgdencboaaGreatDoor
