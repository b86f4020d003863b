/-
  DERIVED. GIVEN WITH THE SEED: THE CARDS: each row of YtejcckkekjkmlabDoorRows.lean that lists a variable, with what it lists TIED to the program's text (the seventh form; the later family's looks); each row that meets fmt, with fmt's text TOLD by the authors' own Lean function (tested against real Go, not proved from fmt's source: count such statements apart). THE CARD IS WHAT COUNTS. Prove the row's statement (the work); the ties are given (YtejcckkekjkmlabDoorTie.lean); close each card by the builder's one call (the guide's Derived/Test/ToyasCard.lean, 'card_holds'). Laid BY PROGRAM, IN A SANDBOX (cutbox-door.mjs). By AI agents, Wed Nov 11 2026. No macro, syntax, notation, axiom, sorry.
-/
import Derived.Test.YtejcckkekjkmlabDoorRows
import GoSem.ClaimSeven
namespace Go.Proofs.YtejcckkekjkmlabDoor
namespace Rows

/-- THE TIED CARD OF 'quintetlaw01.BitsAlike'. -/
def bitsAlikeCard : Claim7 := { stood := { row := bitsAlikeRow, standIns := [], harness := (true, "308c6e04dc1960a9902730887114706bf408fb2de2a50161c9177a2d33c6e428"), looks := false }, kinds := [], alts := [], laidByText := true, laidKinds := [.data], laidTests := true, laidLooks := .later }
def BitsAlikeCardSaid : Prop := Claim7.holds Tryd.pinned (.plain (OpenSpec.ofChange bitsAlikeSpec)) bitsAlikeCard

/-- THE SECOND FORM's CARD OF 'quintetlaw01.BitsAlike'. -/
def bitsAlikeUptoCard : Claim7 := { stood := { row := bitsAlikeUptoRow, standIns := [], harness := (true, "308c6e04dc1960a9902730887114706bf408fb2de2a50161c9177a2d33c6e428"), looks := false }, kinds := [], alts := [], laidByText := true, laidKinds := [.data], laidTests := true, laidLooks := .later }
def BitsAlikeUptoCardSaid : Prop := Claim7.holds Tryd.pinned (.plain (OpenSpec.upto bitsAlikeSpec)) bitsAlikeUptoCard
end Rows
end Go.Proofs.YtejcckkekjkmlabDoor
