/-
  DERIVED. GIVEN WITH THE SEED: THE CARDS: each row of YtejcckkekjkmlaaDoorRows.lean that lists a variable, with what it lists TIED to the program's text (the seventh form; the later family's looks); each row that meets fmt, with fmt's text TOLD by the authors' own Lean function (tested against real Go, not proved from fmt's source: count such statements apart). THE CARD IS WHAT COUNTS. Prove the row's statement (the work); the ties are given (YtejcckkekjkmlaaDoorTie.lean); close each card by the builder's one call (the guide's Derived/Test/ToyasCard.lean, 'card_holds'). Laid BY PROGRAM, IN A SANDBOX (cutbox-door.mjs). By AI agents, Wed Nov 11 2026. No macro, syntax, notation, axiom, sorry.
-/
import Derived.Test.YtejcckkekjkmlaaDoorRows
import GoSem.ClaimSeven
namespace Go.Proofs.YtejcckkekjkmlaaDoor
namespace Rows

/-- THE TIED CARD OF 'quintetlaw01.BitsHigh'. -/
def bitsHighCard : Claim7 := { stood := { row := bitsHighRow, standIns := [], harness := (true, "d38108fa3090d970c9e4478c4131f5f855a4f57af7adfa0ae6ab068f45a70ef7"), looks := false }, kinds := [], alts := [], laidByText := true, laidKinds := [.data], laidTests := true, laidLooks := .later }
def BitsHighCardSaid : Prop := Claim7.holds Tryd.pinned (.plain (OpenSpec.ofChange bitsHighSpec)) bitsHighCard

/-- THE TIED CARD OF 'quintetlaw01.BitsKeeps'. -/
def bitsKeepsCard : Claim7 := { stood := { row := bitsKeepsRow, standIns := [], harness := (true, "d38108fa3090d970c9e4478c4131f5f855a4f57af7adfa0ae6ab068f45a70ef7"), looks := false }, kinds := [], alts := [], laidByText := true, laidKinds := [.data], laidTests := true, laidLooks := .later }
def BitsKeepsCardSaid : Prop := Claim7.holds Tryd.pinned (.plain (OpenSpec.ofChange bitsKeepsSpec)) bitsKeepsCard

/-- THE TIED CARD OF 'quintetlaw01.BitsAt'. -/
def bitsAtCard : Claim7 := { stood := { row := bitsAtRow, standIns := [], harness := (true, "d38108fa3090d970c9e4478c4131f5f855a4f57af7adfa0ae6ab068f45a70ef7"), looks := false }, kinds := [], alts := [], laidByText := true, laidKinds := [.data], laidTests := true, laidLooks := .later }
def BitsAtCardSaid : Prop := Claim7.holds Tryd.pinned (.plain (OpenSpec.ofChange bitsAtSpec)) bitsAtCard

/-- THE TIED CARD OF 'quintetlaw01.BitsSame'. -/
def bitsSameCard : Claim7 := { stood := { row := bitsSameRow, standIns := [], harness := (true, "d38108fa3090d970c9e4478c4131f5f855a4f57af7adfa0ae6ab068f45a70ef7"), looks := false }, kinds := [], alts := [], laidByText := true, laidKinds := [.data], laidTests := true, laidLooks := .later }
def BitsSameCardSaid : Prop := Claim7.holds Tryd.pinned (.plain (OpenSpec.ofChange bitsSameSpec)) bitsSameCard

/-- THE TIED CARD OF 'quintetlaw01.BitsCounts'. -/
def bitsCountsCard : Claim7 := { stood := { row := bitsCountsRow, standIns := [], harness := (true, "d38108fa3090d970c9e4478c4131f5f855a4f57af7adfa0ae6ab068f45a70ef7"), looks := false }, kinds := [], alts := [], laidByText := true, laidKinds := [.data], laidTests := true, laidLooks := .later }
def BitsCountsCardSaid : Prop := Claim7.holds Tryd.pinned (.plain (OpenSpec.ofChange bitsCountsSpec)) bitsCountsCard

/-- THE TIED CARD OF 'quintetlaw01.BitsText'. -/
def bitsTextCard : Claim7 := { stood := { row := bitsTextRow, standIns := [], harness := (true, "d38108fa3090d970c9e4478c4131f5f855a4f57af7adfa0ae6ab068f45a70ef7"), looks := false }, kinds := [], alts := [], laidByText := true, laidKinds := [.data], laidTests := true, laidLooks := .later }
def BitsTextCardSaid : Prop := Claim7.holds Tryd.pinned (.plain (OpenSpec.ofChange bitsTextSpec)) bitsTextCard

/-- THE SECOND FORM's CARD OF 'quintetlaw01.BitsHigh'. -/
def bitsHighUptoCard : Claim7 := { stood := { row := bitsHighUptoRow, standIns := [], harness := (true, "d38108fa3090d970c9e4478c4131f5f855a4f57af7adfa0ae6ab068f45a70ef7"), looks := false }, kinds := [], alts := [], laidByText := true, laidKinds := [.data], laidTests := true, laidLooks := .later }
def BitsHighUptoCardSaid : Prop := Claim7.holds Tryd.pinned (.plain (OpenSpec.upto bitsHighSpec)) bitsHighUptoCard

/-- THE SECOND FORM's CARD OF 'quintetlaw01.BitsKeeps'. -/
def bitsKeepsUptoCard : Claim7 := { stood := { row := bitsKeepsUptoRow, standIns := [], harness := (true, "d38108fa3090d970c9e4478c4131f5f855a4f57af7adfa0ae6ab068f45a70ef7"), looks := false }, kinds := [], alts := [], laidByText := true, laidKinds := [.data], laidTests := true, laidLooks := .later }
def BitsKeepsUptoCardSaid : Prop := Claim7.holds Tryd.pinned (.plain (OpenSpec.upto bitsKeepsSpec)) bitsKeepsUptoCard

/-- THE SECOND FORM's CARD OF 'quintetlaw01.BitsAt'. -/
def bitsAtUptoCard : Claim7 := { stood := { row := bitsAtUptoRow, standIns := [], harness := (true, "d38108fa3090d970c9e4478c4131f5f855a4f57af7adfa0ae6ab068f45a70ef7"), looks := false }, kinds := [], alts := [], laidByText := true, laidKinds := [.data], laidTests := true, laidLooks := .later }
def BitsAtUptoCardSaid : Prop := Claim7.holds Tryd.pinned (.plain (OpenSpec.upto bitsAtSpec)) bitsAtUptoCard

/-- THE SECOND FORM's CARD OF 'quintetlaw01.BitsSame'. -/
def bitsSameUptoCard : Claim7 := { stood := { row := bitsSameUptoRow, standIns := [], harness := (true, "d38108fa3090d970c9e4478c4131f5f855a4f57af7adfa0ae6ab068f45a70ef7"), looks := false }, kinds := [], alts := [], laidByText := true, laidKinds := [.data], laidTests := true, laidLooks := .later }
def BitsSameUptoCardSaid : Prop := Claim7.holds Tryd.pinned (.plain (OpenSpec.upto bitsSameSpec)) bitsSameUptoCard

/-- THE SECOND FORM's CARD OF 'quintetlaw01.BitsCounts'. -/
def bitsCountsUptoCard : Claim7 := { stood := { row := bitsCountsUptoRow, standIns := [], harness := (true, "d38108fa3090d970c9e4478c4131f5f855a4f57af7adfa0ae6ab068f45a70ef7"), looks := false }, kinds := [], alts := [], laidByText := true, laidKinds := [.data], laidTests := true, laidLooks := .later }
def BitsCountsUptoCardSaid : Prop := Claim7.holds Tryd.pinned (.plain (OpenSpec.upto bitsCountsSpec)) bitsCountsUptoCard

/-- THE SECOND FORM's CARD OF 'quintetlaw01.BitsText'. -/
def bitsTextUptoCard : Claim7 := { stood := { row := bitsTextUptoRow, standIns := [], harness := (true, "d38108fa3090d970c9e4478c4131f5f855a4f57af7adfa0ae6ab068f45a70ef7"), looks := false }, kinds := [], alts := [], laidByText := true, laidKinds := [.data], laidTests := true, laidLooks := .later }
def BitsTextUptoCardSaid : Prop := Claim7.holds Tryd.pinned (.plain (OpenSpec.upto bitsTextSpec)) bitsTextUptoCard
end Rows
end Go.Proofs.YtejcckkekjkmlaaDoor
