/-
  No cell of these rows narrows 'for every input' (looked for: loops, veiled, ifaces, maps, wideKeys, modest, calm, conditions, laid).
  DERIVED. THE GIVEN ROWS OF THIS SEAT. 4 by the template 'for every input the law returns true; each argument reads behind the call as it read before'; 0 by the template 'total and deterministic' (their statements: YtfpmljgmfapoiaaTotals.lean).
  GIVEN WITH THE SEED: the statements are not yours to turn. If you find one false, say at which input.
  Laid BY PROGRAM, IN A SANDBOX (cutbox-rows.mjs): the forced cells as the released guide's own fill.sh prints them over the translation 1b19ebab7353f641… (all of the seat's roots in one cut). By AI agents, Wed Nov 11 2026. No macro, syntax, notation, axiom, sorry.
-/
import Derived.Test.YtfpmljgmfapoiaaChecked
import GoSem.Claim
import GoSem.ClaimJoined
import GoSem.ClaimMapViews
import Derived.JoinedTies
import Derived.KernelRfl
namespace Go.Proofs.Ytfpmljgmfapoiaa
/- THE CELL 'sum', in the pinned program and in every row, IS THE sha256 OF THE DUMP (.gsa) THAT YtfpmljgmfapoiaaProg.lean LOADS. Nothing in Lean hashes anything: it is a label: what it is worth is what the hold of that sum in a sandbox is worth. -/
noncomputable def Try.pinned : Pinned := { name := "ytfpmljgmfapoiaa", sum := "1b19ebab7353f6412b8650bc891698a0f857e43bbe818556e269b0f263edfb0f", checked := Try.checked }
namespace Rows
def none {H : Type} : Left H := { results := [], args := [] }

/-- 'quintetlaw19.TupleNew': WHATEVER THE INPUT: true; the input reads as it did. -/
def tupleNewSpec : ChangeSpec := { name := "tupleNew", fn := fun _ => fun
  | [d1, d2] => { results := [.lit (.bool true)], args := [d1, d2] }
  | _ => none }
def tupleNewRow : OpenClaim := { program := "ytfpmljgmfapoiaa", sum := "1b19ebab7353f6412b8650bc891698a0f857e43bbe818556e269b0f263edfb0f", func := "quintet/quintetlaw19.TupleNew", spec := "tupleNew", unfollowed := true, recurses := true, plainKeys := false, apart := false }
def TupleNewSaid : Prop := tupleNewRow.holds Try.pinned (OpenSpec.ofChange tupleNewSpec)

/-- ITS FALSE NEIGHBOUR: 'it returns false'. Refute it at one input. -/
def tupleNewWrong : ChangeSpec := { name := "tupleNew", fn := fun _ => fun
  | [d1, d2] => { results := [.lit (.bool false)], args := [d1, d2] }
  | _ => none }
def TupleNewWrongFalsely : Prop := tupleNewRow.holds Try.pinned (OpenSpec.ofChange tupleNewWrong)

/-- 'quintetlaw19.TupleAlike': WHATEVER THE INPUT: true; the input reads as it did. -/
def tupleAlikeSpec : ChangeSpec := { name := "tupleAlike", fn := fun _ => fun
  | [d1, d2, d3, d4] => { results := [.lit (.bool true)], args := [d1, d2, d3, d4] }
  | _ => none }
def tupleAlikeRow : OpenClaim := { program := "ytfpmljgmfapoiaa", sum := "1b19ebab7353f6412b8650bc891698a0f857e43bbe818556e269b0f263edfb0f", func := "quintet/quintetlaw19.TupleAlike", spec := "tupleAlike", unfollowed := true, recurses := true, plainKeys := false, apart := false }
def TupleAlikeSaid : Prop := tupleAlikeRow.holds Try.pinned (OpenSpec.ofChange tupleAlikeSpec)

/-- ITS FALSE NEIGHBOUR: 'it returns false'. Refute it at one input. -/
def tupleAlikeWrong : ChangeSpec := { name := "tupleAlike", fn := fun _ => fun
  | [d1, d2, d3, d4] => { results := [.lit (.bool false)], args := [d1, d2, d3, d4] }
  | _ => none }
def TupleAlikeWrongFalsely : Prop := tupleAlikeRow.holds Try.pinned (OpenSpec.ofChange tupleAlikeWrong)

/-- 'quintetlaw19.TupleApart': WHATEVER THE INPUT: true; the input reads as it did. -/
def tupleApartSpec : ChangeSpec := { name := "tupleApart", fn := fun _ => fun
  | [d1, d2, d3, d4] => { results := [.lit (.bool true)], args := [d1, d2, d3, d4] }
  | _ => none }
def tupleApartRow : OpenClaim := { program := "ytfpmljgmfapoiaa", sum := "1b19ebab7353f6412b8650bc891698a0f857e43bbe818556e269b0f263edfb0f", func := "quintet/quintetlaw19.TupleApart", spec := "tupleApart", unfollowed := true, recurses := true, plainKeys := false, apart := false }
def TupleApartSaid : Prop := tupleApartRow.holds Try.pinned (OpenSpec.ofChange tupleApartSpec)

/-- ITS FALSE NEIGHBOUR: 'it returns false'. Refute it at one input. -/
def tupleApartWrong : ChangeSpec := { name := "tupleApart", fn := fun _ => fun
  | [d1, d2, d3, d4] => { results := [.lit (.bool false)], args := [d1, d2, d3, d4] }
  | _ => none }
def TupleApartWrongFalsely : Prop := tupleApartRow.holds Try.pinned (OpenSpec.ofChange tupleApartWrong)

/-- 'quintetlaw19.TupleNil': WHATEVER THE INPUT: true; the input reads as it did. -/
def tupleNilSpec : ChangeSpec := { name := "tupleNil", fn := fun _ => fun
  | [d1, d2] => { results := [.lit (.bool true)], args := [d1, d2] }
  | _ => none }
def tupleNilRow : OpenClaim := { program := "ytfpmljgmfapoiaa", sum := "1b19ebab7353f6412b8650bc891698a0f857e43bbe818556e269b0f263edfb0f", func := "quintet/quintetlaw19.TupleNil", spec := "tupleNil", unfollowed := true, recurses := true, plainKeys := false, apart := false }
def TupleNilSaid : Prop := tupleNilRow.holds Try.pinned (OpenSpec.ofChange tupleNilSpec)

/-- ITS FALSE NEIGHBOUR: 'it returns false'. Refute it at one input. -/
def tupleNilWrong : ChangeSpec := { name := "tupleNil", fn := fun _ => fun
  | [d1, d2] => { results := [.lit (.bool false)], args := [d1, d2] }
  | _ => none }
def TupleNilWrongFalsely : Prop := tupleNilRow.holds Try.pinned (OpenSpec.ofChange tupleNilWrong)

/- THE SECOND FORM. 'bulk': how many values and letters a reading holds, each counted each time it is reached (what is shared counts as often as it is met; a slice's spare places count too). A statement '..UptoSaid' is the law's where the arguments, and the package variables that the reading takes, are together of bulk at most 1048576: NARROWER than '..Said'. Prove '..Said' where nothing that the law and all that it calls make is longer than what came in: it says more and counts as full. Else prove '..UptoSaid'. A law counts once. -/
mutual
def uptoBulk {H : Type} : DataW H → Nat
  | .lit (.string bytes) => bytes.length + 1
  | .lit _ => 1
  | .nil => 1
  | .ptr d => uptoBulk d + 1
  | .slice elems spare => uptoBulkAll elems + uptoBulkAll spare + 1
  | .agg parts => uptoBulkAll parts + 1
  | .iface _ d => uptoBulk d + 1
  | .map entries => uptoBulkEntries entries + 1
  | .held _ => 1
def uptoBulkAll {H : Type} : List (DataW H) → Nat
  | [] => 0
  | d :: r => uptoBulk d + uptoBulkAll r
def uptoBulkEntries {H : Type} : List (Lit × DataW H) → Nat
  | [] => 0
  | x :: r => uptoBulkEntry x + uptoBulkEntries r
def uptoBulkEntry {H : Type} : Lit × DataW H → Nat
  | (.string bytes, d) => bytes.length + uptoBulk d + 1
  | (_, d) => uptoBulk d + 1
 end
def uptoSmall : (H : Type) → List (DataW H) → Bool := fun _ ds => decide (uptoBulkAll ds ≤ 1048576)
def OpenSpec.upto (s : _root_.Go.ChangeSpec) : _root_.Go.OpenSpec := { _root_.Go.OpenSpec.ofChange s with cond := some uptoSmall }

/-- 'quintetlaw19.TupleNew', WHERE WHAT IT READS IS OF BULK AT MOST 1048576: true; the input reads as it did. -/
def tupleNewUptoRow : OpenClaim := { program := "ytfpmljgmfapoiaa", sum := "1b19ebab7353f6412b8650bc891698a0f857e43bbe818556e269b0f263edfb0f", func := "quintet/quintetlaw19.TupleNew", spec := "tupleNew", unfollowed := true, recurses := true, plainKeys := false, apart := false, narrowed := true }
def TupleNewUptoSaid : Prop := tupleNewUptoRow.holds Try.pinned (OpenSpec.upto tupleNewSpec)

/-- 'quintetlaw19.TupleAlike', WHERE WHAT IT READS IS OF BULK AT MOST 1048576: true; the input reads as it did. -/
def tupleAlikeUptoRow : OpenClaim := { program := "ytfpmljgmfapoiaa", sum := "1b19ebab7353f6412b8650bc891698a0f857e43bbe818556e269b0f263edfb0f", func := "quintet/quintetlaw19.TupleAlike", spec := "tupleAlike", unfollowed := true, recurses := true, plainKeys := false, apart := false, narrowed := true }
def TupleAlikeUptoSaid : Prop := tupleAlikeUptoRow.holds Try.pinned (OpenSpec.upto tupleAlikeSpec)

/-- 'quintetlaw19.TupleApart', WHERE WHAT IT READS IS OF BULK AT MOST 1048576: true; the input reads as it did. -/
def tupleApartUptoRow : OpenClaim := { program := "ytfpmljgmfapoiaa", sum := "1b19ebab7353f6412b8650bc891698a0f857e43bbe818556e269b0f263edfb0f", func := "quintet/quintetlaw19.TupleApart", spec := "tupleApart", unfollowed := true, recurses := true, plainKeys := false, apart := false, narrowed := true }
def TupleApartUptoSaid : Prop := tupleApartUptoRow.holds Try.pinned (OpenSpec.upto tupleApartSpec)

/-- 'quintetlaw19.TupleNil', WHERE WHAT IT READS IS OF BULK AT MOST 1048576: true; the input reads as it did. -/
def tupleNilUptoRow : OpenClaim := { program := "ytfpmljgmfapoiaa", sum := "1b19ebab7353f6412b8650bc891698a0f857e43bbe818556e269b0f263edfb0f", func := "quintet/quintetlaw19.TupleNil", spec := "tupleNil", unfollowed := true, recurses := true, plainKeys := false, apart := false, narrowed := true }
def TupleNilUptoSaid : Prop := tupleNilUptoRow.holds Try.pinned (OpenSpec.upto tupleNilSpec)

end Rows
end Go.Proofs.Ytfpmljgmfapoiaa
