/-
  No cell of these rows narrows 'for every input' (looked for: loops, veiled, ifaces, maps, wideKeys, modest, calm, conditions, laid).
  DERIVED. THE GIVEN ROWS OF THIS SEAT. 2 by the template 'for every input the law returns true; each argument reads behind the call as it read before'; 0 by the template 'total and deterministic' (their statements: YtphfjhkbbodfaabTotals.lean).
  GIVEN WITH THE SEED: the statements are not yours to turn. If you find one false, say at which input.
  Laid BY PROGRAM, IN A SANDBOX (cutbox-rows.mjs): the forced cells as the released guide's own fill.sh prints them over the translation fe69e732586bb5f4… (all of the seat's roots in one cut). By AI agents, Wed Nov 11 2026. No macro, syntax, notation, axiom, sorry.
-/
import Derived.Test.YtphfjhkbbodfaabChecked
import GoSem.Claim
import GoSem.ClaimJoined
import GoSem.ClaimMapViews
import Derived.JoinedTies
import Derived.KernelRfl
namespace Go.Proofs.Ytphfjhkbbodfaab
/- THE CELL 'sum', in the pinned program and in every row, IS THE sha256 OF THE DUMP (.gsa) THAT YtphfjhkbbodfaabProg.lean LOADS. Nothing in Lean hashes anything: it is a label: what it is worth is what the hold of that sum in a sandbox is worth. -/
noncomputable def Try.pinned : Pinned := { name := "ytphfjhkbbodfaab", sum := "fe69e732586bb5f468603a0a3c2c64a7fff7a3e4970d045c2eb124001a1df26f", checked := Try.checked }
namespace Rows
def none {H : Type} : Left H := { results := [], args := [] }

/-- 'quintetlaw04.MaskMeets': WHATEVER THE INPUT: true; the input reads as it did. -/
def maskMeetsSpec : ChangeSpec := { name := "maskMeets", fn := fun _ => fun
  | [d1, d2, d3] => { results := [.lit (.bool true)], args := [d1, d2, d3] }
  | _ => none }
def maskMeetsRow : OpenClaim := { program := "ytphfjhkbbodfaab", sum := "fe69e732586bb5f468603a0a3c2c64a7fff7a3e4970d045c2eb124001a1df26f", func := "quintet/quintetlaw04.MaskMeets", spec := "maskMeets", unfollowed := true, recurses := true, apart := false }
def MaskMeetsSaid : Prop := maskMeetsRow.holds Try.pinned (OpenSpec.ofChange maskMeetsSpec)

/-- ITS FALSE NEIGHBOUR: 'it returns false'. Refute it at one input. -/
def maskMeetsWrong : ChangeSpec := { name := "maskMeets", fn := fun _ => fun
  | [d1, d2, d3] => { results := [.lit (.bool false)], args := [d1, d2, d3] }
  | _ => none }
def MaskMeetsWrongFalsely : Prop := maskMeetsRow.holds Try.pinned (OpenSpec.ofChange maskMeetsWrong)

/-- 'quintetlaw04.MaskWraps': WHATEVER THE INPUT: true; the input reads as it did. -/
def maskWrapsSpec : ChangeSpec := { name := "maskWraps", fn := fun _ => fun
  | [d1, d2] => { results := [.lit (.bool true)], args := [d1, d2] }
  | _ => none }
def maskWrapsRow : OpenClaim := { program := "ytphfjhkbbodfaab", sum := "fe69e732586bb5f468603a0a3c2c64a7fff7a3e4970d045c2eb124001a1df26f", func := "quintet/quintetlaw04.MaskWraps", spec := "maskWraps", apart := false }
def MaskWrapsSaid : Prop := maskWrapsRow.holds Try.pinned (OpenSpec.ofChange maskWrapsSpec)

/-- ITS FALSE NEIGHBOUR: 'it returns false'. Refute it at one input. -/
def maskWrapsWrong : ChangeSpec := { name := "maskWraps", fn := fun _ => fun
  | [d1, d2] => { results := [.lit (.bool false)], args := [d1, d2] }
  | _ => none }
def MaskWrapsWrongFalsely : Prop := maskWrapsRow.holds Try.pinned (OpenSpec.ofChange maskWrapsWrong)

/- THE SECOND FORM. 'bulk': how many values and letters a reading holds, each counted each time it is reached (what is shared counts as often as it is met; a slice's spare places count too). A statement '..UptoSaid' is the law's where the arguments, and the package variables that the reading takes, are together of bulk at most 1048576: NARROWER than '..Said'. Prove '..Said' where nothing that the law and all that it calls make is longer than what came in: it says more and counts as full. Else prove '..UptoSaid'. A law counts once. -/
mutual
def uptoBulk {H : Type} : DataW H → Nat
  | .lit (.string bytes) => bytes.length + 1
  | .lit _ => 1
  | .nil => 1
  | .ptr d => uptoBulk d + 1
  | .slice elems spare => uptoBulkAll elems + uptoBulkAll spare + 1
  | .agg parts => uptoBulkAll parts + 1
  | .iface _ d => uptoBulk d + 1
  | .map entries => uptoBulkEntries entries + 1
  | .held _ => 1
def uptoBulkAll {H : Type} : List (DataW H) → Nat
  | [] => 0
  | d :: r => uptoBulk d + uptoBulkAll r
def uptoBulkEntries {H : Type} : List (Lit × DataW H) → Nat
  | [] => 0
  | x :: r => uptoBulkEntry x + uptoBulkEntries r
def uptoBulkEntry {H : Type} : Lit × DataW H → Nat
  | (.string bytes, d) => bytes.length + uptoBulk d + 1
  | (_, d) => uptoBulk d + 1
 end
def uptoSmall : (H : Type) → List (DataW H) → Bool := fun _ ds => decide (uptoBulkAll ds ≤ 1048576)
def OpenSpec.upto (s : _root_.Go.ChangeSpec) : _root_.Go.OpenSpec := { _root_.Go.OpenSpec.ofChange s with cond := some uptoSmall }

/-- 'quintetlaw04.MaskMeets', WHERE WHAT IT READS IS OF BULK AT MOST 1048576: true; the input reads as it did. -/
def maskMeetsUptoRow : OpenClaim := { program := "ytphfjhkbbodfaab", sum := "fe69e732586bb5f468603a0a3c2c64a7fff7a3e4970d045c2eb124001a1df26f", func := "quintet/quintetlaw04.MaskMeets", spec := "maskMeets", unfollowed := true, recurses := true, apart := false, narrowed := true }
def MaskMeetsUptoSaid : Prop := maskMeetsUptoRow.holds Try.pinned (OpenSpec.upto maskMeetsSpec)

/-- 'quintetlaw04.MaskWraps', WHERE WHAT IT READS IS OF BULK AT MOST 1048576: true; the input reads as it did. -/
def maskWrapsUptoRow : OpenClaim := { program := "ytphfjhkbbodfaab", sum := "fe69e732586bb5f468603a0a3c2c64a7fff7a3e4970d045c2eb124001a1df26f", func := "quintet/quintetlaw04.MaskWraps", spec := "maskWraps", apart := false, narrowed := true }
def MaskWrapsUptoSaid : Prop := maskWrapsUptoRow.holds Try.pinned (OpenSpec.upto maskWrapsSpec)

end Rows
end Go.Proofs.Ytphfjhkbbodfaab
