/-
  No cell of these rows narrows 'for every input' (looked for: loops, veiled, ifaces, maps, wideKeys, modest, calm, conditions, laid).
  DERIVED. THE GIVEN ROWS OF THIS SEAT. 3 by the template 'for every input the law returns true; each argument reads behind the call as it read before'; 0 by the template 'total and deterministic' (their statements: YtgidohnikggjfaaGreatTotals.lean).
  GIVEN WITH THE SEED: the statements are not yours to turn. If you find one false, say at which input.
  Laid BY PROGRAM, IN A SANDBOX (cutbox-rows.mjs): the forced cells as the released guide's own fill.sh prints them over the translation 8573594b73eeaacb… (all of the seat's roots in one cut). By AI agents, Wed Nov 11 2026. No macro, syntax, notation, axiom, sorry.
-/
import Derived.Test.YtgidohnikggjfaaGreatChecked
import GoSem.Claim
import GoSem.ClaimJoined
import GoSem.ClaimMapViews
import Derived.JoinedTies
import Derived.KernelRfl
namespace Go.Proofs.YtgidohnikggjfaaGreat
/- THE CELL 'sum', in the pinned program and in every row, IS THE sha256 OF THE DUMP (.gsa) THAT YtgidohnikggjfaaGreatProg.lean LOADS. Nothing in Lean hashes anything: it is a label: what it is worth is what the hold of that sum in a sandbox is worth. -/
noncomputable def Tryz.pinned : Pinned := { name := "ytgidohnikggjfaagreat", sum := "8573594b73eeaacba82659db1faf860f16e159b1486af6d68d367bdf4aeb5cc2", checked := Tryz.checked }
namespace Rows
def none {H : Type} : Left H := { results := [], args := [] }

/-- 'quintetlaw17.GridNew': WHATEVER THE INPUT: true; the input reads as it did. -/
def gridNewSpec : ChangeSpec := { name := "gridNew", fn := fun _ => fun
  | [d1, d2] => { results := [.lit (.bool true)], args := [d1, d2] }
  | _ => none }
def gridNewRow : OpenClaim := { program := "ytgidohnikggjfaagreat", sum := "8573594b73eeaacba82659db1faf860f16e159b1486af6d68d367bdf4aeb5cc2", func := "quintet/quintetlaw17.GridNew", spec := "gridNew", unfollowed := true, recurses := true, apart := false }
def GridNewSaid : Prop := gridNewRow.holds Tryz.pinned (OpenSpec.ofChange gridNewSpec)

/-- ITS FALSE NEIGHBOUR: 'it returns false'. Refute it at one input. -/
def gridNewWrong : ChangeSpec := { name := "gridNew", fn := fun _ => fun
  | [d1, d2] => { results := [.lit (.bool false)], args := [d1, d2] }
  | _ => none }
def GridNewWrongFalsely : Prop := gridNewRow.holds Tryz.pinned (OpenSpec.ofChange gridNewWrong)

/-- 'quintetlaw17.GridPlays': WHATEVER THE INPUT: true; the input reads as it did. -/
def gridPlaysSpec : ChangeSpec := { name := "gridPlays", fn := fun _ => fun
  | [d1, d2, d3] => { results := [.lit (.bool true)], args := [d1, d2, d3] }
  | _ => none }
def gridPlaysRow : OpenClaim := { program := "ytgidohnikggjfaagreat", sum := "8573594b73eeaacba82659db1faf860f16e159b1486af6d68d367bdf4aeb5cc2", func := "quintet/quintetlaw17.GridPlays", spec := "gridPlays", unfollowed := true, recurses := true, apart := false }
def GridPlaysSaid : Prop := gridPlaysRow.holds Tryz.pinned (OpenSpec.ofChange gridPlaysSpec)

/-- ITS FALSE NEIGHBOUR: 'it returns false'. Refute it at one input. -/
def gridPlaysWrong : ChangeSpec := { name := "gridPlays", fn := fun _ => fun
  | [d1, d2, d3] => { results := [.lit (.bool false)], args := [d1, d2, d3] }
  | _ => none }
def GridPlaysWrongFalsely : Prop := gridPlaysRow.holds Tryz.pinned (OpenSpec.ofChange gridPlaysWrong)

/-- 'quintetlaw17.GridSets': WHATEVER THE INPUT: true; the input reads as it did. -/
def gridSetsSpec : ChangeSpec := { name := "gridSets", fn := fun _ => fun
  | [d1, d2, d3] => { results := [.lit (.bool true)], args := [d1, d2, d3] }
  | _ => none }
def gridSetsRow : OpenClaim := { program := "ytgidohnikggjfaagreat", sum := "8573594b73eeaacba82659db1faf860f16e159b1486af6d68d367bdf4aeb5cc2", func := "quintet/quintetlaw17.GridSets", spec := "gridSets", unfollowed := true, recurses := true, apart := false }
def GridSetsSaid : Prop := gridSetsRow.holds Tryz.pinned (OpenSpec.ofChange gridSetsSpec)

/-- ITS FALSE NEIGHBOUR: 'it returns false'. Refute it at one input. -/
def gridSetsWrong : ChangeSpec := { name := "gridSets", fn := fun _ => fun
  | [d1, d2, d3] => { results := [.lit (.bool false)], args := [d1, d2, d3] }
  | _ => none }
def GridSetsWrongFalsely : Prop := gridSetsRow.holds Tryz.pinned (OpenSpec.ofChange gridSetsWrong)

/- THE SECOND FORM. 'bulk': how many values and letters a reading holds, each counted each time it is reached (what is shared counts as often as it is met; a slice's spare places count too). A statement '..UptoSaid' is the law's where the arguments, and the package variables that the reading takes, are together of bulk at most 1048576: NARROWER than '..Said'. Prove '..Said' where nothing that the law and all that it calls make is longer than what came in: it says more and counts as full. Else prove '..UptoSaid'. A law counts once. -/
mutual
def uptoBulk {H : Type} : DataW H → Nat
  | .lit (.string bytes) => bytes.length + 1
  | .lit _ => 1
  | .nil => 1
  | .ptr d => uptoBulk d + 1
  | .slice elems spare => uptoBulkAll elems + uptoBulkAll spare + 1
  | .agg parts => uptoBulkAll parts + 1
  | .iface _ d => uptoBulk d + 1
  | .map entries => uptoBulkEntries entries + 1
  | .held _ => 1
def uptoBulkAll {H : Type} : List (DataW H) → Nat
  | [] => 0
  | d :: r => uptoBulk d + uptoBulkAll r
def uptoBulkEntries {H : Type} : List (Lit × DataW H) → Nat
  | [] => 0
  | x :: r => uptoBulkEntry x + uptoBulkEntries r
def uptoBulkEntry {H : Type} : Lit × DataW H → Nat
  | (.string bytes, d) => bytes.length + uptoBulk d + 1
  | (_, d) => uptoBulk d + 1
 end
def uptoSmall : (H : Type) → List (DataW H) → Bool := fun _ ds => decide (uptoBulkAll ds ≤ 1048576)
def OpenSpec.upto (s : _root_.Go.ChangeSpec) : _root_.Go.OpenSpec := { _root_.Go.OpenSpec.ofChange s with cond := some uptoSmall }

/-- 'quintetlaw17.GridNew', WHERE WHAT IT READS IS OF BULK AT MOST 1048576: true; the input reads as it did. -/
def gridNewUptoRow : OpenClaim := { program := "ytgidohnikggjfaagreat", sum := "8573594b73eeaacba82659db1faf860f16e159b1486af6d68d367bdf4aeb5cc2", func := "quintet/quintetlaw17.GridNew", spec := "gridNew", unfollowed := true, recurses := true, apart := false, narrowed := true }
def GridNewUptoSaid : Prop := gridNewUptoRow.holds Tryz.pinned (OpenSpec.upto gridNewSpec)

/-- 'quintetlaw17.GridPlays', WHERE WHAT IT READS IS OF BULK AT MOST 1048576: true; the input reads as it did. -/
def gridPlaysUptoRow : OpenClaim := { program := "ytgidohnikggjfaagreat", sum := "8573594b73eeaacba82659db1faf860f16e159b1486af6d68d367bdf4aeb5cc2", func := "quintet/quintetlaw17.GridPlays", spec := "gridPlays", unfollowed := true, recurses := true, apart := false, narrowed := true }
def GridPlaysUptoSaid : Prop := gridPlaysUptoRow.holds Tryz.pinned (OpenSpec.upto gridPlaysSpec)

/-- 'quintetlaw17.GridSets', WHERE WHAT IT READS IS OF BULK AT MOST 1048576: true; the input reads as it did. -/
def gridSetsUptoRow : OpenClaim := { program := "ytgidohnikggjfaagreat", sum := "8573594b73eeaacba82659db1faf860f16e159b1486af6d68d367bdf4aeb5cc2", func := "quintet/quintetlaw17.GridSets", spec := "gridSets", unfollowed := true, recurses := true, apart := false, narrowed := true }
def GridSetsUptoSaid : Prop := gridSetsUptoRow.holds Tryz.pinned (OpenSpec.upto gridSetsSpec)

end Rows
end Go.Proofs.YtgidohnikggjfaaGreat
