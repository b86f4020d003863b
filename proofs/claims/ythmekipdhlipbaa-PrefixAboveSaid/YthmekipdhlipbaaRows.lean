/-
  No cell of these rows narrows 'for every input' (looked for: loops, veiled, ifaces, maps, wideKeys, modest, calm, conditions, laid).
  DERIVED. THE GIVEN ROWS OF THIS SEAT. 6 by the template 'for every input the law returns true; each argument reads behind the call as it read before'; 0 by the template 'total and deterministic' (their statements: YthmekipdhlipbaaTotals.lean).
  GIVEN WITH THE SEED: the statements are not yours to turn. If you find one false, say at which input.
  Laid BY PROGRAM, IN A SANDBOX (cutbox-rows.mjs): the forced cells as the released guide's own fill.sh prints them over the translation a89ce6869eb38561… (all of the seat's roots in one cut). By AI agents, Wed Nov 11 2026. No macro, syntax, notation, axiom, sorry.
-/
import Derived.Test.YthmekipdhlipbaaChecked
import GoSem.Claim
import GoSem.ClaimJoined
import GoSem.ClaimMapViews
import Derived.JoinedTies
import Derived.KernelRfl
namespace Go.Proofs.Ythmekipdhlipbaa
/- THE CELL 'sum', in the pinned program and in every row, IS THE sha256 OF THE DUMP (.gsa) THAT YthmekipdhlipbaaProg.lean LOADS. Nothing in Lean hashes anything: it is a label: what it is worth is what the hold of that sum in a sandbox is worth. -/
noncomputable def Try.pinned : Pinned := { name := "ythmekipdhlipbaa", sum := "a89ce6869eb385614d16068f0a88194e258ff981fa118c892abedd53e8ba5945", checked := Try.checked }
namespace Rows
def none {H : Type} : Left H := { results := [], args := [] }

/-- 'quintetlaw02.PrefixAbove': WHATEVER THE INPUT: true; the input reads as it did. -/
def prefixAboveSpec : ChangeSpec := { name := "prefixAbove", fn := fun _ => fun
  | [d1, d2] => { results := [.lit (.bool true)], args := [d1, d2] }
  | _ => none }
def prefixAboveRow : OpenClaim := { program := "ythmekipdhlipbaa", sum := "a89ce6869eb385614d16068f0a88194e258ff981fa118c892abedd53e8ba5945", func := "quintet/quintetlaw02.PrefixAbove", spec := "prefixAbove", unfollowed := true, recurses := true, apart := false }
def PrefixAboveSaid : Prop := prefixAboveRow.holds Try.pinned (OpenSpec.ofChange prefixAboveSpec)

/-- ITS FALSE NEIGHBOUR: 'it returns false'. Refute it at one input. -/
def prefixAboveWrong : ChangeSpec := { name := "prefixAbove", fn := fun _ => fun
  | [d1, d2] => { results := [.lit (.bool false)], args := [d1, d2] }
  | _ => none }
def PrefixAboveWrongFalsely : Prop := prefixAboveRow.holds Try.pinned (OpenSpec.ofChange prefixAboveWrong)

/-- 'quintetlaw02.PrefixHalved': WHATEVER THE INPUT: true; the input reads as it did. -/
def prefixHalvedSpec : ChangeSpec := { name := "prefixHalved", fn := fun _ => fun
  | [d1, d2] => { results := [.lit (.bool true)], args := [d1, d2] }
  | _ => none }
def prefixHalvedRow : OpenClaim := { program := "ythmekipdhlipbaa", sum := "a89ce6869eb385614d16068f0a88194e258ff981fa118c892abedd53e8ba5945", func := "quintet/quintetlaw02.PrefixHalved", spec := "prefixHalved", unfollowed := true, recurses := true, apart := false }
def PrefixHalvedSaid : Prop := prefixHalvedRow.holds Try.pinned (OpenSpec.ofChange prefixHalvedSpec)

/-- ITS FALSE NEIGHBOUR: 'it returns false'. Refute it at one input. -/
def prefixHalvedWrong : ChangeSpec := { name := "prefixHalved", fn := fun _ => fun
  | [d1, d2] => { results := [.lit (.bool false)], args := [d1, d2] }
  | _ => none }
def PrefixHalvedWrongFalsely : Prop := prefixHalvedRow.holds Try.pinned (OpenSpec.ofChange prefixHalvedWrong)

/-- 'quintetlaw03.SpanChecks': WHATEVER THE INPUT: true; the input reads as it did. -/
def spanChecksSpec : ChangeSpec := { name := "spanChecks", fn := fun _ => fun
  | [d1, d2] => { results := [.lit (.bool true)], args := [d1, d2] }
  | _ => none }
def spanChecksRow : OpenClaim := { program := "ythmekipdhlipbaa", sum := "a89ce6869eb385614d16068f0a88194e258ff981fa118c892abedd53e8ba5945", func := "quintet/quintetlaw03.SpanChecks", spec := "spanChecks", unfollowed := true, recurses := true, apart := false }
def SpanChecksSaid : Prop := spanChecksRow.holds Try.pinned (OpenSpec.ofChange spanChecksSpec)

/-- ITS FALSE NEIGHBOUR: 'it returns false'. Refute it at one input. -/
def spanChecksWrong : ChangeSpec := { name := "spanChecks", fn := fun _ => fun
  | [d1, d2] => { results := [.lit (.bool false)], args := [d1, d2] }
  | _ => none }
def SpanChecksWrongFalsely : Prop := spanChecksRow.holds Try.pinned (OpenSpec.ofChange spanChecksWrong)

/-- 'quintetlaw03.SpanMeets': WHATEVER THE INPUT: true; the input reads as it did. -/
def spanMeetsSpec : ChangeSpec := { name := "spanMeets", fn := fun _ => fun
  | [d1, d2] => { results := [.lit (.bool true)], args := [d1, d2] }
  | _ => none }
def spanMeetsRow : OpenClaim := { program := "ythmekipdhlipbaa", sum := "a89ce6869eb385614d16068f0a88194e258ff981fa118c892abedd53e8ba5945", func := "quintet/quintetlaw03.SpanMeets", spec := "spanMeets", unfollowed := true, recurses := true, apart := false }
def SpanMeetsSaid : Prop := spanMeetsRow.holds Try.pinned (OpenSpec.ofChange spanMeetsSpec)

/-- ITS FALSE NEIGHBOUR: 'it returns false'. Refute it at one input. -/
def spanMeetsWrong : ChangeSpec := { name := "spanMeets", fn := fun _ => fun
  | [d1, d2] => { results := [.lit (.bool false)], args := [d1, d2] }
  | _ => none }
def SpanMeetsWrongFalsely : Prop := spanMeetsRow.holds Try.pinned (OpenSpec.ofChange spanMeetsWrong)

/-- 'quintetlaw03.SpanLess': WHATEVER THE INPUT: true; the input reads as it did. -/
def spanLessSpec : ChangeSpec := { name := "spanLess", fn := fun _ => fun
  | [d1, d2] => { results := [.lit (.bool true)], args := [d1, d2] }
  | _ => none }
def spanLessRow : OpenClaim := { program := "ythmekipdhlipbaa", sum := "a89ce6869eb385614d16068f0a88194e258ff981fa118c892abedd53e8ba5945", func := "quintet/quintetlaw03.SpanLess", spec := "spanLess", unfollowed := true, recurses := true, apart := false }
def SpanLessSaid : Prop := spanLessRow.holds Try.pinned (OpenSpec.ofChange spanLessSpec)

/-- ITS FALSE NEIGHBOUR: 'it returns false'. Refute it at one input. -/
def spanLessWrong : ChangeSpec := { name := "spanLess", fn := fun _ => fun
  | [d1, d2] => { results := [.lit (.bool false)], args := [d1, d2] }
  | _ => none }
def SpanLessWrongFalsely : Prop := spanLessRow.holds Try.pinned (OpenSpec.ofChange spanLessWrong)

/-- 'quintetlaw03.SpanUnions': WHATEVER THE INPUT: true; the input reads as it did. -/
def spanUnionsSpec : ChangeSpec := { name := "spanUnions", fn := fun _ => fun
  | [d] => { results := [.lit (.bool true)], args := [d] }
  | _ => none }
def spanUnionsRow : OpenClaim := { program := "ythmekipdhlipbaa", sum := "a89ce6869eb385614d16068f0a88194e258ff981fa118c892abedd53e8ba5945", func := "quintet/quintetlaw03.SpanUnions", spec := "spanUnions", unfollowed := true, recurses := true, apart := false }
def SpanUnionsSaid : Prop := spanUnionsRow.holds Try.pinned (OpenSpec.ofChange spanUnionsSpec)

/-- ITS FALSE NEIGHBOUR: 'it returns false'. Refute it at one input. -/
def spanUnionsWrong : ChangeSpec := { name := "spanUnions", fn := fun _ => fun
  | [d] => { results := [.lit (.bool false)], args := [d] }
  | _ => none }
def SpanUnionsWrongFalsely : Prop := spanUnionsRow.holds Try.pinned (OpenSpec.ofChange spanUnionsWrong)

/- THE SECOND FORM. 'bulk': how many values and letters a reading holds, each counted each time it is reached (what is shared counts as often as it is met; a slice's spare places count too). A statement '..UptoSaid' is the law's where the arguments, and the package variables that the reading takes, are together of bulk at most 1048576: NARROWER than '..Said'. Prove '..Said' where nothing that the law and all that it calls make is longer than what came in: it says more and counts as full. Else prove '..UptoSaid'. A law counts once. -/
mutual
def uptoBulk {H : Type} : DataW H → Nat
  | .lit (.string bytes) => bytes.length + 1
  | .lit _ => 1
  | .nil => 1
  | .ptr d => uptoBulk d + 1
  | .slice elems spare => uptoBulkAll elems + uptoBulkAll spare + 1
  | .agg parts => uptoBulkAll parts + 1
  | .iface _ d => uptoBulk d + 1
  | .map entries => uptoBulkEntries entries + 1
  | .held _ => 1
def uptoBulkAll {H : Type} : List (DataW H) → Nat
  | [] => 0
  | d :: r => uptoBulk d + uptoBulkAll r
def uptoBulkEntries {H : Type} : List (Lit × DataW H) → Nat
  | [] => 0
  | x :: r => uptoBulkEntry x + uptoBulkEntries r
def uptoBulkEntry {H : Type} : Lit × DataW H → Nat
  | (.string bytes, d) => bytes.length + uptoBulk d + 1
  | (_, d) => uptoBulk d + 1
 end
def uptoSmall : (H : Type) → List (DataW H) → Bool := fun _ ds => decide (uptoBulkAll ds ≤ 1048576)
def OpenSpec.upto (s : _root_.Go.ChangeSpec) : _root_.Go.OpenSpec := { _root_.Go.OpenSpec.ofChange s with cond := some uptoSmall }

/-- 'quintetlaw02.PrefixAbove', WHERE WHAT IT READS IS OF BULK AT MOST 1048576: true; the input reads as it did. -/
def prefixAboveUptoRow : OpenClaim := { program := "ythmekipdhlipbaa", sum := "a89ce6869eb385614d16068f0a88194e258ff981fa118c892abedd53e8ba5945", func := "quintet/quintetlaw02.PrefixAbove", spec := "prefixAbove", unfollowed := true, recurses := true, apart := false, narrowed := true }
def PrefixAboveUptoSaid : Prop := prefixAboveUptoRow.holds Try.pinned (OpenSpec.upto prefixAboveSpec)

/-- 'quintetlaw02.PrefixHalved', WHERE WHAT IT READS IS OF BULK AT MOST 1048576: true; the input reads as it did. -/
def prefixHalvedUptoRow : OpenClaim := { program := "ythmekipdhlipbaa", sum := "a89ce6869eb385614d16068f0a88194e258ff981fa118c892abedd53e8ba5945", func := "quintet/quintetlaw02.PrefixHalved", spec := "prefixHalved", unfollowed := true, recurses := true, apart := false, narrowed := true }
def PrefixHalvedUptoSaid : Prop := prefixHalvedUptoRow.holds Try.pinned (OpenSpec.upto prefixHalvedSpec)

/-- 'quintetlaw03.SpanChecks', WHERE WHAT IT READS IS OF BULK AT MOST 1048576: true; the input reads as it did. -/
def spanChecksUptoRow : OpenClaim := { program := "ythmekipdhlipbaa", sum := "a89ce6869eb385614d16068f0a88194e258ff981fa118c892abedd53e8ba5945", func := "quintet/quintetlaw03.SpanChecks", spec := "spanChecks", unfollowed := true, recurses := true, apart := false, narrowed := true }
def SpanChecksUptoSaid : Prop := spanChecksUptoRow.holds Try.pinned (OpenSpec.upto spanChecksSpec)

/-- 'quintetlaw03.SpanMeets', WHERE WHAT IT READS IS OF BULK AT MOST 1048576: true; the input reads as it did. -/
def spanMeetsUptoRow : OpenClaim := { program := "ythmekipdhlipbaa", sum := "a89ce6869eb385614d16068f0a88194e258ff981fa118c892abedd53e8ba5945", func := "quintet/quintetlaw03.SpanMeets", spec := "spanMeets", unfollowed := true, recurses := true, apart := false, narrowed := true }
def SpanMeetsUptoSaid : Prop := spanMeetsUptoRow.holds Try.pinned (OpenSpec.upto spanMeetsSpec)

/-- 'quintetlaw03.SpanLess', WHERE WHAT IT READS IS OF BULK AT MOST 1048576: true; the input reads as it did. -/
def spanLessUptoRow : OpenClaim := { program := "ythmekipdhlipbaa", sum := "a89ce6869eb385614d16068f0a88194e258ff981fa118c892abedd53e8ba5945", func := "quintet/quintetlaw03.SpanLess", spec := "spanLess", unfollowed := true, recurses := true, apart := false, narrowed := true }
def SpanLessUptoSaid : Prop := spanLessUptoRow.holds Try.pinned (OpenSpec.upto spanLessSpec)

/-- 'quintetlaw03.SpanUnions', WHERE WHAT IT READS IS OF BULK AT MOST 1048576: true; the input reads as it did. -/
def spanUnionsUptoRow : OpenClaim := { program := "ythmekipdhlipbaa", sum := "a89ce6869eb385614d16068f0a88194e258ff981fa118c892abedd53e8ba5945", func := "quintet/quintetlaw03.SpanUnions", spec := "spanUnions", unfollowed := true, recurses := true, apart := false, narrowed := true }
def SpanUnionsUptoSaid : Prop := spanUnionsUptoRow.holds Try.pinned (OpenSpec.upto spanUnionsSpec)

end Rows
end Go.Proofs.Ythmekipdhlipbaa
